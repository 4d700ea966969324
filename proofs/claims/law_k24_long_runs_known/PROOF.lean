import PyProof.Rows.All
import Wide.All
import OpenK.AllK
import Wide.FinOn
import Lean
import PyProof.EqAt
import PyProof.EqKinds
import PyProof.TupleCall
import PyProof.NeKinds
import KE.KRevIter
import PyProof.AttrMissHeap
import PyProof.ZipIter
import PyProof.DictList
import KE.KItemsList
import KE.KDictOf
import PyProof.Rows.SetFrom
import PyProof.ConsumeWalk
import PyProof.EnumFor
import PyProof.EnumMake
import PyProof.EnumStmt
import PyProof.RaisesMany
import PyProof.Rows.Own
import PyProof.FString
import PyProof.PureStr
import PyProof.FactsAll.str_2
import PyProof.RulesTry
import PyProof.RulesAs
import PyProof.RulesDel
import PyProof.ExcArgsOwn
import PyProof.ExcAttrAll.ValueError
import KE.KIsAll
import OpenK.KOwn
import PyProof.ExcBaseAll.ValueError
import PyProof.Rows.StrInSeq3
import PyProof.Rows.SeqMore2
import KE.KIntText
import PyProof.Rows.StrSplitJoin
import PyProof.Rows.StrSplitAre
import PyProof.StrWalks
import PyProof.DictWalks
import PyProof.Rows.Range3
import PySem.Challenge.RW_forkplan_k24_long_runs_known
set_option maxHeartbeats 4000000
set_option Elab.async false
set_option linter.all false
set_option maxRecDepth 100000
set_option maxHeartbeats 0 in
theorem FP.saidW:PySem.Challenge.rw_forkplan_k24_long_runs_known.wellSaid=true:=by decide +kernel
namespace L2
open PySem
noncomputable def xB (s:Stmt):Arguments:=match s with
 | .FunctionDef _ a _ _ _ _ _ _ _ _=>a
 | _=>{ posonlyargs:=[],args:=[],vararg:=none,kwonlyargs:=[],kw_defaults:=[],kwarg:=none,defaults:=[] }
noncomputable def xA (s:Stmt):List Stmt:=match s with
 | .FunctionDef _ _ b _ _ _ _ _ _ _=>b
 | _=>[]
noncomputable def xW (s:Stmt):Scope:=match s with
 | .FunctionDef _ _ _ _ _ _ sc _ _ _=>sc
 | _=>{ kind:=.function,names:=[],isGenerator:=false,isCoroutine:=false }
end L2
namespace FP
open PySem
noncomputable def top (i:Nat):Stmt:=PySem.Challenge.pw_forkplan_k24_long_runs_known.main.body.getD i (.Pass ⟨0,0,0,0⟩)
noncomputable abbrev oF (x:String)(i:Nat)(m:String)(n c:Nat):Obj:=Obj.mk (.type "function") none (Data.func (PySem.W.fnOf (Str.ofString x) (Str.ofString x) (L2.xB (top i)) (L2.xA (top i)) (L2.xW (top i)) .none .none .none (.str (Str.ofString m) n) none (.ref c) .none)) #[]
noncomputable abbrev oG (x:String)(i:Nat):Obj:=Obj.mk .none none (Data.func { PySem.W.fnOf (Str.ofString x) (Str.ofString x) (L2.xB (top i)) (L2.xA (top i)) (L2.xW (top i)) .none .none .none .none none .none .none with globals:=0 }) #[]
noncomputable def mth (i j:Nat):Stmt:=match top i with | .ClassDef _ _ _ b _ _ _ _ _ _ _=>b.getD j (.Pass ⟨0,0,0,0⟩) | s=>s
noncomputable abbrev oM (x q:String)(i j:Nat)(m:String)(n c:Nat):Obj:=Obj.mk (.type "function") none (Data.func (PySem.W.fnOf (Str.ofString x) (Str.ofString q) (L2.xB (mth i j)) (L2.xA (mth i j)) (L2.xW (mth i j)) .none .none .none (.str (Str.ofString m) n) none (.ref c) .none)) #[]
noncomputable abbrev oW (x q:String)(i j:Nat):Obj:=Obj.mk .none none (Data.func { PySem.W.fnOf (Str.ofString x) (Str.ofString q) (L2.xB (mth i j)) (L2.xA (mth i j)) (L2.xW (mth i j)) .none .none .none .none none .none .none with globals:=0 }) #[]
noncomputable abbrev oE (P:Params)(k:String)(n:Nat)(v:Value):DictEntry:=DictEntry.mk (PyData.keyHash P (Str.ofString k)) (.str (Str.ofString k) n) v
noncomputable abbrev oS (x:String)(n:Nat):Value:=.str (Str.ofString x) n
noncomputable abbrev oR (n:Nat):Value:=.ref n
noncomputable abbrev oI (n:Int):Value:=.int n 0
noncomputable abbrev oN:Obj:=Obj.mk .none none (Data.fields #[]) #[]
noncomputable abbrev oT (x:Array Value):Obj:=Obj.mk (.type "tuple") none (Data.seq x 0) #[]
noncomputable abbrev oC (x:Array Value):Obj:=Obj.mk (.type "code") none (Data.fields x) #[]
open PySem.W
noncomputable def qWd (P:Params):List Obj:=[boot_o_0 P,
  boot_o_1 P,
  boot_o_2 P,
  (Obj.mk (.type "dict") none (Data.dict #[(oE P "__name__" 165 (oS "law_forkplan_k24_long_runs_known" 534)),(oE P "__doc__" 166 .none),(oE P "__package__" 167 .none),(oE P "__loader__" 168 (.builtin "__main__.__loader__#opaque")),(oE P "__spec__" 169 .none),(oE P "__annotations__" 170 (oR 6)),(oE P "__builtins__" 171 (oR 4)),(oE P "__file__" 173 (oS "/claim/cut.py" 172)),(oE P "__cached__" 174 .none),(oE P "ForkError" 206 (oR 24)),(oE P "NoName" 222 (oR 37)),(oE P "NoPlan" 238 (oR 49)),(oE P "worth" 249 (oR 58)),(oE P "holds" 258 (oR 65)),(oE P "values_by_name" 264 (oR 70)),(oE P "worth_by" 275 (oR 77)),(oE P "holds_by" 286 (oR 84)),(oE P "comes_of" 294 (oR 89)),(oE P "shown" 303 (oR 96)),(oE P "named" 313 (oR 103)),(oE P "behind_way" 319 (oR 108)),(oE P "is_whole" 326 (oR 115)),(oE P "plan_of" 337 (oR 122)),(oE P "run" 349 (oR 129)),(oE P "followers_of" 355 (oR 134)),(oE P "is_node_number" 363 (oR 141)),(oE P "refuse_followers" 372 (oR 148)),(oE P "refuse_forks" 379 (oR 155)),(oE P "refuse_name" 387 (oR 162)),(oE P "thing_named_at" 395 (oR 169)),(oE P "Course" 467 (oR 212)),(oE P "Player" 533 (oR 254)),(oE P "_law_cell" 543 (oR 265)),(oE P "_law_stir" 552 (oR 272)),(oE P "_law_state" 559 (oR 279)),(oE P "_law_take" 568 (oR 286)),(oE P "_law_counter" 574 (oR 291)),(oE P "_law_ticks" 580 (oR 296)),(oE P "law" 586 (oR 301))] 39) #[]),
  boot_o_4 P,
  boot_o_5 P,
  boot_o_6 P,
  boot_o_7 P,
  boot_o_8 P,
  boot_o_9 P,
  boot_o_10 P,
  oT #[],
  (Obj.mk .none none (Data.fields #[(oI 2),(oI 0),(oR 20),(oI 4),(oI 0),(oR 33),(oI 6),(oI 0),(oR 45),(oI 9),(oI 0),(oR 57),(oI 11),(oI 0),(oR 64),(oI 13),(oI 0),(oR 69),(oI 15),(oI 0),(oR 76),(oI 24),(oI 0),(oR 83),(oI 36),(oI 0),(oR 88),(oI 39),(oI 0),(oR 95),(oI 41),(oI 0),(oR 102),(oI 46),(oI 0),(oR 107),(oI 53),(oI 0),(oR 114),(oI 56),(oI 0),(oR 121),(oI 65),(oI 0),(oR 128),(oI 71),(oI 0),(oR 133),(oI 77),(oI 0),(oR 140),(oI 79),(oI 0),(oR 147),(oI 83),(oI 0),(oR 154),(oI 86),(oI 0),(oR 161),(oI 89),(oI 0),(oR 168),(oI 93),(oI 0),(oR 175),(oI 127),(oI 0),(oR 222),(oI 172),(oI 0),(oR 264),(oI 176),(oI 0),(oR 271),(oI 181),(oI 0),(oR 278),(oI 183),(oI 0),(oR 285),(oI 190),(oI 0),(oR 290),(oI 211),(oI 0),(oR 295),(oI 227),(oI 0),(oR 300)]) #[]),
  oC #[(oS "<module>" 182),(oS "<module>" 183),(oS "/claim/cut.py" 184),(oI 1),(oI 0),(oI 0),(oI 0),(oI 0),(oR 11),(.bool Bool.false),(oI 181),(oR 12),.none,.none,.none,.none,(oI 185),(oI 1),(oS "/claim/cut.py" 186)],
  (Obj.mk (.type "frame") none Data.plain #[(some (oR 13)),(some (oR 3)),(some (oR 3)),none,(some (oS "__main__" 164)),none,(some (oR 0))]),
  oT #[(.type "ValueError")],
  (Obj.mk (.type "builtin_function_or_method") none (Data.fields #[(.builtin "type.__prepare__"),(.type "type")]) #[]),
  (Obj.mk (.type "dict") none (Data.dict #[(oE P "__module__" 196 (oS "forkplan.errors" 187)),(oE P "__qualname__" 198 (oS "ForkError" 197)),(oE P "__firstlineno__" 200 (.int 2 199)),(oE P "__static_attributes__" 201 (oR 22))] 4) #[]),
  oT #[],
  oN,
  oC #[(oS "ForkError" 191),(oS "ForkError" 192),(oS "/claim/cut.py" 193),(oI 2),(oI 0),(oI 0),(oI 0),(oI 0),(oR 18),(.bool Bool.false),(oI 181),(oR 19),.none,.none,.none,.none,(oI 194),(oI 2),(oS "/claim/cut.py" 195)],
  (Obj.mk (.type "frame") none Data.plain #[(some (oR 20)),(some (oR 3)),(some (oR 17)),none,(some (oS "forkplan.errors" 187)),none,(some (oR 0))]),
  oT #[],
  (Obj.mk (.type "dict") none (Data.dict #[(oE P "__module__" 196 (oS "forkplan.errors" 187)),(oE P "__firstlineno__" 200 (.int 2 199)),(oE P "__static_attributes__" 201 (oR 22)),(oE P "__weakref__" 203 (oR 25)),(oE P "__doc__" 204 .none)] 3) #[]),
  (Obj.mk (.type "type") none (Data.cls (ClassData.mk (Str.ofString "ForkError") [(.type "ValueError")] [(oR 24),(.type "ValueError"),(.type "Exception"),(.type "BaseException"),(.type "object")] 23 (Str.ofString "ForkError") Bool.true [] [(oR 37),(oR 49)] Bool.false none Bool.false)) #[(some (oR 15)),none,(some (oS "ForkError" 189)),(some (oS "ForkError" 197)),(some (.builtin "ValueError.__new__")),(some (.bool Bool.true))]),
  (Obj.mk (.type "getset_descriptor") none (Data.fields #[(oS "__weakref__" 202),(oR 24),(.builtin "ExceptionGroup.__weakref__"),.none]) #[]),
  (Obj.mk (.type "super") none (Data.fields #[(oR 24),(oR 24),(oR 24)]) #[]),
  (Obj.mk (.type "builtin_function_or_method") none (Data.fields #[(.builtin "object.__init_subclass__"),(oR 24)]) #[]),
  oT #[(oR 24)],
  (Obj.mk (.type "builtin_function_or_method") none (Data.fields #[(.builtin "type.__prepare__"),(.type "type")]) #[]),
  (Obj.mk (.type "dict") none (Data.dict #[(oE P "__module__" 214 (oS "forkplan.errors" 187)),(oE P "__qualname__" 216 (oS "NoName" 215)),(oE P "__firstlineno__" 218 (.int 4 217)),(oE P "__static_attributes__" 219 (oR 35))] 4) #[]),
  oT #[],
  oN,
  oC #[(oS "NoName" 209),(oS "NoName" 210),(oS "/claim/cut.py" 211),(oI 4),(oI 0),(oI 0),(oI 0),(oI 0),(oR 31),(.bool Bool.false),(oI 181),(oR 32),.none,.none,.none,.none,(oI 212),(oI 4),(oS "/claim/cut.py" 213)],
  (Obj.mk (.type "frame") none Data.plain #[(some (oR 33)),(some (oR 3)),(some (oR 30)),none,(some (oS "forkplan.errors" 187)),none,(some (oR 0))]),
  oT #[],
  (Obj.mk (.type "dict") none (Data.dict #[(oE P "__module__" 214 (oS "forkplan.errors" 187)),(oE P "__firstlineno__" 218 (.int 4 217)),(oE P "__static_attributes__" 219 (oR 35)),(oE P "__doc__" 220 .none)] 2) #[]),
  (Obj.mk (.type "type") none (Data.cls (ClassData.mk (Str.ofString "NoName") [(oR 24)] [(oR 37),(oR 24),(.type "ValueError"),(.type "Exception"),(.type "BaseException"),(.type "object")] 36 (Str.ofString "NoName") Bool.true [] [] Bool.false none Bool.false)) #[(some (oR 28)),none,(some (oS "NoName" 207)),(some (oS "NoName" 215)),(some (.builtin "ValueError.__new__")),(some (.bool Bool.true))]),
  (Obj.mk (.type "super") none (Data.fields #[(oR 37),(oR 37),(oR 37)]) #[]),
  (Obj.mk (.type "builtin_function_or_method") none (Data.fields #[(.builtin "object.__init_subclass__"),(oR 37)]) #[]),
  oT #[(oR 24)],
  (Obj.mk (.type "builtin_function_or_method") none (Data.fields #[(.builtin "type.__prepare__"),(.type "type")]) #[]),
  (Obj.mk (.type "dict") none (Data.dict #[(oE P "__module__" 230 (oS "forkplan.errors" 187)),(oE P "__qualname__" 232 (oS "NoPlan" 231)),(oE P "__firstlineno__" 234 (.int 6 233)),(oE P "__static_attributes__" 235 (oR 47))] 4) #[]),
  oT #[],
  oN,
  oC #[(oS "NoPlan" 225),(oS "NoPlan" 226),(oS "/claim/cut.py" 227),(oI 6),(oI 0),(oI 0),(oI 0),(oI 0),(oR 43),(.bool Bool.false),(oI 181),(oR 44),.none,.none,.none,.none,(oI 228),(oI 6),(oS "/claim/cut.py" 229)],
  (Obj.mk (.type "frame") none Data.plain #[(some (oR 45)),(some (oR 3)),(some (oR 42)),none,(some (oS "forkplan.errors" 187)),none,(some (oR 0))]),
  oT #[],
  (Obj.mk (.type "dict") none (Data.dict #[(oE P "__module__" 230 (oS "forkplan.errors" 187)),(oE P "__firstlineno__" 234 (.int 6 233)),(oE P "__static_attributes__" 235 (oR 47)),(oE P "__doc__" 236 .none)] 2) #[]),
  (Obj.mk (.type "type") none (Data.cls (ClassData.mk (Str.ofString "NoPlan") [(oR 24)] [(oR 49),(oR 24),(.type "ValueError"),(.type "Exception"),(.type "BaseException"),(.type "object")] 48 (Str.ofString "NoPlan") Bool.true [] [] Bool.false none Bool.false)) #[(some (oR 40)),none,(some (oS "NoPlan" 223)),(some (oS "NoPlan" 231)),(some (.builtin "ValueError.__new__")),(some (.bool Bool.true))]),
  (Obj.mk (.type "super") none (Data.fields #[(oR 49),(oR 49),(oR 49)]) #[]),
  (Obj.mk (.type "builtin_function_or_method") none (Data.fields #[(.builtin "object.__init_subclass__"),(oR 49)]) #[]),
  oT #[],
  oN,
  oT #[(oS "expression" 244),(oS "boxes" 245),(oS "standing" 246)],
  oT #[],
  oG "worth" 5,
  oC #[(oS "worth" 241),(oS "worth" 242),(oS "/claim/cut.py" 243),(oI 9),(oI 3),(oI 0),(oI 0),(oI 3),(oR 52),(.bool Bool.true),(oI 181),(oR 53),.none,(oR 54),(oR 55),(oR 56),(oI 247),(oI 9),(oS "/claim/cut.py" 248)],
  oF "worth" 5 "forkplan.exprs" 239 57,
  oT #[],
  oN,
  oT #[(oS "condition" 253),(oS "boxes" 254),(oS "standing" 255)],
  oT #[],
  oG "holds" 6,
  oC #[(oS "holds" 250),(oS "holds" 251),(oS "/claim/cut.py" 252),(oI 11),(oI 3),(oI 0),(oI 0),(oI 3),(oR 59),(.bool Bool.true),(oI 181),(oR 60),.none,(oR 61),(oR 62),(oR 63),(oI 256),(oI 11),(oS "/claim/cut.py" 257)],
  oF "holds" 6 "forkplan.exprs" 239 64,
  oT #[],
  oN,
  oG "values_by_name" 7,
  oC #[(oS "values_by_name" 259),(oS "values_by_name" 260),(oS "/claim/cut.py" 261),(oI 13),(oI 2),(oI 0),(oI 0),(oI 3),(oR 66),(.bool Bool.true),(oI 181),(oR 67),.none,.none,.none,(oR 68),(oI 262),(oI 13),(oS "/claim/cut.py" 263)],
  oF "values_by_name" 7 "forkplan.exprs" 239 69,
  oT #[],
  oN,
  oT #[(oS "expression" 268),(oS "values" 269),(oS "kind" 270),(oS "one" 271),(oS "other" 272)],
  oT #[],
  oG "worth_by" 8,
  oC #[(oS "worth_by" 265),(oS "worth_by" 266),(oS "/claim/cut.py" 267),(oI 15),(oI 2),(oI 0),(oI 0),(oI 3),(oR 71),(.bool Bool.true),(oI 181),(oR 72),.none,(oR 73),(oR 74),(oR 75),(oI 273),(oI 15),(oS "/claim/cut.py" 274)],
  oF "worth_by" 8 "forkplan.exprs" 239 76,
  oT #[],
  oN,
  oT #[(oS "condition" 279),(oS "values" 280),(oS "kind" 281),(oS "one" 282),(oS "other" 283)],
  oT #[],
  oG "holds_by" 9,
  oC #[(oS "holds_by" 276),(oS "holds_by" 277),(oS "/claim/cut.py" 278),(oI 24),(oI 2),(oI 0),(oI 0),(oI 3),(oR 78),(.bool Bool.true),(oI 181),(oR 79),.none,(oR 80),(oR 81),(oR 82),(oI 284),(oI 24),(oS "/claim/cut.py" 285)],
  oF "holds_by" 9 "forkplan.exprs" 239 83,
  oT #[],
  oN,
  oG "comes_of" 11,
  oC #[(oS "comes_of" 289),(oS "comes_of" 290),(oS "/claim/cut.py" 291),(oI 36),(oI 3),(oI 0),(oI 0),(oI 3),(oR 85),(.bool Bool.true),(oI 181),(oR 86),.none,.none,.none,(oR 87),(oI 292),(oI 36),(oS "/claim/cut.py" 293)],
  oF "comes_of" 11 "forkplan.worlds" 287 88,
  oT #[],
  oN,
  oT #[(oS "world" 298),(oS "name" 299),(oS "standing" 300)],
  oT #[],
  oG "shown" 12,
  oC #[(oS "shown" 295),(oS "shown" 296),(oS "/claim/cut.py" 297),(oI 39),(oI 3),(oI 0),(oI 0),(oI 3),(oR 90),(.bool Bool.true),(oI 181),(oR 91),.none,(oR 92),(oR 93),(oR 94),(oI 301),(oI 39),(oS "/claim/cut.py" 302)],
  oF "shown" 12 "forkplan.worlds" 287 95,
  oT #[],
  oN,
  oT #[(oS "things" 307),(oS "name" 308),(oS "kind" 309),(oS "thing" 310)],
  oT #[],
  oG "named" 13,
  oC #[(oS "named" 304),(oS "named" 305),(oS "/claim/cut.py" 306),(oI 41),(oI 3),(oI 0),(oI 0),(oI 3),(oR 97),(.bool Bool.true),(oI 181),(oR 98),.none,(oR 99),(oR 100),(oR 101),(oI 311),(oI 41),(oS "/claim/cut.py" 312)],
  oF "named" 13 "forkplan.worlds" 287 102,
  oT #[],
  oN,
  oG "behind_way" 14,
  oC #[(oS "behind_way" 314),(oS "behind_way" 315),(oS "/claim/cut.py" 316),(oI 46),(oI 3),(oI 0),(oI 0),(oI 3),(oR 104),(.bool Bool.true),(oI 181),(oR 105),.none,.none,.none,(oR 106),(oI 317),(oI 46),(oS "/claim/cut.py" 318)],
  oF "behind_way" 14 "forkplan.worlds" 287 107,
  oT #[],
  oN,
  oT #[(oS "thing" 323)],
  oT #[],
  oG "is_whole" 15,
  oC #[(oS "is_whole" 320),(oS "is_whole" 321),(oS "/claim/cut.py" 322),(oI 53),(oI 1),(oI 0),(oI 0),(oI 3),(oR 109),(.bool Bool.true),(oI 181),(oR 110),.none,(oR 111),(oR 112),(oR 113),(oI 324),(oI 53),(oS "/claim/cut.py" 325)],
  oF "is_whole" 15 "forkplan.worlds" 287 114,
  oT #[],
  oN,
  oT #[(oS "world" 332),(oS "nodes" 333),(oS "node" 334)],
  oT #[],
  oG "plan_of" 17,
  oC #[(oS "plan_of" 329),(oS "plan_of" 330),(oS "/claim/cut.py" 331),(oI 56),(oI 2),(oI 0),(oI 0),(oI 3),(oR 116),(.bool Bool.true),(oI 181),(oR 117),.none,(oR 118),(oR 119),(oR 120),(oI 335),(oI 56),(oS "/claim/cut.py" 336)],
  oF "plan_of" 17 "forkplan.plans" 327 121,
  oT #[],
  oN,
  oT #[(oS "world" 341),(oS "plan" 342),(oS "standing" 343),(oS "choices" 344),(oS "player" 345),(oS "end" 346)],
  oT #[],
  oG "run" 18,
  oC #[(oS "run" 338),(oS "run" 339),(oS "/claim/cut.py" 340),(oI 65),(oI 4),(oI 0),(oI 0),(oI 3),(oR 123),(.bool Bool.true),(oI 181),(oR 124),.none,(oR 125),(oR 126),(oR 127),(oI 347),(oI 65),(oS "/claim/cut.py" 348)],
  oF "run" 18 "forkplan.plans" 327 128,
  oT #[],
  oN,
  oG "followers_of" 19,
  oC #[(oS "followers_of" 350),(oS "followers_of" 351),(oS "/claim/cut.py" 352),(oI 71),(oI 1),(oI 0),(oI 0),(oI 3),(oR 130),(.bool Bool.true),(oI 181),(oR 131),.none,.none,.none,(oR 132),(oI 353),(oI 71),(oS "/claim/cut.py" 354)],
  oF "followers_of" 19 "forkplan.plans" 327 133,
  oT #[],
  oN,
  oT #[(oS "number" 359),(oS "size" 360)],
  oT #[],
  oG "is_node_number" 20,
  oC #[(oS "is_node_number" 356),(oS "is_node_number" 357),(oS "/claim/cut.py" 358),(oI 77),(oI 2),(oI 0),(oI 0),(oI 3),(oR 135),(.bool Bool.true),(oI 181),(oR 136),.none,(oR 137),(oR 138),(oR 139),(oI 361),(oI 77),(oS "/claim/cut.py" 362)],
  oF "is_node_number" 20 "forkplan.plans" 327 140,
  oT #[],
  oN,
  oT #[(oS "node" 367),(oS "size" 368),(oS "follower" 369)],
  oT #[],
  oG "refuse_followers" 21,
  oC #[(oS "refuse_followers" 364),(oS "refuse_followers" 365),(oS "/claim/cut.py" 366),(oI 79),(oI 2),(oI 0),(oI 0),(oI 3),(oR 142),(.bool Bool.true),(oI 181),(oR 143),.none,(oR 144),(oR 145),(oR 146),(oI 370),(oI 79),(oS "/claim/cut.py" 371)],
  oF "refuse_followers" 21 "forkplan.plans" 327 147,
  oT #[],
  oN,
  oT #[(oS "node" 376)],
  oT #[],
  oG "refuse_forks" 22,
  oC #[(oS "refuse_forks" 373),(oS "refuse_forks" 374),(oS "/claim/cut.py" 375),(oI 83),(oI 1),(oI 0),(oI 0),(oI 3),(oR 149),(.bool Bool.true),(oI 181),(oR 150),.none,(oR 151),(oR 152),(oR 153),(oI 377),(oI 83),(oS "/claim/cut.py" 378)],
  oF "refuse_forks" 22 "forkplan.plans" 327 154,
  oT #[],
  oN,
  oT #[(oS "world" 383),(oS "node" 384)],
  oT #[],
  oG "refuse_name" 23,
  oC #[(oS "refuse_name" 380),(oS "refuse_name" 381),(oS "/claim/cut.py" 382),(oI 86),(oI 2),(oI 0),(oI 0),(oI 3),(oR 156),(.bool Bool.true),(oI 181),(oR 157),.none,(oR 158),(oR 159),(oR 160),(oI 385),(oI 86),(oS "/claim/cut.py" 386)],
  oF "refuse_name" 23 "forkplan.plans" 327 161,
  oT #[],
  oN,
  oT #[(oS "world" 391),(oS "node" 392)],
  oT #[],
  oG "thing_named_at" 24,
  oC #[(oS "thing_named_at" 388),(oS "thing_named_at" 389),(oS "/claim/cut.py" 390),(oI 89),(oI 2),(oI 0),(oI 0),(oI 3),(oR 163),(.bool Bool.true),(oI 181),(oR 164),.none,(oR 165),(oR 166),(oR 167),(oI 393),(oI 89),(oS "/claim/cut.py" 394)],
  oF "thing_named_at" 24 "forkplan.plans" 327 168,
  oT #[],
  (Obj.mk (.type "builtin_function_or_method") none (Data.fields #[(.builtin "type.__prepare__"),(.type "type")]) #[]),
  (Obj.mk (.type "dict") none (Data.dict #[(oE P "__module__" 403 (oS "forkplan.plans" 327)),(oE P "__qualname__" 405 (oS "Course" 404)),(oE P "__firstlineno__" 407 (.int 93 406)),(oE P "__init__" 413 (oR 181)),(oE P "goal_holds" 421 (oR 188)),(oE P "need_holds" 432 (oR 195)),(oE P "comes" 442 (oR 202)),(oE P "shows" 452 (oR 209)),(oE P "__static_attributes__" 460 (oR 210))] 9) #[]),
  oT #[],
  (Obj.mk .none none (Data.fields #[(oI 95),(oI 4),(oR 180),(oI 104),(oI 4),(oR 187),(oI 109),(oI 4),(oR 194),(oI 116),(oI 4),(oR 201),(oI 122),(oI 4),(oR 208)]) #[]),
  oC #[(oS "Course" 398),(oS "Course" 399),(oS "/claim/cut.py" 400),(oI 93),(oI 0),(oI 0),(oI 0),(oI 0),(oR 173),(.bool Bool.false),(oI 181),(oR 174),.none,.none,.none,.none,(oI 401),(oI 93),(oS "/claim/cut.py" 402)],
  (Obj.mk (.type "frame") none Data.plain #[(some (oR 175)),(some (oR 3)),(some (oR 172)),none,(some (oS "forkplan.plans" 327)),none,(some (oR 0))]),
  oT #[],
  oN,
  oW "__init__" "Course.__init__" 25 0,
  oC #[(oS "__init__" 408),(oS "Course.__init__" 409),(oS "/claim/cut.py" 410),(oI 95),(oI 3),(oI 0),(oI 0),(oI 3),(oR 177),(.bool Bool.true),(oI 181),(oR 178),.none,.none,.none,(oR 179),(oI 411),(oI 95),(oS "/claim/cut.py" 412)],
  oM "__init__" "Course.__init__" 25 0 "forkplan.plans" 327 180,
  oT #[],
  oN,
  oT #[(oS "self" 417),(oS "standing" 418)],
  oT #[],
  oW "goal_holds" "Course.goal_holds" 25 1,
  oC #[(oS "goal_holds" 414),(oS "Course.goal_holds" 415),(oS "/claim/cut.py" 416),(oI 104),(oI 2),(oI 0),(oI 0),(oI 3),(oR 182),(.bool Bool.true),(oI 181),(oR 183),.none,(oR 184),(oR 185),(oR 186),(oI 419),(oI 104),(oS "/claim/cut.py" 420)],
  oM "goal_holds" "Course.goal_holds" 25 1 "forkplan.plans" 327 187,
  oT #[],
  oN,
  oT #[(oS "self" 425),(oS "name" 426),(oS "standing" 427),(oS "key" 428),(oS "need" 429)],
  oT #[],
  oW "need_holds" "Course.need_holds" 25 2,
  oC #[(oS "need_holds" 422),(oS "Course.need_holds" 423),(oS "/claim/cut.py" 424),(oI 109),(oI 3),(oI 0),(oI 0),(oI 3),(oR 189),(.bool Bool.true),(oI 181),(oR 190),.none,(oR 191),(oR 192),(oR 193),(oI 430),(oI 109),(oS "/claim/cut.py" 431)],
  oM "need_holds" "Course.need_holds" 25 2 "forkplan.plans" 327 194,
  oT #[],
  oN,
  oT #[(oS "self" 436),(oS "name" 437),(oS "standing" 438),(oS "key" 439)],
  oT #[],
  oW "comes" "Course.comes" 25 3,
  oC #[(oS "comes" 433),(oS "Course.comes" 434),(oS "/claim/cut.py" 435),(oI 116),(oI 3),(oI 0),(oI 0),(oI 3),(oR 196),(.bool Bool.true),(oI 181),(oR 197),.none,(oR 198),(oR 199),(oR 200),(oI 440),(oI 116),(oS "/claim/cut.py" 441)],
  oM "comes" "Course.comes" 25 3 "forkplan.plans" 327 201,
  oT #[],
  oN,
  oT #[(oS "self" 446),(oS "name" 447),(oS "standing" 448),(oS "key" 449)],
  oT #[],
  oW "shows" "Course.shows" 25 4,
  oC #[(oS "shows" 443),(oS "Course.shows" 444),(oS "/claim/cut.py" 445),(oI 122),(oI 3),(oI 0),(oI 0),(oI 3),(oR 203),(.bool Bool.true),(oI 181),(oR 204),.none,(oR 205),(oR 206),(oR 207),(oI 450),(oI 122),(oS "/claim/cut.py" 451)],
  oM "shows" "Course.shows" 25 4 "forkplan.plans" 327 208,
  oT #[(oS "comings" 453),(oS "forks" 454),(oS "goals" 455),(oS "needs" 456),(oS "nodes" 457),(oS "showings" 458),(oS "world" 459)],
  (Obj.mk (.type "dict") none (Data.dict #[(oE P "__module__" 403 (oS "forkplan.plans" 327)),(oE P "__firstlineno__" 407 (.int 93 406)),(oE P "__init__" 413 (oR 181)),(oE P "goal_holds" 421 (oR 188)),(oE P "need_holds" 432 (oR 195)),(oE P "comes" 442 (oR 202)),(oE P "shows" 452 (oR 209)),(oE P "__static_attributes__" 460 (oR 210)),(oE P "__dict__" 462 (oR 213)),(oE P "__weakref__" 464 (oR 214)),(oE P "__doc__" 465 .none)] 4) #[]),
  (Obj.mk (.type "type") none (Data.cls (ClassData.mk (Str.ofString "Course") [(.type "object")] [(oR 212),(.type "object")] 211 (Str.ofString "Course") Bool.true [] [] Bool.false none Bool.false)) #[none,none,(some (oS "Course" 396)),(some (oS "Course" 404)),(some (.builtin "object.__new__")),(some (.bool Bool.true))]),
  (Obj.mk (.type "getset_descriptor") none (Data.fields #[(oS "__dict__" 461),(oR 212),(.builtin "function.__dict__"),(.builtin "function.__dict__#set")]) #[]),
  (Obj.mk (.type "getset_descriptor") none (Data.fields #[(oS "__weakref__" 463),(oR 212),(.builtin "ExceptionGroup.__weakref__"),.none]) #[]),
  (Obj.mk (.type "super") none (Data.fields #[(oR 212),(oR 212),(oR 212)]) #[]),
  (Obj.mk (.type "builtin_function_or_method") none (Data.fields #[(.builtin "object.__init_subclass__"),(oR 212)]) #[]),
  oT #[],
  (Obj.mk (.type "builtin_function_or_method") none (Data.fields #[(.builtin "type.__prepare__"),(.type "type")]) #[]),
  (Obj.mk (.type "dict") none (Data.dict #[(oE P "__module__" 475 (oS "forkplan.plans" 327)),(oE P "__qualname__" 477 (oS "Player" 476)),(oE P "__firstlineno__" 479 (.int 127 478)),(oE P "__init__" 489 (oR 230)),(oE P "go_on" 497 (oR 237)),(oE P "do_deed" 508 (oR 244)),(oE P "do_look" 518 (oR 251)),(oE P "__static_attributes__" 526 (oR 252))] 8) #[]),
  oT #[],
  (Obj.mk .none none (Data.fields #[(oI 129),(oI 4),(oR 229),(oI 138),(oI 4),(oR 236),(oI 146),(oI 4),(oR 243),(oI 160),(oI 4),(oR 250)]) #[]),
  oC #[(oS "Player" 470),(oS "Player" 471),(oS "/claim/cut.py" 472),(oI 127),(oI 0),(oI 0),(oI 0),(oI 0),(oR 220),(.bool Bool.false),(oI 181),(oR 221),.none,.none,.none,.none,(oI 473),(oI 127),(oS "/claim/cut.py" 474)],
  (Obj.mk (.type "frame") none Data.plain #[(some (oR 222)),(some (oR 3)),(some (oR 219)),none,(some (oS "forkplan.plans" 327)),none,(some (oR 0))]),
  oT #[],
  oN,
  oT #[(oS "self" 483),(oS "course" 484),(oS "standing" 485),(oS "choices" 486)],
  oT #[],
  oW "__init__" "Player.__init__" 26 0,
  oC #[(oS "__init__" 480),(oS "Player.__init__" 481),(oS "/claim/cut.py" 482),(oI 129),(oI 4),(oI 0),(oI 0),(oI 3),(oR 224),(.bool Bool.true),(oI 181),(oR 225),.none,(oR 226),(oR 227),(oR 228),(oI 487),(oI 129),(oS "/claim/cut.py" 488)],
  oM "__init__" "Player.__init__" 26 0 "forkplan.plans" 327 229,
  oT #[],
  oN,
  oT #[(oS "self" 493),(oS "node" 494)],
  oT #[],
  oW "go_on" "Player.go_on" 26 1,
  oC #[(oS "go_on" 490),(oS "Player.go_on" 491),(oS "/claim/cut.py" 492),(oI 138),(oI 1),(oI 0),(oI 0),(oI 3),(oR 231),(.bool Bool.true),(oI 181),(oR 232),.none,(oR 233),(oR 234),(oR 235),(oI 495),(oI 138),(oS "/claim/cut.py" 496)],
  oM "go_on" "Player.go_on" 26 1 "forkplan.plans" 327 236,
  oT #[],
  oN,
  oT #[(oS "self" 501),(oS "name" 502),(oS "follower" 503),(oS "coming" 504),(oS "way" 505)],
  oT #[],
  oW "do_deed" "Player.do_deed" 26 2,
  oC #[(oS "do_deed" 498),(oS "Player.do_deed" 499),(oS "/claim/cut.py" 500),(oI 146),(oI 3),(oI 0),(oI 0),(oI 3),(oR 238),(.bool Bool.true),(oI 181),(oR 239),.none,(oR 240),(oR 241),(oR 242),(oI 506),(oI 146),(oS "/claim/cut.py" 507)],
  oM "do_deed" "Player.do_deed" 26 2 "forkplan.plans" 327 243,
  oT #[],
  oN,
  oT #[(oS "self" 512),(oS "name" 513),(oS "worth" 514),(oS "forks" 515)],
  oT #[],
  oW "do_look" "Player.do_look" 26 3,
  oC #[(oS "do_look" 509),(oS "Player.do_look" 510),(oS "/claim/cut.py" 511),(oI 160),(oI 2),(oI 0),(oI 0),(oI 3),(oR 245),(.bool Bool.true),(oI 181),(oR 246),.none,(oR 247),(oR 248),(oR 249),(oI 516),(oI 160),(oS "/claim/cut.py" 517)],
  oM "do_look" "Player.do_look" 26 3 "forkplan.plans" 327 250,
  oT #[(oS "choices" 519),(oS "course" 520),(oS "deeds_done" 521),(oS "looked" 522),(oS "number" 523),(oS "standing" 524),(oS "steps" 525)],
  (Obj.mk (.type "dict") none (Data.dict #[(oE P "__module__" 475 (oS "forkplan.plans" 327)),(oE P "__firstlineno__" 479 (.int 127 478)),(oE P "__init__" 489 (oR 230)),(oE P "go_on" 497 (oR 237)),(oE P "do_deed" 508 (oR 244)),(oE P "do_look" 518 (oR 251)),(oE P "__static_attributes__" 526 (oR 252)),(oE P "__dict__" 528 (oR 255)),(oE P "__weakref__" 530 (oR 256)),(oE P "__doc__" 531 .none)] 4) #[]),
  (Obj.mk (.type "type") none (Data.cls (ClassData.mk (Str.ofString "Player") [(.type "object")] [(oR 254),(.type "object")] 253 (Str.ofString "Player") Bool.true [] [] Bool.false none Bool.false)) #[none,none,(some (oS "Player" 468)),(some (oS "Player" 476)),(some (.builtin "object.__new__")),(some (.bool Bool.true))]),
  (Obj.mk (.type "getset_descriptor") none (Data.fields #[(oS "__dict__" 527),(oR 254),(.builtin "function.__dict__"),(.builtin "function.__dict__#set")]) #[]),
  (Obj.mk (.type "getset_descriptor") none (Data.fields #[(oS "__weakref__" 529),(oR 254),(.builtin "ExceptionGroup.__weakref__"),.none]) #[]),
  (Obj.mk (.type "super") none (Data.fields #[(oR 254),(oR 254),(oR 254)]) #[]),
  (Obj.mk (.type "builtin_function_or_method") none (Data.fields #[(.builtin "object.__init_subclass__"),(oR 254)]) #[]),
  oT #[],
  oN,
  oT #[(oS "script" 539),(oS "k" 540)],
  oT #[],
  oG "_law_cell" 28,
  oC #[(oS "_law_cell" 536),(oS "_law_cell" 537),(oS "/claim/cut.py" 538),(oI 172),(oI 2),(oI 0),(oI 0),(oI 3),(oR 259),(.bool Bool.true),(oI 181),(oR 260),.none,(oR 261),(oR 262),(oR 263),(oI 541),(oI 172),(oS "/claim/cut.py" 542)],
  oF "_law_cell" 28 "law_forkplan_k24_long_runs_known" 534 264,
  oT #[],
  oN,
  oT #[(oS "cell" 547),(oS "k" 548),(oS "number" 549)],
  oT #[],
  oG "_law_stir" 29,
  oC #[(oS "_law_stir" 544),(oS "_law_stir" 545),(oS "/claim/cut.py" 546),(oI 176),(oI 2),(oI 0),(oI 0),(oI 3),(oR 266),(.bool Bool.true),(oI 181),(oR 267),.none,(oR 268),(oR 269),(oR 270),(oI 550),(oI 176),(oS "/claim/cut.py" 551)],
  oF "_law_stir" 29 "law_forkplan_k24_long_runs_known" 534 271,
  oT #[],
  oN,
  oT #[(oS "cell" 556)],
  oT #[],
  oG "_law_state" 30,
  oC #[(oS "_law_state" 553),(oS "_law_state" 554),(oS "/claim/cut.py" 555),(oI 181),(oI 1),(oI 0),(oI 0),(oI 3),(oR 273),(.bool Bool.true),(oI 181),(oR 274),.none,(oR 275),(oR 276),(oR 277),(oI 557),(oI 181),(oS "/claim/cut.py" 558)],
  oF "_law_state" 30 "law_forkplan_k24_long_runs_known" 534 278,
  oT #[],
  oN,
  oT #[(oS "state" 563),(oS "many" 564),(oS "found" 565)],
  oT #[],
  oG "_law_take" 31,
  oC #[(oS "_law_take" 560),(oS "_law_take" 561),(oS "/claim/cut.py" 562),(oI 183),(oI 2),(oI 0),(oI 0),(oI 3),(oR 280),(.bool Bool.true),(oI 181),(oR 281),.none,(oR 282),(oR 283),(oR 284),(oI 566),(oI 183),(oS "/claim/cut.py" 567)],
  oF "_law_take" 31 "law_forkplan_k24_long_runs_known" 534 285,
  oT #[],
  oN,
  oG "_law_counter" 32,
  oC #[(oS "_law_counter" 569),(oS "_law_counter" 570),(oS "/claim/cut.py" 571),(oI 190),(oI 2),(oI 0),(oI 0),(oI 3),(oR 287),(.bool Bool.true),(oI 181),(oR 288),.none,.none,.none,(oR 289),(oI 572),(oI 190),(oS "/claim/cut.py" 573)],
  oF "_law_counter" 32 "law_forkplan_k24_long_runs_known" 534 290,
  oT #[],
  oN,
  oG "_law_ticks" 33,
  oC #[(oS "_law_ticks" 575),(oS "_law_ticks" 576),(oS "/claim/cut.py" 577),(oI 211),(oI 1),(oI 0),(oI 0),(oI 3),(oR 292),(.bool Bool.true),(oI 181),(oR 293),.none,.none,.none,(oR 294),(oI 578),(oI 211),(oS "/claim/cut.py" 579)],
  oF "_law_ticks" 33 "law_forkplan_k24_long_runs_known" 534 295,
  oT #[],
  oN,
  oG "law" 34,
  oC #[(oS "law" 581),(oS "law" 582),(oS "/claim/cut.py" 583),(oI 227),(oI 1),(oI 0),(oI 0),(oI 3),(oR 297),(.bool Bool.true),(oI 181),(oR 298),.none,.none,.none,(oR 299),(oI 584),(oI 227),(oS "/claim/cut.py" 585)],
  oF "law" 34 "law_forkplan_k24_long_runs_known" 534 300]
noncomputable def qWc (P:Params):List Obj:=[boot_o_0 P,boot_o_1 P,boot_o_2 P,boot_o_3 P,boot_o_4 P,boot_o_5 P,boot_o_6 P,boot_o_7 P,boot_o_8 P,boot_o_9 P,boot_o_10 P,oT #[],oN,oC #[(oS "<module>" 182),(oS "<module>" 183),(oS "/claim/cut.py" 184),(oI 1),(oI 0),(oI 0),(oI 0),(oI 0),(oR 11),(.bool Bool.false),(oI 181),(oR 12),.none,.none,.none,.none,(oI 185),(oI 1),(oS "/claim/cut.py" 186)],(Obj.mk (.type "frame") none Data.plain #[(some (oR 13)),(some (oR 3)),(some (oR 3)),none,(some (oS "__main__" 164)),none,(some (oR 0))])]
noncomputable def vM (os:List Obj):Nat→Nat→Nat→BT
 | 0,_,_=>.nil
 | f+1,a,b=>match os[b]? with
  | some o=>.node o (vM os f (2 * a) (a+b)) (vM os f (2 * a) (2 * a+b))
  | none=>.nil
noncomputable def qQn:Life:=(Life.mk [] [] [] 0 [] [] Bool.false #[] [] 0 Bool.false Bool.false Bool.false 0 [2000,10,10] Bool.false 0 Bool.true [] [] 0 Bool.false)
noncomputable def topEnv:Env:={ scope:=PySem.Challenge.pw_forkplan_k24_long_runs_known.main.scope,locals:=mainNs,globals:=mainNs,cells:=[],code:=(Value.ref 13),frame:=some 14 }
noncomputable def vN:List Stmt:=behindTheImports PySem.Challenge.pw_forkplan_k24_long_runs_known
noncomputable def yT:Code:=.body vN topEnv
noncomputable def topA (w:World)(os:OsState):Shared:=⟨⟨⟨qWc w.params⟩,qQn⟩,⟨[]⟩,(Drawn.mk 0 0 0 0),187,os⟩
noncomputable def topB (w:World)(os:OsState):SharedT:=⟨vM (qWc w.params) 12 1 0,15,qQn,⟨[]⟩,(Drawn.mk 0 0 0 0),187,os⟩
noncomputable def topZ (w:World)(os:OsState):SharedT:=⟨vM (qWd w.params) 12 1 0,302,qQn,⟨[]⟩,(Drawn.mk 0 0 0 0),587,os⟩
theorem topPre (w:World)(os:OsState):topGo treeTable PySem.Challenge.pw_forkplan_k24_long_runs_known w 11 (some (Value.ref 6)) 12 ⟨boot_heap w.params,⟨[]⟩,boot_drawn,boot_toks,os⟩ (topStub PySem.Challenge.pw_forkplan_k24_long_runs_known)=some (topA w os,⟨denote treeTable yT,yT,(Pos.mk 0 0 0 0),[topFrame (Pos.mk 0 0 0 0)]⟩):=by kernel_rfl
theorem qEe (w:World)(os:OsState):segRun treeTable PySem.Challenge.pw_forkplan_k24_long_runs_known w 11 (some (Value.ref 6)) 1 1 (topA w os) (blockOf vN topEnv yT (Pos.mk 0 0 0 0) [topFrame (Pos.mk 0 0 0 0)])=some (.next,(topB w os).abs,yT,(Pos.mk 0 0 0 0)):=by kernel_rfl
theorem topSeg (w:World)(os:OsState):segRunT treeTable PySem.Challenge.pw_forkplan_k24_long_runs_known w 11 (some (Value.ref 6)) 1 2086 (topB w os) (piecesOf vN topEnv yT (Pos.mk 0 0 0 0) [topFrame (Pos.mk 0 0 0 0)])=some (.next,topZ w os,yT,(Pos.mk 227 0 245 64)):=by kernel_rfl
theorem topFin (w:World)(os:OsState):topRun treeTable PySem.Challenge.pw_forkplan_k24_long_runs_known w 11 (some (Value.ref 6)) 2 (topZ w os).abs ⟨doneF .next,yT,(Pos.mk 227 0 245 64),[topFrame (Pos.mk 0 0 0 0)]⟩=some (topZ w os).abs:=by kernel_rfl
noncomputable def qJd (P:Params):PySem.W.Frag:=
 (nat_lit 2,(Obj.mk .none none (Data.dict #[] 0) #[]))::
 (nat_lit 3,(Obj.mk (.type "dict") none (Data.dict #[(oE P "__name__" 165 (.str (Str.ofString "law_forkplan_k24_long_runs_known") 534)),(oE P "__doc__" 166 .none),(oE P "__package__" 167 .none),(oE P "__loader__" 168 (.builtin "__main__.__loader__#opaque")),(oE P "__spec__" 169 .none),(oE P "__annotations__" 170 (.ref 6)),(oE P "__builtins__" 171 (.ref 4)),(oE P "__file__" 173 (.str (Str.ofString "/claim/cut.py") 172)),(oE P "__cached__" 174 .none),(oE P "ForkError" 206 (.ref 24)),(oE P "NoName" 222 (.ref 37)),(oE P "NoPlan" 238 (.ref 49)),(oE P "worth" 249 (.ref 58)),(oE P "holds" 258 (.ref 65)),(oE P "values_by_name" 264 (.ref 70)),(oE P "worth_by" 275 (.ref 77)),(oE P "holds_by" 286 (.ref 84)),(oE P "comes_of" 294 (.ref 89)),(oE P "shown" 303 (.ref 96)),(oE P "named" 313 (.ref 103)),(oE P "behind_way" 319 (.ref 108)),(oE P "is_whole" 326 (.ref 115)),(oE P "plan_of" 337 (.ref 122)),(oE P "run" 349 (.ref 129)),(oE P "followers_of" 355 (.ref 134)),(oE P "is_node_number" 363 (.ref 141)),(oE P "refuse_followers" 372 (.ref 148)),(oE P "refuse_forks" 379 (.ref 155)),(oE P "refuse_name" 387 (.ref 162)),(oE P "thing_named_at" 395 (.ref 169)),(oE P "Course" 467 (.ref 212)),(oE P "Player" 533 (.ref 254)),(oE P "_law_cell" 543 (.ref 265)),(oE P "_law_stir" 552 (.ref 272)),(oE P "_law_state" 559 (.ref 279)),(oE P "_law_take" 568 (.ref 286)),(oE P "_law_counter" 574 (.ref 291)),(oE P "_law_ticks" 580 (.ref 296)),(oE P "law" 586 (.ref 301))] 39) #[]))::
 (nat_lit 15,(Obj.mk (.type "tuple") none (Data.seq #[(.type "ValueError")] 0) #[]))::
 (nat_lit 22,(Obj.mk (.type "tuple") none (Data.seq #[] 0) #[]))::
 (nat_lit 23,(Obj.mk (.type "dict") none (Data.dict #[(oE P "__module__" 196 (.str (Str.ofString "forkplan.errors") 187)),(oE P "__firstlineno__" 200 (.int 2 199)),(oE P "__static_attributes__" 201 (.ref 22)),(oE P "__weakref__" 203 (.ref 25)),(oE P "__doc__" 204 .none)] 3) #[]))::
 (nat_lit 24,(Obj.mk (.type "type") none (Data.cls (ClassData.mk (Str.ofString "ForkError") [(.type "ValueError")] [(.ref 24),(.type "ValueError"),(.type "Exception"),(.type "BaseException"),(.type "object")] 23 (Str.ofString "ForkError") Bool.true [] [(.ref 37),(.ref 49)] Bool.false none Bool.false)) #[(some (.ref 15)),none,(some (.str (Str.ofString "ForkError") 189)),(some (.str (Str.ofString "ForkError") 197)),(some (.builtin "ValueError.__new__")),(some (.bool Bool.true))]))::
 (nat_lit 25,(Obj.mk (.type "getset_descriptor") none (Data.fields #[(.str (Str.ofString "__weakref__") 202),(.ref 24),(.builtin "ExceptionGroup.__weakref__"),.none]) #[]))::
 (nat_lit 28,(Obj.mk (.type "tuple") none (Data.seq #[(.ref 24)] 0) #[]))::
 (nat_lit 35,(Obj.mk (.type "tuple") none (Data.seq #[] 0) #[]))::
 (nat_lit 36,(Obj.mk (.type "dict") none (Data.dict #[(oE P "__module__" 214 (.str (Str.ofString "forkplan.errors") 187)),(oE P "__firstlineno__" 218 (.int 4 217)),(oE P "__static_attributes__" 219 (.ref 35)),(oE P "__doc__" 220 .none)] 2) #[]))::
 (nat_lit 37,(Obj.mk (.type "type") none (Data.cls (ClassData.mk (Str.ofString "NoName") [(.ref 24)] [(.ref 37),(.ref 24),(.type "ValueError"),(.type "Exception"),(.type "BaseException"),(.type "object")] 36 (Str.ofString "NoName") Bool.true [] [] Bool.false none Bool.false)) #[(some (.ref 28)),none,(some (.str (Str.ofString "NoName") 207)),(some (.str (Str.ofString "NoName") 215)),(some (.builtin "ValueError.__new__")),(some (.bool Bool.true))]))::
 (nat_lit 40,(Obj.mk (.type "tuple") none (Data.seq #[(.ref 24)] 0) #[]))::
 (nat_lit 47,(Obj.mk (.type "tuple") none (Data.seq #[] 0) #[]))::
 (nat_lit 48,(Obj.mk (.type "dict") none (Data.dict #[(oE P "__module__" 230 (.str (Str.ofString "forkplan.errors") 187)),(oE P "__firstlineno__" 234 (.int 6 233)),(oE P "__static_attributes__" 235 (.ref 47)),(oE P "__doc__" 236 .none)] 2) #[]))::
 (nat_lit 49,(Obj.mk (.type "type") none (Data.cls (ClassData.mk (Str.ofString "NoPlan") [(.ref 24)] [(.ref 49),(.ref 24),(.type "ValueError"),(.type "Exception"),(.type "BaseException"),(.type "object")] 48 (Str.ofString "NoPlan") Bool.true [] [] Bool.false none Bool.false)) #[(some (.ref 40)),none,(some (.str (Str.ofString "NoPlan") 223)),(some (.str (Str.ofString "NoPlan") 231)),(some (.builtin "ValueError.__new__")),(some (.bool Bool.true))]))::
 (nat_lit 57,oC #[(oS "worth" 241),(oS "worth" 242),(oS "/claim/cut.py" 243),(oI 9),(oI 3),(oI 0),(oI 0),(oI 3),(oR 52),(.bool Bool.true),(oI 181),(oR 53),.none,(oR 54),(oR 55),(oR 56),(oI 247),(oI 9),(oS "/claim/cut.py" 248)])::
 (nat_lit 58,oF "worth" 5 "forkplan.exprs" 239 57)::
 (nat_lit 64,oC #[(oS "holds" 250),(oS "holds" 251),(oS "/claim/cut.py" 252),(oI 11),(oI 3),(oI 0),(oI 0),(oI 3),(oR 59),(.bool Bool.true),(oI 181),(oR 60),.none,(oR 61),(oR 62),(oR 63),(oI 256),(oI 11),(oS "/claim/cut.py" 257)])::
 (nat_lit 65,oF "holds" 6 "forkplan.exprs" 239 64)::
 (nat_lit 69,oC #[(oS "values_by_name" 259),(oS "values_by_name" 260),(oS "/claim/cut.py" 261),(oI 13),(oI 2),(oI 0),(oI 0),(oI 3),(oR 66),(.bool Bool.true),(oI 181),(oR 67),.none,.none,.none,(oR 68),(oI 262),(oI 13),(oS "/claim/cut.py" 263)])::
 (nat_lit 70,oF "values_by_name" 7 "forkplan.exprs" 239 69)::
 (nat_lit 76,oC #[(oS "worth_by" 265),(oS "worth_by" 266),(oS "/claim/cut.py" 267),(oI 15),(oI 2),(oI 0),(oI 0),(oI 3),(oR 71),(.bool Bool.true),(oI 181),(oR 72),.none,(oR 73),(oR 74),(oR 75),(oI 273),(oI 15),(oS "/claim/cut.py" 274)])::
 (nat_lit 77,oF "worth_by" 8 "forkplan.exprs" 239 76)::
 (nat_lit 83,oC #[(oS "holds_by" 276),(oS "holds_by" 277),(oS "/claim/cut.py" 278),(oI 24),(oI 2),(oI 0),(oI 0),(oI 3),(oR 78),(.bool Bool.true),(oI 181),(oR 79),.none,(oR 80),(oR 81),(oR 82),(oI 284),(oI 24),(oS "/claim/cut.py" 285)])::
 (nat_lit 84,oF "holds_by" 9 "forkplan.exprs" 239 83)::
 (nat_lit 88,oC #[(oS "comes_of" 289),(oS "comes_of" 290),(oS "/claim/cut.py" 291),(oI 36),(oI 3),(oI 0),(oI 0),(oI 3),(oR 85),(.bool Bool.true),(oI 181),(oR 86),.none,.none,.none,(oR 87),(oI 292),(oI 36),(oS "/claim/cut.py" 293)])::
 (nat_lit 89,oF "comes_of" 11 "forkplan.worlds" 287 88)::
 (nat_lit 95,oC #[(oS "shown" 295),(oS "shown" 296),(oS "/claim/cut.py" 297),(oI 39),(oI 3),(oI 0),(oI 0),(oI 3),(oR 90),(.bool Bool.true),(oI 181),(oR 91),.none,(oR 92),(oR 93),(oR 94),(oI 301),(oI 39),(oS "/claim/cut.py" 302)])::
 (nat_lit 96,oF "shown" 12 "forkplan.worlds" 287 95)::
 (nat_lit 102,oC #[(oS "named" 304),(oS "named" 305),(oS "/claim/cut.py" 306),(oI 41),(oI 3),(oI 0),(oI 0),(oI 3),(oR 97),(.bool Bool.true),(oI 181),(oR 98),.none,(oR 99),(oR 100),(oR 101),(oI 311),(oI 41),(oS "/claim/cut.py" 312)])::
 (nat_lit 103,oF "named" 13 "forkplan.worlds" 287 102)::
 (nat_lit 107,oC #[(oS "behind_way" 314),(oS "behind_way" 315),(oS "/claim/cut.py" 316),(oI 46),(oI 3),(oI 0),(oI 0),(oI 3),(oR 104),(.bool Bool.true),(oI 181),(oR 105),.none,.none,.none,(oR 106),(oI 317),(oI 46),(oS "/claim/cut.py" 318)])::
 (nat_lit 108,oF "behind_way" 14 "forkplan.worlds" 287 107)::
 (nat_lit 114,oC #[(oS "is_whole" 320),(oS "is_whole" 321),(oS "/claim/cut.py" 322),(oI 53),(oI 1),(oI 0),(oI 0),(oI 3),(oR 109),(.bool Bool.true),(oI 181),(oR 110),.none,(oR 111),(oR 112),(oR 113),(oI 324),(oI 53),(oS "/claim/cut.py" 325)])::
 (nat_lit 115,oF "is_whole" 15 "forkplan.worlds" 287 114)::
 (nat_lit 121,oC #[(oS "plan_of" 329),(oS "plan_of" 330),(oS "/claim/cut.py" 331),(oI 56),(oI 2),(oI 0),(oI 0),(oI 3),(oR 116),(.bool Bool.true),(oI 181),(oR 117),.none,(oR 118),(oR 119),(oR 120),(oI 335),(oI 56),(oS "/claim/cut.py" 336)])::
 (nat_lit 122,oF "plan_of" 17 "forkplan.plans" 327 121)::
 (nat_lit 128,oC #[(oS "run" 338),(oS "run" 339),(oS "/claim/cut.py" 340),(oI 65),(oI 4),(oI 0),(oI 0),(oI 3),(oR 123),(.bool Bool.true),(oI 181),(oR 124),.none,(oR 125),(oR 126),(oR 127),(oI 347),(oI 65),(oS "/claim/cut.py" 348)])::
 (nat_lit 129,oF "run" 18 "forkplan.plans" 327 128)::
 (nat_lit 133,oC #[(oS "followers_of" 350),(oS "followers_of" 351),(oS "/claim/cut.py" 352),(oI 71),(oI 1),(oI 0),(oI 0),(oI 3),(oR 130),(.bool Bool.true),(oI 181),(oR 131),.none,.none,.none,(oR 132),(oI 353),(oI 71),(oS "/claim/cut.py" 354)])::
 (nat_lit 134,oF "followers_of" 19 "forkplan.plans" 327 133)::
 (nat_lit 140,oC #[(oS "is_node_number" 356),(oS "is_node_number" 357),(oS "/claim/cut.py" 358),(oI 77),(oI 2),(oI 0),(oI 0),(oI 3),(oR 135),(.bool Bool.true),(oI 181),(oR 136),.none,(oR 137),(oR 138),(oR 139),(oI 361),(oI 77),(oS "/claim/cut.py" 362)])::
 (nat_lit 141,oF "is_node_number" 20 "forkplan.plans" 327 140)::
 (nat_lit 147,oC #[(oS "refuse_followers" 364),(oS "refuse_followers" 365),(oS "/claim/cut.py" 366),(oI 79),(oI 2),(oI 0),(oI 0),(oI 3),(oR 142),(.bool Bool.true),(oI 181),(oR 143),.none,(oR 144),(oR 145),(oR 146),(oI 370),(oI 79),(oS "/claim/cut.py" 371)])::
 (nat_lit 148,oF "refuse_followers" 21 "forkplan.plans" 327 147)::
 (nat_lit 154,oC #[(oS "refuse_forks" 373),(oS "refuse_forks" 374),(oS "/claim/cut.py" 375),(oI 83),(oI 1),(oI 0),(oI 0),(oI 3),(oR 149),(.bool Bool.true),(oI 181),(oR 150),.none,(oR 151),(oR 152),(oR 153),(oI 377),(oI 83),(oS "/claim/cut.py" 378)])::
 (nat_lit 155,oF "refuse_forks" 22 "forkplan.plans" 327 154)::
 (nat_lit 161,oC #[(oS "refuse_name" 380),(oS "refuse_name" 381),(oS "/claim/cut.py" 382),(oI 86),(oI 2),(oI 0),(oI 0),(oI 3),(oR 156),(.bool Bool.true),(oI 181),(oR 157),.none,(oR 158),(oR 159),(oR 160),(oI 385),(oI 86),(oS "/claim/cut.py" 386)])::
 (nat_lit 162,oF "refuse_name" 23 "forkplan.plans" 327 161)::
 (nat_lit 168,oC #[(oS "thing_named_at" 388),(oS "thing_named_at" 389),(oS "/claim/cut.py" 390),(oI 89),(oI 2),(oI 0),(oI 0),(oI 3),(oR 163),(.bool Bool.true),(oI 181),(oR 164),.none,(oR 165),(oR 166),(oR 167),(oI 393),(oI 89),(oS "/claim/cut.py" 394)])::
 (nat_lit 169,oF "thing_named_at" 24 "forkplan.plans" 327 168)::
 (nat_lit 180,oC #[(oS "__init__" 408),(oS "Course.__init__" 409),(oS "/claim/cut.py" 410),(oI 95),(oI 3),(oI 0),(oI 0),(oI 3),(oR 177),(.bool Bool.true),(oI 181),(oR 178),.none,.none,.none,(oR 179),(oI 411),(oI 95),(oS "/claim/cut.py" 412)])::
 (nat_lit 181,oM "__init__" "Course.__init__" 25 0 "forkplan.plans" 327 180)::
 (nat_lit 187,oC #[(oS "goal_holds" 414),(oS "Course.goal_holds" 415),(oS "/claim/cut.py" 416),(oI 104),(oI 2),(oI 0),(oI 0),(oI 3),(oR 182),(.bool Bool.true),(oI 181),(oR 183),.none,(oR 184),(oR 185),(oR 186),(oI 419),(oI 104),(oS "/claim/cut.py" 420)])::
 (nat_lit 188,oM "goal_holds" "Course.goal_holds" 25 1 "forkplan.plans" 327 187)::
 (nat_lit 194,oC #[(oS "need_holds" 422),(oS "Course.need_holds" 423),(oS "/claim/cut.py" 424),(oI 109),(oI 3),(oI 0),(oI 0),(oI 3),(oR 189),(.bool Bool.true),(oI 181),(oR 190),.none,(oR 191),(oR 192),(oR 193),(oI 430),(oI 109),(oS "/claim/cut.py" 431)])::
 (nat_lit 195,oM "need_holds" "Course.need_holds" 25 2 "forkplan.plans" 327 194)::
 (nat_lit 201,oC #[(oS "comes" 433),(oS "Course.comes" 434),(oS "/claim/cut.py" 435),(oI 116),(oI 3),(oI 0),(oI 0),(oI 3),(oR 196),(.bool Bool.true),(oI 181),(oR 197),.none,(oR 198),(oR 199),(oR 200),(oI 440),(oI 116),(oS "/claim/cut.py" 441)])::
 (nat_lit 202,oM "comes" "Course.comes" 25 3 "forkplan.plans" 327 201)::
 (nat_lit 208,oC #[(oS "shows" 443),(oS "Course.shows" 444),(oS "/claim/cut.py" 445),(oI 122),(oI 3),(oI 0),(oI 0),(oI 3),(oR 203),(.bool Bool.true),(oI 181),(oR 204),.none,(oR 205),(oR 206),(oR 207),(oI 450),(oI 122),(oS "/claim/cut.py" 451)])::
 (nat_lit 209,oM "shows" "Course.shows" 25 4 "forkplan.plans" 327 208)::
 (nat_lit 210,(Obj.mk (.type "tuple") none (Data.seq #[(.str (Str.ofString "comings") 453),(.str (Str.ofString "forks") 454),(.str (Str.ofString "goals") 455),(.str (Str.ofString "needs") 456),(.str (Str.ofString "nodes") 457),(.str (Str.ofString "showings") 458),(.str (Str.ofString "world") 459)] 0) #[]))::
 (nat_lit 211,(Obj.mk (.type "dict") none (Data.dict #[(oE P "__module__" 403 (.str (Str.ofString "forkplan.plans") 327)),(oE P "__firstlineno__" 407 (.int 93 406)),(oE P "__init__" 413 (.ref 181)),(oE P "goal_holds" 421 (.ref 188)),(oE P "need_holds" 432 (.ref 195)),(oE P "comes" 442 (.ref 202)),(oE P "shows" 452 (.ref 209)),(oE P "__static_attributes__" 460 (.ref 210)),(oE P "__dict__" 462 (.ref 213)),(oE P "__weakref__" 464 (.ref 214)),(oE P "__doc__" 465 .none)] 4) #[]))::
 (nat_lit 212,(Obj.mk (.type "type") none (Data.cls (ClassData.mk (Str.ofString "Course") [(.type "object")] [(.ref 212),(.type "object")] 211 (Str.ofString "Course") Bool.true [] [] Bool.false none Bool.false)) #[none,none,(some (.str (Str.ofString "Course") 396)),(some (.str (Str.ofString "Course") 404)),(some (.builtin "object.__new__")),(some (.bool Bool.true))]))::
 (nat_lit 213,(Obj.mk (.type "getset_descriptor") none (Data.fields #[(.str (Str.ofString "__dict__") 461),(.ref 212),(.builtin "function.__dict__"),(.builtin "function.__dict__#set")]) #[]))::
 (nat_lit 214,(Obj.mk (.type "getset_descriptor") none (Data.fields #[(.str (Str.ofString "__weakref__") 463),(.ref 212),(.builtin "ExceptionGroup.__weakref__"),.none]) #[]))::
 (nat_lit 229,oC #[(oS "__init__" 480),(oS "Player.__init__" 481),(oS "/claim/cut.py" 482),(oI 129),(oI 4),(oI 0),(oI 0),(oI 3),(oR 224),(.bool Bool.true),(oI 181),(oR 225),.none,(oR 226),(oR 227),(oR 228),(oI 487),(oI 129),(oS "/claim/cut.py" 488)])::
 (nat_lit 230,oM "__init__" "Player.__init__" 26 0 "forkplan.plans" 327 229)::
 (nat_lit 236,oC #[(oS "go_on" 490),(oS "Player.go_on" 491),(oS "/claim/cut.py" 492),(oI 138),(oI 1),(oI 0),(oI 0),(oI 3),(oR 231),(.bool Bool.true),(oI 181),(oR 232),.none,(oR 233),(oR 234),(oR 235),(oI 495),(oI 138),(oS "/claim/cut.py" 496)])::
 (nat_lit 237,oM "go_on" "Player.go_on" 26 1 "forkplan.plans" 327 236)::
 (nat_lit 243,oC #[(oS "do_deed" 498),(oS "Player.do_deed" 499),(oS "/claim/cut.py" 500),(oI 146),(oI 3),(oI 0),(oI 0),(oI 3),(oR 238),(.bool Bool.true),(oI 181),(oR 239),.none,(oR 240),(oR 241),(oR 242),(oI 506),(oI 146),(oS "/claim/cut.py" 507)])::
 (nat_lit 244,oM "do_deed" "Player.do_deed" 26 2 "forkplan.plans" 327 243)::
 (nat_lit 250,oC #[(oS "do_look" 509),(oS "Player.do_look" 510),(oS "/claim/cut.py" 511),(oI 160),(oI 2),(oI 0),(oI 0),(oI 3),(oR 245),(.bool Bool.true),(oI 181),(oR 246),.none,(oR 247),(oR 248),(oR 249),(oI 516),(oI 160),(oS "/claim/cut.py" 517)])::
 (nat_lit 251,oM "do_look" "Player.do_look" 26 3 "forkplan.plans" 327 250)::
 (nat_lit 252,(Obj.mk (.type "tuple") none (Data.seq #[(.str (Str.ofString "choices") 519),(.str (Str.ofString "course") 520),(.str (Str.ofString "deeds_done") 521),(.str (Str.ofString "looked") 522),(.str (Str.ofString "number") 523),(.str (Str.ofString "standing") 524),(.str (Str.ofString "steps") 525)] 0) #[]))::
 (nat_lit 253,(Obj.mk (.type "dict") none (Data.dict #[(oE P "__module__" 475 (.str (Str.ofString "forkplan.plans") 327)),(oE P "__firstlineno__" 479 (.int 127 478)),(oE P "__init__" 489 (.ref 230)),(oE P "go_on" 497 (.ref 237)),(oE P "do_deed" 508 (.ref 244)),(oE P "do_look" 518 (.ref 251)),(oE P "__static_attributes__" 526 (.ref 252)),(oE P "__dict__" 528 (.ref 255)),(oE P "__weakref__" 530 (.ref 256)),(oE P "__doc__" 531 .none)] 4) #[]))::
 (nat_lit 254,(Obj.mk (.type "type") none (Data.cls (ClassData.mk (Str.ofString "Player") [(.type "object")] [(.ref 254),(.type "object")] 253 (Str.ofString "Player") Bool.true [] [] Bool.false none Bool.false)) #[none,none,(some (.str (Str.ofString "Player") 468)),(some (.str (Str.ofString "Player") 476)),(some (.builtin "object.__new__")),(some (.bool Bool.true))]))::
 (nat_lit 255,(Obj.mk (.type "getset_descriptor") none (Data.fields #[(.str (Str.ofString "__dict__") 527),(.ref 254),(.builtin "function.__dict__"),(.builtin "function.__dict__#set")]) #[]))::
 (nat_lit 256,(Obj.mk (.type "getset_descriptor") none (Data.fields #[(.str (Str.ofString "__weakref__") 529),(.ref 254),(.builtin "ExceptionGroup.__weakref__"),.none]) #[]))::
 (nat_lit 264,oC #[(oS "_law_cell" 536),(oS "_law_cell" 537),(oS "/claim/cut.py" 538),(oI 172),(oI 2),(oI 0),(oI 0),(oI 3),(oR 259),(.bool Bool.true),(oI 181),(oR 260),.none,(oR 261),(oR 262),(oR 263),(oI 541),(oI 172),(oS "/claim/cut.py" 542)])::
 (nat_lit 265,oF "_law_cell" 28 "law_forkplan_k24_long_runs_known" 534 264)::
 (nat_lit 271,oC #[(oS "_law_stir" 544),(oS "_law_stir" 545),(oS "/claim/cut.py" 546),(oI 176),(oI 2),(oI 0),(oI 0),(oI 3),(oR 266),(.bool Bool.true),(oI 181),(oR 267),.none,(oR 268),(oR 269),(oR 270),(oI 550),(oI 176),(oS "/claim/cut.py" 551)])::
 (nat_lit 272,oF "_law_stir" 29 "law_forkplan_k24_long_runs_known" 534 271)::
 (nat_lit 278,oC #[(oS "_law_state" 553),(oS "_law_state" 554),(oS "/claim/cut.py" 555),(oI 181),(oI 1),(oI 0),(oI 0),(oI 3),(oR 273),(.bool Bool.true),(oI 181),(oR 274),.none,(oR 275),(oR 276),(oR 277),(oI 557),(oI 181),(oS "/claim/cut.py" 558)])::
 (nat_lit 279,oF "_law_state" 30 "law_forkplan_k24_long_runs_known" 534 278)::
 (nat_lit 285,oC #[(oS "_law_take" 560),(oS "_law_take" 561),(oS "/claim/cut.py" 562),(oI 183),(oI 2),(oI 0),(oI 0),(oI 3),(oR 280),(.bool Bool.true),(oI 181),(oR 281),.none,(oR 282),(oR 283),(oR 284),(oI 566),(oI 183),(oS "/claim/cut.py" 567)])::
 (nat_lit 286,oF "_law_take" 31 "law_forkplan_k24_long_runs_known" 534 285)::
 (nat_lit 290,oC #[(oS "_law_counter" 569),(oS "_law_counter" 570),(oS "/claim/cut.py" 571),(oI 190),(oI 2),(oI 0),(oI 0),(oI 3),(oR 287),(.bool Bool.true),(oI 181),(oR 288),.none,.none,.none,(oR 289),(oI 572),(oI 190),(oS "/claim/cut.py" 573)])::
 (nat_lit 291,oF "_law_counter" 32 "law_forkplan_k24_long_runs_known" 534 290)::
 (nat_lit 295,oC #[(oS "_law_ticks" 575),(oS "_law_ticks" 576),(oS "/claim/cut.py" 577),(oI 211),(oI 1),(oI 0),(oI 0),(oI 3),(oR 292),(.bool Bool.true),(oI 181),(oR 293),.none,.none,.none,(oR 294),(oI 578),(oI 211),(oS "/claim/cut.py" 579)])::
 (nat_lit 296,oF "_law_ticks" 33 "law_forkplan_k24_long_runs_known" 534 295)::
 (nat_lit 300,oC #[(oS "law" 581),(oS "law" 582),(oS "/claim/cut.py" 583),(oI 227),(oI 1),(oI 0),(oI 0),(oI 3),(oR 297),(.bool Bool.true),(oI 181),(oR 298),.none,.none,.none,(oR 299),(oI 584),(oI 227),(oS "/claim/cut.py" 585)])::
 (nat_lit 301,oF "law" 34 "law_forkplan_k24_long_runs_known" 534 300)::[]
noncomputable def vI:Program:={ PySem.Challenge.pw_forkplan_k24_long_runs_known with main:={ PySem.Challenge.pw_forkplan_k24_long_runs_known.main with body:=([1,2,3,5,6,7,8,9,11,12,13,14,15,17,18,19,20,21,22,23,24,25,26,28,29,30,31,32,33,34]:List Nat).filterMap fun i=>PySem.Challenge.pw_forkplan_k24_long_runs_known.main.body[i]? } }
noncomputable def kM:PySem.W.Hook:=PySem.W.kHook qJd [2,3,15,22,23,24,25,28,35,36,37,40,47,48,49,57,58,64,65,69,70,76,77,83,84,88,89,95,96,102,103,107,108,114,115,121,122,128,129,133,134,140,141,147,148,154,155,161,162,168,169,180,181,187,188,194,195,201,202,208,209,210,211,212,213,214,229,230,236,237,243,244,250,251,252,253,254,255,256,264,265,271,272,278,279,285,286,290,291,295,296,300,301] (fun _=>by kernel_rfl)
theorem qIe:LeftO (PySem.W.OpenLaw.row PySem.Challenge.rw_forkplan_k24_long_runs_known).prog vI [] (fun s=>xlAt vI [] s && recOk (RowW.records (OpenRow.toRowW (PySem.W.OpenLaw.row PySem.Challenge.rw_forkplan_k24_long_runs_known))) s) (Hook.obs kM) (Hook.val kM) 4896:=
 LeftO.of_pieces (H₀:=boot_heap) (H₁:=fun P=>absHeap (vM (qWd P) 12 1 0) 302 qQn) (gs₀:=⟨[]⟩) (gs₁:=⟨[]⟩) (d₀:=boot_drawn) (d₁:=(Drawn.mk 0 0 0 0)) (k₀:=boot_toks) (k₁:=587) (m₀:=11) (ann:=(some (Value.ref 6))) (M:=12+(1+(2086+2)))
  (boot_open (p:=PySem.Challenge.pw_forkplan_k24_long_runs_known) (by kernel_rfl) (by decide +kernel) (fun s=>by rfl)) (fun w=>by kernel_rfl)
  (fun w os=>go_top (topPre w os) (piece_block (qEe w os) (List.append_nil vN▸piece_app (l:=vN) (rest:=[]) (segRun_of (topSeg w os)) (topFin w os)))) (by decide +kernel) (fun w=>by kernel_rfl)
end FP
namespace L2
open PySem PySem.Spec PyProof.Rows

noncomputable abbrev Key:=Sum Int Str
noncomputable def keyIs:Key→Value→Bool
 | .inl k,v=>Value.isInt k v
 | .inr x,v=>Value.isStrOf x v
noncomputable def keyH (w:World):Key→Int
 | .inl k=>hashInt k
 | .inr x=>hashStr w x
theorem zZ:∀{k:Key} {v:Value},keyIs k v=true→(∃i t,k=Sum.inl i∧v=Value.int i t)∨(∃x t,k=Sum.inr x∧v=Value.str x t)
 | .inl i,v,h=>by
  obtain⟨t,e⟩:=Value.isInt_shape (k:=i) (v:=v) h
  exact .inl ⟨i,t,rfl,e⟩
 | .inr x,v,h=>by
  obtain⟨t,e⟩:=Value.isStrOf_shape (x:=x) (v:=v) h
  exact .inr ⟨x,t,rfl,e⟩
theorem qCa (i:Int)(t:Tok):keyIs (.inl i) (.int i t)=true:=by simp[keyIs,Value.isInt]
theorem qCw (x:Str)(t:Tok):keyIs (.inr x) (.str x t)=true:=by simp[keyIs,Value.isStrOf]
theorem qRq (a b:Int):decide ((Sum.inl a:Key)=Sum.inl b)=(a == b):=by
 by_cases e:a=b
 ·subst e;simp
 ·have h:¬(Sum.inl a:Key)=Sum.inl b:=fun q=>e (Sum.inl.inj q)
  rw[decide_eq_false h]
  exact(beq_eq_false_iff_ne.mpr e).symm
theorem qPm (a b:Str):decide ((Sum.inr a:Key)=Sum.inr b)=decide (a=b):=by
 by_cases e:a=b
 ·subst e;simp
 ·have h:¬(Sum.inr a:Key)=Sum.inr b:=fun q=>e (Sum.inr.inj q)
  rw[decide_eq_false h,decide_eq_false e]
theorem qPo (a:Int)(b:Str):decide ((Sum.inl a:Key)=Sum.inr b)=false:=decide_eq_false (fun q=>nomatch q)
theorem qPn (a:Str)(b:Int):decide ((Sum.inr a:Key)=Sum.inl b)=false:=decide_eq_false (fun q=>nomatch q)

noncomputable def xN (prog:Program)(w:World):PySem.KeyKind prog w Key where
 is:=keyIs
 hash:=keyH w
 inj:=fun v a b ha hb=>by
  rcases zZ ha with⟨i,t,rfl,rfl⟩ | ⟨x,t,rfl,rfl⟩
  ·rcases zZ hb with⟨j,u,rfl,e⟩ | ⟨y,u,rfl,e⟩
   ·injection e with e1 _;rw[e1]
   ·exact nomatch e
  ·rcases zZ hb with⟨j,u,rfl,e⟩ | ⟨y,u,rfl,e⟩
   ·exact nomatch e
   ·injection e with e1 _;rw[e1]
 byValue:=fun k v h=>by
  rcases zZ h with⟨i,t,rfl,rfl⟩ | ⟨x,t,rfl,rfl⟩ <;> rfl
 pyHash:=fun hv h=>by
  rcases zZ hv with⟨i,t,rfl,rfl⟩ | ⟨x,t,rfl,rfl⟩
  ·exact wpAny_pyHash_int h
  ·exact wpAny_pyHash_str h
 eqBool:=fun hu hv h=>by
  rcases zZ hu with⟨i,t,rfl,rfl⟩ | ⟨x,t,rfl,rfl⟩
  ·rcases zZ hv with⟨j,u,rfl,rfl⟩ | ⟨y,u,rfl,rfl⟩
   ·rw[qRq] at h;exact wpAny_eqBool_int h
   ·rw[qPo] at h;exact SeqAt.EqAt.int_str i t y u _ _ _ _ h
  ·rcases zZ hv with⟨j,u,rfl,rfl⟩ | ⟨y,u,rfl,rfl⟩
   ·rw[qPn] at h;exact SeqAt.EqAt.str_int x t j u _ _ _ _ h
   ·rw[qPm] at h;exact wpAny_eqBool_str h
 «strs»:=fun k x t v h=>by
  rcases zZ h with⟨i,u,rfl,e⟩ | ⟨y,u,rfl,e⟩
  ·exact nomatch e
  ·injection e with e1 _
   subst e1
   cases v <;> rfl

theorem wK (prog:Program)(w:World)(i:Int)(t:Tok):(xN prog w).is (.inl i) (.int i t)=true:=qCa i t
theorem jS (prog:Program)(w:World)(x:Str)(t:Tok):(xN prog w).is (.inr x) (.str x t)=true:=qCw x t
end L2

namespace L2
open PySem PySem.Spec PyProof.Rows

inductive V where
 | non | bl (b:Bool) | int (i:Int) | str (x:Str) | byt (b:Array UInt8) | flt (b:UInt64) | ref (a:Addr) | ty (n:String)
 deriving DecidableEq

noncomputable def RelV:V→Value→Prop
 | .non,u=>u=Value.none
 | .bl b,u=>u=Value.bool b
 | .int i,u=>∃t,u=Value.int i t
 | .str x,u=>∃t,u=Value.str x t
 | .byt b,u=>∃t,u=Value.bytes b t
 | .flt b,u=>∃t,u=Value.float b t
 | .ref a,u=>u=Value.ref a
 | .ty n,u=>u=Value.type n

noncomputable abbrev Vals:List V→List Value→Prop:=Paired RelV
theorem Vals.length {xs:List V}{us:List Value}(r:Vals xs us):xs.length=us.length:=Paired.length r
theorem Vals.get:∀{xs:List V} {us:List Value} {i:Nat} {x:V},Vals xs us→xs[i]? = some x→∃u,us[i]? = some u∧RelV x u
 | _,_,_,_,.nil,e=>by simp at e
 | _,_,0,_,.cons r _,e=>by simp at e;subst e;exact⟨_,rfl,r⟩
 | _,_,i+1,x,.cons _ t,e=>by
  obtain⟨u,h1,h2⟩:=Vals.get (i:=i) (x:=x) t (by simpa using e)
  exact⟨u,by simpa using h1,h2⟩
theorem Vals.set {x:V}{u:Value}(r:RelV x u):∀{xs:List V} {us:List Value} (i:Nat),Vals xs us→Vals (xs.set i x) (us.set i u)
 | _,_,_,.nil=>.nil
 | _,_,0,.cons _ t=>.cons r t
 | _,_,i+1,.cons q t=>.cons q (Vals.set r i t)
theorem Vals.append:∀{xs ys:List V} {us ws:List Value},Vals xs us→Vals ys ws→Vals (xs++ys) (us++ws)
 | _,_,_,_,.nil,s=>s
 | _,_,_,_,.cons r t,s=>.cons r (Vals.append t s)
theorem Vals.take:∀{xs:List V} {us:List Value} (n:Nat),Vals xs us→Vals (xs.take n) (us.take n)
 | _,_,0,_=>.nil
 | _,_,_+1,.nil=>.nil
 | _,_,n+1,.cons r t=>.cons r (Vals.take n t)
theorem Vals.drop:∀{xs:List V} {us:List Value} (n:Nat),Vals xs us→Vals (xs.drop n) (us.drop n)
 | _,_,0,r=>r
 | _,_,_+1,.nil=>.nil
 | _,_,n+1,.cons _ t=>Vals.drop n t
noncomputable def RelO:Option V→Option Value→Prop
 | some v,some u=>RelV v u
 | none,none=>True
 | _,_=>False
noncomputable def KV {κ:Type}:List (κ×V)→List (κ×Value)→Prop:=Paired fun(p:κ×V) (q:κ×Value)=>p.1=q.1∧RelV p.2 q.2

noncomputable def kV:Key→V
 | .inl i=>.int i
 | .inr x=>.str x

inductive HO where
 /-- a list -/
 | lst (xs:List V)
 /-- a tuple (never changes) -/
 | tup (xs:List V)
 /-- a dict whose keys are ints and texts; one whose keys are tuples of ints and texts (the empty one is both) -/
 | dK (kvs:List (Key×V)) | dT (kvs:List (List Key×V))
 /-- a set of ints: its members, its size -/
 | set (S:Int→Bool) (n:Nat)
 /-- an instance of the class at C, its dict at dx, its attributes -/
 | ins (C dx:Addr) (fs:List (Str×V))
 /-- the dict of the instance at x -/
 | own (x:Addr)
 /-- the dict of an exception -/
 | xd (fs:List (Str×V))
 /-- a bound method, f of x -/
 | met (f x:Addr)
 /-- a range object lo, lo + 1, .. below hi -/
 | rng (lo hi:Int)
 /-- a thing that is known to the object (the script; a dict while a loop walks it): read, never written while it is so -/
 | frz (o:Obj) (u:HO)
 /-- a code object's table -/
 | tbl (ps:Array Value)
 /-- any other thing, by what is true of its one object (a def of one's own: SetO a S n := HO.ext fun h => ..) -/
 | ext (φ:Heap→Prop)

noncomputable abbrev Hp:=Addr→Option HO
noncomputable def upd (H:Hp)(a:Addr)(o:HO):Hp:=fun b=>if b=a then some o else H b
theorem qV {H:Hp}{a:Addr}{o:HO}:upd H a o a=some o:=by unfold upd;rw[if_pos rfl]
theorem qW {H:Hp}{a b:Addr}{o:HO}(h:b≠a):upd H a o b=H b:=by unfold upd;rw[if_neg h]
theorem xU {H:Hp}{a b:Addr}{o u:HO}(h:H a=some o)(h':H b=some u)(d:o≠u):a≠b:=by
 intro e;subst e;rw[h] at h';exact d (Option.some.inj h')
theorem qA {H:Hp}{a b:Addr}{o:HO}(h:H a=some o)(h':H b=none):a≠b:=by
 intro e;subst e;rw[h] at h';cases h'

noncomputable def TupX (h:Heap)(a:Addr)(its:Array Value):Prop:=∃o,h.get? a=some o∧o.cls=.type "tuple" ∧ ∃n,o.data=.seq its n∧o.dict=none
theorem TupX.tup {h:Heap}{a:Addr}{its:Array Value}(x:TupX h a its):IsTup h a its:=let ⟨o,e,c,n,d,_⟩:=x;⟨o,e,c,n,d⟩
theorem TupX.lt {h:Heap}{a:Addr}{its:Array Value}(x:TupX h a its):a<h.objs.size:=x.tup.lt
theorem TupX.new (h:Heap)(its:Array Value):TupX (h.push { cls:=.type "tuple",data:=.seq its }) h.objs.size its:=⟨_,Heap.get?_push_size _ rfl,rfl,_,rfl,rfl⟩
section
variable (P:Program)(w:World)
noncomputable def ObjOk (H:Hp)(h:Heap)(a:Addr):HO→Prop
 | .lst xs=>xs.length≤sizeLine∧∃(its:List Value) (n:Nat),Vals xs its∧h.get? a=some { cls:=.type "list",data:=.seq its.toArray n }
 | .tup xs=>xs.length≤sizeLine∧∃its:List Value,Vals xs its∧TupX h a its.toArray
 | .dK kvs=>kvs.length≤sizeLine∧(a == sysModules)=false∧∃vs,KV kvs vs∧h.DictOf (xN P w) a vs
 | .dT kvs=>kvs.length≤sizeLine∧(a == sysModules)=false∧∃xs:List (List Key×Addr×Value),
   Paired (fun(p:List Key×V) (q:List Key×Addr×Value)=>p.1=q.1∧H q.2.1=some (.tup (p.1.map kV))∧RelV p.2 q.2.2) kvs xs∧
   ∃o es ep,h.get? a=some o∧o.ExactDict∧o.data=.dict es ep∧es.toList=xs.map (entryOfKey (tupleKind (xN P w)))∧(xs.map (·.1)).Nodup
 | .set S n=>h.SetOf (intKind P w) a S n
 | .ins C dx fs=>H dx=some (.own a)∧fs.length≤1000∧dx≠a∧h.get? a=some (PySem.W.instObj C dx)∧
   ∃mA,h.Ns1 dx mA∧(∀f,RelO (fs.lookup f) (mA f))∧PySem.Within mA (fs.map (·.1))
 | .own _=>∃o,h.get? a=some o
 | .xd fs=>∃mA,h.Ns1 a mA∧∀f,RelO (fs.lookup f) (mA f)
 | .rng lo hi=>∃t u v,h.get? a=some { cls:=.type "range",data:=.fields #[.int lo t,.int hi u,.int 1 v] }
 | .frz o u=>h.get? a=some o∧ObjOk H h a u
 | .tbl ps=>h.get? a=some { cls:=.none,data:=.fields ps }
 | .met f x=>h.get? a=some (PySem.W.methodObj (.ref f) (.ref x))
 | .ext φ=>φ h∧(∃o,h.get? a=some o)∧∀h1 h2:Heap,φ h1→(∀o,h1.get? a=some o→h2.get? a=some o)→φ h2
noncomputable def HOk (H:Hp)(h:Heap):Prop:=∀a o,H a=some o→ObjOk P w H h a o
end

section
variable {P:Program}{w:World}{H H':Hp}{h h':Heap}{a:Addr}{o:HO}
theorem ObjOk.lt (x:ObjOk P w H h a o):a<h.objs.size:=by
 cases o with
 | lst xs=>obtain⟨_,_,_,_,e⟩:=x;exact Heap.lt_size e
 | tup xs=>obtain⟨_,_,_,p⟩:=x;exact p.lt
 | dK kvs=>obtain⟨_,_,_,_,o,_,_,e,_⟩:=x;exact Heap.lt_size e
 | dT kvs=>obtain⟨_,_,_,_,o,_,_,e,_⟩:=x;exact Heap.lt_size e
 | set S n=>obtain⟨o,_,_,_,e,_⟩:=x;exact Heap.lt_size e
 | ins C dx fs=>obtain⟨_,_,_,e,_⟩:=x;exact Heap.lt_size e
 | own y=>obtain⟨_,e⟩:=x;exact Heap.lt_size e
 | xd fs=>obtain⟨_,⟨_,_,_,e,_⟩,_⟩:=x;exact Heap.lt_size e
 | rng lo hi=>obtain⟨_,_,_,e⟩:=x;exact Heap.lt_size e
 | frz ob u=>obtain⟨e,_⟩:=x;exact Heap.lt_size e
 | tbl ps=>exact Heap.lt_size (show h.get? a=some _ from x)
 | met f y=>exact Heap.lt_size (show h.get? a=some _ from x)
 | ext φ=>obtain⟨_,⟨_,e⟩,_⟩:=x;exact Heap.lt_size e
theorem Paired.mapP {α β:Type}{F G:α→β→Prop}:∀{l₁:List α} {l₂:List β},Paired F l₁ l₂→(∀a b,F a b→G a b)→Paired G l₁ l₂
 | _,_,.nil,_=>.nil
 | _,_,.cons r t,f=>.cons (f _ _ r) (Paired.mapP t f)
theorem ObjOk.stay (x:ObjOk P w H h a o)(k:∀b u,(b=a∨H b=some (.own a))→h.get? b=some u→h'.get? b=some u)
  (ho:∀b,H b=some (.own a)→H' b=some (.own a)) (ht:∀b xs,H b=some (.tup xs)→H' b=some (.tup xs)):ObjOk P w H' h' a o:=by
 induction o with
 | lst xs=>obtain⟨z,its,n,r,e⟩:=x;exact⟨z,its,n,r,k _ _ (.inl rfl) e⟩
 | tup xs=>obtain⟨z,its,r,ob,e,c⟩:=x;exact⟨z,its,r,ob,k _ _ (.inl rfl) e,c⟩
 | dK kvs=>obtain⟨z,y,vs,r,ob,es,ep,e,c⟩:=x;exact⟨z,y,vs,r,ob,es,ep,k _ _ (.inl rfl) e,c⟩
 | dT kvs=>
  obtain⟨z,y,xs,r,ob,es,ep,e,c⟩:=x
  exact⟨z,y,xs,Paired.mapP r fun p q z=>⟨z.1,ht _ _ z.2.1,z.2.2⟩,ob,es,ep,k _ _ (.inl rfl) e,c⟩
 | set S n=>obtain⟨ob,es,ep,t,e,c⟩:=x;exact⟨ob,es,ep,t,k _ _ (.inl rfl) e,c⟩
 | ins C dx fs=>
  obtain⟨d,z,ne,e,mA,⟨od,es,ep,e2,c⟩,r⟩:=x
  exact⟨ho _ d,z,ne,k _ _ (.inl rfl) e,mA,⟨od,es,ep,k _ _ (.inr d) e2,c⟩,r⟩
 | own y=>obtain⟨ob,e⟩:=x;exact⟨ob,k _ _ (.inl rfl) e⟩
 | xd fs=>obtain⟨mA,⟨od,es,ep,e,c⟩,r⟩:=x;exact⟨mA,⟨od,es,ep,k _ _ (.inl rfl) e,c⟩,r⟩
 | rng lo hi=>obtain⟨t,u,v,e⟩:=x;exact⟨t,u,v,k _ _ (.inl rfl) e⟩
 | frz ob u ih=>obtain⟨e,q⟩:=x;exact⟨k _ _ (.inl rfl) e,ih q⟩
 | tbl ps=>
  have e:h.get? a=some { cls:=.none,data:=.fields ps }:=x
  show h'.get? a=some { cls:=.none,data:=.fields ps }
  exact k a _ (.inl rfl) e
 | met f y=>
  have e:h.get? a=some (PySem.W.methodObj (.ref f) (.ref y)):=x
  show h'.get? a=some (PySem.W.methodObj (.ref f) (.ref y))
  exact k a _ (.inl rfl) e
 | ext φ=>obtain⟨p,⟨o,e⟩,st⟩:=x;exact⟨st _ _ p fun o q=>k _ _ (.inl rfl) q,⟨o,k _ _ (.inl rfl) e⟩,st⟩
theorem HOk.lt (x:HOk P w H h)(e:H a=some o):a<h.objs.size:=(x a o e).lt
theorem HOk.fresh (x:HOk P w H h)(e:h.objs.size≤a):H a=none:=by
 cases q:H a with
 | none=>rfl
 | some u=>exact absurd (Nat.lt_of_lt_of_le (x.lt q) e) (Nat.lt_irrefl _)
theorem HOk.kept (x:HOk P w H h)(k:∀b u,h.get? b=some u→h'.get? b=some u):HOk P w H h':=fun a o e=>
 (x a o e).stay (fun b u _ q=>k b u q) (fun _ q=>q) fun _ _ q=>q
theorem HOk.laid (x:HOk P w H h)(k:∀b u,h.get? b=some u→h'.get? b=some u)(hp:h.objs.size≤a)(new:ObjOk P w (upd H a o) h' a o):HOk P w (upd H a o) h':=fun b u e=>by
 have hn:=x.fresh hp
 by_cases hb:b=a
 ·subst hb;rw[qV] at e;cases e;exact new
 ·rw[qW hb] at e
  exact(x b u e).stay (fun c v _ q=>k c v q) (fun c q=>by rw[qW (qA q hn)];exact q) fun c xs q=>by rw[qW (qA q hn)];exact q
end

noncomputable def Rd (H:Hp)(a:Addr)(u:HO):Prop:=H a=some u∨∃o,H a=some (.frz o u)
theorem Rd.ok {P:Program}{w:World}{H:Hp}{h:Heap}{a:Addr}{u:HO}(r:Rd H a u)(x:HOk P w H h):ObjOk P w H h a u:=by
 rcases r with r | ⟨o,r⟩
 ·exact x a u r
 ·obtain⟨_,q⟩:=x a _ r
  exact q
noncomputable def Mut:Option HO→Prop
 | some (.lst _)=>True
 | some (.dK _)=>True
 | some (.dT _)=>True
 | some (.set _ _)=>True
 | some (.ins _ _ _)=>True
 | some (.ext _)=>True
 | _=>False
section
variable {P:Program}{w:World}{H:Hp}{h h':Heap}{x e:Addr}{o':HO}
theorem HOk.write (ok:HOk P w H h)(mu:Mut (H x))(he:e=x∨H e=some (.own x))(k:∀b u,b≠e→h.get? b=some u→h'.get? b=some u)(heo:∃u,h'.get? e=some u)
  (new:ObjOk P w (upd H x o') h' x o'):HOk P w (upd H x o') h':=fun b u q=>by
 have nown:∀c y,H c=some (.own y)→c≠x:=fun c y r z=>by subst z;rw[r] at mu;exact mu
 have ntup:∀c xs,H c=some (.tup xs)→c≠x:=fun c xs r z=>by subst z;rw[r] at mu;exact mu
 by_cases hb:b=x
 ·subst hb;rw[qV] at q;cases q;exact new
 ·rw[qW hb] at q
  by_cases hbe:b=e
  ·have q':H b=some (.own x):=by
    rcases he with z | z
    ·exact absurd (hbe.trans z) hb
    ·rw[hbe];exact z
   rw[q] at q';cases q'
   obtain⟨v,hv⟩:=heo
   exact⟨v,by rw[hbe];exact hv⟩
  ·refine(ok b u q).stay (fun c v hc r=>k c v ?_ r) (fun c r=>by rw[qW (nown c b r)];exact r) fun c xs r=>by rw[qW (ntup c xs r)];exact r
   rcases hc with rfl | hc
   ·exact hbe
   ·rintro rfl
    rcases he with z | z
    ·exact nown c b hc z
    ·rw[hc] at z;cases z;exact hb rfl
end

structure Un (fs ex:List Addr)(H H':Hp)(h h':Heap):Prop where
 keep:∀b o,h.get? b=some o→H b=none→b∉fs→b∉ex→h'.get? b=some o
 slot:∀b o,h.get? b=some o→H b=none→b∈fs→b∉ex→∃sl,h'.get? b=some { o with slots:=sl }
 free:∀b o,h.get? b=some o→H b=none→b∉ex→H' b=none
 there:∀b o,h.get? b=some o→b∉ex→∃o',h'.get? b=some o'
 tups:∀b xs,H b=some (.tup xs)→H' b=some (.tup xs)
 frzs:∀b o u,H b=some (.frz o u)→H' b=some (.frz o u)
 tbls:∀b ps,H b=some (.tbl ps)→∃more,H' b=some (.tbl (ps++more))
section
variable {fs fs' ex ex':List Addr}{H H1 H2:Hp}{h h1 h2 h':Heap}{a x e:Addr}{o:HO}
theorem Un.any (u:Un fs ex H H1 h h1){b:Addr}{ob:Obj}(q:h.get? b=some ob)(n:H b=none)(hx:b∉ex):∃sl,h1.get? b=some { ob with slots:=sl }:=by
 by_cases hb:b∈fs
 ·exact u.slot b ob q n hb hx
 ·exact⟨ob.slots,u.keep b ob q n hb hx⟩
theorem Un.trans (a:Un fs ex H H1 h h1)(b:Un fs ex H1 H2 h1 h2):Un fs ex H H2 h h2 where
 keep:=fun c ob q n hc hx=>b.keep c ob (a.keep c ob q n hc hx) (a.free c ob q n hx) hc hx
 slot:=fun c ob q n hc hx=>by
  obtain⟨sl,e1⟩:=a.slot c ob q n hc hx
  obtain⟨sl',e2⟩:=b.slot c _ e1 (a.free c ob q n hx) hc hx
  exact⟨sl',e2⟩
 free:=fun c ob q n hx=>by
  obtain⟨o',e1⟩:=a.there c ob q hx
  exact b.free c o' e1 (a.free c ob q n hx) hx
 there:=fun c ob q hx=>by
  obtain⟨o',e1⟩:=a.there c ob q hx
  exact b.there c o' e1 hx
 tups:=fun c xs q=>b.tups c xs (a.tups c xs q)
 frzs:=fun c ob xs q=>b.frzs c ob xs (a.frzs c ob xs q)
 tbls:=fun c ps q=>by
  obtain⟨m1,e1⟩:=a.tbls c ps q
  obtain⟨m2,e2⟩:=b.tbls c _ e1
  exact⟨m1++m2,by rw[e2,Array.append_assoc]⟩
theorem Un.kept (k:∀b u,h.get? b=some u→h'.get? b=some u):Un fs ex H H h h':=
 ⟨fun b ob q _ _ _=>k b ob q,fun b ob q _ _ _=>⟨ob.slots,k b ob q⟩,fun _ _ _ n _=>n,fun b ob q _=>⟨ob,k b ob q⟩,fun _ _ q=>q,fun _ _ _ q=>q,fun _ ps q=>⟨#[],by rw[q];simp⟩⟩
theorem Un.refl:Un fs ex H H h h:=Un.kept fun _ _ q=>q
theorem Un.laid (k:∀b u,h.get? b=some u→h'.get? b=some u)(hp:h.objs.size≤a)(hn:H a=none):Un fs ex H (upd H a o) h h' where
 keep:=fun b u q _ _ _=>k b u q
 slot:=fun b u q _ _ _=>⟨u.slots,k b u q⟩
 free:=fun b u q n _=>by rw[qW (Nat.ne_of_lt (Nat.lt_of_lt_of_le (Heap.lt_size q) hp))];exact n
 there:=fun b u q _=>⟨u,k b u q⟩
 tups:=fun b xs q=>by rw[qW (qA q hn)];exact q
 frzs:=fun b u xs q=>by rw[qW (qA q hn)];exact q
 tbls:=fun b ps q=>⟨#[],by rw[qW (qA q hn),q];simp⟩
theorem Un.write (mu:Mut (H x))(he:e=x∨H e=some (.own x))(k:∀b u,b≠e→h.get? b=some u→h'.get? b=some u)(heo:∃u,h'.get? e=some u):Un fs ex H (upd H x o) h h':=by
 have hx:∀b,H b=none→b≠x:=fun b n z=>by subst z;rw[n] at mu;exact mu
 have hb:∀b,H b=none→b≠e:=fun b n z=>by
  subst z
  rcases he with r | r
  ·exact hx b n r
  ·rw[n] at r;cases r
 have hm:∀b u,H b=some u→¬Mut (some u)→b≠x:=fun b u q nm z=>by subst z;rw[q] at mu;exact nm mu
 refine⟨fun b u q n _ _=>k b u (hb b n) q,fun b u q n _ _=>⟨u.slots,k b u (hb b n) q⟩,fun b u q n _=>by rw[qW (hx b n)];exact n,fun b u q _=>?_,
  fun b xs q=>by rw[qW (hm b _ q fun z=>z)];exact q,fun b u xs q=>by rw[qW (hm b _ q fun z=>z)];exact q,fun b ps q=>⟨#[],by rw[qW (hm b _ q fun z=>z),q];simp⟩⟩
 by_cases hbe:b=e
 ·subst hbe;exact heo
 ·exact⟨u,k b u hbe q⟩
end

noncomputable def trk (h:Heap)(H:Hp):List Addr:=(List.range h.objs.size).filter fun a=>(H a).isSome
noncomputable def hidT (h:Heap)(H:Hp):Heap:=PySem.W.hideAll h (trk h H)
theorem qCg (h:Heap)(H:Hp):(hidT h H).objs.size=h.objs.size:=PySem.W.hideAll_size _ _
theorem qGz {h:Heap}{H:Hp}{b:Addr}{o:Obj}(e:h.get? b=some o)(n:H b=none):(hidT h H).get? b=some o:=
 PySem.W.hideAll_get _ e fun hm=>by
  have q:(H b).isSome=true:=(List.mem_filter.mp hm).2
  rw[n] at q;simp at q
theorem qMf {h:Heap}{H:Hp}{b:Addr}{o:Obj}(e:(hidT h H).get? b=some o):h.get? b=some o∧H b=none:=by
 have e':h.get? b=some o:=PySem.W.of_hideAll (trk h H) e
 refine⟨e',?_⟩
 cases q:H b with
 | none=>rfl
 | some x=>
  have hm:b∈trk h H:=List.mem_filter.mpr ⟨List.mem_range.mpr (Heap.lt_size e'),by simp[q]⟩
  have z:(hidT h H).get? b=none:=PySem.W.hideAll_none (trk h H) hm
  rw[z] at e;cases e

end L2

namespace L2
open PySem PySem.Spec PyProof.Rows

structure Mod (K:PySem.W.Frag)(mg:Str→Option Value)(base:Heap):Prop where
 kin:K.In base
 glob:base.Ns mainGlobals mg
 blt:∃mb,base.Ns builtinsNs mb∧∀x:Str,x ≠ "__name__" → mb x=bootBuiltins x
 nolimit:base.NoLimit

/-- the context: a def's body (or a comprehension's block) running. base: fixed through the whole law; s₀, H₀: the entry; outer: the frames whose slots others may change (a def's callers); stack: all frames that run;
   ex: iterators that were made ahead of the entry and are walked here (a comprehension's); fn: the names whose cells were made at the entry (a def: all; a comprehension's block: its own); calm: not within an except suite; pn: pins that every state bears; xe: what is wanted of an exception that leaves the code -/
structure Cx where
 prog:Program
 w:World
 K:PySem.W.Frag
 mg:Str→Option Value
 base:Heap
 A:Around
 N:List Str
 s₀:Shared
 H₀:Hp
 env:Env
 outer:List Env
 stack:List Env
 ex:List Addr
 fn:Str→Bool
 calm:Bool
 pn:List (Addr×Obj)
 xe:Value→Shared→Prop
noncomputable def frs (l:List Env):List Addr:=l.filterMap (·.frame)
noncomputable abbrev Cx.fs (X:Cx):List Addr:=frs X.outer

noncomputable def Vis (sc:Scope)(x:Str):Prop:=sc.names.lookup x=some .local∨sc.names.lookup x=some .cell∨sc.names.lookup x=some .free
noncomputable def Loc (sc:Scope)(x:Str):Prop:=sc.names.lookup x=some .local∨sc.names.lookup x=some .cell
noncomputable def Look (env:Env)(h:Heap)(m:Str→Option Value)(x:Str)(u:Value):Prop:=
 (env.kindOf x=some .local∧m x=some u)∨((env.kindOf x=some .cell∨env.kindOf x=some .free)∧∃c,env.cells.lookup x=some c∧h.IsCell c (some u))

structure Cx.Ok (X:Cx):Prop where
 mod:Mod X.K X.mg X.base
 kind:X.env.scope.kind=.function
 glob:X.env.globals=mainGlobals
 blt:X.env.builtins=builtinsNs
 above:X.s₀.heap.objs.size≤X.env.locals
 inj:∀x y c,X.env.cells.lookup x=some c→X.env.cells.lookup y=some c→x=y
 has:∀x,(X.env.kindOf x=some .cell∨X.env.kindOf x=some .free)→∃c,X.env.cells.lookup x=some c
 cab:∀x c,X.fn x=true→X.env.cells.lookup x=some c→X.s₀.heap.objs.size≤c
 hd:X.calm=true→X.A.handled=none
 frames:X.A.frames=some X.stack
 stk:X.stack=X.outer∨(X.stack=X.env::X.outer∧X.env.frame=some X.env.locals)
 exf:∀b∈X.ex,b≠X.env.locals∧∀x c,X.env.cells.lookup x=some c→c≠b
 bs:∀b o,X.base.get? b=some o→X.s₀.heap.get? b=some o∧X.H₀ b=none
 bsz:X.base.objs.size≤X.s₀.heap.objs.size
 noex:∀b o,X.base.get? b=some o→b∉X.ex
 exfs:∀b∈X.ex,b∉X.fs
 funs:X.s₀.heap.FunFrames X.base X.outer
 frf:∀b∈X.fs,X.H₀ b=none

structure Inv (X:Cx)(pins:List (Addr×Obj))(σ:List (Option V))(H:Hp)(s:Shared):Prop where
 ok:X.Ok
 os:s.os=X.s₀.os
 bare:AllBare s.gens
 base:Un X.fs X.ex X.H₀ H X.s₀.heap s.heap
 loc:∃m,s.heap.Ns X.env.locals m∧∀(i:Nat) (x:Str) (v:V),X.N[i]? = some x→σ[i]? = some (some v)→Vis X.env.scope x→∃u,RelV v u∧Look X.env s.heap m x u
 cell:∀x c,X.env.cells.lookup x=some c→∃v,s.heap.IsCell c v
 free:H X.env.locals=none
 freeC:∀x c,X.env.cells.lookup x=some c→H c=none
 pin:∀p∈X.pn++pins,s.heap.get? p.1=some p.2∧H p.1=none∧p.1≠X.env.locals∧p.1∉X.fs∧∀v,p.2.data≠.cell v
 hok:HOk X.prog X.w H s.heap
 len:σ.length=X.N.length

section
variable {X:Cx}{pins:List (Addr×Obj)}{σ:List (Option V)}{H H':Hp}{s:Shared}{h':Heap}

theorem Cx.Ok.nofr (ok:X.Ok){b:Addr}{o:Obj}(e:X.base.get? b=some o):b∉X.fs:=fun hb=>by
 have:=(ok.funs.mem hb).1
 rw[e] at this;cases this
theorem Inv.bs (I:Inv X pins σ H s):∀b o,X.base.get? b=some o→s.heap.get? b=some o∧H b=none:=fun b o e=>
 ⟨I.base.keep b o (I.ok.bs b o e).1 (I.ok.bs b o e).2 (I.ok.nofr e) (I.ok.noex b o e),I.base.free b o (I.ok.bs b o e).1 (I.ok.bs b o e).2 (I.ok.noex b o e)⟩
theorem Inv.bk (I:Inv X pins σ H s):∀b o,X.base.get? b=some o→s.heap.get? b=some o:=fun b o e=>(I.bs b o e).1
theorem Inv.mod (I:Inv X pins σ H s):Mod X.K X.mg X.base:=I.ok.mod
theorem Inv.kIn (I:Inv X pins σ H s):X.K.In s.heap:=I.ok.mod.kin.keeps I.bk
theorem Inv.lt (I:Inv X pins σ H s):X.env.locals<s.heap.objs.size:=let ⟨_,hn,_⟩:=I.loc;hn.lt
theorem Inv.sz (I:Inv X pins σ H s):X.s₀.heap.objs.size≤s.heap.objs.size:=Nat.le_trans I.ok.above (Nat.le_of_lt I.lt)
theorem Inv.nofs (I:Inv X pins σ H s){a:Addr}(h:s.heap.objs.size≤a):a∉X.fs:=fun hb=>by
 obtain⟨_,o,ho,_⟩:=I.ok.funs.mem hb
 exact absurd (Nat.lt_of_lt_of_le (Heap.lt_size ho) (Nat.le_trans I.sz h)) (Nat.lt_irrefl _)
theorem Inv.cne (I:Inv X pins σ H s):∀x c,X.env.cells.lookup x=some c→c≠X.env.locals:=fun x c e z=>by
 obtain⟨v,o,ho,hd⟩:=I.cell x c e
 obtain⟨m,⟨o',es,ep,ho',hd',_⟩,_⟩:=I.loc
 rw[z,ho'] at ho;cases ho;rw[hd'] at hd;cases hd
theorem Inv.funs (I:Inv X pins σ H s):s.heap.FunFrames X.base X.outer:=by
 have all:∀(l:List Env),(∀b∈frs l,b∈X.fs)→X.s₀.heap.FunFrames X.base l→s.heap.FunFrames X.base l:=by
  intro l
  induction l with
  | nil=>intro _ _;trivial
  | cons env r ih=>
   intro hs hl
   obtain⟨hk,⟨L,o,hf,hn,ho,hd⟩,hr⟩:=hl
   have hL:L∈X.fs:=hs L (by unfold frs;rw[List.filterMap_cons,hf];exact List.mem_cons_self)
   obtain⟨sl,e⟩:=I.base.slot L o ho (I.ok.frf L hL) hL fun z=>I.ok.exfs L z hL
   exact⟨hk,⟨L,_,hf,hn,e,hd⟩,ih (fun b hb=>hs b (by unfold frs;rw[List.filterMap_cons,hf];exact List.mem_cons_of_mem _ hb)) hr⟩
 exact all X.outer (fun _ hb=>hb) I.ok.funs

theorem Inv.stack (I:Inv X pins σ H s):s.heap.FunFrames X.base X.stack:=by
 rcases I.ok.stk with e | ⟨e,hf⟩
 ·rw[e];exact I.funs
 ·rw[e]
  obtain⟨m,hn,_⟩:=I.loc
  refine .cons (by rw[I.ok.kind];decide) hf hn ?_ I.funs
  exact Heap.get?_none_of_le (Nat.le_trans I.ok.bsz I.ok.above)
theorem Inv.stkSub (I:Inv X pins σ H s):∀b∈frs X.stack,b∈X.env.locals::X.fs:=fun b hb=>by
 rcases I.ok.stk with e | ⟨e,hf⟩
 ·rw[e] at hb;exact List.mem_cons_of_mem _ hb
 ·rw[e] at hb
  unfold frs at hb
  rw[List.filterMap_cons,hf] at hb
  exact hb
theorem Inv.stkFree (I:Inv X pins σ H s):∀b∈frs X.stack,H b=none:=fun b hb=>by
 rcases List.mem_cons.mp (I.stkSub b hb) with e | hb
 ·rw[e];exact I.free
 ·obtain⟨_,o,ho,_⟩:=I.ok.funs.mem hb
  exact I.base.free b o ho (I.ok.frf b hb) fun z=>I.ok.exfs b z hb

theorem Inv.step {g':Array GenState}{t':Nat}{d':Drawn}{ch:List Addr}(I:Inv X pins σ H s)
  (hch:∀b∈ch,(b∈X.ex∨X.s₀.heap.objs.size≤b)∧b≠X.env.locals∧(∀x c,X.env.cells.lookup x=some c→c≠b)∧∀p∈X.pn++pins,p.1≠b)
  (keep:∀b o,b≠X.env.locals→b∉X.fs→b∉ch→s.heap.get? b=some o→H b=none→h'.get? b=some o)
  (slot:∀b o,b≠X.env.locals→b∈X.fs→b∉ch→s.heap.get? b=some o→H b=none→∃sl,h'.get? b=some { o with slots:=sl }) (free:∀b o,b∉ch→s.heap.get? b=some o→H b=none→H' b=none)
  (there:∀b o,b∉ch→s.heap.get? b=some o→∃o',h'.get? b=some o')
  (tups:∀b xs,H b=some (.tup xs)→H' b=some (.tup xs)) (frzs:∀b o u,H b=some (.frz o u)→H' b=some (.frz o u)) (tbls:∀b ps,H b=some (.tbl ps)→∃more,H' b=some (.tbl (ps++more)))
  (ns:∀m,s.heap.Ns X.env.locals m→h'.Ns X.env.locals m) (hok:HOk X.prog X.w H' h') (hg:AllBare g'):
  Inv X pins σ H' { s with heap:=h',gens:=g',drawn:=d',toks:=t' }:=by
 have neL:∀b o,X.s₀.heap.get? b=some o→b≠X.env.locals:=fun b o e=>Nat.ne_of_lt (Nat.lt_of_lt_of_le (Heap.lt_size e) I.ok.above)
 have neC:∀b o,X.s₀.heap.get? b=some o→b∉X.ex→b∉ch:=fun b o e hx hb=>by
  rcases(hch b hb).1 with z | z
  ·exact hx z
  ·exact absurd (Nat.lt_of_lt_of_le (Heap.lt_size e) z) (Nat.lt_irrefl _)
 have cellK:∀x c,X.env.cells.lookup x=some c→∀v,s.heap.IsCell c v→h'.IsCell c v:=fun x c e v ⟨o,ho,hd⟩=>by
  have nch:c∉ch:=fun z=>(hch c z).2.2.1 x c e rfl
  by_cases hc:c∈X.fs
  ·obtain⟨sl,q⟩:=slot c o (I.cne x c e) hc nch ho (I.freeC x c e)
   exact⟨_,q,hd⟩
  ·exact⟨o,keep c o (I.cne x c e) hc nch ho (I.freeC x c e),hd⟩
 refine⟨I.ok,I.os,hg,⟨fun b o e n hb hx=>?_,fun b o e n hb hx=>?_,fun b o e n hx=>?_,fun b o e hx=>?_,fun b xs e=>tups b xs (I.base.tups b xs e),fun b o xs e=>frzs b o xs (I.base.frzs b o xs e),fun b ps e=>?_⟩,?_,fun x c e=>?_,?_,fun x c e=>?_,fun p hp=>?_,hok,I.len⟩
 ·exact keep b o (neL b o e) hb (neC b o e hx) (I.base.keep b o e n hb hx) (I.base.free b o e n hx)
 ·obtain⟨sl,e1⟩:=I.base.slot b o e n hb hx
  obtain⟨sl',e2⟩:=slot b _ (neL b o e) hb (neC b o e hx) e1 (I.base.free b o e n hx)
  exact⟨sl',e2⟩
 ·obtain⟨o',e1⟩:=I.base.there b o e hx
  exact free b o' (neC b o e hx) e1 (I.base.free b o e n hx)
 ·obtain⟨o',e1⟩:=I.base.there b o e hx
  exact there b o' (neC b o e hx) e1
 ·obtain⟨m1,e1⟩:=I.base.tbls b ps e
  obtain⟨m2,e2⟩:=tbls b _ e1
  exact⟨m1++m2,by rw[e2,Array.append_assoc]⟩
 ·obtain⟨m,hn,hl⟩:=I.loc
  refine⟨m,ns m hn,fun i x v e1 e2 e3=>?_⟩
  obtain⟨u,r,l⟩:=hl i x v e1 e2 e3
  refine⟨u,r,?_⟩
  rcases l with l | ⟨k,c,e,z⟩
  ·exact .inl l
  ·exact .inr ⟨k,c,e,cellK x c e _ z⟩
 ·obtain⟨v,z⟩:=I.cell x c e
  exact⟨v,cellK x c e v z⟩
 ·obtain⟨m,⟨o,_,_,ho,_⟩,_⟩:=I.loc
  exact free _ o (fun z=>(hch _ z).2.1 rfl) ho I.free
 ·obtain⟨v,o,ho,hd⟩:=I.cell x c e
  exact free c o (fun z=>(hch c z).2.2.1 x c e rfl) ho (I.freeC x c e)
 ·obtain⟨e,n,ne,nf,d⟩:=I.pin p hp
  have nch:p.1∉ch:=fun z=>(hch p.1 z).2.2.2 p hp rfl
  exact⟨keep p.1 p.2 ne nf nch e n,free p.1 p.2 nch e n,ne,nf,d⟩
theorem Inv.un {t':Nat}(I:Inv X pins σ H s)(u:Un X.fs [] H H' s.heap h')(hok:HOk X.prog X.w H' h'):Inv X pins σ H' { s with heap:=h',toks:=t' }:=by
 obtain⟨m,⟨o,es,ep,ho,r⟩,_⟩:=id I.loc
 obtain⟨sl,hL⟩:=u.any ho I.free (by simp)
 exact I.step (g':=s.gens) (d':=s.drawn) (ch:=[]) (fun _ z=>nomatch z) (fun b o _ hb _ e n=>u.keep b o e n hb (by simp)) (fun b o _ hb _ e n=>u.slot b o e n hb (by simp)) (fun b o _ e n=>u.free b o e n (by simp)) (fun b o _ e=>u.there b o e (by simp)) u.tups u.frzs u.tbls (fun m' hm=>by
  obtain⟨o',es',ep',ho',r'⟩:=hm
  rw[ho] at ho';cases ho'
  exact⟨_,es',ep',hL,r'⟩) hok I.bare
theorem Inv.call {g':Array GenState}{t':Nat}{d':Drawn}{ch:List Addr}(I:Inv X pins σ H s)(u:Un (frs X.stack) ch H H' s.heap h')(hok:HOk X.prog X.w H' h')(hg:AllBare g')
  (hch:∀b∈ch,(b∈X.ex∨X.s₀.heap.objs.size≤b)∧b≠X.env.locals∧(∀x c,X.env.cells.lookup x=some c→c≠b)∧∀p∈X.pn++pins,p.1≠b):
  Inv X pins σ H' { s with heap:=h',gens:=g',drawn:=d',toks:=t' }:=by
 obtain⟨m,⟨o,es,ep,ho,r⟩,_⟩:=id I.loc
 obtain⟨sl,hL⟩:=u.any ho I.free fun z=>(hch _ z).2.1 rfl
 exact I.step (ch:=ch) hch (fun b o hL hb hc e n=>u.keep b o e n (fun z=>(List.mem_cons.mp (I.stkSub b z)).elim hL hb) hc) (fun b o _ _ hc e n=>u.any e n hc) (fun b o hc e n=>u.free b o e n hc) (fun b o hc e=>u.there b o e hc) u.tups u.frzs u.tbls (fun m' hm=>by
  obtain⟨o',es',ep',ho',r'⟩:=hm
  rw[ho] at ho';cases ho'
  exact⟨_,es',ep',hL,r'⟩) hok hg
theorem Inv.turned {t':Nat}{it:Addr}(I:Inv X pins σ H s)(k:∀b o,b≠it→s.heap.get? b=some o→h'.get? b=some o)(hn:H it=none)(hL:it≠X.env.locals)
  (h1:it∈X.ex∨X.s₀.heap.objs.size≤it) (h2:∀x c,X.env.cells.lookup x=some c→c≠it) (h3:∀p∈X.pn++pins,p.1≠it):Inv X pins σ H { s with heap:=h',toks:=t' }:=by
 have nit:∀b u,H b=some u→b≠it:=fun b u e z=>by rw[z,hn] at e;cases e
 refine I.step (g':=s.gens) (d':=s.drawn) (ch:=[it]) (fun b hb=>?_) (fun b o _ _ hc e _=>k b o (fun z=>hc (by simp[z])) e) (fun b o _ _ hc e _=>⟨o.slots,k b o (fun z=>hc (by simp[z])) e⟩) (fun _ _ _ _ n=>n)
  (fun b o hc e=>⟨o,k b o (fun z=>hc (by simp[z])) e⟩) (fun _ _ e=>e) (fun _ _ _ e=>e) (fun b ps e=>⟨#[],by rw[e];simp⟩) (fun m hm=>?_) (fun b u e=>?_) I.bare
 ·have e:b=it:=by simpa using hb
  subst e
  exact⟨h1,hL,h2,h3⟩
 ·obtain⟨o,es,ep,ho,r⟩:=hm
  exact⟨o,es,ep,k _ o (Ne.symm hL) ho,r⟩
 ·refine(I.hok b u e).stay (fun c v hc q=>k c v ?_ q) (fun _ q=>q) fun _ _ q=>q
  rcases hc with z | z
  ·rw[z];exact nit b u e
  ·exact nit c _ z
theorem Inv.tok (I:Inv X pins σ H s)(t:Nat):Inv X pins σ H { s with toks:=t }:=I.un (h':=s.heap) (t':=t) Un.refl I.hok
theorem Inv.kept {t':Nat}(I:Inv X pins σ H s)(k:∀b u,s.heap.get? b=some u→h'.get? b=some u):Inv X pins σ H { s with heap:=h',toks:=t' }:=I.un (Un.kept k) (I.hok.kept k)
theorem Inv.laid {a:Addr}{o:HO}{t':Nat}(I:Inv X pins σ H s)(k:∀b u,s.heap.get? b=some u→h'.get? b=some u)(hp:s.heap.objs.size≤a)(new:ObjOk X.prog X.w (upd H a o) h' a o):
  Inv X pins σ (upd H a o) { s with heap:=h',toks:=t' }:=I.un (Un.laid k hp (I.hok.fresh hp)) (I.hok.laid k hp new)
theorem Inv.write {x e:Addr}{o:HO}{t':Nat}(I:Inv X pins σ H s)(mu:Mut (H x))(he:e=x∨H e=some (.own x))(k:∀b u,b≠e→s.heap.get? b=some u→h'.get? b=some u)(heo:∃u,h'.get? e=some u)
  (new:ObjOk X.prog X.w (upd H x o) h' x o):Inv X pins σ (upd H x o) { s with heap:=h',toks:=t' }:=I.un (Un.write mu he k heo) (I.hok.write mu he k heo new)
theorem Inv.weak {σ':List (Option V)}(I:Inv X pins σ H s)(hl:σ'.length=σ.length)(w:∀(i:Nat) v,σ'[i]? = some (some v)→σ[i]? = some (some v)):Inv X pins σ' H s:=
 ⟨I.ok,I.os,I.bare,I.base,let ⟨m,hn,hl'⟩:=I.loc;⟨m,hn,fun i x v e1 e2 e3=>hl' i x v e1 (w i v e2) e3⟩,I.cell,I.free,I.freeC,I.pin,I.hok,hl.trans I.len⟩
theorem Inv.pins_of {pins':List (Addr×Obj)}(I:Inv X pins σ H s)(h:∀p∈pins',s.heap.get? p.1=some p.2∧H p.1=none∧p.1≠X.env.locals∧p.1∉X.fs∧∀v,p.2.data≠.cell v):Inv X pins' σ H s:=
 ⟨I.ok,I.os,I.bare,I.base,I.loc,I.cell,I.free,I.freeC,fun p hp=>(List.mem_append.mp hp).elim (fun z=>I.pin p (List.mem_append_left _ z)) (h p),I.hok,I.len⟩

theorem qKm {N:List Str}(hN:N.Nodup){i j:Nat}{x:Str}(a:N[i]? = some x)(b:N[j]? = some x):i=j:=by
 obtain⟨h1,e1⟩:=List.getElem?_eq_some_iff.mp a
 obtain⟨h2,e2⟩:=List.getElem?_eq_some_iff.mp b
 exact(List.getElem_inj hN).mp (e1.trans e2.symm)

theorem qZz {M:Model}{A:Around}{E:Value→Shared→Prop}{i:Nat}{x:Str}{v:V}{u:Value}{Q:Unit→Shared→Prop}(I:Inv X pins σ H s)(hN:X.N.Nodup)(hi:X.N[i]? = some x)(hx:Loc X.env.scope x)(r:RelV v u)
  (h:∀s',Inv X pins (σ.set i (some v)) H s'→(∃a,Heap.SameBut a s.heap s'.heap∧(a=X.env.locals∨X.env.cells.lookup x=some a))→Q () s') (hf:X.fn x=true∨X.env.scope.names.lookup x=some .local:=by first | exact .inl rfl | exact .inr rfl | assumption):wpAny M A (storeName X.env x u) Q E s:=by
 obtain⟨m,hn,hl⟩:=id I.loc
 have hcls:(X.env.scope.kind == .class || (X.env.scope.kind == .module && X.env.locals != X.env.globals))=false:=by rw[I.ok.kind];rfl
 have hiσ:i<σ.length:=by rw[I.len];exact(List.getElem?_eq_some_iff.mp hi).1
 have cne:=I.cne
 have tracked:∀{a:Addr} {h':Heap},(∃o,s.heap.get? a=some o∧H a=none)→Heap.SameBut a s.heap h'→HOk X.prog X.w H h':=fun{a h'} ha hs b ob e=>by
  obtain⟨_,_,hfree⟩:=ha
  refine(I.hok b ob e).stay (fun c w' hc q=>(hs.2 c ?_).trans q) (fun _ q=>q) fun _ _ q=>q
  rintro rfl
  rcases hc with rfl | hc
  ·rw[hfree] at e;cases e
  ·rw[hfree] at hc;cases hc
 rcases hx with hk | hk
 ·refine wpAny_storeName_local hk hn (fun h' hn' hs=>?_) hcls
  obtain⟨oL,_,_,hoL,_⟩:=id hn
  refine h _ ⟨I.ok,I.os,I.bare,⟨fun b o e n hb hx=>?_,fun b o e n hb hx=>?_,I.base.free,fun b o e hx=>?_,I.base.tups,I.base.frzs,I.base.tbls⟩,⟨_,hn',fun j y v' e1 e2 e3=>?_⟩,fun y c e=>?_,I.free,I.freeC,fun p hp=>?_,tracked ⟨oL,hoL,I.free⟩ hs,by simpa using I.len⟩ ⟨_,hs,.inl rfl⟩
  ·exact(hs.2 b (Nat.ne_of_lt (Nat.lt_of_lt_of_le (Heap.lt_size e) I.ok.above))).trans (I.base.keep b o e n hb hx)
  ·obtain⟨sl,e1⟩:=I.base.slot b o e n hb hx
   exact⟨sl,(hs.2 b (Nat.ne_of_lt (Nat.lt_of_lt_of_le (Heap.lt_size e) I.ok.above))).trans e1⟩
  ·obtain⟨o',e1⟩:=I.base.there b o e hx
   exact⟨o',(hs.2 b (Nat.ne_of_lt (Nat.lt_of_lt_of_le (Heap.lt_size e) I.ok.above))).trans e1⟩
  ·by_cases hj:j=i
   ·subst hj
    rw[hi] at e1;cases e1
    rw[List.getElem?_set_self hiσ] at e2
    cases e2
    exact⟨u,r,.inl ⟨hk,by simp⟩⟩
   ·rw[List.getElem?_set_ne (Ne.symm hj)] at e2
    obtain⟨u',r',q⟩:=hl j y v' e1 e2 e3
    refine⟨u',r',?_⟩
    rcases q with⟨k,e⟩ | ⟨k,c,e,z⟩
    ·refine .inl ⟨k,?_⟩
     have:y≠x:=fun e=>hj (qKm hN e1 (e▸hi))
     simp[this,e]
    ·exact .inr ⟨k,c,e,z.sameBut hs (cne y c e)⟩
  ·obtain⟨w',z⟩:=I.cell y c e
   exact⟨w',z.sameBut hs (cne y c e)⟩
  ·obtain⟨e,n,ne,nf,d⟩:=I.pin p hp
   exact⟨(hs.2 p.1 ne).trans e,n,ne,nf,d⟩
 ·have hfn:X.fn x=true:=by
   rcases hf with z | z
   ·exact z
   ·rw[z] at hk;cases hk
  obtain⟨c,hc⟩:=I.ok.has x (.inl hk)
  obtain⟨w',z⟩:=I.cell x c hc
  refine wpAny_storeName_cell I.ok.kind hk hc z (fun h' hc' hs=>?_)
  obtain⟨oc,hoc,hocd⟩:=id z
  refine h { s with heap:=h' } ⟨I.ok,I.os,I.bare,⟨fun b o e n hb hx=>?_,fun b o e n hb hx=>?_,I.base.free,fun b o e hx=>?_,I.base.tups,I.base.frzs,I.base.tbls⟩,⟨m,hn.sameBut hs (Ne.symm (cne x c hc)),fun j y v' e1 e2 e3=>?_⟩,fun y c' e=>?_,I.free,I.freeC,fun p hp=>?_,tracked ⟨oc,hoc,I.freeC x c hc⟩ hs,by simpa using I.len⟩ ⟨c,hs,.inr hc⟩
  ·exact(hs.2 b (Nat.ne_of_lt (Nat.lt_of_lt_of_le (Heap.lt_size e) (I.ok.cab x c hfn hc)))).trans (I.base.keep b o e n hb hx)
  ·obtain⟨sl,e1⟩:=I.base.slot b o e n hb hx
   exact⟨sl,(hs.2 b (Nat.ne_of_lt (Nat.lt_of_lt_of_le (Heap.lt_size e) (I.ok.cab x c hfn hc)))).trans e1⟩
  ·obtain⟨o',e1⟩:=I.base.there b o e hx
   exact⟨o',(hs.2 b (Nat.ne_of_lt (Nat.lt_of_lt_of_le (Heap.lt_size e) (I.ok.cab x c hfn hc)))).trans e1⟩
  ·by_cases hj:j=i
   ·subst hj
    rw[hi] at e1;cases e1
    rw[List.getElem?_set_self hiσ] at e2
    cases e2
    exact⟨u,r,.inr ⟨.inl hk,c,hc,hc'⟩⟩
   ·rw[List.getElem?_set_ne (Ne.symm hj)] at e2
    obtain⟨u',r',q⟩:=hl j y v' e1 e2 e3
    refine⟨u',r',?_⟩
    rcases q with q | ⟨k,c',e,z'⟩
    ·exact .inl q
    ·refine .inr ⟨k,c',e,z'.sameBut hs ?_⟩
     rintro rfl
     exact hj (qKm hN e1 (I.ok.inj _ _ _ e hc▸hi))
  ·by_cases hcc:c'=c
   ·subst hcc;exact⟨_,hc'⟩
   ·obtain⟨w2,z2⟩:=I.cell y c' e
    exact⟨w2,z2.sameBut hs hcc⟩
  ·obtain⟨e,n,ne,nf,d⟩:=I.pin p hp
   refine⟨(hs.2 p.1 ?_).trans e,n,ne,nf,d⟩
   intro q
   rw[q,hoc] at e
   have q':oc=p.2:=Option.some.inj e
   exact d w' (by rw[← q'];exact hocd)
theorem qYg {M:Model}{A:Around}{E:Value→Shared→Prop}{i:Nat}{x:Str}{v:V}{u:Value}{Q:Unit→Shared→Prop}(I:Inv X pins σ H s)(hN:X.N.Nodup)(hi:X.N[i]? = some x)(hx:Loc X.env.scope x)(r:RelV v u)
  (h:∀s',Inv X pins (σ.set i (some v)) H s'→Q () s') (hf:X.fn x=true∨X.env.scope.names.lookup x=some .local:=by first | exact .inl rfl | exact .inr rfl | assumption):wpAny M A (storeName X.env x u) Q E s:=
 qZz I hN hi hx r (fun s' I' _=>h s' I') hf
theorem Inv.call' {s':Shared}{ch:List Addr}(I:Inv X pins σ H s)(ho:s'.os=s.os)(u:Un (frs X.stack) ch H H' s.heap s'.heap)(hok:HOk X.prog X.w H' s'.heap)(hg:AllBare s'.gens)
  (hch:∀b∈ch,(b∈X.ex∨X.s₀.heap.objs.size≤b)∧b≠X.env.locals∧(∀x c,X.env.cells.lookup x=some c→c≠b)∧∀p∈X.pn++pins,p.1≠b):Inv X pins σ H' s':=by
 obtain⟨h',g',d',t',o'⟩:=s'
 have e:o'=s.os:=ho
 subst e
 exact I.call (g':=g') (t':=t') (d':=d') u hok hg hch
end

noncomputable abbrev XK:=Value→Option Addr→Hp→Prop
noncomputable abbrev St:=List (Option V)
noncomputable abbrev VK:=V→Hp→Prop
noncomputable abbrev TE:=St→Hp→VK→Prop
noncomputable abbrev TT:=St→Hp→(Bool→Hp→Prop)→Prop
noncomputable abbrev TA:=St→Hp→(List V→Hp→Prop)→Prop
structure Ends where
 nx:St→Hp→Prop
 rt:VK
 bk:St→Hp→Prop:=fun _ _=>False
 ct:St→Hp→Prop:=fun _ _=>False
noncomputable abbrev TS:=Ends→St→Hp→Prop

noncomputable def EP (X:Cx)(pins:List (Addr×Obj))(σ:St)(Q:VK)(u:Value)(s':Shared):Prop:=∃v H',Inv X pins σ H' s'∧RelV v u∧Q v H'
noncomputable def TP (X:Cx)(pins:List (Addr×Obj))(σ:St)(Q:Bool→Hp→Prop)(b:Bool)(s':Shared):Prop:=∃H',Inv X pins σ H' s'∧Q b H'
noncomputable def AP (X:Cx)(pins:List (Addr×Obj))(σ:St)(Q:List V→Hp→Prop)(us:List Value)(s':Shared):Prop:=∃vs H',Inv X pins σ H' s'∧Vals vs us∧Q vs H'
noncomputable def SP (X:Cx)(pins:List (Addr×Obj))(D:Ends)(f:Flow)(s':Shared):Prop:=
 match f with
 | .next=>∃σ' H',Inv X pins σ' H' s'∧D.nx σ' H'
 | .brk=>∃σ' H',Inv X pins σ' H' s'∧D.bk σ' H'
 | .cont=>∃σ' H',Inv X pins σ' H' s'∧D.ct σ' H'
 | .ret u=>∃v σ' H',Inv X pins σ' H' s'∧RelV v u∧D.rt v H'

noncomputable def PE (X:Cx)(e:Expr)(t:TE):Prop:=
 ∀(pins:List (Addr×Obj)) (s:Shared) (σ:St) (H:Hp) (Q:VK),Inv X pins σ H s→t σ H Q→wpAny (model X.prog X.w) X.A (eval e X.env) (EP X pins σ Q) X.xe s
noncomputable def PT (X:Cx)(e:Expr)(t:TT):Prop:=
 ∀(pins:List (Addr×Obj)) (s:Shared) (σ:St) (H:Hp) (Q:Bool→Hp→Prop),Inv X pins σ H s→t σ H Q→wpAny (model X.prog X.w) X.A (isTrue e X.env (eval e X.env)) (TP X pins σ Q) X.xe s
noncomputable def PW (X:Cx)(e:Expr)(t:TT):Prop:=
 ∀(whole:Sem Value) (pins:List (Addr×Obj)) (s:Shared) (σ:St) (H:Hp) (Q:Bool→Hp→Prop),Inv X pins σ H s→t σ H Q→wpAny (model X.prog X.w) X.A (isTrue e X.env whole) (TP X pins σ Q) X.xe s
theorem PW.pt {X:Cx}{e:Expr}{t:TT}(h:PW X e t):PT X e t:=h _
noncomputable def PA (X:Cx)(es:List Expr)(t:TA):Prop:=
 ∀(pos:Pos) (pins:List (Addr×Obj)) (s:Shared) (σ:St) (H:Hp) (Q:List V→Hp→Prop),Inv X pins σ H s→t σ H Q→wpAny (model X.prog X.w) X.A (spliced (backTo pos (starEach es X.env))) (AP X pins σ Q) X.xe s
noncomputable def PS (X:Cx)(st:Stmt)(t:TS):Prop:=
 ∀(pins:List (Addr×Obj)) (s:Shared) (σ:St) (H:Hp) (D:Ends),Inv X pins σ H s→t D σ H→wpAny (model X.prog X.w) X.A (exec st X.env) (SP X pins D) X.xe s
noncomputable def PSs (X:Cx)(st:List Stmt)(t:TS):Prop:=
 ∀(pins:List (Addr×Obj)) (s:Shared) (σ:St) (H:Hp) (D:Ends),Inv X pins σ H s→t D σ H→wpAny (model X.prog X.w) X.A (execs st X.env) (SP X pins D) X.xe s
theorem thn {α:Type}{t:Sem α}{Q Q':α→Shared→Prop}{M:Model}{A:Around}{E:Value→Shared→Prop}{s:Shared}(h:wpAny M A t Q E s)(hQ:∀a s,Q a s→Q' a s):wpAny M A t Q' E s:=wpAny_mono h hQ fun _ _ x=>x
end L2

namespace L2
open PySem PySem.Spec PyProof.Rows
section
variable {X:Cx}

noncomputable def tVar (i:Nat):TE:=fun σ H Q=>∃v,σ[i]? = some (some v)∧Q v H
noncomputable def tC (v:V):TE:=fun _ H Q=>Q v H
theorem qPz {i:Nat}{x:Str}{pos:Pos}(hN:X.N[i]? = some x)(hv:Vis X.env.scope x)(hd:(x == ("__debug__" : Str))=false:=by decide)(hcd:(x == ("__classdict__" : Str))=false:=by decide):PE X (.Name x pos) (tVar i):=by
 intro pins s σ H Q I h
 obtain⟨v,e,h⟩:=h
 obtain⟨m,hn,hl⟩:=I.loc
 obtain⟨u,r,l⟩:=hl i x v hN e hv
 have fin:EP X pins σ Q u s:=⟨v,H,I,r,h⟩
 rcases l with⟨hk,hm⟩ | ⟨hk,c,hc,hcell⟩
 ·exact wpAny_Name (wpAny_loadName_local I.ok.kind hk hn hm fin) hd
 ·rcases hk with hk | hk
  ·exact wpAny_Name (wpAny_loadName_cell I.ok.kind hk hc hcell fin) hd
  ·exact wpAny_Name (wpAny_loadName_free I.ok.kind hk hc hcell fin hcd) hd
theorem qD {i j pos}:PE X (.Constant (.int i) j pos) (tC (.int i)):=fun _ _ _ H _ I h=>wpAny_Constant_int ⟨.int i,H,I.tok _,⟨_,rfl⟩,h⟩
theorem qBa {b j pos}:PE X (.Constant (.bool b) j pos) (tC (.bl b)):=fun _ _ _ H _ I h=>Constant_bool ⟨.bl b,H,I,rfl,h⟩
theorem qKf {j pos}:PE X (.Constant .none j pos) (tC .non):=fun _ _ _ H _ I h=>Constant_none ⟨.non,H,I,rfl,h⟩
theorem qE {x j pos}:PE X (.Constant (.str x) j pos) (tC (.str x)):=fun _ _ _ H _ I h=>Calls.Constant_str ⟨.str x,H,I.tok _,⟨_,rfl⟩,h⟩

noncomputable def Gl (X:Cx)(x:Str):Prop:=X.env.kindOf x=some .globalImplicit
theorem qCj {E:Value→Shared→Prop}{pins:List (Addr×Obj)}{s:Shared}{σ:St}{H:Hp}{x:Str}{u:Value}{pos:Pos}{Q:Value→Shared→Prop}(I:Inv X pins σ H s)(hg:Gl X x)(hm:X.mg x=some u)(h:Q u s)
  (hd:(x == ("__debug__" : Str))=false:=by decide):wpAny (model X.prog X.w) X.A (eval (.Name x pos) X.env) Q E s:=
 Calls.Name_function_global I.ok.kind hg (Calls.loadGlobal_global (by rw[I.ok.glob];exact I.mod.glob.keeps I.bk) hm h) hd
theorem wC {E:Value→Shared→Prop}{pins:List (Addr×Obj)}{s:Shared}{σ:St}{H:Hp}{x:Str}{u:Value}{pos:Pos}{Q:Value→Shared→Prop}(I:Inv X pins σ H s)(hg:Gl X x)(hm:X.mg x=none)(hv:bootBuiltins x=some u)(h:Q u s)
  (hn:x ≠ "__name__" := by decide) (hd:(x == ("__debug__" : Str))=false:=by decide):wpAny (model X.prog X.w) X.A (eval (.Name x pos) X.env) Q E s:=by
 obtain⟨mb,h1,h2⟩:=I.mod.blt
 exact Calls.Name_function_global I.ok.kind hg (Calls.loadGlobal_builtin (by rw[I.ok.glob];exact I.mod.glob.keeps I.bk) hm (by rw[I.ok.blt];exact h1.keeps I.bk) ((h2 x hn).trans hv) h) hd
theorem qMw {x:Str}{v:V}{u:Value}{pos:Pos}(hg:Gl X x)(hm:X.mg x=none)(hv:bootBuiltins x=some u)(r:RelV v u)(hn:x ≠ "__name__" := by decide)(hd:(x == ("__debug__" : Str))=false:=by decide):PE X (.Name x pos) (tC v):=
 fun _ _ _ H _ I h=>wC I hg hm hv ⟨v,H,I,r,h⟩ hn hd

variable {a b:Expr}{ta tb:TE}{pos:Pos}
noncomputable def PC (X:Cx)(op:CmpOp)(a b:Expr)(t:TE):Prop:=
 ∀(pins:List (Addr×Obj)) (s:Shared) (σ:St) (H:Hp) (Q:VK),Inv X pins σ H s→t σ H Q→
  wpAny (model X.prog X.w) X.A (eval a X.env) (fun v s₁=>wpAny (model X.prog X.w) X.A (eval b X.env) (fun u s₂=>wpAny (model X.prog X.w) X.A (compareOp op v u) (EP X pins σ Q) X.xe s₂) X.xe s₁) X.xe s
noncomputable def tB (t:TE):TT:=fun σ H Q=>t σ H fun x H1=>∃c,x=.bl c∧Q c H1
theorem qQv {op:CmpOp}{t:TE}(h:PC X op a b t)(h1:behindInMarks op b=false:=by first | exact nobehind _ (by decide) (by decide) | rfl):PT X (.Compare a [op] [b] pos) (tB t):=by
 intro pins s σ H Q I hw
 refine wpAny_isTrue_Compare1 (thn (h pins s σ H _ I hw) fun v s1 h1=>thn h1 fun u s2 h2=>thn h2 fun c s3 ⟨x,H1,I1,r1,q1⟩=>?_) h1
 obtain⟨d,rfl,q⟩:=q1
 cases r1
 exact wpAny_truthy_bool ⟨H1,I1,q⟩
theorem qKc {e:Expr}{t:TE}(h:PE X e t)(he:∀whole,isTrue e X.env whole=(do let v ← whole;standAt e.pos;holding [v] (truthy v)):=by intro _;rfl):PT X e (tB t):=by
 intro pins s σ H Q I hw
 refine isTrue_plain (thn (h pins s σ H _ I hw) fun v s1 ⟨x,H1,I1,r1,q1⟩=>?_) (he _)
 obtain⟨d,rfl,q⟩:=q1
 cases r1
 exact wpAny_truthy_bool ⟨H1,I1,q⟩

variable {tA tB':TT}{rest:List Expr}
noncomputable def tAnd (t u:TT):TT:=fun σ H Q=>t σ H fun c H1=>if c=true then u σ H1 Q else Q false H1
noncomputable def tOr (t u:TT):TT:=fun σ H Q=>t σ H fun c H1=>if c=true then Q true H1 else u σ H1 Q
noncomputable def tNot (t:TT):TT:=fun σ H Q=>t σ H fun c H1=>Q (!c) H1
theorem qAg (ha:PT X a tA):PW X (.BoolOp .And [a] pos) tA:=by
 intro wh pins s σ H Q I h
 refine isTrue_and (thn (ha pins s σ H Q I h) fun c s1 e=>?_)
 cases c with
 | true=>exact isTrue_and_nil e
 | false=>exact e
theorem qOo (ha:PT X a tA):PW X (.BoolOp .Or [a] pos) tA:=by
 intro wh pins s σ H Q I h
 refine isTrue_or (thn (ha pins s σ H Q I h) fun c s1 e=>?_)
 cases c with
 | false=>exact isTrue_or_nil e
 | true=>exact e
theorem qHd (ha:PT X a tA)(hb:PW X (.BoolOp .And (b::rest) pos) tB'):PW X (.BoolOp .And (a::b::rest) pos) (tAnd tA tB'):=by
 intro wh pins s σ H Q I h
 refine isTrue_and (thn (ha pins s σ H _ I h) fun c s1 ⟨H1,I1,q1⟩=>?_)
 cases c with
 | true=>exact hb wh pins s1 σ H1 Q I1 q1
 | false=>exact⟨H1,I1,q1⟩
theorem qSj (ha:PT X a tA)(hb:PW X (.BoolOp .Or (b::rest) pos) tB'):PW X (.BoolOp .Or (a::b::rest) pos) (tOr tA tB'):=by
 intro wh pins s σ H Q I h
 refine isTrue_or (thn (ha pins s σ H _ I h) fun c s1 ⟨H1,I1,q1⟩=>?_)
 cases c with
 | true=>exact⟨H1,I1,q1⟩
 | false=>exact hb wh pins s1 σ H1 Q I1 q1
theorem qHe (ha:PT X a tA):PT X (.UnaryOp .Not a pos) (tNot tA):=by
 intro pins s σ H Q I h
 exact isTrue_not (ha pins s σ H (fun c H1=>Q (!c) H1) I h)
noncomputable def tAndV (ta tb:TE):TE:=fun σ H Q=>ta σ H fun x H1=>∃c,x=.bl c∧if c=true then tb σ H1 Q else Q (.bl false) H1
noncomputable def tNotV (ta:TE):TE:=fun σ H Q=>ta σ H fun x H1=>∃c,x=.bl c∧Q (.bl (!c)) H1
theorem qBv {op}{t:TE}(h:PE X a t):PE X (.BoolOp op [a] pos) t:=fun pins s σ H Q I hw=>BoolOp_one (h pins s σ H Q I hw)
theorem qKh (ha:PE X a ta)(hb:PE X (.BoolOp .And (b::rest) pos) tb):PE X (.BoolOp .And (a::b::rest) pos) (tAndV ta tb):=by
 intro pins s σ H Q I h
 refine BoolOp_and (thn (ha pins s σ H _ I h) fun v s1 ⟨x,H1,I1,r1,q1⟩=>?_)
 obtain⟨c,rfl,q1⟩:=q1
 cases r1
 refine wpAny_truthy_bool ?_
 cases c with
 | true=>exact hb pins s1 σ H1 Q I1 q1
 | false=>exact⟨.bl false,H1,I1,rfl,q1⟩
theorem qHl (ha:PE X a ta):PE X (.UnaryOp .Not a pos) (tNotV ta):=by
 intro pins s σ H Q I h
 refine UnaryOp_ (thn (ha pins s σ H _ I h) fun v s1 ⟨x,H1,I1,r1,q1⟩=>?_)
 obtain⟨c,rfl,q1⟩:=q1
 cases r1
 exact not_of (wpAny_truthy_bool ⟨.bl (!c),H1,I1,rfl,q1⟩)
noncomputable def tIf (t:TT)(ta tb:TE):TE:=fun σ H Q=>t σ H fun c H1=>if c=true then ta σ H1 Q else tb σ H1 Q
theorem vD {c:Expr}(hc:PT X c tA)(ha:PE X a ta)(hb:PE X b tb):PE X (.IfExp c a b pos) (tIf tA ta tb):=by
 intro pins s σ H Q I h
 refine wpAny_IfExp (thn (hc pins s σ H _ I h) fun d s1 ⟨H1,I1,q1⟩=>?_)
 cases d with
 | true=>exact ha pins s1 σ H1 Q I1 q1
 | false=>exact hb pins s1 σ H1 Q I1 q1
end
end L2

namespace L2
open PySem PySem.Spec PyProof.Rows

noncomputable def SqL (K:PySem.W.Frag)(H:Hp)(a:Addr)(xs:List V):Prop:=
 Rd H a (.lst xs)∨
  ∃(o:Obj) (its:Array Value) (n:Nat),K.lookup a=some o∧o.cls=.type "list" ∧ o.dict=none∧o.data=.seq its n∧its.size≤sizeLine∧Vals xs its.toList
noncomputable def SqT (K:PySem.W.Frag)(H:Hp)(a:Addr)(xs:List V):Prop:=
 Rd H a (.tup xs)∨
  ∃(o:Obj) (its:Array Value) (n:Nat),K.lookup a=some o∧o.cls=.type "tuple" ∧ o.data=.seq its n∧its.size≤sizeLine∧Vals xs its.toList
noncomputable def absV:Value→Option V
 | .none=>some .non
 | .bool b=>some (.bl b)
 | .int i _=>some (.int i)
 | .str x _=>some (.str x)
 | .bytes b _=>some (.byt b)
 | .float b _=>some (.flt b)
 | .ref a=>some (.ref a)
 | .type n=>some (.ty n)
 | _=>none
theorem RelV.abs {x:V}{u:Value}(r:RelV x u):absV u=some x:=by
 cases x with
 | non=>cases r;rfl
 | bl _=>cases r;rfl
 | int _=>obtain⟨t,rfl⟩:=r;rfl
 | str _=>obtain⟨t,rfl⟩:=r;rfl
 | byt _=>obtain⟨t,rfl⟩:=r;rfl
 | flt _=>obtain⟨t,rfl⟩:=r;rfl
 | ref _=>cases r;rfl
 | ty _=>cases r;rfl
theorem RelV.inj {x y:V}{u:Value}(r:RelV x u)(q:RelV y u):x=y:=Option.some.inj (r.abs.symm.trans q.abs)
theorem Vals.inj {xs ys:List V}{us:List Value}(h:Vals xs us)(h':Vals ys us):xs=ys:=by
 induction h generalizing ys with
 | nil=>cases h';rfl
 | cons r _ ih=>
  cases h' with
  | cons r' t'=>rw[r.inj r',ih t']
section
variable {X:Cx}{pins:List (Addr×Obj)}{σ:St}{H:Hp}{s:Shared}{a:Addr}{xs ys:List V}
theorem SqL.of {K:PySem.W.Frag}(h:H a=some (.lst xs)):SqL K H a xs:=.inl (.inl h)
theorem SqT.of {K:PySem.W.Frag}(h:H a=some (.tup xs)):SqT K H a xs:=.inl (.inl h)
theorem Inv.list (I:Inv X pins σ H s)(h:SqL X.K H a xs):∃its:List Value,Vals xs its∧PlainL s.heap a its.toArray∧xs.length≤sizeLine:=by
 rcases h with h | ⟨o,its,n,hk,hc,hd,hs,hz,r⟩
 ·obtain⟨z,its,n,r,e⟩:=h.ok I.hok
  exact⟨its,r,⟨_,n,e,rfl,rfl,rfl⟩,z⟩
 ·refine⟨its.toList,r,⟨o,n,I.kIn a o hk,hc,hd,by simpa using hs⟩,?_⟩
  have e:=r.length
  simp only[Array.length_toList] at e
  omega
theorem Inv.tuple (I:Inv X pins σ H s)(h:SqT X.K H a xs):∃its:List Value,Vals xs its∧IsTup s.heap a its.toArray∧xs.length≤sizeLine:=by
 rcases h with h | ⟨o,its,n,hk,hc,hs,hz,r⟩
 ·obtain⟨z,its,r,p⟩:=h.ok I.hok
  exact⟨its,r,p.tup,z⟩
 ·refine⟨its.toList,r,⟨o,I.kIn a o hk,hc,n,by simpa using hs⟩,?_⟩
  have e:=r.length
  simp only[Array.length_toList] at e
  omega
theorem Inv.list_inj (I:Inv X pins σ H s)(h:SqL X.K H a xs)(h':SqL X.K H a ys):xs=ys:=by
 obtain⟨its,r,⟨o,n,e,_,_,d⟩,_⟩:=I.list h
 obtain⟨its',r',⟨o',n',e',_,_,d'⟩,_⟩:=I.list h'
 rw[e] at e';cases e'
 rw[d] at d'
 injection d' with d1 _
 have:its=its':=by simpa using congrArg Array.toList d1
 subst this
 exact r.inj r'
theorem Inv.tuple_inj (I:Inv X pins σ H s)(h:SqT X.K H a xs)(h':SqT X.K H a ys):xs=ys:=by
 obtain⟨its,r,⟨o,e,_,n,d⟩,_⟩:=I.tuple h
 obtain⟨its',r',⟨o',e',_,n',d'⟩,_⟩:=I.tuple h'
 rw[e] at e';cases e'
 rw[d] at d'
 injection d' with d1 _
 have:its=its':=by simpa using congrArg Array.toList d1
 subst this
 exact r.inj r'
end

noncomputable abbrev Cx.wish (X:Cx)(E:Value→Shared→Prop):Cx:={ X with xe:=E }
noncomputable abbrev Cx.nox (X:Cx):Cx:=X.wish fun _ _=>False
theorem Cx.Ok.wish {X:Cx}(ok:X.Ok)(E:Value→Shared→Prop):(X.wish E).Ok:=
 ⟨ok.mod,ok.kind,ok.glob,ok.blt,ok.above,ok.inj,ok.has,ok.cab,ok.hd,ok.frames,ok.stk,ok.exf,ok.bs,ok.bsz,ok.noex,ok.exfs,ok.funs,ok.frf⟩
theorem Cx.Ok.unwish {X:Cx}{E:Value→Shared→Prop}(ok:(X.wish E).Ok):X.Ok:=
 ⟨ok.mod,ok.kind,ok.glob,ok.blt,ok.above,ok.inj,ok.has,ok.cab,ok.hd,ok.frames,ok.stk,ok.exf,ok.bs,ok.bsz,ok.noex,ok.exfs,ok.funs,ok.frf⟩
section
variable {X:Cx}{pins:List (Addr×Obj)}{σ:St}{H:Hp}{s:Shared}{E:Value→Shared→Prop}
theorem Inv.wish (I:Inv X pins σ H s)(E:Value→Shared→Prop):Inv (X.wish E) pins σ H s:=⟨I.ok.wish E,I.os,I.bare,I.base,I.loc,I.cell,I.free,I.freeC,I.pin,I.hok,I.len⟩
theorem Inv.unwish (I:Inv (X.wish E) pins σ H s):Inv X pins σ H s:=⟨I.ok.unwish,I.os,I.bare,I.base,I.loc,I.cell,I.free,I.freeC,I.pin,I.hok,I.len⟩
theorem SP.unwish {D:Ends}{f:Flow}{s':Shared}(h:SP (X.wish E) pins D f s'):SP X pins D f s':=by
 cases f with
 | next=>obtain⟨σ',H',I,q⟩:=h;exact⟨σ',H',I.unwish,q⟩
 | brk=>obtain⟨σ',H',I,q⟩:=h;exact⟨σ',H',I.unwish,q⟩
 | cont=>obtain⟨σ',H',I,q⟩:=h;exact⟨σ',H',I.unwish,q⟩
 | ret u=>obtain⟨v,σ',H',I,r,q⟩:=h;exact⟨v,σ',H',I.unwish,r,q⟩
theorem PSs.nox {st:List Stmt}{t:TS}(h:PSs X.nox st t):PSs X st t:=fun pins s σ H D I hw=>
 wpAny_mono (h pins s σ H D (I.wish _) hw) (fun _ _ q=>q.unwish) fun _ _ z=>False.elim z
end

section
variable {X:Cx}{st:Stmt}{rest:List Stmt}{t u:TS}{e:Expr}{te:TE}{pos:Pos}
noncomputable def tNext:TS:=fun D σ H=>D.nx σ H
noncomputable def tSeq (t u:TS):TS:=fun D σ H=>t { D with nx:=u D } σ H
theorem qY:PSs X [] tNext:=fun _ _ σ H _ I h=>wpAny_execs_nil ⟨σ,H,I,h⟩
theorem qZ (h1:PS X st t)(h2:PSs X rest u):PSs X (st::rest) (tSeq t u):=by
 intro pins s σ H D I h
 refine wpAny_execs_cons (thn (h1 pins s σ H { D with nx:=u D } I h) fun f s1 q=>?_)
 cases f with
 | next=>
  obtain⟨σ',H',I',q⟩:=q
  exact h2 pins s1 σ' H' D I' q
 | ret v=>exact q
 | brk=>exact q
 | cont=>exact q
theorem qJ (h1:PS X st t):PSs X [st] t:=by
 intro pins s σ H D I h
 refine wpAny_execs_cons (thn (h1 pins s σ H D I h) fun f s1 q=>?_)
 cases f with
 | next=>exact wpAny_execs_nil q
 | ret v=>exact q
 | brk=>exact q
 | cont=>exact q
theorem Inv.quiet {pins:List (Addr×Obj)}{σ:St}{H:Hp}{s:Shared}(I:Inv X pins σ H s):interactive X.env=false:=by simp[interactive,I.ok.kind]
noncomputable def tDrop (te:TE):TS:=fun D σ H=>te σ H fun _ H1=>D.nx σ H1
theorem qO (he:PE X e te)(hs:swapsWith e none pos.line X.env=pure false:=by rfl):PS X (.Expr e pos) (tDrop te):=by
 intro pins s σ H D I h
 exact wpAny_Expr_any (thn (he pins s σ H _ I h) fun v s1 ⟨x,H1,I1,r1,q1⟩=>⟨σ,H1,I1,q1⟩) I.quiet hs
noncomputable def tRet (te:TE):TS:=fun D σ H=>te σ H D.rt
theorem qM (he:PE X e te):PS X (.Return (some e) pos) (tRet te):=by
 intro pins s σ H D I h
 exact wpAny_Return_some (thn (he pins s σ H _ I h) fun v s1 ⟨x,H1,I1,r1,q1⟩=>⟨x,σ,H1,I1,r1,q1⟩)
noncomputable def tIfS (c:TT)(t u:TS):TS:=fun D σ H=>c σ H fun b H1=>if b=true then t D σ H1 else u D σ H1
theorem zG {c:Expr}{a b:List Stmt}{tc:TT}(hc:PT X c tc)(ha:PSs X a t)(hb:PSs X b u):PS X (.If c a b pos) (tIfS tc t u):=by
 intro pins s σ H D I h
 refine wpAny_If (thn (hc pins s σ H _ I h) fun d s1 ⟨H1,I1,q1⟩=>?_)
 cases d with
 | true=>exact ha pins s1 σ H1 D I1 q1
 | false=>exact hb pins s1 σ H1 D I1 q1
noncomputable def tNever:TS:=fun _ _ _=>False
theorem vB:PS X st tNever:=fun _ _ _ _ _ _ h=>h.elim
end

noncomputable abbrev TG:=V→St→Hp→(St→Hp→Prop)→Prop
noncomputable abbrev TGs:=List V→St→Hp→(St→Hp→Prop)→Prop
noncomputable def PG (X:Cx)(target:Expr)(t:TG):Prop:=
 ∀(pins:List (Addr×Obj)) (s:Shared) (σ:St) (H:Hp) (v:V) (u:Value) (Q:St→Hp→Prop),Inv X pins σ H s→RelV v u→t v σ H Q→
  wpAny (model X.prog X.w) X.A (assign target X.env u) (fun _ s'=>∃σ' H',Inv X pins σ' H' s'∧Q σ' H') X.xe s
noncomputable def PGs (X:Cx)(ts:List Expr)(t:TGs):Prop:=
 ∀(pins:List (Addr×Obj)) (s:Shared) (σ:St) (H:Hp) (vs:List V) (us:List Value) (Q:St→Hp→Prop),Inv X pins σ H s→Vals vs us→t vs σ H Q→
  wpAny (model X.prog X.w) X.A (assignInOrder ((assignEach ts X.env).map (·.2)) us) (fun _ s'=>∃σ' H',Inv X pins σ' H' s'∧Q σ' H') X.xe s
noncomputable abbrev TSet:=V→V→V→Hp→(Hp→Prop)→Prop
noncomputable def PSet (X:Cx)(t:TSet):Prop:=
 ∀(pins:List (Addr×Obj)) (s:Shared) (σ:St) (H:Hp) (o i v:V) (ov iv u:Value) (Q:Hp→Prop),Inv X pins σ H s→RelV o ov→RelV i iv→RelV v u→t o i v H Q→
  wpAny (model X.prog X.w) X.A (setItem ov iv u) (fun _ s'=>∃H',Inv X pins σ H' s'∧Q H') X.xe s
section
variable {X:Cx}{pos:Pos}
noncomputable def gName (i:Nat):TG:=fun v σ H Q=>Q (σ.set i (some v)) H
theorem qF {i:Nat}{x:Str}(hN:X.N.Nodup)(hi:X.N[i]? = some x)(hx:Loc X.env.scope x)(hf:X.fn x=true∨X.env.scope.names.lookup x=some .local:=by first | exact .inl rfl | exact .inr rfl | assumption):PG X (.Name x pos) (gName i):=by
 intro pins s σ H v u Q I r h
 exact wpAny_assign_Name (qYg I hN hi hx r (fun s' I'=>⟨_,H,I',h⟩) hf)
noncomputable def gNil:TGs:=fun vs σ H Q=>vs=[]∧Q σ H
noncomputable def gCons (t:TG)(u:TGs):TGs:=fun vs σ H Q=>∃v r,vs=v::r∧t v σ H fun σ' H'=>u r σ' H' Q
theorem qH:PGs X [] gNil:=by
 intro pins s σ H vs us Q I r h
 obtain⟨e,h⟩:=h
 subst e
 cases r
 exact assignInOrder_nil ⟨σ,H,I,h⟩
theorem qG {e:Expr}{es:List Expr}{t:TG}{u:TGs}(h1:PG X e t)(h2:PGs X es u)
  (hs:(assignEach (e::es) X.env).map (·.2)=assign e X.env::(assignEach es X.env).map (·.2):=by rfl):PGs X (e::es) (gCons t u):=by
 intro pins s σ H vs us Q I r h
 obtain⟨v,vr,e1,h⟩:=h
 subst e1
 cases r with
 | cons r rr=>
  rw[hs]
  refine assignInOrder_cons (thn (h1 pins s σ H _ _ _ I r h) fun _ s1 ⟨σ1,H1,I1,q1⟩=>?_)
  exact h2 pins s1 σ1 H1 _ _ Q I1 rr q1
noncomputable def gTup (K:PySem.W.Frag)(n:Nat)(t:TGs):TG:=fun v σ H Q=>∃a xs,v=.ref a∧SqT K H a xs∧xs.length=n∧t xs σ H Q
theorem qHh {es:List Expr}{k:Nat}{t:TGs}{n:Nat}(hc:X.calm=true)(h:PGs X es t)
  (hn:(assignEach es X.env).length=n:=by rfl) (hst:(assignEach es X.env).findIdx? (·.1)=none:=by rfl):PG X (.Tuple es k pos) (gTup X.K n t):=by
 intro pins s σ H v u Q I r hw
 obtain⟨a,xs,e1,hq,hl,hw⟩:=hw
 subst e1
 cases r
 obtain⟨its,rv,ht,hz⟩:=I.tuple hq
 refine assign_Tuple_tuple (I.ok.hd hc) ht (by simp[hn,← hl,rv.length]) hst fun h' hx=>?_
 have I1:Inv X pins σ H { s with heap:=h' }:=I.kept (t':=s.toks) fun b o e=>hx b o (Nat.ne_of_lt (Heap.lt_size e)) e
 exact h pins _ σ H xs _ Q I1 (by simpa using rv) hw
noncomputable def gSub (to ti:TE)(t:TSet):TG:=fun v σ H Q=>to σ H fun o H1=>ti σ H1 fun i H2=>t o i v H2 fun H3=>Q σ H3
theorem qHi {o i:Expr}{to ti:TE}{t:TSet}(ho:PE X o to)(hi:PE X i ti)(hs:PSet X t)
  (ha:∀v,assign (.Subscript o i pos) X.env v=(do
   let ov ← holding [v] (eval o X.env)
   let iv ← holding [v,ov] (eval i X.env)
   standAt pos
   holding [v,ov,iv] (setItem ov iv v)
   release [v,ov,iv] []):=by intro _;rfl):PG X (.Subscript o i pos) (gSub to ti t):=by
 intro pins s σ H v u Q I r h
 rw[ha]
 refine wpAny_bind (wpAny_holding (thn (ho pins s σ H _ I h) fun ov s1 ⟨x,H1,I1,r1,q1⟩=>?_))
 refine wpAny_bind (wpAny_holding (thn (hi pins s1 σ H1 _ I1 q1) fun iv s2 ⟨y,H2,I2,r2,q2⟩=>?_))
 refine wpAny_bind (wpAny_standAt (wpAny_bind (wpAny_holding (thn (hs pins s2 σ H2 x y v ov iv u _ I2 r1 r2 r q2) fun _ s3 ⟨H3,I3,q3⟩=>?_))))
 exact wpAny_release ⟨σ,H3,I3,q3⟩
noncomputable def tAsg (te:TE)(g:TG):TS:=fun D σ H=>te σ H fun x H1=>g x σ H1 D.nx
theorem qN {tg e:Expr}{te:TE}{g:TG}(he:PE X e te)(hg:PG X tg g)(hs:swapsWithSole [tg] e pos.line X.env=pure false:=by rfl)(hw:swappedStores [tg] e X.env=pure none:=by rfl)
  (h1:(assignEach [tg] X.env).map (·.2)=[assign tg X.env]:=by rfl):PS X (.Assign [tg] e pos) (tAsg te g):=by
 intro pins s σ H D I h
 refine wpAny_Assign_stores (thn (he pins s σ H _ I h) fun v s1 ⟨x,H1,I1,r1,q1⟩=>?_) hs hw
 rw[h1]
 exact thn (hg pins s1 σ H1 x v _ I1 r1 q1) fun _ s2 q=>q
theorem qI {i:Nat}{x:Str}{e:Expr}{te:TE}{pos':Pos}(hN:X.N.Nodup)(hi:X.N[i]? = some x)(hx:Loc X.env.scope x)(he:PE X e te)(hs:swapsWith e (some (.Name x pos')) pos.line X.env=pure false:=by rfl)(hf:X.fn x=true∨X.env.scope.names.lookup x=some .local:=by first | exact .inl rfl | exact .inr rfl | assumption):
  PS X (.Assign [.Name x pos'] e pos) (tAsg te (gName i)):=by
 intro pins s σ H D I h
 refine wpAny_Assign_Name (thn (he pins s σ H _ I h) fun v s1 ⟨y,H1,I1,r1,q1⟩=>?_) hs
 exact qYg I1 hN hi hx r1 (fun s2 I2=>⟨_,H1,I2,q1⟩) hf
end

section
variable {X:Cx}{pos:Pos}
noncomputable def tWhile (c:TT)(tb:TS):TS:=fun D σ H=>∃W:Nat→St→Hp→Prop,(∃m,W m σ H)∧∀m σ H,W m σ H→
 c σ H fun b H1=>if b=true then ∃N:St→Hp→Prop,(∀σ' H',N σ' H'→∃m',m'<m∧W m' σ' H')∧tb { D with nx:=N,ct:=N,bk:=D.nx } σ H1 else D.nx σ H1
theorem qXz {c:Expr}{body:List Stmt}{tc:TT}{tb:TS}(hp:PassesOwn (model X.prog X.w) X.A X.env X.xe)(hc:PT X c tc)(hb:PSs X body tb):PS X (.While c body [] pos) (tWhile tc tb):=by
 intro pins s σ H D I h
 obtain⟨W,⟨m0,w0⟩,turn⟩:=h
 refine wpAny_While (codeAny_whileLoop (fun n s'=>∃σ' H',Inv X pins σ' H' s'∧W n σ' H') ?_ m0 ⟨σ,H,I,w0⟩)
 rintro n s1 ⟨σ1,H1,I1,w1⟩
 refine wpAny_passesOwn hp (thn (hc pins s1 σ1 H1 _ I1 (turn n σ1 H1 w1)) fun b s2 ⟨H2,I2,q2⟩=>?_)
 cases b with
 | true=>
  obtain⟨N,hN,q2⟩:=q2
  rw[if_pos rfl]
  refine wpAny_passesOwn hp (thn (hb pins s2 σ1 H2 _ I2 q2) fun f s3 q3=>?_)
  cases f with
  | next=>
   obtain⟨σ3,H3,I3,n3⟩:=q3
   obtain⟨m',hm,w3⟩:=hN σ3 H3 n3
   exact⟨m',hm,σ3,H3,I3,w3⟩
  | cont=>
   obtain⟨σ3,H3,I3,n3⟩:=q3
   obtain⟨m',hm,w3⟩:=hN σ3 H3 n3
   exact⟨m',hm,σ3,H3,I3,w3⟩
  | brk=>exact q3
  | ret v=>exact q3
 | false=>
  rw[if_neg Bool.false_ne_true]
  exact wpAny_execs_nil ⟨σ1,H2,I2,q2⟩
end

structure It where
 go:Nat→Hp→Prop
 yld:Nat→Hp→V→Hp→Prop
 stop:Nat→Hp→Prop
noncomputable def FpOk (X:Cx)(pins:List (Addr×Obj))(H:Hp)(b:Addr):Prop:=
 H b=none∧b≠X.env.locals∧b∉X.fs∧(b∈X.ex∨X.s₀.heap.objs.size≤b)∧(∀x c,X.env.cells.lookup x=some c→c≠b)∧∀p∈X.pn++pins,p.1≠b
theorem Inv.fpOk {X:Cx}{pins:List (Addr×Obj)}{σ:St}{H H':Hp}{s:Shared}{b:Addr}(I:Inv X pins σ H s)(hb:s.heap.objs.size≤b)(hn:H' b=none):FpOk X pins H' b:=by
 refine⟨hn,Nat.ne_of_gt (Nat.lt_of_lt_of_le I.lt hb),I.nofs hb,.inr (Nat.le_trans I.sz hb),fun x c e z=>?_,fun p hp z=>?_⟩
 ·obtain⟨v,q⟩:=I.cell x c e
  exact absurd (Nat.lt_of_lt_of_le q.lt (by rw[z];exact hb)) (Nat.lt_irrefl _)
 ·exact absurd (Nat.lt_of_lt_of_le (Heap.lt_size (I.pin p hp).1) (by rw[z];exact hb)) (Nat.lt_irrefl _)
structure Turn (P:Program)(w:World)(K:PySem.W.Frag)(tg:Expr)(J:It)(fp:List Addr)(it:Addr)(tn:Nat→Heap→Prop):Prop where
 mem:it∈fp
 obj:∀i h,tn i h→∀b∈fp,∃o,h.get? b=some o∧∀v,o.data≠.cell v
 keep:∀i h h',tn i h→(∀b∈fp,∀o,h.get? b=some o→h'.get? b=some o)→tn i h'
 item:∀(X:Cx),X.prog=P→X.w=w→X.K=K→X.calm=true→∀(i:Nat) (pins:List (Addr×Obj)) (s:Shared) (σ:St) (H:Hp) (E:Value→Shared→Prop),Inv X pins σ H s→(∀b∈fp,FpOk X pins H b)→tn i s.heap→J.go i H→
  wpAny (model P w) X.A (pyNext (.ref it)) (fun r s1=>∃u,r=some u∧
   wpAny (model P w) X.A (letOwnedTupleGo tg (.ref it) u) (fun _ s2=>∃x H',Inv X pins σ H' s2∧RelV x u∧J.yld i H x H'∧tn (i+1) s2.heap∧∀b∈fp,H' b=none) E s1) E s
 done:∀(X:Cx),X.prog=P→X.w=w→X.K=K→X.calm=true→∀(i:Nat) (pins:List (Addr×Obj)) (s:Shared) (σ:St) (H:Hp) (E:Value→Shared→Prop),Inv X pins σ H s→(∀b∈fp,FpOk X pins H b)→tn i s.heap→J.stop i H→
  wpAny (model P w) X.A (pyNext (.ref it)) (fun r s1=>r=none∧Inv X pins σ H s1) E s
 self:∀(A:Around) (i:Nat) (s:Shared) (Q:Value→Shared→Prop) (E:Value→Shared→Prop),tn i s.heap→Q (.ref it) s→wpAny (model P w) A (pyIter (.ref it)) Q E s
noncomputable abbrev TI:=St→Hp→(It→Hp→Prop)→Prop
noncomputable def PIE (X:Cx)(pins:List (Addr×Obj))(σ:St)(tg:Expr)(R:It→Hp→Prop)(itv:Value)(s2:Shared):Prop:=
 ∃(it:Addr) (fp:List Addr) (tn:Nat→Heap→Prop) (J:It) (H':Hp),itv=.ref it∧Inv X pins σ H' s2∧Turn X.prog X.w X.K tg J fp it tn∧tn 0 s2.heap∧(∀b∈fp,FpOk X pins H' b)∧R J H'
noncomputable def PI (X:Cx)(tg iter:Expr)(wi:TI):Prop:=
 ∀(pins:List (Addr×Obj)) (s:Shared) (σ:St) (H:Hp) (R:It→Hp→Prop),Inv X pins σ H s→wi σ H R→
  wpAny (model X.prog X.w) X.A (eval iter X.env) (fun v s1=>wpAny (model X.prog X.w) X.A (pyIter v) (PIE X pins σ tg R) X.xe s1) X.xe s

theorem qMn {M:Model}{A:Around}{E:Value→Shared→Prop}{s:Shared}{tg:Expr}{it:Addr}{u:Value}{o:Obj}{n:String}{vs:Array Value}{Q:Unit→Shared→Prop}(ho:s.heap.get? it=some o)(hc:o.cls=.type n)(hd:o.data=.fields vs)
  (hn:["enumerate","zip","dict_itemiterator","dict_reverseitemiterator","odict_iterator","itertools.zip_longest","itertools.pairwise"].contains n=false) (hQ:Q () s):wpAny M A (letOwnedTupleGo tg (.ref it) u) Q E s:=by
 unfold letOwnedTupleGo
 cases tg <;> first
  | exact wpAny_pure hQ
  | (cases u <;> first
    | exact wpAny_pure hQ
    | (refine wpAny_bind (wpAny_load ho ?_)
       rw[hc,hd]
       show wpAny M A (if (["enumerate","zip","dict_itemiterator","dict_reverseitemiterator","odict_iterator","itertools.zip_longest","itertools.pairwise"].contains n && vs[0]? == some (rawInt _))=true then _ else _) Q E s
       rw[if_neg (by intro h;rw[hn,Bool.false_and] at h;cases h)]
       exact wpAny_pure hQ))

noncomputable def Itl (K:PySem.W.Frag)(a:Addr):It:=
 ⟨fun i H=>∃xs x,SqL K H a xs∧xs[i]? = some x,fun i H x H'=>H'=H∧∀xs,SqL K H a xs→xs[i]? = some x,fun i H=>∃xs,SqL K H a xs∧xs.length≤i⟩
noncomputable def Itt (K:PySem.W.Frag)(a:Addr):It:=
 ⟨fun i H=>∃xs x,SqT K H a xs∧xs[i]? = some x,fun i H x H'=>H'=H∧∀xs,SqT K H a xs→xs[i]? = some x,fun i H=>∃xs,SqT K H a xs∧xs.length≤i⟩
noncomputable def Itr (lo:Int)(n:Nat):It:=⟨fun i _=>i<n,fun i H x H'=>H'=H∧x=.int (lo+i),fun i _=>n≤i⟩
theorem qWa {P:Program}{w:World}{K:PySem.W.Frag}{tg:Expr}(a it:Addr):Turn P w K tg (Itl K a) [it] it (fun i h=>h.IsListIter it a i) where
 mem:=by simp
 obj:=fun i h st b hb=>by
  have e:b=it:=by simpa using hb
  subst e
  obtain⟨o,e,c,d⟩:=st
  exact⟨o,e,fun v z=>by rw[d] at z;cases z⟩
 keep:=fun i h h' st k=>st.at fun o e=>k it (by simp) o e
 item:=by
  intro X hP hw hK hc i pins s σ H E I hf st hg
  subst hP hw hK
  obtain⟨xs,x,hq,hx⟩:=hg
  obtain⟨its,rv,p,hz⟩:=I.list hq
  obtain⟨u,hu,ru⟩:=rv.get hx
  obtain⟨f0,f1,f2,f3,f4,f5⟩:=hf it (by simp)
  refine wpAny_pyNext_list_item st p.isList (x:=u) (by simpa using hu) fun h' st' sb=>?_
  have I1:Inv X pins σ H { s with heap:=h' }:=I.turned (t':=s.toks) (fun b o hb e=>(sb.2 b hb).trans e) f0 f1 f3 f4 f5
  obtain⟨o,e,c,d⟩:=id st'
  exact⟨u,rfl,qMn (s:={ s with heap:=h' }) e c d (by decide) ⟨x,H,I1,ru,⟨rfl,fun ys hy=>by rw[I.list_inj hy hq];exact hx⟩,st',fun b hb=>(hf b hb).1⟩⟩
 done:=by
  intro X hP hw hK hc i pins s σ H E I hf st hg
  subst hP hw hK
  obtain⟨xs,hq,hx⟩:=hg
  obtain⟨its,rv,p,hz⟩:=I.list hq
  obtain⟨f0,f1,f2,f3,f4,f5⟩:=hf it (by simp)
  have hl:=rv.length
  exact wpAny_pyNext_list_end (I.ok.hd hc) st p.isList (by simp;omega) fun h' eb=>⟨rfl,I.turned (t':=s.toks) (fun b o hb e=>eb b o hb e) f0 f1 f3 f4 f5⟩
 self:=fun _ _ _ _ _ st h=>wpAny_pyIter_listiter st h
theorem qVv {P:Program}{w:World}{K:PySem.W.Frag}{tg:Expr}(a it:Addr):Turn P w K tg (Itt K a) [it] it (fun i h=>h.IsTupleIter it a i) where
 mem:=by simp
 obj:=fun i h st b hb=>by
  have e:b=it:=by simpa using hb
  subst e
  obtain⟨o,e,c,d⟩:=st
  exact⟨o,e,fun v z=>by rw[d] at z;cases z⟩
 keep:=fun i h h' st k=>st.at fun o e=>k it (by simp) o e
 item:=by
  intro X hP hw hK hc i pins s σ H E I hf st hg
  subst hP hw hK
  obtain⟨xs,x,hq,hx⟩:=hg
  obtain⟨its,rv,p,hz⟩:=I.tuple hq
  obtain⟨u,hu,ru⟩:=rv.get hx
  obtain⟨f0,f1,f2,f3,f4,f5⟩:=hf it (by simp)
  refine wpAny_pyNext_tuple_item st (show s.heap.IsTuple a its.toArray from p) (x:=u) (by simpa using hu) fun h' st' sb=>?_
  have I1:Inv X pins σ H { s with heap:=h' }:=I.turned (t':=s.toks) (fun b o hb e=>(sb.2 b hb).trans e) f0 f1 f3 f4 f5
  obtain⟨o,e,c,d⟩:=id st'
  exact⟨u,rfl,qMn (s:={ s with heap:=h' }) e c d (by decide) ⟨x,H,I1,ru,⟨rfl,fun ys hy=>by rw[I.tuple_inj hy hq];exact hx⟩,st',fun b hb=>(hf b hb).1⟩⟩
 done:=by
  intro X hP hw hK hc i pins s σ H E I hf st hg
  subst hP hw hK
  obtain⟨xs,hq,hx⟩:=hg
  obtain⟨its,rv,p,hz⟩:=I.tuple hq
  obtain⟨f0,f1,f2,f3,f4,f5⟩:=hf it (by simp)
  have hl:=rv.length
  exact wpAny_pyNext_tuple_end (I.ok.hd hc) st (show s.heap.IsTuple a its.toArray from p) (by simp;omega) fun h' eb=>⟨rfl,I.turned (t':=s.toks) (fun b o hb e=>eb b o hb e) f0 f1 f3 f4 f5⟩
 self:=fun _ _ _ _ _ st h=>wpAny_pyIter_tupleiter st h
theorem qVw {P:Program}{w:World}{K:PySem.W.Frag}{tg:Expr}(it:Addr)(lo:Int)(n:Nat):Turn P w K tg (Itr lo n) [it] it (fun i h=>IsRangeIter h it (lo+(i:Nat) * 1) ((n:Int) - (i:Nat)) 1) where
 mem:=by simp
 obj:=fun i h st b hb=>by
  have e:b=it:=by simpa using hb
  subst e
  exact⟨_,st,fun v z=>by
   have z':Data.fields _=Data.cell v:=z
   cases z'⟩
 keep:=fun i h h' st k=>k it (by simp) _ st
 item:=by
  intro X hP hw hK hc i pins s σ H E I hf st hg
  subst hP hw hK
  obtain⟨f0,f1,f2,f3,f4,f5⟩:=hf it (by simp)
  have W:=Walks.range (prog:=X.prog) (w:=X.w) (I.ok.hd hc) it lo 1 n
  refine W.item i s _ _ hg st fun v h' tk hv st' kk=>?_
  obtain⟨t,rfl⟩:=hv
  have I1:Inv X pins σ H { s with heap:=h',toks:=tk }:=I.turned (fun b o hb e=>kk b o (by simpa using hb) e) f0 f1 f3 f4 f5
  refine⟨_,rfl,qMn (s:={ s with heap:=h',toks:=tk }) (n := "range_iterator") st' rfl rfl (by decide) ⟨.int (lo+i),H,I1,⟨t,?_⟩,⟨rfl,rfl⟩,st',fun b hb=>(hf b hb).1⟩⟩
  rw[Int.mul_one]
 done:=by
  intro X hP hw hK hc i pins s σ H E I hf st hg
  subst hP hw hK
  obtain⟨f0,f1,f2,f3,f4,f5⟩:=hf it (by simp)
  exact wpAny_pyNext_range_end (I.ok.hd hc) st (by have:n≤i:=hg;omega) fun h' eb=>⟨rfl,I.turned (t':=s.toks) (fun b o hb e=>eb b o hb e) f0 f1 f3 f4 f5⟩
 self:=fun _ _ _ _ _ st h=>wpAny_pyIter_rangeiter st h
end L2

namespace L2
open PySem PySem.Spec PyProof.Rows
section
variable {X:Cx}{tg:Expr}
noncomputable def iList (K:PySem.W.Frag)(tl:TE):TI:=fun σ H R=>tl σ H fun x H1=>∃a,x=.ref a∧(∃xs,SqL K H1 a xs)∧R (Itl K a) H1
noncomputable def iTup (K:PySem.W.Frag)(tl:TE):TI:=fun σ H R=>tl σ H fun x H1=>∃a,x=.ref a∧(∃xs,SqT K H1 a xs)∧R (Itt K a) H1
theorem qBk {l:Expr}{tl:TE}(hl:PE X l tl):PI X tg l (iList X.K tl):=by
 intro pins s σ H R I h
 refine thn (hl pins s σ H _ I h) fun v s1 ⟨x,H1,I1,r1,q1⟩=>?_
 obtain⟨a,e,⟨xs,hq⟩,q⟩:=q1
 subst e
 cases r1
 obtain⟨its,rv,p,hz⟩:=I1.list hq
 refine wpAny_pyIter_list p.isList ?_
 refine⟨s1.heap.objs.size,[s1.heap.objs.size],_,_,H1,rfl,I1.kept (t':=s1.toks) fun b o e=>Heap.get?_push_of_some _ e,qWa a _,⟨_,Heap.get?_push_size _ rfl,rfl,rfl⟩,fun b hb=>?_,q⟩
 have e:b=s1.heap.objs.size:=by simpa using hb
 subst e
 exact I1.fpOk (Nat.le_refl _) (I1.hok.fresh (Nat.le_refl _))
theorem qPx {l:Expr}{tl:TE}(hl:PE X l tl):PI X tg l (iTup X.K tl):=by
 intro pins s σ H R I h
 refine thn (hl pins s σ H _ I h) fun v s1 ⟨x,H1,I1,r1,q1⟩=>?_
 obtain⟨a,e,⟨xs,hq⟩,q⟩:=q1
 subst e
 cases r1
 obtain⟨its,rv,p,hz⟩:=I1.tuple hq
 refine wpAny_pyIter_tuple (show s1.heap.IsTuple a its.toArray from p) ?_
 refine⟨s1.heap.objs.size,[s1.heap.objs.size],_,_,H1,rfl,I1.kept (t':=s1.toks) fun b o e=>Heap.get?_push_of_some _ e,qVv a _,⟨_,Heap.get?_push_size _ rfl,rfl,rfl⟩,fun b hb=>?_,q⟩
 have e:b=s1.heap.objs.size:=by simpa using hb
 subst e
 exact I1.fpOk (Nat.le_refl _) (I1.hok.fresh (Nat.le_refl _))
theorem qKw {pins:List (Addr×Obj)}{σ:St}{H:Hp}{s:Shared}{R:It→Hp→Prop}{E:Value→Shared→Prop}{lo hi:Int}{t u v:Tok}{tk:Nat}(I:Inv X pins σ H s)(h1 : -(2 ^ 62)≤lo)(h2:lo<2 ^ 62)(h3 : -(2 ^ 62)≤hi)(h4:hi<2 ^ 62)
  (q:R (Itr lo (hi - lo).toNat) H):wpAny (model X.prog X.w) X.A (pyIter (.ref s.heap.objs.size)) (PIE X pins σ tg R) E { s with heap:=s.heap.push { cls:=.type "range",data:=.fields #[.int lo t,.int hi u,.int 1 v] },toks:=tk }:=by
 refine wpAny_pyIter_range (IsRange.new ..) (small_one h1 h2 h3 h4) ?_
 have I1:Inv X pins σ H { s with heap:=s.heap.push { cls:=.type "range",data:=.fields #[.int lo t,.int hi u,.int 1 v] },toks:=tk }:=I.kept fun b o e=>Heap.get?_push_of_some _ e
 refine⟨(s.heap.push { cls:=.type "range",data:=.fields #[.int lo t,.int hi u,.int 1 v] }).objs.size,[(s.heap.push { cls:=.type "range",data:=.fields #[.int lo t,.int hi u,.int 1 v] }).objs.size],_,_,H,rfl,
  I1.kept (t':=tk) fun b o e=>Heap.get?_push_of_some _ e,qVw _ lo (hi - lo).toNat,?_,fun b hb=>?_,q⟩
 ·have e1:lo+((0:Nat):Int) * 1=lo:=by simp
  have e2:(((hi - lo).toNat:Nat):Int) - ((0:Nat):Int)=Builtin.Range.rangeSize lo hi 1:=by rw[rangeSize_one];split <;> omega
  show IsRangeIter _ _ (lo+((0:Nat):Int) * 1) ((((hi - lo).toNat:Nat):Int) - ((0:Nat):Int)) 1
  rw[e1,e2]
  exact Heap.get?_push_size _ rfl
 ·have e:b=(s.heap.push { cls:=.type "range",data:=.fields #[.int lo t,.int hi u,.int 1 v] }).objs.size:=by simpa using hb
  subst e
  exact I1.fpOk (Nat.le_refl _) (I1.hok.fresh (Nat.le_refl _))
noncomputable def iRng1 (ta:TA):TI:=fun σ H R=>ta σ H fun vs H1=>∃j:Int,vs=[.int j]∧-(2 ^ 62)≤j∧j<2 ^ 62∧R (Itr 0 j.toNat) H1
noncomputable def iRng2 (ta:TA):TI:=fun σ H R=>ta σ H fun vs H1=>∃i j:Int,vs=[.int i,.int j]∧(-(2 ^ 62)≤i∧i<2 ^ 62∧-(2 ^ 62)≤j∧j<2 ^ 62)∧R (Itr i (j - i).toNat) H1
theorem jQ {a:Expr}{ta:TA}{p pos:Pos}(hg:Gl X "range")(hm:X.mg "range" = none)(ha:PA X [a] ta)(hs:starEach [a] X.env=[(false,eval a X.env)]:=by rfl):PI X tg (.Call (.Name "range" p) [a] [] pos) (iRng1 ta):=by
 intro pins s σ H R I h
 refine Call_ (wC I hg hm boot_range (PyProof.Rows.callWith_type1 (thn (ha pos pins s σ H _ I h) fun us s1 ⟨vs,H1,I1,r1,q1⟩=>?_) hs rfl))
 obtain⟨j,e,q1,q2,q⟩:=q1
 subst e
 cases r1 with
 | cons r rr=>
  cases rr
  obtain⟨t,rfl⟩:=r
  exact call_range_1 (qKw I1 (by omega) (by omega) q1 q2 (by simpa using q))
theorem qBj {a b:Expr}{ta:TA}{p pos:Pos}(hg:Gl X "range")(hm:X.mg "range" = none)(ha:PA X [a,b] ta)(hs:starEach [a,b] X.env=[(false,eval a X.env),(false,eval b X.env)]:=by rfl)(hs2:starEach [b] X.env=[(false,eval b X.env)]:=by rfl):
  PI X tg (.Call (.Name "range" p) [a,b] [] pos) (iRng2 ta):=by
 intro pins s σ H R I h
 refine Call_ (wC I hg hm boot_range (PyProof.Rows.callWith_type1 (thn (ha pos pins s σ H _ I h) fun us s1 ⟨vs,H1,I1,r1,q1⟩=>?_) (by rw[hs,hs2]) (by rw[hs2];rfl)))
 obtain⟨i,j,e,⟨q1,q2,q3,q4⟩,q⟩:=q1
 subst e
 cases r1 with
 | cons r rr=>
  cases rr with
  | cons r' rr=>
   cases rr
   obtain⟨t,rfl⟩:=r
   obtain⟨t',rfl⟩:=r'
   exact call_range_2 (qKw I1 q1 q2 q3 q4 q)

noncomputable def tFor (wi:TI)(g:TG)(tb:TS):TS:=fun D σ H=>wi σ H fun J H1=>∃W:Nat→Nat→St→Hp→Prop,(∃m,W 0 m σ H1)∧∀i m σ H,W i m σ H→
 (J.stop i H∧D.nx σ H)∨(J.go i H∧∃N:St→Hp→Prop,(∀σ' H',N σ' H'→∃m',m'<m∧W (i+1) m' σ' H')∧∀x H',J.yld i H x H'→g x σ H' fun σ2 H2=>tb { D with nx:=N,ct:=N,bk:=D.nx } σ2 H2)
noncomputable def pinsAt (fp:List Addr)(h:Heap):List (Addr×Obj):=fp.filterMap fun b=>(h.get? b).map fun o=>(b,o)
theorem yN {fp:List Addr}{h:Heap}{b:Addr}{o:Obj}(hb:b∈fp)(e:h.get? b=some o):(b,o)∈pinsAt fp h:=List.mem_filterMap.mpr ⟨b,hb,by rw[e];rfl⟩
theorem qBg {fp:List Addr}{h:Heap}{p:Addr×Obj}(hp:p∈pinsAt fp h):p.1∈fp∧h.get? p.1=some p.2:=by
 obtain⟨b,hb,e⟩:=List.mem_filterMap.mp hp
 cases q:h.get? b with
 | none=>rw[q] at e;cases e
 | some o=>
  rw[q] at e
  have e':(b,o)=p:=Option.some.inj e
  subst e'
  exact⟨hb,q⟩
theorem Inv.pinned {pins:List (Addr×Obj)}{σ:St}{H:Hp}{s:Shared}{fp:List Addr}(I:Inv X pins σ H s)(hf:∀b∈fp,FpOk X pins H b)(ho:∀b∈fp,∃o,s.heap.get? b=some o∧∀v,o.data≠.cell v):Inv X (pins++pinsAt fp s.heap) σ H s:=
 I.pins_of fun p hp=>(List.mem_append.mp hp).elim (fun z=>I.pin p (List.mem_append_right _ z)) fun z=>by
  obtain⟨hb,e⟩:=qBg z
  obtain⟨f0,f1,f2,_⟩:=hf p.1 hb
  obtain⟨o,e',d⟩:=ho p.1 hb
  rw[e] at e';cases e'
  exact⟨e,f0,f1,f2,d⟩
theorem Inv.unpinned {pins pl:List (Addr×Obj)}{σ:St}{H:Hp}{s:Shared}(I:Inv X (pins++pl) σ H s):Inv X pins σ H s:=I.pins_of fun p hp=>I.pin p (List.mem_append_right _ (List.mem_append_left _ hp))
theorem wQ {iter:Expr}{body:List Stmt}{wi:TI}{g:TG}{tb:TS}{pos:Pos}(hp:PassesOwn (model X.prog X.w) X.A X.env X.xe)(hc:X.calm=true)(hi:PI X tg iter wi)(hg:PG X tg g)(hb:PSs X body tb)
  (hs:∀x,foldedSetIterable iter X.env x=pure x:=by intro _;rfl):PS X (.For tg iter body [] pos) (tFor wi g tb):=by
 intro pins s σ H D I h
 refine wpAny_For (thn (hi pins s σ H _ I h) fun v s1 h1=>thn h1 fun itv s2 h2=>?_) hs
 obtain⟨it,fp,tn,J,H2,e,I2,T,st2,f2,W,⟨m0,w0⟩,turn⟩:=h2
 subst e
 have stat:∀{H':Hp},(∀b∈fp,H' b=none)→∀b∈fp,FpOk X pins H' b:=fun hn b hb=>⟨hn b hb,(f2 b hb).2⟩
 refine codeAny_forLoop_any (fun n s'=>∃i σ' H',Inv X pins σ' H' s'∧tn i s'.heap∧(∀b∈fp,H' b=none)∧W i n σ' H') ?_ m0 ⟨0,σ,H2,I2,st2,fun b hb=>(f2 b hb).1,w0⟩
 rintro n s3 ⟨i,σ3,H3,I3,st3,fr3,w3⟩
 rcases turn i n σ3 H3 w3 with⟨stop,qn⟩ | ⟨go,N,hN,step⟩
 ·refine wpAny_passesOwn hp (thn (T.done X rfl rfl rfl hc i pins s3 σ3 H3 X.xe I3 (stat fr3) st3 stop) fun r s4 ⟨hr,I4⟩=>?_)
  subst hr
  exact wpAny_execs_nil ⟨σ3,H3,I4,qn⟩
 ·refine wpAny_passesOwn hp (thn (T.item X rfl rfl rfl hc i pins s3 σ3 H3 X.xe I3 (stat fr3) st3 go) fun r s4 ⟨u,hr,h4⟩=>?_)
  subst hr
  refine wpAny_passesOwn hp (thn h4 fun _ s5 ⟨x,H5,I5,r5,y5,st5,fr5⟩=>?_)
  have I5':=I5.pinned (stat fr5) (T.obj _ _ st5)
  refine wpAny_passesOwn hp (thn (hg _ s5 σ3 H5 x u _ I5' r5 (step x H5 y5)) fun _ s6 ⟨σ6,H6,I6,q6⟩=>?_)
  refine wpAny_passesOwn hp (thn (hb _ s6 σ6 H6 _ I6 q6) fun f s7 q7=>?_)
  have again:∀{σ7:St} {H7:Hp},Inv X (pins++pinsAt fp s5.heap) σ7 H7 s7→N σ7 H7→∃m,m<n∧∃i σ' H',Inv X pins σ' H' s7∧tn i s7.heap∧(∀b∈fp,H' b=none)∧W i m σ' H':=fun{σ7 H7} I7 n7=>by
   obtain⟨m',hm,w7⟩:=hN σ7 H7 n7
   refine⟨m',hm,i+1,σ7,H7,I7.unpinned,T.keep _ _ _ st5 fun b hb o e=>(I7.pin (b,o) (List.mem_append_right _ (List.mem_append_right _ (yN hb e)))).1,fun b hb=>?_,w7⟩
   obtain⟨o,e,d⟩:=T.obj _ _ st5 b hb
   exact(I7.pin (b,o) (List.mem_append_right _ (List.mem_append_right _ (yN hb e)))).2.1
  cases f with
  | next=>obtain⟨σ7,H7,I7,n7⟩:=q7;exact again I7 n7
  | cont=>obtain⟨σ7,H7,I7,n7⟩:=q7;exact again I7 n7
  | brk=>obtain⟨σ7,H7,I7,q7⟩:=q7;exact⟨σ7,H7,I7.unpinned,q7⟩
  | ret v=>obtain⟨x7,σ7,H7,I7,r7,q7⟩:=q7;exact⟨x7,σ7,H7,I7.unpinned,r7,q7⟩
end

theorem kB {K:PySem.W.Frag}{a:Addr}{xs:List V}{g:TG}{tb:TS}{D:Ends}{σ:St}{H:Hp}(Pv:Nat→St→Hp→Prop)(h0:Pv 0 σ H)(hl:∀i σ H,i≤xs.length→Pv i σ H→SqL K H a xs)
  (hs:∀i x σ H,xs[i]? = some x→Pv i σ H→g x σ H fun σ2 H2=>tb { D with nx:=Pv (i+1),ct:=Pv (i+1),bk:=D.nx } σ2 H2) (hd:∀σ H,Pv xs.length σ H→D.nx σ H):
  ∃W:Nat→Nat→St→Hp→Prop,(∃m,W 0 m σ H)∧∀i m σ H,W i m σ H→
   ((Itl K a).stop i H∧D.nx σ H)∨((Itl K a).go i H∧∃N:St→Hp→Prop,(∀σ' H',N σ' H'→∃m',m'<m∧W (i+1) m' σ' H')∧∀x H',(Itl K a).yld i H x H'→g x σ H' fun σ2 H2=>tb { D with nx:=N,ct:=N,bk:=D.nx } σ2 H2):=by
 refine⟨fun i m σ H=>m=xs.length - i∧i≤xs.length∧Pv i σ H,⟨xs.length,by simp,Nat.zero_le _,h0⟩,?_⟩
 rintro i m σ H ⟨rfl,hi,p⟩
 have q:=hl i σ H hi p
 by_cases hlt:i<xs.length
 ·refine .inr ⟨⟨xs,xs[i],q,by simp[hlt]⟩,Pv (i+1),fun σ' H' p'=>⟨xs.length - (i+1),by omega,rfl,hlt,p'⟩,fun x H' y=>?_⟩
  obtain⟨e,y⟩:=y
  subst e
  exact hs i x σ _ (y xs q) p
 ·have e:i=xs.length:=by omega
  subst e
  exact .inl ⟨⟨xs,q,Nat.le_refl _⟩,hd σ H p⟩
theorem qCn {lo:Int}{n:Nat}{g:TG}{tb:TS}{D:Ends}{σ:St}{H:Hp}(Pv:Nat→St→Hp→Prop)(h0:Pv 0 σ H)
  (hs:∀i σ H,i<n→Pv i σ H→g (.int (lo+i)) σ H fun σ2 H2=>tb { D with nx:=Pv (i+1),ct:=Pv (i+1),bk:=D.nx } σ2 H2) (hd:∀σ H,Pv n σ H→D.nx σ H):
  ∃W:Nat→Nat→St→Hp→Prop,(∃m,W 0 m σ H)∧∀i m σ H,W i m σ H→
   ((Itr lo n).stop i H∧D.nx σ H)∨((Itr lo n).go i H∧∃N:St→Hp→Prop,(∀σ' H',N σ' H'→∃m',m'<m∧W (i+1) m' σ' H')∧∀x H',(Itr lo n).yld i H x H'→g x σ H' fun σ2 H2=>tb { D with nx:=N,ct:=N,bk:=D.nx } σ2 H2):=by
 refine⟨fun i m σ H=>m=n - i∧i≤n∧Pv i σ H,⟨n,by simp,Nat.zero_le _,h0⟩,?_⟩
 rintro i m σ H ⟨rfl,hi,p⟩
 by_cases hlt:i<n
 ·refine .inr ⟨hlt,Pv (i+1),fun σ' H' p'=>⟨n - (i+1),by omega,rfl,hlt,p'⟩,fun x H' y=>?_⟩
  obtain⟨e,y⟩:=y
  subst e y
  exact hs i σ _ hlt p
 ·have e:i=n:=by omega
  subst e
  exact .inl ⟨Nat.le_refl _,hd σ H p⟩
end L2

namespace L2
open PySem PySem.Spec PyProof.Rows

noncomputable abbrev R2:=V→V→Hp→VK→Prop
noncomputable def OpR (X:Cx)(f:Value→Value→Sem Value)(r:R2):Prop:=
 ∀(pins:List (Addr×Obj)) (s:Shared) (σ:St) (H:Hp) (x y:V) (v u:Value) (Q:VK),Inv X pins σ H s→RelV x v→RelV y u→r x y H Q→
  wpAny (model X.prog X.w) X.A (f v u) (EP X pins σ Q) X.xe s
noncomputable def CallR (X:Cx)(f:Value)(r:List V→Hp→VK→Prop):Prop:=
 ∀(pins:List (Addr×Obj)) (s:Shared) (σ:St) (H:Hp) (xs:List V) (us:List Value) (Q:VK),Inv X pins σ H s→Vals xs us→r xs H Q→
  wpAny (model X.prog X.w) X.A (call f us) (EP X pins σ Q) X.xe s
noncomputable def tOp (r:R2)(ta tb:TE):TE:=fun σ H Q=>ta σ H fun x H1=>tb σ H1 fun y H2=>r x y H2 Q
noncomputable def rI (C:Int→Int→Prop)(g:Int→Int→V):R2:=fun x y H Q=>∃i j,x=.int i∧y=.int j∧C i j∧Q (g i j) H
noncomputable def rI0 (g:Int→Int→V):R2:=fun x y H Q=>∃i j,x=.int i∧y=.int j∧Q (g i j) H
section
variable {X:Cx}{a b c:Expr}{ta tb tc:TE}{pos:Pos}

theorem binT (ha:PE X a ta)(hb:PE X b tb){pins:List (Addr×Obj)}{s:Shared}{σ:St}{H:Hp}{R:V→V→Hp→Prop}(I:Inv X pins σ H s)
  (h:ta σ H fun x H1=>tb σ H1 fun y H2=>R x y H2) {Q:Value→Shared→Prop} {f:Value→Value→Sem Value}
  (hf:∀v u s2 x y H2,Inv X pins σ H2 s2→RelV x v→RelV y u→R x y H2→wpAny (model X.prog X.w) X.A (f v u) Q X.xe s2):
  wpAny (model X.prog X.w) X.A (eval a X.env) (fun v s₁=>wpAny (model X.prog X.w) X.A (eval b X.env) (fun u s₂=>wpAny (model X.prog X.w) X.A (f v u) Q X.xe s₂) X.xe s₁) X.xe s:=by
 refine thn (ha pins s σ H _ I h) fun v s1 ⟨x,H1,I1,r1,q1⟩=>?_
 refine thn (hb pins s1 σ H1 _ I1 q1) fun u s2 ⟨y,H2,I2,r2,q2⟩=>?_
 exact hf v u s2 x y H2 I2 r1 r2 q2

theorem qU {op:Operator}{r:R2}(ho:OpR X (binaryOp op) r)(ha:PE X a ta)(hb:PE X b tb):PE X (.BinOp a op b pos) (tOp r ta tb):=by
 intro pins s σ H Q I h
 exact wpAny_BinOp (binT ha hb I h fun v u s2 x y H2 I2 rx ry q=>ho pins s2 σ H2 x y v u Q I2 rx ry q)
theorem opI {f:Value→Value→Sem Value}{C:Int→Int→Prop}{g:Int→Int→Int}
  (rule:∀(i j:Int) (t u:Tok) (s:Shared) (Q:Value→Shared→Prop) (E:Value→Shared→Prop),C i j→Q (.int (g i j) s.toks) { s with toks:=s.toks+1 }→wpAny (model X.prog X.w) X.A (f (.int i t) (.int j u)) Q E s):
  OpR X f (rI C fun i j=>.int (g i j)):=by
 intro pins s σ H x y v u Q I rx ry h
 obtain⟨i,j,rfl,rfl,hc,q⟩:=h
 obtain⟨t,rfl⟩:=rx
 obtain⟨t',rfl⟩:=ry
 exact rule i j t t' s _ _ hc ⟨.int (g i j),H,I.tok _,⟨_,rfl⟩,q⟩
theorem opI0 {f:Value→Value→Sem Value}{g:Int→Int→Int}
  (rule:∀(i j:Int) (t u:Tok) (s:Shared) (Q:Value→Shared→Prop) (E:Value→Shared→Prop),Q (.int (g i j) s.toks) { s with toks:=s.toks+1 }→wpAny (model X.prog X.w) X.A (f (.int i t) (.int j u)) Q E s):
  OpR X f (rI0 fun i j=>.int (g i j)):=by
 intro pins s σ H x y v u Q I rx ry h
 obtain⟨i,j,rfl,rfl,q⟩:=h
 obtain⟨t,rfl⟩:=rx
 obtain⟨t',rfl⟩:=ry
 exact rule i j t t' s _ _ ⟨.int (g i j),H,I.tok _,⟨_,rfl⟩,q⟩
theorem opB0 {f:Value→Value→Sem Value}{g:Int→Int→Bool}
  (rule:∀(i j:Int) (t u:Tok) (s:Shared) (Q:Value→Shared→Prop) (E:Value→Shared→Prop),Q (.bool (g i j)) s→wpAny (model X.prog X.w) X.A (f (.int i t) (.int j u)) Q E s):
  OpR X f (rI0 fun i j=>.bl (g i j)):=by
 intro pins s σ H x y v u Q I rx ry h
 obtain⟨i,j,rfl,rfl,q⟩:=h
 obtain⟨t,rfl⟩:=rx
 obtain⟨t',rfl⟩:=ry
 exact rule i j t t' s _ _ ⟨.bl (g i j),H,I,rfl,q⟩

noncomputable def CPow (i j:Int):Prop:=0≤j∧j≤1000000∧i.natAbs<2 ^ 64
theorem zI:OpR X (binaryOp .Add) (rI0 fun i j=>.int (i+j)):=opI0 fun _ _ _ _ _ _ _ q=>add_int q
theorem kY:OpR X (binaryOp .Sub) (rI0 fun i j=>.int (i - j)):=opI0 fun _ _ _ _ _ _ _ q=>sub_int q
theorem kK:OpR X (binaryOp .Mod) (rI (fun _ j=>0<j) fun i j=>.int (i % j)):=opI fun i j _ _ _ _ _ hc q=>by
 have h1:(0:Int)<j:=hc
 exact mod_int' (by omega) (by rw[Int.fmod_eq_emod_of_nonneg i (by omega)];exact q)
theorem qHm:OpR X (binaryOp .Pow) (rI CPow fun i j=>.int (i ^ j.toNat)):=opI fun _ _ _ _ _ _ _ hc q=>pow_int_small hc.1 hc.2.1 hc.2.2 q
end

noncomputable def scal:V→V→Bool
 | .non,.non=>true | .non,.int _=>true | .int _,.non=>true | .non,.bl _=>true | .bl _,.non=>true | .non,.str _=>true | .str _,.non=>true
 | .int _,.int _=>true | .bl _,.bl _=>true | .str _,.str _=>true | .byt _,.byt _=>true
 | .int _,.str _=>true | .str _,.int _=>true | .bl _,.str _=>true | .str _,.bl _=>true
 | _,_=>false
noncomputable def rEq:R2:=fun x y H Q=>scal x y=true∧Q (.bl (decide (x=y))) H
noncomputable def rNe:R2:=fun x y H Q=>scal x y=true∧Q (.bl (!decide (x=y))) H

theorem qDe {i j:Int}:decide (V.int i=V.int j)=(i == j):=by
 rw[Bool.eq_iff_iff]
 simp
theorem qIj {i j:Bool}:decide (V.bl i=V.bl j)=(i == j):=by
 rw[Bool.eq_iff_iff]
 simp
theorem qDd {i j:Str}:decide (V.str i=V.str j)=(i == j):=by
 rw[Bool.eq_iff_iff]
 simp
theorem qDf {i j:Array UInt8}:decide (V.byt i=V.byt j)=(i.toList == j.toList):=by
 rw[Bool.eq_iff_iff]
 cases i
 cases j
 simp

section
variable {X:Cx}{a b c:Expr}{ta tb tc:TE}{pos:Pos}
theorem xT {pins:List (Addr×Obj)}{σ:St}{H:Hp}{s:Shared}{Q:VK}{k k':Bool}(I:Inv X pins σ H s)(q:Q (.bl k) H)(e:k=k'):EP X pins σ Q (.bool k') s:=by
 subst e
 exact⟨.bl k,H,I,rfl,q⟩
theorem jE:OpR X (compareOp .Eq) rEq:=by
 intro pins s σ H x y v u Q I rx ry h
 obtain⟨hs,q⟩:=h
 cases x with
 | non=>
  cases rx
  cases y with
  | non=>cases ry;exact PySem.EqNone.eq_none_none (xT I q (by simp))
  | bl j=>cases ry;exact PySem.EqNone.eq_none_bool (xT I q (by simp))
  | int j=>obtain⟨t',rfl⟩:=ry;exact PySem.EqNone.eq_none_int (xT I q (by simp))
  | str j=>obtain⟨t',rfl⟩:=ry;exact PySem.EqNone.eq_none_str (xT I q (by simp))
  | _=>exact absurd (show false=true from hs) Bool.false_ne_true
 | bl i=>
  cases rx
  cases y with
  | non=>cases ry;exact PySem.EqNone.eq_bool_none (xT I q (by simp))
  | bl j=>cases ry;exact eq_bool (xT I q qIj)
  | str j=>obtain⟨t',rfl⟩:=ry;exact PySem.EqMixed.eq_bool_str (xT I q (by simp))
  | _=>exact absurd (show false=true from hs) Bool.false_ne_true
 | int i=>
  obtain⟨t,rfl⟩:=rx
  cases y with
  | non=>cases ry;exact PySem.EqNone.eq_int_none (xT I q (by simp))
  | int j=>obtain⟨t',rfl⟩:=ry;exact eq_int (xT I q qDe)
  | str j=>obtain⟨t',rfl⟩:=ry;exact PySem.EqMixed.eq_int_str (xT I q (by simp))
  | _=>exact absurd (show false=true from hs) Bool.false_ne_true
 | str i=>
  obtain⟨t,rfl⟩:=rx
  cases y with
  | non=>cases ry;exact PySem.EqNone.eq_str_none (xT I q (by simp))
  | bl j=>cases ry;exact PySem.EqMixed.eq_str_bool (xT I q (by simp))
  | int j=>obtain⟨t',rfl⟩:=ry;exact PySem.EqMixed.eq_str_int (xT I q (by simp))
  | str j=>obtain⟨t',rfl⟩:=ry;exact eq_str (xT I q qDd)
  | _=>exact absurd (show false=true from hs) Bool.false_ne_true
 | byt i=>
  obtain⟨t,rfl⟩:=rx
  cases y with
  | byt j=>obtain⟨t',rfl⟩:=ry;exact PySem.W.eq_bytes (xT I q qDf)
  | _=>exact absurd (show false=true from hs) Bool.false_ne_true
 | _=>cases y <;> exact absurd (show false=true from hs) Bool.false_ne_true
theorem qPb:OpR X (compareOp .NotEq) rNe:=by
 intro pins s σ H x y v u Q I rx ry h
 obtain⟨hs,q⟩:=h
 cases x with
 | non=>
  cases rx
  cases y with
  | non=>cases ry;exact PySem.EqNone.ne_none_none (xT I q (by simp))
  | bl j=>cases ry;exact PySem.EqNone.ne_none_bool (xT I q (by simp))
  | int j=>obtain⟨t',rfl⟩:=ry;exact PySem.EqNone.ne_none_int (xT I q (by simp))
  | str j=>obtain⟨t',rfl⟩:=ry;exact PySem.EqNone.ne_none_str (xT I q (by simp))
  | _=>exact absurd (show false=true from hs) Bool.false_ne_true
 | bl i=>
  cases rx
  cases y with
  | non=>cases ry;exact PySem.EqNone.ne_bool_none (xT I q (by simp))
  | bl j=>cases ry;exact ne_bool (xT I q (congrArg not qIj))
  | str j=>obtain⟨t',rfl⟩:=ry;exact PySem.EqMixed.ne_bool_str (xT I q (by simp))
  | _=>exact absurd (show false=true from hs) Bool.false_ne_true
 | int i=>
  obtain⟨t,rfl⟩:=rx
  cases y with
  | non=>cases ry;exact PySem.EqNone.ne_int_none (xT I q (by simp))
  | int j=>obtain⟨t',rfl⟩:=ry;exact ne_int (xT I q (congrArg not qDe))
  | str j=>obtain⟨t',rfl⟩:=ry;exact PySem.EqMixed.ne_int_str (xT I q (by simp))
  | _=>exact absurd (show false=true from hs) Bool.false_ne_true
 | str i=>
  obtain⟨t,rfl⟩:=rx
  cases y with
  | non=>cases ry;exact PySem.EqNone.ne_str_none (xT I q (by simp))
  | bl j=>cases ry;exact PySem.EqMixed.ne_str_bool (xT I q (by simp))
  | int j=>obtain⟨t',rfl⟩:=ry;exact PySem.EqMixed.ne_str_int (xT I q (by simp))
  | str j=>obtain⟨t',rfl⟩:=ry;exact ne_str (xT I q (congrArg not qDd))
  | _=>exact absurd (show false=true from hs) Bool.false_ne_true
 | byt i=>
  obtain⟨t,rfl⟩:=rx
  cases y with
  | byt j=>obtain⟨t',rfl⟩:=ry;exact PySem.W.ne_bytes (xT I q (congrArg not qDf))
  | _=>exact absurd (show false=true from hs) Bool.false_ne_true
 | _=>cases y <;> exact absurd (show false=true from hs) Bool.false_ne_true

theorem qBd:OpR X (compareOp .Lt) (rI0 fun i j=>.bl (decide (i<j))):=opB0 fun _ _ _ _ _ _ _ q=>lt_int q
theorem qSv:OpR X (compareOp .LtE) (rI0 fun i j=>.bl (decide (i≤j))):=opB0 fun _ _ _ _ _ _ _ q=>le_int q
theorem qPe:OpR X (compareOp .GtE) (rI0 fun i j=>.bl (decide (j≤i))):=opB0 fun _ _ _ _ _ _ _ q=>ge_int q
theorem qPc:OpR X (compareOp .Is) (fun x y H Q=>y=.non∧Q (.bl (decide (x=.non))) H):=by
 intro pins s σ H x y v u Q I rx ry h
 obtain⟨rfl,q⟩:=h
 cases ry
 refine is_none_gen (xT I q ?_)
 cases x <;> first
  | (cases rx;rfl)
  | (obtain⟨t,rfl⟩:=rx;rfl)
theorem xC (b:Expr){op:CmpOp}(h:op≠.In:=by decide)(h2:op≠.NotIn:=by decide):behindInMarks op b=false:=by
 have e1:(op == CmpOp.In)=false:=by cases op <;> first | rfl | exact absurd rfl h
 have e2:(op == CmpOp.NotIn)=false:=by cases op <;> first | rfl | exact absurd rfl h2
 cases b <;> simp[behindInMarks,e1,e2]
theorem kU {op:CmpOp}{r:R2}(ho:OpR X (compareOp op) r)(ha:PE X a ta)(hb:PE X b tb)(hm:behindInMarks op b=false):PE X (.Compare a [op] [b] pos) (tOp r ta tb):=by
 intro pins s σ H Q I h
 exact wpAny_Compare1 (binT ha hb I h fun v u s2 x y H2 I2 rx ry q=>ho pins s2 σ H2 x y v u Q I2 rx ry q) hm
noncomputable def tTest (t:TE):TT:=fun σ H Q=>t σ H fun x H'=>∃k,x=.bl k∧Q k H'
theorem qP {op:CmpOp}{r:R2}(ho:OpR X (compareOp op) r)(ha:PE X a ta)(hb:PE X b tb)(hm:behindInMarks op b=false):PT X (.Compare a [op] [b] pos) (tTest (tOp r ta tb)):=by
 intro pins s σ H Q I h
 refine wpAny_isTrue_Compare1 (thn (ha pins s σ H _ I h) fun v s1 ⟨x,H1,I1,r1,q1⟩=>thn (hb pins s1 σ H1 _ I1 q1) fun u s2 ⟨y,H2,I2,r2,q2⟩=>
  thn (ho pins s2 σ H2 x y v u _ I2 r1 r2 q2) fun c s3 ⟨z,H3,I3,r3,k,e,q3⟩=>?_) hm
 subst e
 cases r3
 exact wpAny_truthy_bool ⟨H3,I3,q3⟩
noncomputable def tChain (r r':R2)(ta tb tc:TE):TE:=fun σ H Q=>ta σ H fun x H1=>tb σ H1 fun y H2=>r x y H2 fun z H3=>∃k,z=.bl k∧
 (if k=true then tc σ H3 fun w' H4=>r' y w' H4 Q else Q (.bl false) H3)
theorem qFz {op op':CmpOp}{r r':R2}(ho:OpR X (compareOp op) r)(ho':OpR X (compareOp op') r')(ha:PE X a ta)(hb:PE X b tb)(hc:PE X c tc)
  (hm:lastMarks [op,op'] [b,c]=false:=by with_unfolding_all rfl):PT X (.Compare a [op,op'] [b,c] pos) (tTest (tChain r r' ta tb tc)):=by
 intro pins s σ H Q I h
 refine isTrue_chain (thn (ha pins s σ H _ I h) fun v s1 ⟨x,H1,I1,r1,q1⟩=>test_link (thn (hb pins s1 σ H1 _ I1 q1) fun u s2 ⟨y,H2,I2,r2,q2⟩=>
  thn (ho pins s2 σ H2 x y v u _ I2 r1 r2 q2) fun d s3 ⟨z,H3,I3,r3,k,e,q3⟩=>?_)) hm
 subst e
 cases r3
 refine wpAny_truthy_bool ?_
 cases k with
 | false=>
  obtain⟨k',e',q'⟩:=q3
  cases e'
  exact ite_ff ⟨H3,I3,q'⟩
 | true=>
  refine ite_tt (test_last (thn (hc pins s3 σ H3 _ I3 q3) fun w' s4 ⟨z',H4,I4,r4,q4⟩=>thn (ho' pins s4 σ H4 y z' u w' _ I4 r2 r4 q4) fun d' s5 ⟨z2,H5,I5,r5,k2,e2,q5⟩=>?_))
  subst e2
  cases r5
  exact wpAny_truthy_bool ⟨H5,I5,q5⟩

theorem line63:(sizeLine:Nat)<2 ^ 63:=by rw[sizeLine_eq];decide
theorem vals1 {x:V}{us:List Value}(r:Vals [x] us):∃u,us=[u]∧RelV x u:=by
 cases r with
 | cons r1 r2=>cases r2;exact⟨_,rfl,r1⟩
theorem vals2 {x y:V}{us:List Value}(r:Vals [x,y] us):∃u w',us=[u,w']∧RelV x u∧RelV y w':=by
 cases r with
 | cons r1 r2=>
  cases r2 with
  | cons r3 r4=>cases r4;exact⟨_,_,rfl,r1,r3⟩
theorem qEz:CallR X (.type "int") (fun xs H Q=>(∃i,xs=[.int i]∧Q (.int i) H)∨∃k,xs=[.bl k]∧Q (.int (if k then 1 else 0)) H):=by
 intro pins s σ H xs us Q I r h
 rcases h with⟨i,rfl,q⟩ | ⟨k,rfl,q⟩
 ·obtain⟨u,rfl,t,rfl⟩:=vals1 r
  exact call_int_int ⟨.int i,H,I,⟨_,rfl⟩,q⟩
 ·obtain⟨u,rfl,r1⟩:=vals1 r
  cases r1
  exact call_int_bool ⟨.int (if k then 1 else 0),H,I.tok _,⟨_,rfl⟩,q⟩
end
end L2

namespace L2
open PySem PySem.Spec PyProof.Rows

structure ObjM (h:Heap)(x dx C:Addr)(mA:Str→Option Value):Prop where
 obj:h.get? x=some (PySem.W.instObj C dx)
 ns:h.Ns1 dx mA
 ne:dx≠x

theorem qCx {h:Heap}{dx:Addr}{mA:Str→Option Value}(n:h.Ns1 dx mA):∃od,h.get? dx=some od∧∀name,PySem.W.lookIn name od=some (mA name):=by
 obtain⟨o,es,ep,ho,hd,hk,_,hm⟩:=n
 refine⟨o,ho,fun name=>?_⟩
 have e:=hm name
 unfold nsFind findBy at e
 rw[← Array.find?_toList] at e
 unfold PySem.W.lookIn
 rw[hd]
 dsimp only
 split
 ·rename_i y q
  rw[q] at e
  exact congrArg some e
 ·rename_i q
  rw[q] at e
  have a:es.toList.any (·.refKey)=false:=by
   rw[List.any_eq_false]
   intro y hy
   obtain⟨z,t,hkey⟩:=hk y (Array.mem_toList_iff.mp hy)
   simp[DictEntry.refKey,hkey]
  have a':¬es.toList.any (·.refKey)=true:=by rw[a];exact Bool.false_ne_true
  rw[if_neg a']
  exact congrArg some e

theorem ObjM.look {h:Heap}{x dx C:Addr}{mA:Str→Option Value}(I:ObjM h x dx C mA):∃od,PySem.W.InstAt h x (PySem.W.instObj C dx) C (some od)∧∀name,PySem.W.lookIn name od=some (mA name):=
 let ⟨od,ho,hl⟩:=qCx I.ns
 ⟨od,⟨I.obj,rfl,rfl,ho⟩,hl⟩

section
variable {prog:Program}{w:World}{A:Around}{E:Value→Shared→Prop}{s:Shared}{K:PySem.W.Frag}{x dx C f:Addr}{mA:Str→Option Value}{name:Str}{v:Value}

theorem qMo {expr:Bool}{Q:Value→Shared→Prop}(X:K.In s.heap)(I:ObjM s.heap x dx C mA)(hg:PySem.W.plainGet K C name=true)(hh:PySem.W.hasDictIn K C=true)
  (ha:PySem.W.findIn K (.ref C) name=some none) (hv:mA name=some v) (hv':PySem.W.handedIn v=true) (h:Q v { s with toks:=s.toks+1 }):
  wpAny (model prog w) A (getAttr (.ref x) name expr) Q E s:=by
 obtain⟨od,J,hl⟩:=I.look
 exact PySem.W.get_value X J (PySem.W.plainGet_of hg).1 (PySem.W.findObj_own hh ha rfl (by rw[hl,hv])) hv' h

theorem qGk {pl:Sem Bool}{Q:Value×List Value→Shared→Prop}(X:K.In s.heap)(I:ObjM s.heap x dx C mA)(hg:PySem.W.plainGet K C name=true)
  (hf:PySem.W.findIn K (.ref C) name=some (some (.ref f))) (ht:PySem.W.isFn K (.ref f)=true) (hv:mA name=none) (h:Q (.ref f,[.ref x]) s):
  wpAny (model prog w) A (getMethod (.ref x) name pl) Q E s:=by
 obtain⟨od,J,hl⟩:=I.look
 exact PySem.W.method_fn X J (PySem.W.plainGet_of hg).1 (PySem.W.plainGet_of hg).2 hf (beq_iff_eq.mp ht) (by show(PySem.W.lookIn name od).map (·.isSome)=some false;rw[hl,hv];rfl) h

theorem qIi {ns:List Str}{Q:Unit→Shared→Prop}(X:K.In s.heap)(I:ObjM s.heap x dx C mA)
  (hs:PySem.W.findIn K (.ref C) "__setattr__" = some (some (.builtin "object.__setattr__"))) (hp:PySem.W.plainOver K C=true) (ht:PySem.W.takerIn K C name=some none) (hh:PySem.W.hasDictIn K C=true)
  (hw:PySem.Within mA ns) (hsz:ns.length≤sizeLine)
  (h:∀h',ObjM h' x dx C (fun y=>if y=name then some v else mA y)→Heap.SameBut dx s.heap h'→Q () { s with heap:=h',toks:=s.toks+2 }):
  wpAny (model prog w) A (setAttr (.ref x) name v) Q E s:=by
 obtain⟨od,J,hl⟩:=I.look
 refine PySem.W.set_plain X J hs (PySem.W.osa_open (s:={ s with toks:=s.toks+1 }) (r:=none) X J hp ht fun b=>?_)
 obtain⟨cd,hc,hd'⟩:=PySem.W.any_some hh
 have hx:s.heap.get? x=some ⟨.ref C,some dx,.plain,#[]⟩:=I.obj
 refine wpAny_bind (wpAny_pure (wpAny_bind (wpAny_bind (wpAny_loadPart hx (wpAny_bind (PySem.W.Looks.here (s:={ s with toks:=s.toks+1 }) (PySem.W.looks_clsIn X hc) ?_))))))
 rw[hd']
 refine wpAny_pure (a:=some dx) (wpAny_bind (wpAny_pure (wpAny_bind ?_)))
 refine wpAny_nsSet1 (s:={ s with toks:=s.toks+1 }) I.ns fun h' hn2 hs2=>?_
 obtain⟨oD,esD,epD,hoD,hdD,hcD⟩:=hn2.count (PySem.Within.cons name v hw)
 refine wpAny_bind (wpAny_lookBehind hoD (by rw[hdD];exact pastItsLine_dict (Nat.le_trans hcD (by rw[List.length_cons];omega))) ?_)
 exact wpAny_pure (h _ ⟨(hs2.2 _ (Ne.symm I.ne)).trans I.obj,hn2,I.ne⟩ hs2)

theorem qFi {R:Result→Shared→Prop}{vs:List Value}{kw:List (Str×Value)}(X:K.In s.heap)(hm:PySem.W.makesIn K C=true)
  (hi:PySem.W.findIn K (.ref C) "__init__" = some (some (.ref f))) (hf:PySem.W.typeIn K (.ref f)=some (.type "function"))
  (h:codeAny (model prog w) (A.under (.builtin "type.__call__" ⟨.ref C::vs,kw⟩)) (.call (.ref f) ⟨.ref (s.heap.objs.size+1)::vs,kw⟩) (PySem.W.InitBack (s.heap.objs.size+1) R)
   { s with heap:=(s.heap.push PySem.W.emptyDict).push (PySem.W.instObj C s.heap.objs.size) }):
  codeAny (model prog w) A (.call (.ref C) ⟨vs,kw⟩) R s:=by
 obtain⟨hh,g,d,t,os⟩:=s
 exact PySem.W.make_core (PySem.W.makes_of X hm) (PySem.W.looks_findIn X hi) (fun self=>PySem.W.bind_fn X self hf) (.inl rfl) h
end

noncomputable def putF (f:Str)(v:V):List (Str×V)→List (Str×V)
 | []=>[(f,v)]
 | (g,x)::r=>if g=f then (g,v)::r else (g,x)::putF f v r
theorem wW (f g:Str)(v:V):∀fs:List (Str×V),(putF f v fs).lookup g=if g=f then some v else fs.lookup g
 | []=>by
  show List.lookup g [(f,v)]=_
  by_cases h:g=f
  ·have hb:(g == f)=true:=beq_iff_eq.mpr h
   simp only[List.lookup,hb,if_pos h]
  ·have hb:(g == f)=false:=beq_eq_false_iff_ne.mpr h
   simp only[List.lookup,hb,if_neg h]
 | (k,x)::r=>by
  have ih:=wW f g v r
  rw[show putF f v ((k,x)::r)=(if k=f then (k,v)::r else (k,x)::putF f v r) from rfl]
  by_cases hk:k=f
  ·rw[if_pos hk]
   by_cases h:g=k
   ·have hb:(g == k)=true:=beq_iff_eq.mpr h
    simp only[List.lookup,hb,if_pos (h.trans hk)]
   ·have hb:(g == k)=false:=beq_eq_false_iff_ne.mpr h
    simp only[List.lookup,hb,if_neg (fun e:g=f=>h (e.trans hk.symm))]
  ·rw[if_neg hk]
   by_cases h:g=k
   ·have hb:(g == k)=true:=beq_iff_eq.mpr h
    simp only[List.lookup,hb,if_neg (fun e:g=f=>hk (h.symm.trans e))]
   ·have hb:(g == k)=false:=beq_eq_false_iff_ne.mpr h
    simp only[List.lookup,hb]
    exact ih
theorem wD (f:Str)(v:V):∀fs:List (Str×V),f∈(putF f v fs).map (·.1)∧∀g,g∈fs.map (·.1)→g∈(putF f v fs).map (·.1)
 | []=>⟨by simp[putF],fun g h=>by simp at h⟩
 | (k,x)::r=>by
  obtain⟨i1,i2⟩:=wD f v r
  rw[show putF f v ((k,x)::r)=(if k=f then (k,v)::r else (k,x)::putF f v r) from rfl]
  by_cases hk:k=f
  ·rw[if_pos hk]
   subst hk
   exact⟨by simp,fun g h=>by simpa using h⟩
  ·rw[if_neg hk]
   refine⟨?_,fun g h=>?_⟩
   ·rw[List.map_cons]
    exact List.mem_cons_of_mem _ i1
   ·rw[List.map_cons] at h ⊢
    rcases List.mem_cons.mp h with e | e
    ·exact List.mem_cons.mpr (.inl e)
    ·exact List.mem_cons_of_mem _ (i2 g e)
theorem wB (f:Str)(v:V):∀fs:List (Str×V),(putF f v fs).length≤fs.length+1
 | []=>by simp[putF]
 | (k,x)::r=>by
  have ih:=wB f v r
  rw[show putF f v ((k,x)::r)=(if k=f then (k,v)::r else (k,x)::putF f v r) from rfl]
  by_cases hk:k=f
  ·rw[if_pos hk,List.length_cons,List.length_cons];omega
  ·rw[if_neg hk,List.length_cons,List.length_cons];omega

theorem RelO.some_of {v:V}{o:Option Value}(r:RelO (some v) o):∃u,o=some u∧RelV v u:=by
 cases o with
 | none=>exact(show False from r).elim
 | some u=>exact⟨u,rfl,r⟩
theorem RelO.none_of {o:Option Value}(r:RelO none o):o=none:=by
 cases o with
 | none=>rfl
 | some u=>exact(show False from r).elim
theorem qCi {v:V}{u:Value}(r:RelV v u):PySem.W.handedIn u=true:=by
 cases v with
 | non=>cases(show u=Value.none from r);rfl
 | bl b=>cases(show u=Value.bool b from r);rfl
 | int i=>obtain⟨t,e⟩:=(show∃t,u=Value.int i t from r);cases e;rfl
 | str x=>obtain⟨t,e⟩:=(show∃t,u=Value.str x t from r);cases e;rfl
 | byt b=>obtain⟨t,e⟩:=(show∃t,u=Value.bytes b t from r);cases e;rfl
 | flt b=>obtain⟨t,e⟩:=(show∃t,u=Value.float b t from r);cases e;rfl
 | ref a=>cases(show u=Value.ref a from r);rfl
 | ty n=>cases(show u=Value.type n from r);rfl

section
variable {P:Program}{w:World}{H H':Hp}{h h':Heap}{a C dx:Addr}{fs fs':List (Str×V)}
theorem qXd (hok:HOk P w H h)(e:H a=some (.ins C dx fs)):∃mA,ObjM h a dx C mA∧(∀f,RelO (fs.lookup f) (mA f))∧PySem.Within mA (fs.map (·.1))∧fs.length≤1000∧H dx=some (.own a):=by
 obtain⟨d,z,ne,ob,mA,n,r,q⟩:=(show ObjOk P w H h a (.ins C dx fs) from hok a _ e)
 exact⟨mA,⟨ob,n,ne⟩,r,q,z,d⟩
end

structure Cls (K:PySem.W.Frag)(C:Addr):Prop where
 pg:PySem.W.plainGet K C Str.empty=true
 hd:PySem.W.hasDictIn K C=true
 po:PySem.W.plainOver K C=true
 sa:PySem.W.findIn K (.ref C) "__setattr__" = some (some (.builtin "object.__setattr__"))
theorem Cls.get {K:PySem.W.Frag}{C:Addr}(c:Cls K C)(f:Str):PySem.W.plainGet K C f=true:=c.pg
noncomputable def NoAttr (K:PySem.W.Frag)(C:Addr)(f:Str):Prop:=PySem.W.findIn K (.ref C) f=some none
theorem NoAttr.taker {K:PySem.W.Frag}{C:Addr}{f:Str}(n:NoAttr K C f):PySem.W.takerIn K C f=some none:=by
 unfold PySem.W.takerIn
 rw[show PySem.W.findIn K (.ref C) f=some none from n]
 rfl
structure Meth (K:PySem.W.Frag)(C:Addr)(m:Str)(f:Addr):Prop where
 at_:PySem.W.findIn K (.ref C) m=some (some (.ref f))
 fn:PySem.W.isFn K (.ref f)=true
 kp:PySem.W.keepIn K (.ref f)=true

section
variable {X:Cx}{pins:List (Addr×Obj)}{σ:St}{H:Hp}{s:Shared}{a C dx:Addr}{fs:List (Str×V)}{f:Str}{v:V}{A:Around}{E:Value→Shared→Prop}

theorem qQd {b:Bool}{Q:Value→Shared→Prop}(I:Inv X pins σ H s)(e:H a=some (.ins C dx fs))(c:Cls X.K C)(n:NoAttr X.K C f)(l:fs.lookup f=some v)
  (h:∀u s',Inv X pins σ H s'→RelV v u→Q u s'):wpAny (model X.prog X.w) A (getAttr (.ref a) f b) Q E s:=by
 obtain⟨mA,O,r,_,_,_⟩:=qXd I.hok e
 obtain⟨u,hu,ru⟩:=RelO.some_of (v:=v) (o:=mA f) (by rw[← l];exact r f)
 exact qMo I.kIn O (c.get f) c.hd n hu (qCi ru) (h u _ (I.tok _) ru)

theorem qQc {m:Str}{g:Addr}{pl:Sem Bool}{Q:Value×List Value→Shared→Prop}(I:Inv X pins σ H s)(e:H a=some (.ins C dx fs))(c:Cls X.K C)(k:Meth X.K C m g)(l:fs.lookup m=none)
  (h:Q (.ref g,[.ref a]) s):wpAny (model X.prog X.w) A (getMethod (.ref a) m pl) Q E s:=by
 obtain⟨mA,O,r,_,_,_⟩:=qXd I.hok e
 have hn:mA m=none:=RelO.none_of (by rw[← l];exact r m)
 exact qGk I.kIn O (c.get m) k.at_ k.fn hn h

theorem qQk {y:V}{u:Value}{Q:Unit→Shared→Prop}(I:Inv X pins σ H s)(e:H a=some (.ins C dx fs))(c:Cls X.K C)(n:NoAttr X.K C f)(hl:fs.length<1000)(ry:RelV y u)
  (h:∀s',Inv X pins σ (upd H a (.ins C dx (putF f y fs))) s'→Q () s'):wpAny (model X.prog X.w) A (setAttr (.ref a) f u) Q E s:=by
 obtain⟨mA,O,r,wi,_,ho⟩:=qXd I.hok e
 have hz:(fs.map (·.1)).length≤sizeLine:=by rw[List.length_map,sizeLine_eq];omega
 refine qIi I.kIn O c.sa c.po n.taker c.hd wi hz fun h' O' sb=>h _ ?_
 have hd:∃o,h'.get? dx=some o:=let ⟨o,_,_,e',_⟩:=O'.ns;⟨o,e'⟩
 refine I.write (x:=a) (e:=dx) (by rw[e];exact True.intro) (.inr ho) (fun b q hb z=>(sb.2 b hb).trans z) hd ?_
 refine⟨by rw[qW O.ne];exact ho,?_,O.ne,O'.obj,_,O'.ns,fun g=>?_,fun g hg=>?_⟩
 ·have:=wB f y fs;omega
 ·show RelO ((putF f y fs).lookup g) (if g=f then some u else mA g)
  rw[wW]
  by_cases q:g=f
  ·rw[if_pos q,if_pos q];exact ry
  ·rw[if_neg q,if_neg q];exact r g
 ·by_cases q:g=f
  ·rw[q];exact(wD f y fs).1
  ·refine(wD f y fs).2 g (wi g fun z=>hg ?_)
   show(if g=f then some u else mA g)=none
   rw[if_neg q];exact z

theorem Inv.made (I:Inv X pins σ H s):Inv X pins σ (upd (upd H s.heap.objs.size (.own (s.heap.objs.size+1))) (s.heap.objs.size+1) (.ins C s.heap.objs.size []))
  { s with heap:=(s.heap.push PySem.W.emptyDict).push (PySem.W.instObj C s.heap.objs.size) }:=by
 have e1:(s.heap.push PySem.W.emptyDict).get? s.heap.objs.size=some PySem.W.emptyDict:=Heap.get?_push_size s.heap rfl
 have e2:((s.heap.push PySem.W.emptyDict).push (PySem.W.instObj C s.heap.objs.size)).get? (s.heap.objs.size+1)=some (PySem.W.instObj C s.heap.objs.size):=by
  have:=Heap.get?_push_size (s.heap.push PySem.W.emptyDict) (o:=PySem.W.instObj C s.heap.objs.size) rfl
  rwa [Heap.size_push] at this
 have e3:(s.heap.push PySem.W.emptyDict).Ns s.heap.objs.size (fun _=>none):=⟨PySem.W.emptyDict,#[],_,e1,rfl,(fun e he=>absurd he (by simp)),fun _=>rfl⟩
 have I1:=I.laid (a:=s.heap.objs.size) (o:=.own (s.heap.objs.size+1)) (h':=s.heap.push PySem.W.emptyDict) (t':=s.toks) (fun b u q=>Heap.get?_push_of_some _ q) (Nat.le_refl _) ⟨_,e1⟩
 refine I1.laid (a:=s.heap.objs.size+1) (o:=.ins C s.heap.objs.size []) (t':=s.toks) (fun b u q=>Heap.get?_push_of_some _ q) (Nat.le_of_eq (Heap.size_push _ _)) ?_
 have ne:s.heap.objs.size≠s.heap.objs.size+1:=Nat.ne_of_lt (Nat.lt_succ_self _)
 refine⟨by rw[qW ne,qV],Nat.zero_le _,ne,e2,fun _=>none,(Heap.Ns1.of_empty e3).at fun o q=>Heap.get?_push_of_some _ q,fun _=>True.intro,fun y hy=>absurd rfl hy⟩

theorem qNi {prog:Program}{w:World}{env:Env}{e:Expr}{f:Str}{pos:Pos}{s:Shared}{Q:Value→Shared→Prop}(hb:attributeBase e f env (eval e env)=eval e env)
  (h:wpAny (model prog w) A (eval e env) (fun o s₁=>wpAny (model prog w) A (getAttr o f true) Q E s₁) E s):wpAny (model prog w) A (eval (.Attribute e f pos) env) Q E s:=
 Attribute_any_ h (by rw[arm_eval_Attribute,hb])
end

noncomputable def tFld (K:PySem.W.Frag)(ta:TE)(f:Str):TE:=fun σ H Q=>ta σ H fun x H1=>∃a C dx fs v,x=.ref a∧H1 a=some (.ins C dx fs)∧Cls K C∧NoAttr K C f∧fs.lookup f=some v∧Q v H1
noncomputable def sFld (K:PySem.W.Frag)(ta tv:TE)(f:Str):TS:=fun D σ H=>tv σ H fun y H1=>ta σ H1 fun x H2=>∃a C dx fs,x=.ref a∧H2 a=some (.ins C dx fs)∧Cls K C∧NoAttr K C f∧fs.length<1000∧
 D.nx σ (upd H2 a (.ins C dx (putF f y fs)))
noncomputable def InOp (X:Cx)(op:Operator)(rd:V→V→Hp→VK→Prop):Prop:=
 ∀(pins:List (Addr×Obj)) (s:Shared) (σ:St) (H:Hp) (x y:V) (u v:Value) (Q:VK),Inv X pins σ H s→RelV x u→RelV y v→rd x y H Q→wpAny (model X.prog X.w) X.A (inplaceOp op u v) (EP X pins σ Q) X.xe s
noncomputable def qAa (K:PySem.W.Frag)(ta tv:TE)(rd:V→V→Hp→VK→Prop)(f:Str):TS:=fun D σ H=>ta σ H fun x H1=>∃a C dx fs v,x=.ref a∧H1 a=some (.ins C dx fs)∧Cls K C∧NoAttr K C f∧fs.lookup f=some v∧
 tv σ H1 fun y H2=>rd v y H2 fun z H3=>∃dx' fs',H3 a=some (.ins C dx' fs')∧fs'.length<1000∧D.nx σ (upd H3 a (.ins C dx' (putF f z fs')))

section
variable {X:Cx}{o e value:Expr}{f:Str}{pos pos' tpos:Pos}{ta tv:TE}
theorem qPk (he:PE X e ta)(hb:attributeBase e f X.env (eval e X.env)=eval e X.env):PE X (.Attribute e f pos) (tFld X.K ta f):=by
 intro pins s σ H Q I h
 refine qNi hb (thn (he pins s σ H _ I h) fun u s1 ⟨x,H1,I1,rx,a,C,dx,fs,v,ex,ea,c,n,l,q⟩=>?_)
 subst ex
 obtain rfl:u=Value.ref a:=rx
 exact qQd I1 ea c n l fun u' s2 I2 ru=>⟨v,H1,I2,ru,q⟩
theorem qPq (ha:PE X o ta)(hv:PE X value tv)(hs:swapsWith value (some (.Attribute o f pos')) pos.line X.env=pure false):PS X (.Assign [.Attribute o f pos'] value pos) (sFld X.K ta tv f):=by
 intro pins s σ H D I h
 refine plainObj_wpAny_Assign_Attribute (thn (hv pins s σ H _ I h) fun u s1 ⟨y,H1,I1,ry,q⟩=>thn (ha pins s1 σ H1 _ I1 q) fun ov s2 ⟨x,H2,I2,rx,a,C,dx,fs,ex,ea,c,n,l,q2⟩=>?_) hs
 subst ex
 obtain rfl:ov=Value.ref a:=rx
 exact qQk I2 ea c n l ry fun s3 I3=>⟨σ,_,I3,q2⟩
theorem qAl {op:Operator}{rd:V→V→Hp→VK→Prop}(ha:PE X o ta)(hv:PE X value tv)(hop:InOp X op rd):PS X (.AugAssign (.Attribute o f tpos) op value pos) (qAa X.K ta tv rd f):=by
 intro pins s σ H D I h
 refine wpAny_AugAssign_AttributeAny (thn (ha pins s σ H _ I h) fun ov s1 ⟨x,H1,I1,rx,a,C,dx,fs,v,ex,ea,c,n,l,q⟩=>?_)
 subst ex
 obtain rfl:ov=Value.ref a:=rx
 refine qQd I1 ea c n l fun u s2 I2 ru=>thn (hv pins s2 σ H1 _ I2 q) fun w3 s3 ⟨y,H2,I3,ry,q3⟩=>thn (hop pins s3 σ H2 v y u w3 _ I3 ru ry q3) fun w4 s4 ⟨z,H3,I4,rz,dx',fs',ea',l',q4⟩=>?_
 exact qQk I4 ea' c n l' rz fun s5 I5=>⟨σ,_,I5,q4⟩
noncomputable def rAdd:V→V→Hp→VK→Prop:=fun x y H Q=>∃i j,x=.int i∧y=.int j∧Q (.int (i+j)) H
theorem qRk:InOp X .Add rAdd:=by
 rintro pins s σ H x y u v Q I rx ry ⟨i,j,rfl,rfl,q⟩
 obtain⟨t,rfl⟩:=(show∃t,u=Value.int i t from rx)
 obtain⟨t',rfl⟩:=(show∃t',v=Value.int j t' from ry)
 exact PyProof.Rows.iadd_int ⟨.int (i+j),H,I.tok _,⟨_,rfl⟩,q⟩
end

section
variable {X:Cx}{pins:List (Addr×Obj)}{σ:St}{H:Hp}{s:Shared}{A:Around}{E:Value→Shared→Prop}{Q:Value→Shared→Prop}{c:Value}{b:Bool}
inductive TyOf (K:PySem.W.Frag)(H:Hp):V→Value→Prop where
 | non:TyOf K H .non (.type "NoneType")
 | bl (x:Bool):TyOf K H (.bl x) (.type "bool")
 | int (i:Int):TyOf K H (.int i) (.type "int")
 | str (x:Str):TyOf K H (.str x) (.type "str")
 | flt (x:UInt64):TyOf K H (.flt x) (.type "float")
 | lst {a:Addr} {xs:List V} (e:H a=some (.lst xs)):TyOf K H (.ref a) (.type "list")
 | frz {a:Addr} {o:Obj} {xs:List V} (e:H a=some (.frz o (.lst xs))):TyOf K H (.ref a) (.type "list")
 | tup {a:Addr} {xs:List V} (e:H a=some (.tup xs)):TyOf K H (.ref a) (.type "tuple")
 | dK {a:Addr} {kvs:List (Key×V)} (e:H a=some (.dK kvs)):TyOf K H (.ref a) (.type "dict")
 | dT {a:Addr} {kvs:List (List Key×V)} (e:H a=some (.dT kvs)):TyOf K H (.ref a) (.type "dict")
 | ins {a C dx:Addr} {fs:List (Str×V)} (e:H a=some (.ins C dx fs)) (cl:Cls K C) (ha:PySem.W.findIn K (.ref C) "__class__" = some (some (.builtin "object.__class__")))
   (hn:PySem.W.specialIn K (.builtin "object.__class__") "__get__" = some (some (.builtin "getset_descriptor.__get__"))) (htk:PySem.W.takesIn K (.builtin "object.__class__")=some true)
   (hm:PySem.W.mroIn K C (.type "object")=some true):TyOf K H (.ref a) (.ref C)
theorem qCd {x:V}{u t:Value}(I:Inv X pins σ H s)(rx:RelV x u)(ty:TyOf X.K H x t)(e:PySem.W.kitOne X.K t c=some b)(h:∀tk,Q (.bool b) { s with toks:=tk }):
  wpAny (model X.prog X.w) A (call (.builtin "isinstance") [u,c]) Q E s:=by
 cases ty with
 | non=>cases(show u=Value.none from rx);exact PySem.W.kia_one PySem.W.kitx_none I.kIn True.intro e (fun z=>nomatch z) h
 | bl y=>cases(show u=Value.bool y from rx);exact PySem.W.kia_one PySem.W.kitx_bool I.kIn True.intro e (fun z=>nomatch z) h
 | int i=>obtain⟨t,q⟩:=(show∃t,u=Value.int i t from rx);cases q;exact PySem.W.kia_one PySem.W.kitx_int I.kIn True.intro e (fun z=>nomatch z) h
 | str y=>obtain⟨t,q⟩:=(show∃t,u=Value.str y t from rx);cases q;exact PySem.W.kia_one PySem.W.kitx_str I.kIn True.intro e (fun z=>nomatch z) h
 | flt y=>obtain⟨t,q⟩:=(show∃t,u=Value.float y t from rx);cases q;exact PySem.W.kia_one PySem.W.kitx_float I.kIn True.intro e (fun z=>nomatch z) h
 | @lst a xs ea=>
  cases(show u=Value.ref a from rx)
  obtain⟨_,_,n,_,h1⟩:=(show ObjOk X.prog X.w H s.heap a (.lst xs) from I.hok a _ ea)
  exact PySem.W.kia_one PySem.W.kitx_list I.kIn ⟨_,h1,rfl⟩ e (fun z=>nomatch z) h
 | @frz a ob xs ea=>
  cases(show u=Value.ref a from rx)
  obtain⟨_,_,_,n,_,h1⟩:=(show ObjOk X.prog X.w H s.heap a (.frz ob (.lst xs)) from I.hok a _ ea)
  exact PySem.W.kia_one PySem.W.kitx_list I.kIn ⟨_,h1,rfl⟩ e (fun z=>nomatch z) h
 | @tup a xs ea=>
  cases(show u=Value.ref a from rx)
  obtain⟨_,_,_,p⟩:=(show ObjOk X.prog X.w H s.heap a (.tup xs) from I.hok a _ ea)
  obtain⟨o,h1,h2,_⟩:=p
  exact PySem.W.kia_one PySem.W.kitx_tuple I.kIn ⟨o,h1,h2⟩ e (fun z=>nomatch z) h
 | @dK a kvs ea=>
  cases(show u=Value.ref a from rx)
  obtain⟨_,_,vs,_,p⟩:=(show ObjOk X.prog X.w H s.heap a (.dK kvs) from I.hok a _ ea)
  obtain⟨o,es,ep,h1,h2,_⟩:=p
  exact PySem.W.kia_one PySem.W.kitx_dict I.kIn ⟨o,h1,h2.1⟩ e (fun z=>nomatch z) h
 | @dT a kvs ea=>
  cases(show u=Value.ref a from rx)
  obtain⟨_,_,xs,_,o,es,ep,h1,h2,_⟩:=(show ObjOk X.prog X.w H s.heap a (.dT kvs) from I.hok a _ ea)
  exact PySem.W.kia_one PySem.W.kitx_dict I.kIn ⟨o,h1,h2.1⟩ e (fun z=>nomatch z) h
 | @ins a C dx fs ea cl ha hn htk hm=>
  cases(show u=Value.ref a from rx)
  obtain⟨mA,O,_⟩:=qXd I.hok ea
  obtain⟨od,J,_⟩:=O.look
  exact PySem.W.kia_one (PySem.W.kitx_own (cl.get _) cl.hd ha hn htk hm) I.kIn J e (fun z=>nomatch z) h
end
end L2

namespace L2
open PySem PySem.Spec PyProof.Rows

structure Room (k:Nat)(A:Around):Prop where
 hd:A.handled=none
 dp:A.depth+3 * k+5<recursionLimit
 un:A.units+16 * k+200<cLine
theorem Room.mono {j k:Nat}{A:Around}(r:Room k A)(h:j≤k):Room j A:=⟨r.hd,by have:=r.dp;omega,by have:=r.un;omega⟩
theorem Room.deeper {k:Nat}{A:Around}(r:Room (k+1) A)(env:Env):Room k (A.deeper env):=
 ⟨r.hd,by have:=r.dp;show A.depth+1+3 * k+5<_;omega,by have:=r.un;show A.units+3+16 * k+200<_;omega⟩
theorem qVl {A:Around}{C:Addr}{us:List Value}{kw:List (Str×Value)}:(A.under (.builtin "type.__call__" ⟨.ref C::us,kw⟩)).depth=A.depth+1:=by
 first | rfl | simp[Around.under,Code.weight,Code.isCreation,Code.isGuard,Code.isCaller,Code.frames,Code.isFrame,guardIds]
theorem qVi {A:Around}{C:Addr}{us:List Value}{kw:List (Str×Value)}:(A.under (.builtin "type.__call__" ⟨.ref C::us,kw⟩)).units=A.units+1:=by
 first | rfl | simp[Around.under,Code.cUnits,Code.frames,Code.isFrame]
theorem Room.make {k:Nat}{A:Around}(r:Room (k+1) A)(C:Addr)(us:List Value)(kw:List (Str×Value)):Room k (A.under (.builtin "type.__call__" ⟨.ref C::us,kw⟩)):=
 ⟨r.hd,by have:=r.dp;rw[qVl];omega,by have:=r.un;rw[qVi];omega⟩
theorem Room.depth {k:Nat}{A:Around}(r:Room k A):A.depth<recursionLimit:=by have:=r.dp;omega
theorem Room.units {k:Nat}{A:Around}(r:Room k A):A.units+64<cLine:=by have:=r.un;omega
noncomputable def tNil:TA:=fun _ H Q=>Q [] H
noncomputable def tCons (ta:TE)(tr:TA):TA:=fun σ H Q=>ta σ H fun x H1=>tr σ H1 fun xs H2=>Q (x::xs) H2
section
variable {X:Cx}{e:Expr}{es:List Expr}{te:TE}{t:TA}{pos:Pos}
theorem qX:PA X [] tNil:=fun _ _ _ _ H Q I h=>Calls.spliced_nil ⟨[],H,I,.nil,h⟩
theorem qQ (ha:PE X e te)(hr:PA X es t)(hs:starEach (e::es) X.env=(false,eval e X.env)::starEach es X.env:=by rfl):PA X (e::es) (tCons te t):=by
 intro pos pins s σ H Q I h
 rw[hs]
 show wpAny _ _ (spliced ((false,eval e X.env)::backTo pos (starEach es X.env))) _ _ s
 refine Calls.spliced_cons (thn (ha pins s σ H _ I h) fun u s1 ⟨x,H1,I1,r1,q1⟩=>?_)
 exact thn (hr pos pins s1 σ H1 _ I1 q1) fun us s2 ⟨xs,H2,I2,r2,q2⟩=>⟨x::xs,H2,I2,.cons r1 r2,q2⟩

noncomputable def tTup (t:TA):TE:=fun σ H Q=>t σ H fun xs H1=>xs.length≤sizeLine∧∀p,H1 p=none→Q (.ref p) (upd H1 p (.tup xs))
noncomputable def tLst (t:TA):TE:=fun σ H Q=>t σ H fun xs H1=>xs.length≤sizeLine∧∀p,H1 p=none→Q (.ref p) (upd H1 p (.lst xs))
theorem xI {x1}(h:PA X es t):PE X (.Tuple es x1 pos) (tTup t):=by
 intro pins s σ H Q I hq
 refine wpAny_Tuple_spliced (thn (h pos pins s σ H _ I hq) fun us s1 ⟨xs,H1,I1,r,z,q⟩=>⟨by rw[← r.length];exact z,?_⟩)
 have hf:H1 s1.heap.objs.size=none:=I1.hok.fresh (Nat.le_refl _)
 refine⟨.ref s1.heap.objs.size,upd H1 s1.heap.objs.size (.tup xs),I1.laid (t':=s1.toks) (fun b u e=>Heap.get?_push_of_some _ e) (Nat.le_refl _) ?_,rfl,q _ hf⟩
 exact⟨z,us,r,⟨_,Heap.get?_push_size _ rfl,rfl,_,rfl,rfl⟩⟩
theorem zK (h:PA X es t):PE X (.List es pos) (tLst t):=by
 intro pins s σ H Q I hq
 refine wpAny_List_spliced (thn (h pos pins s σ H _ I hq) fun us s1 ⟨xs,H1,I1,r,z,q⟩=>⟨by rw[← r.length];exact z,?_⟩)
 have hf:H1 s1.heap.objs.size=none:=I1.hok.fresh (Nat.le_refl _)
 refine⟨.ref s1.heap.objs.size,upd H1 s1.heap.objs.size (.lst xs),I1.laid (t':=s1.toks) (fun b u e=>Heap.get?_push_of_some _ e) (Nat.le_refl _) ?_,rfl,q _ hf⟩
 exact⟨z,us,0,r,Heap.get?_push_size _ rfl⟩
end

noncomputable abbrev Sp:=List V→Hp→VK→XK→Prop
noncomputable abbrev CXT:=List Env→Hp→Shared→XK→Value→Shared→Prop

structure Env0 (P:Program)(w:World)(K:PySem.W.Frag)(mg:Str→Option Value)(base:Heap)(A:Around)(outer:List Env)(s:Shared)(H:Hp):Prop where
 frames:A.frames=some outer
 mod:Mod K mg base
 bs:∀b o,base.get? b=some o→s.heap.get? b=some o∧H b=none
 bsz:base.objs.size≤s.heap.objs.size
 funs:s.heap.FunFrames base outer
 frf:∀b∈frs outer,H b=none
 hok:HOk P w H s.heap
 bare:AllBare s.gens
noncomputable def CE (outer:List Env)(P:Program)(w:World)(H:Hp)(s:Shared)(Q:VK)(u:Value)(s':Shared):Prop:=
 ∃v H',s'.os=s.os∧AllBare s'.gens∧Un (frs outer) [] H H' s.heap s'.heap∧HOk P w H' s'.heap∧RelV v u∧Q v H'
noncomputable def CR (CX:CXT)(outer:List Env)(P:Program)(w:World)(H:Hp)(s:Shared)(Q:VK)(E:XK)(r:Result)(s':Shared):Prop:=
 match r with
 | .ok (.ret u)=>CE outer P w H s Q u s'
 | .ok _=>False
 | .error e=>CX outer H s E e s'
structure FnOk (P:Program)(w:World)(K:PySem.W.Frag)(mg:Str→Option Value)(base:Heap)(CX:CXT)(k:Nat)(f:Addr)(fd:FuncData)(ps:List Str)(sp:Sp):Prop where
 len:∀vs H Q E,sp vs H Q E→vs.length=ps.length
 run:∀(A:Around) (outer:List Env) (s:Shared) (H:Hp) (args:Args) (us:List Value) (vs:List V) (Q:VK) (E:XK),Room k A→Env0 P w K mg base A outer s H→BindsTo s fd args (ps.zip us)→Vals vs us→sp vs H Q E→
  codeAny (model P w) A (.call (.ref f) args) (CR CX outer P w H s Q E) s
theorem FnOk.mono {P:Program}{w:World}{K:PySem.W.Frag}{mg:Str→Option Value}{base:Heap}{CX:CXT}{j k:Nat}{f:Addr}{fd:FuncData}{ps:List Str}{sp:Sp}(F:FnOk P w K mg base CX j f fd ps sp)(h:j≤k):
  FnOk P w K mg base CX k f fd ps sp:=⟨F.len,fun A outer s H args us vs Q E hr=>F.run A outer s H args us vs Q E (hr.mono h)⟩
theorem Env0.make {P:Program}{w:World}{K:PySem.W.Frag}{mg:Str→Option Value}{base:Heap}{A:Around}{outer:List Env}{s:Shared}{H:Hp}(e:Env0 P w K mg base A outer s H)(C:Addr)(us:List Value)(kw:List (Str×Value)):
  Env0 P w K mg base (A.under (.builtin "type.__call__" ⟨.ref C::us,kw⟩)) outer s H:=⟨by first | exact e.frames | (simpa [Around.under,Code.envs,Code.isFrame,pushEnvs] using e.frames),e.mod,e.bs,e.bsz,e.funs,e.frf,e.hok,e.bare⟩
section
variable {X:Cx}{pins:List (Addr×Obj)}{σ:St}{H:Hp}{s s':Shared}
theorem Inv.env0 (I:Inv X pins σ H s):Env0 X.prog X.w X.K X.mg X.base X.A X.stack s H:=
 ⟨I.ok.frames,I.ok.mod,I.bs,Nat.le_trans I.ok.bsz I.sz,I.stack,I.stkFree,I.hok,I.bare⟩
theorem Inv.after {Q:VK}{u:Value}(I:Inv X pins σ H s)(h:CE X.stack X.prog X.w H s Q u s'):EP X pins σ Q u s':=by
 obtain⟨v,H',os,bare,un,hok,r,q⟩:=h
 obtain⟨hh,g,d,t,os'⟩:=s'
 obtain rfl:os'=s.os:=os
 exact⟨v,H',I.call (h':=hh) (g':=g) (d':=d) (t':=t) (ch:=[]) un hok bare (fun b z=>absurd z (by simp)),r,q⟩
end

noncomputable def tCall (sp:Sp)(dvs:List V)(E:XK)(t:TA):TE:=fun σ H Q=>t σ H fun vs H1=>sp (vs++dvs) H1 Q E
noncomputable def tMeth (C:Addr)(m:Str)(sp:Sp)(dvs:List V)(E:XK)(ta:TE)(t:TA):TE:=fun σ H Q=>ta σ H fun x H1=>∃a dx fs,x=.ref a∧H1 a=some (.ins C dx fs)∧fs.lookup m=none∧
 t σ H1 fun vs H2=>sp (x::(vs++dvs)) H2 Q E
noncomputable def tMake (C:Addr)(sp:Sp)(dvs:List V)(E:XK)(t:TA):TE:=fun σ H Q=>t σ H fun vs H1=>∀x dx,H1 x=none→H1 dx=none→dx≠x→
 sp (.ref x::(vs++dvs)) (upd (upd H1 dx (.own x)) x (.ins C dx [])) (fun v H2=>v=.non∧Q (.ref x) H2) E

noncomputable def Binds (K:PySem.W.Frag)(fd:FuncData)(ps:List Str)(ds:List Value):Prop:=
 ∀(s:Shared) (us:List Value),K.In s.heap→(us++ds).length=ps.length→BindsTo s fd ⟨us,[]⟩ (ps.zip (us++ds))
theorem Binds.all {K:PySem.W.Frag}{fd:FuncData}{ps:List Str}(h:∀us:List Value,us.length=ps.length→bindArgs fd ⟨us,[]⟩=pure (ps.zip us)):Binds K fd ps []:=fun s us _ hl=>by
 rw[List.append_nil] at hl ⊢
 exact .of_eq (h us hl)

noncomputable def Passes (CX:CXT)(X:Cx)(E:XK):Prop:=∀(pins:List (Addr×Obj)) (σ:St) (H:Hp) (s:Shared) (e:Value) (s':Shared),Inv X pins σ H s→CX X.stack H s E e s'→X.xe e s'

section
variable {X:Cx}{CX:CXT}{k:Nat}{f C:Addr}{fd:FuncData}{ps:List Str}{sp:Sp}{dvs:List V}{ds:List Value}{E:XK}{x m:Str}{p pos apos:Pos}{e o:Expr}{es:List Expr}{ta:TE}{t:TA}

theorem qAc {pins:List (Addr×Obj)}{σ:St}{H:Hp}{s:Shared}{Q:VK}{us:List Value}{vs:List V}(F:FnOk X.prog X.w X.K X.mg X.base CX k f fd ps sp)(hr:Room k X.A)(hb:Binds X.K fd ps ds)(hd:Vals dvs ds)(hx:Passes CX X E)
  (I:Inv X pins σ H s) (r:Vals vs us) (h:sp (vs++dvs) H Q E):wpAny (model X.prog X.w) X.A (call (.ref f) us) (EP X pins σ Q) X.xe s:=by
 have r2:Vals (vs++dvs) (us++ds):=r.append hd
 have hl:(us++ds).length=ps.length:=by rw[← r2.length];exact F.len _ _ _ _ h
 refine wpAny_call (codeAny_mono (F.run X.A X.stack s H ⟨us,[]⟩ (us++ds) (vs++dvs) Q E hr I.env0 (hb s us I.kIn hl) r2 h) fun r s' hq=>?_)
 cases r with
 | error e=>exact hx pins σ H s e s' I hq
 | ok fl=>
  cases fl with
  | ret u=>exact I.after hq
  | next=>exact False.elim hq
  | brk=>exact False.elim hq
  | cont=>exact False.elim hq

theorem wZ (F:FnOk X.prog X.w X.K X.mg X.base CX k f fd ps sp)(hr:Room k X.A)(hg:Gl X x)(hm:X.mg x=some (.ref f))(hk:PySem.W.keepIn X.K (.ref f)=true)(hb:Binds X.K fd ps ds)(hd:Vals dvs ds)(hx:Passes CX X E)
  (ha:PA X (e::es) t) (hdb:(x == ("__debug__" : Str))=false:=by decide) (he:starEach (e::es) X.env=(false,eval e X.env)::starEach es X.env:=by rfl) (hpl:(backTo pos (starEach es X.env)).any (·.1)=false:=by rfl):
  PE X (.Call (.Name x p) (e::es) [] pos) (tCall sp dvs E t):=by
 intro pins s σ H Q I h
 refine wpAny_Call_Name_kw (qCj I hg hm ?_ hdb)
 refine PySem.W.callWith_K (h₀:=X.base) I.ok.mod.kin hk (thn (ha pos pins s σ H _ I h) fun us s1 ⟨vs,H1,I1,r,q⟩=>⟨I1.kIn,?_⟩) he hpl
 exact qAc F hr hb hd hx I1 r q
theorem qMk {pl:Sem Bool}(he:PE X o ta)(c:Cls X.K C)(hm:Meth X.K C m f)(F:FnOk X.prog X.w X.K X.mg X.base CX k f fd ps sp)(hr:Room k X.A)(hb:Binds X.K fd ps ds)(hd:Vals dvs ds)(hx:Passes CX X E)(ha:PA X (e::es) t)
  (hst:starEach (e::es) X.env=(false,eval e X.env)::starEach es X.env:=by rfl) (hpl:(backTo pos (starEach es X.env)).any (·.1)=false:=by rfl)
  (ht:eval (.Call (.Attribute o m apos) (e::es) [] pos) X.env=(do
   let ov ← eval o X.env
   standAt apos.atName
   let (f,first) ← holding [ov] (getMethod ov m pl)
   callWith pos f first (backTo pos (starEach (e::es) X.env)) (backToKw pos (keywordEach [] X.env))):=by rfl):
  PE X (.Call (.Attribute o m apos) (e::es) [] pos) (tMeth C m sp dvs E ta t):=by
 intro pins s σ H Q I h
 refine PySem.W.methodCall_KW (pl:=pl) (thn (he pins s σ H _ I h) fun u s1 ⟨x,H1,I1,rx,a,dx,fs,ex,ea,l,q⟩=>?_) ht
 subst ex
 obtain rfl:u=Value.ref a:=rx
 refine qQc I1 ea c hm l ?_
 refine PySem.W.callWith_K (first:=[.ref a]) (h₀:=X.base) I.ok.mod.kin hm.kp (thn (ha pos pins s1 σ H1 _ I1 q) fun us s2 ⟨vs,H2,I2,r,q2⟩=>⟨I2.kIn,?_⟩) hst hpl
 exact qAc (us:=.ref a::us) (vs:=.ref a::vs) F hr hb hd hx I2 (.cons rfl r) q2
theorem qFk {pl:Sem Bool}(he:PE X o ta)(c:Cls X.K C)(hm:Meth X.K C m f)(F:FnOk X.prog X.w X.K X.mg X.base CX k f fd ps sp)(hr:Room k X.A)(hb:Binds X.K fd ps ds)(hd:Vals dvs ds)(hx:Passes CX X E)
  (ht:eval (.Call (.Attribute o m apos) [] [] pos) X.env=(do
   let ov ← eval o X.env
   standAt apos.atName
   let (f,first) ← holding [ov] (getMethod ov m pl)
   callWith pos f first (backTo pos (starEach [] X.env)) (backToKw pos (keywordEach [] X.env))):=by rfl):
  PE X (.Call (.Attribute o m apos) [] [] pos) (tMeth C m sp dvs E ta tNil):=by
 intro pins s σ H Q I h
 refine PySem.W.methodCall_KW (pl:=pl) (thn (he pins s σ H _ I h) fun u s1 ⟨x,H1,I1,rx,a,dx,fs,ex,ea,l,q⟩=>?_) ht
 subst ex
 obtain rfl:u=Value.ref a:=rx
 refine qQc I1 ea c hm l ?_
 exact PySem.W.callWith_K0 (first:=[.ref a]) I1.kIn hm.kp (qAc (us:=[.ref a]) (vs:=[.ref a]) F hr hb hd hx I1 (.cons rfl .nil) q)

structure Mk (K:PySem.W.Frag)(C f:Addr):Prop where
 makes:PySem.W.makesIn K C=true
 init:PySem.W.findIn K (.ref C) "__init__" = some (some (.ref f))
 fn:PySem.W.isFn K (.ref f)=true
 kp:PySem.W.keepIn K (.ref C)=true

theorem qEn {pins:List (Addr×Obj)}{σ:St}{H:Hp}{s:Shared}{Q:VK}{us:List Value}{vs:List V}(M:Mk X.K C f)(F:FnOk X.prog X.w X.K X.mg X.base CX k f fd ps sp)(hr:Room (k+1) X.A)(hb:Binds X.K fd ps ds)(hd:Vals dvs ds)
  (hx:Passes CX X E) (I:Inv X pins σ H s) (r:Vals vs us)
  (h:∀x dx,H x=none→H dx=none→dx≠x→sp (.ref x::(vs++dvs)) (upd (upd H dx (.own x)) x (.ins C dx [])) (fun v H2=>v=.non∧Q (.ref x) H2) E):
  wpAny (model X.prog X.w) X.A (call (.ref C) us) (EP X pins σ Q) X.xe s:=by
 have hq:=h (s.heap.objs.size+1) s.heap.objs.size (I.hok.fresh (Nat.le_succ _)) (I.hok.fresh (Nat.le_refl _)) (Nat.ne_of_lt (Nat.lt_succ_self _))
 have I2:=Inv.made (C:=C) I
 have r2:Vals (V.ref (s.heap.objs.size+1)::(vs++dvs)) (Value.ref (s.heap.objs.size+1)::(us++ds)):=.cons rfl (r.append hd)
 have hl:(Value.ref (s.heap.objs.size+1)::us++ds).length=ps.length:=by
  have e:=r2.length
  rw[F.len _ _ _ _ hq] at e
  exact e.symm
 refine wpAny_call (qFi (f:=f) I.kIn M.makes M.init (beq_iff_eq.mp M.fn) (codeAny_mono (F.run _ X.stack _ _ ⟨Value.ref (s.heap.objs.size+1)::us,[]⟩ (Value.ref (s.heap.objs.size+1)::(us++ds)) _ _ E (hr.make C us [])
  (I2.env0.make C us []) (hb _ (Value.ref (s.heap.objs.size+1)::us) I2.kIn hl) r2 hq) fun r s' hq'=>?_))
 cases r with
 | error e=>exact hx pins σ _ _ e s' I2 hq'
 | ok fl=>
  cases fl with
  | ret u=>
   obtain⟨v,H',I3,rv,ev,q3⟩:=I2.after hq'
   subst ev
   exact⟨rv,⟨V.ref (s.heap.objs.size+1),H',I3,rfl,q3⟩⟩
  | next=>exact False.elim hq'
  | brk=>exact False.elim hq'
  | cont=>exact False.elim hq'
theorem qMv (M:Mk X.K C f)(F:FnOk X.prog X.w X.K X.mg X.base CX k f fd ps sp)(hr:Room (k+1) X.A)(hg:Gl X x)(hm:X.mg x=some (.ref C))(hb:Binds X.K fd ps ds)(hd:Vals dvs ds)(hx:Passes CX X E)
  (ha:PA X (e::es) t) (hdb:(x == ("__debug__" : Str))=false:=by decide) (he:starEach (e::es) X.env=(false,eval e X.env)::starEach es X.env:=by rfl) (hpl:(backTo pos (starEach es X.env)).any (·.1)=false:=by rfl):
  PE X (.Call (.Name x p) (e::es) [] pos) (tMake C sp dvs E t):=by
 intro pins s σ H Q I h
 refine wpAny_Call_Name_kw (qCj I hg hm ?_ hdb)
 refine PySem.W.callWith_K (h₀:=X.base) I.ok.mod.kin M.kp (thn (ha pos pins s σ H _ I h) fun us s1 ⟨vs,H1,I1,r,q⟩=>⟨I1.kIn,?_⟩) he hpl
 exact qEn M F hr hb hd hx I1 r q
end

section
variable {X:Cx}{CX:CXT}{k:Nat}{f C:Addr}{fd:FuncData}{ps ks:List Str}{sp:Sp}{E:XK}{x m:Str}{p pos apos kpos:Pos}{e o:Expr}{es:List Expr}{kws:List Keyword}{te ta:TE}{t tk:TA}{nm:Option Str}
variable {g:List Value→List Value→List Value}{gV:List V→List V→List V}
end

structure xM (N P:List Str)(sc:Scope):Prop where
 kind:sc.kind=.function
 co:sc.isCoroutine=false
 gen:sc.isGenerator=false
 nd:N.Nodup
 pre:N.take P.length=P
 par:∀x∈P,sc.names.lookup x=some .local∨sc.names.lookup x=some .cell
 nofree:∀y∈sc.names,y.2≠.free

theorem qJw {kindOf:Str→Option NameKind}{x:Str}:∀{binds:List (Str×Value)} {m:Str→Option Value},(∀v,(x,v)∉binds)→bindL kindOf binds m x=m x
 | [],_,_=>rfl
 | (n,v)::r,m,h=>by
  unfold bindL
  rw[qJw fun w hw=>h w (List.mem_cons_of_mem _ hw)]
  split
  ·have:x≠n:=by rintro rfl;exact h v List.mem_cons_self
   simp[this]
  ·rfl
theorem qJb {kindOf:Str→Option NameKind}{x:Str}:∀{binds:List (Str×Value)} {m:Str→Option Value},(∀v,(x,v)∉binds)→bindC kindOf binds m x=m x
 | [],_,_=>rfl
 | (n,v)::r,m,h=>by
  unfold bindC
  rw[qJb fun w hw=>h w (List.mem_cons_of_mem _ hw)]
  split
  ·rfl
  ·have:x≠n:=by rintro rfl;exact h v List.mem_cons_self
   simp[this]
theorem qJa {kindOf:Str→Option NameKind}{x:Str}{v:Value}:∀{P:List Str} {vs:List Value} {i:Nat} {m:Str→Option Value},P.Nodup→P[i]? = some x→vs[i]? = some v→kindOf x=some .local→
  bindL kindOf (P.zip vs) m x=some v
 | [],_,_,_,_,h,_,_=>by simp at h
 | _::_,[],_,_,_,_,h,_=>by simp at h
 | p::P,w::vs,0,m,nd,h1,h2,hk=>by
  simp at h1 h2;subst h1;subst h2
  show bindL kindOf ((p,w)::P.zip vs) m p=_
  unfold bindL
  rw[qJw fun v hv=>(List.nodup_cons.mp nd).1 (List.of_mem_zip hv).1,if_pos hk]
  simp
 | p::P,w::vs,i+1,m,nd,h1,h2,hk=>by
  show bindL kindOf ((p,w)::P.zip vs) m x=_
  unfold bindL
  exact qJa (i:=i) (List.nodup_cons.mp nd).2 (by simpa using h1) (by simpa using h2) hk
theorem qJc {kindOf:Str→Option NameKind}{x:Str}{v:Value}:∀{P:List Str} {vs:List Value} {i:Nat} {m:Str→Option Value},P.Nodup→P[i]? = some x→vs[i]? = some v→kindOf x≠some .local→
  bindC kindOf (P.zip vs) m x=some v
 | [],_,_,_,_,h,_,_=>by simp at h
 | _::_,[],_,_,_,_,h,_=>by simp at h
 | p::P,w::vs,0,m,nd,h1,h2,hk=>by
  simp at h1 h2;subst h1;subst h2
  show bindC kindOf ((p,w)::P.zip vs) m p=_
  unfold bindC
  rw[qJb fun v hv=>(List.nodup_cons.mp nd).1 (List.of_mem_zip hv).1,if_neg hk]
  simp
 | p::P,w::vs,i+1,m,nd,h1,h2,hk=>by
  show bindC kindOf ((p,w)::P.zip vs) m x=_
  unfold bindC
  exact qJc (i:=i) (List.nodup_cons.mp nd).2 (by simpa using h1) (by simpa using h2) hk

noncomputable def start (N:List Str)(vs:List V):St:=vs.map some++List.replicate (N.length - vs.length) none

noncomputable def cxOf (CX:CXT)(P:Program)(w:World)(K:PySem.W.Frag)(mg:Str→Option Value)(base:Heap)(N:List Str)(qual:Str)(scope:Scope)(f:Addr)(cd:Value)(A:Around)(outer:List Env)(s:Shared)(H:Hp)(E:XK):Cx where
 prog:=P
 w:=w
 K:=K
 mg:=mg
 base:=base
 A:=A.deeper (envOfC qual scope s.heap.objs.size f cd)
 N:=N
 s₀:=s
 H₀:=H
 env:=envOfC qual scope s.heap.objs.size f cd
 outer:=outer
 stack:=envOfC qual scope s.heap.objs.size f cd::outer
 ex:=[]
 calm:=true
 fn:=fun _=>true
 pn:=[]
 xe:=fun e s'=>wpAny (model P w) (A.deeper (envOfC qual scope s.heap.objs.size f cd)) (leaving (envOfC qual scope s.heap.objs.size f cd) e) (fun _ s''=>CX outer H s E e s'') (fun e' s''=>CX outer H s E e' s'') s'

theorem qVz {sc:Scope}{n:Nat}{x:Str}(h:sc.names.lookup x=some .cell):∃c,(cellsFrom n sc.names []).lookup x=some c:=by
 have q:=PySem.W.cellsFrom_some sc.names n [] (.inl h)
 exact Option.isSome_iff_exists.mp q

theorem qCe {CX:CXT}{P:Program}{w:World}{K:PySem.W.Frag}{mg:Str→Option Value}{base:Heap}{N ps:List Str}{qual:Str}{scope:Scope}{f:Addr}{cd:Value}{A:Around}{outer:List Env}{s s1:Shared}{H:Hp}{E:XK}{us:List Value}{vs:List V}
  (S:xM N ps scope) (hd:A.handled=none) (e0:Env0 P w K mg base A outer s H) (hl:vs.length=ps.length) (r:Vals vs us)
  (x:InCallC s s.heap.objs.size (bindL (envOfC qual scope s.heap.objs.size f cd).kindOf (ps.zip us) fun _=>none) (cellsFrom (s.heap.objs.size+1) scope.names []) (bindC (envOfC qual scope s.heap.objs.size f cd).kindOf (ps.zip us) fun _=>none) s1):
  Inv (cxOf CX P w K mg base N qual scope f cd A outer s H E) [] (start N vs) H s1:=by
 have hpl:ps.length≤N.length:=by have:=congrArg List.length S.pre;rw[List.length_take] at this;omega
 obtain⟨h1,tk,rfl,hk⟩:=x.done
 have noA:∀b:Addr,b∉(cxOf CX P w K mg base N qual scope f cd A outer s H E).ex:=fun b z=>absurd (show b∈([]:List Addr) from z) (by simp)
 refine⟨⟨e0.mod,S.kind,rfl,rfl,Nat.le_refl _,fun y z c h1 h2=>?_,fun y hy=>?_,fun y c _ h=>?_,fun _=>hd,Around.frames_deeper e0.frames,.inr ⟨rfl,rfl⟩,fun b z=>absurd z (noA b),e0.bs,e0.bsz,fun b _ _=>noA b,fun b z=>absurd z (noA b),e0.funs,e0.frf⟩,
  rfl,e0.bare,Un.kept hk,⟨_,x.toInCall.ns,fun i y v h1 h2 h3=>?_⟩,fun y c h=>⟨_,x.cell y c h⟩,e0.hok.fresh (Nat.le_refl _),fun y c h=>?_,fun p hp=>absurd (show p∈([]:List (Addr×Obj)) from hp) (by simp),e0.hok.kept hk,?_⟩
 ·exact name_of_addr x.apart (PySem.mem_of_lookup h1) (PySem.mem_of_lookup h2)
 ·have hy:scope.names.lookup y=some .cell∨scope.names.lookup y=some .free:=hy
  rcases hy with hy | hy
  ·exact qVz hy
  ·exact absurd rfl (S.nofree _ (PySem.mem_of_lookup hy))
 ·exact Nat.le_of_lt (x.above y c (PySem.mem_of_lookup h))
 ·have hi:i<vs.length:=by
   unfold start at h2
   by_cases hi:i<vs.length
   ·exact hi
   ·rw[List.getElem?_append_right (by simpa using hi)] at h2
    rw[List.getElem?_replicate] at h2
    split at h2 <;> cases h2
  have ha:vs[i]? = some v:=by
   unfold start at h2
   rw[List.getElem?_append_left (by simpa using hi),List.getElem?_map] at h2
   cases e:vs[i]? with
   | none=>rw[e] at h2;cases h2
   | some a=>rw[e] at h2;cases h2;rfl
  obtain⟨u,hu,rv⟩:=r.get ha
  have hp:ps[i]? = some y:=by
   rw[← S.pre,List.getElem?_take_of_lt (by omega)];exact h1
  have ndP:ps.Nodup:=by rw[← S.pre];exact S.nd.sublist (List.take_sublist _ _)
  refine⟨u,rv,?_⟩
  rcases S.par y (List.mem_of_getElem? hp) with k | k
  ·exact .inl ⟨k,qJa ndP hp hu k⟩
  ·obtain⟨c,e⟩:=qVz (n:=s.heap.objs.size+1) k
   refine .inr ⟨.inl k,c,e,?_⟩
   have q:=x.cell y c e
   rw[qJc ndP hp hu (by show scope.names.lookup y≠_;rw[k];decide)] at q
   exact q
 ·exact e0.hok.fresh (Nat.le_of_lt (x.above y c (PySem.mem_of_lookup h)))
 ·unfold start
  show _=N.length
  rw[List.length_append,List.length_map,List.length_replicate]
  omega

theorem qSg {CX:CXT}{P:Program}{w:World}{K:PySem.W.Frag}{mg:Str→Option Value}{base:Heap}{k:Nat}{f:Addr}{name qual:Str}{params:Arguments}{body:List Stmt}{scope:Scope}{dV kV doc pm cdv ct oc:Value}{an od:Option Addr}
  {osl:Array (Option Value)} {N ps:List Str} {sp:Sp} (lk:K.lookup f=some ⟨oc,od,.func (PySem.W.fnOf name qual params body scope dV kV doc pm an cdv ct),osl⟩) (hcd:PySem.W.codeIn K cdv qual=true) (S:xM N ps scope)
  (len:∀vs H Q E,sp vs H Q E→vs.length=ps.length)
  (hbody:∀(A:Around) (outer:List Env) (s:Shared) (H:Hp) (vs:List V) (Q:VK) (E:XK),Room k (A.deeper (envOfC qual scope s.heap.objs.size f cdv))→sp vs H Q E→
   ∃t,PSs (cxOf CX P w K mg base N qual scope f cdv A outer s H E) body t∧t { nx:=fun _ H'=>Q .non H',rt:=Q } (start N vs) H):
  FnOk P w K mg base CX (k+1) f (PySem.W.fnOf name qual params body scope dV kV doc pm an cdv ct) ps sp:=by
 refine⟨len,fun A outer s H args us vs Q E hr e0 hb r hsp=>?_⟩
 have hl:=len _ _ _ _ hsp
 have KX:K.In s.heap:=e0.mod.kin.keeps fun b o e=>(e0.bs b o e).1
 have lim:s.heap.NoLimit:=e0.mod.nolimit.keeps fun b o e=>(e0.bs b o e).1
 have hkind:∀y∈ps.zip us,scope.names.lookup y.1=some .local∨(scope.names.lookup y.1=some .cell∧((cellsFrom (s.heap.objs.size+1) scope.names []).lookup y.1).isSome=true):=fun⟨n,v⟩ hy=>by
  rcases S.par n (List.of_mem_zip hy).1 with q | q
  ·exact .inl q
  ·exact .inr ⟨q,PySem.W.cellsFrom_some _ _ _ (.inl q)⟩
 refine codeAny_call_function hr.depth (KX _ _ lk) rfl S.co S.gen rfl (PySem.W.codeRec_of KX hcd) (hb _ _ _ _ ?_)
 refine wpAny_newFunctionEnv_cells S.kind hkind fun env he s1 x=>?_
 subst he
 refine⟨lim.keeps x.toInCall.keep,codeAny_func ?_⟩
 obtain⟨t,ht,hq⟩:=hbody A outer s H vs Q E (hr.deeper _) hsp
 have I:Inv (cxOf CX P w K mg base N qual scope f cdv A outer s H E) [] (start N vs) H s1:=qCe S hr.hd e0 hl r x
 refine wpAny_mono (ht [] s1 (start N vs) H _ I hq) (fun fl s' hs=>?_) fun e s' hs=>hs
 have fin:∀{σ':St} {H':Hp} {v:V} {u:Value},Inv (cxOf CX P w K mg base N qual scope f cdv A outer s H E) [] σ' H' s'→RelV v u→Q v H'→CE outer P w H s Q u s':=
  fun{σ' H' v u} J rv q=>⟨v,H',J.os,J.bare,J.base,J.hok,rv,q⟩
 cases fl with
 | ret u=>
  obtain⟨v,σ',H',J,rv,q⟩:=hs
  exact fin J rv q
 | next=>
  obtain⟨σ',H',J,q⟩:=hs
  exact fin (v:=V.non) (u:=Value.none) J rfl q
 | brk=>
  obtain⟨_,_,_,q⟩:=hs
  exact False.elim q
 | cont=>
  obtain⟨_,_,_,q⟩:=hs
  exact False.elim q
end L2

namespace L2
open PySem PySem.Spec PyProof.Rows
section
variable {X:Cx}{x:Str}{p pos:Pos}{e:Expr}{es:List Expr}{t:TA}{id T:String}{r:List V→Hp→VK→Prop}

noncomputable def tCB (r:List V→Hp→VK→Prop)(t:TA):TE:=fun σ H Q=>t σ H fun vs H1=>r vs H1 Q
theorem xX (hc:CallR X (.builtin id) r)(hg:Gl X x)(hm:X.mg x=none)(hv:bootBuiltins x=some (.builtin id))(ha:PA X (e::es) t)(hn:x ≠ "__name__" := by decide)(hdb:(x == ("__debug__" : Str))=false:=by decide)
  (he:starEach (e::es) X.env=(false,eval e X.env)::starEach es X.env:=by rfl) (hpl:(backTo pos (starEach es X.env)).any (·.1)=false:=by rfl):PE X (.Call (.Name x p) (e::es) [] pos) (tCB r t):=by
 intro pins s σ H Q I h
 refine wpAny_Call_Name_kw (wC I hg hm hv ?_ hn hdb)
 exact PyProof.Rows.callWith_builtin1 (thn (ha pos pins s σ H _ I h) fun us s1 ⟨vs,H1,I1,r1,q1⟩=>hc pins s1 σ H1 vs us Q I1 r1 q1) he hpl
theorem xQ (hc:CallR X (.type T) r)(hg:Gl X x)(hm:X.mg x=none)(hv:bootBuiltins x=some (.type T))(ha:PA X (e::es) t)(hn:x ≠ "__name__" := by decide)(hdb:(x == ("__debug__" : Str))=false:=by decide)
  (he:starEach (e::es) X.env=(false,eval e X.env)::starEach es X.env:=by rfl) (hpl:(backTo pos (starEach es X.env)).any (·.1)=false:=by rfl):PE X (.Call (.Name x p) (e::es) [] pos) (tCB r t):=by
 intro pins s σ H Q I h
 refine wpAny_Call_Name_kw (wC I hg hm hv ?_ hn hdb)
 exact PyProof.Rows.callWith_type1 (thn (ha pos pins s σ H _ I h) fun us s1 ⟨vs,H1,I1,r1,q1⟩=>hc pins s1 σ H1 vs us Q I1 r1 q1) he hpl
end
end L2

namespace HT
open PySem PyProof.Rows

section
open PySem.SeqAt
open PySem.AutoSeq1 (wpAny_loadPart')
open PySem.MeetsSeq PySem.MeetsSeq2 PySem.MeetsSeq3

end

section
variable {prog:Program}{w:World}{A:Around}{E:Value→Shared→Prop}{s:Shared}

noncomputable def sIx (n d:Nat):Option Int→Nat
 | none=>d
 | some v=>if v<0 then (v+(n:Int)).toNat else min v.toNat n
theorem sIx_none (n d:Nat):sIx n d none=d:=rfl
theorem sIx_nat (n d k:Nat):sIx n d (some (k:Int))=min k n:=by
 show(if (k:Int)<0 then ((k:Int)+(n:Int)).toNat else min (k:Int).toNat n)=min k n
 rw[if_neg (by omega),Int.toNat_natCast]
end
end HT

namespace L2
open PySem PySem.Spec PyProof.Rows

noncomputable abbrev TO:=St→Hp→(Option Int→Hp→Prop)→Prop
noncomputable def PO (X:Cx)(e:Option Expr)(t:TO):Prop:=
 ∀(pins:List (Addr×Obj)) (s:Shared) (σ:St) (H:Hp) (Q:Option Int→Hp→Prop),Inv X pins σ H s→t σ H Q→
  wpAny (model X.prog X.w) X.A (evalPart e X.env) (fun u s'=>∃o H',Inv X pins σ H' s'∧IsPart u o∧Q o H') X.xe s
noncomputable def qWe:TO:=fun _ H Q=>Q none H
noncomputable def tPart (t:TE):TO:=fun σ H Q=>t σ H fun x H1=>∃i,x=.int i∧Q (some i) H1

section
variable {X:Cx}{e:Expr}{te:TE}{lo hi:Option Expr}{tl th:TO}{pos p2:Pos}

theorem qBq:PO X none qWe:=by
 intro pins s σ H Q I h
 rw[evalPart_none]
 exact wpAny_pure ⟨none,H,I,.none,h⟩
theorem qAo (h:PE X e te):PO X (some e) (tPart te):=by
 intro pins s σ H Q I hw
 rw[evalPart_some]
 refine thn (h pins s σ H _ I hw) fun u s1 ⟨x,H1,I1,r1,q1⟩=>?_
 obtain⟨i,rfl,q⟩:=q1
 obtain⟨t,rfl⟩:=r1
 exact⟨some i,H1,I1,.int i t,q⟩

noncomputable def SlR (X:Cx)(r:V→Option Int→Option Int→Hp→VK→Prop):Prop:=
 ∀(pins:List (Addr×Obj)) (s:Shared) (σ:St) (H:Hp) (x:V) (v vl vu:Value) (lo hi:Option Int) (sl:Addr) (Q:VK),Inv X pins σ H s→RelV x v→s.heap.IsSliceOf sl vl vu .none→IsPart vl lo→IsPart vu hi→r x lo hi H Q→
  ∃T id,typeLookup (.type T) "__getitem__" = pure (some (.builtin id))∧s.TypeIs v T∧wpAny (model X.prog X.w) X.A (getItem v (.ref sl)) (EP X pins σ Q) X.xe s
noncomputable def tSl (r:V→Option Int→Option Int→Hp→VK→Prop)(te:TE)(tl th:TO):TE:=fun σ H Q=>te σ H fun x H1=>tl σ H1 fun l H2=>th σ H2 fun u H3=>r x l u H3 Q
theorem qKe {r:V→Option Int→Option Int→Hp→VK→Prop}(hr:SlR X r)(he:PE X e te)(hl:PO X lo tl)(hu:PO X hi th):PE X (.Subscript e (.Slice lo hi none p2) pos) (tSl r te tl th):=by
 intro pins s σ H Q I h
 refine Subscript_ (thn (he pins s σ H _ I h) fun v s1 ⟨x,H1,I1,r1,q1⟩=>?_)
 refine wpAny_Slice (thn (hl pins s1 σ H1 _ I1 q1) fun vl s2 ⟨l,H2,I2,pl,q2⟩=>thn (hu pins s2 σ H2 _ I2 q2) fun vu s3 ⟨u,H3,I3,pu,q3⟩=>?_)
 rw[evalPart_none]
 refine wpAny_pure ?_
 have I4:Inv X pins σ H3 { s3 with heap:=s3.heap.push { cls:=.type "slice",data:=.fields #[vl,vu,.none] } }:=I3.kept (t':=s3.toks) fun b ob q=>Heap.get?_push_of_some _ q
 obtain⟨T,id,hT,ht,hg⟩:=hr pins { s3 with heap:=s3.heap.push { cls:=.type "slice",data:=.fields #[vl,vu,.none] } } σ H3 x v vl vu l u s3.heap.objs.size Q I4 r1 (Heap.IsSliceOf.new ..) pl pu q3
 show wpAny (model X.prog X.w) X.A (subscriptTail e (.Slice lo hi none p2) v (.ref s3.heap.objs.size)) (EP X pins σ Q) X.xe { s3 with heap:=s3.heap.push { cls:=.type "slice",data:=.fields #[vl,vu,.none] } }
 exact tail_any (ops:=[.ref s3.heap.objs.size,v]) ht hT hg (by with_unfolding_all rfl)

noncomputable def cutV (xs:List V)(lo hi:Option Int):List V:=(xs.drop (HT.sIx xs.length 0 lo)).take (HT.sIx xs.length xs.length hi - HT.sIx xs.length 0 lo)
theorem qYw (xs:List V)(lo hi:Option Int):(cutV xs lo hi).length≤xs.length:=by
 unfold cutV
 rw[List.length_take,List.length_drop]
 omega
end
end L2

namespace L2
open PySem PySem.Spec PyProof.Rows

noncomputable def ixN (n:Nat)(i:Int):Option Nat:=if 0≤i then (if i<n then some i.toNat else none) else if -(n:Int)≤i then some (i+n).toNat else none
noncomputable def atI {α:Type}(xs:List α)(i:Int):Option α:=(ixN xs.length i).bind fun j=>xs[j]?
theorem qCc {n:Nat}{i:Int}{j:Nat}(h:ixN n i=some j):seqIndex? i n=some j∧j<n∧-(n:Int)≤i∧i<n:=by
 unfold ixN at h
 by_cases h0:0≤i
 ·rw[if_pos h0] at h
  by_cases h1:i<n
  ·rw[if_pos h1] at h
   have e:i.toNat=j:=Option.some.inj h
   exact⟨by rw[seqIndex_of h0 h1,e],by omega,by omega,h1⟩
  ·rw[if_neg h1] at h;cases h
 ·rw[if_neg h0] at h
  by_cases h1 : -(n:Int)≤i
  ·rw[if_pos h1] at h
   have e:(i+n).toNat=j:=Option.some.inj h
   exact⟨by rw[seqIndex_neg (by omega) h1,e],by omega,h1,by omega⟩
  ·rw[if_neg h1] at h;cases h
theorem qYd {α:Type}{xs:List α}{i:Int}{v:α}(h:atI xs i=some v):∃j,seqIndex? i xs.length=some j∧xs[j]? = some v∧j<xs.length∧-(xs.length:Int)≤i∧i<xs.length:=by
 unfold atI at h
 cases e:ixN xs.length i with
 | none=>rw[e] at h;cases h
 | some j=>
  rw[e] at h
  obtain⟨h1,h2,h3,h4⟩:=qCc e
  exact⟨j,h1,h,h2,h3,h4⟩
theorem zS {α:Type}{xs:List α}{j:Nat}{v:α}(h:xs[j]? = some v):atI xs (j:Int)=some v:=by
 have hj:j<xs.length:=(List.getElem?_eq_some_iff.mp h).1
 have e:ixN xs.length (j:Int)=some j:=by
  unfold ixN
  rw[if_pos (by omega),if_pos (by omega)];simp
 unfold atI;rw[e];exact h
noncomputable def qNm (b:Expr):Prop:=∀o i,subscripted b false o i=operate [o,i] (getItem o i)
noncomputable def IxR (X:Cx)(r:R2):Prop:=
 ∀(value slice:Expr) (pins:List (Addr×Obj)) (s:Shared) (σ:St) (H:Hp) (x y:V) (v u:Value) (Q:VK),Inv X pins σ H s→RelV x v→RelV y u→r x y H Q→
  subscripted slice false v u=operate [v,u] (getItem v u)→wpAny (model X.prog X.w) X.A (subscriptTail value slice v u) (EP X pins σ Q) X.xe s
noncomputable def MtR (X:Cx)(id:String)(r:V→List V→Hp→VK→Prop):Prop:=
 ∀(pins:List (Addr×Obj)) (s:Shared) (σ:St) (H:Hp) (x:V) (xs:List V) (v:Value) (us:List Value) (Q:VK),Inv X pins σ H s→RelV x v→Vals xs us→r x xs H Q→
  wpAny (model X.prog X.w) X.A (call (.builtin id) (v::us)) (EP X pins σ Q) X.xe s
section
variable {X:Cx}{a b:Expr}{ta tb:TE}{pos:Pos}
theorem xE {r:R2}(hr:IxR X r)(ha:PE X a ta)(hb:PE X b tb)(hs:qNm b):PE X (.Subscript a b pos) (tOp r ta tb):=by
 intro pins s σ H Q I h
 exact Subscript_ (binT ha hb I h fun v u s2 x y H2 I2 rx ry q=>hr a b pins s2 σ H2 x y v u Q I2 rx ry q (hs _ _))

noncomputable def rIxL (K:PySem.W.Frag):R2:=fun x y H Q=>∃p xs i v,x=.ref p∧y=.int i∧SqL K H p xs∧atI xs i=some v∧Q v H
noncomputable def rIxT (K:PySem.W.Frag):R2:=fun x y H Q=>∃p xs i v,x=.ref p∧y=.int i∧SqT K H p xs∧atI xs i=some v∧Q v H
noncomputable def rIxS:R2:=fun x y H Q=>∃z i c,x=.str z∧y=.int i∧z.length≤sizeLine∧atI z.cps.toList i=some c∧Q (.str ⟨#[c]⟩) H
theorem qMl:IxR X (rIxL X.K):=by
 intro value slice pins s σ H x y v u Q I rx ry h hs
 obtain⟨p,xs,i,z,rfl,rfl,hq,he,q⟩:=h
 cases rx
 obtain⟨t,rfl⟩:=ry
 obtain⟨its,r,pl,hz⟩:=I.list hq
 obtain⟨j,h1,h2,h3,h4,h5⟩:=qYd he
 obtain⟨w,ew,rw'⟩:=r.get h2
 have hl:=r.length
 have hn:=line63
 have fin:EP X pins σ Q w s:=⟨z,H,I,rw',q⟩
 by_cases h0:0≤i
 ·have hj:i.toNat=j:=by
   rw[seqIndex_of h0 h5] at h1
   exact Option.some.inj h1
  exact item_listR pl.isList h0 (by omega) (by rw[hj];simpa using ew) fin hs
 ·have hj:(i+(its.toArray.size:Int)).toNat=j:=by
   rw[seqIndex_neg (by omega) h4] at h1
   rw[List.size_toArray,← hl]
   exact Option.some.inj h1
  exact subscriptTail_builtinR (x:=w) pl.isList.typeIs slot_list_getitem.lookup
   (wpAny_getItem_list_neg (Q:=fun r s'=>r=w∧EP X pins σ Q r s') pl.isList (by omega) (by rw[List.size_toArray] <;> omega) (by omega) (by rw[hj];simpa using ew) ⟨rfl,fin⟩) hs
theorem qRx:IxR X (rIxT X.K):=by
 intro value slice pins s σ H x y v u Q I rx ry h hs
 obtain⟨p,xs,i,z,rfl,rfl,hq,he,q⟩:=h
 cases rx
 obtain⟨t,rfl⟩:=ry
 obtain⟨its,r,pl,hz⟩:=I.tuple hq
 obtain⟨j,h1,h2,h3,h4,h5⟩:=qYd he
 obtain⟨w,ew,rw'⟩:=r.get h2
 have hl:=r.length
 have hn:=line63
 have fin:EP X pins σ Q w s:=⟨z,H,I,rw',q⟩
 exact subscriptTail_builtinR (x:=w) pl.typeIs slot_tuple_getitem.lookup
  (getItem_tuple (j:=j) (Q:=fun r s'=>r=w∧EP X pins σ Q r s') pl (by omega) (by omega) (by rw[List.size_toArray,← hl];exact h1) (by simpa using ew) ⟨rfl,fin⟩) hs
theorem qRz:IxR X rIxS:=by
 intro value slice pins s σ H x y v u Q I rx ry h hs
 obtain⟨z,i,c,rfl,rfl,hz,he,q⟩:=h
 obtain⟨t,rfl⟩:=rx
 obtain⟨t',rfl⟩:=ry
 obtain⟨j,h1,h2,h3,h4,h5⟩:=qYd he
 have hl:z.cps.toList.length=z.length:=by simp[Str.length]
 rw[hl] at h1 h4 h5
 have hn:=line63
 exact tail_any (typeIs_str s z t) slot_str_getitem.lookup (getItem_str (c:=c) (by
  have e1:decide (i < -(2 ^ 63:Int))=false:=decide_eq_false (by omega)
  have e2:decide (i≥2 ^ 63)=false:=decide_eq_false (by omega)
  rw[e1,e2,Bool.or_false]) (by rw[h1];simpa using h2) ⟨.str ⟨#[c]⟩,H,I.tok _,⟨_,rfl⟩,q⟩) hs
theorem qVh (its:List Value)(n j:Nat)(u:Value):Obj.mapSeq (·.setIfInBounds j u) { cls:=.type "list",data:=.seq its.toArray n }={ cls:=.type "list",data:=.seq (its.set j u).toArray n }:=by
 simp[Obj.mapSeq]
theorem Inv.lst {pins:List (Addr×Obj)}{σ:St}{H:Hp}{s:Shared}{p:Addr}{xs:List V}(I:Inv X pins σ H s)(h:H p=some (.lst xs)):
  ∃(its:List Value) (n:Nat),Vals xs its∧s.heap.get? p=some { cls:=.type "list",data:=.seq its.toArray n }∧xs.length≤sizeLine:=by
 obtain⟨z,its,n,r,e⟩:=I.hok p _ h
 exact⟨its,n,r,e,z⟩
theorem Inv.lstUpd {pins:List (Addr×Obj)}{σ:St}{H:Hp}{s:Shared}{p:Addr}{xs ys:List V}{its its':List Value}{n n':Nat}{f:Obj→Obj}(I:Inv X pins σ H s)(h:H p=some (.lst xs))
  (ho:s.heap.get? p=some { cls:=.type "list",data:=.seq its.toArray n }) (hf:f { cls:=.type "list",data:=.seq its.toArray n }={ cls:=.type "list",data:=.seq its'.toArray n' }) (r:Vals ys its') (hz:ys.length≤sizeLine) (t:Nat):
  Inv X pins σ (upd H p (.lst ys)) { s with heap:=s.heap.update p f,toks:=t }:=by
 have e:(s.heap.update p f).get? p=some { cls:=.type "list",data:=.seq its'.toArray n' }:=by
  rw[Heap.get?_update_self f ho (by rw[hf] <;> rfl),hf]
 refine I.write (x:=p) (e:=p) (by rw[h];trivial) (.inl rfl) (fun b u hb q=>(Heap.get?_update_other _ _ (Ne.symm hb)).trans q) ⟨_,e⟩ ?_
 exact⟨hz,its',n',r,e⟩
noncomputable def rSetL:V→V→V→Hp→(Hp→Prop)→Prop:=fun o i v H Q=>∃p xs k j,o=.ref p∧i=.int k∧H p=some (.lst xs)∧ixN xs.length k=some j∧Q (upd H p (.lst (xs.set j v)))
theorem qKj:PSet X rSetL:=by
 intro pins s σ H o i v ov iv u Q I ro ri rv h
 obtain⟨p,xs,k,j,rfl,rfl,hp,hj,q⟩:=h
 cases ro
 obtain⟨t,rfl⟩:=ri
 obtain⟨its,n,r,ho,hz⟩:=I.lst hp
 obtain⟨h1,h2,h3,h4⟩:=qCc hj
 have hl:=r.length
 have hn:=line63
 have I':Inv X pins σ (upd H p (.lst (xs.set j v))) { s with heap:=s.heap.update p (Obj.mapSeq (·.setIfInBounds j u)) }:=
  I.lstUpd hp ho (qVh its n j u) (r.set rv j) (by rw[List.length_set];exact hz) s.toks
 by_cases h0:0≤k
 ·have hk:k.toNat=j:=by
   rw[seqIndex_of h0 h4] at h1
   exact Option.some.inj h1
  exact PySem.W.ki_setAt ho h0 (by omega) (by rw[List.size_toArray,← hl];exact h4) (by rw[hk];exact⟨_,I',q⟩)
 ·have hk:(k+(its.toArray.size:Int)).toNat=j:=by
   rw[seqIndex_neg (by omega) h3] at h1
   rw[List.size_toArray,← hl]
   exact Option.some.inj h1
  exact PySem.W.ki_setBack ho (by omega) (by rw[List.size_toArray,← hl];exact h3) (by omega) (by rw[hk];exact⟨_,I',q⟩)

theorem qZk (lo hi:Option Int)(n:Nat):(sliceBounds lo hi none n).1=((HT.sIx n 0 lo:Nat):Int)∧(sliceBounds lo hi none n).2.1=((HT.sIx n n hi:Nat):Int)∧(sliceBounds lo hi none n).2.2=1:=by
 refine⟨?_,?_,rfl⟩
 ·cases lo with
  | none=>simp[sliceBounds,HT.sIx]
  | some i=>
   simp only[sliceBounds,HT.sIx,Option.getD_none,show(1:Int)>0 by decide,if_true]
   by_cases h:i<0
   ·simp only[h,if_true] <;> omega
   ·simp only[h,if_false] <;> omega
 ·cases hi with
  | none=>simp[sliceBounds,HT.sIx]
  | some i=>
   simp only[sliceBounds,HT.sIx,Option.getD_none,show(1:Int)>0 by decide,if_true]
   by_cases h:i<0
   ·simp only[h,if_true] <;> omega
   ·simp only[h,if_false] <;> omega
theorem qQo (its:List Value)(lo hi:Option Int):slicePick its.toArray lo hi none=((its.drop (HT.sIx its.length 0 lo)).take (HT.sIx its.length its.length hi - HT.sIx its.length 0 lo)).toArray:=by
 obtain⟨h1,h2,h3⟩:=qZk lo hi its.toArray.size
 unfold slicePick
 rw[h1,h2,h3]
 simp only[sliceRange_one,pick_run,List.size_toArray] <;> rfl
noncomputable def rSlL (K:PySem.W.Frag):V→Option Int→Option Int→Hp→VK→Prop:=fun x lo hi H Q=>∃a xs,x=.ref a∧SqL K H a xs∧∀p,H p=none→Q (.ref p) (upd H p (.lst (cutV xs lo hi)))
theorem qIh:SlR X (rSlL X.K):=by
 intro pins s σ H x v vl vu lo hi sl Q I rx hs pl pu h
 obtain⟨a,xs,rfl,hx,q⟩:=h
 cases rx
 obtain⟨its,r,ht,hz⟩:=I.list hx
 have hlen:=r.length
 refine⟨"list",_,slot_list_getitem.lookup,ht.isList.typeIs,?_⟩
 refine wpAny_getItem_list_slice ht.isList hs pl pu .none (by simp) ?_ (by rw[List.size_toArray] <;> omega)
 rw[qQo,← hlen]
 refine⟨.ref s.heap.objs.size,_,I.laid (t':=s.toks) (o:=.lst (cutV xs lo hi)) (fun b ob q=>Heap.get?_push_of_some _ q) (Nat.le_refl _) ?_,rfl,q _ (I.hok.fresh (Nat.le_refl _))⟩
 exact⟨Nat.le_trans (qYw xs lo hi) hz,_,0,(r.drop (HT.sIx xs.length 0 lo)).take (HT.sIx xs.length xs.length hi - HT.sIx xs.length 0 lo),Heap.get?_push_size _ rfl⟩

noncomputable def flatV:V→Bool
 | .non=>true
 | .bl _=>true
 | .int _=>true
 | .str _=>true
 | _=>false
noncomputable def eqV:V→V→Bool
 | .non,.non=>true
 | .bl a,.bl b=>a == b
 | .bl a,.int b=>(if a then 1 else 0) == b
 | .int a,.bl b=>a == (if b then 1 else 0)
 | .int a,.int b=>a == b
 | .str a,.str b=>a == b
 | _,_=>false
theorem qRa {A:Around}{s:Shared}{y x:V}{u v:Value}(ry:RelV y u)(rx:RelV x v)(fy:flatV y=true)(fx:flatV x=true):SeqAt.EqAt A s u v (eqV y x):=by
 cases y with
 | non=>
  cases ry
  cases x with
  | non=>cases rx;exact SeqAt.EqAt.same _
  | bl b=>cases rx;exact SeqAt.EqAt.none_bool b
  | int b=>obtain⟨t,rfl⟩:=rx;exact SeqAt.EqAt.none_int b t
  | str b=>obtain⟨t,rfl⟩:=rx;exact SeqAt.EqAt.none_str b t
  | _=>exact absurd (show false=true from fx) Bool.false_ne_true
 | bl a=>
  cases ry
  cases x with
  | non=>cases rx;exact SeqAt.EqAt.bool_none a
  | bl b=>cases rx;exact SeqAt.EqAt.bool_bool a b
  | int b=>obtain⟨t,rfl⟩:=rx;exact SeqAt.EqAt.bool_int a b t
  | str b=>obtain⟨t,rfl⟩:=rx;exact SeqAt.EqAt.bool_str a b t
  | _=>exact absurd (show false=true from fx) Bool.false_ne_true
 | int a=>
  obtain⟨t',rfl⟩:=ry
  cases x with
  | non=>cases rx;exact SeqAt.EqAt.int_none a t'
  | bl b=>cases rx;exact SeqAt.EqAt.int_bool a t' b
  | int b=>obtain⟨t,rfl⟩:=rx;exact SeqAt.EqAt.int_int a t' b t
  | str b=>obtain⟨t,rfl⟩:=rx;exact SeqAt.EqAt.int_str a t' b t
  | _=>exact absurd (show false=true from fx) Bool.false_ne_true
 | str a=>
  obtain⟨t',rfl⟩:=ry
  cases x with
  | non=>cases rx;exact SeqAt.EqAt.str_none a t'
  | bl b=>cases rx;exact SeqAt.EqAt.str_bool a t' b
  | int b=>obtain⟨t,rfl⟩:=rx;exact SeqAt.EqAt.str_int a t' b t
  | str b=>obtain⟨t,rfl⟩:=rx;exact SeqAt.EqAt.str_str a t' b t
  | _=>exact absurd (show false=true from fx) Bool.false_ne_true
 | _=>exact absurd (show false=true from fy) Bool.false_ne_true
noncomputable def eqU (x:V)(u:Value):Bool:=match u with
 | .none=>eqV .non x
 | .bool b=>eqV (.bl b) x
 | .int i _=>eqV (.int i) x
 | .str z _=>eqV (.str z) x
 | _=>false
theorem qIx {x y:V}{u:Value}(r:RelV y u)(f:flatV y=true):eqU x u=eqV y x:=by
 cases y with
 | non=>cases r;rfl
 | bl b=>cases r;rfl
 | int i=>obtain⟨t,rfl⟩:=r;rfl
 | str z=>obtain⟨t,rfl⟩:=r;rfl
 | _=>exact absurd (show false=true from f) Bool.false_ne_true
theorem qYe {x:V}:∀{xs:List V} {us:List Value},Vals xs us→xs.all flatV=true→us.any (eqU x)=xs.any fun y=>eqV y x
 | _,_,.nil,_=>rfl
 | y::xs,u::us,.cons r t,f=>by
  rw[List.all_cons,Bool.and_eq_true] at f
  rw[List.any_cons,List.any_cons,qIx r f.1,qYe t f.2]
theorem qXb {A:Around}{s:Shared}{x:V}{v:Value}(rx:RelV x v)(fx:flatV x=true):∀{xs:List V} {us:List Value},Vals xs us→xs.all flatV=true→∀u∈us,SeqAt.EqAt A s u v (eqU x u)
 | _,_,.nil,_=>fun u hu=>by cases hu
 | y::xs,u::us,.cons r t,f=>fun u' hu=>by
  rw[List.all_cons,Bool.and_eq_true] at f
  rcases List.mem_cons.mp hu with rfl | hu
  ·rw[qIx r f.1];exact qRa r rx f.1 fx
  ·exact qXb rx fx t f.2 u' hu
noncomputable def inV (x:V)(xs:List V):Bool:=xs.any fun y=>eqV y x
noncomputable def rIn (K:PySem.W.Frag)(neg:Bool):R2:=fun x y H Q=>∃p xs,y=.ref p∧(SqL K H p xs∨SqT K H p xs)∧flatV x=true∧xs.all flatV=true∧Q (.bl (if neg then !inV x xs else inV x xs)) H
theorem qBf:OpR X (compareOp .In) (rIn X.K false):=by
 intro pins s σ H x y v u Q I rx ry h
 obtain⟨p,xs,rfl,hq,fx,fs,q⟩:=h
 cases ry
 rcases hq with hq | hq
 ·obtain⟨its,r,pl,hz⟩:=I.list hq
  refine SeqAt.in_listAt (eqU x) pl.isList (fun w hw=>qXb rx fx r fs w (by simpa using hw)) ⟨.bl _,H,I,rfl,?_⟩
  rw[show its.toArray.any (eqU x)=its.any (eqU x) by simp,qYe r fs]
  exact q
 ·obtain⟨its,r,pl,hz⟩:=I.tuple hq
  refine SeqAt.in_tupleAt (eqU x) pl (fun w hw=>qXb rx fx r fs w (by simpa using hw)) ⟨.bl _,H,I,rfl,?_⟩
  rw[show its.toArray.any (eqU x)=its.any (eqU x) by simp,qYe r fs]
  exact q
theorem qJk:CallR X (.builtin "len") (fun xs H Q=>∃p ys,xs=[.ref p]∧(SqL X.K H p ys∨SqT X.K H p ys)∧Q (.int ys.length) H):=by
 intro pins s σ H xs us Q I r h
 obtain⟨p,ys,rfl,hq,q⟩:=h
 obtain⟨u,rfl,rx⟩:=vals1 r
 cases rx
 have hn:=line63
 rcases hq with hq | hq
 ·obtain⟨its,r',pl,hz⟩:=I.list hq
  have hlen:=r'.length
  exact Calls.call_len_list pl.isList (by simp only[List.size_toArray] <;> omega) ⟨.int ys.length,H,I.tok _,⟨s.toks+1,by rw[List.size_toArray,hlen]⟩,q⟩
 ·obtain⟨its,r',pl,hz⟩:=I.tuple hq
  have hlen:=r'.length
  exact len_tuple pl (by simp only[List.size_toArray] <;> omega) ⟨.int ys.length,H,I.tok _,⟨s.toks+1,by rw[List.size_toArray,hlen]⟩,q⟩
theorem qJj:CallR X (.type "list") (fun xs H Q=>∃p ys,xs=[.ref p]∧(SqL X.K H p ys∨SqT X.K H p ys)∧∀l,H l=none→Q (.ref l) (upd H l (.lst ys))):=by
 intro pins s σ H xs us Q I r h
 obtain⟨p,ys,rfl,hq,q⟩:=h
 obtain⟨u,rfl,rx⟩:=vals1 r
 cases rx
 have fin:∀(its:List Value),Vals ys its→ys.length≤sizeLine→∀(h':Heap) (c':Nat),(∀b o',s.heap.get? b=some o'→h'.get? b=some o')→
   h'.get? s.heap.objs.size=some { cls:=.type "list",dict:=none,data:=.seq its.toArray c',slots:=#[] }→EP X pins σ Q (.ref s.heap.objs.size) { s with heap:=h' }:=fun its r' hz h' c' kp e=>
  ⟨.ref s.heap.objs.size,_,I.laid (t':=s.toks) kp (Nat.le_refl _) (show ObjOk X.prog X.w _ h' _ (.lst ys) from⟨hz,its,c',r',e⟩),rfl,q _ (I.hok.fresh (Nat.le_refl _))⟩
 rcases hq with hq | hq
 ·obtain⟨its,r',pl,hz⟩:=I.list hq
  have hlen:=r'.length
  obtain⟨o,ho,hc,n,hd⟩:=pl.isList
  exact call_list_seq p (.inl rfl) ho hc hd (fun h' c' kp e=>fin its r' hz h' c' kp e) (by simp only[List.size_toArray] <;> omega)
 ·obtain⟨its,r',pl,hz⟩:=I.tuple hq
  have hlen:=r'.length
  obtain⟨o,ho,hc,n,hd⟩:=pl
  exact call_list_seq p (.inr rfl) ho hc hd (fun h' c' kp e=>fin its r' hz h' c' kp e) (by simp only[List.size_toArray] <;> omega)
theorem qXg:CallR X (.type "tuple") (fun xs H Q=>∃p ys,xs=[.ref p]∧((SqL X.K H p ys∧∀l,H l=none→Q (.ref l) (upd H l (.tup ys)))∨(SqT X.K H p ys∧Q (.ref p) H))):=by
 intro pins s σ H xs us Q I r h
 obtain⟨p,ys,rfl,h⟩:=h
 obtain⟨u,rfl,rx⟩:=vals1 r
 cases rx
 rcases h with⟨hq,q⟩ | ⟨hq,q⟩
 ·obtain⟨its,r',pl,hz⟩:=I.list hq
  have hlen:=r'.length
  refine call_tuple_list pl.isList (fun h' kp=>?_) (by simp only[List.size_toArray] <;> omega)
  have I1:Inv X pins σ H { s with heap:=h' }:=I.kept (t':=s.toks) kp
  have I2:Inv X pins σ (upd H h'.objs.size (.tup ys)) { s with heap:=h'.push { cls:=.type "tuple",data:=.seq its.toArray } }:=
   I1.laid (t':=s.toks) (fun b o e=>Heap.get?_push_of_some _ e) (Nat.le_refl _) (show ObjOk X.prog X.w _ _ _ (.tup ys) from⟨hz,its,r',TupX.new _ _⟩)
  exact⟨.ref h'.objs.size,_,I2,rfl,q _ (I1.hok.fresh (Nat.le_refl _))⟩
 ·obtain⟨its,r',pl,hz⟩:=I.tuple hq
  exact call_tuple_same pl ⟨.ref p,H,I,rfl,q⟩

noncomputable def tyV (K:PySem.W.Frag)(T:String)(x:V)(H:Hp):Prop:=match x with
 | .str _=>T = "str"
 | .int _=>T = "int"
 | .ref p=>(T = "list" ∧ ∃xs,SqL K H p xs)∨(T = "tuple" ∧ ∃o,K.lookup p=some o∧o.cls=.type "tuple" ∧ o.dict=none)∨
   (T = "dict" ∧ ((∃kvs,H p=some (.dK kvs))∨∃kvs,H p=some (.dT kvs)))∨(T = "set" ∧ ∃S n,H p=some (.set S n))
 | _=>False
theorem qOm {pins:List (Addr×Obj)}{σ:St}{H:Hp}{s:Shared}{T:String}{x:V}{v:Value}(I:Inv X pins σ H s)(r:RelV x v)(ty:tyV X.K T x H):
  s.TypeIs v T∧∀a,v=.ref a→∃ob,s.heap.get? a=some ob∧ob.dict=none:=by
 cases x with
 | str z=>
  obtain⟨t,rfl⟩:=r
  cases(show T = "str" from ty)
  exact⟨typeIs_str s z t,fun _ e=>nomatch e⟩
 | int i=>
  obtain⟨t,rfl⟩:=r
  cases(show T = "int" from ty)
  exact⟨typeIs_int s i t,fun _ e=>nomatch e⟩
 | ref p=>
  cases r
  rcases ty with⟨rfl,xs,hq⟩ | ⟨rfl,o,hk,hc,hd⟩ | ⟨rfl,hk⟩ | ⟨rfl,S,n,hk⟩
  ·obtain⟨its,_,pl,_⟩:=I.list hq
   refine⟨pl.isList.typeIs,fun a e=>?_⟩
   cases e
   obtain⟨o,n,e,c,hd,_⟩:=pl
   exact⟨o,e,hd⟩
  ·refine⟨⟨o,I.kIn p o hk,hc⟩,fun a e=>?_⟩
   cases e
   exact⟨o,I.kIn _ o hk,hd⟩
  ·have z:∃o,s.heap.get? p=some o∧o.ExactDict:=by
    rcases hk with⟨kvs,hk⟩ | ⟨kvs,hk⟩
    ·obtain⟨_,_,_,_,o,_,_,e,ex,_⟩:=I.hok p _ hk
     exact⟨o,e,ex⟩
    ·obtain⟨_,_,_,_,o,_,_,e,ex,_⟩:=I.hok p _ hk
     exact⟨o,e,ex⟩
   obtain⟨o,e,ex⟩:=z
   refine⟨⟨o,e,ex.1⟩,fun a e2=>?_⟩
   cases e2
   exact⟨o,e,ex.2.1⟩
  ·obtain⟨o,_,_,_,e,ex,_⟩:=I.hok p _ hk
   refine⟨⟨o,e,ex.1⟩,fun a e2=>?_⟩
   cases e2
   exact⟨o,e,ex.2.1⟩
 | _=>exact False.elim ty
noncomputable def tBM (K:PySem.W.Frag)(T:String)(r:V→List V→Hp→VK→Prop)(to:TE)(t:TA):TE:=fun σ H Q=>to σ H fun x H1=>tyV K T x H1∧t σ H1 fun xs H2=>r x xs H2 Q
variable {o e:Expr}{es:List Expr}{to:TE}{t:TA}{name:Str}{apos cpos:Pos}{T id:String}{r:V→List V→Hp→VK→Prop}
theorem qSk (pa:PlainAttrs T)(slot:Slot T name id)(hty:typeOf (.builtin id)=pure (.type "method_descriptor"))(hm:MtR X id r)(ho:PE X o to)(ha:PA X (e::es) t)
  (hbase:attributeBase o name X.env (eval o X.env)=eval o X.env:=by rfl)
  (hfew:((backTo cpos (starEach (e::es) X.env)).all (fun x=>!x.1) && (backToKw cpos (keywordEach [] X.env)).all (fun x=>x.1.isSome)
   && decide ((e::es).length+([]:List Keyword).length+(if ([]:List Keyword).isEmpty then 0 else 1)<30))=true:=by rfl)
  (hline:(apos.endLine == cpos.line)=true:=by rfl) (hs:starEach (e::es) X.env=(false,eval e X.env)::starEach es X.env:=by rfl) (hplain:(backTo cpos (starEach es X.env)).any (·.1)=false:=by rfl):
  PE X (.Call (.Attribute o name apos) (e::es) [] cpos) (tBM X.K T r to t):=by
 intro pins s σ H Q I h
 refine wpAny_Call_method_late hbase hfew hline rfl (thn (ho pins s σ H _ I h) fun v s1 ⟨x,H1,I1,r1,ty,q1⟩=>?_)
 obtain⟨h1,h2⟩:=qOm I1 r1 ty
 refine⟨T,id,pa,slot,hty,h1,h2,?_⟩
 have hA:=ha cpos pins s1 σ H1 _ I1 q1
 rw[hs] at hA ⊢
 refine Calls.callWith_builtin (by show(false || (backTo cpos (starEach es X.env)).any (·.1))=false;rw[hplain] <;> rfl) (Calls.evalArgs_plain ?_)
 exact thn hA fun us s2 ⟨vs,H2,I2,r2,q2⟩=>hm pins s2 σ H2 x vs v us Q I2 r1 r2 q2
end
end L2

namespace L2
open PySem PySem.Spec PyProof.Rows

noncomputable def MtM (X:Cx)(id:String)(r:V→List V→Hp→VK→Prop):Prop:=
 ∀(pins:List (Addr×Obj)) (s:Shared) (σ:St) (H:Hp) (x:V) (xs:List V) (v:Value) (us:List Value) (Q:VK),Inv X pins σ H s→RelV x v→Vals xs us→r x xs H Q→
  wpAny (model X.prog X.w) X.A (call (.builtin id) (v::us)) (EP X pins σ Q) X.xe s

theorem Vals.one {x:V}{us:List Value}(h:Vals [x] us):∃u,us=[u]∧RelV x u:=by
 cases h with
 | cons r t=>
  cases t
  exact⟨_,rfl,r⟩
theorem Vals.rep {xs:List V}{us:List Value}(h:Vals xs us):∀k:Nat,Vals (List.replicate k xs).flatten (List.replicate k us).flatten
 | 0=>.nil
 | k+1=>by
  rw[List.replicate_succ,List.replicate_succ,List.flatten_cons,List.flatten_cons]
  exact Vals.append h (Vals.rep h k)
theorem qJq (its:List Value):∀(k:Nat) (acc:List Value),
  List.foldl (fun x1 x2=>x1++x2) acc.toArray (List.replicate k its.toArray)=(acc++(List.replicate k its).flatten).toArray
 | 0,acc=>by simp
 | k+1,acc=>by
  have e:acc.toArray++its.toArray=(acc++its).toArray:=by simp
  have e2:(acc++its)++(List.replicate k its).flatten=acc++(List.replicate (k+1) its).flatten:=by
   rw[List.replicate_succ,List.flatten_cons,List.append_assoc]
  rw[← e2,← qJq its k (acc++its),← e,List.replicate_succ,List.foldl_cons]

section
variable {X:Cx}{pins:List (Addr×Obj)}{σ:St}{H:Hp}{s:Shared}{l b:Addr}{xs ys zs:List V}

theorem Inv.lset {its its':List Value}{n:Nat}{f:Array Value→Array Value}{t':Nat}(I:Inv X pins σ H s)(hH:H l=some (.lst xs))
  (e:s.heap.get? l=some { cls:=.type "list",data:=.seq its.toArray n }) (hf:f its.toArray=its'.toArray) (hv:Vals ys its') (hz:ys.length≤sizeLine):
  Inv X pins σ (upd H l (.lst ys)) { s with heap:=s.heap.update l (Obj.mapSeq f),toks:=t' }:=by
 have q:=PySem.IsL.update e f
 rw[hf] at q
 refine I.write (x:=l) (e:=l) (by rw[hH];exact trivial) (.inl rfl) (fun b' u hb hu=>(Heap.get?_update_other s.heap (Obj.mapSeq f) (Ne.symm hb)).trans hu) ⟨_,q⟩ ?_
 exact⟨hz,its',_,hv,q⟩
theorem Inv.lnew {its:List Value}{t':Nat}(I:Inv X pins σ H s)(hv:Vals ys its)(hz:ys.length≤sizeLine):
  Inv X pins σ (upd H s.heap.objs.size (.lst ys)) { s with heap:=s.heap.push { cls:=.type "list",data:=.seq its.toArray },toks:=t' }:=
 I.laid (fun _ _ q=>Heap.get?_push_of_some _ q) (Nat.le_refl _) ⟨hz,its,0,hv,Heap.get?_push_size _ rfl⟩
theorem Inv.fresh (I:Inv X pins σ H s):H s.heap.objs.size=none:=I.hok.fresh (Nat.le_refl _)
theorem Inv.lstM (I:Inv X pins σ H s)(hH:H l=some (.lst xs)):xs.length≤sizeLine∧∃(its:List Value) (n:Nat),Vals xs its∧xs.length=its.length∧s.heap.get? l=some { cls:=.type "list",data:=.seq its.toArray n }:=by
 obtain⟨z,its,n,r,e⟩:=I.hok l _ hH
 exact⟨z,its,n,r,r.length,e⟩

theorem qFd {n:Nat}(h:n≤sizeLine):Builtin.List.listTooLong n=false:=by
 unfold Builtin.List.listTooLong
 exact decide_eq_false (by omega)
end

section
variable {X:Cx}

noncomputable def qAf:V→List V→Hp→VK→Prop:=fun x vs H Q=>∃l xs y,x=.ref l∧vs=[y]∧H l=some (.lst xs)∧xs.length<sizeLine∧Q .non (upd H l (.lst (xs++[y])))
theorem zV:MtM X "list.append" qAf:=by
 intro pins s σ H x vs v us Q I rx rv h
 obtain⟨l,xs,y,rfl,rfl,hH,hz,q⟩:=h
 cases rx
 obtain⟨u,rfl,ru⟩:=rv.one
 obtain⟨z,its,n,r,hl,e⟩:=I.lstM hH
 refine call_meets F.slot_list_append ⟨_,e,rfl⟩ F.entry_list_append (F.args_list_append_2 _ _) (PySem.list_append l its.toArray n u (by rw[List.size_toArray];omega)) ⟨e,?_⟩
 refine⟨.non,_,I.lset (its':=its++[u]) hH e (by simp) (r.append (.cons ru .nil)) ?_,rfl,q⟩
 rw[List.length_append,List.length_singleton]
 omega

noncomputable def rCat:R2:=fun x y H Q=>∃l b xs zs,x=.ref l∧y=.ref b∧H l=some (.lst xs)∧H b=some (.lst zs)∧xs.length+zs.length≤sizeLine∧∀p,H p=none→Q (.ref p) (upd H p (.lst (xs++zs)))
theorem qKl:OpR X (binaryOp .Add) rCat:=by
 intro pins s σ H x y v u Q I rx ry h
 obtain⟨l,b,xs,zs,rfl,rfl,hH,hB,hz,q⟩:=h
 cases rx
 cases ry
 obtain⟨z,its,n,r,hl,e⟩:=I.lstM hH
 obtain⟨z2,its2,n2,r2,hl2,e2⟩:=I.lstM hB
 refine PySem.P.add_list e e2 ?_ (by rw[List.size_toArray,List.size_toArray];omega)
 have ea:its.toArray++its2.toArray=(its++its2).toArray:=by simp
 rw[ea]
 exact⟨.ref _,_,I.lnew (t':=s.toks) (r.append r2) (by rw[List.length_append];omega),rfl,q _ I.fresh⟩
noncomputable def rRep:R2:=fun x y H Q=>∃l k xs,x=.ref l∧y=.int k∧H l=some (.lst xs)∧-(2 ^ 63)≤k∧k<2 ^ 63∧xs.length * k.toNat≤sizeLine∧
 ∀p,H p=none→Q (.ref p) (upd H p (.lst (List.replicate k.toNat xs).flatten))
theorem qMg {α:Type}(xs:List α)(k:Nat):(List.replicate k xs).flatten.length=k * xs.length:=by
 induction k with
 | zero=>simp
 | succ k ih=>rw[List.replicate_succ,List.flatten_cons,List.length_append,ih,Nat.succ_mul,Nat.add_comm]
theorem qPw:OpR X (binaryOp .Mult) rRep:=by
 intro pins s σ H x y v u Q I rx ry h
 obtain⟨l,k,xs,rfl,rfl,hH,h1,h2,hz,q⟩:=h
 cases rx
 obtain⟨t,rfl⟩:=ry
 obtain⟨z,its,n,r,hl,e⟩:=I.lstM hH
 have hlen:its.toArray.size * k.toNat≤sizeLine:=by rw[List.size_toArray,← hl];exact hz
 have hcap:¬its.toArray.size * k.toNat>(2 ^ 63 - 1) / 8:=by
  have:(sizeLine:Nat)≤(2 ^ 63 - 1) / 8:=by decide
  omega
 have hfit:¬(!Builtin.List.listFitsIndex k)=true:=by
  rw[fitsIndex_both h1 h2]
  exact Bool.false_ne_true
 have hlong:¬Builtin.List.listTooLong (its.toArray.size * k.toNat)=true:=by
  rw[qFd hlen]
  exact Bool.false_ne_true
 have hnew:List.foldl (fun x1 x2=>x1++x2) #[] (List.replicate (if its.toArray.isEmpty=true then 0 else k.toNat) its.toArray)=(List.replicate k.toNat its).flatten.toArray:=by
  have f0:∀m:Nat,List.foldl (fun x1 x2=>x1++x2) #[] (List.replicate m its.toArray)=(List.replicate m its).flatten.toArray:=fun m=>by
   have:=qJq its m []
   rw[List.nil_append] at this
   exact this
  rw[f0]
  cases its with
  | nil=>simp
  | cons a r'=>rw[if_neg (by simp)]
 refine wpAny_binaryOp_repeat_ref (T := "list") (U := "int") (by decide) ⟨_,e,rfl⟩ (fun s'=>typeIs_int s' k t) noFill_list_mul F.fills_int_mul F.slot_int_rmul repeat_list F.slot_int_index.lookup
  (call_meets F.slot_int_rmul (typeIs_int s k t) F.entry_int_rmul (F.args_int_rmul_2 _ _) (int___rmul___int_list k t l its.toArray n)
   ⟨e,rfl,⟨_,e,rfl⟩,call_meets F.slot_list_mul ⟨_,e,rfl⟩ F.entry_list_mul (F.args_list_mul_2 _ _) (AutoListH.list___mul___list_int_3 l its.toArray n k t hfit hcap hlong) ⟨e,?_⟩⟩)
 rw[hnew]
 exact⟨.ref _,_,I.lnew (t':=s.toks) (r.rep k.toNat) (by rw[qMg,Nat.mul_comm];exact hz),rfl,q _ I.fresh⟩

end

section
variable {prog:Program}{w:World}{A:Around}{E:Value→Shared→Prop}{s:Shared}
end

section
variable {X:Cx}
end
end L2

namespace L2
open PySem PySem.Spec PyProof.Rows

section
variable {κ:Type}[DecidableEq κ]
noncomputable def valV (kvs:List (κ×V))(k:κ):Option V:=(kvs.find? fun kv=>decide (kv.1=k)).map (·.2)
noncomputable def putK (kvs:List (κ×V))(k:κ)(v:V):List (κ×V):=
 if (kvs.any fun kv=>decide (kv.1=k))=true then kvs.map (fun kv=>if kv.1=k then (kv.1,v) else kv) else kvs++[(k,v)]
theorem zB {p:κ×V}{r:List (κ×V)}{k:κ}(e:p.1=k):valV (p::r) k=some p.2:=by simp[valV,List.find?_cons,e]
theorem zC {p:κ×V}{r:List (κ×V)}{k:κ}(e:¬p.1=k):valV (p::r) k=valV r k:=by simp[valV,List.find?_cons,e]
theorem vV (k:κ):∀kvs:List (κ×V),(kvs.any fun kv=>decide (kv.1=k))=(valV kvs k).isSome
 | []=>rfl
 | p::r=>by
  rw[List.any_cons]
  by_cases e:p.1=k
  ·simp only[zB e,decide_eq_true e,Bool.true_or,Option.isSome_some]
  ·rw[zC e,decide_eq_false e,Bool.false_or];exact vV k r
theorem qYf (k j:κ)(y:V):∀kvs:List (κ×V),valV (kvs.map fun kv=>if kv.1=k then (kv.1,y) else kv) j=(valV kvs j).map fun x=>if j=k then y else x
 | []=>rfl
 | p::r=>by
  have ih:=qYf k j y r
  rw[List.map_cons]
  by_cases h:p.1=k
  ·rw[if_pos h]
   by_cases e:p.1=j
   ·rw[zB (p:=(p.1,y)) e,zB e,Option.map_some,if_pos (e.symm.trans h)]
   ·rw[zC (p:=(p.1,y)) e,zC e,ih]
  ·rw[if_neg h]
   by_cases e:p.1=j
   ·rw[zB (p:=p) e,zB e,Option.map_some,if_neg (fun z=>h (e.trans z))]
   ·rw[zC (p:=p) e,zC e,ih]
theorem qZx (k j:κ)(y:V):∀kvs:List (κ×V),valV kvs k=none→valV (kvs++[(k,y)]) j=if j=k then some y else valV kvs j
 | [],_=>by
  by_cases e:k=j
  ·rw[if_pos e.symm];exact zB (p:=(k,y)) e
  ·rw[if_neg (fun z=>e z.symm)];exact zC (p:=(k,y)) e
 | p::r,hn=>by
  rw[List.cons_append]
  have hk:¬p.1=k:=fun z=>by rw[zB z] at hn;cases hn
  rw[zC hk] at hn
  have ih:=qZx k j y r hn
  by_cases e:p.1=j
  ·rw[zB e,zB e,if_neg (fun z=>hk (e.trans z))]
  ·rw[zC e,zC e,ih]
theorem jY (kvs:List (κ×V))(k j:κ)(y:V):valV (putK kvs k y) j=if j=k then some y else valV kvs j:=by
 unfold putK
 by_cases a:(kvs.any fun kv=>decide (kv.1=k))=true
 ·rw[if_pos a,qYf]
  rw[vV] at a
  by_cases e:j=k
  ·obtain⟨x,hx⟩:=Option.isSome_iff_exists.mp a
   rw[if_pos e,e,hx,Option.map_some,if_pos rfl]
  ·rw[if_neg e]
   cases valV kvs j with
   | none=>rfl
   | some x=>rw[Option.map_some,if_neg e]
 ·rw[if_neg a]
  refine qZx k j y kvs ?_
  rw[vV] at a
  cases q:valV kvs k with
  | none=>rfl
  | some x=>rw[q] at a;exact(a rfl).elim
theorem jA (kvs:List (κ×V))(k:κ)(v:V):(putK kvs k v).length≤kvs.length+1:=by
 unfold putK
 split
 ·rw[List.length_map];omega
 ·rw[List.length_append,List.length_cons,List.length_nil];omega
theorem RelO.isSome_eq {o:Option V}{u:Option Value}(r:RelO o u):o.isSome=u.isSome:=by
 cases o with
 | none=>cases u with
  | none=>rfl
  | some _=>exact(show False from r).elim
 | some _=>cases u with
  | none=>exact(show False from r).elim
  | some _=>rfl
theorem KV.val {kvs:List (κ×V)}{vs:List (κ×Value)}(r:KV kvs vs)(k:κ):RelO (valV kvs k) (valueAt vs k):=by
 unfold KV at r
 induction r with
 | nil=>exact True.intro
 | @cons p q ps qs h t ih=>
  obtain⟨h1,h2⟩:=h
  by_cases e:p.1=k
  ·have e':q.1=k:=h1.symm.trans e
   have b:valueAt (q::qs) k=some q.2:=by simp[valueAt,List.find?_cons,e']
   rw[zB e,b];exact h2
  ·have e':¬q.1=k:=fun z=>e (h1.trans z)
   have b:valueAt (q::qs) k=valueAt qs k:=by simp[valueAt,List.find?_cons,e']
   rw[zC e,b];exact ih
theorem KV.any {kvs:List (κ×V)}{vs:List (κ×Value)}(r:KV kvs vs)(k:κ):(kvs.any fun kv=>decide (kv.1=k))=vs.any fun kv=>decide (kv.1=k):=by
 unfold KV at r
 induction r with
 | nil=>rfl
 | cons h t ih=>rw[List.any_cons,List.any_cons,ih,h.1]
theorem KV.repl {kvs:List (κ×V)}{vs:List (κ×Value)}(r:KV kvs vs)(k:κ){y:V}{u:Value}(ry:RelV y u):
  KV (kvs.map fun kv=>if kv.1=k then (kv.1,y) else kv) (vs.map fun kv=>if kv.1=k then (kv.1,u) else kv):=by
 unfold KV at r ⊢
 induction r with
 | nil=>exact .nil
 | @cons p q ps qs h t ih=>
  rw[List.map_cons,List.map_cons]
  refine .cons ?_ ih
  obtain⟨h1,h2⟩:=h
  by_cases e:p.1=k
  ·rw[if_pos e,if_pos (h1.symm.trans e)];exact⟨h1,ry⟩
  ·rw[if_neg e,if_neg (fun z=>e (h1.trans z))];exact⟨h1,h2⟩
theorem KV.put {kvs:List (κ×V)}{vs:List (κ×Value)}(r:KV kvs vs)(k:κ){y:V}{u:Value}(ry:RelV y u):KV (putK kvs k y) (stored vs k u):=by
 unfold putK stored
 rw[r.any k]
 by_cases e:(vs.any fun kv=>decide (kv.1=k))=true
 ·rw[if_pos e,if_pos e];exact r.repl k ry
 ·rw[if_neg e,if_neg e];exact Paired.snoc r ⟨rfl,ry⟩
theorem KV.length {kvs:List (κ×V)}{vs:List (κ×Value)}(r:KV kvs vs):kvs.length=vs.length:=Paired.length r
end

theorem qCb {P:Program}{w:World}{k:Key}{u:Value}(r:RelV (kV k) u):(xN P w).is k u=true:=by
 cases k with
 | inl i=>obtain⟨t,e⟩:=(show∃t,u=Value.int i t from r);subst e;exact wK P w i t
 | inr x=>obtain⟨t,e⟩:=(show∃t,u=Value.str x t from r);subst e;exact jS P w x t
theorem qZm {P:Program}{w:World}:∀{ks:List Key} {us:List Value},Vals (ks.map kV) us→ItemsAre (xN P w) ks us
 | [],_,r=>by rw[List.map_nil] at r;cases r;exact .nil
 | k::ks,_,r=>by
  rw[List.map_cons] at r
  cases r with
  | cons h t=>exact .cons (qCb h) (qZm t)

noncomputable abbrev KT (H:Hp):List (List Key×V)→List (List Key×Addr×Value)→Prop:=Paired fun p q=>p.1=q.1∧H q.2.1=some (.tup (p.1.map kV))∧RelV p.2 q.2.2
theorem KT.val {H:Hp}{kvs:List (List Key×V)}{xs:List (List Key×Addr×Value)}(r:KT H kvs xs)(k:List Key):RelO (valV kvs k) ((atKey xs k).map (·.2)):=by
 induction r with
 | nil=>exact True.intro
 | @cons p q ps qs h t ih=>
  obtain⟨h1,_,h2⟩:=h
  by_cases e:p.1=k
  ·have e':q.1=k:=h1.symm.trans e
   have b:atKey (q::qs) k=some q.2:=by simp[atKey,List.find?_cons,e']
   rw[zB e,b];exact h2
  ·have e':¬q.1=k:=fun z=>e (h1.trans z)
   have b:atKey (q::qs) k=atKey qs k:=by simp[atKey,List.find?_cons,e']
   rw[zC e,b];exact ih
theorem KT.repl {H:Hp}{kvs:List (List Key×V)}{xs:List (List Key×Addr×Value)}(r:KT H kvs xs)(k:List Key){y:V}{u:Value}(ry:RelV y u):
  KT H (kvs.map fun kv=>if kv.1=k then (kv.1,y) else kv) (xs.map (putAt k u)):=by
 induction r with
 | nil=>exact .nil
 | @cons p q ps qs h t ih=>
  rw[List.map_cons,List.map_cons]
  refine .cons ?_ ih
  obtain⟨h1,h2,h3⟩:=h
  unfold putAt
  by_cases e:p.1=k
  ·rw[if_pos e,if_pos (h1.symm.trans e)];exact⟨h1,h2,ry⟩
  ·rw[if_neg e,if_neg (fun z=>e (h1.trans z))];exact⟨h1,h2,h3⟩
theorem KT.put {H:Hp}{kvs:List (List Key×V)}{xs:List (List Key×Addr×Value)}(r:KT H kvs xs)(k:List Key){b:Addr}{y:V}{u:Value}(hb:H b=some (.tup (k.map kV)))(ry:RelV y u):
  KT H (putK kvs k y) (storedH xs k b u):=by
 have e:(kvs.any fun kv=>decide (kv.1=k))=(atKey xs k).isSome:=by
  rw[vV,(r.val k).isSome_eq,Option.isSome_map]
 unfold putK storedH
 rw[e]
 by_cases q:(atKey xs k).isSome=true
 ·rw[if_pos q,if_pos q];exact r.repl k ry
 ·rw[if_neg q,if_neg q];exact Paired.snoc r ⟨rfl,hb,ry⟩
theorem KT.keeps {H H':Hp}{kvs:List (List Key×V)}{xs:List (List Key×Addr×Value)}(r:KT H kvs xs)(ht:∀b ys,H b=some (.tup ys)→H' b=some (.tup ys)):KT H' kvs xs:=
 Paired.mapP r fun _ _ z=>⟨z.1,ht _ _ z.2.1,z.2.2⟩

section
variable {P:Program}{w:World}{H:Hp}{h:Heap}{a:Addr}
theorem qOn {u:HO}(ok:HOk P w H h)(e:Rd H a u):ObjOk P w H h a u:=e.ok ok
theorem qYj {kvs:List (Key×V)}(ok:HOk P w H h)(e:Rd H a (.dK kvs)):kvs.length≤sizeLine∧(a == sysModules)=false∧∃vs,KV kvs vs∧h.DictOf (xN P w) a vs:=
 show ObjOk P w H h a (.dK kvs) from qOn ok e
theorem qSi {kvs:List (Key×V)}(ok:HOk P w H h)(e:H a=some (.dK kvs)):kvs.length≤sizeLine∧(a == sysModules)=false∧∃vs,KV kvs vs∧h.DictOf (xN P w) a vs:=qYj ok (.inl e)
theorem qQb {ks:List Key}(ok:HOk P w H h)(e:H a=some (.tup (ks.map kV))):(tupleKind (xN P w)).is h ks a:=by
 obtain⟨_,its,r,o,h1,h2,n,h3,_⟩:=(show ObjOk P w H h a (.tup (ks.map kV)) from ok a _ e)
 exact⟨o,its.toArray,n,h1,h2,h3,by simpa using qZm r⟩
theorem qDx {kvs:List (List Key×V)}(ok:HOk P w H h)(e:Rd H a (.dT kvs)):kvs.length≤sizeLine∧(a == sysModules)=false∧
  ∃xs,KT H kvs xs∧h.DictOfH (tupleKind (xN P w)) a xs:=by
 obtain⟨z,y,xs,r,o,es,ep,h1,h2,h3,h4,h5⟩:=(show ObjOk P w H h a (.dT kvs) from qOn ok e)
 refine⟨z,y,xs,r,o,es,ep,h1,h2,h3,h4,fun x hx=>?_,h5⟩
 have all:∀{l:List (List Key×V)} {m:List (List Key×Addr×Value)},KT H l m→∀x∈m,(tupleKind (xN P w)).is h x.1 x.2.1:=by
  intro l m q
  induction q with
  | nil=>intro x hx;exact nomatch hx
  | @cons p q ps qs hq t ih=>
   intro x hx
   rcases List.mem_cons.mp hx with e | hx
   ·subst e
    exact qQb ok (by rw[← hq.1];exact hq.2.1)
   ·exact ih x hx
 exact all r x hx
theorem qSh {kvs:List (List Key×V)}(ok:HOk P w H h)(e:H a=some (.dT kvs)):kvs.length≤sizeLine∧(a == sysModules)=false∧
  ∃xs,KT H kvs xs∧h.DictOfH (tupleKind (xN P w)) a xs:=qDx ok (.inl e)
end

noncomputable def DGet (H:Hp)(a:Addr)(y:V)(r:Option V):Prop:=
 (∃kvs k,Rd H a (.dK kvs)∧y=kV k∧r=valV kvs k)∨∃kvs k b,Rd H a (.dT kvs)∧y=.ref b∧H b=some (.tup (k.map kV))∧r=valV kvs k
noncomputable def DPut (H:Hp)(a:Addr)(y v:V)(H':Hp):Prop:=
 (∃kvs k,H a=some (.dK kvs)∧y=kV k∧kvs.length<sizeLine∧H'=upd H a (.dK (putK kvs k v)))∨
 ∃kvs k b,H a=some (.dT kvs)∧y=.ref b∧H b=some (.tup (k.map kV))∧kvs.length<sizeLine∧H'=upd H a (.dT (putK kvs k v))
theorem DGet.k {H:Hp}{a:Addr}{kvs:List (Key×V)}{k:Key}(e:H a=some (.dK kvs)):DGet H a (kV k) (valV kvs k):=.inl ⟨kvs,k,.inl e,rfl,rfl⟩
theorem DGet.t {H:Hp}{a b:Addr}{kvs:List (List Key×V)}{k:List Key}(e:H a=some (.dT kvs))(eb:H b=some (.tup (k.map kV))):DGet H a (.ref b) (valV kvs k):=.inr ⟨kvs,k,b,.inl e,rfl,eb,rfl⟩
theorem DPut.k {H:Hp}{a:Addr}{kvs:List (Key×V)}{k:Key}{v:V}(e:H a=some (.dK kvs))(hl:kvs.length<sizeLine):DPut H a (kV k) v (upd H a (.dK (putK kvs k v))):=.inl ⟨kvs,k,e,rfl,hl,rfl⟩
theorem DPut.t {H:Hp}{a b:Addr}{kvs:List (List Key×V)}{k:List Key}{v:V}(e:H a=some (.dT kvs))(eb:H b=some (.tup (k.map kV)))(hl:kvs.length<sizeLine):
  DPut H a (.ref b) v (upd H a (.dT (putK kvs k v))):=.inr ⟨kvs,k,b,e,rfl,eb,hl,rfl⟩

section
variable {X:Cx}{pins:List (Addr×Obj)}{σ:St}{H:Hp}{s:Shared}{a:Addr}{y v:V}{u r:Value}{o:Option V}{A:Around}{E:Value→Shared→Prop}

theorem Inv.big (I:Inv X pins σ H s):sysModules<s.heap.objs.size:=by
 have h:mainGlobals<s.heap.objs.size:=(I.mod.glob.keeps I.bk).lt
 exact Nat.lt_trans (by decide) h

theorem qDh {Q:Value→Shared→Prop}(hu:A.units+1<cLine)(I:Inv X pins σ H s)(g:DGet H a y (some v))(ry:RelV y u)(h:∀w' s',Inv X pins σ H s'→RelV v w'→Q w' s'):
  wpAny (model X.prog X.w) A (getItem (.ref a) u) Q E s:=by
 rcases g with⟨kvs,k,e,ey,l⟩ | ⟨kvs,k,b,e,ey,eb,l⟩
 ·subst ey
  obtain⟨z,hd,vs,rel,dd⟩:=qYj I.hok e
  obtain⟨w',hw,rw'⟩:=RelO.some_of (v:=v) (o:=valueAt vs k) (by rw[l];exact rel.val k)
  exact wpAny_getItem_of (qCb ry) dd.mapOf hw (h w' _ (I.tok _) rw')
 ·subst ey
  cases(show u=Value.ref b from ry)
  obtain⟨z,hd,xs,rel,dd⟩:=qDx I.hok e
  obtain⟨w',hw,rw'⟩:=RelO.some_of (v:=v) (o:=(atKey xs k).map (·.2)) (by rw[l];exact rel.val k)
  obtain⟨p,hp,hp2⟩:=Option.map_eq_some_iff.mp hw
  refine wpAny_getItem_heap (tupleKind_room_in1 hu) (qQb I.hok eb) dd hp ?_
  rw[hp2]
  exact h w' _ (I.tok _) rw'
theorem d_in {Q:Value→Shared→Prop}(hu:A.units+1<cLine)(I:Inv X pins σ H s)(g:DGet H a y o)(ry:RelV y u)(h:∀s',Inv X pins σ H s'→Q (.bool o.isSome) s'):
  wpAny (model X.prog X.w) A (compareOp .In u (.ref a)) Q E s:=by
 rcases g with⟨kvs,k,e,ey,l⟩ | ⟨kvs,k,b,e,ey,eb,l⟩
 ·subst ey
  obtain⟨z,hd,vs,rel,dd⟩:=qYj I.hok e
  refine wpAny_in_of (qCb ry) hd dd.mapOf ?_
  rw[← (rel.val k).isSome_eq,← l]
  exact h _ (I.tok _)
 ·subst ey
  cases(show u=Value.ref b from ry)
  obtain⟨z,hd,xs,rel,dd⟩:=qDx I.hok e
  refine wpAny_in_heap (tupleKind_room_in1 hu) (qQb I.hok eb) hd dd ?_
  have q:=(rel.val k).isSome_eq
  rw[Option.isSome_map] at q
  rw[← q,← l]
  exact h _ (I.tok _)
theorem qNe {Q:Value→Shared→Prop}(hu:A.units+1<cLine)(I:Inv X pins σ H s)(g:DGet H a y o)(ry:RelV y u)(h:∀s',Inv X pins σ H s'→Q (.bool (!o.isSome)) s'):
  wpAny (model X.prog X.w) A (compareOp .NotIn u (.ref a)) Q E s:=by
 rcases g with⟨kvs,k,e,ey,l⟩ | ⟨kvs,k,b,e,ey,eb,l⟩
 ·subst ey
  obtain⟨z,hd,vs,rel,dd⟩:=qYj I.hok e
  refine wpAny_notIn_of (qCb ry) hd dd.mapOf ?_
  rw[← (rel.val k).isSome_eq,← l]
  exact h _ (I.tok _)
 ·subst ey
  cases(show u=Value.ref b from ry)
  obtain⟨z,hd,xs,rel,dd⟩:=qDx I.hok e
  refine wpAny_notIn_heap (tupleKind_room_in1 hu) (qQb I.hok eb) hd dd ?_
  have q:=(rel.val k).isSome_eq
  rw[Option.isSome_map] at q
  rw[← q,← l]
  exact h _ (I.tok _)
theorem qYv {h':Heap}{t':Nat}{ob:HO}(I:Inv X pins σ H s)(mu:Mut (H a))(hs:Heap.SameBut a s.heap h')(he:∃q,h'.get? a=some q)(new:ObjOk X.prog X.w (upd H a ob) h' a ob):
  Inv X pins σ (upd H a ob) { s with heap:=h',toks:=t' }:=
 I.write (x:=a) (e:=a) mu (.inl rfl) (fun b q hb z=>(hs.2 b hb).trans z) he new
theorem qIz {P:Program}{w:World}{H':Hp}{h':Heap}{kvs:List (Key×V)}{vs:List (Key×Value)}(z:kvs.length≤sizeLine)(hd:(a == sysModules)=false)(rel:KV kvs vs)(dd:h'.DictOf (xN P w) a vs):
  ObjOk P w H' h' a (.dK kvs):=⟨z,hd,vs,rel,dd⟩
theorem qDg {H':Hp}{Q:Unit→Shared→Prop}(hu:A.units+1<cLine)(I:Inv X pins σ H s)(g:DPut H a y v H')(ry:RelV y u)(rv:RelV v r)(h:∀s',Inv X pins σ H' s'→Q () s'):
  wpAny (model X.prog X.w) A (setItem (.ref a) u r) Q E s:=by
 rcases g with⟨kvs,k,e,ey,l,eH⟩ | ⟨kvs,k,b,e,ey,eb,l,eH⟩
 ·subst ey eH
  obtain⟨z,hd,vs,rel,dd⟩:=qSi I.hok e
  have hz:vs.length≤sizeLine:=by rw[← rel.length];exact z
  have hl:(putK kvs k v).length≤sizeLine:=by have:=jA kvs k v;omega
  refine wpAny_setItem_pairs (hsz:=hz) (qCb ry) dd fun h' dd' hs=>h _ ?_
  have he:∃q,h'.get? a=some q:=let ⟨q,_,_,hq,_⟩:=dd';⟨q,hq⟩
  exact qYv I (by rw[e];exact True.intro) hs he (qIz hl hd (rel.put k rv) dd')
 ·subst ey eH
  cases(show u=Value.ref b from ry)
  obtain⟨z,hd,xs,rel,dd⟩:=qSh I.hok e
  have hz:xs.length≤sizeLine:=by rw[← Paired.length rel];exact z
  have hl:(putK kvs k v).length≤sizeLine:=by have:=jA kvs k v;omega
  refine wpAny_setItem_heap (hsz:=hz) (tupleKind_room_in1 hu) (qQb I.hok eb) dd fun h' dd' hs=>h _ ?_
  obtain⟨q,es,ep,hq,h2,h3,h4,_,h5⟩:=dd'
  refine qYv I (by rw[e];exact True.intro) hs ⟨q,hq⟩ ⟨hl,hd,_,(rel.put k eb rv).keeps fun c ys ec=>?_,q,es,ep,hq,h2,h3,h4,h5⟩
  rw[qW (xU ec e (fun z=>nomatch z))]
  exact ec
end

section
variable {X:Cx}{pins:List (Addr×Obj)}{σ:St}{H:Hp}{s:Shared}{a:Addr}{kvs:List (Key×V)}{k:Key}{u:Value}{A:Around}{E:Value→Shared→Prop}
theorem qSl {Q:Value→Shared→Prop}(I:Inv X pins σ H s)(e:Rd H a (.dK kvs))(h:∀t s',Inv X pins σ H s'→Q (.int kvs.length t) s'):wpAny (model X.prog X.w) A (call (.builtin "len") [.ref a]) Q E s:=by
 obtain⟨z,hd,vs,rel,dd⟩:=qYj I.hok e
 refine call_len_dict hd dd (by rw[← rel.length];rw[sizeLine_eq] at z;omega) ?_
 rw[← rel.length]
 exact h _ _ (I.tok _)
end

noncomputable def NoSl (i:Expr):Prop:=∀ov iv,subscripted i false ov iv=operate [ov,iv] (getItem ov iv)
theorem qWf {prog:Program}{w:World}{A:Around}{E:Value→Shared→Prop}{s:Shared}{env:Env}{value slice:Expr}{pos:Pos}{T id:String}{Q:Value→Shared→Prop}
  (hl:typeLookup (.type T) "__getitem__" = pure (some (.builtin id))) (hs:NoSl slice)
  (h:wpAny (model prog w) A (eval value env) (fun o s₁=>wpAny (model prog w) A (eval slice env) (fun i s₂=>s₂.TypeIs o T∧wpAny (model prog w) A (getItem o i) Q E s₂) E s₁) E s):
  wpAny (model prog w) A (eval (.Subscript value slice pos) env) Q E s:=by
 refine Subscript_ (wpAny_mono h (fun o s₁ h₁=>wpAny_mono h₁ (fun i s₂ h₂=>?_) fun _ _ x=>x) fun _ _ x=>x)
 obtain⟨hT,h₂⟩:=h₂
 unfold subscriptTail
 refine wpAny_bind ?_
 rw[getitemInPython_of_ne hT.not_modules]
 refine wpAny_bind (wpAny_specialOf hT hl ?_)
 have fin:wpAny (model prog w) A (subscripted slice false o i) (fun r s₃=>wpAny (model prog w) A (letTemporaryGo value o r >>= fun _=>pure r) Q E s₃) E s₂:=by
  rw[hs o i]
  exact wpAny_operating (wpAny_mono h₂ (fun r s₃ h₃=>wpAny_bind (wpAny_letTemporaryGo (wpAny_pure h₃))) fun _ _ x=>x)
 first
  | exact wpAny_pure (wpAny_bind fin)
  | exact wpAny_bind (wpAny_pure (wpAny_bind fin))
  | exact wpAny_bind fin

theorem qYk {X:Cx}{pins:List (Addr×Obj)}{σ:St}{H:Hp}{s:Shared}{a:Addr}{y:V}{o:Option V}(I:Inv X pins σ H s)(g:DGet H a y o):s.TypeIs (.ref a) "dict" := by
 rcases g with⟨kvs,k,e,_,_⟩ | ⟨kvs,k,b,e,_,_,_⟩
 ·obtain⟨_,_,vs,_,dd⟩:=qYj I.hok e
  exact dd.typeIs
 ·obtain⟨_,_,xs,_,dd⟩:=qDx I.hok e
  exact dd.typeIs
noncomputable def tDGet (td ty:TE):TE:=fun σ H Q=>td σ H fun x H1=>ty σ H1 fun y H2=>∃a v,x=.ref a∧DGet H2 a y (some v)∧Q v H2
noncomputable def tDIn (ty td:TE):TE:=fun σ H Q=>ty σ H fun y H1=>td σ H1 fun x H2=>∃a o,x=.ref a∧DGet H2 a y o∧Q (.bl o.isSome) H2
noncomputable def qIg (ty td:TE):TE:=fun σ H Q=>ty σ H fun y H1=>td σ H1 fun x H2=>∃a o,x=.ref a∧DGet H2 a y o∧Q (.bl (!o.isSome)) H2
noncomputable def sDPut (td ty tv:TE):TS:=fun D σ H=>tv σ H fun v H1=>td σ H1 fun x H2=>ty σ H2 fun y H3=>∃a H4,x=.ref a∧DPut H3 a y v H4∧D.nx σ H4
section
variable {X:Cx}{o i e value:Expr}{pos pos' tpos:Pos}{td ty tv:TE}
theorem wX (hu:X.A.units+1<cLine)(ho:PE X o td)(hi:PE X i ty)(hs:NoSl i):PE X (.Subscript o i pos) (tDGet td ty):=by
 intro pins s σ H Q I h
 refine qWf PySem.F.slot_dict_getitem.lookup hs (thn (ho pins s σ H _ I h) fun u s1 ⟨x,H1,I1,rx,q1⟩=>thn (hi pins s1 σ H1 _ I1 q1) fun iv s2 ⟨y,H2,I2,ry,a,v,ex,g,q2⟩=>?_)
 subst ex
 obtain rfl:u=Value.ref a:=rx
 exact⟨qYk I2 g,qDh hu I2 g ry fun w' s3 I3 rw'=>⟨v,H2,I3,rw',q2⟩⟩
theorem qPv (hu:X.A.units+1<cLine)(hi:PE X i ty)(ho:PE X o td):PC X .In i o (tDIn ty td):=by
 intro pins s σ H Q I h
 refine thn (hi pins s σ H _ I h) fun iv s1 ⟨y,H1,I1,ry,q1⟩=>thn (ho pins s1 σ H1 _ I1 q1) fun u s2 ⟨x,H2,I2,rx,a,ov,ex,g,q2⟩=>?_
 subst ex
 obtain rfl:u=Value.ref a:=rx
 exact d_in hu I2 g ry fun s3 I3=>⟨.bl ov.isSome,H2,I3,rfl,q2⟩
theorem qZb (hu:X.A.units+1<cLine)(hi:PE X i ty)(ho:PE X o td):PC X .NotIn i o (qIg ty td):=by
 intro pins s σ H Q I h
 refine thn (hi pins s σ H _ I h) fun iv s1 ⟨y,H1,I1,ry,q1⟩=>thn (ho pins s1 σ H1 _ I1 q1) fun u s2 ⟨x,H2,I2,rx,a,ov,ex,g,q2⟩=>?_
 subst ex
 obtain rfl:u=Value.ref a:=rx
 exact qNe hu I2 g ry fun s3 I3=>⟨.bl (!ov.isSome),H2,I3,rfl,q2⟩
theorem qJl (hu:X.A.units+1<cLine)(ho:PE X o td)(hi:PE X i ty)(hv:PE X value tv)(hs:swapsWith value (some (.Subscript o i pos')) pos.line X.env=pure false):
  PS X (.Assign [.Subscript o i pos'] value pos) (sDPut td ty tv):=by
 intro pins s σ H D I h
 refine wpAny_Assign_Subscript (thn (hv pins s σ H _ I h) fun r s1 ⟨v,H1,I1,rv,q1⟩=>thn (ho pins s1 σ H1 _ I1 q1) fun u s2 ⟨x,H2,I2,rx,q2⟩=>thn (hi pins s2 σ H2 _ I2 q2) fun iv s3 ⟨y,H3,I3,ry,a,H4,ex,g,q3⟩=>?_) hs
 subst ex
 obtain rfl:u=Value.ref a:=rx
 exact qDg hu I3 g ry rv fun s4 I4=>⟨σ,H4,I4,q3⟩
end

theorem qHq {P:Program}{w:World}{H:Hp}(h:Heap)(hb:sysModules<h.objs.size):ObjOk P w H (h.push { cls:=.type "dict",data:=.dict #[] }) h.objs.size (.dK []):=
 ⟨Nat.zero_le _,beq_eq_false_iff_ne.mpr (Ne.symm (Nat.ne_of_lt hb)),[],.nil,Heap.DictOf.new h⟩
theorem qGb {P:Program}{w:World}{H:Hp}(h:Heap)(hb:sysModules<h.objs.size):ObjOk P w H (h.push { cls:=.type "dict",data:=.dict #[] }) h.objs.size (.dT []):=
 ⟨Nat.zero_le _,beq_eq_false_iff_ne.mpr (Ne.symm (Nat.ne_of_lt hb)),[],.nil,_,#[],0,Heap.get?_push_size _ rfl,⟨rfl,rfl,rfl⟩,rfl,rfl,List.nodup_nil⟩
noncomputable def tDNewK:TE:=fun _ H Q=>∀p,H p=none→Q (.ref p) (upd H p (.dK []))
noncomputable def tDNewT:TE:=fun _ H Q=>∀p,H p=none→Q (.ref p) (upd H p (.dT []))
section
variable {X:Cx}{pos:Pos}
theorem qXv:PE X (.Dict [] [] pos) tDNewK:=fun pins s σ H Q I h=>
 wpAny_Dict_empty ⟨.ref s.heap.objs.size,_,I.laid (a:=s.heap.objs.size) (o:=.dK []) (t':=s.toks) (fun _ _ q=>Heap.get?_push_of_some _ q) (Nat.le_refl _) (qHq s.heap I.big),rfl,h _ (I.hok.fresh (Nat.le_refl _))⟩
theorem qFv:PE X (.Dict [] [] pos) tDNewT:=fun pins s σ H Q I h=>
 wpAny_Dict_empty ⟨.ref s.heap.objs.size,_,I.laid (a:=s.heap.objs.size) (o:=.dT []) (t':=s.toks) (fun _ _ q=>Heap.get?_push_of_some _ q) (Nat.le_refl _) (qGb s.heap I.big),rfl,h _ (I.hok.fresh (Nat.le_refl _))⟩
end

noncomputable def mergeK (kvs more:List (Key×V)):List (Key×V):=more.foldl (fun acc kv=>putK acc kv.1 kv.2) kvs
theorem KV.merge:∀{more:List (Key×V)} {rs:List (Key×Value)} {kvs:List (Key×V)} {vs:List (Key×Value)},KV more rs→KV kvs vs→KV (mergeK kvs more) (merged vs rs):=by
 intro more rs kvs vs r
 unfold KV at r
 induction r generalizing kvs vs with
 | nil=>intro q;exact q
 | @cons p q ps qs h t ih=>
  intro r0
  have e:KV (putK kvs p.1 p.2) (stored vs q.1 q.2):=by
   have:=r0.put p.1 h.2
   rw[← h.1];exact this
  exact ih e
theorem yQ:∀(more kvs:List (Key×V)),(mergeK kvs more).length≤kvs.length+more.length
 | [],kvs=>by show kvs.length≤kvs.length+0;omega
 | p::r,kvs=>by
  have h1:=yQ r (putK kvs p.1 p.2)
  have h2:=jA kvs p.1 p.2
  show(mergeK (putK kvs p.1 p.2) r).length≤_
  rw[List.length_cons];omega
section
variable {X:Cx}{pins:List (Addr×Obj)}{σ:St}{H:Hp}{s:Shared}{a:Addr}{y d:V}{u r:Value}{o:Option V}{A:Around}{E:Value→Shared→Prop}
end

section
variable {X:Cx}{o e f:Expr}{apos cpos:Pos}{td ty tx:TE}
end

section
variable {X:Cx}{pins:List (Addr×Obj)}{σ:St}{H:Hp}{s:Shared}{a:Addr}{kvs:List (Key×V)}{A:Around}{E:Value→Shared→Prop}
theorem qHx {Q:Value→Shared→Prop}(I:Inv X pins σ H s)(e:Rd H a (.dK kvs))(h:∀p s',H p=none→Inv X pins σ (upd H p (.dK kvs)) s'→Q (.ref p) s'):wpAny (model X.prog X.w) A (call (.type "dict") [.ref a]) Q E s:=by
 obtain⟨z,hd,vs,rel,dd⟩:=qYj I.hok e
 refine kt_call_dict hd dd (by rw[← rel.length];exact z) fun h' dd' hs=>?_
 refine h _ _ (I.hok.fresh (Nat.le_refl _)) (I.laid (a:=s.heap.objs.size) (o:=.dK kvs) (t':=s.toks) (fun b q hq=>?_) (Nat.le_refl _) (qIz z (beq_eq_false_iff_ne.mpr (Ne.symm (Nat.ne_of_lt I.big))) rel dd'))
 exact(hs.2 b (Nat.ne_of_lt (Heap.lt_size hq))).trans (Heap.get?_push_of_some _ hq)
end

section
variable {X:Cx}{pins:List (Addr×Obj)}{σ:St}{H:Hp}{s:Shared}{a:Addr}{y:V}{u:Value}{A:Around}{E:Value→Shared→Prop}
end
end L2

namespace Att
open PySem PySem.W PySem.Calls PyProof.Rows

theorem wG {P:Params}{h:Heap}:∀(ns:List Int) (vs:List Value),WellAll P h vs (ns.map WData.int)→IntsAre vs ns:=by
 intro ns
 induction ns with
 | nil=>
  intro vs w
  rw[List.map_nil] at w
  cases w
  exact .nil
 | cons n ns ih=>
  intro vs w
  rw[List.map_cons] at w
  cases w with
  | cons a b=>
   cases a
   exact .cons _ _ (ih _ b)

theorem qAv {l:OpenLaw}{n:Nat}(hn:l.most=some n){P:Params}{h:Heap}{args:List WData}{vals:List Value}
  (hpre:l.row.toRowW.claim.pre args=true) (hwl:WellAll P h vals args):
  ∃a vs ns,vals=[Value.ref a]∧args=[WData.list (ns.map WData.int)]∧h.get? a=some { cls:=.type "list",data:=.seq vs.toArray }∧IntsAre vs ns∧ns.length≤n:=by
 have hsh:WShape.hasAll [] args [.list .int]=true:=(pre_splitW hpre).1
 have hc:l.pre.holds [] { args:=args }=true:=(pre_splitW hpre).2
 obtain⟨d,r,rfl,h1,h2⟩:=hasAllW_cons hsh
 obtain rfl:=hasAllW_nil h2
 obtain⟨xs,rfl,h3⟩:=hasW_list h1
 obtain⟨ns,rfl⟩:=items_int h3
 have hlen:ns.length≤n:=by
  unfold OpenLaw.pre at hc
  have h4:(WTm.not (.lt (.lit (.int (n:Int))) (.len (.arg 0)))).holds [] { args:=[.list (ns.map .int)] }=true:=by
   have h4:=(holds_andW hc).1
   rw[hn] at h4
   exact h4
  have h5:=condW_of h4 (w_not (w_lt w_lit (w_len_list (w_arg rfl))))
  rw[List.length_map] at h5
  refine Nat.le_of_not_lt fun q=>?_
  have q':(n:Int)<((ns.length:Nat):Int):=by omega
  first
   | (rw[decide_eq_true q'] at h5;exact absurd h5 (by decide))
   | (simp at h5;omega)
 cases hwl with
 | cons w1 w2=>
  cases w2
  cases w1 with
  | list ho hall=>exact⟨_,_,ns,rfl,rfl,ho,wG ns _ hall,hlen⟩

theorem qAm (l:OpenLaw)(args:List WData):l.row.toRowW.claim.post args (.bool true) args=true:=
 postW_of (r:=l.row.toRowW) (X:=(true == true))
  (show WShape.has [] (.bool true) .bool=true by first | rfl | decide | simp[WShape.has,WShape.arms,WShape.armsAll])
  (show(WTm.eq .res (.lit (.bool true))).value [] { args:=args,res:=some (.bool true),after:=args }=some (.bool (true == true)) from w_eq_bool (w_res rfl) w_lit) rfl

theorem attach_call {l:OpenLaw}{n:Nat}{q:Program}{loose:List Str}{XP:(Str→Option Value)→Heap→Prop}{YP:World→Heap→Prop}{d:DefRec}
  (hn:l.most=some n) (hdf:d.params.defaults=[])
  (call:∀(w:World) (s₀ s₁:Shared) (mg mb:Str→Option Value) (fa:Addr) (o:Obj) (pm cd doc:Value) (a:Addr) (vs:List Value) (ns:List Int),
   Ground q loose [] XP w s₀ mg mb s₁.heap→YP w s₁.heap→
   s₁.heap.get? fa=some o→o.data=.func (docDef d.name d.params d.body d.scope pm cd doc)→s₁.heap.CodeRec cd d.name→mg d.name=some (.ref fa)→
   s₁.heap.get? a=some { cls:=.type "list",data:=.seq vs.toArray }→IntsAre vs ns→ns.length≤n→s₁.gens=#[]→
   codeAny (model l.prog w) callerA (.call (.ref fa) ⟨[.ref a],[]⟩) (fun r s'=>r=.ok (.ret (.bool true))∧OldK s₁.heap s'.heap∧s'.os=s₁.os∧AllBare s'.gens) s₁):
  WalkO q loose XP YP l.row.toRowW d [] (fun f vs=>PySem.call f vs):=by
 intro w s₀ s₁ mg mb G Y fa o pm cd doc dV kV ho hd hcd hD hmg hg args vals as hpre hlay hrd hwl hlo
 obtain rfl:dV=.none:=Dflts.none hD hdf
 obtain rfl:kV=.none:=Dflts.noKw hD
 obtain⟨a,vs,ns,rfl,rfl,hobj,hints,hlen⟩:=qAv hn hpre hwl
 refine enter_call (codeAny_mono (call w s₀ s₁ mg mb fa o pm cd doc a vs ns G Y ho (fd_plain hd) hcd hmg hobj hints hlen hg) fun r s' hq=>?_)
 obtain⟨rfl,h2,h3,h4⟩:=hq
 exact⟨.inl ⟨.bool true,.bool true,[],rfl,fun _=>rfl,.bool true,qAm l _,fun _=>⟨List.Pairwise.nil,fun _ hm=>(nomatch hm)⟩⟩,h2,h3,h4⟩

section
variable {prog:Program}{w:World}{A:Around}{E:Value→Shared→Prop}{s:Shared}{K:Frag}

end
end Att

namespace L2
open PySem PySem.Spec PyProof.Rows

theorem qZq:∀{vs:List Value} {ns:List Int},IntsAre vs ns→Vals (ns.map V.int) vs
 | _,_,.nil=>.nil
 | _,_,.cons n t h=>.cons ⟨t,rfl⟩ (qZq h)

noncomputable def Only (H:Hp):Prop:=∀b,H b=none∨∃o xs,H b=some (.frz o (.lst xs))

theorem qFn {P:Program}{w:World}{K:PySem.W.Frag}{mg mb:Str→Option Value}{CX:CXT}{k:Nat}{fa a:Addr}{fd:FuncData}{x:Str}{sp:Sp}{s₁:Shared}{vs:List Value}{ns:List Int}
  (KX:K.In s₁.heap) (hns:s₁.heap.Ns mainGlobals mg) (hb:s₁.heap.Ns builtinsNs mb) (hbb:∀x:Str,x ≠ "__name__" → mb x=bootBuiltins x) (hlim:s₁.heap.NoLimit) (hg:s₁.gens=#[])
  (ha:s₁.heap.get? a=some { cls:=.type "list",data:=.seq vs.toArray }) (hi:IntsAre vs ns) (hl:ns.length≤sizeLine) (hr:Room k callerA)
  (F:∀base:Heap,K.In base→base.Ns mainGlobals mg→FnOk P w K mg base CX k fa fd [x] sp) (hbind:∀(s:Shared) (u:Value),BindsTo s fd ⟨[u],[]⟩ [(x,u)])
  (hsp:∀H:Hp,Only H→SqL K H a (ns.map V.int)→sp [.ref a] H (fun v _=>v=.bl true) fun _ _ _=>False)
  (hCX:∀H e s',CX [] H s₁ (fun _ _ _=>False) e s'→False):
  codeAny (model P w) callerA (.call (.ref fa) ⟨[.ref a],[]⟩) (fun r s'=>r=.ok (.ret (.bool true))∧OldK s₁.heap s'.heap∧s'.os=s₁.os∧AllBare s'.gens) s₁:=by
 have rv:=qZq hi
 have lenV:=hi.length
 have core:∀H:Hp,Only H→SqL K H a (ns.map V.int)→HOk P w H s₁.heap→(∀b,H b≠none→b=a)→(H a≠none→K.lookup a=none)→
   codeAny (model P w) callerA (.call (.ref fa) ⟨[.ref a],[]⟩) (fun r s'=>r=.ok (.ret (.bool true))∧OldK s₁.heap s'.heap∧s'.os=s₁.os∧AllBare s'.gens) s₁:=by
  intro H hO hS hok hA hK
  have base_of:∀{b:Addr} {o:Obj},s₁.heap.get? b=some o→H b=none→(hidT s₁.heap H).get? b=some o:=fun e n=>qGz e n
  have noA:∀{b:Addr} {o:Obj} {es:Array DictEntry} {ep:Nat},s₁.heap.get? b=some o→o.data=.dict es ep→H b=none:=fun{b o es ep} e d=>by
   cases q:H b with
   | none=>rfl
   | some u=>
    have e':b=a:=hA b (by rw[q];simp)
    subst e'
    rw[ha] at e;cases e
    have d':Data.seq vs.toArray _=Data.dict es ep:=d
    cases d'
  have nsK:∀{b:Addr} {m:Str→Option Value},s₁.heap.Ns b m→(hidT s₁.heap H).Ns b m:=fun{b m} ⟨o,es,ep,e,d,r⟩=>⟨o,es,ep,base_of e (noA e d),d,r⟩
  have hKb:K.In (hidT s₁.heap H):=fun b o e=>base_of (KX b o e) (by
   cases q:H b with
   | none=>rfl
   | some u=>
    have e':b=a:=hA b (by rw[q];simp)
    subst e'
    rw[hK (by rw[q];simp)] at e;cases e)
  have hM:Mod K mg (hidT s₁.heap H):=⟨hKb,nsK hns,⟨mb,nsK hb,hbb⟩,let ⟨mc,h1,h2⟩:=hlim;⟨mc,nsK h1,h2⟩⟩
  have e0:Env0 P w K mg (hidT s₁.heap H) callerA [] s₁ H:=⟨rfl,hM,fun b o e=>qMf e,Nat.le_of_eq (qCg _ _),trivial,fun b hb=>absurd (show b∈([]:List Addr) from hb) (by simp),hok,.of_eq hg⟩
  refine codeAny_mono ((F _ hKb (nsK hns)).run callerA [] s₁ H ⟨[.ref a],[]⟩ [.ref a] [.ref a] _ _ hr e0 (hbind s₁ (.ref a)) (.cons rfl .nil) (hsp H hO hS)) fun r s' h=>?_
  cases r with
  | error e=>exact(hCX H e s' h).elim
  | ok fl=>
   cases fl with
   | next=>exact False.elim h
   | brk=>exact False.elim h
   | cont=>exact False.elim h
   | ret u=>
    obtain⟨v,H',os,bare,un,hok',r',q⟩:=h
    have q':v=.bl true:=q
    subst q'
    obtain rfl:u=Value.bool true:=r'
    refine⟨rfl,OldK.of_keep fun b o e=>?_,os,bare⟩
    cases q:H b with
    | none=>exact un.keep b o e q (by intro z;exact absurd (show b∈([]:List Addr) from z) (by simp)) (by simp)
    | some u=>
     rcases hO b with z | ⟨ob,xs,z⟩
     ·rw[q] at z;cases z
     ·have z2:=un.frzs b ob _ z
      obtain⟨e1,_⟩:=hok b _ z
      obtain⟨e2,_⟩:=hok' b _ z2
      rw[e] at e1;cases e1
      exact e2
 cases hk:K.lookup a with
 | some o=>
  have e:=KX a o hk
  rw[ha] at e
  cases e
  refine core (fun _=>none) (fun _=>.inl rfl) (.inr ⟨_,vs.toArray,_,hk,rfl,rfl,rfl,by rw[List.size_toArray,lenV];exact hl,by simpa using rv⟩) (fun b u z=>by have z':(none:Option HO)=some u:=z;cases z') (fun b z=>absurd rfl z) fun z=>absurd rfl z
 | none=>
  refine core (fun b=>if b=a then some (.frz { cls:=.type "list",data:=.seq vs.toArray } (.lst (ns.map V.int))) else none) (fun b=>?_) (.inl (.inr ⟨{ cls:=.type "list",data:=.seq vs.toArray },if_pos rfl⟩)) (fun b u z=>?_) (fun b z=>?_) fun _=>hk
  ·by_cases hb:b=a
   ·exact .inr ⟨_,_,if_pos hb⟩
   ·exact .inl (if_neg hb)
  ·by_cases hb:b=a
   ·have z':=(if_pos hb).symm.trans z
    cases z'
    subst hb
    exact⟨ha,by rw[List.length_map];exact hl,vs,_,rv,ha⟩
   ·have z':=(if_neg hb).symm.trans z
    cases z'
  ·by_cases hb:b=a
   ·exact hb
   ·exact absurd (if_neg hb) z
end L2

namespace L2
open PySem PySem.Spec PyProof.Rows

theorem qIw {l:PySem.W.OpenLaw}{n k:Nat}{q:Program}{loose:List Str}{XP:(Str→Option Value)→Heap→Prop}{YP:World→Heap→Prop}{d:DefRec}{K:Params→PySem.W.Frag}{CX:World→CXT}{sp:World→Sp}{x:Str}
  (hn:l.most=some n) (hn2:n≤sizeLine) (hdf:d.params.defaults=[]) (hr:Room k callerA)
  (hY:∀(w:World) (h:Heap),YP w h→(K w.params).In h)
  (F:∀(w:World) (mg:Str→Option Value) (fa:Addr) (h:Heap),(K w.params).In h→h.Ns mainGlobals mg→mg d.name=some (.ref fa)→
   ∃fd:FuncData,(∀(s:Shared) (u:Value),BindsTo s fd ⟨[u],[]⟩ [(x,u)])∧
    ∀base:Heap,(K w.params).In base→base.Ns mainGlobals mg→FnOk l.prog w (K w.params) mg base (CX w) k fa fd [x] (sp w))
  (hsp:∀(w:World) (H:Hp) (a:Addr) (ns:List Int),ns.length≤n→Only H→SqL (K w.params) H a (ns.map V.int)→sp w [.ref a] H (fun v _=>v=.bl true) fun _ _ _=>False)
  (hCX:∀(w:World) (H:Hp) (s:Shared) (e:Value) (s':Shared),CX w [] H s (fun _ _ _=>False) e s'→False):
  PySem.W.WalkO q loose XP YP l.row.toRowW d [] (fun f vs=>PySem.call f vs):=by
 refine Att.attach_call hn hdf fun w s₀ s₁ mg mb fa o pm cd doc a vs ns G Y ho hd hcd hmg hobj hints hlen hg=>?_
 have KX:=hY w _ Y
 obtain⟨fd,hb,hF⟩:=F w mg fa _ KX G.T.g hmg
 exact qFn KX G.T.g G.T.b G.T.builtins G.T.nolimit hg hobj hints (Nat.le_trans hlen hn2) hr hF hb (fun H hO hS=>hsp w H a ns hlen hO hS) fun H e s'=>hCX w H s₁ e s'
end L2

namespace L2
open PySem PySem.Spec PyProof.Rows

noncomputable abbrev CX0:CXT:=fun _ _ _ _ _ _=>False
noncomputable abbrev E0:XK:=fun _ _ _=>False
theorem pass0 {X:Cx}:Passes CX0 X E0:=fun _ _ _ _ _ _ _ h=>h.elim

structure Fun (K:PySem.W.Frag)(x qual:Str)(st:Stmt)(f:Addr)(fd:FuncData):Prop where
 ex:∃(oc:Value) (od:Option Addr) (kV doc pm:Value) (an:Option Addr) (cdv ct:Value) (osl:Array (Option Value)),
  fd=PySem.W.fnOf x qual (xB st) (xA st) (xW st) .none kV doc pm an cdv ct∧K.lookup f=some ⟨oc,od,.func fd,osl⟩∧PySem.W.codeIn K cdv qual=true
 kp:PySem.W.keepIn K (.ref f)=true
section
variable {P:Program}{w:World}{K:PySem.W.Frag}{mg:Str→Option Value}{base:Heap}
theorem Fun.ok {x qual:Str}{st:Stmt}{f:Addr}{fd:FuncData}{N ps:List Str}{k:Nat}{sp:Sp}(F:Fun K x qual st f fd)(S:xM N ps (xW st))(len:∀vs H Q E,sp vs H Q E→vs.length=ps.length)
  (hbody:∀(cdv:Value) (A:Around) (outer:List Env) (s:Shared) (H:Hp) (vs:List V) (Q:VK) (E:XK),Room k (A.deeper (envOfC qual (xW st) s.heap.objs.size f cdv))→sp vs H Q E→
   ∃t,PSs (cxOf CX0 P w K mg base N qual (xW st) f cdv A outer s H E).nox (xA st) t∧t { nx:=fun _ H'=>Q .non H',rt:=Q } (start N vs) H):FnOk P w K mg base CX0 (k+1) f fd ps sp:=by
 obtain⟨oc,od,kV,doc,pm,an,cdv,ct,osl,rfl,lk,hcd⟩:=F.ex
 refine qSg lk hcd S len fun A outer s H vs Q E hr hsp=>?_
 obtain⟨t,h,q⟩:=hbody cdv A outer s H vs Q E hr hsp
 exact⟨t,h.nox,q⟩
theorem Fun.binds {x qual:Str}{st:Stmt}{f:Addr}{fd:FuncData}{ps:List Str}(F:Fun K x qual st f fd)
  (h:∀(kV doc pm:Value) (an:Option Addr) (cdv ct:Value) (us:List Value),us.length=ps.length→bindArgs (PySem.W.fnOf x qual (xB st) (xA st) (xW st) .none kV doc pm an cdv ct) ⟨us,[]⟩=pure (ps.zip us)):Binds K fd ps []:=by
 obtain⟨oc,od,kV,doc,pm,an,cdv,ct,osl,rfl,lk,hcd⟩:=F.ex
 exact .all (h kV doc pm an cdv ct)
theorem xS {x qual:Str}{st:Stmt}{f:Addr}{oc:Value}{od an:Option Addr}{osl:Array (Option Value)}{kV doc pm cdv ct:Value}(l:K.lookup f=some ⟨oc,od,.func (PySem.W.fnOf x qual (xB st) (xA st) (xW st) .none kV doc pm an cdv ct),osl⟩)
  (c:PySem.W.codeIn K cdv qual=true) (k:PySem.W.keepIn K (.ref f)=true):Fun K x qual st f (PySem.W.fnOf x qual (xB st) (xA st) (xW st) .none kV doc pm an cdv ct):=⟨⟨oc,od,kV,doc,pm,an,cdv,ct,osl,rfl,l,c⟩,k⟩
end
theorem qGx {A:Around}{k:Nat}(hr:Room k A):A.units+1<cLine:=Nat.lt_of_le_of_lt (Nat.add_le_add_left (by decide:1≤64) _) hr.units
section
variable {X:Cx}
theorem pv (i:Nat){x:Str}{pos:Pos}(hN:X.N[i]? = some x:=by rfl)(hv:Vis X.env.scope x:=by first | exact Or.inl rfl | exact Or.inr (Or.inl rfl) | exact Or.inr (Or.inr rfl))(hd:(x == ("__debug__" : Str))=false:=by decide)
  (hcd:(x == ("__classdict__" : Str))=false:=by decide):PE X (.Name x pos) (tVar i):=qPz hN hv hd hcd
end

theorem iteF {A B:Prop}(h:B):if false=true then A else B:=by
 rw[if_neg Bool.false_ne_true]
 exact h
theorem iteT {A B:Prop}(h:A):if true=true then A else B:=by
 rw[if_pos rfl]
 exact h
theorem ite2 {c A B:Prop}[Decidable c](h1:c→A)(h2:¬c→B):if c then A else B:=by
 by_cases h:c
 ·rw[if_pos h]
  exact h1 h
 ·rw[if_neg h]
  exact h2 h
noncomputable def Same (H H':Hp):Prop:=∀b o,H b=some o→H' b=some o
theorem Same.refl (H:Hp):Same H H:=fun _ _ h=>h
theorem Same.trans {H H1 H2:Hp}(a:Same H H1)(b:Same H1 H2):Same H H2:=fun c o h=>b c o (a c o h)
theorem Same.free {H H':Hp}(e:Same H H'){l:Addr}(h:H' l=Option.none):H l=Option.none:=by
 cases q:H l with
 | none=>rfl
 | some o=>
  rw[e l o q] at h
  cases h
theorem Same.seq {K:PySem.W.Frag}{H H':Hp}{a:Addr}{xs:List V}(e:Same H H')(h:SqL K H a xs):SqL K H' a xs:=by
 rcases h with(h | ⟨o,h⟩) | h
 ·exact .inl (.inl (e _ _ h))
 ·exact .inl (.inr ⟨o,e _ _ h⟩)
 ·exact .inr h

end L2

namespace L2
open PySem PySem.Spec PyProof.Rows
section
variable {X:Cx}
theorem qEx:CallR X (.builtin "len") (fun xs H Q=>∃a kvs,xs=[V.ref a]∧H a=some (.dK kvs)∧Q (.int kvs.length) H):=by
 intro pins s σ H xs us Q I r h
 obtain⟨a,kvs,rfl,ha,q⟩:=h
 obtain⟨u,rfl,ru⟩:=vals1 r
 cases ru
 exact qSl I (.inl ha) fun t s' I'=>⟨.int kvs.length,H,I',⟨t,rfl⟩,q⟩
end
section
variable {κ:Type}[DecidableEq κ]
end
end L2

namespace L2
open PySem PySem.Spec PyProof.Rows

theorem qQg {scope:Scope}{env:Env}(h:∀p∈scope.names,p.2=.free→∃c,env.cells.lookup p.1=some c):
  ∃cl,closureFor scope env=pure cl∧(∀x c,cl.lookup x=some c→env.cells.lookup x=some c)∧(∀p∈scope.names,p.2=.free→∃c,cl.lookup p.1=some c):=by
 have key:∀(names:List (Str×NameKind)) (acc:List (Str×Addr)),(∀p∈names,p.2=.free→∃c,env.cells.lookup p.1=some c)→(∀x c,acc.lookup x=some c→env.cells.lookup x=some c)→
   ∃cl,(forIn names acc (fun(x:Str×NameKind) (r:List (Str×Addr))=>(if (x.2 == NameKind.free)=true then (do let a ← cellOf env x.1;pure (ForInStep.yield ((x.1,a)::r))) else pure (ForInStep.yield r):Sem (ForInStep (List (Str×Addr))))):Sem (List (Str×Addr)))=pure cl∧
    (∀x c,cl.lookup x=some c→env.cells.lookup x=some c)∧(∀x c,acc.lookup x=some c→∃c,cl.lookup x=some c)∧(∀p∈names,p.2=.free→∃c,cl.lookup p.1=some c):=by
  intro names
  induction names with
  | nil=>intro acc _ ha;exact⟨acc,rfl,ha,fun x c e=>⟨c,e⟩,fun p hp=>by cases hp⟩
  | cons p r ih=>
   intro acc hn ha
   obtain⟨n,k⟩:=p
   by_cases hk:k=.free
   ·subst hk
    obtain⟨c,hc⟩:=hn (n,.free) List.mem_cons_self rfl
    have ha':∀x d,((n,c)::acc).lookup x=some d→env.cells.lookup x=some d:=fun x d e=>by
     rw[List.lookup_cons] at e
     cases hx:x == n with
     | true=>rw[hx] at e;cases e;rw[eq_of_beq hx];exact hc
     | false=>rw[hx] at e;exact ha x d e
    obtain⟨cl,e,h1,h2,h3⟩:=ih ((n,c)::acc) (fun p hp=>hn p (List.mem_cons_of_mem _ hp)) ha'
    have hcell:cellOf env n=pure c:=by unfold cellOf;rw[hc]
    refine⟨cl,?_,h1,fun x d ex=>?_,fun p hp hf=>?_⟩
    ·rw[List.forIn_cons]
     show(if (NameKind.free == NameKind.free)=true then (do let a ← cellOf env n;pure (ForInStep.yield ((n,a)::acc))) else _) >>= _=_
     rw[if_pos (show(NameKind.free == NameKind.free)=true from rfl),hcell]
     exact e
    ·cases hx:x == n with
     | true=>exact h2 x c (by rw[List.lookup_cons,hx])
     | false=>exact h2 x d (by rw[List.lookup_cons,hx];exact ex)
    ·rcases List.mem_cons.mp hp with rfl | hp
     ·exact h2 n c (by rw[List.lookup_cons,beq_self_eq_true])
     ·exact h3 p hp hf
   ·obtain⟨cl,e,h1,h2,h3⟩:=ih acc (fun p hp=>hn p (List.mem_cons_of_mem _ hp)) ha
    refine⟨cl,?_,h1,h2,fun p hp hf=>?_⟩
    ·rw[List.forIn_cons]
     show(if (k == NameKind.free)=true then _ else _) >>= _=_
     rw[if_neg (by simpa using hk)]
     exact e
    ·rcases List.mem_cons.mp hp with rfl | hp
     ·exact absurd hf hk
     ·exact h3 p hp hf
 obtain⟨cl,e,h1,_,h3⟩:=key scope.names [] h (fun x c e=>by cases e)
 refine⟨cl,?_,h1,h3⟩
 show(forIn scope.names [] _ >>= fun r=>pure r)=pure cl
 rw[bind_pure]
 exact e

theorem jG {α:Type}(x:Str)(k:α)(l:List (Str×α)):List.lookup x ((x,k)::l)=some k:=by rw[List.lookup_cons,beq_self_eq_true]
theorem jW {α:Type}{x n:Str}(k:α)(l:List (Str×α))(h:(x == n)=false):List.lookup x ((n,k)::l)=List.lookup x l:=by rw[List.lookup_cons,h]
theorem yR {env:Env}{x:Str}:∀(names:List (Str×NameKind)),
  (names.map fun(n,k)=>if (k == NameKind.free && env.scope.kind == .function && env.kindOf n == some .cell) then (n,NameKind.cell) else (n,k)).lookup x=
   (names.lookup x).map fun k=>if (k == NameKind.free && env.scope.kind == .function && env.kindOf x == some .cell) then NameKind.cell else k
 | []=>rfl
 | (n,k)::r=>by
  have ih:=@yR env x r
  show List.lookup x ((if (k == NameKind.free && env.scope.kind == .function && env.kindOf n == some .cell)=true then (n,NameKind.cell) else (n,k))::_)=_
  cases hx:x == n with
  | true=>
   have e:x=n:=eq_of_beq hx
   subst e
   rw[jG]
   by_cases hc:(k == NameKind.free && env.scope.kind == .function && env.kindOf x == some .cell)=true
   ·rw[if_pos hc,jG]
    show _=some (if (k == NameKind.free && env.scope.kind == .function && env.kindOf x == some .cell)=true then NameKind.cell else k)
    rw[if_pos hc]
   ·rw[if_neg hc,jG]
    show _=some (if (k == NameKind.free && env.scope.kind == .function && env.kindOf x == some .cell)=true then NameKind.cell else k)
    rw[if_neg hc]
  | false=>
   rw[jW _ _ hx]
   by_cases hc:(k == NameKind.free && env.scope.kind == .function && env.kindOf n == some .cell)=true
   ·rw[if_pos hc,jW _ _ hx];exact ih
   ·rw[if_neg hc,jW _ _ hx];exact ih

noncomputable def cxC (X:Cx)(scope:Scope)(cl:List (Str×Addr))(N:List Str)(fp:List Addr)(s:Shared)(H:Hp):Cx where
 prog:=X.prog
 w:=X.w
 K:=X.K
 mg:=X.mg
 base:=X.base
 A:=X.A
 N:=N
 s₀:=s
 H₀:=H
 env:=compEnvC scope cl s.heap.objs.size X.env
 outer:=X.stack
 stack:=X.stack
 ex:=fp
 fn:=fun _=>false
 calm:=X.calm
 pn:=[]
 xe:=fun _ _=>False

noncomputable def PTs (X:Cx)(ifs:List Expr)(t:TT):Prop:=
 ∀(pins:List (Addr×Obj)) (s:Shared) (σ:St) (H:Hp) (Q:Bool→Hp→Prop),Inv X pins σ H s→t σ H Q→
  wpAny (model X.prog X.w) X.A (forIn ifs true fun c r=>if r=true then do let ok ← isTrue c X.env (eval c X.env);pure (ForInStep.yield ok) else pure (ForInStep.yield r)) (TP X pins σ Q) X.xe s
noncomputable def tYes:TT:=fun _ H Q=>Q true H
theorem zE {X:Cx}:PTs X [] tYes:=fun _ _ _ H _ I h=>wpAny_tests_nil ⟨H,I,h⟩
theorem qIo {X:Cx}{c:Expr}{t:TT}(h:PT X c t):PTs X [c] t:=fun pins s σ H Q I q=>wpAny_tests_one (h pins s σ H Q I q)

noncomputable def frees (js:List Nat)(σ:St):St:=js.map fun j=>σ.getD j none
noncomputable abbrev stC (k:Nat)(js:List Nat)(σ:St):St:=List.replicate k none++frees js σ

noncomputable def rdC (k:Nat)(js:List Nat)(g:TG)(tt:TT)(te:TE)(J:It)(σ:St)(H1:Hp)(Q:VK):Prop:=∀D,H1 D=none→
 ∃W:Nat→Nat→List V→Hp→Prop,(∃m,W 0 m [] (upd H1 D (.lst [])))∧∀i m ys H2,W i m ys H2→H2 D=some (.lst ys)∧
  ((J.stop i H2∧Q (.ref D) H2)∨(J.go i H2∧∀x H3,J.yld i H2 x H3→g x (stC k js σ) H3 fun σ4 H4=>(∃ow:St,ow.length=k∧σ4=ow++frees js σ)∧
   tt σ4 H4 fun b H5=>if b=true then te σ4 H5 fun y H6=>H6 D=some (.lst ys)∧ys.length<sizeLine∧∃m',m'<m∧W (i+1) m' (ys++[y]) (upd H6 D (.lst (ys++[y])))
    else ∃m',m'<m∧W (i+1) m' ys H5))
noncomputable def tComp (k:Nat)(js:List Nat)(wi:TI)(g:TG)(tt:TT)(te:TE):TE:=fun σ H Q=>wi σ H fun J H1=>rdC k js g tt te J σ H1 Q

structure CompOk (sc:Scope)(N0:List Str)(scope:Scope)(N:List Str)(k:Nat)(js:List Nat):Prop where
 kind:scope.kind=.function
 cell:∀y∈scope.names,y.2≠.cell
 names:∀y∈scope.names,y.2=.local→scope.names.lookup y.1=some .local
 free:∀p∈scope.names,p.2=.free→sc.names.lookup p.1=some .cell∨sc.names.lookup p.1=some .free
 fn:∀x∈N.drop k,scope.names.lookup x=some .free
 at':js.map (fun j=>N0[j]?)=(N.drop k).map some
 le:k≤N.length
 nd:N.Nodup

theorem jT {names:List (Str×NameKind)}{x:Str}{k:NameKind}(h:names.lookup x=some k):(x,k)∈names:=PySem.mem_of_lookup h

section
variable {X:Cx}{elt tg iter:Expr}{ifs:List Expr}{scope:Scope}{cpos:Pos}{N:List Str}{k:Nat}{js:List Nat}{cl:List (Str×Addr)}{g:TG}{tt:TT}{te:TE}

theorem qCf {pins:List (Addr×Obj)}{σ:St}{H:Hp}{s:Shared}{fp:List Addr}{h₁:Heap}{t':Nat}{m:Str→Option Value}(C:CompOk X.env.scope X.N scope N k js)
  (hcl1:∀x c,cl.lookup x=some c→X.env.cells.lookup x=some c) (hcl2:∀p∈scope.names,p.2=.free→∃c,cl.lookup p.1=some c)
  (I:Inv X pins σ H s) (f2:∀b∈fp,FpOk X pins H b) (flt:∀b∈fp,b<s.heap.objs.size) (hns:h₁.Ns s.heap.objs.size m) (keep:∀b o,s.heap.get? b=some o→h₁.get? b=some o):
  Inv (cxC X scope cl N fp s H) [] (stC k js σ) H { s with heap:=h₁,toks:=t' }:=by
 have relk:∀x,(cxC X scope cl N fp s H).env.kindOf x=(scope.names.lookup x).map fun k=>if (k == NameKind.free && X.env.scope.kind == .function && X.env.kindOf x == some .cell) then NameKind.cell else k:=fun x=>yR scope.names
 have wasfree:∀x,((cxC X scope cl N fp s H).env.kindOf x=some .cell∨(cxC X scope cl N fp s H).env.kindOf x=some .free)→scope.names.lookup x=some .free:=fun x hx=>by
  rw[relk x] at hx
  cases e:scope.names.lookup x with
  | none=>rw[e] at hx;rcases hx with hx | hx <;> cases hx
  | some kd=>
   rw[e] at hx
   by_cases hk:kd=.free
   ·rw[hk]
   ·have hk':(kd == NameKind.free)=false:=by simpa using hk
    rw[Option.map_some,hk',Bool.false_and,Bool.false_and,if_neg Bool.false_ne_true] at hx
    rcases hx with hx | hx
    ·exact absurd (Option.some.inj hx) (C.cell _ (jT e))
    ·exact absurd (Option.some.inj hx) hk
 have clt:∀x c,cl.lookup x=some c→c<s.heap.objs.size:=fun x c e=>by
  obtain⟨v,z⟩:=I.cell x c (hcl1 x c e)
  exact z.lt
 have ok:(cxC X scope cl N fp s H).Ok:=
  {mod:=I.ok.mod
   kind:=by show(relabel scope X.env).kind=_;exact C.kind
   glob:=I.ok.glob
   blt:=I.ok.blt
   above:=Nat.le_refl _
   inj:=fun x y c e1 e2=>I.ok.inj x y c (hcl1 x c e1) (hcl1 y c e2)
   has:=fun x hx=>hcl2 (x,.free) (jT (wasfree x hx)) rfl
   cab:=fun x c z=>by cases z
   hd:=I.ok.hd
   frames:=I.ok.frames
   stk:=.inl rfl
   exf:=fun b hb=>⟨Nat.ne_of_lt (flt b hb),fun x c e=>(f2 b hb).2.2.2.2.1 x c (hcl1 x c e)⟩
   bs:=fun b o e=>I.bs b o e
   bsz:=Nat.le_trans I.ok.bsz I.sz
   noex:=fun b o e hb=>by
    rcases(f2 b hb).2.2.2.1 with z | z
    ·exact I.ok.noex b o e z
    ·exact absurd (Nat.lt_of_lt_of_le (Heap.lt_size (I.ok.bs b o e).1) z) (Nat.lt_irrefl _)
   exfs:=fun b hb z=>by
    rcases List.mem_cons.mp (I.stkSub b z) with q | q
    ·exact(f2 b hb).2.1 q
    ·exact(f2 b hb).2.2.1 q
   funs:=I.stack
   frf:=I.stkFree }
 have hlen:(stC k js σ).length=N.length:=by
  have q:=congrArg List.length C.at'
  rw[List.length_map,List.length_map,List.length_drop] at q
  have:=C.le
  show(List.replicate k none++frees js σ).length=N.length
  rw[List.length_append,List.length_replicate,frees,List.length_map]
  omega
 refine⟨ok,rfl,I.bare,Un.kept keep,⟨m,hns,fun i x v e1 e2 e3=>?_⟩,fun x c e=>?_,I.hok.fresh (Nat.le_refl _),fun x c e=>I.freeC x c (hcl1 x c e),fun p hp=>absurd (show p∈([]:List (Addr×Obj)) from hp) (by simp),I.hok.kept keep,hlen⟩
 ·have e1:N[i]? = some x:=e1
  have hik:k≤i:=by
   by_cases hik:k≤i
   ·exact hik
   ·have e2':(List.replicate k (none:Option V)++frees js σ)[i]? = some (some v):=e2
    rw[List.getElem?_append_left (by rw[List.length_replicate];omega),List.getElem?_replicate] at e2'
    split at e2' <;> cases e2'
  obtain⟨d,rfl⟩:∃d,i=k+d:=⟨i - k,by omega⟩
  have e2':(List.replicate k (none:Option V)++frees js σ)[k+d]? = some (some v):=e2
  rw[List.getElem?_append_right (by rw[List.length_replicate];omega),List.length_replicate,Nat.add_sub_cancel_left,frees,List.getElem?_map] at e2'
  have ed:(N.drop k)[d]? = some x:=by rw[List.getElem?_drop];exact e1
  cases ej:js[d]? with
  | none=>rw[ej] at e2';cases e2'
  | some j=>
   rw[ej] at e2'
   have ev:σ.getD j none=some v:=Option.some.inj e2'
   have ej2:X.N[j]? = some x:=by
    have q:=congrArg (fun l=>l[d]?) C.at'
    simp only[List.getElem?_map,ej,ed,Option.map_some] at q
    exact Option.some.inj q
   have eσ:σ[j]? = some (some v):=by
    rw[List.getD_eq_getElem?_getD] at ev
    cases z:σ[j]? with
    | none=>rw[z] at ev;cases ev
    | some w=>rw[z] at ev;exact congrArg some ev
   have hfx:scope.names.lookup x=some .free:=C.fn x (List.mem_of_getElem? ed)
   have hX:X.env.scope.names.lookup x=some .cell∨X.env.scope.names.lookup x=some .free:=C.free (x,.free) (jT hfx) rfl
   obtain⟨mX,_,lX⟩:=I.loc
   obtain⟨u,ru,lu⟩:=lX j x v ej2 eσ (hX.elim (fun z=>.inr (.inl z)) fun z=>.inr (.inr z))
   refine⟨u,ru,.inr ⟨?_,?_⟩⟩
   ·rw[relk x,hfx]
    show some (if _ then _ else _)=_∨some (if _ then _ else _)=_
    split
    ·exact .inl rfl
    ·exact .inr rfl
   ·rcases lu with⟨z,_⟩ | ⟨_,c,ec,ic⟩
    ·have z:X.env.scope.names.lookup x=some .local:=z
     rcases hX with q | q <;> rw[q] at z <;> cases z
    ·obtain⟨c',ec'⟩:=hcl2 (x,.free) (jT hfx) rfl
     have:c'=c:=Option.some.inj ((hcl1 x c' ec').symm.trans ec)
     subst this
     obtain⟨o,ho,hd⟩:=ic
     exact⟨c',ec',o,keep _ _ ho,hd⟩
 ·obtain⟨v,o,ho,hd⟩:=I.cell x c (hcl1 x c e)
  exact⟨v,o,keep _ _ ho,hd⟩

theorem qVq {pins:List (Addr×Obj)}{σ:St}{H2:Hp}{s2:Shared}{E:Value→Shared→Prop}{it:Addr}{fp:List Addr}{tn:Nat→Heap→Prop}{J:It}{Q:VK}{RR:Value→Addr→Result→Shared→Prop}
  (hc:X.calm=true) (C:CompOk X.env.scope X.N scope N k js) (hcl1:∀x c,cl.lookup x=some c→X.env.cells.lookup x=some c) (hcl2:∀p∈scope.names,p.2=.free→∃c,cl.lookup p.1=some c)
  (hg:∀fp s H,PG (cxC X scope cl N fp s H) tg g) (ht:∀fp s H,PTs (cxC X scope cl N fp s H) ifs tt) (he:∀fp s H,PE (cxC X scope cl N fp s H) elt te)
  (I:Inv X pins σ H2 s2) (T:Turn X.prog X.w X.K tg J fp it tn) (st:tn 0 s2.heap) (f2:∀b∈fp,FpOk X pins H2 b) (rd:rdC k js g tt te J σ H2 Q)
  (fin:∀D L H' s',Inv X pins σ H' s'→FpOk X pins H' L→(∃m,s'.heap.Ns L m)→Q (.ref D) H'→RR (.ref D) L (.ok .next) s'):
  wpAny (model X.prog X.w) X.A (newList []) (fun acc s₃=>wpAny (model X.prog X.w) X.A (newFunctionEnv scope X.env.globals cl [] X.env.qual none .none (some X.env)) (fun cenv s₄=>
   codeAny (model X.prog X.w) X.A (.compStart (.ListComp elt [⟨tg,iter,ifs,0⟩] scope cpos) 0 (.ref it) acc { cenv with scope:=relabel scope X.env }) (RR acc cenv.locals) s₄) E s₃) E s2:=by
 refine wpAny_newObj_type (wpAny_newFunctionEnv C.cell (by intro y hy;simp at hy) (fun h₁ hns₁ hsb₁=>?_) C.kind)
 dsimp only at hns₁ hsb₁ ⊢
 have hD:H2 s2.heap.objs.size=none:=I.hok.fresh (Nat.le_refl _)
 have Id:Inv X pins σ (upd H2 s2.heap.objs.size (.lst [])) { s2 with heap:=s2.heap.push { cls:=.type "list",dict:=none,data:=.seq ([]:List Value).toArray } }:=
  I.laid (t':=s2.toks) (fun b u e=>Heap.get?_push_of_some _ e) (Nat.le_refl _) ⟨Nat.zero_le _,[],0,.nil,Heap.get?_push_size _ rfl⟩
 have kD:∀b o,s2.heap.get? b=some o→(s2.heap.push { cls:=.type "list",dict:=none,data:=.seq ([]:List Value).toArray }).get? b=some o:=fun b o e=>Heap.get?_push_of_some _ e
 generalize hHd:s2.heap.push { cls:=.type "list",dict:=none,data:=.seq ([]:List Value).toArray }=Hd at hns₁ hsb₁ Id kD ⊢
 have szd:Hd.objs.size=s2.heap.objs.size+1:=by rw[← hHd,Heap.size_push]
 have keep:∀b o,Hd.get? b=some o→h₁.get? b=some o:=fun b o e=>hsb₁.extBut b o (Nat.ne_of_lt (Heap.lt_size e)) (Heap.get?_push_of_some _ e)
 have flt2:∀b∈fp,b<s2.heap.objs.size:=fun b hb=>by
  obtain⟨o,e,_⟩:=T.obj _ _ st b hb
  exact Heap.lt_size e
 have fd:∀b∈fp,FpOk X pins (upd H2 s2.heap.objs.size (.lst [])) b:=fun b hb=>
  ⟨by rw[qW (Nat.ne_of_lt (flt2 b hb))];exact(f2 b hb).1,(f2 b hb).2⟩
 obtain⟨W,⟨m0,w0⟩,turn⟩:=rd _ hD
 generalize hY:cxC X scope cl N fp { s2 with heap:=Hd } (upd H2 s2.heap.objs.size (.lst []))=Y
 have hg:=hg fp { s2 with heap:=Hd } (upd H2 s2.heap.objs.size (.lst []))
 have ht:=ht fp { s2 with heap:=Hd } (upd H2 s2.heap.objs.size (.lst []))
 have he:=he fp { s2 with heap:=Hd } (upd H2 s2.heap.objs.size (.lst []))
 have loop:∀s₃:Shared,s₃={ s2 with heap:=h₁,toks:=s2.toks+([]:List (Str×Value)).length }→
   codeAny (model X.prog X.w) X.A (.compLoop (.ListComp elt [⟨tg,iter,ifs,0⟩] scope cpos) 0 (.ref it) (.ref s2.heap.objs.size) (compEnvC scope cl Hd.objs.size X.env))
    (RR (.ref s2.heap.objs.size) Hd.objs.size) s₃:=by
  rintro s₃ rfl
  have IY:Inv Y [] (stC k js σ) (upd H2 s2.heap.objs.size (.lst [])) { s2 with heap:=h₁,toks:=s2.toks+([]:List (Str×Value)).length }:=by
   rw[← hY]
   exact qCf (t':=s2.toks+([]:List (Str×Value)).length) C hcl1 hcl2 Id fd (fun b hb=>Nat.lt_of_lt_of_le (flt2 b hb) (by show s2.heap.objs.size≤Hd.objs.size;omega)) hns₁ keep
  rw[hY] at hg ht he
  have yprog:Y.prog=X.prog:=by rw[← hY];rfl
  have yw:Y.w=X.w:=by rw[← hY];rfl
  have yK:Y.K=X.K:=by rw[← hY];rfl
  have yA:Y.A=X.A:=by rw[← hY];rfl
  have yc:Y.calm=true:=by rw[← hY];exact hc
  have yenv:Y.env=compEnvC scope cl Hd.objs.size X.env:=by rw[← hY];rfl
  have yxe:Y.xe=fun _ _=>False:=by rw[← hY];rfl
  have ybase:∀{pn σ' H' s'},Inv Y pn σ' H' s'→Un (frs X.stack) fp (upd H2 s2.heap.objs.size (.lst [])) H' Hd s'.heap∧s'.os=s2.os:=fun{pn σ' H' s'} J=>by
   have u:=J.base
   have o:=J.os
   rw[← hY] at u o
   exact⟨u,o⟩
  have statY:∀{H':Hp},(∀b∈fp,H' b=none)→∀b∈fp,FpOk Y [] H' b:=fun{H'} hn b hb=>by
   rw[← hY]
   refine⟨hn b hb,Nat.ne_of_lt (Nat.lt_of_lt_of_le (flt2 b hb) (by show s2.heap.objs.size≤Hd.objs.size;omega)),?_,.inl hb,fun x c e=>(f2 b hb).2.2.2.2.1 x c (hcl1 x c e),fun p hp=>absurd (show p∈([]:List (Addr×Obj)) from hp) (by simp)⟩
   intro z
   rcases List.mem_cons.mp (I.stkSub b z) with q | q
   ·exact(f2 b hb).2.1 q
   ·exact(f2 b hb).2.2.1 q
  have st₁:tn 0 h₁:=T.keep _ _ _ st fun b hb o e=>keep b o (kD b o e)
  refine codeAny_loop rfl (fun n s'=>∃i ys H',Inv Y [] (stC k js σ) H' s'∧tn i s'.heap∧(∀b∈fp,H' b=none)∧W i n ys H') ?_ m0 ⟨0,[],_,IY,st₁,fun b hb=>(fd b hb).1,w0⟩
  rintro n s3 ⟨i,ys,H3,I3,st3,fr3,w3⟩
  show wpAny _ X.A ((compTurn (.ListComp elt [⟨tg,iter,ifs,0⟩] scope cpos) 0 (.ref it) (.ref s2.heap.objs.size) (compEnvC scope cl Hd.objs.size X.env)).onRaise (fun x=>do noteFrame x (compEnvC scope cl Hd.objs.size X.env);theTreesLotGoes x)) _ _ s3
  refine wpAny_noted ?_
  rw[compTurn_list]
  obtain⟨hDs,tr⟩:=turn i n ys H3 w3
  have hPE:∀{α:Type} {t:Sem α} {R R':α→Shared→Prop} {E':Value→Shared→Prop} {s:Shared},wpAny (model Y.prog Y.w) Y.A t R Y.xe s→(∀a s,R a s→R' a s)→wpAny (model X.prog X.w) X.A t R' E' s:=fun{α t R R' E' s} h hQ=>by
   rw[yprog,yw,yA,yxe] at h
   exact wpAny_mono h hQ fun _ _ z=>z.elim
  rcases tr with⟨stop,qn⟩ | ⟨go,step⟩
  ·refine wpAny_bind (wpAny_standAt (wpAny_bind ?_))
   have dn:=T.done Y yprog yw yK yc i [] s3 (stC k js σ) H3 (fun _ _=>False) I3 (statY fr3) st3 stop
   rw[yA] at dn
   refine wpAny_mono dn (fun r s4 ⟨hr,I4⟩=>?_) fun _ _ z=>z.elim
   subst hr
   obtain⟨u4,o4⟩:=ybase I4
   refine wpAny_pure (fin _ _ H3 s4 ?_ ?_ ?_ qn)
   ·refine I.call' (ch:=fp) o4 ((Un.laid (fun b o e=>kD b o e) (Nat.le_refl _) hD).trans u4) (by have:=I4.hok;rw[yprog,yw] at this;exact this) I4.bare fun b hb=>?_
    obtain⟨_,q1,q2,q3,q4,q5⟩:=f2 b hb
    exact⟨q3,q1,q4,q5⟩
   ·refine I.fpOk (by show s2.heap.objs.size≤Hd.objs.size;omega) ?_
    have:=I4.free
    rw[yenv] at this
    exact this
   ·obtain⟨m,hn,_⟩:=I4.loc
    rw[yenv] at hn
    exact⟨m,hn⟩
  ·refine wpAny_bind (wpAny_standAt (wpAny_bind ?_))
   have itm:=T.item Y yprog yw yK yc i [] s3 (stC k js σ) H3 (fun _ _=>False) I3 (statY fr3) st3 go
   rw[yA] at itm
   refine wpAny_mono itm (fun r s4 ⟨u,hr,h4⟩=>?_) fun _ _ z=>z.elim
   subst hr
   refine wpAny_bind (wpAny_mono h4 (fun _ s5 ⟨x,H5,I5,r5,y5,st5,fr5⟩=>?_) fun _ _ z=>z.elim)
   have I5':=I5.pinned (statY fr5) (T.obj _ _ st5)
   have as:=hg _ s5 (stC k js σ) H5 x u _ I5' r5 (step x H5 y5)
   rw[yenv] at as
   refine wpAny_bind (hPE as fun _ s6 ⟨σ6,H6,I6,⟨ow,eow,e6⟩,q6⟩=>?_)
   have again:∀{H7:Hp} {s7:Shared} {zs:List V},Inv Y ([]++pinsAt fp s5.heap) σ6 H7 s7→(∃m',m'<n∧W (i+1) m' zs H7)→
     ∃m,m<n∧∃i ys H',Inv Y [] (stC k js σ) H' s7∧tn i s7.heap∧(∀b∈fp,H' b=none)∧W i m ys H':=fun{H7 s7 zs} I7 ⟨m',hm,w7⟩=>by
    have J7:Inv Y ([]++pinsAt fp s5.heap) (stC k js σ) H7 s7:=by
     refine I7.weak ?_ fun j v e=>?_
     ·rw[e6]
      show(List.replicate k none++frees js σ).length=_
      rw[List.length_append,List.length_append,List.length_replicate,eow]
     ·have e:(List.replicate k (none:Option V)++frees js σ)[j]? = some (some v):=e
      rw[e6]
      by_cases hj:j<k
      ·rw[List.getElem?_append_left (by rw[List.length_replicate];exact hj),List.getElem?_replicate] at e
       split at e <;> cases e
      ·rw[List.getElem?_append_right (by rw[List.length_replicate];omega),List.length_replicate] at e
       rw[List.getElem?_append_right (by omega),eow]
       exact e
    refine⟨m',hm,i+1,zs,H7,J7.unpinned,T.keep _ _ _ st5 fun b hb o e=>(I7.pin (b,o) (List.mem_append_right _ (List.mem_append_right _ (yN hb e)))).1,fun b hb=>?_,w7⟩
    obtain⟨o,e,d⟩:=T.obj _ _ st5 b hb
    exact(I7.pin (b,o) (List.mem_append_right _ (List.mem_append_right _ (yN hb e)))).2.1
   have tst:=ht _ s6 σ6 H6 _ I6 q6
   rw[yenv] at tst
   refine wpAny_bind (hPE tst fun b s7 ⟨H7,I7,q7⟩=>?_)
   cases b with
   | false=>exact wpAny_pure ⟨rfl,again I7 q7⟩
   | true=>
    have ev:=he _ s7 σ6 H7 _ I7 q7
    rw[yenv] at ev
    refine wpAny_bind (wpAny_bind (hPE ev fun v s8 ⟨y,H8,I8,r8,q8,z8,w8⟩=>?_))
    refine wpAny_bind (hPE (zV (X:=Y) _ s8 σ6 H8 (.ref s2.heap.objs.size) [y] (.ref s2.heap.objs.size) [v] (fun _ H9=>H9=upd H8 s2.heap.objs.size (.lst (ys++[y]))) I8 rfl (.cons r8 .nil) ⟨_,ys,y,rfl,rfl,q8,z8,rfl⟩) fun _ s9 ⟨_,H9,I9,_,e9⟩=>?_)
    subst e9
    exact wpAny_pure (wpAny_pure ⟨rfl,again I9 w8⟩)
 exact codeAny_compStart_list (loop _ rfl) (T.self _ 0 _ _ _ (T.keep _ _ _ st fun b hb o e=>keep b o (kD b o e)) (loop _ rfl))

theorem qIq {pins:List (Addr×Obj)}{σ:St}{H:Hp}{s:Shared}(I:Inv X pins σ H s)(C:CompOk X.env.scope X.N scope N k js):∀p∈scope.names,p.2=.free→∃c,X.env.cells.lookup p.1=some c:=
 fun p hp hf=>I.ok.has p.1 (C.free p hp hf)

theorem jV {wi:TI}{sc:Scope}{N0:List Str}(hc:X.calm=true)(C:CompOk sc N0 scope N k js)(hi:PI X tg iter wi)
  (hg:∀cl fp s H,PG (cxC X scope cl N fp s H) tg g) (ht:∀cl fp s H,PTs (cxC X scope cl N fp s H) ifs tt) (he:∀cl fp s H,PE (cxC X scope cl N fp s H) elt te)
  (hs:∀x,foldedSetIterable iter X.env x=pure x:=by intro _;rfl) (hsc:X.env.scope=sc:=by rfl) (hN0:X.N=N0:=by rfl):PE X (.ListComp elt [⟨tg,iter,ifs,0⟩] scope cpos) (tComp k js wi g tt te):=by
 subst hsc hN0
 intro pins s σ H Q I h
 obtain⟨cl,e,h1,h2⟩:=qQg (qIq I C)
 rw[eval_ListComp]
 refine wpAny_comprehension_free (use:=none) rfl hs e C.kind C.names (thn (hi pins s σ H _ I h) fun v s1 q=>thn q fun itv s2 q2=>?_)
 obtain⟨it,fp,tn,J,H2,rfl,I2,T,st,f2,rd⟩:=q2
 refine qVq (RR:=fun acc L=>compPost (model X.prog X.w) X.A X.xe none (EP X pins σ Q) acc L) hc C h1 h2 (hg cl) (ht cl) (he cl) I2 T st f2 rd ?_
 intro D L H' s' I' ⟨f0,f1,_,f3,f4,f5⟩ ⟨m,hn⟩ q
 refine⟨m,hn,fun h' sb=>⟨.ref D,H',?_,rfl,q⟩⟩
 exact I'.turned (t':=s'.toks) (fun b o hb e=>(sb.2 b hb).trans e) f0 f1 f3 f4 f5

theorem yI {wi:TI}{i:Nat}{x:Str}{pos pos':Pos}{sc:Scope}{N0:List Str}(hN:X.N.Nodup)(hi':X.N[i]? = some x)(hx:Loc X.env.scope x)(hc:X.calm=true)(C:CompOk sc N0 scope N k js)(hi:PI X tg iter wi)
  (hg:∀cl fp s H,PG (cxC X scope cl N fp s H) tg g) (ht:∀cl fp s H,PTs (cxC X scope cl N fp s H) ifs tt) (he:∀cl fp s H,PE (cxC X scope cl N fp s H) elt te)
  (hsw:swapsWith (.ListComp elt [⟨tg,iter,ifs,0⟩] scope cpos) (some (.Name x pos')) pos.line X.env=pure true:=by rfl)
  (hs:∀x,foldedSetIterable iter X.env x=pure x:=by intro _;rfl) (hsc:X.env.scope=sc:=by rfl) (hN0:X.N=N0:=by rfl) (hf:X.fn x=true∨X.env.scope.names.lookup x=some .local:=by first | exact .inl rfl | exact .inr rfl | assumption):
  PS X (.Assign [.Name x pos'] (.ListComp elt [⟨tg,iter,ifs,0⟩] scope cpos) pos) (tAsg (tComp k js wi g tt te) (gName i)):=by
 subst hsc hN0
 intro pins s σ H D I h
 obtain⟨cl,e,h1,h2⟩:=qQg (qIq I C)
 rw[exec_Assign_Name_used _ _ _ _ hsw]
 refine wpAny_bind (wpAny_standAt (wpAny_bind ?_))
 show wpAny _ X.A (do let _ ← comprehension (.ListComp elt [⟨tg,iter,ifs,0⟩] scope cpos) scope X.env _ (newList []) false (eval iter X.env) (some (assign (.Name x pos') X.env))) _ _ s
 refine wpAny_bind (wpAny_mono (wpAny_comprehension_free (use:=some (assign (.Name x pos') X.env)) (Q:=fun _ s'=>SP X pins D .next s') rfl hs e C.kind C.names
  (thn (hi pins s σ H _ I h) fun v s1 q=>thn q fun itv s2 q2=>?_)) (fun _ s' hq=>wpAny_pure (wpAny_pure hq)) fun _ _ z=>z)
 obtain⟨it,fp,tn,J,H2,rfl,I2,T,st,f2,rd⟩:=q2
 refine qVq (RR:=fun acc L=>compPost (model X.prog X.w) X.A X.xe (some (assign (.Name x pos') X.env)) (fun _ s'=>SP X pins D .next s') acc L) hc C h1 h2 (hg cl) (ht cl) (he cl) I2 T st f2 rd ?_
 intro A' L H' s' I' ⟨f0,f1,f2',f3,f4,f5⟩ ⟨m,hn⟩ q
 show wpAny _ X.A (assign (.Name x pos') X.env (.ref A')) _ _ s'
 refine wpAny_assign_Name (qZz (v:=V.ref A') I' hN hi' hx rfl (fun s'' I'' ⟨a,sb,ha⟩=>?_) hf)
 have hLa:L≠a:=by
  rcases ha with rfl | ha
  ·exact f1
  ·exact fun z=>f4 x a ha z.symm
 refine⟨m,hn.sameBut sb hLa,fun h' sb'=>⟨σ.set i (some (.ref A')),H',?_,q⟩⟩
 exact I''.turned (t':=s''.toks) (fun b o hb e=>(sb'.2 b hb).trans e) f0 f1 f3 f4 f5
end

noncomputable abbrev turnC (k:Nat)(js:List Nat)(g:TG)(tt:TT)(te:TE)(σ:St)(D:Addr)(x:V)(ys:List V)(H:Hp)(N:List V→Hp→Prop):Prop:=
 g x (stC k js σ) H fun σ4 H4=>(∃ow:St,ow.length=k∧σ4=ow++frees js σ)∧
  tt σ4 H4 fun b H5=>if b=true then te σ4 H5 fun y H6=>H6 D=some (.lst ys)∧ys.length<sizeLine∧N (ys++[y]) (upd H6 D (.lst (ys++[y]))) else N ys H5
section
variable {K:PySem.W.Frag}{a:Addr}{xs:List V}{k:Nat}{js:List Nat}{g:TG}{tt:TT}{te:TE}{σ:St}{H1:Hp}{Q:VK}
theorem jB (Pv:Addr→Nat→List V→Hp→Prop)(h0:∀D,H1 D=none→Pv D 0 [] (upd H1 D (.lst [])))
  (hl:∀D i ys H,i≤xs.length→Pv D i ys H→SqL K H a xs)
  (hs:∀D i x ys H (N:List V→Hp→Prop),H1 D=none→H D=some (.lst ys)→xs[i]? = some x→Pv D i ys H→(∀zs H',H' D=some (.lst zs)→Pv D (i+1) zs H'→N zs H')→turnC k js g tt te σ D x ys H N)
  (hd:∀D ys H,H1 D=none→H D=some (.lst ys)→Pv D xs.length ys H→Q (.ref D) H):rdC k js g tt te (Itl K a) σ H1 Q:=by
 intro D hD
 refine⟨fun i m ys H=>m=xs.length - i∧i≤xs.length∧H D=some (.lst ys)∧Pv D i ys H,⟨xs.length,by simp,Nat.zero_le _,qV,h0 D hD⟩,?_⟩
 rintro i m ys H ⟨rfl,hi,hDy,p⟩
 refine⟨hDy,?_⟩
 have q:=hl D i ys H hi p
 by_cases hlt:i<xs.length
 ·refine .inr ⟨⟨xs,xs[i],q,by simp[hlt]⟩,fun x H' y=>?_⟩
  obtain⟨e,y⟩:=y
  subst e
  exact hs D i x ys _ (fun zs H'=>∃m',m'<xs.length - i∧m'=xs.length - (i+1)∧i+1≤xs.length∧H' D=some (.lst zs)∧Pv D (i+1) zs H') hD hDy (y xs q) p fun zs H' e p'=>⟨xs.length - (i+1),by omega,rfl,hlt,e,p'⟩
 ·have e:i=xs.length:=by omega
  subst e
  exact .inl ⟨⟨xs,q,Nat.le_refl _⟩,hd D ys H hD hDy p⟩
theorem qHj (Pv:Addr→Nat→List V→Hp→Prop)(h0:∀D,H1 D=none→Pv D 0 [] (upd H1 D (.lst [])))
  (hl:∀D i ys H,i≤xs.length→Pv D i ys H→SqT K H a xs)
  (hs:∀D i x ys H (N:List V→Hp→Prop),H1 D=none→H D=some (.lst ys)→xs[i]? = some x→Pv D i ys H→(∀zs H',H' D=some (.lst zs)→Pv D (i+1) zs H'→N zs H')→turnC k js g tt te σ D x ys H N)
  (hd:∀D ys H,H1 D=none→H D=some (.lst ys)→Pv D xs.length ys H→Q (.ref D) H):rdC k js g tt te (Itt K a) σ H1 Q:=by
 intro D hD
 refine⟨fun i m ys H=>m=xs.length - i∧i≤xs.length∧H D=some (.lst ys)∧Pv D i ys H,⟨xs.length,by simp,Nat.zero_le _,qV,h0 D hD⟩,?_⟩
 rintro i m ys H ⟨rfl,hi,hDy,p⟩
 refine⟨hDy,?_⟩
 have q:=hl D i ys H hi p
 by_cases hlt:i<xs.length
 ·refine .inr ⟨⟨xs,xs[i],q,by simp[hlt]⟩,fun x H' y=>?_⟩
  obtain⟨e,y⟩:=y
  subst e
  exact hs D i x ys _ (fun zs H'=>∃m',m'<xs.length - i∧m'=xs.length - (i+1)∧i+1≤xs.length∧H' D=some (.lst zs)∧Pv D (i+1) zs H') hD hDy (y xs q) p fun zs H' e p'=>⟨xs.length - (i+1),by omega,rfl,hlt,e,p'⟩
 ·have e:i=xs.length:=by omega
  subst e
  exact .inl ⟨⟨xs,q,Nat.le_refl _⟩,hd D ys H hD hDy p⟩
theorem zP {lo:Int}{n:Nat}(Pv:Addr→Nat→List V→Hp→Prop)(h0:∀D,H1 D=none→Pv D 0 [] (upd H1 D (.lst [])))
  (hs:∀D i ys H (N:List V→Hp→Prop),H1 D=none→H D=some (.lst ys)→i<n→Pv D i ys H→(∀zs H',H' D=some (.lst zs)→Pv D (i+1) zs H'→N zs H')→turnC k js g tt te σ D (.int (lo+i)) ys H N)
  (hd:∀D ys H,H1 D=none→H D=some (.lst ys)→Pv D n ys H→Q (.ref D) H):rdC k js g tt te (Itr lo n) σ H1 Q:=by
 intro D hD
 refine⟨fun i m ys H=>m=n - i∧i≤n∧H D=some (.lst ys)∧Pv D i ys H,⟨n,by simp,Nat.zero_le _,qV,h0 D hD⟩,?_⟩
 rintro i m ys H ⟨rfl,hi,hDy,p⟩
 refine⟨hDy,?_⟩
 by_cases hlt:i<n
 ·refine .inr ⟨hlt,fun x H' y=>?_⟩
  obtain⟨e,y⟩:=y
  subst e y
  exact hs D i ys _ (fun zs H'=>∃m',m'<n - i∧m'=n - (i+1)∧i+1≤n∧H' D=some (.lst zs)∧Pv D (i+1) zs H') hD hDy hlt p fun zs H' e p'=>⟨n - (i+1),by omega,rfl,hlt,e,p'⟩
 ·have e:i=n:=by omega
  subst e
  exact .inl ⟨Nat.le_refl _,hd D ys H hD hDy p⟩
end
noncomputable def qAw (e:Expr):Scope:=match e with
 | .ListComp _ _ s _=>s
 | _=>{ kind:=.function,names:=[],isGenerator:=false,isCoroutine:=false }
noncomputable def argOf (e:Expr)(i:Nat):Expr:=match e with
 | .Call _ as _ _=>as.getD i (.Constant .none 0 ⟨0,0,0,0⟩)
 | _=>.Constant .none 0 ⟨0,0,0,0⟩
noncomputable def stAt (l:List Stmt)(i:Nat):Stmt:=l.getD i (.Pass ⟨0,0,0,0⟩)
noncomputable def asgVal (s:Stmt):Expr:=match s with
 | .Assign _ v _=>v
 | .Return (some v) _=>v
 | _=>.Constant .none 0 ⟨0,0,0,0⟩
end L2

namespace L2
open PySem PySem.Spec PyProof.Rows

theorem log2_lt {n k:Nat}(h:n<2 ^ (k+1)):n.log2≤k:=by
 by_cases h0:n=0
 ·subst h0;simp
 ·exact Nat.lt_succ_iff.mp ((Nat.log2_lt h0).mpr h)
theorem qEv {a:Int}(h:a.natAbs<2 ^ 1000):Builtin.Int.intBits a≤2 ^ 20:=by
 unfold Builtin.Int.intBits
 split
 ·exact Nat.zero_le _
 ·have:=log2_lt (n:=a.natAbs) (k:=999) h
  have e:(2:Nat) ^ 20=1048576:=by decide
  omega
theorem mulOk {a b:Int}(ha:a.natAbs<2 ^ 1000)(hb:b.natAbs<2 ^ 1000):IntMulOk a b:=IntMulOk.of_bits (qEv ha) (qEv hb)
section
variable {X:Cx}{a b:Expr}{ta tb:TE}{pos:Pos}
theorem jR:OpR X (binaryOp .Mult) (rI (fun i j=>i.natAbs<2 ^ 1000∧j.natAbs<2 ^ 1000) fun i j=>.int (i * j)):=opI fun _ _ _ _ _ _ _ hc q=>mul_int q (mulOk hc.1 hc.2)
theorem qKi:OpR X (binaryOp .FloorDiv) (rI (fun _ j=>0<j∧j.natAbs<2 ^ 1000) fun i j=>.int (i / j)):=opI fun i j _ _ _ _ _ hc q=>by
 have h0:j≠0:=by have:=hc.1;omega
 have e:i.fdiv j=i / j:=Int.fdiv_eq_ediv_of_nonneg _ (by have:=hc.1;omega)
 refine floordiv_int h0 (by rw[e];exact q) (.inl (PyProof.noPylong_of_log2 ?_))
 have:=log2_lt (n:=j.natAbs) (k:=999) hc.2
 omega

inductive DEq (K:PySem.W.Frag)(H:Hp):Nat→V→V→Prop
 | int {n} (i:Int):DEq K H n (.int i) (.int i)
 | str {n} (x:Str):DEq K H n (.str x) (.str x)
 | bl {n} (b:Bool):DEq K H n (.bl b) (.bl b)
 | non {n}:DEq K H n .non .non
 | same {n} (a:Addr):DEq K H n (.ref a) (.ref a)
 | lst {n} {a b:Addr} {xs ys:List V}:SqL K H a xs→SqL K H b ys→xs.length=ys.length→(∀(j:Nat) x y,xs[j]? = some x→ys[j]? = some y→DEq K H n x y)→DEq K H (n+1) (.ref a) (.ref b)
 | tup {n} {a b:Addr} {xs ys:List V}:SqT K H a xs→SqT K H b ys→xs.length=ys.length→(∀(j:Nat) x y,xs[j]? = some x→ys[j]? = some y→DEq K H n x y)→DEq K H (n+1) (.ref a) (.ref b)
theorem kH (n:Nat):(List.range n).all (fun _=>true)=true:=List.all_eq_true.mpr fun _ _=>rfl
theorem Inv.deq {pins:List (Addr×Obj)}{σ:St}{H:Hp}{s:Shared}(I:Inv X pins σ H s):∀{n:Nat} {x y:V},DEq X.K H n x y→∀{A:Around} {u v:Value},RelV x u→RelV y v→A.units+n<cLine→SeqAt.EqAt A s u v true:=by
 intro n x y d
 induction d with
 | int i=>intro A u v r q _;obtain⟨t,rfl⟩:=r;obtain⟨t',rfl⟩:=q;have:=SeqAt.EqAt.int_int (A:=A) (s:=s) i t i t';rwa [beq_self_eq_true] at this
 | str i=>intro A u v r q _;obtain⟨t,rfl⟩:=r;obtain⟨t',rfl⟩:=q;have:=SeqAt.EqAt.str_str (A:=A) (s:=s) i t i t';rwa [beq_self_eq_true] at this
 | bl i=>intro A u v r q _;cases r;cases q;exact SeqAt.EqAt.same _
 | non=>intro A u v r q _;cases r;cases q;exact SeqAt.EqAt.same _
 | same a=>intro A u v r q _;cases r;cases q;exact SeqAt.EqAt.same _
 | @lst n a b xs ys ha hb hl _ ih=>
  intro A u v r q hu
  cases r;cases q
  obtain⟨its,r1,p1,_⟩:=I.list ha
  obtain⟨its2,r2,p2,_⟩:=I.list hb
  by_cases hab:a=b
  ·subst hab;exact SeqAt.EqAt.same _
  ·refine SeqAt.EqAt.of_refs hab ?_
   have sz:its.toArray.size=its2.toArray.size:=by rw[List.size_toArray,List.size_toArray,← r1.length,← r2.length,hl]
   have:=SeqAt.RcAt.lists (A:=A) (s:=s) (e:=fun _=>true) p1.isList p2.isList sz (by omega) fun j h1 h2=>?_
   ·rwa [kH] at this
   ·have h1':j<xs.length:=by rw[r1.length];simpa using h1
    have h2':j<ys.length:=by rw[← hl];exact h1'
    obtain⟨u1,e1,q1⟩:=r1.get (List.getElem?_eq_getElem h1')
    obtain⟨u2,e2,q2⟩:=r2.get (List.getElem?_eq_getElem h2')
    have g1:its.toArray[j]=u1:=by
     have:its[j]? = some its.toArray[j]:=by simp
     exact Option.some.inj (this.symm.trans e1)
    have g2:its2.toArray[j]=u2:=by
     have:its2[j]? = some its2.toArray[j]:=by simp
     exact Option.some.inj (this.symm.trans e2)
    rw[g1,g2]
    exact ih j _ _ (List.getElem?_eq_getElem h1') (List.getElem?_eq_getElem h2') q1 q2 (by show A.units+1+n<cLine;omega)
 | @tup n a b xs ys ha hb hl _ ih=>
  intro A u v r q hu
  cases r;cases q
  obtain⟨its,r1,p1,_⟩:=I.tuple ha
  obtain⟨its2,r2,p2,_⟩:=I.tuple hb
  by_cases hab:a=b
  ·subst hab;exact SeqAt.EqAt.same _
  ·refine SeqAt.EqAt.of_refs hab ?_
   have sz:its.toArray.size=its2.toArray.size:=by rw[List.size_toArray,List.size_toArray,← r1.length,← r2.length,hl]
   have:=SeqAt.RcAt.tuples (A:=A) (s:=s) (e:=fun _=>true) (show s.heap.IsTuple a its.toArray from p1) (show s.heap.IsTuple b its2.toArray from p2) (by omega) fun j h1 h2=>?_
   ·rw[kH,sz,beq_self_eq_true] at this
    exact this
   ·have h1':j<xs.length:=by rw[r1.length];simpa using h1
    have h2':j<ys.length:=by rw[← hl];exact h1'
    obtain⟨u1,e1,q1⟩:=r1.get (List.getElem?_eq_getElem h1')
    obtain⟨u2,e2,q2⟩:=r2.get (List.getElem?_eq_getElem h2')
    have g1:its.toArray[j]=u1:=by
     have:its[j]? = some its.toArray[j]:=by simp
     exact Option.some.inj (this.symm.trans e1)
    have g2:its2.toArray[j]=u2:=by
     have:its2[j]? = some its2.toArray[j]:=by simp
     exact Option.some.inj (this.symm.trans e2)
    rw[g1,g2]
    exact ih j _ _ (List.getElem?_eq_getElem h1') (List.getElem?_eq_getElem h2') q1 q2 (by show A.units+1+n<cLine;omega)
noncomputable def rEqL (K:PySem.W.Frag)(k:Bool):R2:=fun x y H Q=>∃n a b xs ys,n≤60∧x=.ref a∧y=.ref b∧SqL K H a xs∧SqL K H b ys∧xs.length=ys.length∧(∀(j:Nat) x y,xs[j]? = some x→ys[j]? = some y→DEq K H n x y)∧Q (.bl k) H
theorem wF {pins:List (Addr×Obj)}{σ:St}{H:Hp}{s:Shared}(I:Inv X pins σ H s){n:Nat}{xs ys:List V}{its its2:List Value}(r1:Vals xs its)(r2:Vals ys its2)(hl:xs.length=ys.length)
  (hd:∀(j:Nat) x y,xs[j]? = some x→ys[j]? = some y→DEq X.K H n x y) {A:Around} (hu:A.units+n<cLine):∀j (h1:j<its.toArray.size) (h2:j<its2.toArray.size),SeqAt.EqAt A s its.toArray[j] its2.toArray[j] true:=by
 intro j h1 h2
 have h1':j<xs.length:=by rw[r1.length];simpa using h1
 have h2':j<ys.length:=by rw[← hl];exact h1'
 obtain⟨u1,e1,q1⟩:=r1.get (List.getElem?_eq_getElem h1')
 obtain⟨u2,e2,q2⟩:=r2.get (List.getElem?_eq_getElem h2')
 have g1:its.toArray[j]=u1:=by
  have:its[j]? = some its.toArray[j]:=by simp
  exact Option.some.inj (this.symm.trans e1)
 have g2:its2.toArray[j]=u2:=by
  have:its2[j]? = some its2.toArray[j]:=by simp
  exact Option.some.inj (this.symm.trans e2)
 rw[g1,g2]
 exact I.deq (hd j _ _ (List.getElem?_eq_getElem h1') (List.getElem?_eq_getElem h2')) q1 q2 hu
theorem qPa (hu:X.A.units+64<cLine):OpR X (compareOp .NotEq) (rEqL X.K false):=by
 intro pins s σ H x y v u Q I rx ry h
 obtain⟨n,a,b,xs,ys,hn,rfl,rfl,ha,hb,hl,hd,q⟩:=h
 cases rx;cases ry
 obtain⟨its,r1,p1,_⟩:=I.list ha
 obtain⟨its2,r2,p2,_⟩:=I.list hb
 have sz:its.toArray.size=its2.toArray.size:=by rw[List.size_toArray,List.size_toArray,← r1.length,← r2.length,hl]
 refine SeqAt.RcNeAt.lists (e:=fun _=>true) p1.isList p2.isList sz (by omega) (wF I r1 r2 hl hd (by show X.A.units+1+n<cLine;omega)) _ _ _ _ ?_
 rw[kH]
 exact⟨.bl false,H,I,rfl,q⟩
theorem qPf (hu:X.A.units+64<cLine):OpR X (compareOp .Eq) (fun x y H Q=>∃n a b xs ys,n≤60∧x=.ref a∧y=.ref b∧SqT X.K H a xs∧SqT X.K H b ys∧xs.length=ys.length∧(∀(j:Nat) x y,xs[j]? = some x→ys[j]? = some y→DEq X.K H n x y)∧Q (.bl true) H):=by
 intro pins s σ H x y v u Q I rx ry h
 obtain⟨n,a,b,xs,ys,hn,rfl,rfl,ha,hb,hl,hd,q⟩:=h
 cases rx;cases ry
 obtain⟨its,r1,p1,_⟩:=I.tuple ha
 obtain⟨its2,r2,p2,_⟩:=I.tuple hb
 have sz:its.toArray.size=its2.toArray.size:=by rw[List.size_toArray,List.size_toArray,← r1.length,← r2.length,hl]
 refine SeqAt.RcAt.tuples (e:=fun _=>true) (show s.heap.IsTuple a its.toArray from p1) (show s.heap.IsTuple b its2.toArray from p2) (by omega) (wF I r1 r2 hl hd (by show X.A.units+1+n<cLine;omega)) _ _ _ _ ?_
 rw[kH,sz,beq_self_eq_true]
 exact⟨.bl true,H,I,rfl,q⟩

theorem qYb:CallR X (.builtin "isinstance") (fun xs H Q=>∃x T t b,xs=[x,.ty T]∧TyOf X.K H x t∧PySem.W.kitOne X.K t (.type T)=some b∧Q (.bl b) H):=by
 intro pins s σ H xs us Q I r h
 obtain⟨x,T,t,b,rfl,ty,e,q⟩:=h
 obtain⟨u,v,rfl,ru,rv⟩:=vals2 r
 cases rv
 exact qCd I ru ty e fun tk=>⟨.bl b,H,I.tok _,rfl,q⟩
theorem qPj {x:Str}{T:String}{pos:Pos}(hg:Gl X x)(hm:X.mg x=none)(hv:bootBuiltins x=some (.type T))(hn:x ≠ "__name__" := by decide)(hd:(x == ("__debug__" : Str))=false:=by decide):PE X (.Name x pos) (tC (.ty T)):=
 qMw hg hm hv rfl hn hd
end

noncomputable def But (d:Addr)(H H':Hp):Prop:=∀b o,b≠d→H b=some o→H' b=some o
theorem But.refl {d:Addr}(H:Hp):But d H H:=fun _ _ _ h=>h
theorem But.trans {d:Addr}{H H1 H2:Hp}(a:But d H H1)(b:But d H1 H2):But d H H2:=fun c o n h=>b c o n (a c o n h)
theorem But.upd {d:Addr}{H:Hp}{o:HO}:But d H (upd H d o):=fun b u n h=>by rw[qW n];exact h
theorem qK {H:Hp}{p:Addr}(h:H p=none)(o:HO):Same H (upd H p o):=fun b u q=>by rw[qW (qA q h)];exact q
theorem qNl {α:Type}(x:α)(xs:List α):atI (x::xs) 0=some x:=zS (xs:=x::xs) (j:=0) rfl
theorem jC:bootBuiltins "len" = some (.builtin "len"):=by decide +kernel
theorem kG:bootBuiltins "isinstance" = some (.builtin "isinstance"):=by decide +kernel
theorem qNf:bootBuiltins "list" = some (.type "list"):=by decide +kernel
theorem vG:bootBuiltins "tuple" = some (.type "tuple"):=by decide +kernel
theorem qIk:bootBuiltins "int" = some (.type "int"):=by decide +kernel
theorem qNg:bootBuiltins "bool" = some (.type "bool"):=by decide +kernel
theorem wM:bootBuiltins "dict" = some (.type "dict"):=by decide +kernel
end L2

namespace PySem
namespace FR
end FR
section
variable {prog:Program}{w:World}{A:Around}{E:Value→Shared→Prop}{s:Shared}
end
end PySem
namespace L2
open PySem PySem.Spec PyProof.Rows
section
variable {X:Cx}{tg:Expr}
end
theorem xY {α β:Type}{F:α→β→Prop}:∀{a:List α} {b:List β} {i:Nat} {x:α} {y:β},Paired F a b→a[i]? = some x→b[i]? = some y→F x y
 | _,_,_,_,_,.nil,e,_=>by simp at e
 | _,_,0,_,_,.cons f _,e1,e2=>by simp at e1 e2;subst e1 e2;exact f
 | _,_,i+1,_,_,.cons _ p,e1,e2=>xY (i:=i) p (by simpa using e1) (by simpa using e2)
end L2

namespace PySem
namespace FD
theorem list_no_keys:typeLookup (.type "list") "keys" = pure none:=by rw[typeLookup_type,builtinLookup_eq_fast];kernel_rfl
theorem zip_no_keys:typeLookup (.type "zip") "keys" = pure none:=by rw[typeLookup_type,builtinLookup_eq_fast];kernel_rfl
theorem zip_no_getattr:typeLookup (.type "zip") "__getattr__" = pure none:=by rw[typeLookup_type,builtinLookup_eq_fast];kernel_rfl
theorem entry_zip_ga:entryFor table "zip.__getattribute__" = some Builtin.«object.__getattribute__»:=
 entryFor_alias (id' := "object.__getattribute__") (by kernel_rfl) (by decide +kernel) (by decide +kernel) (by kernel_rfl)
theorem keys_len:("keys" : Str).length+100≤sizeLine:=by decide +kernel
theorem keys_name:(["__module__","__name__","__qualname__","__doc__","__annotations__"]:List Str).contains "keys" = false:=by decide +kernel
end FD
theorem qYz (z:Addr)(vs:Array Value)(u:Tok):
  Meets (Builtin.«object.__getattribute__» ⟨[.ref z,.str "keys" u],[]⟩) (fun A R s=>s.heap.get? z=some { cls:=.type "zip",dict:=none,data:=.fields vs,slots:=#[] }∧raisesAttr (.ref z) "keys" A R s):=
 Meets.of_wp fun prog w A R s hs=>by
  obtain⟨hp,g,d,tk,os⟩:=s
  obtain⟨hx,hs⟩:=hs
  have hT:(⟨hp,g,d,tk,os⟩:Shared).TypeIs (.ref z) "zip" := ⟨_,hx,rfl⟩
  have f1:=FD.zip_no_keys
  unfold Builtin.«object.__getattribute__»
  repeat (any_goals (first | assumption | wp_step))
  try (simp only[FD.keys_name,Bool.false_eq_true,if_false];repeat (any_goals (first | assumption | wp_step)))
  exact wpAny_raiseAttrError hs.1 hs.2 (attrMsg_fits (by decide +kernel) FD.keys_len)
section
variable {prog:Program}{w:World}{A:Around}{E:Value→Shared→Prop}{s:Shared}
theorem qXc {z:Addr}{vs:Array Value}{Q:Option Value→Shared→Prop}(hx:s.heap.get? z=some { cls:=.type "zip",dict:=none,data:=.fields vs,slots:=#[] })(hA:A.handled=none)
  (h:∀h' tk,(∀b o,s.heap.get? b=some o→h'.get? b=some o)→Q none { s with heap:=h',toks:=tk }):wpAny (model prog w) A (getAttr? (.ref z) "keys") Q E s:=by
 obtain⟨hp,g,d,tk,os⟩:=s
 have hT:∀tk',(⟨hp,g,d,tk',os⟩:Shared).TypeIs (.ref z) "zip" := fun _=>⟨_,hx,rfl⟩
 have f1:=sub_AttributeError
 have f3:=F.slot_zip_getattribute.lookup
 have f4:=F.slot_zip_getattribute.bind (.ref z)
 have f5:=FD.zip_no_getattr
 unfold getAttr? getAttrBy? getAttrBy
 repeat (any_goals (first | assumption | exact hT _ | ((with_reducible show wpAny _ _ (call (Value.builtin "zip.__getattribute__") _ _) _ _ _);refine call_meets F.slot_zip_getattribute (hT _) FD.entry_zip_ga (F.args_zip_getattribute_2 _ _) (qYz z vs _) ⟨hx,hA,fun h' tk' e hx'=>?_⟩) | wp_step))
 obtain⟨t',u',he⟩:=hx'.there
 show wpAny _ _ (getattributeRaised _ _ _ _ _ _ _) _ _ _
 unfold getattributeRaised
 repeat (any_goals (first | assumption | wp_step))
 exact h _ _ hx'.keeps
theorem qQq {a:Addr}{xs:Array Value}{k:Nat}{Q:Option Value→Shared→Prop}(hx:s.heap.get? a=some { cls:=.type "list",data:=.seq xs k })(hA:A.handled=none)
  (h:∀h' tk,(∀b o,s.heap.get? b=some o→h'.get? b=some o)→Q none { s with heap:=h',toks:=tk }):wpAny (model prog w) A (getAttr? (.ref a) "keys") Q E s:=by
 obtain⟨hp,g,d,tk,os⟩:=s
 have hT:∀tk',(⟨hp,g,d,tk',os⟩:Shared).TypeIs (.ref a) "list" := fun _=>⟨_,hx,rfl⟩
 have f1:=sub_AttributeError
 have f3:=F.slot_list_getattribute.lookup
 have f4:=F.slot_list_getattribute.bind (.ref a)
 have f5:=am_list_getattr_none
 unfold getAttr? getAttrBy? getAttrBy
 repeat (any_goals (first | assumption | exact hT _ | ((with_reducible show wpAny _ _ (call (Value.builtin "list.__getattribute__") _ _) _ _ _);refine call_meets F.slot_list_getattribute (hT _) am_entry_list_getattribute (F.args_list_getattribute_2 _ _) (meets_getattribute_miss_list a xs k #[] _ _ FD.list_no_keys FD.keys_name FD.keys_len) ⟨hx,hA,fun h' tk' e hx'=>?_⟩) | wp_step))
 obtain⟨t',u',he⟩:=hx'.there
 show wpAny _ _ (getattributeRaised _ _ _ _ _ _ _) _ _ _
 unfold getattributeRaised
 repeat (any_goals (first | assumption | wp_step))
 exact h _ _ hx'.keeps

theorem vJ {it t:Addr}{i:Nat}{items:Array Value}{x:Value}{Q:Value→Shared→Prop}(hit:s.heap.IsTupleIter it t i)(ht:s.heap.IsTuple t items)(hx:items[i]? = some x)
  (hQ:∀h',h'.IsTupleIter it t (i+1)→Heap.SameBut it s.heap h'→Q x { s with heap:=h' }):wpAny (model prog w) A (Builtin.SmallTypes.nextOf (.ref it)) Q E s:=by
 obtain⟨o,ho,hc,hd⟩:=id hit
 obtain⟨ol,hol,_,nl,hdl⟩:=ht
 unfold Builtin.SmallTypes.nextOf
 refine wpAny_bind (wpAny_callSpecial?_slot (name:=Str.ofString "__next__") hit.typeIs F.slot_tuple_iterator_next (wpAny_call_entry F.slot_tuple_iterator_next hit.typeIs F.entry_tuple_iterator_next ?_ (F.args_tuple_iterator_next_1 _)))
 refine wpAny_bind (m:=field (.ref it) 0) (wpAny_field ho hd (x:=.ref t) rfl ?_)
 show wpAny _ _ (if (Value.ref t == Value.none)=true then _ else _) _ _ s;rw[if_neg (show¬((Value.ref t == Value.none)=true) from Bool.false_ne_true)]
 refine wpAny_bind (m:=field (.ref it) 1) (wpAny_field ho hd (x:=.int i 0) rfl ?_)
 refine wpAny_bind (m:=seqItems? (.ref t)) (wpAny_seqItems hol hdl ?_)
 simp only[Int.toNat_natCast,hx]
 refine wpAny_bind (wpAny_setField ho hd (by simp) (wpAny_pure ⟨x,rfl,wpAny_pure (hQ _ ?_ (Heap.SameBut.update ..))⟩))
 exact⟨_,Heap.get?_update_self _ ho (Obj.isFreed_of_fields (Obj.data_mapFields hd _)),(Obj.cls_mapFields ..).trans hc,by rw[Obj.data_mapFields hd];simp[rawInt]⟩

noncomputable abbrev ZipAt (h:Heap)(z TI TO:Addr)(f0 f1:Value):Prop:=h.get? z=some { cls:=.type "zip",dict:=none,data:=.fields #[f0,f1,.bool false,.ref TI,.ref TO],slots:=#[] }
noncomputable abbrev zH1 (h:Heap)(l:Addr):Heap:=h.push { cls:=.type "list_iterator",data:=.fields #[.ref l,.int 0 0] }
noncomputable abbrev zH2 (h:Heap)(l t:Addr):Heap:=(zH1 h l).push { cls:=.type "tuple_iterator",data:=.fields #[.ref t,.int 0 0] }
noncomputable abbrev zH3 (h:Heap)(l t:Addr):Heap:=(zH2 h l t).push { cls:=.type "tuple",data:=.seq #[.ref h.objs.size,.ref (zH1 h l).objs.size] }
noncomputable abbrev zH4 (h:Heap)(l t:Addr):Heap:=(zH3 h l t).push { cls:=.type "tuple",data:=.seq #[.none,.none] }
noncomputable abbrev zH5 (h:Heap)(l t:Addr):Heap:=(zH4 h l t).push { cls:=.type "zip",data:=.fields #[.none,.bool false,.bool false,.ref (zH2 h l t).objs.size,.ref (zH3 h l t).objs.size] }
theorem qZi (l t:Addr)(xs ys:Array Value):
  Meets (Builtin.«zip.__new__» ⟨[.type "zip",.ref l,.ref t],[]⟩) (fun _ R s=>s.heap.IsList l xs∧s.heap.IsTuple t ys∧R (.ok (.ret (.ref (zH4 s.heap l t).objs.size))) { s with heap:=zH5 s.heap l t }):=
 .of_wp fun prog w A R s h=>by
  obtain⟨hp,g,d,tk,os⟩:=s;obtain⟨hl,ht,h⟩:=h
  have hsub:=sub_zip
  have hL1:Heap.IsList (Shared.heap ⟨hp,g,d,tk,os⟩) l xs:=hl
  have hL2:Heap.IsTuple (Shared.heap ⟨hp.push { cls:=.type "list_iterator",data:=.fields #[.ref l,.int 0 0] },g,d,tk,os⟩) t ys:=by
   obtain⟨o,ho,r⟩:=ht
   exact⟨o,Heap.get?_push_of_some _ ho,r⟩
  wp_walk using wpAny_pyIter_list hL1,wpAny_pyIter_tuple hL2
  exact⟨_,rfl,h⟩
structure ZipSt (h:Heap)(z TI TO i1 i2 l t:Addr)(k:Nat):Prop where
 zip:ZipAt h z TI TO .none (.bool false)∨∃(T:Addr) (f:Bool),ZipAt h z TI TO (rawInt T) (.bool f)∧(∃o,h.get? T=some o)∧T≠z∧T≠TO∧T≠i1∧T≠i2
 its:IsPair h TI (.ref i1) (.ref i2)
 own:∃a b,IsPair h TO a b
 one:h.IsListIter i1 l k
 two:h.IsTupleIter i2 t k
structure ZApart (z TI TO i1 i2:Addr):Prop where
 TIz:TI≠z
 TOz:TO≠z
 i1z:i1≠z
 i2z:i2≠z
 TITO:TI≠TO
 TIi1:TI≠i1
 TIi2:TI≠i2
 TOi1:TO≠i1
 TOi2:TO≠i2
 i12:i1≠i2
theorem qYa {l t:Addr}{xs ys:Array Value}{Q:Value→Shared→Prop}(hl:s.heap.IsList l xs)(ht:s.heap.IsTuple t ys)
  (h:∀h' z TI TO i1 i2,ZApart z TI TO i1 i2→ZipSt h' z TI TO i1 i2 l t 0→s.heap.objs.size≤z→s.heap.objs.size≤TI→s.heap.objs.size≤TO→s.heap.objs.size≤i1→s.heap.objs.size≤i2→
   (∀c o,s.heap.get? c=some o→h'.get? c=some o)→Q (.ref z) { s with heap:=h' }):
  wpAny (model prog w) A (call (.type "zip") [.ref l,.ref t]) Q E s:=by
 refine callType_new F.called_zip (by decide) (F.typeCall_zip_2 _ _) (F.newCall_zip_2 _ _) (fun obj=>F.args_object_init_3 obj _ _) F.entry_zip_new (qZi l t xs ys) ⟨hl,ht,?_⟩
 have z1:(zH1 s.heap l).objs.size=s.heap.objs.size+1:=Heap.size_push ..
 have z2:(zH2 s.heap l t).objs.size=s.heap.objs.size+2:=by rw[Heap.size_push,z1]
 have z3:(zH3 s.heap l t).objs.size=s.heap.objs.size+3:=by rw[Heap.size_push,z2]
 have z4:(zH4 s.heap l t).objs.size=s.heap.objs.size+4:=by rw[Heap.size_push,z3]
 have g5:(zH5 s.heap l t).get? (zH4 s.heap l t).objs.size=some _:=Heap.get?_push_size _ rfl
 have g4:(zH5 s.heap l t).get? (zH3 s.heap l t).objs.size=some _:=Heap.get?_push_of_some _ (Heap.get?_push_size _ rfl)
 have g3:(zH5 s.heap l t).get? (zH2 s.heap l t).objs.size=some _:=Heap.get?_push_of_some _ (Heap.get?_push_of_some _ (Heap.get?_push_size _ rfl))
 have g2:(zH5 s.heap l t).get? (zH1 s.heap l).objs.size=some _:=Heap.get?_push_of_some _ (Heap.get?_push_of_some _ (Heap.get?_push_of_some _ (Heap.get?_push_size _ rfl)))
 have g1:(zH5 s.heap l t).get? s.heap.objs.size=some _:=Heap.get?_push_of_some _ (Heap.get?_push_of_some _ (Heap.get?_push_of_some _ (Heap.get?_push_of_some _ (Heap.get?_push_size _ rfl))))
 refine⟨⟨_,g5,rfl⟩,h _ _ (zH2 s.heap l t).objs.size (zH3 s.heap l t).objs.size s.heap.objs.size (zH1 s.heap l).objs.size ?_ ⟨.inl g5,g3,⟨_,_,g4⟩,⟨_,g1,rfl,rfl⟩,⟨_,g2,rfl,rfl⟩⟩ (by omega) (by omega) (by omega) (Nat.le_refl _) (by omega) ?_⟩
 ·constructor <;> (intro e;have e':@Eq Nat _ _:=e;omega)
 ·exact fun c o e=>Heap.get?_push_of_some _ (Heap.get?_push_of_some _ (Heap.get?_push_of_some _ (Heap.get?_push_of_some _ (Heap.get?_push_of_some _ e))))
end
end PySem

namespace PySem
section
variable {prog:Program}{w:World}{A:Around}{E:Value→Shared→Prop}{s:Shared}
theorem qQi {z TI TO i1 i2 l t:Addr}{k:Nat}{xs ys:Array Value}{x y:Value}{Q:Value→Shared→Prop}(D:ZApart z TI TO i1 i2)(S:ZipSt s.heap z TI TO i1 i2 l t k)
  (hl:s.heap.IsList l xs) (ht:s.heap.IsTuple t ys) (nl:l≠z∧l≠TO∧l≠i1∧l≠i2) (nt:t≠z∧t≠TO∧t≠i1∧t≠i2) (hx:xs[k]? = some x) (hy:ys[k]? = some y)
  (hQ:∀h' T,ZipSt h' z TI TO i1 i2 l t (k+1)→IsPair h' T x y→(∀c o,c≠z→c≠TO→c≠i1→c≠i2→s.heap.get? c=some o→h'.get? c=some o)→Q (.ref T) { s with heap:=h' }):
  wpAny (model prog w) A (Builtin.«zip.__next__» ⟨[.ref z],[]⟩) (fun fin s'=>∃v,fin=.done (.ret v)∧Q v s') E s:=by
 obtain⟨hz,hTI,⟨a,b,hTO⟩,h1,h2⟩:=S
 rcases hz with hz | ⟨T,f,hz,⟨oT,hT⟩,n1,n2,n3,n4⟩
 ·refine wpAny_bind (m:=field (.ref z) 2) (wpAny_field hz rfl (x:=.bool false) rfl ?_)
  refine wpAny_bind (m:=field (.ref z) 3) (wpAny_field hz rfl (x:=.ref TI) rfl ?_)
  refine wpAny_bind (wpAny_seqItems hTI rfl ?_)
  refine wpAny_bind (m:=Builtin.SmallTypes.ownedTupleIsFree (.ref z)) ?_
  unfold Builtin.SmallTypes.ownedTupleIsFree
  refine wpAny_bind (wpAny_field hz rfl (x:=.none) rfl (wpAny_pure ?_))
  simp only[if_true]
  refine wpAny_bind (wpAny_rule (wpAny_bind (wpAny_field hz rfl (x:=.ref TO) rfl (wpAny_bind (wpAny_setField_rec hz (by simp) fun h₁ hz₁ hs₁=>?_)))))
  replace hz₁:ZipAt h₁ z TI TO .ellipsis (.bool false):=hz₁
  refine wpAny_bind ?_
  simp only[List.zipIdx_cons,List.zipIdx_nil,List.forIn_cons,List.forIn_nil]
  refine wpAny_bind (wpAny_bind (wpAny_onRaise ?_))
  refine wpAny_bind (m:=Builtin.SmallTypes.nextOf (.ref i1)) (wpAny_nextOf_list_item (h1.extBut hs₁.extBut D.i1z) (hl.extBut hs₁.extBut nl.1) hx fun h₂ h1₂ hs₂=>wpAny_pure ?_)
  have hTO₂:IsPair h₂ TO a b:=hs₂.extBut _ _ D.TOi1 (hs₁.extBut _ _ D.TOz hTO)
  refine wpAny_bind (wpAny_seqItems hTO₂ rfl (wpAny_bind (wpAny_updateSeq_pair hTO₂ fun h₃ hTO₃ hs₃=>?_)))
  replace hTO₃:IsPair h₃ TO x b:=hTO₃
  refine wpAny_bind (wpAny_letGo (wpAny_pure ?_))
  refine wpAny_bind (wpAny_bind (wpAny_onRaise ?_))
  have ht₃:h₃.IsTuple t ys:=by
   obtain⟨o,ho,r⟩:=ht
   exact⟨o,hs₃.extBut _ _ nt.2.1 (hs₂.extBut _ _ nt.2.2.1 (hs₁.extBut _ _ nt.1 ho)),r⟩
  have h2₃:h₃.IsTupleIter i2 t k:=h2.at fun o e=>hs₃.extBut _ _ (Ne.symm D.TOi2) (hs₂.extBut _ _ (Ne.symm D.i12) (hs₁.extBut _ _ D.i2z e))
  refine wpAny_bind (m:=Builtin.SmallTypes.nextOf (.ref i2)) (vJ h2₃ ht₃ hy fun h₄ h2₄ hs₄=>wpAny_pure ?_)
  have hTO₄:IsPair h₄ TO x b:=hs₄.extBut _ _ D.TOi2 hTO₃
  refine wpAny_bind (wpAny_seqItems hTO₄ rfl (wpAny_bind (wpAny_updateSeq_pair hTO₄ fun h₅ hTO₅ hs₅=>?_)))
  replace hTO₅:IsPair h₅ TO x y:=hTO₅
  refine wpAny_bind (wpAny_letGo (wpAny_pure (wpAny_pure (wpAny_bind (wpAny_seqItems hTO₅ rfl (wpAny_bind (wpAny_newTuple ?_)))))))
  have hz₅:ZipAt h₅ z TI TO .ellipsis (.bool false):=hs₅.extBut _ _ D.TOz.symm (hs₄.extBut _ _ D.i2z.symm (hs₃.extBut _ _ D.TOz.symm (hs₂.extBut _ _ D.i1z.symm hz₁)))
  have hk₅:∀c o,c≠z→c≠TO→c≠i1→c≠i2→s.heap.get? c=some o→h₅.get? c=some o:=fun c o c1 c2 c3 c4 e=>hs₅.extBut _ _ c2 (hs₄.extBut _ _ c4 (hs₃.extBut _ _ c2 (hs₂.extBut _ _ c3 (hs₁.extBut _ _ c1 e))))
  have h1₅:h₅.IsListIter i1 l (k+1):=h1₂.at fun o e=>hs₅.extBut _ _ (Ne.symm D.TOi1) (hs₄.extBut _ _ D.i12 (hs₃.extBut _ _ (Ne.symm D.TOi1) e))
  have h2₅:h₅.IsTupleIter i2 t (k+1):=h2₄.at fun o e=>hs₅.extBut _ _ (Ne.symm D.TOi2) e
  refine wpAny_bind (m:=Builtin.SmallTypes.ownedTupleHandOut (.ref z) (.ref h₅.objs.size)) ?_
  unfold Builtin.SmallTypes.ownedTupleHandOut
  have hz₆:ZipAt (h₅.push { cls:=.type "tuple",data:=.seq #[x,y] }) z TI TO .ellipsis (.bool false):=Heap.get?_push_of_some _ hz₅
  refine wpAny_bind (wpAny_setField_rec hz₆ (by simp) fun h₇ hz₇ hs₇=>?_)
  replace hz₇:ZipAt h₇ z TI TO (rawInt h₅.objs.size) (.bool false):=hz₇
  refine wpAny_setField_rec hz₇ (by simp) fun h₈ hz₈ hs₈=>?_
  replace hz₈:ZipAt h₈ z TI TO (rawInt h₅.objs.size) (.bool false):=hz₈
  have up:∀c o,c≠z→h₅.get? c=some o→h₈.get? c=some o:=fun c o c1 e=>hs₈.extBut _ _ c1 (hs₇.extBut _ _ c1 (Heap.get?_push_of_some _ e))
  have hzlt:z<h₅.objs.size:=Heap.lt_size hz₅
  have hT₈:IsPair h₈ h₅.objs.size x y:=hs₈.extBut _ _ (Nat.ne_of_gt hzlt) (hs₇.extBut _ _ (Nat.ne_of_gt hzlt) (Heap.get?_push_size _ rfl))
  have lt1:i1<h₅.objs.size:=by obtain⟨_,e,_⟩:=h1₅;exact Heap.lt_size e
  have lt2:i2<h₅.objs.size:=by obtain⟨_,e,_⟩:=h2₅;exact Heap.lt_size e
  refine wpAny_pure ⟨_,rfl,hQ h₈ _ ⟨.inr ⟨_,_,hz₈,⟨_,hT₈⟩,Nat.ne_of_gt hzlt,Nat.ne_of_gt (Heap.lt_size hTO₅),Nat.ne_of_gt lt1,Nat.ne_of_gt lt2⟩,up _ _ D.TIz (hk₅ _ _ D.TIz D.TITO D.TIi1 D.TIi2 hTI),⟨_,_,up _ _ D.TOz hTO₅⟩,h1₅.at fun o e=>up _ o D.i1z e,h2₅.at fun o e=>up _ o D.i2z e⟩ hT₈ fun c o c1 c2 c3 c4 e=>up c o c1 (hk₅ c o c1 c2 c3 c4 e)⟩
 ·refine wpAny_bind (m:=field (.ref z) 2) (wpAny_field hz rfl (x:=.bool false) rfl ?_)
  refine wpAny_bind (m:=field (.ref z) 3) (wpAny_field hz rfl (x:=.ref TI) rfl ?_)
  refine wpAny_bind (wpAny_seqItems hTI rfl ?_)
  refine wpAny_bind (m:=Builtin.SmallTypes.ownedTupleIsFree (.ref z)) ?_
  have step:∀{α:Type} (N:Bool→Sem α) (QQ:α→Shared→Prop),(∀h₁,ZipAt h₁ z TI TO (rawInt T) (.bool true)→Heap.SameBut z s.heap h₁→wpAny (model prog w) A (N false) QQ E { s with heap:=h₁ })→
    wpAny (model prog w) A (Builtin.SmallTypes.ownedTupleIsFree (.ref z)) (fun b s'=>wpAny (model prog w) A (N b) QQ E s') E s:=fun N QQ hN=>by
   unfold Builtin.SmallTypes.ownedTupleIsFree
   refine wpAny_bind (wpAny_field hz rfl (x:=rawInt T) rfl ?_)
   show wpAny _ _ (loadIfAlive ((T:Int).toNat) >>= _) _ _ _
   rw[Int.toNat_natCast]
   refine wpAny_bind (W.kdx_alive hT ?_)
   simp only[Option.isNone_some,Bool.false_eq_true,if_false]
   refine wpAny_bind (wpAny_field hz rfl (x:=.bool f) rfl ?_)
   cases f with
   | true=>rw[if_neg (show¬((Value.bool true != Value.bool true)=true) from Bool.false_ne_true)];exact wpAny_pure (hN _ hz (.refl ..))
   | false=>rw[if_pos (show(Value.bool false != Value.bool true)=true from rfl)];exact wpAny_bind (wpAny_setField_rec hz (by simp) fun h₁ hz₁ hs₁=>wpAny_pure (hN h₁ hz₁ hs₁))
  refine step _ _ fun h₁ hz₁ hs₁=>?_
  simp only[Bool.false_eq_true,if_false]
  refine wpAny_bind ?_
  rw[← Array.forIn_toList]
  simp only[List.forIn_cons,List.forIn_nil]
  refine wpAny_bind (wpAny_bind (wpAny_holding ?_))
  refine wpAny_bind (m:=Builtin.SmallTypes.nextOf (.ref i1)) (wpAny_nextOf_list_item (h1.extBut hs₁.extBut D.i1z) (hl.extBut hs₁.extBut nl.1) hx fun h₂ h1₂ hs₂=>wpAny_pure (wpAny_pure ?_))
  refine wpAny_bind (wpAny_bind (wpAny_holding ?_))
  have ht₂:h₂.IsTuple t ys:=by
   obtain⟨o,ho,r⟩:=ht
   exact⟨o,hs₂.extBut _ _ nt.2.2.1 (hs₁.extBut _ _ nt.1 ho),r⟩
  have h2₂:h₂.IsTupleIter i2 t k:=h2.at fun o e=>hs₂.extBut _ _ (Ne.symm D.i12) (hs₁.extBut _ _ D.i2z e)
  refine wpAny_bind (m:=Builtin.SmallTypes.nextOf (.ref i2)) (vJ h2₂ ht₂ hy fun h₃ h2₃ hs₃=>wpAny_pure (wpAny_pure (wpAny_pure ?_)))
  refine wpAny_bind (wpAny_newTuple ?_ (show 2≤sizeLine by decide))
  have k₃:∀c o,c≠z→c≠i1→c≠i2→s.heap.get? c=some o→h₃.get? c=some o:=fun c o c1 c2 c3 e=>hs₃.extBut _ _ c3 (hs₂.extBut _ _ c2 (hs₁.extBut _ _ c1 e))
  have hz₃:ZipAt h₃ z TI TO (rawInt T) (.bool true):=hs₃.extBut _ _ (Ne.symm D.i2z) (hs₂.extBut _ _ (Ne.symm D.i1z) hz₁)
  refine wpAny_pure ⟨_,rfl,hQ _ _ ⟨.inr ⟨T,true,Heap.get?_push_of_some _ hz₃,⟨_,Heap.get?_push_of_some _ (k₃ _ _ n1 n3 n4 hT)⟩,n1,n2,n3,n4⟩,Heap.get?_push_of_some _ (k₃ _ _ D.TIz D.TIi1 D.TIi2 hTI),⟨_,_,Heap.get?_push_of_some _ (k₃ _ _ D.TOz D.TOi1 D.TOi2 hTO)⟩,h1₂.at fun o e=>Heap.get?_push_of_some _ (hs₃.extBut _ _ D.i12 e),h2₃.at fun o e=>Heap.get?_push_of_some _ e⟩ (Heap.get?_push_size _ rfl) fun c o c1 _ c3 c4 e=>Heap.get?_push_of_some _ (k₃ c o c1 c3 c4 e)⟩
theorem qQh {z TI TO i1 i2 l t:Addr}{k:Nat}{xs:Array Value}{Q:Fin→Shared→Prop}(hh:A.handled=none)(D:ZApart z TI TO i1 i2)(S:ZipSt s.heap z TI TO i1 i2 l t k)
  (hl:s.heap.IsList l xs) (nl:l≠z∧l≠TO∧l≠i1∧l≠i2) (hx:xs[k]? = none)
  (hE:∀h' e,(∀c o,c≠z→c≠TO→c≠i1→c≠i2→s.heap.get? c=some o→h'.get? c=some o)→(∃o,h'.get? e=some o∧o.cls=.type "StopIteration")→E (.ref e) { s with heap:=h' }):
  wpAny (model prog w) A (Builtin.«zip.__next__» ⟨[.ref z],[]⟩) Q E s:=by
 obtain⟨hz,hTI,⟨a,b,hTO⟩,h1,h2⟩:=S
 rcases hz with hz | ⟨T,f,hz,⟨oT,hT⟩,n1,n2,n3,n4⟩
 ·refine wpAny_bind (m:=field (.ref z) 2) (wpAny_field hz rfl (x:=.bool false) rfl ?_)
  refine wpAny_bind (m:=field (.ref z) 3) (wpAny_field hz rfl (x:=.ref TI) rfl ?_)
  refine wpAny_bind (wpAny_seqItems hTI rfl ?_)
  refine wpAny_bind (m:=Builtin.SmallTypes.ownedTupleIsFree (.ref z)) ?_
  unfold Builtin.SmallTypes.ownedTupleIsFree
  refine wpAny_bind (wpAny_field hz rfl (x:=.none) rfl (wpAny_pure ?_))
  simp only[if_true]
  refine wpAny_bind (wpAny_rule (wpAny_bind (wpAny_field hz rfl (x:=.ref TO) rfl (wpAny_bind (wpAny_setField_rec hz (by simp) fun h₁ hz₁ hs₁=>?_)))))
  replace hz₁:ZipAt h₁ z TI TO .ellipsis (.bool false):=hz₁
  refine wpAny_bind ?_
  simp only[List.zipIdx_cons,List.zipIdx_nil,List.forIn_cons,List.forIn_nil]
  refine wpAny_bind (wpAny_bind (wpAny_onRaise ?_))
  refine wpAny_bind (m:=Builtin.SmallTypes.nextOf (.ref i1)) (wpAny_nextOf_list_end hh (h1.extBut hs₁.extBut D.i1z) (hl.extBut hs₁.extBut nl.1) hx fun h₂ e hs₂ he=>?_)
  obtain⟨oe,hoe,hce⟩:=he
  have hz₂:ZipAt h₂ z TI TO .ellipsis (.bool false):=hs₂ _ _ D.i1z.symm hz₁
  have hez:e≠z:=fun x=>by subst x;rw[hz₂] at hoe;cases hoe;simp at hce
  exact wpAny_setField_rec hz₂ (by simp) fun h₃ _ hs₃=>hE h₃ e (fun c o c1 _ c3 _ x=>hs₃.extBut _ _ c1 (hs₂ _ _ c3 (hs₁.extBut _ _ c1 x))) ⟨oe,hs₃.extBut _ _ hez hoe,hce⟩
 ·refine wpAny_bind (m:=field (.ref z) 2) (wpAny_field hz rfl (x:=.bool false) rfl ?_)
  refine wpAny_bind (m:=field (.ref z) 3) (wpAny_field hz rfl (x:=.ref TI) rfl ?_)
  refine wpAny_bind (wpAny_seqItems hTI rfl ?_)
  refine wpAny_bind (m:=Builtin.SmallTypes.ownedTupleIsFree (.ref z)) ?_
  have step:∀{α:Type} (N:Bool→Sem α) (QQ:α→Shared→Prop),(∀h₁,ZipAt h₁ z TI TO (rawInt T) (.bool true)→Heap.SameBut z s.heap h₁→wpAny (model prog w) A (N false) QQ E { s with heap:=h₁ })→
    wpAny (model prog w) A (Builtin.SmallTypes.ownedTupleIsFree (.ref z)) (fun b s'=>wpAny (model prog w) A (N b) QQ E s') E s:=fun N QQ hN=>by
   unfold Builtin.SmallTypes.ownedTupleIsFree
   refine wpAny_bind (wpAny_field hz rfl (x:=rawInt T) rfl ?_)
   show wpAny _ _ (loadIfAlive ((T:Int).toNat) >>= _) _ _ _
   rw[Int.toNat_natCast]
   refine wpAny_bind (W.kdx_alive hT ?_)
   simp only[Option.isNone_some,Bool.false_eq_true,if_false]
   refine wpAny_bind (wpAny_field hz rfl (x:=.bool f) rfl ?_)
   cases f with
   | true=>rw[if_neg (show¬((Value.bool true != Value.bool true)=true) from Bool.false_ne_true)];exact wpAny_pure (hN _ hz (.refl ..))
   | false=>rw[if_pos (show(Value.bool false != Value.bool true)=true from rfl)];exact wpAny_bind (wpAny_setField_rec hz (by simp) fun h₁ hz₁ hs₁=>wpAny_pure (hN h₁ hz₁ hs₁))
  refine step _ _ fun h₁ hz₁ hs₁=>?_
  simp only[Bool.false_eq_true,if_false]
  refine wpAny_bind ?_
  rw[← Array.forIn_toList]
  simp only[List.forIn_cons,List.forIn_nil]
  refine wpAny_bind (wpAny_bind (wpAny_holding ?_))
  refine wpAny_bind (m:=Builtin.SmallTypes.nextOf (.ref i1)) (wpAny_nextOf_list_end hh (h1.extBut hs₁.extBut D.i1z) (hl.extBut hs₁.extBut nl.1) hx fun h₂ e hs₂ he=>hE h₂ e (fun c o c1 _ c3 _ x=>hs₂ _ _ c3 (hs₁.extBut _ _ c1 x)) he)
theorem qVc {z TI TO i1 i2 l t:Addr}{k:Nat}{xs ys:Array Value}{x y:Value}{Q:Option Value→Shared→Prop}(D:ZApart z TI TO i1 i2)(S:ZipSt s.heap z TI TO i1 i2 l t k)
  (hl:s.heap.IsList l xs) (ht:s.heap.IsTuple t ys) (nl:l≠z∧l≠TO∧l≠i1∧l≠i2) (nt:t≠z∧t≠TO∧t≠i1∧t≠i2) (hx:xs[k]? = some x) (hy:ys[k]? = some y)
  (hQ:∀h' T,ZipSt h' z TI TO i1 i2 l t (k+1)→IsPair h' T x y→(∀c o,c≠z→c≠TO→c≠i1→c≠i2→s.heap.get? c=some o→h'.get? c=some o)→Q (some (.ref T)) { s with heap:=h' }):
  wpAny (model prog w) A (pyNext (.ref z)) Q E s:=by
 have hT:s.TypeIs (.ref z) "zip" := by
  rcases S.zip with h | ⟨_,_,h,_⟩ <;> exact⟨_,h,rfl⟩
 unfold pyNext
 exact wpAny_bind (wpAny_attempt (wpAny_callSpecial?_slot (name:=Str.ofString "__next__") hT F.slot_zip_next (wpAny_call_entry F.slot_zip_next hT F.entry_zip_next
   (qQi D S hl ht nl nt hx hy fun h' T a1 a2 a3=>wpAny_pure (hQ h' T a1 a2 a3)) (F.args_zip_next_1 _))))
theorem vU {z TI TO i1 i2 l t:Addr}{k:Nat}{xs:Array Value}{Q:Option Value→Shared→Prop}(hh:A.handled=none)(D:ZApart z TI TO i1 i2)(S:ZipSt s.heap z TI TO i1 i2 l t k)
  (hl:s.heap.IsList l xs) (nl:l≠z∧l≠TO∧l≠i1∧l≠i2) (hx:xs[k]? = none)
  (hQ:∀h',(∀c o,c≠z→c≠TO→c≠i1→c≠i2→s.heap.get? c=some o→h'.get? c=some o)→Q none { s with heap:=h' }):wpAny (model prog w) A (pyNext (.ref z)) Q E s:=by
 have hT:s.TypeIs (.ref z) "zip" := by
  rcases S.zip with h | ⟨_,_,h,_⟩ <;> exact⟨_,h,rfl⟩
 unfold pyNext
 refine wpAny_bind (wpAny_attempt (wpAny_callSpecial?_slot (name:=Str.ofString "__next__") hT F.slot_zip_next (wpAny_call_entry F.slot_zip_next hT F.entry_zip_next (qQh hh D S hl nl hx fun h' e hk he=>?_) (F.args_zip_next_1 _))))
 obtain⟨o,ho,hc⟩:=he
 exact wpAny_bind (wpAny_isInstance (T := "StopIteration") (b:=true) ⟨o,ho,hc⟩ isSubtype_stop (wpAny_pure (hQ _ hk)))
theorem qVd {z TI TO i1 i2 l t:Addr}{k:Nat}{Q:Value→Shared→Prop}(S:ZipSt s.heap z TI TO i1 i2 l t k)(h:Q (.ref z) s):wpAny (model prog w) A (pyIter (.ref z)) Q E s:=by
 have hT:s.TypeIs (.ref z) "zip" := by
  rcases S.zip with h | ⟨_,_,h,_⟩ <;> exact⟨_,h,rfl⟩
 exact wpAny_pyIter_slot hT F.slot_zip_iter (wpAny_call_entry F.slot_zip_iter hT F.entry_zip_iter (wpAny_pure ⟨_,rfl,"zip",_,hT,F.slot_zip_next.lookup,h⟩) (F.args_zip_iter_1 _))
end
end PySem

namespace PySem
namespace FD
theorem entry_upd_loop:entryFor table "dict.update.loop" = some Builtin.«dict.update.loop»:=entryFor_of_tree (by kernel_rfl)
theorem plain_upd_loop:plainId "dict.update.loop" = true:=by decide +kernel
end FD
structure PairIt (prog:Program)(w:World)(A:Around)(d it:Addr)(fp:List Addr)(kvs:List (Value×Value))(St:Nat→Heap→Prop):Prop where
 frame:∀i h h',St i h→Heap.SameBut d h h'→(∃o,h'.get? d=some o)→St i h'
 item:∀(i:Nat) (s:Shared) (Q:Option Value→Shared→Prop) (E:Value→Shared→Prop) (k v:Value),kvs[i]? = some (k,v)→St i s.heap→
  (∀T h' tk n,St (i+1) h'→(∃o,h'.get? T=some o∧o.cls=.type "tuple" ∧ o.data=.seq #[k,v] n)→(∀b o,b∉fp→s.heap.get? b=some o→h'.get? b=some o)→Q (some (.ref T)) { s with heap:=h',toks:=tk })→wpAny (model prog w) A (pyNext (.ref it)) Q E s
 done:∀(s:Shared) (Q:Option Value→Shared→Prop) (E:Value→Shared→Prop),St kvs.length s.heap→
  (∀h' tk,(∀b o,b∉fp→s.heap.get? b=some o→h'.get? b=some o)→Q none { s with heap:=h',toks:=tk })→wpAny (model prog w) A (pyNext (.ref it)) Q E s
section
variable {prog:Program}{w:World}{K:Type}[DecidableEq K]{knd:KeyKind prog w K}{A:Around}
noncomputable abbrev Keyed (knd:KeyKind prog w K):List (K×Value)→List (Value×Value)→Prop:=Paired fun p q=>knd.is p.1 q.1=true∧p.2=q.2
theorem qCv {ks:List (K×Value)}{kvs:List (Value×Value)}(h:Keyed knd ks kvs):∀{i:Nat} {p:K×Value},ks[i]? = some p→∃q,kvs[i]? = some q∧knd.is p.1 q.1=true∧p.2=q.2:=by
 induction h with
 | nil=>intro i p e;simp at e
 | cons f _ ih=>
  intro i p e
  cases i with
  | zero=>simp at e;subst e;exact⟨_,rfl,f⟩
  | succ i=>exact ih (i:=i) (by simpa using e)
theorem qQm {d it:Addr}{fp:List Addr}{kvs:List (Value×Value)}{ks:List (K×Value)}{St:Nat→Heap→Prop}(P:PairIt prog w A.in1 d it fp kvs St)(hk:Keyed knd ks kvs)(hd:d∉fp)(hz:ks.length≤1000){R:Result→Shared→Prop}{s₀:Shared}
  (hR:∀h' tk,(∀b o,b∉fp→b≠d→s₀.heap.get? b=some o→h'.get? b=some o)→h'.DictOf knd d (merged [] ks)→R (.ok (.ret .none)) { s₀ with heap:=h',toks:=tk }):
  ∀(m i:Nat) (h:Heap) (tk:Nat),ks.length - i=m→i≤ks.length→St i h→h.DictOf knd d (merged [] (ks.take i))→(∀b o,b∉fp→b≠d→s₀.heap.get? b=some o→h.get? b=some o)→
   codeAny (model prog w) A (.builtin "dict.update.loop" ⟨[.ref d,.ref it,rawInt i,.none],[]⟩) R { s₀ with heap:=h,toks:=tk }:=by
 intro m
 induction m with
 | zero=>
  intro i h tk hm hi st hD keep
  have e:i=ks.length:=by omega
  subst e
  refine codeAny_builtin FD.entry_upd_loop ?_
  rw[Around.under_plainId FD.plain_upd_loop _]
  rw[hk.length] at st
  refine wpAny_bind (m:=pyNext (.ref it)) (P.done { s₀ with heap:=h,toks:=tk } _ _ st fun h' tk' kp=>?_)
  rw[List.take_length] at hD
  refine wpAny_bind (m:=Builtin.Dict.addKeywords d []) (wpAny_pure (wpAny_pure ?_))
  refine hR h' tk' (fun b o b1 b2 e=>kp b o b1 (keep b o b1 b2 e)) ?_
  obtain⟨o,es,ep,ho,r⟩:=hD
  exact⟨o,es,ep,kp _ _ hd ho,r⟩
 | succ m ih=>
  intro i h tk hm hi st hD keep
  have hlt:i<ks.length:=by omega
  obtain⟨p,ep⟩:∃p,ks[i]? = some p:=⟨_,List.getElem?_eq_getElem hlt⟩
  obtain⟨⟨kv,vv⟩,eq,hkey,hval⟩:=qCv hk ep
  have hval:p.2=vv:=hval
  refine codeAny_builtin FD.entry_upd_loop ?_
  rw[Around.under_plainId FD.plain_upd_loop _]
  refine wpAny_bind (m:=pyNext (.ref it)) (P.item i { s₀ with heap:=h,toks:=tk } _ _ kv vv eq st fun T h' tk' n st' hT kp=>?_)
  obtain⟨oT,hT,hTc,hTd⟩:=hT
  have hTy:Shared.TypeIs { s₀ with heap:=h',toks:=tk' } (.ref T) "tuple" := ⟨_,hT,hTc⟩
  have hD':h'.DictOf knd d (merged [] (ks.take i)):=by
   obtain⟨o,es,ep,ho,r⟩:=hD
   exact⟨o,es,ep,kp _ _ hd ho,r⟩
  refine wpAny_bind (wpAny_holding ?_)
  refine wpAny_bind (wpAny_tryCatch ?_)
  unfold Builtin.Dict.pairItems
  refine wpAny_bind (wpAny_typeOf hTy ?_)
  rw[if_pos (by decide)]
  refine wpAny_bind (wpAny_seqItems hT hTd (wpAny_pure ?_))
  refine wpAny_holding (wpAny_dictSet_pairs hkey hD' (fun h'' hD'' sb=>?_) ?_)
  ·refine wpAny_pure ⟨plainId_quiet FD.plain_upd_loop _,?_⟩
   have e1:merged [] (ks.take (i+1))=stored (merged [] (ks.take i)) p.1 p.2:=merged_take_succ [] ks i p ep
   rw[← hval] at hD''
   have:=ih (i+1) h'' (tk'+1) (by omega) hlt (P.frame _ _ _ st' sb (by obtain⟨o,_,_,ho,_⟩:=hD'';exact⟨o,ho⟩)) (by rw[e1];exact hD'') fun b o b1 b2 e=>(sb.2 b b2).trans (kp b o b1 (keep b o b1 b2 e))
   exact this
  ·have:=merged_length_le ([]:List (K×Value)) (ks.take i)
   rw[List.length_take,List.length_nil] at this
   have e:sizeLine=16777216:=by decide
   omega

theorem yJ {E:Value→Shared→Prop}{s:Shared}{a:Addr}{T:String}{Q:Value→Shared→Prop}(hT:s.TypeIs (.ref a) T)(hne:(Value.type T != Value.type "dict")=true)
  (h:∀E':Value→Shared→Prop,wpAny (model prog w) A.in1.in1 (getAttr? (.ref a) "keys") (fun r s2=>r=none∧wpAny (model prog w) A.in1.in1 (pyIter (.ref a)) (fun it s3=>codeAny (model prog w) A.in1 (.builtin "dict.update.loop" ⟨[.ref s.heap.objs.size,it,rawInt 0,.none],[]⟩)
   (wants (fun r s₂=>r=.none∧Q (.ref s.heap.objs.size) s₂) E) s3) E' s2) E' { s with heap:=s.heap.push { cls:=.type "dict",data:=.dict #[] } }):
  wpAny (model prog w) A (call (.type "dict") [.ref a]) Q E s:=by
 refine callType_codes (Q₁:=fun obj s₁=>obj=.ref s.heap.objs.size∧s₁={ s with heap:=s.heap.push { cls:=.type "dict",data:=.dict #[] } }) F.kt_called_dict (F.kt_typeCall_dict_1 _) F.entry_dict_init (kt_code_dict_new _ ⟨rfl,rfl⟩) ?_
 rintro obj s₁ ⟨rfl,rfl⟩
 have gd:(s.heap.push { cls:=.type "dict",data:=.dict #[] }).get? s.heap.objs.size=some { cls:=.type "dict",data:=.dict #[] }:=Heap.get?_push_size _ rfl
 have hnew:Shared.TypeIs { s with heap:=s.heap.push { cls:=.type "dict",data:=.dict #[] } } (.ref s.heap.objs.size) "dict" := ⟨_,gd,rfl⟩
 have hT':Shared.TypeIs { s with heap:=s.heap.push { cls:=.type "dict",data:=.dict #[] } } (.ref a) T:=by
  obtain⟨o,ho,hc⟩:=hT
  exact⟨o,Heap.get?_push_of_some _ ho,hc⟩
 refine⟨hnew,F.args_dict_init_2 _ _,?_⟩
 unfold Builtin.«dict.__init__»
 refine wpAny_bind ?_
 unfold Builtin.Dict.selfAndRest
 refine wpAny_bind (wpAny_notOrdered_dict hnew ?_)
 show wpAny _ _ (pure (s.heap.objs.size,[Value.ref a])) _ _ _
 refine wpAny_pure ?_
 show wpAny _ _ (Builtin.Dict.updateFrom "dict.__init__" s.heap.objs.size (.ref a) [] .none) _ _ _
 unfold Builtin.Dict.updateFrom
 refine wpAny_bind (wpAny_typeOf hT' ?_)
 rw[if_pos hne]
 refine wpAny_bind (wpAny_mono (h _) (fun r s2 hr=>?_) fun _ _ x=>x)
 obtain⟨rfl,hr⟩:=hr
 simp only[Option.isNone_none,if_true]
 refine wpAny_bind (wpAny_rule (wpAny_bind (wpAny_mono hr (fun it s3 hc=>?_) fun _ _ x=>x)))
 exact wpAny_pure ⟨plainId_quiet FD.plain_upd_loop _,hc⟩
end
section
variable {prog:Program}{w:World}{K:Type}[DecidableEq K]{knd:KeyKind prog w K}{A:Around}{E:Value→Shared→Prop}{s:Shared}
theorem kQ (h:Heap):(h.push { cls:=.type "dict",data:=.dict #[] }).DictOf knd h.objs.size []:=Heap.DictOf.new h
theorem qXh {l t:Addr}{xs ys:Array Value}{ks:List (K×Value)}{Q:Value→Shared→Prop}(hh:A.handled=none)(hl:s.heap.IsList l xs)(ht:s.heap.IsTuple t ys)(hsz:xs.size=ys.size)(hk:Keyed knd ks (xs.toList.zip ys.toList))(hz:ks.length≤1000)
  (hQ:∀p h' tk,s.heap.objs.size≤p→(∀b o,s.heap.get? b=some o→h'.get? b=some o)→h'.DictOf knd p (merged [] ks)→Q (.ref p) { s with heap:=h',toks:=tk }):
  wpAny (model prog w) A (call (.type "zip") [.ref l,.ref t]) (fun z s1=>wpAny (model prog w) A (call (.type "dict") [z]) Q E s1) E s:=by
 refine qYa hl ht fun h1 z TI TO i1 i2 D S z1 z2 z3 z4 z5 keep1=>?_
 have hT:Shared.TypeIs { s with heap:=h1 } (.ref z) "zip" := by
  rcases S.zip with h | ⟨_,_,h,_⟩ <;> exact⟨_,h,rfl⟩
 have llt:l<s.heap.objs.size:=by obtain⟨o,e,_⟩:=hl;exact Heap.lt_size e
 have tlt:t<s.heap.objs.size:=by obtain⟨o,e,_⟩:=ht;exact Heap.lt_size e
 have zlt:∀x,x=z∨x=TI∨x=TO∨x=i1∨x=i2→x<h1.objs.size:=fun x hx=>by
  rcases hx with rfl | rfl | rfl | rfl | rfl
  ·rcases S.zip with h | ⟨_,_,h,_⟩ <;> exact Heap.lt_size h
  ·exact Heap.lt_size S.its
  ·obtain⟨_,_,h⟩:=S.own;exact Heap.lt_size h
  ·obtain⟨_,h,_⟩:=S.one;exact Heap.lt_size h
  ·obtain⟨_,h,_⟩:=S.two;exact Heap.lt_size h
 refine yJ hT (by decide) fun E'=>?_
 have S2:ZipSt (h1.push { cls:=.type "dict",data:=.dict #[] }) z TI TO i1 i2 l t 0:=by
  refine⟨?_,Heap.get?_push_of_some _ S.its,?_,S.one.at fun o e=>Heap.get?_push_of_some _ e,S.two.at fun o e=>Heap.get?_push_of_some _ e⟩
  ·rcases S.zip with h | ⟨T,f,h,⟨o,e⟩,r⟩
   ·exact .inl (Heap.get?_push_of_some _ h)
   ·exact .inr ⟨T,f,Heap.get?_push_of_some _ h,⟨o,Heap.get?_push_of_some _ e⟩,r⟩
  ·obtain⟨a,b,e⟩:=S.own
   exact⟨a,b,Heap.get?_push_of_some _ e⟩
 have dz:∀x,x=z∨x=TI∨x=TO∨x=i1∨x=i2→h1.objs.size≠x:=fun x hx=>Nat.ne_of_gt (zlt x hx)
 have old:s.heap.objs.size≤h1.objs.size:=Nat.le_of_lt (Nat.lt_of_le_of_lt z1 (zlt z (.inl rfl)))
 obtain⟨vs,hzip⟩:∃vs,(h1.push { cls:=.type "dict",data:=.dict #[] }).get? z=some { cls:=.type "zip",dict:=none,data:=.fields vs,slots:=#[] }:=by
  rcases S2.zip with h | ⟨_,_,h,_⟩ <;> exact⟨_,h⟩
 refine qXc hzip hh fun h2 tk2 kp2=>⟨rfl,?_⟩
 have S3:ZipSt h2 z TI TO i1 i2 l t 0:=by
  refine⟨?_,kp2 _ _ S2.its,?_,S2.one.at fun o e=>kp2 _ _ e,S2.two.at fun o e=>kp2 _ _ e⟩
  ·rcases S2.zip with h | ⟨T,f,h,⟨o,e⟩,r⟩
   ·exact .inl (kp2 _ _ h)
   ·exact .inr ⟨T,f,kp2 _ _ h,⟨o,kp2 _ _ e⟩,r⟩
  ·obtain⟨a,b,e⟩:=S2.own
   exact⟨a,b,kp2 _ _ e⟩
 refine qVd S3 ?_
 have hlen:(xs.toList.zip ys.toList).length=xs.size:=by rw[List.length_zip];simp[hsz]
 have ndl:l≠z∧l≠TO∧l≠i1∧l≠i2:=⟨Nat.ne_of_lt (Nat.lt_of_lt_of_le llt z1),Nat.ne_of_lt (Nat.lt_of_lt_of_le llt z3),Nat.ne_of_lt (Nat.lt_of_lt_of_le llt z4),Nat.ne_of_lt (Nat.lt_of_lt_of_le llt z5)⟩
 have ndt:t≠z∧t≠TO∧t≠i1∧t≠i2:=⟨Nat.ne_of_lt (Nat.lt_of_lt_of_le tlt z1),Nat.ne_of_lt (Nat.lt_of_lt_of_le tlt z3),Nat.ne_of_lt (Nat.lt_of_lt_of_le tlt z4),Nat.ne_of_lt (Nat.lt_of_lt_of_le tlt z5)⟩
 have nl5:l≠h1.objs.size:=Nat.ne_of_lt (Nat.lt_of_lt_of_le llt old)
 have nt5:t≠h1.objs.size:=Nat.ne_of_lt (Nat.lt_of_lt_of_le tlt old)
 have P:PairIt prog w A.in1.in1 h1.objs.size z [z,TO,i1,i2] (xs.toList.zip ys.toList) (fun i h=>ZipSt h z TI TO i1 i2 l t i∧h.IsList l xs∧h.IsTuple t ys):=
  {frame:=fun i h h' ⟨S,hl,ht⟩ sb ⟨od,hod⟩=>by
    have k:∀b o,b≠h1.objs.size→h.get? b=some o→h'.get? b=some o:=fun b o hb e=>(sb.2 b hb).trans e
    refine⟨⟨?_,k _ _ (dz TI (.inr (.inl rfl))).symm S.its,?_,S.one.at fun o e=>k _ _ (dz i1 (by simp)).symm e,S.two.at fun o e=>k _ _ (dz i2 (by simp)).symm e⟩,?_,?_⟩
    ·rcases S.zip with h | ⟨T,f,h,⟨o,e⟩,r⟩
     ·exact .inl (k _ _ (dz z (.inl rfl)).symm h)
     ·refine .inr ⟨T,f,k _ _ (dz z (.inl rfl)).symm h,?_,r⟩
      by_cases hTd:T=h1.objs.size
      ·exact⟨od,by rw[hTd];exact hod⟩
      ·exact⟨o,k _ _ hTd e⟩
    ·obtain⟨a,b,e⟩:=S.own
     exact⟨a,b,k _ _ (dz TO (by simp)).symm e⟩
    ·obtain⟨o,ho,r⟩:=hl;exact⟨o,k _ _ nl5 ho,r⟩
    ·obtain⟨o,ho,r⟩:=ht;exact⟨o,k _ _ nt5 ho,r⟩
   item:=fun i s Q E k v e ⟨S,hl,ht⟩ hQ=>by
    obtain⟨e1,e2⟩:=List.getElem?_zip_eq_some.mp e
    refine qVc D S hl ht ndl ndt (x:=k) (y:=v) (by simpa using e1) (by simpa using e2) fun h' T S' hT kp=>?_
    refine hQ T h' s.toks 0 ⟨S',?_,?_⟩ ⟨_,hT,rfl,rfl⟩ fun b o hb e=>kp b o (fun z=>hb (by simp[z])) (fun z=>hb (by simp[z])) (fun z=>hb (by simp[z])) (fun z=>hb (by simp[z])) e
    ·obtain⟨o,ho,r⟩:=hl;exact⟨o,kp _ _ ndl.1 ndl.2.1 ndl.2.2.1 ndl.2.2.2 ho,r⟩
    ·obtain⟨o,ho,r⟩:=ht;exact⟨o,kp _ _ ndt.1 ndt.2.1 ndt.2.2.1 ndt.2.2.2 ho,r⟩
   done:=fun s Q E ⟨S,hl,ht⟩ hQ=>by
    refine vU (A:=A.in1.in1) hh D S hl ndl (by rw[hlen];simp) fun h' kp=>?_
    exact hQ h' s.toks fun b o hb e=>kp b o (fun z=>hb (by simp[z])) (fun z=>hb (by simp[z])) (fun z=>hb (by simp[z])) (fun z=>hb (by simp[z])) e }
 have kl:∀b o,s.heap.get? b=some o→h2.get? b=some o:=fun b o e=>kp2 _ _ (Heap.get?_push_of_some _ (keep1 _ _ e))
 have hd0:h2.DictOf knd h1.objs.size (merged [] (ks.take 0)):=by
  obtain⟨o,es,ep,ho,r⟩:=kQ (knd:=knd) h1
  exact⟨o,es,ep,kp2 _ _ ho,r⟩
 refine qQm (A:=A.in1) (s₀:={ s with heap:=h2,toks:=tk2 }) P hk (by simp[dz z,dz TO,dz i1,dz i2]) hz (fun h' tk kp hD=>⟨rfl,?fin⟩) ks.length 0 h2 tk2 (by simp) (Nat.zero_le _) ⟨S3,?sl,?st⟩ hd0 (fun _ _ _ _ e=>e)
 case fin=>
  refine hQ _ h' tk old (fun b o e=>kp b o ?_ ?_ (kl b o e)) hD
  ·have bl:=Heap.lt_size e
   intro hb
   simp only[List.mem_cons,List.not_mem_nil,or_false] at hb
   rcases hb with rfl | rfl | rfl | rfl
   ·exact absurd (Nat.lt_of_lt_of_le bl z1) (Nat.lt_irrefl _)
   ·exact absurd (Nat.lt_of_lt_of_le bl z3) (Nat.lt_irrefl _)
   ·exact absurd (Nat.lt_of_lt_of_le bl z4) (Nat.lt_irrefl _)
   ·exact absurd (Nat.lt_of_lt_of_le bl z5) (Nat.lt_irrefl _)
  ·exact Nat.ne_of_lt (Nat.lt_of_lt_of_le (Heap.lt_size e) old)
 case sl=>obtain⟨o,ho,r⟩:=hl;exact⟨o,kl _ _ ho,r⟩
 case st=>obtain⟨o,ho,r⟩:=ht;exact⟨o,kl _ _ ho,r⟩
theorem qQx {l:Addr}{xs:Array Value}{n:Nat}{kvs:List (Value×Value)}{ks:List (K×Value)}{Q:Value→Shared→Prop}(hh:A.handled=none)(hl:s.heap.get? l=some { cls:=.type "list",data:=.seq xs n })
  (hp:∀(i:Nat) p,kvs[i]? = some p→∃T o m,xs[i]? = some (.ref T)∧s.heap.get? T=some o∧o.cls=.type "tuple" ∧ o.data=.seq #[p.1,p.2] m) (hlen:kvs.length=xs.size) (hk:Keyed knd ks kvs) (hz:ks.length≤1000)
  (hQ:∀p h' tk,s.heap.objs.size≤p→(∀b o,s.heap.get? b=some o→h'.get? b=some o)→h'.DictOf knd p (merged [] ks)→Q (.ref p) { s with heap:=h',toks:=tk }):
  wpAny (model prog w) A (call (.type "dict") [.ref l]) Q E s:=by
 refine yJ (T := "list") ⟨_,hl,rfl⟩ (by decide) fun E'=>?_
 have kd:∀b o,s.heap.get? b=some o→(s.heap.push { cls:=.type "dict",data:=.dict #[] }).get? b=some o:=fun b o e=>Heap.get?_push_of_some _ e
 refine qQq (kd _ _ hl) hh fun h2 tk2 kp2=>⟨rfl,?_⟩
 have kl:∀b o,s.heap.get? b=some o→h2.get? b=some o:=fun b o e=>kp2 _ _ (kd _ _ e)
 have L2:h2.IsList l xs:=⟨_,kl _ _ hl,rfl,n,rfl⟩
 refine wpAny_pyIter_list (s:={ s with heap:=h2,toks:=tk2 }) L2 ?_
 have k3:∀b o,h2.get? b=some o→(h2.push { cls:=.type "list_iterator",data:=.fields #[.ref l,.int 0 0] }).get? b=some o:=fun b o e=>Heap.get?_push_of_some _ e
 have dlt:s.heap.objs.size<h2.objs.size:=Heap.lt_size (kp2 _ _ (Heap.get?_push_size _ rfl))
 have P:PairIt prog w A.in1.in1 s.heap.objs.size h2.objs.size [h2.objs.size] kvs (fun i h=>h.IsListIter h2.objs.size l i∧∀b o,s.heap.get? b=some o→h.get? b=some o):=
  {frame:=fun i h h' ⟨S,kp⟩ sb _=>⟨S.at fun o e=>(sb.2 _ (Nat.ne_of_gt dlt)).trans e,fun b o e=>(sb.2 b (Nat.ne_of_lt (Heap.lt_size e))).trans (kp b o e)⟩
   item:=fun i s' Q E k v e ⟨S,kp⟩ hQ=>by
    obtain⟨T,o,m,ex,ho,hc,hd⟩:=hp i (k,v) e
    refine wpAny_pyNext_list_item S ⟨_,kp _ _ hl,rfl,n,rfl⟩ ex fun h' S' sb=>?_
    have nb:∀b o,s.heap.get? b=some o→b≠h2.objs.size:=fun b o e=>Nat.ne_of_lt (Nat.lt_trans (Heap.lt_size e) dlt)
    exact hQ T h' s'.toks m ⟨S',fun b o e=>(sb.2 b (nb b o e)).trans (kp b o e)⟩ ⟨o,(sb.2 T (nb T o ho)).trans (kp _ _ ho),hc,hd⟩ fun b o hb e=>(sb.2 b (fun z=>hb (by simp[z]))).trans e
   done:=fun s' Q E ⟨S,kp⟩ hQ=>by
    refine wpAny_pyNext_list_end (A:=A.in1.in1) hh S ⟨_,kp _ _ hl,rfl,n,rfl⟩ (by rw[hlen];simp) fun h' eb=>?_
    exact hQ h' s'.toks fun b o hb e=>eb b o (fun z=>hb (by simp[z])) e }
 have hd0:(h2.push { cls:=.type "list_iterator",data:=.fields #[.ref l,.int 0 0] }).DictOf knd s.heap.objs.size (merged [] (ks.take 0)):=by
  obtain⟨o,es,ep,ho,r⟩:=kQ (knd:=knd) s.heap
  exact⟨o,es,ep,k3 _ _ (kp2 _ _ ho),r⟩
 refine qQm (A:=A.in1) (s₀:={ s with heap:=h2.push { cls:=.type "list_iterator",data:=.fields #[.ref l,.int 0 0] },toks:=tk2 }) P hk (by simp;exact Nat.ne_of_lt dlt) hz (fun h' tk kp hD=>⟨rfl,?_⟩) ks.length 0 _ tk2 (by simp) (Nat.zero_le _) ⟨⟨_,Heap.get?_push_size _ rfl,rfl,rfl⟩,fun b o e=>k3 _ _ (kl _ _ e)⟩ hd0 (fun _ _ _ _ e=>e)
 refine hQ _ h' tk (Nat.le_refl _) (fun b o e=>kp b o ?_ (Nat.ne_of_lt (Heap.lt_size e)) (k3 _ _ (kl b o e))) hD
 simp only[List.mem_singleton]
 exact Nat.ne_of_lt (Nat.lt_trans (Heap.lt_size e) dlt)
end
end PySem

namespace L2
open PySem PySem.Spec PyProof.Rows
theorem qRe:bootBuiltins "zip" = some (.type "zip"):=by decide +kernel
noncomputable def zipK (ns:List Str)(xs:List V):List (Key×V):=(ns.zip xs).map fun p=>(Sum.inr p.1,p.2)
noncomputable def pairK (kvs:List (Str×V)):List (Key×V):=kvs.map fun p=>(Sum.inr p.1,p.2)
theorem qXn {P:Program}{w:World}:∀{ns:List Str} {xs:List V} {us vs:List Value},Vals (ns.map V.str) us→Vals xs vs→ns.length=xs.length→∃ks:List (Key×Value),Keyed (xN P w) ks (us.zip vs)∧KV (zipK ns xs) ks∧ks.length=ns.length
 | [],[],_,_,.nil,.nil,_=>⟨[],.nil,.nil,rfl⟩
 | n::ns,x::xs,_,_,.cons r1 t1,.cons (b:=v) r2 t2,hl=>by
  obtain⟨ks,h1,h2,h3⟩:=qXn (P:=P) (w:=w) t1 t2 (by simpa using hl)
  obtain⟨t,rfl⟩:=r1
  exact⟨(Sum.inr n,v)::ks,.cons ⟨jS P w n t,rfl⟩ h1,.cons ⟨rfl,r2⟩ h2,by simp[h3]⟩
 | [],_::_,_,_,_,_,hl=>by simp at hl
 | _::_,[],_,_,_,_,hl=>by simp at hl
section
variable {X:Cx}{pins:List (Addr×Obj)}{σ:St}{H:Hp}{s:Shared}
theorem Inv.newDict {Q:VK}{p:Addr}{h':Heap}{tk:Nat}{kvs:List (Key×V)}{ks:List (Key×Value)}(I:Inv X pins σ H s)(hp:s.heap.objs.size≤p)(keep:∀b o,s.heap.get? b=some o→h'.get? b=some o)
  (rel:KV kvs ks) (hk:ks.length≤1000) (hD:h'.DictOf (xN X.prog X.w) p (merged [] ks)) (q:Q (.ref p) (upd H p (.dK (mergeK [] kvs)))):EP X pins σ Q (.ref p) { s with heap:=h',toks:=tk }:=by
 refine⟨.ref p,upd H p (.dK (mergeK [] kvs)),I.laid (o:=.dK (mergeK [] kvs)) keep hp ⟨?_,?_,merged [] ks,KV.merge rel .nil,hD⟩,rfl,q⟩
 ·have l1:=yQ kvs []
  have l2:=rel.length
  have e:sizeLine=16777216:=by decide
  rw[List.length_nil] at l1
  omega
 ·have:=I.big
  have ne:p≠sysModules:=Nat.ne_of_gt (Nat.lt_of_lt_of_le this hp)
  exact beq_eq_false_iff_ne.mpr ne
noncomputable def qEf (K:PySem.W.Frag)(ta:TA):TE:=fun σ H Q=>ta σ H fun vs H1=>∃l t ns xs,vs=[.ref l,.ref t]∧SqL K H1 l (ns.map V.str)∧SqT K H1 t xs∧ns.length=xs.length∧ns.length≤1000∧
 ∀p,H1 p=none→Q (.ref p) (upd H1 p (.dK (mergeK [] (zipK ns xs))))
theorem qJn {a b:Expr}{ta:TA}{p p2 pos pos2:Pos}(hc:X.calm=true)(hg:Gl X "dict")(hm:X.mg "dict" = none)(hg2:Gl X "zip")(hm2:X.mg "zip" = none)(ha:PA X [a,b] ta)
  (he:starEach [.Call (.Name "zip" p2) [a,b] [] pos2] X.env=[(false,eval (.Call (.Name "zip" p2) [a,b] [] pos2) X.env)]:=by rfl)
  (he2:starEach [a,b] X.env=[(false,eval a X.env),(false,eval b X.env)]:=by rfl) (he3:starEach [b] X.env=[(false,eval b X.env)]:=by rfl):
  PE X (.Call (.Name "dict" p) [.Call (.Name "zip" p2) [a,b] [] pos2] [] pos) (qEf X.K ta):=by
 intro pins s σ H Q I h
 refine Call_ (wC I hg hm wM (PyProof.Rows.callWith_type1 ?_ he rfl))
 rw[he]
 refine Calls.spliced_cons (Call_ (wC I hg2 hm2 qRe (PyProof.Rows.callWith_type1 (thn (ha pos2 pins s σ H _ I h) fun us s1 ⟨vs,H1,I1,r1,q1⟩=>?_) (by rw[he2,he3]) (by rw[he3];rfl))))
 obtain⟨l,t,ns,xs,rfl,hl,ht,hlen,h1000,q⟩:=q1
 obtain⟨u,v,rfl,ru,rv⟩:=vals2 r1
 cases ru;cases rv
 obtain⟨its,r2,p2',_⟩:=I1.list hl
 obtain⟨its2,r3,p3,_⟩:=I1.tuple ht
 obtain⟨ks,k1,k2,k3⟩:=qXn (P:=X.prog) (w:=X.w) r2 r3 hlen
 have e1:=r2.length
 have e2:=r3.length
 rw[List.length_map] at e1
 refine thn (qXh (knd:=xN X.prog X.w) (ks:=ks) (I1.ok.hd hc) p2'.isList (show s1.heap.IsTuple t its2.toArray from p3) (by simp only[List.size_toArray];omega) (by simpa using k1) (by omega) fun p' h' tk hp keep hD=>?_) fun z s2 hz=>Calls.spliced_nil hz
 exact I1.newDict hp keep k2 (by omega) hD (q p' (I1.hok.fresh hp))
noncomputable def PairIn (H:Hp)(kv:Str×V)(u:V):Prop:=∃a,u=.ref a∧H a=some (.tup [.str kv.1,kv.2])
theorem qJo (I:Inv X pins σ H s):∀{kvs:List (Str×V)} {us:List V} {its:List Value},Paired (PairIn H) kvs us→Vals us its→∃(vv:List (Value×Value)) (ks:List (Key×Value)),
  (∀(i:Nat) p,vv[i]? = some p→∃T o m,its[i]? = some (.ref T)∧s.heap.get? T=some o∧o.cls=.type "tuple" ∧ o.data=.seq #[p.1,p.2] m)∧vv.length=its.length∧Keyed (xN X.prog X.w) ks vv∧KV (pairK kvs) ks∧ks.length=kvs.length:=by
 intro kvs us its hp
 induction hp generalizing its with
 | nil=>
  intro hv
  cases hv
  exact⟨[],[],fun i p e=>by simp at e,rfl,.nil,.nil,rfl⟩
 | @cons kv _ _ _ f t ih=>
  intro hv
  cases hv with
  | cons r t2=>
  obtain⟨n,x⟩:=kv
  obtain⟨vv,ks,h1,h2,h3,h4,h5⟩:=ih t2
  obtain⟨a,rfl,ha⟩:=f
  cases r
  obtain⟨z,its,rv,o,ho,hc,m,hd,_⟩:=I.hok a _ ha
  obtain⟨u,v,rfl,ru,rv'⟩:=vals2 rv
  obtain⟨tk,rfl⟩:=ru
  refine⟨(.str n tk,v)::vv,(Sum.inr n,v)::ks,fun i p e=>?_,by simp[h2],.cons ⟨jS _ _ n tk,rfl⟩ h3,.cons ⟨rfl,rv'⟩ h4,by simp[h5]⟩
  cases i with
  | zero=>
   simp at e
   subst e
   exact⟨a,o,m,rfl,ho,hc,hd⟩
  | succ i=>exact h1 i p (by simpa using e)
theorem qJv (hc:X.calm=true):CallR X (.type "dict") (fun vs H Q=>∃l us kvs,vs=[.ref l]∧H l=some (.lst us)∧Paired (PairIn H) kvs us∧kvs.length≤1000∧∀p,H p=none→Q (.ref p) (upd H p (.dK (mergeK [] (pairK kvs))))):=by
 intro pins s σ H vs us Q I r h
 obtain⟨l,xs,kvs,rfl,hl,hp,h1000,q⟩:=h
 obtain⟨u,rfl,ru⟩:=vals1 r
 cases ru
 obtain⟨z,its,n,rv,hlen,e⟩:=I.lstM hl
 obtain⟨vv,ks,k1,k2,k3,k4,k5⟩:=qJo I hp rv
 refine qQx (knd:=xN X.prog X.w) (ks:=ks) (kvs:=vv) (I.ok.hd hc) e (fun i p ep=>?_) (by simp[k2]) k3 (by omega) fun p h' tk hp' keep hD=>I.newDict hp' keep k4 (by omega) hD (q p (I.hok.fresh hp'))
 obtain⟨T,o,m,a1,a2⟩:=k1 i p ep
 exact⟨T,o,m,by simpa using a1,a2⟩
end
end L2

namespace FP
open PySem L2

inductive Th where
 | num (n:Int) | box (x:Str) | nul (k:Str) | un (k:Str) (a:Th) | bin (k:Str) (a b:Th)
namespace Th
noncomputable def Op (k:Str):Prop:=k ≠ "box" ∧ k ≠ "number"
noncomputable def dep:Th→Nat
 | num _=>1
 | box _=>1
 | nul _=>1
 | un _ a=>a.dep+1
 | bin _ a b=>max a.dep b.dep+1
theorem dep_pos:∀t:Th,1≤t.dep
 | num _=>Nat.le_refl _
 | box _=>Nat.le_refl _
 | nul _=>Nat.le_refl _
 | un _ a=>by show 1≤a.dep+1;omega
 | bin _ a b=>by show 1≤max a.dep b.dep+1;omega
noncomputable def At (H:Hp):Th→V→Prop
 | num n,v=>∃a,v=.ref a∧H a=some (.tup [.str "number",.int n])
 | box x,v=>∃a,v=.ref a∧H a=some (.tup [.str "box",.str x])
 | nul k,v=>∃a,v=.ref a∧H a=some (.tup [.str k])
 | un k t,v=>∃a u,v=.ref a∧H a=some (.tup [.str k,u])∧t.At H u
 | bin k t r,v=>∃a u w,v=.ref a∧H a=some (.tup [.str k,u,w])∧t.At H u∧r.At H w
noncomputable def _root_.FP.Tups (H H':Hp):Prop:=∀b xs,H b=some (.tup xs)→H' b=some (.tup xs)
theorem At.mono {H H':Hp}(h:Tups H H'):∀{t:Th} {v:V},t.At H v→t.At H' v
 | num _,_,⟨a,e,q⟩=>⟨a,e,h _ _ q⟩
 | box _,_,⟨a,e,q⟩=>⟨a,e,h _ _ q⟩
 | nul _,_,⟨a,e,q⟩=>⟨a,e,h _ _ q⟩
 | un _ t,_,⟨a,u,e,q,r⟩=>⟨a,u,e,h _ _ q,At.mono h r⟩
 | bin _ t r,_,⟨a,u,w,e,q,r1,r2⟩=>⟨a,u,w,e,h _ _ q,At.mono h r1,At.mono h r2⟩
end Th
theorem qB {H H':Hp}(s:Same H H'):Tups H H':=fun b xs h=>s b _ h
theorem Tups.trans {H H1 H2:Hp}(a:Tups H H1)(b:Tups H1 H2):Tups H H2:=fun c xs h=>b c xs (a c xs h)

theorem small {n:Nat}(h:n≤10000):n<sizeLine:=Nat.lt_of_le_of_lt h (by decide)
theorem qSc:("number" : Str) ≠ "box" := by decide +kernel
theorem xK {a b:Str}(h:a≠b):decide (V.str a=V.str b)=false:=decide_eq_false (by intro z;cases z;exact h rfl)
theorem jM (a:Str):decide (V.str a=V.str a)=true:=decide_eq_true rfl

noncomputable abbrev strsV (ws:List Str):List V:=ws.map V.str
theorem xV (ws:List Str):(strsV ws).length=ws.length:=List.length_map _

theorem qWg (a b:List Str):strsV (a++b)=strsV a++strsV b:=List.map_append
noncomputable abbrev intsV (ns:List Int):List V:=ns.map V.int
theorem qVm (a:List Int)(x:Int):intsV (a++[x])=intsV a++[.int x]:=List.map_append
theorem xP (ws:List Int):(intsV ws).length=ws.length:=List.length_map _

end FP

namespace L2
open PySem PySem.Spec PyProof.Rows

section
variable {X:Cx}{K:PySem.W.Frag}
theorem qS (hK:X.K=K:=by rfl):IxR X (rIxL K):=by subst hK;exact qMl
theorem qR (hK:X.K=K:=by rfl):IxR X (rIxT K):=by subst hK;exact qRx
theorem qKz (hK:X.K=K:=by rfl):SlR X (rSlL K):=by subst hK;exact qIh
noncomputable def rLen (K:PySem.W.Frag):List V→Hp→VK→Prop:=fun xs H Q=>∃p ys,xs=[.ref p]∧(SqL K H p ys∨SqT K H p ys)∧Q (.int ys.length) H
theorem zX (hK:X.K=K:=by rfl):CallR X (.builtin "len") (rLen K):=by subst hK;exact qJk
noncomputable def qIl (K:PySem.W.Frag):List V→Hp→VK→Prop:=fun xs H Q=>∃p ys,xs=[.ref p]∧(SqL K H p ys∨SqT K H p ys)∧∀l,H l=none→Q (.ref l) (upd H l (.lst ys))
theorem qWj (hK:X.K=K:=by rfl):CallR X (.type "list") (qIl K):=by subst hK;exact qJj
noncomputable def rTupOf (K:PySem.W.Frag):List V→Hp→VK→Prop:=fun xs H Q=>∃p ys,xs=[.ref p]∧SqL K H p ys∧∀l,H l=none→Q (.ref l) (upd H l (.tup ys))
theorem yZ (hK:X.K=K:=by rfl):CallR X (.type "tuple") (rTupOf K):=by
 subst hK
 intro pins s σ H xs us Q I r h
 obtain⟨p,ys,e,hs,q⟩:=h
 exact qXg pins s σ H xs us Q I r ⟨p,ys,e,.inl ⟨hs,q⟩⟩
noncomputable def rIsIn (K:PySem.W.Frag):List V→Hp→VK→Prop:=fun xs H Q=>∃x T t b,xs=[x,.ty T]∧TyOf K H x t∧PySem.W.kitOne K t (.type T)=some b∧Q (.bl b) H
theorem vK (hK:X.K=K:=by rfl):CallR X (.builtin "isinstance") (rIsIn K):=by subst hK;exact qYb
theorem qPd (hK:X.K=K:=by rfl):OpR X (compareOp .In) (rIn K false):=by subst hK;exact qBf
theorem qMc (hu:X.A.units+64<cLine)(hK:X.K=K:=by rfl):OpR X (compareOp .NotEq) (rEqL K false):=by subst hK;exact qPa hu
noncomputable def rEqT (K:PySem.W.Frag):R2:=fun x y H Q=>∃n a b xs ys,n≤60∧x=.ref a∧y=.ref b∧SqT K H a xs∧SqT K H b ys∧xs.length=ys.length∧(∀(j:Nat) x y,xs[j]? = some x→ys[j]? = some y→DEq K H n x y)∧Q (.bl true) H
theorem qMe (hu:X.A.units+64<cLine)(hK:X.K=K:=by rfl):OpR X (compareOp .Eq) (rEqT K):=by subst hK;exact qPf hu
variable {tg l o e:Expr}{es:List Expr}{tl to:TE}{t:TA}{name:Str}{pos apos cpos:Pos}{T id:String}{r:V→List V→Hp→VK→Prop}
theorem qT (hl:PE X l tl)(hK:X.K=K:=by rfl):PI X tg l (iList K tl):=by subst hK;exact qBk hl
theorem qMj (hl:PE X l tl)(hK:X.K=K:=by rfl):PI X tg l (iTup K tl):=by subst hK;exact qPx hl
theorem kT {es:List Expr}{k:Nat}{t:TGs}{n:Nat}(hc:X.calm=true)(h:PGs X es t)
  (hn:(assignEach es X.env).length=n:=by rfl) (hst:(assignEach es X.env).findIdx? (·.1)=none:=by rfl) (hK:X.K=K:=by rfl):PG X (.Tuple es k pos) (gTup K n t):=by subst hK;exact qHh hc h hn hst
theorem yP (pa:PlainAttrs T)(slot:Slot T name id)(hty:typeOf (.builtin id)=pure (.type "method_descriptor"))(hm:MtR X id r)(ho:PE X o to)(ha:PA X (e::es) t)
  (hbase:attributeBase o name X.env (eval o X.env)=eval o X.env:=by rfl)
  (hfew:((backTo cpos (starEach (e::es) X.env)).all (fun x=>!x.1) && (backToKw cpos (keywordEach [] X.env)).all (fun x=>x.1.isSome)
   && decide ((e::es).length+([]:List Keyword).length+(if ([]:List Keyword).isEmpty then 0 else 1)<30))=true:=by rfl)
  (hline:(apos.endLine == cpos.line)=true:=by rfl) (hs:starEach (e::es) X.env=(false,eval e X.env)::starEach es X.env:=by rfl) (hplain:(backTo cpos (starEach es X.env)).any (·.1)=false:=by rfl) (hK:X.K=K:=by rfl):
  PE X (.Call (.Attribute o name apos) (e::es) [] cpos) (tBM K T r to t):=by
 subst hK;exact qSk pa slot hty hm ho ha hbase hfew hline hs hplain
end

structure Dn (P:Program)(w:World)(K:PySem.W.Frag)(mg:Str→Option Value)(base:Heap)(x:Str)(k:Nat)(ps:List Str)(sp:Sp):Prop where
 ex:∃f fd,FnOk P w K mg base CX0 k f fd ps sp∧mg x=some (.ref f)∧PySem.W.keepIn K (.ref f)=true∧Binds K fd ps []
section
variable {P:Program}{w:World}{K:PySem.W.Frag}{mg:Str→Option Value}{base:Heap}{x:Str}{j k:Nat}{ps:List Str}{sp sp':Sp}
end
section
variable {X:Cx}{P:Program}{w:World}{K:PySem.W.Frag}{mg:Str→Option Value}{base:Heap}{j k:Nat}{ps:List Str}{sp:Sp}{x:Str}{p pos:Pos}{e:Expr}{es:List Expr}{t:TA}
theorem qC (D:Dn P w K mg base x j ps sp)(hr:Room k X.A)(ha:PA X (e::es) t)(hjk:j≤k:=by first | decide | omega)(hg:Gl X x:=by rfl)
  (h1:X.prog=P:=by rfl) (h2:X.w=w:=by rfl) (h3:X.K=K:=by rfl) (h4:X.mg=mg:=by rfl) (h5:X.base=base:=by rfl)
  (hdb:(x == ("__debug__" : Str))=false:=by decide) (he:starEach (e::es) X.env=(false,eval e X.env)::starEach es X.env:=by rfl) (hpl:(backTo pos (starEach es X.env)).any (·.1)=false:=by rfl):
  PE X (.Call (.Name x p) (e::es) [] pos) (tCall sp [] E0 t):=by
 subst h1 h2 h3 h4 h5
 obtain⟨f,fd,F,a,b,c⟩:=D.ex
 exact wZ (F.mono hjk) hr hg a b c .nil pass0 ha hdb he hpl
end

noncomputable def kidsE:Expr→List Expr
 | .BoolOp _ vs _=>vs
 | .BinOp l _ r _=>[l,r]
 | .UnaryOp _ a _=>[a]
 | .IfExp a b c _=>[a,b,c]
 | .ListComp e gs _ _=>e::gs.flatMap fun g=>g.iter::g.ifs
 | .Compare l _ cs _=>l::cs
 | .Call f as _ _=>f::as
 | .Attribute v _ _=>[v]
 | .Subscript a b _=>[a,b]
 | .List es _=>es
 | .Tuple es _ _=>es
 | .Slice a b c _=>a.toList++b.toList++c.toList
 | _=>[]
noncomputable def downE (e:Expr):List Nat→Expr
 | []=>e
 | i::p=>downE ((kidsE e).getD i (.Constant .none 0 ⟨0,0,0,0⟩)) p
noncomputable def exprS:Stmt→Expr
 | .Assign _ v _=>v
 | .Return (some v) _=>v
 | .Expr v _=>v
 | .If t _ _ _=>t
 | .While t _ _ _=>t
 | .For _ it _ _ _=>it
 | _=>.Constant .none 0 ⟨0,0,0,0⟩
noncomputable def blockS:Stmt→List Stmt
 | .If _ a b _=>a++b
 | .For _ _ b _ _=>b
 | .While _ b _ _=>b
 | _=>[]
noncomputable def stmtAt (body:List Stmt):List Nat→Stmt
 | []=>.Pass ⟨0,0,0,0⟩
 | [i]=>body.getD i (.Pass ⟨0,0,0,0⟩)
 | i::j::p=>stmtAt (blockS (body.getD i (.Pass ⟨0,0,0,0⟩))) (j::p)
noncomputable abbrev scAt (body:List Stmt)(p q:List Nat):Scope:=qAw (downE (exprS (stmtAt body p)) q)
section
variable {σ:St}{H:Hp}{Q:VK}{R:Bool→Hp→Prop}{S:St→Hp→Prop}{L:List V→Hp→Prop}{O:Option Int→Hp→Prop}{D:Ends}{ta tb tc:TE}{t u:TT}{a b:TS}{x y v:V}{i j:Int}{c:Bool}{K:PySem.W.Frag}
theorem w_var {k:Nat}(h:σ[k]? = some (some v))(q:Q v H):tVar k σ H Q:=⟨v,h,q⟩
theorem w_c (q:Q v H):tC v σ H Q:=q
theorem w_op {r:R2}(q:ta σ H fun x H1=>tb σ H1 fun y H2=>r x y H2 Q):tOp r ta tb σ H Q:=q
theorem w_I0 {g:Int→Int→V}(q:Q (g i j) H):rI0 g (.int i) (.int j) H Q:=⟨i,j,rfl,rfl,q⟩
theorem w_I {C:Int→Int→Prop}{g:Int→Int→V}(h:C i j)(q:Q (g i j) H):rI C g (.int i) (.int j) H Q:=⟨i,j,rfl,rfl,h,q⟩
theorem w_eq (h:scal x y=true)(q:Q (.bl (decide (x=y))) H):rEq x y H Q:=⟨h,q⟩
theorem w_ne (h:scal x y=true)(q:Q (.bl (!decide (x=y))) H):rNe x y H Q:=⟨h,q⟩
theorem qIa {p:Addr}{xs:List V}(h:SqL K H p xs)(e:atI xs i=some v)(q:Q v H):rIxL K (.ref p) (.int i) H Q:=⟨p,xs,i,v,rfl,rfl,h,e,q⟩
theorem qRn {p:Addr}{xs:List V}(h:SqT K H p xs)(e:atI xs i=some v)(q:Q v H):rIxT K (.ref p) (.int i) H Q:=⟨p,xs,i,v,rfl,rfl,h,e,q⟩
theorem qOq (q:ta σ H fun x H'=>∃k,x=.bl k∧R k H'):tTest ta σ H R:=q
theorem w_B (q:ta σ H fun x H'=>∃k,x=.bl k∧R k H'):tB ta σ H R:=q
theorem w_bl {F:Bool→Prop}(q:F c):∃k,V.bl c=.bl k∧F k:=⟨c,rfl,q⟩
theorem w_not (q:t σ H fun c H1=>R (!c) H1):tNot t σ H R:=q
theorem w_and (q:t σ H fun c H1=>if c=true then u σ H1 R else R false H1):tAnd t u σ H R:=q
theorem w_or (q:t σ H fun c H1=>if c=true then R true H1 else u σ H1 R):tOr t u σ H R:=q
theorem qOl (q:ta σ H fun x H1=>∃c,x=.bl c∧if c=true then tb σ H1 Q else Q (.bl false) H1):tAndV ta tb σ H Q:=q
theorem qOk (q:ta σ H fun x H1=>∃c,x=.bl c∧Q (.bl (!c)) H1):tNotV ta σ H Q:=q
theorem w_if (q:t σ H fun c H1=>if c=true then ta σ H1 Q else tb σ H1 Q):tIf t ta tb σ H Q:=q
theorem qOv (q:D.nx σ H):tNext D σ H:=q
theorem qRh (q:a { D with nx:=b D } σ H):tSeq a b D σ H:=q
theorem qOd (q:ta σ H fun _ H1=>D.nx σ H1):tDrop ta D σ H:=q
theorem qRi (q:ta σ H D.rt):tRet ta D σ H:=q
theorem qRo (q:t σ H fun c H1=>if c=true then a D σ H1 else b D σ H1):tIfS t a b D σ H:=q
theorem qSz {g:TG}(q:ta σ H fun x H1=>g x σ H1 D.nx):tAsg ta g D σ H:=q
theorem qOw {k:Nat}(q:S (σ.set k (some v)) H):gName k v σ H S:=q
theorem qOc (q:S σ H):gNil [] σ H S:=⟨rfl,q⟩
theorem qIc {g:TG}{gs:TGs}{vs:List V}(q:g v σ H fun σ' H'=>gs vs σ' H' S):gCons g gs (v::vs) σ H S:=⟨v,vs,rfl,q⟩
theorem qOb {n:Nat}{gs:TGs}{p:Addr}{xs:List V}(h:SqT K H p xs)(e:xs.length=n)(q:gs xs σ H S):gTup K n gs (.ref p) σ H S:=⟨p,xs,rfl,h,e,q⟩
theorem qRl (q:L [] H):tNil σ H L:=q
theorem qOg {ts:TA}(q:ta σ H fun x H1=>ts σ H1 fun xs H2=>L (x::xs) H2):tCons ta ts σ H L:=q
theorem qRg {ts:TA}(q:ts σ H fun xs H1=>xs.length≤sizeLine∧∀p,H1 p=none→Q (.ref p) (upd H1 p (.tup xs))):tTup ts σ H Q:=q
theorem qRm {ts:TA}(q:ts σ H fun xs H1=>xs.length≤sizeLine∧∀p,H1 p=none→Q (.ref p) (upd H1 p (.lst xs))):tLst ts σ H Q:=q
theorem qOi {sp:Sp}{dvs:List V}{E:XK}{ts:TA}(q:ts σ H fun vs H1=>sp (vs++dvs) H1 Q E):tCall sp dvs E ts σ H Q:=q
theorem w_cb {r:List V→Hp→VK→Prop}{ts:TA}(q:ts σ H fun vs H1=>r vs H1 Q):tCB r ts σ H Q:=q
theorem w_bm {T:String}{r:V→List V→Hp→VK→Prop}{ts:TA}(q:ta σ H fun x H1=>tyV K T x H1∧ts σ H1 fun xs H2=>r x xs H2 Q):tBM K T r ta ts σ H Q:=q
theorem wR {p:Addr}{xs:List V}{A:Prop}(h:SqL K H p xs)(q:A):tyV K "list" (.ref p) H∧A:=⟨.inl ⟨rfl,xs,h⟩,q⟩
theorem qEd (q:O none H):qWe σ H O:=q
theorem qOj (q:ta σ H fun x H1=>∃i,x=.int i∧O (some i) H1):tPart ta σ H O:=q
theorem qSx {F:Int→Prop}(q:F i):∃k,V.int i=.int k∧F k:=⟨i,rfl,q⟩
theorem w_sl {r:V→Option Int→Option Int→Hp→VK→Prop}{tl th:TO}(q:ta σ H fun x H1=>tl σ H1 fun l H2=>th σ H2 fun u H3=>r x l u H3 Q):tSl r ta tl th σ H Q:=q
theorem w_len {p:Addr}{xs:List V}(h:SqL K H p xs∨SqT K H p xs)(q:Q (.int xs.length) H):rLen K [.ref p] H Q:=⟨p,xs,rfl,h,q⟩
theorem qOf {td ty:TE}(q:td σ H fun x H1=>ty σ H1 fun y H2=>∃a v,x=.ref a∧DGet H2 a y (some v)∧Q v H2):tDGet td ty σ H Q:=q
theorem qOe {td ty tv:TE}(q:tv σ H fun v H1=>td σ H1 fun x H2=>ty σ H2 fun y H3=>∃a H4,x=.ref a∧DPut H3 a y v H4∧D.nx σ H4):sDPut td ty tv D σ H:=q
theorem zT {p:Addr}{xs:List V}(h:H p=some (.lst xs))(e:xs.length<sizeLine)(q:Q .non (upd H p (.lst (xs++[y])))):qAf (.ref p) [y] H Q:=⟨p,xs,y,rfl,rfl,h,e,q⟩
theorem qIb {W:It→Hp→Prop}(q:ta σ H fun x H1=>∃a,x=.ref a∧(∃xs,SqL K H1 a xs)∧W (Itl K a) H1):iList K ta σ H W:=q
theorem qOa {W:It→Hp→Prop}(q:ta σ H fun x H1=>∃a,x=.ref a∧(∃xs,SqT K H1 a xs)∧W (Itt K a) H1):iTup K ta σ H W:=q
theorem qOz {W:It→Hp→Prop}{ts:TA}(q:ts σ H fun vs H1=>∃j:Int,vs=[.int j]∧-(2 ^ 62)≤j∧j<2 ^ 62∧W (Itr 0 j.toNat) H1):iRng1 ts σ H W:=q
theorem qQj {A B:Prop}(h:c=true)(q:A):if c=true then A else B:=by rw[if_pos h];exact q
theorem yS {A B:Prop}(h:c=false)(q:B):if c=true then A else B:=by rw[h];exact iteF q
noncomputable def forK (g:TG)(tb:TS)(D:Ends)(σ:St):It→Hp→Prop:=fun J H1=>∃W:Nat→Nat→St→Hp→Prop,(∃m,W 0 m σ H1)∧∀i m σ H,W i m σ H→
 (J.stop i H∧D.nx σ H)∨(J.go i H∧∃N:St→Hp→Prop,(∀σ' H',N σ' H'→∃m',m'<m∧W (i+1) m' σ' H')∧∀x H',J.yld i H x H'→g x σ H' fun σ2 H2=>tb { D with nx:=N,ct:=N,bk:=D.nx } σ2 H2)
theorem qSq {wi:TI}{g:TG}(q:wi σ H (forK g a D σ)):tFor wi g a D σ H:=q
theorem qOh {k:Nat}{js:List Nat}{wi:TI}{g:TG}(q:wi σ H fun J H1=>rdC k js g t ta J σ H1 Q):tComp k js wi g t ta σ H Q:=q
theorem iteNT {A B:Prop}(q:B):if (!true)=true then A else B:=iteF q
theorem iteNF {A B:Prop}(q:A):if (!false)=true then A else B:=iteT q
theorem qPi {T:String}:PySem.W.kitOne K (.type T) (.type T)=some true:=by simp[PySem.W.kitOne]
end
section
variable {X:Cx}{K:PySem.W.Frag}
end

structure Fd (K:PySem.W.Frag)(mg:Str→Option Value)(x:Str)(st:Stmt)(ps:List Str):Prop where
 ex:∃f fd,Fun K x x st f fd∧mg x=some (.ref f)∧PySem.W.keepIn K (.ref f)=true∧Binds K fd ps []
section
variable {P:Program}{w:World}{K:PySem.W.Frag}{mg:Str→Option Value}{base:Heap}{x:Str}{st:Stmt}{k:Nat}{N ps:List Str}{sp:Sp}
theorem Fd.ok (F:Fd K mg x st ps)(S:xM N ps (xW st))(len:∀vs H Q E,sp vs H Q E→vs.length=ps.length)
  (hbody:∀(f:Addr) (cdv:Value) (A:Around) (outer:List Env) (s:Shared) (H:Hp) (vs:List V) (Q:VK) (E:XK),Room k (A.deeper (envOfC x (xW st) s.heap.objs.size f cdv))→sp vs H Q E→
   ∃t,PSs (cxOf CX0 P w K mg base N x (xW st) f cdv A outer s H E).nox (xA st) t∧t { nx:=fun _ H'=>Q .non H',rt:=Q } (start N vs) H):Dn P w K mg base x (k+1) ps sp:=
 let ⟨f,fd,F,a,b,c⟩:=F.ex
 ⟨f,fd,F.ok S len (hbody f),a,b,c⟩
theorem Fd.never (F:Fd K mg x st ps)(no:∀vs H Q E,¬sp vs H Q E):Dn P w K mg base x k ps sp:=
 let ⟨f,fd,F,a,b,c⟩:=F.ex
 ⟨f,fd,⟨fun vs H Q E h=>absurd h (no vs H Q E),fun A outer s H args us vs Q E _ _ _ _ h=>absurd h (no vs H Q E)⟩,a,b,c⟩
end
end L2

namespace PySem
section
variable {prog:Program}{w:World}{κ:Type}[DecidableEq κ]{knd:KeyKind prog w κ}
variable {A:Around}{R:Result→Shared→Prop}{I:Addr}{fp wr:List Addr}{G:Array GenState→Array GenState→Prop}{n:Nat}{P:Nat→Value→Prop}{St:Nat→Shared→Prop}
end
section
variable {prog:Program}{w:World}{κ:Type}[DecidableEq κ]{knd:KeyKind prog w κ}{A:Around}{E:Value→Shared→Prop}{s:Shared}
end
end PySem

namespace L2
open PySem PySem.Spec PyProof.Rows

section
variable {X:Cx}{K:PySem.W.Frag}
end

section
variable {X:Cx}{P:Program}{w:World}{K:PySem.W.Frag}
end

section
variable {X:Cx}{mg:Str→Option Value}{K:PySem.W.Frag}{x:Str}{i:Int}{ws:List Str}{pos:Pos}
end
end L2

namespace L2
open PySem PySem.Spec PyProof.Rows
noncomputable def qAe:List V→Hp→VK→Prop:=fun xs H Q=>∃(d:Addr) (kvs:List (Key×V)),xs=[.ref d]∧H d=some (.dK kvs)∧∀p,H p=none→Q (.ref p) (upd H p (.dK kvs))
section
variable {X:Cx}{K:PySem.W.Frag}
theorem qQz:CallR X (.type "dict") qAe:=by
 intro pins s σ H xs us Q I r h
 obtain⟨d,kvs,rfl,hd,q⟩:=h
 obtain⟨u,rfl,ru⟩:=vals1 r
 cases ru
 exact qHx I (.inl hd) fun p s' hp I'=>⟨.ref p,_,I',rfl,q p hp⟩
end
section
variable {α:Type}
theorem qYx {x:Str}:∀{l:List (Str×α)},x∉l.map (·.1)→l.lookup x=none
 | [],_=>rfl
 | (n,v)::l,h=>by
  have h1:x≠n:=fun z=>h (z▸List.mem_cons_self)
  rw[jW _ _ (by simpa using h1)]
  exact qYx fun z=>h (List.mem_cons_of_mem _ z)
theorem vQ {x:Str}{v:α}:∀{l:List (Str×α)} {i:Nat},(l.map (·.1)).Nodup→l[i]? = some (x,v)→l.lookup x=some v
 | (n,u)::l,0,_,e=>by
  cases e
  exact jG _ _ _
 | (n,u)::l,i+1,nd,e=>by
  have e:l[i]? = some (x,v):=e
  have nd':=List.nodup_cons.mp nd
  have h1:x≠n:=fun z=>nd'.1 (z▸List.mem_map.mpr ⟨_,List.mem_of_getElem? e,rfl⟩)
  rw[jW _ _ (by simpa using h1)]
  exact vQ nd'.2 e
end
theorem wV {x:Str}:∀(kvs:List (Str×V)) (acc:List (Key×V)),(kvs.map (·.1)).Nodup→valV (mergeK acc (pairK kvs)) (Sum.inr x)=(match kvs.lookup x with | some v=>some v | none=>valV acc (Sum.inr x))
 | [],acc,_=>rfl
 | (n,v)::kvs,acc,nd=>by
  have nd':=List.nodup_cons.mp nd
  show valV (mergeK (putK acc (Sum.inr n) v) (pairK kvs)) (Sum.inr x)=_
  rw[wV kvs _ nd'.2]
  by_cases e:x=n
  ·subst e
   rw[qYx nd'.1,jG]
   show valV (putK acc (Sum.inr x) v) (Sum.inr x)=some v
   rw[jY,if_pos rfl]
  ·rw[jW v kvs (by simpa using e)]
   cases kvs.lookup x with
   | some u=>rfl
   | none=>
    show valV (putK acc (Sum.inr n) v) (Sum.inr x)=valV acc (Sum.inr x)
    rw[jY,if_neg (fun z=>e (Sum.inr.inj z))]
end L2

namespace PySem
section
variable {prog:Program}{w:World}{A:Around}{E:Value→Shared→Prop}{s:Shared}
end
end PySem
namespace L2
open PySem PySem.Spec PyProof.Rows
section
variable {X:Cx}{K:PySem.W.Frag}
end
section
variable {X:Cx}{K:PySem.W.Frag}
end
end L2

namespace PySem
section
variable {prog:Program}{w:World}{A:Around}{E:Value→Shared→Prop}{s:Shared}
end
end PySem
namespace L2
open PySem PySem.Spec PyProof.Rows
section
variable {X:Cx}{K:PySem.W.Frag}
end
end L2

namespace L2
open PySem PySem.Spec PyProof.Rows
section
variable {X:Cx}{K:PySem.W.Frag}
end
section
variable {X:Cx}{K:PySem.W.Frag}{e st:Expr}{te ts:TE}{lo hi:Option Expr}{tl th:TO}{pos p2:Pos}
end
open FP
open Classical in
open Classical in
section
variable {X:Cx}{es rest:List Expr}{kw:List Keyword}{f a b:Expr}{k:Nat}{pos:Pos}{env:Env}{te:TE}{t:TA}
end
end L2

namespace L2
open PySem PySem.Spec PyProof.Rows
section
variable {M:Model}{A:Around}{E:Value→Shared→Prop}{s:Shared}
end
end L2

namespace L2
open PySem PySem.Spec PyProof.Rows
section
variable {P:Program}{w:World}{K:PySem.W.Frag}{mg:Str→Option Value}{base:Heap}{N:List Str}{qual:Str}{scope:Scope}{f:Addr}{cd:Value}{A:Around}{outer:List Env}{s₀:Shared}{H₀:Hp}{E:XK}
end
section
variable {X:Cx}{x:Str}{C:Addr}{B newId initId:String}{bm:List Value}{np cpos pos:Pos}{e₀:Expr}{rest:List Expr}{t:TA}{E:XK}
end
section
variable {X:Cx}{pos:Pos}{e:Expr}{te:TE}
end
section
variable {P:Program}{w:World}{K:PySem.W.Frag}{mg:Str→Option Value}{base:Heap}{qual x:Str}{st:Stmt}{f:Addr}{fd:FuncData}{N ps:List Str}{k:Nat}{sp:Sp}
end
end L2

namespace L2
open PySem PySem.Spec PyProof.Rows
section
variable {X:Cx}{pins:List (Addr×Obj)}{σ:St}{H H':Hp}{s:Shared}{h':Heap}
end
section
variable {M:Model}{A:Around}{E:Value→Shared→Prop}{s:Shared}{env:Env}
end
section
variable {X:Cx}{k:Nat}{f:Addr}{fd:FuncData}{ps:List Str}{sp:Sp}{dvs:List V}{ds:List Value}{x:Str}{p pos pos':Pos}{e:Expr}{es:List Expr}{t:TA}
end
end L2

namespace L2
open PySem PySem.Spec PyProof.Rows
section
variable {M:Model}{A:Around}{E:Value→Shared→Prop}
end
section
variable {X:Cx}{pins:List (Addr×Obj)}{σ:St}{H:Hp}{s:Shared}{h':Heap}{n:Str}{i:Nat}
end
section
variable {X:Cx}{pins:List (Addr×Obj)}{σ:St}{H:Hp}{s:Shared}{e:Value}
end
end L2

namespace L2
open PySem PySem.Spec PySem.W
section
variable {prog:Program}{w:World}{A:Around}{E:Value→Shared→Prop}{h:Heap}{g:Array GenState}{d:Drawn}{t:Nat}{os:OsState}{a C:Addr}{o:Obj}{bm:List Value}
end
end L2
namespace L2
open PySem PySem.Spec PySem.W
section
variable {X:Cx}
end
end L2

namespace L2
open PySem PySem.Spec PySem.W PyProof.Rows
end L2

namespace L2
open PySem PySem.Spec PySem.W PyProof.Rows
section
variable {P:Program}{w:World}{K:Frag}{mg:Str→Option Value}{base:Heap}{x:Str}{st:Stmt}{j k:Nat}{N ps:List Str}{sp sp':Sp}
end
section
variable {P:Program}{w:World}{K:Frag}{mg:Str→Option Value}{base:Heap}{N:List Str}{qual:Str}{scope:Scope}{f:Addr}{cd:Value}{A:Around}{outer:List Env}{s₀:Shared}{H₀:Hp}{E:XK}{j k:Nat}{ps:List Str}{sp:Sp}{x:Str}{p pos:Pos}{e:Expr}{es:List Expr}{t:TA}
end
section
variable {X:Cx}{pos:Pos}{e:Expr}{te:TE}
end
section
variable {X:Cx}{P:Program}{w:World}{K:Frag}{mg:Str→Option Value}{base:Heap}{j k:Nat}{ps:List Str}{sp:Sp}{x:Str}{p pos:Pos}{e:Expr}{es:List Expr}{t:TA}
end
noncomputable def rIsN:R2:=fun x y H Q=>y=.non∧Q (.bl (decide (x=.non))) H
section
variable {X:Cx}{K:Frag}
theorem qMd:OpR X (compareOp .Is) rIsN:=qPc
end
end L2

namespace PySem
namespace FD
theorem tuple_no_keys:typeLookup (.type "tuple") "keys" = pure none:=by rw[typeLookup_type,builtinLookup_eq_fast];kernel_rfl
end FD
section
variable {prog:Program}{w:World}{A:Around}{E:Value→Shared→Prop}{s:Shared}
theorem wE {a:Addr}{o:Obj}{xs:Array Value}{k:Nat}{Q:Option Value→Shared→Prop}(hx:s.heap.get? a=some o)(hc:o.cls=.type "tuple")(hd:o.data=.seq xs k)(hn:o.dict=none)(hA:A.handled=none)
  (h:∀h' tk,(∀b o,s.heap.get? b=some o→h'.get? b=some o)→Q none { s with heap:=h',toks:=tk }):wpAny (model prog w) A (getAttr? (.ref a) "keys") Q E s:=by
 obtain⟨hp,g,d,tk,os⟩:=s
 obtain⟨oc,od,da,sl⟩:=o
 obtain rfl:oc=_:=hc
 obtain rfl:da=_:=hd
 obtain rfl:od=_:=hn
 have hT:∀tk',(⟨hp,g,d,tk',os⟩:Shared).TypeIs (.ref a) "tuple" := fun _=>⟨_,hx,rfl⟩
 have f1:=sub_AttributeError
 have f3:=F.slot_tuple_getattribute.lookup
 have f4:=F.slot_tuple_getattribute.bind (.ref a)
 have f5:=am_tuple_getattr_none
 unfold getAttr? getAttrBy? getAttrBy
 repeat (any_goals (first | assumption | exact hT _ | ((with_reducible show wpAny _ _ (call (Value.builtin "tuple.__getattribute__") _ _) _ _ _);refine call_meets F.slot_tuple_getattribute (hT _) am_entry_tuple_getattribute (F.args_tuple_getattribute_2 _ _) (meets_getattribute_miss_tuple a xs k sl _ _ FD.tuple_no_keys FD.keys_name FD.keys_len) ⟨hx,hA,fun h' tk' e hx'=>?_⟩) | wp_step))
 obtain⟨t',u',he⟩:=hx'.there
 show wpAny _ _ (getattributeRaised _ _ _ _ _ _ _) _ _ _
 unfold getattributeRaised
 repeat (any_goals (first | assumption | wp_step))
 exact h _ _ hx'.keeps
variable {K:Type}[DecidableEq K]{knd:KeyKind prog w K}
theorem wI {l:Addr}{ol:Obj}{xs:Array Value}{n:Nat}{kvs:List (Value×Value)}{ks:List (K×Value)}{Q:Value→Shared→Prop}(hh:A.handled=none)(hl:s.heap.get? l=some ol)(hc:ol.cls=.type "tuple")(hd:ol.data=.seq xs n)(hn:ol.dict=none)
  (hp:∀(i:Nat) p,kvs[i]? = some p→∃T o m,xs[i]? = some (.ref T)∧s.heap.get? T=some o∧o.cls=.type "tuple" ∧ o.data=.seq #[p.1,p.2] m) (hlen:kvs.length=xs.size) (hk:Keyed knd ks kvs) (hz:ks.length≤1000)
  (hQ:∀p h' tk,s.heap.objs.size≤p→(∀b o,s.heap.get? b=some o→h'.get? b=some o)→h'.DictOf knd p (merged [] ks)→Q (.ref p) { s with heap:=h',toks:=tk }):
  wpAny (model prog w) A (call (.type "dict") [.ref l]) Q E s:=by
 refine yJ (T := "tuple") ⟨_,hl,hc⟩ (by decide) fun E'=>?_
 have kd:∀b o,s.heap.get? b=some o→(s.heap.push { cls:=.type "dict",data:=.dict #[] }).get? b=some o:=fun b o e=>Heap.get?_push_of_some _ e
 refine wE (kd _ _ hl) hc hd hn hh fun h2 tk2 kp2=>⟨rfl,?_⟩
 have kl:∀b o,s.heap.get? b=some o→h2.get? b=some o:=fun b o e=>kp2 _ _ (kd _ _ e)
 refine wpAny_pyIter_tuple (s:={ s with heap:=h2,toks:=tk2 }) (items:=xs) ⟨_,kl _ _ hl,hc,n,hd⟩ ?_
 have k3:∀b o,h2.get? b=some o→(h2.push { cls:=.type "tuple_iterator",data:=.fields #[.ref l,.int 0 0] }).get? b=some o:=fun b o e=>Heap.get?_push_of_some _ e
 have dlt:s.heap.objs.size<h2.objs.size:=Heap.lt_size (kp2 _ _ (Heap.get?_push_size _ rfl))
 have P:PairIt prog w A.in1.in1 s.heap.objs.size h2.objs.size [h2.objs.size] kvs (fun i h=>h.IsTupleIter h2.objs.size l i∧∀b o,s.heap.get? b=some o→h.get? b=some o):=
  {frame:=fun i h h' ⟨S,kp⟩ sb _=>⟨S.at fun o e=>(sb.2 _ (Nat.ne_of_gt dlt)).trans e,fun b o e=>(sb.2 b (Nat.ne_of_lt (Heap.lt_size e))).trans (kp b o e)⟩
   item:=fun i s' Q E k v e ⟨S,kp⟩ hQ=>by
    obtain⟨T,o,m,ex,ho,hc',hd'⟩:=hp i (k,v) e
    refine wpAny_pyNext_tuple_item (items:=xs) S ⟨_,kp _ _ hl,hc,n,hd⟩ ex fun h' S' sb=>?_
    have nb:∀b o,s.heap.get? b=some o→b≠h2.objs.size:=fun b o e=>Nat.ne_of_lt (Nat.lt_trans (Heap.lt_size e) dlt)
    exact hQ T h' s'.toks m ⟨S',fun b o e=>(sb.2 b (nb b o e)).trans (kp b o e)⟩ ⟨o,(sb.2 T (nb T o ho)).trans (kp _ _ ho),hc',hd'⟩ fun b o hb e=>(sb.2 b (fun z=>hb (by simp[z]))).trans e
   done:=fun s' Q E ⟨S,kp⟩ hQ=>by
    refine wpAny_pyNext_tuple_end (A:=A.in1.in1) (items:=xs) hh S ⟨_,kp _ _ hl,hc,n,hd⟩ (by rw[hlen];simp) fun h' eb=>?_
    exact hQ h' s'.toks fun b o hb e=>eb b o (fun z=>hb (by simp[z])) e }
 have hd0:(h2.push { cls:=.type "tuple_iterator",data:=.fields #[.ref l,.int 0 0] }).DictOf knd s.heap.objs.size (merged [] (ks.take 0)):=by
  obtain⟨o,es,ep,ho,r⟩:=kQ (knd:=knd) s.heap
  exact⟨o,es,ep,k3 _ _ (kp2 _ _ ho),r⟩
 refine qQm (A:=A.in1) (s₀:={ s with heap:=h2.push { cls:=.type "tuple_iterator",data:=.fields #[.ref l,.int 0 0] },toks:=tk2 }) P hk (by simp;exact Nat.ne_of_lt dlt) hz (fun h' tk kp hD=>⟨rfl,?_⟩) ks.length 0 _ tk2 (by simp) (Nat.zero_le _) ⟨⟨_,Heap.get?_push_size _ rfl,rfl,rfl⟩,fun b o e=>k3 _ _ (kl _ _ e)⟩ hd0 (fun _ _ _ _ e=>e)
 refine hQ _ h' tk (Nat.le_refl _) (fun b o e=>kp b o ?_ (Nat.ne_of_lt (Heap.lt_size e)) (k3 _ _ (kl b o e))) hD
 simp only[List.mem_singleton]
 exact Nat.ne_of_lt (Nat.lt_trans (Heap.lt_size e) dlt)
end
end PySem
namespace L2
open PySem PySem.Spec PyProof.Rows
noncomputable def PairI (H:Hp)(f:Int×Int)(u:V):Prop:=∃a,u=.ref a∧H a=some (.tup [.int f.1,.int f.2])
noncomputable def pairI (fs:List (Int×Int)):List (Key×V):=fs.map fun p=>(Sum.inl p.1,.int p.2)
section
variable {X:Cx}{pins:List (Addr×Obj)}{σ:St}{H:Hp}{s:Shared}
theorem qZc (I:Inv X pins σ H s){fs:List (Int×Int)}{us:List V}{its:List Value}(hp:Paired (PairI H) fs us)(hv:Vals us its):∃(vv:List (Value×Value)) (ks:List (Key×Value)),
  (∀(i:Nat) p,vv[i]? = some p→∃T o m,its[i]? = some (.ref T)∧s.heap.get? T=some o∧o.cls=.type "tuple" ∧ o.data=.seq #[p.1,p.2] m)∧vv.length=its.length∧Keyed (xN X.prog X.w) ks vv∧KV (pairI fs) ks∧ks.length=fs.length:=by
 induction hp generalizing its with
 | nil=>
  cases hv
  exact⟨[],[],fun i p e=>by simp at e,rfl,.nil,.nil,rfl⟩
 | @cons kv _ _ _ f t ih=>
  cases hv with
  | cons r t2=>
  obtain⟨vv,ks,h1,h2,h3,h4,h5⟩:=ih t2
  obtain⟨a,rfl,ha⟩:=f
  cases r
  obtain⟨z,its,rv,o,ho,hc,m,hd,_⟩:=I.hok a _ ha
  obtain⟨u,v,rfl,ru,rv'⟩:=vals2 rv
  obtain⟨tk,rfl⟩:=ru
  refine⟨(.int kv.1 tk,v)::vv,(Sum.inl kv.1,v)::ks,fun i p e=>?_,by simp[h2],.cons ⟨wK _ _ kv.1 tk,rfl⟩ h3,.cons ⟨rfl,rv'⟩ h4,by simp[h5]⟩
  cases i with
  | zero=>
   simp at e
   subst e
   exact⟨a,o,m,rfl,ho,hc,hd⟩
  | succ i=>exact h1 i p (by simpa using e)
theorem kF (hc:X.calm=true):CallR X (.type "dict") (fun vs H Q=>∃l us fs,vs=[.ref l]∧H l=some (.tup us)∧Paired (PairI H) fs us∧fs.length≤1000∧∀p,H p=none→Q (.ref p) (upd H p (.dK (mergeK [] (pairI fs))))):=by
 intro pins s σ H vs us Q I r h
 obtain⟨l,xs,fs,rfl,hl,hp,h1000,q⟩:=h
 obtain⟨u,rfl,ru⟩:=vals1 r
 cases ru
 obtain⟨z,its,rv,o,ho,hc',n,hd,hn⟩:=I.hok l _ hl
 obtain⟨vv,ks,k1,k2,k3,k4,k5⟩:=qZc I hp rv
 refine wI (knd:=xN X.prog X.w) (ks:=ks) (kvs:=vv) (I.ok.hd hc) ho hc' hd hn (fun i p ep=>?_) (by simp[k2]) k3 (by omega) fun p h' tk hp' keep hD=>I.newDict hp' keep k4 (by omega) hD (q p (I.hok.fresh hp'))
 obtain⟨T,o,m,a1,a2⟩:=k1 i p ep
 exact⟨T,o,m,by simpa using a1,a2⟩
end
theorem qAi {kvs:List (Key×V)}{k:Key}{v:V}:(kvs.any fun kv=>decide (kv.1=k))=true↔k∈kvs.map (·.1):=by
 simp only[List.any_eq_true,List.mem_map,decide_eq_true_eq]
theorem qIm {kvs:List (Key×V)}{k:Key}{v:V}(h:k∈kvs.map (·.1)):(putK kvs k v).map (·.1)=kvs.map (·.1):=by
 unfold putK
 rw[if_pos ((qAi (v:=v)).mpr h),List.map_map]
 refine List.map_congr_left fun kv _=>?_
 show(if kv.1=k then (kv.1,v) else kv).1=kv.1
 split <;> rfl
theorem qIn {kvs:List (Key×V)}{k:Key}{v:V}(h:k∉kvs.map (·.1)):(putK kvs k v).map (·.1)=kvs.map (·.1)++[k]:=by
 unfold putK
 rw[if_neg fun z=>h ((qAi (v:=v)).mp z),List.map_append]
 rfl
theorem qFg (fs:List (Int×Int)):∀kvs:List (Key×V),(mergeK kvs (pairI fs)).length≤kvs.length+fs.length∧
  ((mergeK kvs (pairI fs)).length=kvs.length+fs.length↔((fs.map (·.1)).Nodup∧∀f∈fs,(Sum.inl f.1:Key)∉kvs.map (·.1))):=by
 induction fs with
 | nil=>exact fun kvs=>⟨Nat.le_refl _,⟨fun _=>⟨List.nodup_nil,fun f h=>nomatch h⟩,fun _=>rfl⟩⟩
 | cons f fs ih=>
  intro kvs
  have e:mergeK kvs (pairI (f::fs))=mergeK (putK kvs (Sum.inl f.1) (.int f.2)) (pairI fs):=rfl
  obtain⟨h1,h2⟩:=ih (putK kvs (Sum.inl f.1) (.int f.2))
  rw[e]
  rw[List.length_cons]
  by_cases m:(Sum.inl f.1:Key)∈kvs.map (·.1)
  ·have el:=congrArg List.length (qIm (v:=.int f.2) m)
   rw[List.length_map,List.length_map] at el
   refine⟨by omega,fun z=>by omega,fun⟨_,z⟩=>absurd m (z f (List.mem_cons_self ..))⟩
  ·have ek:=qIn (v:=.int f.2) m
   have el:=congrArg List.length ek
   rw[List.length_map,List.length_append,List.length_map] at el
   have el':(putK kvs (Sum.inl f.1) (.int f.2)).length=kvs.length+1:=el
   rw[ek] at h2
   refine⟨by omega,fun z=>?_,fun⟨nd,z⟩=>?_⟩
   ·obtain⟨nd,d⟩:=h2.mp (by omega)
    refine⟨List.nodup_cons.mpr ⟨fun hm=>?_,nd⟩,fun g hg=>?_⟩
    ·obtain⟨g,hg,eg⟩:=List.mem_map.mp hm
     exact d g hg (List.mem_append.mpr (.inr (by rw[eg];exact List.mem_singleton.mpr rfl)))
    ·rcases List.mem_cons.mp hg with r | r
     ·rw[r];exact m
     ·exact fun zz=>d g r (List.mem_append.mpr (.inl zz))
   ·have:=h2.mpr ⟨(List.nodup_cons.mp nd).2,fun g hg zz=>?_⟩
    ·omega
    ·rcases List.mem_append.mp zz with r | r
     ·exact z g (List.mem_cons_of_mem _ hg) r
     ·have eg:g.1=f.1:=Sum.inl.inj (List.mem_singleton.mp r)
      exact(List.nodup_cons.mp nd).1 (by show f.1∈_;rw[← eg];exact List.mem_map_of_mem (f:=fun x:Int×Int=>x.1) hg)
theorem qWw (fs:List (Int×Int)):((mergeK [] (pairI fs)).length<fs.length)↔¬(fs.map (·.1)).Nodup:=by
 obtain⟨h1,h2⟩:=qFg fs []
 rw[List.length_nil,Nat.zero_add] at h1 h2
 constructor
 ·exact fun h nd=>by have:=h2.mpr ⟨nd,fun f _ z=>nomatch z⟩;omega
 ·exact fun h=>by
   rcases Nat.lt_or_eq_of_le h1 with z | z
   ·exact z
   ·exact absurd (h2.mp z).1 h
end L2

namespace L2
open PySem PySem.Spec PyProof.Rows
end L2

namespace L2
open PySem PySem.Spec PyProof.Rows
noncomputable def rNeT (K:PySem.W.Frag):R2:=fun x y H Q=>∃n a b xs ys,n≤60∧x=.ref a∧y=.ref b∧SqT K H a xs∧SqT K H b ys∧xs.length=ys.length∧(∀(j:Nat) x y,xs[j]? = some x→ys[j]? = some y→DEq K H n x y)∧Q (.bl false) H
theorem qMb {X:Cx}{K:PySem.W.Frag}(hu:X.A.units+64<cLine)(hK:X.K=K:=by rfl):OpR X (compareOp .NotEq) (rNeT K):=by
 subst hK
 intro pins s σ H x y v u Q I rx ry h
 obtain⟨n,a,b,xs,ys,hn,rfl,rfl,ha,hb,hl,hd,q⟩:=h
 cases rx;cases ry
 obtain⟨its,r1,p1,_⟩:=I.tuple ha
 obtain⟨its2,r2,p2,_⟩:=I.tuple hb
 have sz:its.toArray.size=its2.toArray.size:=by rw[List.size_toArray,List.size_toArray,← r1.length,← r2.length,hl]
 refine SeqAt.RcNeAt.tuples (e:=fun _=>true) p1 p2 (by omega) (wF I r1 r2 hl hd (by show X.A.units+1+n<cLine;omega)) _ _ _ _ ?_
 rw[kH,sz,Bool.true_and,beq_self_eq_true]
 exact⟨.bl false,H,I,rfl,q⟩
end L2

namespace L2
open PySem PySem.Spec PyProof.Rows
section
variable {X:Cx}
end
end L2

namespace L2
open PySem PySem.Spec PyProof.Rows
section
variable {prog:Program}{w:World}{A:Around}{E:Value→Shared→Prop}
end
section
variable {X:Cx}{K:PySem.W.Frag}{pos:Pos}
end
end L2

namespace L2
open PySem PySem.Spec PyProof.Rows
structure Dm (P:Program)(w:World)(K:PySem.W.Frag)(mg:Str→Option Value)(base:Heap)(C:Addr)(m:Str)(k:Nat)(ps:List Str)(sp:Sp):Prop where
 ex:∃f fd,FnOk P w K mg base CX0 k f fd ps sp∧Meth K C m f∧Binds K fd ps []
structure Dk (P:Program)(w:World)(K:PySem.W.Frag)(mg:Str→Option Value)(base:Heap)(x:Str)(C:Addr)(k:Nat)(ps:List Str)(sp:Sp):Prop where
 ex:∃f fd,FnOk P w K mg base CX0 k f fd ps sp∧Mk K C f∧mg x=some (.ref C)∧Binds K fd ps []
structure Md (K:PySem.W.Frag)(C:Addr)(m q:Str)(st:Stmt)(ps:List Str):Prop where
 ex:∃f fd,Fun K m q st f fd∧Meth K C m f∧Binds K fd ps []
structure Mi (K:PySem.W.Frag)(mg:Str→Option Value)(x:Str)(C:Addr)(q:Str)(st:Stmt)(ps:List Str):Prop where
 ex:∃f fd,Fun K "__init__" q st f fd∧Mk K C f∧mg x=some (.ref C)∧Binds K fd ps []
section
variable {P:Program}{w:World}{K:PySem.W.Frag}{mg:Str→Option Value}{base:Heap}{x m q:Str}{st:Stmt}{C:Addr}{j k:Nat}{N ps:List Str}{sp:Sp}
theorem Md.ok (F:Md K C m q st ps)(S:xM N ps (xW st))(len:∀vs H Q E,sp vs H Q E→vs.length=ps.length)
  (hbody:∀(f:Addr) (cdv:Value) (A:Around) (outer:List Env) (s:Shared) (H:Hp) (vs:List V) (Q:VK) (E:XK),Room k (A.deeper (envOfC q (xW st) s.heap.objs.size f cdv))→sp vs H Q E→
   ∃t,PSs (cxOf CX0 P w K mg base N q (xW st) f cdv A outer s H E).nox (xA st) t∧t { nx:=fun _ H'=>Q .non H',rt:=Q } (start N vs) H):Dm P w K mg base C m (k+1) ps sp:=
 let ⟨f,fd,F,a,b⟩:=F.ex
 ⟨f,fd,F.ok S len (hbody f),a,b⟩
theorem Mi.ok (F:Mi K mg x C q st ps)(S:xM N ps (xW st))(len:∀vs H Q E,sp vs H Q E→vs.length=ps.length)
  (hbody:∀(f:Addr) (cdv:Value) (A:Around) (outer:List Env) (s:Shared) (H:Hp) (vs:List V) (Q:VK) (E:XK),Room k (A.deeper (envOfC q (xW st) s.heap.objs.size f cdv))→sp vs H Q E→
   ∃t,PSs (cxOf CX0 P w K mg base N q (xW st) f cdv A outer s H E).nox (xA st) t∧t { nx:=fun _ H'=>Q .non H',rt:=Q } (start N vs) H):Dk P w K mg base x C (k+1) ps sp:=
 let ⟨f,fd,F,a,b,c⟩:=F.ex
 ⟨f,fd,F.ok S len (hbody f),a,b,c⟩
end
section
variable {X:Cx}{P:Program}{w:World}{K:PySem.W.Frag}{mg:Str→Option Value}{base:Heap}{C:Addr}{j k:Nat}{ps:List Str}{sp:Sp}{x m f:Str}{p pos pos' apos tpos:Pos}{e o value:Expr}{es:List Expr}{ta tv:TE}{t:TA}
theorem yM {pl:Sem Bool}(D:Dm P w K mg base C m j ps sp)(c:Cls K C)(he:PE X o ta)(hr:Room k X.A)(ha:PA X (e::es) t)(hjk:j≤k:=by first | decide | omega)
  (h1:X.prog=P:=by rfl) (h2:X.w=w:=by rfl) (h3:X.K=K:=by rfl) (h4:X.mg=mg:=by rfl) (h5:X.base=base:=by rfl)
  (hst:starEach (e::es) X.env=(false,eval e X.env)::starEach es X.env:=by rfl) (hpl:(backTo pos (starEach es X.env)).any (·.1)=false:=by rfl)
  (ht:eval (.Call (.Attribute o m apos) (e::es) [] pos) X.env=(do
   let ov ← eval o X.env
   standAt apos.atName
   let (f,first) ← holding [ov] (getMethod ov m pl)
   callWith pos f first (backTo pos (starEach (e::es) X.env)) (backToKw pos (keywordEach [] X.env))):=by rfl):
  PE X (.Call (.Attribute o m apos) (e::es) [] pos) (tMeth C m sp [] E0 ta t):=by
 subst h1 h2 h3 h4 h5
 obtain⟨f,fd,F,M,b⟩:=D.ex
 exact qMk he c M (F.mono hjk) hr b .nil pass0 ha hst hpl ht
theorem qBw {pl:Sem Bool}(D:Dm P w K mg base C m j ps sp)(c:Cls K C)(he:PE X o ta)(hr:Room k X.A)(hjk:j≤k:=by first | decide | omega)
  (h1:X.prog=P:=by rfl) (h2:X.w=w:=by rfl) (h3:X.K=K:=by rfl) (h4:X.mg=mg:=by rfl) (h5:X.base=base:=by rfl)
  (ht:eval (.Call (.Attribute o m apos) [] [] pos) X.env=(do
   let ov ← eval o X.env
   standAt apos.atName
   let (f,first) ← holding [ov] (getMethod ov m pl)
   callWith pos f first (backTo pos (starEach [] X.env)) (backToKw pos (keywordEach [] X.env))):=by rfl):
  PE X (.Call (.Attribute o m apos) [] [] pos) (tMeth C m sp [] E0 ta tNil):=by
 subst h1 h2 h3 h4 h5
 obtain⟨f,fd,F,M,b⟩:=D.ex
 exact qFk he c M (F.mono hjk) hr b .nil pass0 ht
theorem qKg (D:Dk P w K mg base x C j ps sp)(hr:Room k X.A)(ha:PA X (e::es) t)(hjk:j+1≤k:=by first | decide | omega)(hg:Gl X x:=by rfl)
  (h1:X.prog=P:=by rfl) (h2:X.w=w:=by rfl) (h3:X.K=K:=by rfl) (h4:X.mg=mg:=by rfl) (h5:X.base=base:=by rfl)
  (hdb:(x == ("__debug__" : Str))=false:=by decide) (he:starEach (e::es) X.env=(false,eval e X.env)::starEach es X.env:=by rfl) (hpl:(backTo pos (starEach es X.env)).any (·.1)=false:=by rfl):
  PE X (.Call (.Name x p) (e::es) [] pos) (tMake C sp [] E0 t):=by
 subst h1 h2 h3 h4 h5
 obtain⟨f,fd,F,M,hm,b⟩:=D.ex
 exact qMv M F (hr.mono hjk) hg hm b .nil pass0 ha hdb he hpl
theorem xF (he:PE X e ta)(hK:X.K=K:=by rfl)(hb:attributeBase e f X.env (eval e X.env)=eval e X.env:=by rfl):PE X (.Attribute e f pos) (tFld K ta f):=by
 subst hK
 exact qPk he hb
theorem zJ (ha:PE X o ta)(hv:PE X value tv)(hK:X.K=K:=by rfl)(hs:swapsWith value (some (.Attribute o f pos')) pos.line X.env=pure false:=by rfl):PS X (.Assign [.Attribute o f pos'] value pos) (sFld K ta tv f):=by
 subst hK
 exact qPq ha hv hs
theorem qVe (ha:PE X o ta)(hv:PE X value tv)(hK:X.K=K:=by rfl):PS X (.AugAssign (.Attribute o f tpos) .Add value pos) (qAa K ta tv rAdd f):=by
 subst hK
 exact qAl ha hv qRk
end
section
variable {K:PySem.W.Frag}{σ:St}{H:Hp}{Q:VK}{D:Ends}{ta tv:TE}{f:Str}
end
end L2

namespace DP
open PySem PyProof.Rows L2
section
variable {prog:Program}{w:World}
noncomputable def IsPair (prog:Program)(w:World)(h:Heap)(k:Str×List Key)(a:Addr):Prop:=∃o u t n,h.get? a=some o∧o.cls=.type "tuple" ∧ o.data=.seq #[u,.ref t] n∧(xN prog w).is (Sum.inr k.1) u=true∧IsTupleKey (xN prog w) h k.2 t
noncomputable def qXw (prog:Program)(w:World)(k:Str×List Key):Int:=reduceHash (Builtin.Tuple.tupleHashOf [(xN prog w).hash (Sum.inr k.1),tupleKeyHash (xN prog w) k.2])
theorem IsPair.typeIs {s:Shared}{k:Str×List Key}{a:Addr}(x:IsPair prog w s.heap k a):s.TypeIs (.ref a) "tuple" := let ⟨o,_,_,_,ho,hc,_⟩:=x;⟨o,ho,hc⟩
theorem IsPair.inj {h:Heap}{a:Addr}{x y:Str×List Key}(hx:IsPair prog w h x a)(hy:IsPair prog w h y a):x=y:=by
 obtain⟨o,u,t,n,ho,_,hd,h1,h2⟩:=hx
 obtain⟨o',u',t',n',ho',_,hd',h1',h2'⟩:=hy
 obtain rfl:o=o':=Option.some.inj (ho.symm.trans ho')
 rw[hd] at hd'
 injection hd' with e _
 have e:=congrArg Array.toList e
 injection e with e1 e2
 injection e2 with e2 _
 injection e2 with e2
 subst e1 e2
 exact Prod.ext (Sum.inr.inj ((xN prog w).inj _ _ _ h1 h1')) (h2.inj h2')
theorem IsPair.keeps {h h':Heap}{k:Str×List Key}{a d:Addr}{o:Obj}{es ep}(x:IsPair prog w h k a)(ho:h.get? d=some o)(hd:o.data=.dict es ep)(hs:Heap.SameBut d h h'):IsPair prog w h' k a:=by
 obtain⟨o',u,t,n,ho',hc,hd',h1,h2⟩:=x
 have hne:a≠d:=by
  intro z
  subst z
  obtain rfl:o'=o:=Option.some.inj (ho'.symm.trans ho)
  rw[hd] at hd';exact nomatch hd'
 exact⟨o',u,t,n,(hs.2 a hne).trans ho',hc,hd',h1,h2.keeps ho hd hs⟩
variable {A:Around}{E:Value→Shared→Prop}{s:Shared}
theorem qCh {k:Str×List Key}{a:Addr}{Q:Int→Shared→Prop}(hu:A.units+2<cLine)(hk:IsPair prog w s.heap k a)(h:Q (qXw prog w k) { s with toks:=s.toks+(k.2.length+3) }):
  wpAny (model prog w) A (pyHash (.ref a)) Q E s:=by
 have hT:=hk.typeIs
 obtain⟨o,u,t,n,ho,_,hd,h1,h2⟩:=hk
 unfold pyHash
 first | unfold pyHashByItsType | skip
 first | refine wpAny_bind (wpAny_cRoomFor_or (.inr (by omega)) ?_) | skip
 refine wpAny_bind (wpAny_specialOf hT F.slot_tuple_hash.lookup ?_)
 show wpAny _ _ (if (some (Value.builtin "tuple.__hash__") == some Value.none)=true then _ else _) Q E s
 rw[if_neg (by rw[beq_builtin_none];exact Bool.false_ne_true)]
 refine wpAny_bind (wpAny_specialOf hT F.slot_tuple_hash.lookup ?_)
 show wpAny _ _ (callSpecialIfBoundUnlessNone? (.ref a) "__hash__" _ >>= _) Q E s
 refine wpAny_bind (wpAny_callSpecialIfBoundUnlessNone?_slot hT F.slot_tuple_hash (wpAny_call_entry F.slot_tuple_hash hT F.entry_tuple_hash ?_ (F.args_tuple_hash_1 _)))
 show wpAny _ _ (Builtin.Tuple.tupleItemsOf (.ref a) >>= _) _ _ s
 refine wpAny_bind (wpAny_tupleItemsOf ho hd ?_)
 refine wpAny_bind ?_
 rw[← Array.forIn_toList]
 show wpAny _ _ (forIn [u,Value.ref t] _ _) _ _ s
 rw[List.forIn_cons]
 refine wpAny_bind (wpAny_bind ((xN prog w).pyHash h1 ?_))
 refine wpAny_pure ?_
 show wpAny _ _ (forIn [Value.ref t] _ _) _ _ _
 rw[List.forIn_cons]
 refine wpAny_bind (wpAny_bind (wpAny_pyHash_tuple (knd:=xN prog w) (by show A.units+1<cLine;omega) h2 ?_))
 refine wpAny_pure ?_
 show wpAny _ _ (forIn [] _ _) _ _ _
 rw[List.forIn_nil]
 refine wpAny_pure ?_
 show wpAny _ _ (retInt (Builtin.Tuple.tupleHashOf [(xN prog w).hash (Sum.inr k.1),tupleKeyHash (xN prog w) k.2])) _ _ _
 refine wpAny_ret_mkInt ?_
 unfold qXw reduceHash at h
 generalize Builtin.Tuple.tupleHashOf [(xN prog w).hash (Sum.inr k.1),tupleKeyHash (xN prog w) k.2]=z at h ⊢
 show wpAny _ _ (if (decide (-(2:Int) ^ 63≤z) && decide (z<2 ^ 63))=true then _ else _) Q E _
 have e:∀m:Nat,s.toks+1+(m+1)+1=s.toks+(m+3):=fun m=>by omega
 by_cases hr:(decide (-(2:Int) ^ 63≤z) && decide (z<2 ^ 63))=true
 ·rw[if_pos hr]
  rw[if_pos hr] at h
  exact wpAny_pure (by rw[← e] at h;exact h)
 ·rw[if_neg hr]
  rw[if_neg hr] at h
  exact wpAny_bind (wpAny_rule (wpAny_pure (by rw[← e] at h;exact h)))
theorem qFq {n:Nat}{ks:List Key}{a:Addr}{Q:Bool→Shared→Prop}(hk:IsTupleKey (xN prog w) s.heap ks a)(h:Q true s):wpAny (model prog w) A (eqIsQuiet (n+1) (.ref a)) Q E s:=by
 have hT:=hk.typeIs
 obtain⟨o,items,m,ho,_,hd,hi⟩:=hk
 unfold eqIsQuiet
 refine wpAny_bind (wpAny_specialOf hT F.slot_tuple_eq.lookup ?_)
 show wpAny _ _ (isInstance (.ref a) (.type "tuple") >>= _) _ _ s
 refine wpAny_bind (wpAny_isInstance hT isSubtype_tuple_tuple ?_)
 simp only[Bool.not_true,Bool.false_eq_true,if_false]
 refine wpAny_bind (wpAny_seqItems ho hd (wpAny_bind ?_))
 show wpAny _ _ (forIn items _ _) _ _ s
 rw[← Array.forIn_toList]
 refine wpAny_forIn_list _ (fun rest r s'=>r.1=none∧s'=s∧∀v∈rest,carriedByValue v=true) _ ?_ ?_ _ _ ⟨rfl,rfl,hi.byValue⟩
 ·rintro v rest r s' ⟨hr,rfl,hall⟩
  rw[eqIsQuiet_byValue _ (hall v List.mem_cons_self)]
  exact wpAny_bind (wpAny_pure (wpAny_ite_split (fun z=>by cases z) fun _=>wpAny_pure ⟨rfl,rfl,fun u hu'=>hall u (List.mem_cons_of_mem _ hu')⟩))
 ·rintro⟨r1,r2⟩ s' ⟨hr,rfl,_⟩
  obtain rfl:r1=none:=hr
  exact wpAny_pure h
theorem qVb {k:Str×List Key}{a:Addr}{Q:Bool→Shared→Prop}(hk:IsPair prog w s.heap k a)(h:Q true s):wpAny (model prog w) A (eqIsQuiet 8 (.ref a)) Q E s:=by
 have hT:=hk.typeIs
 obtain⟨o,u,t,n,ho,_,hd,h1,h2⟩:=hk
 unfold eqIsQuiet
 refine wpAny_bind (wpAny_specialOf hT F.slot_tuple_eq.lookup ?_)
 show wpAny _ _ (isInstance (.ref a) (.type "tuple") >>= _) _ _ s
 refine wpAny_bind (wpAny_isInstance hT isSubtype_tuple_tuple ?_)
 simp only[Bool.not_true,Bool.false_eq_true,if_false]
 refine wpAny_bind (wpAny_seqItems ho hd ?_)
 refine wpAny_bind ?_
 show wpAny _ _ (forIn #[u,Value.ref t] _ _) _ _ s
 rw[← Array.forIn_toList]
 show wpAny _ _ (forIn [u,Value.ref t] _ _) _ _ s
 rw[List.forIn_cons,eqIsQuiet_byValue _ ((xN prog w).byValue _ _ h1)]
 refine wpAny_bind (wpAny_bind (wpAny_pure ?_))
 refine wpAny_ite_split (fun z=>by cases z) fun _=>wpAny_pure ?_
 show wpAny _ _ (forIn [Value.ref t] _ _) _ _ _
 rw[List.forIn_cons]
 refine wpAny_bind (wpAny_bind (qFq (n:=6) h2 (wpAny_ite_split (fun z=>by cases z) fun _=>wpAny_pure ?_)))
 show wpAny _ _ (forIn [] _ _) _ _ _
 rw[List.forIn_nil]
 exact wpAny_pure (wpAny_pure h)
theorem qMa {x y:Str×List Key}{a b:Addr}{P:Fin→Shared→Prop}(hu:A.units+1<cLine)(hx:IsPair prog w s.heap x a)(hy:IsPair prog w s.heap y b)(h:P (.done (.ret (.bool (decide (x=y))))) s):
  wpAny (model prog w) A (Builtin.«tuple.__eq__» ⟨[.ref a,.ref b],[]⟩) P E s:=by
 have hTb:=hy.typeIs
 obtain⟨oa,u,t,na,hoa,_,hda,h1,h2⟩:=hx
 obtain⟨ob,u',t',nb,hob,_,hdb,h1',h2'⟩:=hy
 show wpAny _ _ (isInstance (.ref b) (.type "tuple") >>= _) _ _ s
 refine wpAny_bind (wpAny_isInstance hTb isSubtype_tuple_tuple ?_)
 simp only[Bool.not_true,Bool.false_eq_true,if_false]
 refine wpAny_bind (wpAny_tupleItemsOf hoa hda ?_)
 refine wpAny_bind (wpAny_tupleItemsOf hob hdb ?_)
 refine wpAny_bind ?_
 show wpAny _ _ (forIn [(u,u'),(Value.ref t,Value.ref t')] _ _) _ _ s
 rw[List.forIn_cons]
 refine wpAny_bind (wpAny_bind ((xN prog w).eqBool (a:=Sum.inr x.1) (b:=Sum.inr y.1) h1 h1' ?_))
 by_cases c1:x.1=y.1
 ·have d1:decide ((Sum.inr x.1:Key)=Sum.inr y.1)=true:=decide_eq_true (by rw[c1])
  rw[d1]
  refine wpAny_ite_split (fun z=>by cases z) fun _=>wpAny_pure ?_
  show wpAny _ _ (forIn [(Value.ref t,Value.ref t')] _ _) _ _ _
  rw[List.forIn_cons]
  refine wpAny_bind (wpAny_bind (wpAny_eqBool_tuple (knd:=xN prog w) (by omega) h2 h2' ?_))
  by_cases c2:x.2=y.2
  ·rw[decide_eq_true c2]
   refine wpAny_ite_split (fun z=>by cases z) fun _=>wpAny_pure ?_
   show wpAny _ _ (forIn [] _ _) _ _ _
   rw[List.forIn_nil]
   rw[decide_eq_true (Prod.ext c1 c2)] at h
   exact wpAny_pure (wpAny_pure h)
  ·rw[decide_eq_false c2]
   rw[decide_eq_false (fun z=>c2 (by rw[z]))] at h
   exact wpAny_ite_split (fun _=>wpAny_bind (wpAny_pure (wpAny_pure (wpAny_pure (wpAny_pure h))))) fun z=>absurd rfl z
 ·have d1:decide ((Sum.inr x.1:Key)=Sum.inr y.1)=false:=decide_eq_false fun z=>c1 (Sum.inr.inj z)
  rw[d1]
  rw[decide_eq_false (fun z=>c1 (by rw[z]))] at h
  exact wpAny_ite_split (fun _=>wpAny_bind (wpAny_pure (wpAny_pure (wpAny_pure (wpAny_pure h))))) fun z=>absurd rfl z
theorem qNx {x y:Str×List Key}{a b:Addr}{Q:Bool→Shared→Prop}(hu:A.units+2<cLine)(hx:IsPair prog w s.heap x a)(hy:IsPair prog w s.heap y b)(h:Q (decide (x=y)) s):wpAny (model prog w) A (eqBool (.ref a) (.ref b)) Q E s:=by
 unfold eqBool
 try with_reducible refine wpAny_holding ?_
 show wpAny _ _ (if (Value.ref a == Value.ref b)=true then _ else _) Q E s
 by_cases hab:(Value.ref a == Value.ref b)=true
 ·rw[if_pos hab]
  have e:a=b:=by have:=eq_of_beq hab;injection this
  subst e
  obtain rfl:=hx.inj hy
  exact wpAny_bind (wpAny_rule (wpAny_pure (by simpa using h)))
 ·rw[if_neg hab]
  exact wpAny_bind (wpAny_richCompare_same_room (op:=.Eq) hx.typeIs hy.typeIs F.slot_tuple_eq
   (wpAny_call_entry F.slot_tuple_eq hx.typeIs F.entry_tuple_eq (qMa (by show A.units+1+1<cLine;omega) hx hy ⟨_,rfl,(fun e=>nomatch e),wpAny_truthy_bool h⟩) (F.args_tuple_eq_2 _ _)) (by omega))
noncomputable def pairKind (prog:Program)(w:World):HeapKind prog w (Str×List Key) where
 is:=IsPair prog w
 hash:=qXw prog w
 draws:=fun k=>k.2.length+3
 room:=fun A=>A.units+2<cLine
 inj:=fun hx hy=>hx.inj hy
 keeps:=fun x ho hd hs=>x.keeps ho hd hs
 pyHash:=fun hu hk h=>qCh hu hk h
 eqBool:=fun hu hx hy h=>qNx hu hx hy h
 quiet:=fun hk h=>qVb hk h
end
end DP

namespace L2
open PySem PySem.Spec PyProof.Rows
noncomputable abbrev PKy:=Str×List Key
noncomputable def PRel (x:PKy×Addr×V)(y:PKy×Addr×Value):Prop:=x.1=y.1∧x.2.1=y.2.1∧RelV x.2.2 y.2.2
noncomputable def PDo (P:Program)(w:World)(a:Addr)(xs:List (PKy×Addr×V)):HO:=.ext fun h=>xs.length≤sizeLine∧(a == sysModules)=false∧∃vs:List (PKy×Addr×Value),Paired PRel xs vs∧
 ∃o es ep,h.get? a=some o∧o.ExactDict∧o.data=.dict es ep∧es.toList=vs.map (entryOfKey (DP.pairKind P w))∧(vs.map (·.1)).Nodup
noncomputable def PkIn (H:Hp)(k:PKy)(b:Addr):Prop:=∃t,H b=some (.tup [.str k.1,.ref t])∧H t=some (.tup (k.2.map kV))
noncomputable def getP (xs:List (PKy×Addr×V))(k:PKy):Option V:=(xs.find? fun x=>decide (x.1=k)).map (·.2.2)
section
variable {P:Program}{w:World}{H:Hp}{h:Heap}{a b:Addr}{k:PKy}{xs:List (PKy×Addr×V)}{vs:List (PKy×Addr×Value)}
theorem vE (ok:HOk P w H h)(e:PkIn H k b):(DP.pairKind P w).is h k b:=by
 obtain⟨t,e1,e2⟩:=e
 obtain⟨_,its,r,o,h1,h2,n,h3,_⟩:=(show ObjOk P w H h b (.tup [.str k.1,.ref t]) from ok b _ e1)
 have kt:=qQb (P:=P) (w:=w) ok e2
 cases r with
 | cons r1 r=>
  cases r with
  | cons r2 r=>
   cases r
   cases r2
   obtain⟨u,rfl⟩:=r1
   exact⟨o,_,t,n,h1,h2,h3,jS _ _ _ _,kt⟩
theorem qXj (r:Paired PRel xs vs)(k:PKy):RelO (getP xs k) ((atKey vs k).map (·.2)):=by
 unfold getP atKey
 induction r with
 | nil=>exact trivial
 | @cons x y xs vs h t ih=>
  rw[List.find?_cons,List.find?_cons]
  obtain⟨h1,h2,h3⟩:=h
  by_cases e:x.1=k
  ·rw[decide_eq_true e,decide_eq_true (h1.symm.trans e)]
   exact h3
  ·rw[decide_eq_false e,decide_eq_false (fun z=>e (h1.trans z))]
   exact ih
theorem qFw (ok:HOk P w H h)(e:H a=some (PDo P w a xs))(ks:∀x∈xs,PkIn H x.1 x.2.1):xs.length≤sizeLine∧(a == sysModules)=false∧∃vs,Paired PRel xs vs∧h.DictOfH (DP.pairKind P w) a vs:=by
 obtain⟨⟨z,y,vs,r,o,es,ep,h1,h2,h3,h4,h5⟩,_⟩:=(show ObjOk P w H h a (PDo P w a xs) from ok a _ e)
 refine⟨z,y,vs,r,o,es,ep,h1,h2,h3,h4,fun x hx=>?_,h5⟩
 have all:∀{l:List (PKy×Addr×V)} {m:List (PKy×Addr×Value)},Paired PRel l m→(∀x∈l,PkIn H x.1 x.2.1)→∀x∈m,(DP.pairKind P w).is h x.1 x.2.1:=by
  intro l m q
  induction q with
  | nil=>intro _ x hx;exact nomatch hx
  | @cons p q ps qs hq t ih=>
   intro hp x hx
   rcases List.mem_cons.mp hx with e | hx
   ·subst e
    have:=vE (P:=P) (w:=w) ok (hp p List.mem_cons_self)
    rw[hq.1,hq.2.1] at this
    exact this
   ·exact ih (fun y hy=>hp y (List.mem_cons_of_mem _ hy)) x hx
 exact all r ks x hx
end
section
variable {X:Cx}{pins:List (Addr×Obj)}{σ:St}{H:Hp}{s:Shared}{a b:Addr}{k:PKy}{v:V}{r:Value}{xs:List (PKy×Addr×V)}{A:Around}{E:Value→Shared→Prop}
theorem qVg {Q:Value→Shared→Prop}(hu:A.units+3<cLine)(I:Inv X pins σ H s)(e:H a=some (PDo X.prog X.w a xs))(ks:∀x∈xs,PkIn H x.1 x.2.1)(kb:PkIn H k b)(g:getP xs k=some v)(h:∀w' s',Inv X pins σ H s'→RelV v w'→Q w' s'):
  wpAny (model X.prog X.w) A (getItem (.ref a) (.ref b)) Q E s:=by
 obtain⟨z,hd,vs,rel,dd⟩:=qFw I.hok e ks
 obtain⟨w',hw,rw'⟩:=RelO.some_of (v:=v) (o:=(atKey vs k).map (·.2)) (by rw[← g];exact qXj rel k)
 obtain⟨p,hp,hp2⟩:=Option.map_eq_some_iff.mp hw
 refine wpAny_getItem_heap (knd:=DP.pairKind X.prog X.w) (show A.in1.units+2<cLine by have:A.in1.units=A.units+1:=rfl;omega) (vE I.hok kb) dd hp ?_
 rw[hp2]
 exact h w' _ (I.tok _) rw'
theorem qFa {Q:Value→Shared→Prop}(hu:A.units+3<cLine)(I:Inv X pins σ H s)(e:H a=some (PDo X.prog X.w a xs))(ks:∀x∈xs,PkIn H x.1 x.2.1)(kb:PkIn H k b)(h:∀s',Inv X pins σ H s'→Q (.bool (!(getP xs k).isSome)) s'):
  wpAny (model X.prog X.w) A (compareOp .NotIn (.ref b) (.ref a)) Q E s:=by
 obtain⟨z,hd,vs,rel,dd⟩:=qFw I.hok e ks
 refine wpAny_notIn_heap (knd:=DP.pairKind X.prog X.w) (show A.in1.units+2<cLine by have:A.in1.units=A.units+1:=rfl;omega) (vE I.hok kb) hd dd ?_
 have q:=(qXj rel k).isSome_eq
 rw[Option.isSome_map] at q
 rw[← q]
 exact h _ (I.tok _)
theorem qVf {Q:Unit→Shared→Prop}(hu:A.units+3<cLine)(I:Inv X pins σ H s)(e:H a=some (PDo X.prog X.w a xs))(ks:∀x∈xs,PkIn H x.1 x.2.1)(kb:PkIn H k b)(g:getP xs k=none)(hl:xs.length<sizeLine)(rv:RelV v r)
  (h:∀s',Inv X pins σ (upd H a (PDo X.prog X.w a (xs++[(k,b,v)]))) s'→Q () s'):wpAny (model X.prog X.w) A (setItem (.ref a) (.ref b) r) Q E s:=by
 obtain⟨z,hd,vs,rel,dd⟩:=qFw I.hok e ks
 have hz:vs.length≤sizeLine:=by rw[← Paired.length rel];exact z
 have gn:atKey vs k=none:=by
  have q:=(qXj rel k).isSome_eq
  rw[g,Option.isSome_map] at q
  cases h:atKey vs k with
  | none=>rfl
  | some _=>rw[h] at q;cases q
 refine wpAny_setItem_heap (knd:=DP.pairKind X.prog X.w) (hsz:=hz) (show A.in1.units+2<cLine by have:A.in1.units=A.units+1:=rfl;omega) (vE I.hok kb) dd fun h' dd' hs=>h _ ?_
 rw[storedH_new gn] at dd'
 obtain⟨q,es,ep,hq,h2,h3,h4,_,h5⟩:=dd'
 refine qYv I (by rw[e];exact True.intro) hs ⟨q,hq⟩ ⟨⟨by rw[List.length_append];show xs.length+1≤_;omega,hd,_,Paired.snoc rel ⟨rfl,rfl,rv⟩,q,es,ep,hq,h2,h3,h4,h5⟩,⟨q,hq⟩,?_⟩
 rintro h1 h2' ⟨z1,z2,vs1,r1,o1,es1,ep1,g1,g2,g3,g4,g5⟩ kp
 exact⟨z1,z2,vs1,r1,o1,es1,ep1,kp o1 g1,g2,g3,g4,g5⟩
theorem qFb (h:Heap)(hb:sysModules<h.objs.size):ObjOk X.prog X.w H (h.push { cls:=.type "dict",data:=.dict #[] }) h.objs.size (PDo X.prog X.w h.objs.size []):=by
 refine⟨⟨Nat.zero_le _,beq_eq_false_iff_ne.mpr (Ne.symm (Nat.ne_of_lt hb)),[],.nil,_,#[],0,Heap.get?_push_size _ rfl,⟨rfl,rfl,rfl⟩,rfl,rfl,List.nodup_nil⟩,⟨_,Heap.get?_push_size _ rfl⟩,?_⟩
 rintro h1 h2' ⟨z1,z2,vs1,r1,o1,es1,ep1,g1,g2,g3,g4,g5⟩ kp
 exact⟨z1,z2,vs1,r1,o1,es1,ep1,kp o1 g1,g2,g3,g4,g5⟩
end
noncomputable def PAt (P:Program)(w:World)(H:Hp)(x y:V)(a:Addr)(b:Addr)(k:PKy)(xs:List (PKy×Addr×V)):Prop:=x=.ref a∧y=.ref b∧H a=some (PDo P w a xs)∧(∀z∈xs,PkIn H z.1 z.2.1)∧PkIn H k b
noncomputable def tPGet (P:Program)(w:World)(td ty:TE):TE:=fun σ H Q=>td σ H fun x H1=>ty σ H1 fun y H2=>∃a b k xs v,PAt P w H2 x y a b k xs∧getP xs k=some v∧Q v H2
noncomputable def qIf (P:Program)(w:World)(ty td:TE):TE:=fun σ H Q=>ty σ H fun y H1=>td σ H1 fun x H2=>∃a b k xs,PAt P w H2 x y a b k xs∧Q (.bl (!(getP xs k).isSome)) H2
noncomputable def sPPut (P:Program)(w:World)(td ty tv:TE):TS:=fun D σ H=>tv σ H fun v H1=>td σ H1 fun x H2=>ty σ H2 fun y H3=>∃a b k xs,PAt P w H3 x y a b k xs∧getP xs k=none∧xs.length<sizeLine∧D.nx σ (upd H3 a (PDo P w a (xs++[(k,b,v)])))
noncomputable def tDNewP (P:Program)(w:World):TE:=fun _ H Q=>∀p,H p=none→Q (.ref p) (upd H p (PDo P w p []))
section
variable {X:Cx}{P:Program}{w:World}{o i value:Expr}{pos pos':Pos}{td ty tv:TE}
theorem qJm (hu:X.A.units+3<cLine)(ho:PE X o td)(hi:PE X i ty)(hs:NoSl i)(hP:X.prog=P:=by rfl)(hw:X.w=w:=by rfl):PE X (.Subscript o i pos) (tPGet P w td ty):=by
 subst hP hw
 intro pins s σ H Q I h
 refine qWf PySem.F.slot_dict_getitem.lookup hs (thn (ho pins s σ H _ I h) fun u s1 ⟨x,H1,I1,rx,q1⟩=>thn (hi pins s1 σ H1 _ I1 q1) fun iv s2 ⟨y,H2,I2,ry,a,b,k,xs,v,⟨ex,ey,e,ks,kb⟩,g,q2⟩=>?_)
 subst ex ey
 obtain rfl:u=Value.ref a:=rx
 obtain rfl:iv=Value.ref b:=ry
 obtain⟨_,_,_,_,dd⟩:=qFw I2.hok e ks
 exact⟨dd.typeIs,qVg hu I2 e ks kb g fun w' s3 I3 rw'=>⟨v,H2,I3,rw',q2⟩⟩
theorem wJ (hu:X.A.units+3<cLine)(hi:PE X i ty)(ho:PE X o td)(hP:X.prog=P:=by rfl)(hw:X.w=w:=by rfl):PC X .NotIn i o (qIf P w ty td):=by
 subst hP hw
 intro pins s σ H Q I h
 refine thn (hi pins s σ H _ I h) fun iv s1 ⟨y,H1,I1,ry,q1⟩=>thn (ho pins s1 σ H1 _ I1 q1) fun u s2 ⟨x,H2,I2,rx,a,b,k,xs,⟨ex,ey,e,ks,kb⟩,q2⟩=>?_
 subst ex ey
 obtain rfl:u=Value.ref a:=rx
 obtain rfl:iv=Value.ref b:=ry
 exact qFa hu I2 e ks kb fun s3 I3=>⟨.bl _,H2,I3,rfl,q2⟩
theorem qJi (hu:X.A.units+3<cLine)(ho:PE X o td)(hi:PE X i ty)(hv:PE X value tv)(hs:swapsWith value (some (.Subscript o i pos')) pos.line X.env=pure false)(hP:X.prog=P:=by rfl)(hw:X.w=w:=by rfl):
  PS X (.Assign [.Subscript o i pos'] value pos) (sPPut P w td ty tv):=by
 subst hP hw
 intro pins s σ H D I h
 refine wpAny_Assign_Subscript (thn (hv pins s σ H _ I h) fun r s1 ⟨v,H1,I1,rv,q1⟩=>thn (ho pins s1 σ H1 _ I1 q1) fun u s2 ⟨x,H2,I2,rx,q2⟩=>thn (hi pins s2 σ H2 _ I2 q2) fun iv s3 ⟨y,H3,I3,ry,a,b,k,xs,⟨ex,ey,e,ks,kb⟩,g,hl,q3⟩=>?_) hs
 subst ex ey
 obtain rfl:u=Value.ref a:=rx
 obtain rfl:iv=Value.ref b:=ry
 exact qVf hu I3 e ks kb g hl rv fun s4 I4=>⟨σ,_,I4,q3⟩
theorem qXk (hP:X.prog=P:=by rfl)(hw:X.w=w:=by rfl):PE X (.Dict [] [] pos) (tDNewP P w):=by
 subst hP hw
 exact fun pins s σ H Q I h=>wpAny_Dict_empty ⟨.ref s.heap.objs.size,_,I.laid (a:=s.heap.objs.size) (o:=PDo X.prog X.w s.heap.objs.size []) (t':=s.toks) (fun _ _ q=>Heap.get?_push_of_some _ q) (Nat.le_refl _) (qFb s.heap I.big),rfl,h _ (I.hok.fresh (Nat.le_refl _))⟩
end
end L2

local macro_rules | `(tactic| wtm_at "zh")=>`(tactic| first | assumption | exact L2.qV | (refine L2.qK (by assumption) _ _ _ ?_;wtm_at "zh") | (refine(show L2.Same _ _ by assumption) _ _ ?_;wtm_at "zh"))
local macro_rules | `(tactic| wtm_at "zs")=>`(tactic| first | assumption | exact L2.SqT.of (by wtm_at "zh") | exact L2.SqL.of (by wtm_at "zh") | (refine L2.Same.seq (by assumption) ?_;wtm_at "zs"))
local macro_rules | `(tactic| wtm_at "zo")=>`(tactic| first | exact Or.inl rfl | exact Or.inr rfl)
local macro_rules | `(tactic| wtm_at "zat")=>`(tactic| first | rfl | assumption | exact L2.qNl _ _ | exact FP.qEa (by assumption) | exact L2.zS (by assumption))
local macro_rules | `(tactic| wtm_at "zw")=>`(tactic| repeat first
 | (with_reducible first | apply L2.qRh | apply L2.qSz | apply L2.w_c | apply L2.qOw | apply L2.w_op | apply L2.w_I0 | apply L2.qOq | apply L2.w_B | apply L2.w_bl | apply L2.qSx | apply L2.w_not | apply L2.w_and | apply L2.w_or | apply L2.qOl | apply L2.qOk | apply L2.w_if | apply L2.qRo | apply L2.qOd | apply L2.qRi | apply L2.qOv | apply L2.qOg | apply L2.qRl | apply L2.qOi | apply L2.w_cb | apply L2.qRg | apply L2.qRm | apply L2.w_bm | apply L2.w_sl | apply L2.qEd | apply L2.qOj | apply L2.qOc | apply L2.qIc | apply L2.qIb | apply L2.qOa | apply L2.qOz | apply L2.qOf | apply L2.qOe)
 | ((with_reducible show L2.tVar _ _ _ _);refine L2.w_var rfl ?_)
 | ((with_reducible show L2.rEq _ _ _ _);refine L2.w_eq rfl ?_)
 | ((with_reducible show L2.rNe _ _ _ _);refine L2.w_ne rfl ?_)
 | ((with_reducible show L2.rIxT _ _ _ _ _);refine L2.qRn (by wtm_at "zs") (by wtm_at "zat") ?_)
 | ((with_reducible show L2.rIxL _ _ _ _ _);refine L2.qIa (by wtm_at "zs") (by wtm_at "zat") ?_)
 | ((with_reducible show L2.gTup _ _ _ _ _ _ _);refine L2.qOb (by wtm_at "zs") rfl ?_)
 | ((with_reducible show L2.rLen _ _ _ _);refine L2.w_len (by first | exact .inl (by wtm_at "zs") | exact .inr (by wtm_at "zs")) ?_)
 | apply L2.qQj (FP.jM _)
 | refine L2.yS (FP.xK (by assumption)) ?_
 | refine L2.yS (FP.xK (by decide +kernel)) ?_
 | (with_reducible first | apply L2.iteT | apply L2.iteF | apply L2.iteNT | apply L2.iteNF))
local macro_rules | `(tactic| wtm_at "zf")=>`(tactic| wtm_at "zw";(with_reducible first | apply L2.qSq | apply L2.qOh);wtm_at "zw")
set_option tactic.hygienic false
namespace FP
open PySem L2
structure Bl (mg:Str→Option Value):Prop where
 len':mg "len" = none
 range':mg "range" = none
 min':mg "min" = none
 isinstance':mg "isinstance" = none
 list':mg "list" = none
 reversed':mg "reversed" = none
 tuple':mg "tuple" = none
 int':mg "int" = none
 bool':mg "bool" = none
 dict':mg "dict" = none
 zip':mg "zip" = none
structure FunE (K:PySem.W.Frag)(mg:Str→Option Value)(x:Str)(f:Addr)(fd:FuncData)(ps:List Str):Prop where
 mg:mg x=some (.ref f)
 kp:PySem.W.keepIn K (.ref f)=true
 bd:Binds K fd ps []
section
seal L2.PE L2.PA L2.PS L2.PSs
variable {P:Program}{w:World}{K:PySem.W.Frag}{mg:Str→Option Value}{base:Heap}

theorem qPh {n:Int}{B:Nat}(h0:0≤n)(h:n<(B:Int)):n.natAbs<B:=by omega
theorem big (n:Int)(h0:0≤n)(h:n<10 ^ 200):n.natAbs<2 ^ 1000:=qPh h0 (Int.lt_of_lt_of_le h (by decide +kernel))
theorem qHn {a b c d:Int}(ha:0≤a)(hb:0≤b)(h1:a≤c)(h2:b≤d):0≤a * b∧a * b≤c * d:=
 ⟨Int.mul_nonneg ha hb,Int.mul_le_mul h1 h2 hb (Int.le_trans ha h1)⟩

theorem qCo {K:PySem.W.Frag}{a:Addr}{xs:List V}{g:TG}{tb:TS}{D:Ends}{σ:St}{H:Hp}(Pv:Nat→St→Hp→Prop)(h0:Pv 0 σ H)(hl:∀i σ H,i≤xs.length→Pv i σ H→SqL K H a xs)
  (hs:∀(N:St→Hp→Prop) (rt:VK) (bk:St→Hp→Prop) i x σ H,xs[i]? = some x→Pv i σ H→(∀σ H,Pv (i+1) σ H→N σ H)→g x σ H fun σ2 H2=>tb ⟨N,rt,bk,N⟩ σ2 H2) (hd:∀σ H,Pv xs.length σ H→D.nx σ H):
  ∃W:Nat→Nat→St→Hp→Prop,(∃m,W 0 m σ H)∧∀i m σ H,W i m σ H→
   ((Itl K a).stop i H∧D.nx σ H)∨((Itl K a).go i H∧∃N:St→Hp→Prop,(∀σ' H',N σ' H'→∃m',m'<m∧W (i+1) m' σ' H')∧∀x H',(Itl K a).yld i H x H'→g x σ H' fun σ2 H2=>tb { D with nx:=N,ct:=N,bk:=D.nx } σ2 H2):=
 kB Pv h0 hl (fun i x σ H e p=>hs _ _ _ i x σ H e p fun _ _ z=>z) hd
theorem qQf {lo:Int}{n:Nat}{g:TG}{tb:TS}{D:Ends}{σ:St}{H:Hp}(Pv:Nat→St→Hp→Prop)(h0:Pv 0 σ H)
  (hs:∀(N:St→Hp→Prop) (rt:VK) (bk:St→Hp→Prop) i σ H,i<n→Pv i σ H→(∀σ H,Pv (i+1) σ H→N σ H)→g (.int (lo+i)) σ H fun σ2 H2=>tb ⟨N,rt,bk,N⟩ σ2 H2) (hd:∀σ H,Pv n σ H→D.nx σ H):
  ∃W:Nat→Nat→St→Hp→Prop,(∃m,W 0 m σ H)∧∀i m σ H,W i m σ H→
   ((Itr lo n).stop i H∧D.nx σ H)∨((Itr lo n).go i H∧∃N:St→Hp→Prop,(∀σ' H',N σ' H'→∃m',m'<m∧W (i+1) m' σ' H')∧∀x H',(Itr lo n).yld i H x H'→g x σ H' fun σ2 H2=>tb { D with nx:=N,ct:=N,bk:=D.nx } σ2 H2):=
 qCn Pv h0 (fun i σ H e p=>hs _ _ _ i σ H e p fun _ _ z=>z) hd

theorem qEa {ns:List Int}{k:Nat}{z:Int}(h:ns[k]? = some z):atI (intsV ns) (k:Int)=some (.int z):=zS (by rw[List.getElem?_map,h];rfl)
noncomputable def cwords:List Str:=["not","and","yes"]
noncomputable def BoxIn (H:Hp)(b:Str×Int)(u:V):Prop:=∃a,u=.ref a∧H a=some (.tup [.str b.1,.int b.2])
structure Named (ws:List Str):Prop where
 nd:ws.Nodup
 no:∀x∈ws,x∉cwords
theorem BoxIn.mono {H H':Hp}(h:Tups H H'){b:Str×Int}{u:V}(x:BoxIn H b u):BoxIn H' b u:=let ⟨a,e,q⟩:=x;⟨a,e,h _ _ q⟩
theorem xJ {H H':Hp}(h:Tups H H'){bs:List (Str×Int)}{us:List V}(p:Paired (BoxIn H) bs us):Paired (BoxIn H') bs us:=Paired.mapP p fun _ _ x=>x.mono h
noncomputable def Expr' (ws:List Str):Th→Prop
 | .num n=>0≤n∧n<10
 | .box x=>x∈ws
 | .nul _=>False
 | .un _ _=>False
 | .bin k a b=>(k = "plus" ∨ k = "less")∧Expr' ws a∧Expr' ws b
theorem qBc:Th.Op "plus" := ⟨by decide +kernel,by decide +kernel⟩
theorem qBe:Th.Op "less" := ⟨by decide +kernel,by decide +kernel⟩
noncomputable def Cond' (ws:List Str):Th→Prop
 | .num _=>False
 | .box _=>False
 | .nul k=>k = "yes"
 | .un k a=>k = "not" ∧ Cond' ws a
 | .bin k a b=>((k = "same" ∨ k = "under")∧Expr' ws a∧Expr' ws b)∨(k = "both" ∧ Cond' ws a∧Cond' ws b)
noncomputable def Th.worth (ρ:Str→Int):Th→Int
 | .num n=>n
 | .box x=>ρ x
 | .nul _=>0
 | .un _ _=>0
 | .bin k a b=>if k = "plus" then a.worth ρ+b.worth ρ else a.worth ρ - b.worth ρ
noncomputable def Env' (kvs:List (Key×V))(ws:List Str)(ρ:Str→Int):Prop:=∀x∈ws,valV kvs (Sum.inr x)=some (.int (ρ x))∧0≤ρ x∧ρ x<10

theorem jN:xM ["expression","values","kind","one","other"] ["expression","values"] (xW (top 8)):=⟨rfl,rfl,rfl,by decide +kernel,rfl,by decide +kernel,by decide +kernel⟩
noncomputable def zD (n:Nat):Sp:=fun vs H Q _=>∃(t:Th) (v:V) (d:Addr) (kvs:List (Key×V)) (ws:List Str) (ρ:Str→Int),vs=[v,.ref d]∧t.At H v∧Expr' ws t∧t.dep≤n∧H d=some (.dK kvs)∧Env' kvs ws ρ∧Q (.int (t.worth ρ)) H
theorem qZe {f:Addr}{fd:FuncData}:FnOk P w K mg base CX0 1 f fd ["expression","values"] (zD 0):=by
 have no:∀vs H Q E,¬zD 0 vs H Q E:=fun vs H Q E h=>by
  obtain⟨t,_,_,_,_,_,_,_,_,h1,_⟩:=h
  have:=t.dep_pos
  omega
 exact⟨fun vs H Q E h=>absurd h (no vs H Q E),fun A outer s H args us vs Q E _ _ _ _ h=>absurd h (no vs H Q E)⟩
theorem qZd {n:Nat}{f:Addr}{fd:FuncData}(F:Fun K "worth_by" "worth_by" (top 8) f fd)(G_worth_by:FnOk P w K mg base CX0 (n+1) f fd ["expression","values"] (zD n))(E_worth_by:FunE K mg "worth_by" f fd ["expression","values"]):
  FnOk P w K mg base CX0 (n+2) f fd ["expression","values"] (zD (n+1)):=by
 refine F.ok jN (fun vs H Q E h=>?_) (fun cdv A outer s H vs Q E hr h=>?_)
 ·obtain⟨_,_,_,_,_,_,rfl,_⟩:=h
  rfl
 obtain⟨t,v,d,kvs,ws,ρ,rfl,at',ex,hn,hd,env,q⟩:=h
 have hu:=qGx hr
 refine⟨_,(qZ (qI (i:=2) jN.nd rfl (by wtm_at "zo") (xE (qR (K:=K)) (pv 0) qD (fun _ _=>rfl)))
  (qZ (zG (qP jE (pv 2) qE (xC _)) (qJ (qM (xE (qR (K:=K)) (pv 0) qD (fun _ _=>rfl)))) qY)
  (qZ (zG (qP jE (pv 2) qE (xC _)) (qJ (qM (wX hu (pv 1) (xE (qR (K:=K)) (pv 0) qD (fun _ _=>rfl)) (fun _ _=>rfl)))) qY)
  (qZ (qI (i:=3) jN.nd rfl (by wtm_at "zo") (wZ G_worth_by hr rfl E_worth_by.mg E_worth_by.kp E_worth_by.bd .nil pass0 (qQ (xE (qR (K:=K)) (pv 0) qD (fun _ _=>rfl)) (qQ (pv 1) qX))))
  (qZ (qI (i:=4) jN.nd rfl (by wtm_at "zo") (wZ G_worth_by hr rfl E_worth_by.mg E_worth_by.kp E_worth_by.bd .nil pass0 (qQ (xE (qR (K:=K)) (pv 0) qD (fun _ _=>rfl)) (qQ (pv 1) qX))))
  (qJ (qM (vD (qP jE (pv 2) qE (xC _)) (qU zI (pv 3) (pv 4)) (qU kY (pv 3) (pv 4)))))))))),?_⟩
 cases t with
 | nul _=>exact False.elim ex
 | un _ _=>exact False.elim ex
 | num n=>
  obtain⟨a,ev,ea⟩:=at'
  subst ev
  refine⟨_,rfl,a,_,0,.str "number",rfl,rfl,SqT.of ea,rfl,?_⟩
  refine⟨_,rfl,rfl,_,rfl,?_⟩
  rw[jM]
  refine iteT ?_
  exact⟨_,rfl,a,_,1,.int n,rfl,rfl,SqT.of ea,rfl,q⟩
 | box x=>
  obtain⟨a,ev,ea⟩:=at'
  subst ev
  refine⟨_,rfl,a,_,0,.str "box",rfl,rfl,SqT.of ea,rfl,?_⟩
  refine⟨_,rfl,rfl,_,rfl,?_⟩
  rw[xK (Ne.symm qSc)]
  refine iteF ?_
  refine⟨_,rfl,rfl,_,rfl,?_⟩
  rw[jM]
  refine iteT ?_
  refine⟨_,rfl,_,rfl,a,_,1,.str x,rfl,rfl,SqT.of ea,rfl,d,.int (ρ x),rfl,?_,q⟩
  rw[← (env x ex).1]
  exact DGet.k (k:=Sum.inr x) hd
 | bin k t1 t2=>
  obtain⟨a,u1,u2,ev,ea,a1,a2⟩:=at'
  obtain⟨hk,x1,x2⟩:=ex
  subst ev
  have hn':max t1.dep t2.dep+1≤n+1:=hn
  have k1:k ≠ "number" := by rcases hk with rfl | rfl;exact qBc.2;exact qBe.2
  have k2:k ≠ "box" := by rcases hk with rfl | rfl;exact qBc.1;exact qBe.1
  refine⟨_,rfl,a,_,0,.str k,rfl,rfl,SqT.of ea,rfl,?_⟩
  refine⟨_,rfl,rfl,_,rfl,?_⟩
  rw[xK k1]
  refine iteF ?_
  refine⟨_,rfl,rfl,_,rfl,?_⟩
  rw[xK k2]
  refine iteF ?_
  refine⟨_,rfl,a,_,1,u1,rfl,rfl,SqT.of ea,rfl,_,rfl,t1,u1,d,kvs,ws,ρ,rfl,a1,x1,by omega,hd,env,?_⟩
  refine⟨_,rfl,a,_,2,u2,rfl,rfl,SqT.of ea,rfl,_,rfl,t2,u2,d,kvs,ws,ρ,rfl,a2,x2,by omega,hd,env,?_⟩
  refine⟨_,rfl,rfl,_,rfl,?_⟩
  have q':Q (.int (if k = "plus" then t1.worth ρ+t2.worth ρ else t1.worth ρ - t2.worth ρ)) H:=q
  refine ite2 (fun c=>?_) (fun c=>?_)
  ·have c':k = "plus" := by
    have z:=of_decide_eq_true c
    cases z
    rfl
   rw[if_pos c'] at q'
   exact⟨_,rfl,_,rfl,_,_,rfl,rfl,q'⟩
  ·have c':k ≠ "plus" := fun z=>c (by rw[z,jM])
   rw[if_neg c'] at q'
   exact⟨_,rfl,_,rfl,_,_,rfl,rfl,q'⟩
theorem wY {f:Addr}{fd:FuncData}(F:Fun K "worth_by" "worth_by" (top 8) f fd)(E_worth_by:FunE K mg "worth_by" f fd ["expression","values"]):∀n:Nat,FnOk P w K mg base CX0 (n+1) f fd ["expression","values"] (zD n)
 | 0=>qZe
 | n+1=>qZd F (wY F E_worth_by n) E_worth_by

theorem qQa {x:Str}:∀(kvs:List (Str×V)) (acc:List (Key×V)),((valV acc (Sum.inr x)).isSome=true∨x∈kvs.map (·.1))→(valV (mergeK acc (pairK kvs)) (Sum.inr x)).isSome=true
 | [],acc,h=>by rcases h with h | h;exact h;cases h
 | (n,v)::kvs,acc,h=>by
  show(valV (mergeK (putK acc (Sum.inr n) v) (pairK kvs)) (Sum.inr x)).isSome=true
  refine qQa kvs _ ?_
  rw[jY]
  by_cases e:x=n
  ·left;subst e;rw[if_pos rfl];rfl
  ·rw[if_neg (fun z=>e (Sum.inr.inj z))]
   rcases h with h | h
   ·exact .inl h
   ·rcases List.mem_cons.mp h with h | h
    ·exact absurd h e
    ·exact .inr h
theorem qZh {Pr:V→Prop}:∀(kvs:List (Str×V)) (acc:List (Key×V)),(∀kv∈kvs,Pr kv.2)→(∀k v,valV acc k=some v→Pr v)→∀k v,valV (mergeK acc (pairK kvs)) k=some v→Pr v
 | [],acc,_,h=>h
 | (n,v)::kvs,acc,hk,h=>by
  show∀k v',valV (mergeK (putK acc (Sum.inr n) v) (pairK kvs)) k=some v'→Pr v'
  refine qZh kvs _ (fun kv hkv=>hk kv (List.mem_cons_of_mem _ hkv)) fun k v' e=>?_
  rw[jY] at e
  by_cases c:k=Sum.inr n
  ·rw[if_pos c] at e;cases e;exact hk (n,v) List.mem_cons_self
  ·rw[if_neg c] at e;exact h k v' e
noncomputable def envOf (kvs:List (Key×V))(x:Str):Int:=match valV kvs (Sum.inr x) with
 | some (.int i)=>i
 | _=>0
noncomputable abbrev kvsOf (bs:List (Str×Int))(vals:List Int):List (Key×V):=mergeK [] (zipK (bs.map (·.1)) (intsV vals))
noncomputable def Stands (bs:List (Str×Int))(vals:List Int):Prop:=vals.length=bs.length∧∀v∈vals,0≤v∧v<10
theorem qDq {bs:List (Str×Int)}{vals:List Int}(h:Stands bs vals):Env' (kvsOf bs vals) (bs.map (·.1)) (envOf (kvsOf bs vals)):=fun x hx=>by
 have s1:(valV (kvsOf bs vals) (Sum.inr x)).isSome=true:=qQa (x:=x) ((bs.map (fun b:Str×Int=>b.1)).zip (intsV vals)) [] (.inr (by
  rw[List.map_fst_zip]
  ·exact hx
  ·rw[List.length_map,xP,h.1];exact Nat.le_refl _))
 have s2:=qZh (Pr:=fun v=>∃i:Int,v=.int i∧0≤i∧i<10) ((bs.map (fun b:Str×Int=>b.1)).zip (intsV vals)) [] (fun kv hkv=>by
  obtain⟨a,b⟩:=kv
  obtain⟨i,hi,e⟩:=List.mem_map.mp (List.of_mem_zip hkv).2
  exact⟨i,e.symm,h.2 i hi⟩) (fun k v e=>by cases e) (Sum.inr x)
 cases e:valV (kvsOf bs vals) (Sum.inr x) with
 | none=>rw[e] at s1;cases s1
 | some v=>
  obtain⟨i,rfl,h0,h1⟩:=s2 v e
  have e2:envOf (kvsOf bs vals) x=i:=by unfold envOf;rw[e]
  rw[e2]
  exact⟨rfl,h0,h1⟩

noncomputable def Fits (bs:List (Str×Int))(vals:List Int):Prop:=vals.length=bs.length∧∀(i:Nat) b v,bs[i]? = some b→vals[i]? = some v→0≤v∧v<b.2
theorem Fits.stands {bs:List (Str×Int)}{vals:List Int}(f:Fits bs vals)(h25:∀b∈bs,2≤b.2∧b.2≤5):Stands bs vals:=⟨f.1,fun v hv=>by
 obtain⟨i,hi⟩:=List.mem_iff_getElem?.mp hv
 have hl:i<bs.length:=by rw[← f.1];exact(List.getElem?_eq_some_iff.mp hi).1
 have:=f.2 i _ v (List.getElem?_eq_getElem hl) hi
 have:=h25 _ (List.getElem_mem hl)
 omega⟩
theorem kO:xM ["boxes","standing"] ["boxes","standing"] (xW (top 7)):=⟨rfl,rfl,rfl,by decide +kernel,rfl,by decide +kernel,by decide +kernel⟩
theorem zR:CompOk (xW (top 7)) ["boxes","standing"] (qAw (argOf (argOf (asgVal (stAt (xA (top 7)) 0)) 0) 0)) ["name","size"] 2 []:=
 ⟨by decide +kernel,by decide +kernel,by decide +kernel,by decide +kernel,by decide +kernel,by decide +kernel,by decide +kernel,by decide +kernel⟩
structure World' (H:Hp)(bx st:Addr)(bs:List (Str×Int))(vals:List Int):Prop where
 boxes:∃us,H bx=some (.lst us)∧Paired (BoxIn H) bs us
 stand:H st=some (.tup (intsV vals))
 ok:Stands bs vals
 le:bs.length≤100
noncomputable def vA:Sp:=fun vs H Q _=>∃(bx st:Addr) (bs:List (Str×Int)) (vals:List Int),vs=[.ref bx,.ref st]∧World' H bx st bs vals∧
 ∀(p:Addr) (H':Hp),Same H H'→H' p=some (.dK (kvsOf bs vals))→Q (.ref p) H'
theorem qZf {f:Addr}{fd:FuncData}(F:Fun K "values_by_name" "values_by_name" (top 7) f fd)(B:Bl mg):FnOk P w K mg base CX0 1 f fd ["boxes","standing"] vA:=by
 refine F.ok kO (fun vs H Q E h=>?_) (fun cdv A outer s H vs Q E hr h=>?_)
 ·obtain⟨_,_,_,_,rfl,_⟩:=h
  rfl
 obtain⟨bx,st,bs,vals,rfl,W,q⟩:=h
 obtain⟨us,e1,p1⟩:=W.boxes
 refine⟨_,qJ (qM (qJn rfl rfl B.dict' rfl B.zip' (qQ (jV rfl zR (qBk (pv 0))
  (fun cl fp s H=>show PG _ _ (gTup K 2 (gCons (gName 0) (gCons (gName 1) gNil))) from qHh rfl (qG (qF (i:=0) zR.nd rfl (Or.inl rfl) (.inr rfl)) (qG (qF (i:=1) zR.nd rfl (Or.inl rfl) (.inr rfl)) qH)))
  (fun cl fp s H=>zE) (fun cl fp s H=>pv 0)) (qQ (pv 1) qX)))),?_⟩
 refine⟨_,rfl,bx,rfl,⟨us,SqL.of e1⟩,?_⟩
 refine jB (xs:=us) (fun D i ys H'=>ys=strsV ((bs.take i).map (·.1))∧∀b o,H b=some o→H' b=some o) (fun D hD=>⟨rfl,qK hD _⟩)
  (fun D i ys H' _ hP=>(show Same H H' from hP.2).seq (SqL.of e1)) (fun D i x ys H' N hD hDy ex hP hN=>?_) (fun D ys H2 hD hDy hP=>?_)
 ·obtain⟨rfl,hk⟩:=hP
  obtain⟨b,eb⟩:∃b,bs[i]? = some b:=⟨_,List.getElem?_eq_getElem (by rw[p1.length];exact(List.getElem?_eq_some_iff.mp ex).1)⟩
  obtain⟨ba,rfl,hba⟩:=xY p1 eb ex
  refine⟨ba,_,rfl,SqT.of (hk _ _ hba),rfl,_,_,rfl,_,_,rfl,rfl,⟨[some (.str b.1),some (.int b.2)],rfl,rfl⟩,?_⟩
  have wle:=W.le
  refine⟨_,rfl,hDy,?_,hN _ _ qV ⟨?_,fun b o e=>?_⟩⟩
  ·rw[xV,List.length_map,List.length_take];exact small (by omega)
  ·rw[List.take_add_one,eb,List.map_append,qWg];rfl
  ·rw[qW (qA e hD)];exact hk _ _ e
 obtain⟨rfl,hk2⟩:=hP
 have lb:us.length=bs.length:=p1.length.symm
 rw[lb,List.take_length] at hDy
 have wle:=W.le
 refine⟨_,rfl,D,st,bs.map (·.1),intsV vals,rfl,SqL.of hDy,SqT.of (hk2 _ _ W.stand),?_,?_,fun p hp=>?_⟩
 ·rw[List.length_map,xP,W.ok.1]
 ·rw[List.length_map];omega
 ·exact q p _ ((show Same H H2 from hk2).trans (qK hp _)) qV

theorem qEg:xM ["expression","boxes","standing"] ["expression","boxes","standing"] (xW (top 5)):=⟨rfl,rfl,rfl,by decide +kernel,rfl,by decide +kernel,by decide +kernel⟩
noncomputable def qWh:Sp:=fun vs H Q _=>∃(t:Th) (v:V) (bx st:Addr) (bs:List (Str×Int)) (vals:List Int),vs=[v,.ref bx,.ref st]∧t.At H v∧Expr' (bs.map (·.1)) t∧t.dep≤12∧World' H bx st bs vals∧
 ∀H',Same H H'→Q (.int (t.worth (envOf (kvsOf bs vals)))) H'
theorem qFc {f g h:Addr}{fd gd hd:FuncData}(F:Fun K "worth" "worth" (top 5) f fd)(G_worth_by:FnOk P w K mg base CX0 13 g gd ["expression","values"] (zD 12))(E_worth_by:FunE K mg "worth_by" g gd ["expression","values"])
  (G_values_by_name:FnOk P w K mg base CX0 13 h hd ["boxes","standing"] vA) (E_values_by_name:FunE K mg "values_by_name" h hd ["boxes","standing"]):FnOk P w K mg base CX0 14 f fd ["expression","boxes","standing"] qWh:=by
 refine F.ok qEg (fun vs H Q E h=>?_) (fun cdv A outer s H vs Q E hr h=>?_)
 ·obtain⟨_,_,_,_,_,_,rfl,_⟩:=h
  rfl
 obtain⟨t,v,bx,st,bs,vals,rfl,at',ex,dp,W,q⟩:=h
 refine⟨_,(qJ (qM (wZ G_worth_by hr rfl E_worth_by.mg E_worth_by.kp E_worth_by.bd .nil pass0 (qQ (pv 0) (qQ (wZ G_values_by_name hr rfl E_values_by_name.mg E_values_by_name.kp E_values_by_name.bd .nil pass0 (qQ (pv 1) (qQ (pv 2) qX))) qX))))),?_⟩
 refine⟨_,rfl,_,rfl,_,rfl,bx,st,bs,vals,rfl,W,fun p H' S e=>?_⟩
 exact⟨t,v,p,_,_,_,rfl,at'.mono (qB S),ex,dp,e,qDq W.ok,q H' S⟩

noncomputable def Th.truth (ρ:Str→Int):Th→Bool
 | .num _=>false
 | .box _=>false
 | .nul _=>true
 | .un _ a=>!a.truth ρ
 | .bin k a b=>if k = "both" then a.truth ρ && b.truth ρ else if k = "same" then decide (a.worth ρ=b.worth ρ) else decide (a.worth ρ<b.worth ρ)
theorem kI {ρ:Str→Int}{a b:Th}:(Th.bin "both" a b).truth ρ=(a.truth ρ && b.truth ρ):=by
 show(if ("both" : Str) = "both" then _ else _)=_
 rw[if_pos rfl]
theorem qSb:("same" : Str) ≠ "both" := by decide +kernel
theorem qSa:("under" : Str) ≠ "both" := by decide +kernel
theorem qSw:("under" : Str) ≠ "same" := by decide +kernel
theorem yH {ρ:Str→Int}{a b:Th}:(Th.bin "same" a b).truth ρ=decide (a.worth ρ=b.worth ρ):=by
 show(if ("same" : Str) = "both" then _ else if ("same" : Str) = "same" then _ else _)=_
 rw[if_neg qSb,if_pos rfl]
theorem vH {ρ:Str→Int}{a b:Th}:(Th.bin "under" a b).truth ρ=decide (a.worth ρ<b.worth ρ):=by
 show(if ("under" : Str) = "both" then _ else if ("under" : Str) = "same" then _ else _)=_
 rw[if_neg qSa,if_neg qSw]

theorem jP:xM ["condition","values","kind","one","other"] ["condition","values"] (xW (top 9)):=⟨rfl,rfl,rfl,by decide +kernel,rfl,by decide +kernel,by decide +kernel⟩
noncomputable def kJ (n:Nat):Sp:=fun vs H Q _=>∃(t:Th) (v:V) (d:Addr) (kvs:List (Key×V)) (ws:List Str) (ρ:Str→Int),vs=[v,.ref d]∧t.At H v∧Cond' ws t∧t.dep≤n∧t.dep≤12∧H d=some (.dK kvs)∧Env' kvs ws ρ∧Q (.bl (t.truth ρ)) H
theorem qJx {n:Nat}(F:Fd K mg "holds_by" (top 9) ["condition","values"])(D_holds_by:Dn P w K mg base "holds_by" (n+13) ["condition","values"] (kJ n))(D_worth_by:Dn P w K mg base "worth_by" 13 ["expression","values"] (zD 12)):
  Dn P w K mg base "holds_by" (n+14) ["condition","values"] (kJ (n+1)):=by
 refine F.ok jP (fun vs H Q E h=>?_) (fun f cdv A outer s H vs Q E hr h=>?_)
 ·obtain⟨_,_,_,_,_,_,rfl,_⟩:=h
  rfl
 obtain⟨t,v,d,kvs,ws,ρ,rfl,at',cx,hn,h12,hd,env,q⟩:=h
 refine⟨_,(qZ (qI (i:=2) jP.nd rfl (by wtm_at "zo") (xE (qR (K:=K)) (pv 0) qD (fun _ _=>rfl)))
  (qZ (zG (qP jE (pv 2) qE (xC _)) (qJ (qM qBa)) qY)
  (qZ (zG (qP jE (pv 2) qE (xC _)) (qJ (qM (qHl (qC D_holds_by hr (qQ (xE (qR (K:=K)) (pv 0) qD (fun _ _=>rfl)) (qQ (pv 1) qX)))))) qY)
  (qZ (zG (qP jE (pv 2) qE (xC _)) (qJ (qM (qKh (qC D_holds_by hr (qQ (xE (qR (K:=K)) (pv 0) qD (fun _ _=>rfl)) (qQ (pv 1) qX))) (qBv (qC D_holds_by hr (qQ (xE (qR (K:=K)) (pv 0) qD (fun _ _=>rfl)) (qQ (pv 1) qX))))))) qY)
  (qZ (qI (i:=3) jP.nd rfl (by wtm_at "zo") (qC D_worth_by hr (qQ (xE (qR (K:=K)) (pv 0) qD (fun _ _=>rfl)) (qQ (pv 1) qX))))
  (qZ (qI (i:=4) jP.nd rfl (by wtm_at "zo") (qC D_worth_by hr (qQ (xE (qR (K:=K)) (pv 0) qD (fun _ _=>rfl)) (qQ (pv 1) qX))))
  (qJ (qM (vD (qP jE (pv 2) qE (xC _)) (kU jE (pv 3) (pv 4) (xC _)) (kU qBd (pv 3) (pv 4) (xC _))))))))))),?_⟩
 match t,at',cx,hn,h12,q with
 | .nul k,⟨a,ev,ea⟩,cx,hn,h12,q=>
  cases(show k = "yes" from cx)
  subst ev
  wtm_at "zw"
  exact q
 | .un k t1,⟨a,u,ev,ea,a1⟩,⟨hk,c1⟩,hn,h12,q=>
  cases hk
  subst ev
  have hn':t1.dep+1≤n+1:=hn
  have h12':t1.dep+1≤12:=h12
  wtm_at "zw"
  refine⟨t1,u,d,kvs,ws,ρ,rfl,a1,c1,by omega,by omega,hd,env,?_⟩
  wtm_at "zw"
  exact q
 | .bin k t1 t2,⟨a,u1,u2,ev,ea,a1,a2⟩,cx,hn,h12,q=>
  subst ev
  have hn':max t1.dep t2.dep+1≤n+1:=hn
  have h12':max t1.dep t2.dep+1≤12:=h12
  rcases cx with⟨hk,x1,x2⟩ | ⟨hk,c1,c2⟩
  ·have n1:k ≠ "yes" := by rcases hk with rfl | rfl <;> decide +kernel
   have n2:k ≠ "not" := by rcases hk with rfl | rfl <;> decide +kernel
   have n3:k ≠ "both" := by rcases hk with rfl | rfl <;> decide +kernel
   wtm_at "zw"
   refine⟨t1,u1,d,kvs,ws,ρ,rfl,a1,x1,by omega,hd,env,?_⟩
   wtm_at "zw"
   refine⟨t2,u2,d,kvs,ws,ρ,rfl,a2,x2,by omega,hd,env,?_⟩
   rcases hk with rfl | rfl
   ·rw[yH] at q
    wtm_at "zw"
    have e:decide (V.int (t1.worth ρ)=V.int (t2.worth ρ))=decide (t1.worth ρ=t2.worth ρ):=decide_eq_decide.mpr ⟨fun z=>by injection z,fun z=>by rw[z]⟩
    rw[e]
    exact q
   ·rw[vH] at q
    wtm_at "zw"
    exact q
  ·cases hk
   rw[kI] at q
   wtm_at "zw"
   refine⟨t1,u1,d,kvs,ws,ρ,rfl,a1,c1,by omega,by omega,hd,env,?_⟩
   wtm_at "zw"
   cases e1:t1.truth ρ with
   | false=>
    rw[e1,Bool.false_and] at q
    refine iteF ?_
    exact q
   | true=>
    rw[e1,Bool.true_and] at q
    refine iteT ?_
    wtm_at "zw"
    exact⟨t2,u2,d,kvs,ws,ρ,rfl,a2,c2,by omega,by omega,hd,env,q⟩
theorem wH (F:Fd K mg "holds_by" (top 9) ["condition","values"])(D_worth_by:Dn P w K mg base "worth_by" 13 ["expression","values"] (zD 12)):∀n:Nat,Dn P w K mg base "holds_by" (n+13) ["condition","values"] (kJ n)
 | 0=>F.never fun vs H Q E h=>by
  obtain⟨t,_,_,_,_,_,_,_,_,h1,_⟩:=h
  have:=t.dep_pos
  omega
 | n+1=>qJx F (wH F D_worth_by n) D_worth_by

theorem qEi:xM ["condition","boxes","standing"] ["condition","boxes","standing"] (xW (top 6)):=⟨rfl,rfl,rfl,by decide +kernel,rfl,by decide +kernel,by decide +kernel⟩
noncomputable def qJf:Sp:=fun vs H Q _=>∃(t:Th) (v:V) (bx st:Addr) (bs:List (Str×Int)) (vals:List Int),vs=[v,.ref bx,.ref st]∧t.At H v∧Cond' (bs.map (·.1)) t∧t.dep≤12∧World' H bx st bs vals∧
 ∀H',Same H H'→Q (.bl (t.truth (envOf (kvsOf bs vals)))) H'
theorem qGi (F:Fd K mg "holds" (top 6) ["condition","boxes","standing"])(D_holds_by:Dn P w K mg base "holds_by" 25 ["condition","values"] (kJ 12))(D_values_by_name:Dn P w K mg base "values_by_name" 1 ["boxes","standing"] vA):
  Dn P w K mg base "holds" 26 ["condition","boxes","standing"] qJf:=by
 refine F.ok qEi (fun vs H Q E h=>?_) (fun f cdv A outer s H vs Q E hr h=>?_)
 ·obtain⟨_,_,_,_,_,_,rfl,_⟩:=h
  rfl
 obtain⟨t,v,bx,st,bs,vals,rfl,at',cx,dp,W,q⟩:=h
 refine⟨_,(qJ (qM (qC D_holds_by hr (qQ (pv 0) (qQ (qC D_values_by_name hr (qQ (pv 1) (qQ (pv 2) qX))) qX))))),?_⟩
 wtm_at "zw"
 refine⟨bx,st,bs,vals,rfl,W,fun p H' S e=>?_⟩
 wtm_at "zw"
 exact⟨t,v,p,_,_,_,rfl,at'.mono (qB S),cx,dp,dp,e,qDq W.ok,q H' S⟩

noncomputable def rowsBy (acc:List (List Int))(n:Nat):List (List Int):=acc.flatMap fun r=>(List.range n).map fun v=>r++[((v:Nat):Int)]
noncomputable def allV (bs:List (Str×Int)):List (List Int):=(bs.map fun b=>b.2.toNat).foldl rowsBy [[]]
theorem qEc {bs:List (Str×Int)}{i:Nat}{b:Str×Int}(h:bs[i]? = some b):allV (bs.take (i+1))=rowsBy (allV (bs.take i)) b.2.toNat:=by
 unfold allV
 rw[List.take_add_one,h,List.map_append,List.foldl_append]
 rfl
noncomputable def TupIn (H:Hp)(vals:List Int)(u:V):Prop:=∃a,u=.ref a∧H a=some (.tup (intsV vals))
theorem xZ {H H':Hp}(h:Tups H H'){rs:List (List Int)}{us:List V}(p:Paired (TupIn H) rs us):Paired (TupIn H') rs us:=Paired.mapP p fun _ _ x=>let ⟨a,e,q⟩:=x;⟨a,e,h _ _ q⟩
noncomputable def zU (H:Hp)(c:Str×Th)(u:V):Prop:=∃a v,u=.ref a∧H a=some (.tup [.str c.1,v])∧c.2.At H v
noncomputable def WayIn (H:Hp)(wy:List (Str×Th))(u:V):Prop:=∃a us,u=.ref a∧H a=some (.lst us)∧Paired (zU H) wy us
structure Deed where
 name:Str
 price:Int
 need:Th
 ways:List (List (Str×Th))
noncomputable def DeedIn (H:Hp)(d:Deed)(u:V):Prop:=∃a nv wa us,u=.ref a∧H a=some (.tup [.str d.name,.int d.price,nv,.ref wa])∧d.need.At H nv∧H wa=some (.lst us)∧Paired (WayIn H) d.ways us
structure Look where
 name:Str
 price:Int
 part:Th
noncomputable def LookIn (H:Hp)(l:Look)(u:V):Prop:=∃a v,u=.ref a∧H a=some (.tup [.str l.name,.int l.price,v])∧l.part.At H v
structure WayOk (ws:List Str)(wy:List (Str×Th)):Prop where
 nd:(wy.map (·.1)).Nodup
 le:wy.length≤100
 ok:∀c∈wy,c.1∈ws∧Expr' ws c.2∧c.2.dep≤12
structure DeedOk (ws:List Str)(d:Deed):Prop where
 price:1≤d.price
 need:Cond' ws d.need
 dep:d.need.dep≤12
 ne:d.ways≠[]
 le:d.ways.length≤100
 ways:∀wy∈d.ways,WayOk ws wy
structure LookOk (ws:List Str)(l:Look):Prop where
 price:1≤l.price
 part:Expr' ws l.part
 dep:l.part.dep≤12
section
variable {H H':Hp}
theorem zU.same (s:Same H H'){c:Str×Th}{u:V}(x:zU H c u):zU H' c u:=let ⟨a,v,e,q,r⟩:=x;⟨a,v,e,s _ _ q,r.mono (qB s)⟩
theorem WayIn.same (s:Same H H'){c:List (Str×Th)}{u:V}(x:WayIn H c u):WayIn H' c u:=let ⟨a,us,e,q,r⟩:=x;⟨a,us,e,s _ _ q,Paired.mapP r fun _ _ y=>y.same s⟩
theorem DeedIn.same (s:Same H H'){c:Deed}{u:V}(x:DeedIn H c u):DeedIn H' c u:=let ⟨a,nv,wa,us,e,q,r,q2,p⟩:=x;⟨a,nv,wa,us,e,s _ _ q,r.mono (qB s),s _ _ q2,Paired.mapP p fun _ _ y=>y.same s⟩
theorem LookIn.same (s:Same H H'){c:Look}{u:V}(x:LookIn H c u):LookIn H' c u:=let ⟨a,v,e,q,r⟩:=x;⟨a,v,e,s _ _ q,r.mono (qB s)⟩
end
structure Wd where
 bs:List (Str×Int)
 ds:List Deed
 ls:List Look
 bt:Th
 gt:Th
noncomputable abbrev Wd.ws (W:Wd):List Str:=W.bs.map (·.1)
structure WAt (H:Hp)(W:Wd)(bx dx lx:Addr)(bv gv:V):Prop where
 boxes:∃us,H bx=some (.lst us)∧Paired (BoxIn H) W.bs us
 deeds:∃us,H dx=some (.lst us)∧Paired (DeedIn H) W.ds us
 looks:∃us,H lx=some (.lst us)∧Paired (LookIn H) W.ls us
 beg:W.bt.At H bv
 goal:W.gt.At H gv
structure WOk (W:Wd):Prop where
 b1:1≤W.bs.length
 b6:W.bs.length≤6
 b25:∀b∈W.bs,2≤b.2∧b.2≤5
 b200:(W.bs.map (·.2)).foldl (· * ·) 1≤200
 named:Named W.ws
 dl:W.ds.length≤100
 ll:W.ls.length≤100
 nd:(W.ds.map Deed.name++W.ls.map Look.name).Nodup
 deeds:∀d∈W.ds,DeedOk W.ws d
 looks:∀l∈W.ls,LookOk W.ws l
 beg:Cond' W.ws W.bt
 begd:W.bt.dep≤12
 goal:Cond' W.ws W.gt
 goald:W.gt.dep≤12
 some':∃vals∈allV W.bs,W.bt.truth (envOf (kvsOf W.bs vals))=true
theorem WAt.same {H H':Hp}{W:Wd}{bx dx lx:Addr}{bv gv:V}(s:Same H H')(x:WAt H W bx dx lx bv gv):WAt H' W bx dx lx bv gv:=by
 obtain⟨u1,e1,p1⟩:=x.boxes
 obtain⟨u2,e2,p2⟩:=x.deeds
 obtain⟨u3,e3,p3⟩:=x.looks
 exact⟨⟨u1,s _ _ e1,xJ (qB s) p1⟩,⟨u2,s _ _ e2,Paired.mapP p2 fun _ _ y=>y.same s⟩,⟨u3,s _ _ e3,Paired.mapP p3 fun _ _ y=>y.same s⟩,x.beg.mono (qB s),x.goal.mono (qB s)⟩
theorem kZ {H:Hp}{ds:List Deed}{us:List V}(p:Paired (DeedIn H) ds us):Paired (fun x u=>∃a ys,u=.ref a∧H a=some (.tup (.str x::ys))) (ds.map Deed.name) us:=by
 induction p with
 | nil=>exact .nil
 | cons h _ ih=>
  obtain⟨a,_,_,_,e,q,_⟩:=h
  exact .cons ⟨a,_,e,q⟩ ih
theorem wA {H:Hp}{ds:List Look}{us:List V}(p:Paired (LookIn H) ds us):Paired (fun x u=>∃a ys,u=.ref a∧H a=some (.tup (.str x::ys))) (ds.map Look.name) us:=by
 induction p with
 | nil=>exact .nil
 | cons h _ ih=>
  obtain⟨a,_,e,q,_⟩:=h
  exact .cons ⟨a,_,e,q⟩ ih
theorem xD {n:Nat}(h:n≤1000000):n≤sizeLine:=by rw[show sizeLine=16777216 by decide];omega

theorem qKv:xM ["things","name","kind","thing"] ["things","name","kind"] (xW (top 13)):=⟨rfl,rfl,rfl,by decide +kernel,rfl,by decide +kernel,by decide +kernel⟩
noncomputable def vO:Sp:=fun vs H Q _=>∃(la:Addr) (us:List V) (xs:List Str) (x:Str) (k:V),vs=[.ref la,.str x,k]∧H la=some (.lst us)∧Paired (fun x u=>∃a ys,u=.ref a∧H a=some (.tup (.str x::ys))) xs us∧xs.Nodup∧
 ∃i:Nat,xs[i]? = some x∧∀u,us[i]? = some u→Q u H
theorem qGh (F:Fd K mg "named" (top 13) ["things","name","kind"]):Dn P w K mg base "named" 1 ["things","name","kind"] vO:=by
 refine F.ok qKv (fun vs H Q E h=>?_) (fun f cdv A outer s H vs Q E hr h=>?_)
 ·obtain⟨_,_,_,_,_,rfl,_⟩:=h
  rfl
 obtain⟨la,us,xs,x,k,rfl,ela,px,nd,i0,ei0,q⟩:=h
 refine⟨_,(qZ (wQ PassesOwn.never rfl (qT (K:=K) (pv 0)) (qF (i:=3) qKv.nd rfl (by wtm_at "zo")) (qJ (zG (qP jE (xE (qR (K:=K)) (pv 3) qD (fun _ _=>rfl)) (pv 1) (xC _)) (qJ (qM (pv 3))) qY)))
  (qJ vB)),?_⟩
 wtm_at "zf"
 refine⟨la,rfl,⟨us,SqL.of ela⟩,?_⟩
 refine kB (xs:=us) (fun i σ' H'=>∃z:Option V,σ'=[some (.ref la),some (.str x),some k,z]∧H'=H∧i≤i0) ⟨none,rfl,rfl,Nat.zero_le _⟩ (fun i σ' H' _ hP=>?_) (fun i u σ' H' ex hP=>?_) (fun σ' H' hP=>?_)
 ·obtain⟨_,rfl,rfl,_⟩:=hP
  exact SqL.of ela
 ·obtain⟨z,rfl,rfl,hi⟩:=hP
  obtain⟨y,ey⟩:∃b,xs[i]? = some b:=⟨_,List.getElem?_eq_getElem (by rw[px.length];exact(List.getElem?_eq_some_iff.mp ex).1)⟩
  obtain⟨a,ys,rfl,ea⟩:=xY px ey ex
  wtm_at "zw"
  by_cases e:y=x
  ·subst e
   rw[jM]
   refine iteT ?_
   have:i=i0:=by
    obtain⟨h1,g1⟩:=List.getElem?_eq_some_iff.mp ey
    obtain⟨h2,g2⟩:=List.getElem?_eq_some_iff.mp ei0
    exact(List.getElem_inj nd).mp (g1.trans g2.symm)
   subst this
   wtm_at "zw"
   exact q _ ex
  ·rw[xK e]
   refine iteF ?_
   refine⟨_,rfl,rfl,?_⟩
   by_cases h:i=i0
   ·subst h;rw[ei0] at ey;cases ey;exact absurd rfl e
   ·omega
 ·obtain⟨z,rfl,rfl,hi⟩:=hP
  have:=(List.getElem?_eq_some_iff.mp ei0).1
  rw[px.length] at this
  omega

theorem qEh:xM ["world","name","standing"] ["world","name","standing"] (xW (top 12)):=⟨rfl,rfl,rfl,by decide +kernel,rfl,by decide +kernel,by decide +kernel⟩
noncomputable def qAq:Sp:=fun vs H Q _=>∃(W:Wd) (p bx dx lx:Addr) (bv gv:V) (st:Addr) (vals:List Int) (l:Look),vs=[.ref p,.str l.name,.ref st]∧H p=some (.tup [.ref bx,.ref dx,.ref lx,bv,gv])∧WAt H W bx dx lx bv gv∧WOk W∧
 H st=some (.tup (intsV vals))∧Fits W.bs vals∧l∈W.ls∧∀H',Same H H'→Q (.int (l.part.worth (envOf (kvsOf W.bs vals)))) H'
theorem qGg (F:Fd K mg "shown" (top 12) ["world","name","standing"])(D_named:Dn P w K mg base "named" 1 ["things","name","kind"] vO)(D_worth:Dn P w K mg base "worth" 14 ["expression","boxes","standing"] qWh):Dn P w K mg base "shown" 15 ["world","name","standing"] qAq:=by
 refine F.ok qEh (fun vs H Q E h=>?_) (fun f cdv A outer s H vs Q E hr h=>?_)
 ·obtain⟨_,_,_,_,_,_,_,_,_,_,rfl,_⟩:=h
  rfl
 obtain⟨W,p,bx,dx,lx,bv,gv,st,vals,l,rfl,ep,A0,ok,est,fits,hl,q⟩:=h
 obtain⟨us,ebx,pb⟩:=A0.boxes
 obtain⟨lu,elx,pl⟩:=A0.looks
 have b6:=ok.b6
 obtain⟨i,ei⟩:=List.mem_iff_getElem?.mp hl
 refine⟨_,(qJ (qM (qC D_worth hr (qQ (xE (qR (K:=K)) (qC D_named hr (qQ (xE (qR (K:=K)) (pv 0) qD (fun _ _=>rfl)) (qQ (pv 1) (qQ qE qX)))) qD (fun _ _=>rfl)) (qQ (xE (qR (K:=K)) (pv 0) qD (fun _ _=>rfl)) (qQ (pv 2) qX)))))),?_⟩
 wtm_at "zw"
 refine⟨lx,lu,W.ls.map Look.name,l.name,.str "look",rfl,elx,wA pl,(List.nodup_append.mp ok.nd).2.1,i,by rw[List.getElem?_map,ei];rfl,fun u eu=>?_⟩
 obtain⟨a,v,rfl,ea,va⟩:=xY pl ei eu
 have lok:=ok.looks l hl
 wtm_at "zw"
 exact⟨l.part,v,bx,st,W.bs,vals,rfl,va,lok.part,lok.dep,⟨⟨us,ebx,pb⟩,est,fits.stands ok.b25,by omega⟩,q⟩

noncomputable def sizeOf' (bs:List (Str×Int))(x:Str):Int:=match bs.lookup x with
 | some z=>z
 | none=>1
noncomputable def zY (bs:List (Str×Int))(wy:List (Str×Th))(vals:List Int):List Int:=(bs.zip vals).map fun p=>match wy.lookup p.1.1 with
 | some t=>t.worth (envOf (kvsOf bs vals)) % p.1.2
 | none=>p.2
noncomputable def putsK (bs:List (Str×Int))(ρ:Str→Int)(acc:List (Key×V))(wy:List (Str×Th)):List (Key×V):=wy.foldl (fun a c=>putK a (Sum.inr c.1) (.int (c.2.worth ρ % sizeOf' bs c.1))) acc
theorem qAh {bs:List (Str×Int)}{ρ:Str→Int}{acc:List (Key×V)}{wy:List (Str×Th)}{i:Nat}{c:Str×Th}(h:wy[i]? = some c):putsK bs ρ acc (wy.take (i+1))=putK (putsK bs ρ acc (wy.take i)) (Sum.inr c.1) (.int (c.2.worth ρ % sizeOf' bs c.1)):=by
 unfold putsK
 rw[List.take_add_one,h,List.foldl_append]
 rfl
theorem qKa {bs:List (Str×Int)}{ρ:Str→Int}{x:Str}:∀(wy:List (Str×Th)) (acc:List (Key×V)),(wy.map (·.1)).Nodup→valV (putsK bs ρ acc wy) (Sum.inr x)=(match wy.lookup x with | some t=>some (.int (t.worth ρ % sizeOf' bs x)) | none=>valV acc (Sum.inr x))
 | [],acc,_=>rfl
 | (n,t)::wy,acc,nd=>by
  have nd':=List.nodup_cons.mp nd
  show valV (putsK bs ρ (putK acc (Sum.inr n) (.int (t.worth ρ % sizeOf' bs n))) wy) (Sum.inr x)=_
  rw[qKa wy _ nd'.2]
  by_cases e:x=n
  ·subst e
   rw[qYx nd'.1,jG]
   show valV (putK acc (Sum.inr x) _) (Sum.inr x)=_
   rw[jY,if_pos rfl]
  ·rw[jW t wy (by simpa using e)]
   cases wy.lookup x with
   | some u=>rfl
   | none=>
    show valV (putK acc (Sum.inr n) _) (Sum.inr x)=valV acc (Sum.inr x)
    rw[jY,if_neg (fun z=>e (Sum.inr.inj z))]
theorem qFx {kvs:List (Key×V)}{k:Key}{v:V}:(putK kvs k v).length≤kvs.length+1:=by
 unfold putK
 split
 ·rw[List.length_map];omega
 ·rw[List.length_append];show kvs.length+1≤_;omega
theorem qKb {bs:List (Str×Int)}{ρ:Str→Int}:∀(wy:List (Str×Th)) (acc:List (Key×V)),(putsK bs ρ acc wy).length≤acc.length+wy.length
 | [],acc=>Nat.le_refl _
 | c::wy,acc=>by
  have h1:=qKb (bs:=bs) (ρ:=ρ) wy (putK acc (Sum.inr c.1) (.int (c.2.worth ρ % sizeOf' bs c.1)))
  have h2:=qFx (kvs:=acc) (k:=Sum.inr c.1) (v:=.int (c.2.worth ρ % sizeOf' bs c.1))
  show(putsK bs ρ (putK acc (Sum.inr c.1) (.int (c.2.worth ρ % sizeOf' bs c.1))) wy).length≤acc.length+(wy.length+1)
  omega
theorem qMh (bs:List (Str×Int))(vals:List Int):(kvsOf bs vals).length≤bs.length:=by
 have:=yQ (zipK (bs.map (·.1)) (intsV vals)) []
 unfold zipK at this
 rw[List.length_map,List.length_zip,List.length_map,List.length_nil] at this
 unfold kvsOf zipK
 omega
theorem qCk {bs:List (Str×Int)}{vals:List Int}{i:Nat}{b:Str×Int}{v:Int}(nd:(bs.map (·.1)).Nodup)(hl:vals.length=bs.length)(eb:bs[i]? = some b)(ev:vals[i]? = some v):valV (kvsOf bs vals) (Sum.inr b.1)=some (.int v):=by
 have e:((bs.map (fun b:Str×Int=>b.1)).zip (intsV vals)).map (·.1)=bs.map (·.1):=List.map_fst_zip (by rw[List.length_map,xP,hl];exact Nat.le_refl _)
 show valV (mergeK [] (pairK ((bs.map (fun b:Str×Int=>b.1)).zip (intsV vals)))) (Sum.inr b.1)=_
 rw[wV _ _ (by rw[e];exact nd)]
 have ez:((bs.map (fun b:Str×Int=>b.1)).zip (intsV vals))[i]? = some (b.1,.int v):=List.getElem?_zip_eq_some.mpr ⟨by rw[List.getElem?_map,eb];rfl,by rw[List.getElem?_map,ev];rfl⟩
 rw[vQ (by rw[e];exact nd) ez]
theorem qAk {bs:List (Str×Int)}{i:Nat}{b:Str×Int}(nd:(bs.map (·.1)).Nodup)(eb:bs[i]? = some b):sizeOf' bs b.1=b.2:=by
 unfold sizeOf'
 rw[vQ (v:=b.2) nd eb]
theorem wO {bs:List (Str×Int)}{wy:List (Str×Th)}{vals:List Int}{i:Nat}{b:Str×Int}{v:Int}(eb:bs[i]? = some b)(ev:vals[i]? = some v):
  (zY bs wy vals)[i]? = some (match wy.lookup b.1 with | some t=>t.worth (envOf (kvsOf bs vals)) % b.2 | none=>v):=by
 unfold zY
 have ez:(bs.zip vals)[i]? = some (b,v):=List.getElem?_zip_eq_some.mpr ⟨eb,ev⟩
 rw[List.getElem?_map,ez]
 rfl
theorem vX {bs:List (Str×Int)}{wy:List (Str×Th)}{vals:List Int}(hl:vals.length=bs.length):(zY bs wy vals).length=bs.length:=by
 unfold zY
 rw[List.length_map,List.length_zip,hl,Nat.min_self]
theorem qEj {H:Hp}{bs:List (Str×Int)}{us:List V}(p:Paired (BoxIn H) bs us):Paired (PairIn H) (bs.map fun b=>(b.1,V.int b.2)) us:=by
 induction p with
 | nil=>exact .nil
 | cons h _ ih=>
  obtain⟨a,e,q⟩:=h
  exact .cons ⟨a,e,q⟩ ih
noncomputable def qKx:Sp:=fun vs H Q _=>∃(bx wa st:Addr) (bs:List (Str×Int)) (wy:List (Str×Th)) (vals:List Int) (us cs:List V),vs=[.ref bx,.ref wa,.ref st]∧H bx=some (.lst us)∧Paired (BoxIn H) bs us∧(bs.map (·.1)).Nodup∧bs.length≤100∧
 (∀b∈bs,2≤b.2∧b.2≤5)∧H wa=some (.lst cs)∧Paired (zU H) wy cs∧WayOk (bs.map (·.1)) wy∧H st=some (.tup (intsV vals))∧Fits bs vals∧∀(r:Addr) (H':Hp),Same H H'→H' r=some (.tup (intsV (zY bs wy vals)))→Q (.ref r) H'
theorem zW:xM ["boxes","way","standing","sizes","ahead","behind","name","expression"] ["boxes","way","standing"] (xW (top 14)):=⟨rfl,rfl,rfl,by decide +kernel,rfl,by decide +kernel,by decide +kernel⟩
theorem jF:CompOk (xW (top 14)) ["boxes","way","standing","sizes","ahead","behind","name","expression"] (scAt (xA (top 14)) [4] [1]) ["name","size","behind"] 2 [5]:=
 ⟨by decide +kernel,by decide +kernel,by decide +kernel,by decide +kernel,by decide +kernel,by decide +kernel,by decide +kernel,by decide +kernel⟩
theorem qDk (F:Fd K mg "behind_way" (top 14) ["boxes","way","standing"])(B:Bl mg)(D_values_by_name:Dn P w K mg base "values_by_name" 1 ["boxes","standing"] vA)(D_worth_by:Dn P w K mg base "worth_by" 13 ["expression","values"] (zD 12)):
  Dn P w K mg base "behind_way" 14 ["boxes","way","standing"] qKx:=by
 refine F.ok zW (fun vs H Q E h=>?_) (fun f cdv A outer s H vs Q E hr h=>?_)
 ·obtain⟨_,_,_,_,_,_,_,_,rfl,_⟩:=h
  rfl
 obtain⟨bx,wa,st,bs,wy,vals,us,cs,rfl,ebx,pb,nd,hbl,h25,ewa,pc,wok,est,fits,q⟩:=h
 have hu:=qGx hr
 have fs:=fits.stands h25
 have env:=qDq fs
 refine⟨_,(qZ (qI (i:=3) zW.nd rfl (by wtm_at "zo") (xQ (qJv rfl) rfl B.dict' wM (qQ (pv 0) qX)))
  (qZ (qI (i:=4) zW.nd rfl (by wtm_at "zo") (qC D_values_by_name hr (qQ (pv 0) (qQ (pv 2) qX))))
  (qZ (qI (i:=5) zW.nd rfl (by wtm_at "zo") (xQ qQz rfl B.dict' wM (qQ (pv 4) qX)))
  (qZ (wQ PassesOwn.never rfl (qT (K:=K) (pv 1)) (kT (K:=K) (n:=2) rfl (qG (qF (i:=6) zW.nd rfl (by wtm_at "zo")) (qG (qF (i:=7) zW.nd rfl (by wtm_at "zo")) qH))) (qJ (qJl hu (pv 5) (pv 6) (qU kK (qC D_worth_by hr (qQ (pv 7) (qQ (pv 4) qX))) (wX hu (pv 3) (pv 6) (fun _ _=>rfl))) rfl)))
  (qJ (qM (xQ (yZ (K:=K)) rfl B.tuple' vG (qQ (jV rfl jF (qT (K:=K) (pv 0)) (fun cl fp s H=>(kT (K:=K) (n:=2) rfl (qG (qF (i:=0) jF.nd rfl (Or.inl rfl) (.inr rfl)) (qG (qF (i:=1) jF.nd rfl (Or.inl rfl) (.inr rfl)) qH)))) (fun cl fp s H=>zE) (fun cl fp s H=>(wX hu (pv 2) (pv 0) (fun _ _=>rfl)))) qX)))))))),?_⟩
 wtm_at "zw"
 refine⟨bx,us,_,rfl,ebx,qEj pb,by rw[List.length_map];omega,fun sz hsz=>?_⟩
 have S1:=qK hsz (.dK (mergeK [] (pairK (bs.map fun b=>(b.1,V.int b.2)))))
 have esz:upd H sz (.dK (mergeK [] (pairK (bs.map fun b=>(b.1,V.int b.2))))) sz=some (.dK (mergeK [] (pairK (bs.map fun b=>(b.1,V.int b.2))))):=qV
 generalize upd H sz (.dK (mergeK [] (pairK (bs.map fun b=>(b.1,V.int b.2)))))=H1 at S1 esz
 wtm_at "zw"
 refine⟨bx,st,bs,vals,rfl,⟨⟨us,S1 _ _ ebx,xJ (qB S1) pb⟩,S1 _ _ est,fs,hbl⟩,fun ah H2 S2 eah=>?_⟩
 wtm_at "zw"
 refine⟨ah,_,rfl,eah,fun be hbe=>?_⟩
 have S3:Same H1 (upd H2 be (.dK (kvsOf bs vals))):=S2.trans (qK hbe _)
 have S03:=S1.trans S3
 have ebe:upd H2 be (.dK (kvsOf bs vals)) be=some (.dK (kvsOf bs vals)):=qV
 have eah3:=qK hbe (.dK (kvsOf bs vals)) _ _ eah
 have nbe:H1 be=none:=S2.free hbe
 have nahb:ah≠be:=qA eah hbe
 generalize upd H2 be (.dK (kvsOf bs vals))=H3 at S3 S03 ebe eah3
 wtm_at "zf"
 refine⟨wa,rfl,⟨cs,SqL.of (S03 _ _ ewa)⟩,?_⟩
 have lc:=pc.length
 have wle:=wok.le
 have kl:=qMh bs vals
 have nwb:wa≠be:=qA (S1 _ _ ewa) nbe
 refine qCo (xs:=cs) (fun i σ' H'=>∃z6 z7:Option V,σ'=[some (.ref bx),some (.ref wa),some (.ref st),some (.ref sz),some (.ref ah),some (.ref be),z6,z7]∧But be H3 H'∧H' be=some (.dK (putsK bs (envOf (kvsOf bs vals)) (kvsOf bs vals) (wy.take i))))
  ⟨none,none,rfl,But.refl _,ebe⟩ (fun i σ' H' _ hP=>?_) (fun N rt bk i x σ' H' ex hP hN=>?_) (fun σ' H' hP=>?_)
 ·obtain⟨_,_,rfl,hb,_⟩:=hP
  exact SqL.of (hb _ _ nwb (S03 _ _ ewa))
 ·obtain⟨z6,z7,rfl,hb,ebe'⟩:=hP
  have hi:i<wy.length:=by rw[lc];exact(List.getElem?_eq_some_iff.mp ex).1
  obtain⟨c,ec⟩:∃b,wy[i]? = some b:=⟨_,List.getElem?_eq_getElem hi⟩
  obtain⟨ca,cv,rfl,eca,cat⟩:=xY pc ec ex
  obtain⟨o1,o2,o3⟩:=wok.ok c (List.mem_of_getElem? ec)
  have T3:Tups H H':=(qB S03).trans fun b ys e=>hb _ _ (xU e ebe (by intro z;cases z)) e
  have eca':=T3 _ _ eca
  obtain⟨b,hbm,eb1⟩:=List.mem_map.mp o1
  obtain⟨k,ek⟩:=List.mem_iff_getElem?.mp hbm
  have hb25:=h25 b hbm
  have zs:=qAk nd ek
  wtm_at "zw"
  refine⟨c.2,cv,ah,_,_,envOf (kvsOf bs vals),rfl,cat.mono T3,o2,o3,hb _ _ nahb eah3,env,?_⟩
  wtm_at "zw"
  refine⟨sz,.int (sizeOf' bs c.1),rfl,?_,?_⟩
  ·have hv:valV (mergeK [] (pairK (bs.map fun b=>(b.1,V.int b.2)))) (Sum.inr c.1)=some (.int (sizeOf' bs c.1)):=by
    have e2:(bs.map fun b=>(b.1,V.int b.2)).map (·.1)=bs.map (·.1):=by rw[List.map_map];rfl
    rw[wV _ _ (by rw[e2];exact nd),← eb1,vQ (v:=.int b.2) (i:=k) (by rw[e2];exact nd) (by rw[List.getElem?_map,ek];rfl),zs]
   rw[← hv]
   exact DGet.k (k:=Sum.inr c.1) (hb _ _ (qA esz nbe) (S3 _ _ esz))
  refine w_I (show 0<sizeOf' bs c.1 by rw[← eb1,zs];omega) ?_
  wtm_at "zw"
  have pl:=qKb (bs:=bs) (ρ:=envOf (kvsOf bs vals)) (wy.take i) (kvsOf bs vals)
  rw[List.length_take] at pl
  refine⟨be,_,rfl,DPut.k (k:=Sum.inr c.1) ebe' (small (by omega)),?_⟩
  refine hN _ _ ⟨_,_,rfl,hb.trans But.upd,?_⟩
  rw[qV,qAh ec]
 obtain⟨z6,z7,rfl,hb,ebe'⟩:=hP
 rw[← lc,List.take_length] at ebe'
 have K3:∀b o,H b=some o→H' b=some o:=fun b o e=>hb _ _ (qA (S1 _ _ e) nbe) (S03 _ _ e)
 have S4:Same H H':=K3
 have lb:=pb.length
 wtm_at "zw"
 refine⟨_,rfl,bx,rfl,⟨us,SqL.of (S4 _ _ ebx)⟩,?_⟩
 refine jB (xs:=us) (fun D i ys H''=>ys=intsV ((zY bs wy vals).take i)∧∀b o,H' b=some o→H'' b=some o) (fun D hD=>⟨rfl,qK hD _⟩)
  (fun D i ys H'' _ hP=>SqL.of (hP.2 _ _ (S4 _ _ ebx))) (fun D i x ys H'' N hD hDy ex hP hN=>?_) (fun D ys H5 hD hDy hP=>?_)
 ·obtain⟨rfl,hk⟩:=hP
  have hi:i<bs.length:=by rw[lb];exact(List.getElem?_eq_some_iff.mp ex).1
  obtain⟨b,eb⟩:∃b,bs[i]? = some b:=⟨_,List.getElem?_eq_getElem hi⟩
  obtain⟨v,ev⟩:∃v,vals[i]? = some v:=⟨_,List.getElem?_eq_getElem (by rw[fits.1];exact hi)⟩
  obtain⟨ba,rfl,hba⟩:=xY pb eb ex
  have bat:=wO (wy:=wy) eb ev
  have hv:valV (putsK bs (envOf (kvsOf bs vals)) (kvsOf bs vals) wy) (Sum.inr b.1)=some (.int (match wy.lookup b.1 with | some t=>t.worth (envOf (kvsOf bs vals)) % b.2 | none=>v)):=by
   rw[qKa _ _ wok.nd,qAk nd eb,qCk nd fits.1 eb ev]
   cases wy.lookup b.1 <;> rfl
  refine⟨ba,_,rfl,SqT.of (hk _ _ (S4 _ _ hba)),rfl,_,_,rfl,_,_,rfl,rfl,⟨[some (.str b.1),some (.int b.2)],rfl,rfl⟩,?_⟩
  refine⟨_,rfl,_,rfl,be,_,rfl,(by rw[← hv];exact DGet.k (k:=Sum.inr b.1) (hk _ _ ebe')),hDy,?_,hN _ _ qV ⟨?_,fun b o e=>?_⟩⟩
  ·rw[xP,List.length_take];exact small (by omega)
  ·rw[List.take_add_one,bat,← qVm];rfl
  ·rw[qW (qA e hD)];exact hk _ _ e
 obtain⟨rfl,hk⟩:=hP
 rw[← lb,List.take_of_length_le (by rw[vX fits.1];exact Nat.le_refl _)] at hDy
 wtm_at "zw"
 refine⟨D,_,rfl,SqL.of hDy,fun r hr'=>?_⟩
 exact q r _ (S4.trans ((show Same H' H5 from hk).trans (qK hr' _))) qV

theorem vT:xM ["world","name","standing","ways"] ["world","name","standing"] (xW (top 11)):=⟨rfl,rfl,rfl,by decide +kernel,rfl,by decide +kernel,by decide +kernel⟩
theorem vY:CompOk (xW (top 11)) ["world","name","standing","ways"] (scAt (xA (top 11)) [1] []) ["way","standing","world"] 1 [2,0]:=
 ⟨by decide +kernel,by decide +kernel,by decide +kernel,by decide +kernel,by decide +kernel,by decide +kernel,by decide +kernel,by decide +kernel⟩
theorem qWk {σ:St}{H:Hp}{Q:VK}{js:List Nat}{te:TE}{wa:Addr}{wu:List V}{wys:List (List (Str×Th))}{bs:List (Str×Int)}{vals:List Int}(ewa:H wa=some (.lst wu))(pw:Paired (WayIn H) wys wu)(hl:wys.length≤100)
  (hte:∀(u:V) (wy:List (Str×Th)) (H':Hp) (R:VK),wy∈wys→WayIn H' wy u→Same H H'→(∀(r:Addr) (H'':Hp),Same H' H''→H'' r=some (.tup (intsV (zY bs wy vals)))→R (.ref r) H'')→te ([some u]++frees js σ) H' R)
  (q:∀(D:Addr) (ys:List V) (H':Hp),H D=none→Same H H'→H' D=some (.lst ys)→Paired (TupIn H') (wys.map fun wy=>zY bs wy vals) ys→Q (.ref D) H'):
  rdC 1 js (gName 0) tYes te (Itl K wa) σ H Q:=by
 have lw:=pw.length
 refine jB (xs:=wu) (fun D i ys H'=>Paired (TupIn H') ((wys.take i).map fun wy=>zY bs wy vals) ys∧∀b o,H b=some o→H' b=some o) (fun D hD=>⟨.nil,qK hD _⟩)
  (fun D i ys H' _ hP=>SqL.of (hP.2 _ _ ewa)) (fun D i x ys H' N hD hDy ex hP hN=>?_) (fun D ys H5 hD hDy hP=>?_)
 ·obtain⟨pl,hk⟩:=hP
  have hi:i<wys.length:=by rw[lw];exact(List.getElem?_eq_some_iff.mp ex).1
  obtain⟨wy,ewy⟩:∃b,wys[i]? = some b:=⟨_,List.getElem?_eq_getElem hi⟩
  have wi:=(xY pw ewy ex).same hk
  have ll:=pl.length
  rw[List.length_map,List.length_take] at ll
  refine⟨⟨[some x],rfl,rfl⟩,?_⟩
  refine hte x wy H' _ (List.mem_of_getElem? ewy) wi hk fun r H4 S4 er=>?_
  have eD:=S4 _ _ hDy
  refine⟨eD,small (by omega),hN _ _ qV ⟨?_,fun b o e=>?_⟩⟩
  ·have T4:Tups H4 (upd H4 D (.lst (ys++[.ref r]))):=fun b xs e=>by rw[qW (xU e eD (by intro z;cases z))];exact e
   rw[List.take_add_one,ewy,List.map_append]
   exact Paired.snoc (xZ T4 (xZ (qB S4) pl)) ⟨r,rfl,T4 _ _ er⟩
  ·rw[qW (qA e hD)];exact S4 _ _ (hk _ _ e)
 obtain⟨pl,hk⟩:=hP
 rw[← lw,List.take_length] at pl
 exact q D ys H5 hD hk hDy pl
noncomputable def qAx:Sp:=fun vs H Q _=>∃(W:Wd) (p bx dx lx:Addr) (bv gv:V) (st:Addr) (vals:List Int) (d:Deed),vs=[.ref p,.str d.name,.ref st]∧H p=some (.tup [.ref bx,.ref dx,.ref lx,bv,gv])∧WAt H W bx dx lx bv gv∧WOk W∧
 H st=some (.tup (intsV vals))∧Fits W.bs vals∧d∈W.ds∧∀(r:Addr) (us:List V) (H':Hp),H r=none→Same H H'→H' r=some (.lst us)→Paired (TupIn H') (d.ways.map fun wy=>zY W.bs wy vals) us→Q (.ref r) H'
theorem qGl (F:Fd K mg "comes_of" (top 11) ["world","name","standing"])(D_named:Dn P w K mg base "named" 1 ["things","name","kind"] vO)(D_behind_way:Dn P w K mg base "behind_way" 14 ["boxes","way","standing"] qKx):Dn P w K mg base "comes_of" 15 ["world","name","standing"] qAx:=by
 refine F.ok vT (fun vs H Q E h=>?_) (fun f cdv A outer s H vs Q E hr h=>?_)
 ·obtain⟨_,_,_,_,_,_,_,_,_,_,rfl,_⟩:=h
  rfl
 obtain⟨W,p,bx,dx,lx,bv,gv,st,vals,d,rfl,ep,A0,ok,est,fits,hd,q⟩:=h
 obtain⟨us,ebx,pb⟩:=A0.boxes
 obtain⟨du,edx,pd⟩:=A0.deeds
 have b6:=ok.b6
 obtain⟨i,ei⟩:=List.mem_iff_getElem?.mp hd
 have dok:=ok.deeds d hd
 refine⟨_,(qZ (qI (i:=3) vT.nd rfl (by wtm_at "zo") (xE (qR (K:=K)) (qC D_named hr (qQ (xE (qR (K:=K)) (pv 0) qD (fun _ _=>rfl)) (qQ (pv 1) (qQ qE qX)))) qD (fun _ _=>rfl)))
  (qJ (qM (jV rfl vY (qT (K:=K) (pv 3)) (fun cl fp s H=>(qF (i:=0) vY.nd rfl (Or.inl rfl) (.inr rfl))) (fun cl fp s H=>zE) (fun cl fp s H=>(qC D_behind_way hr (qQ (xE (qR (K:=K)) (pv 2) qD (fun _ _=>rfl)) (qQ (pv 0) (qQ (pv 1) qX))))))))),?_⟩
 wtm_at "zw"
 refine⟨dx,du,W.ds.map Deed.name,d.name,.str "deed",rfl,edx,kZ pd,(List.nodup_append.mp ok.nd).1,i,by rw[List.getElem?_map,ei];rfl,fun u eu=>?_⟩
 obtain⟨a,nv,wa,wu,rfl,ea,nat,ewa,pw⟩:=xY pd ei eu
 wtm_at "zf"
 refine⟨wa,rfl,⟨wu,SqL.of ewa⟩,?_⟩
 refine qWk ewa pw dok.le (fun u wy H' R hwy wi S1 hR=>?_) fun D ys H' nD S1 eD py=>q D ys H' nD S1 eD py
 obtain⟨ya,cs,rfl,eya,pc⟩:=wi
 have ep':=S1 _ _ ep
 refine⟨_,rfl,p,_,0,.ref bx,rfl,rfl,SqT.of ep',rfl,_,rfl,_,rfl,bx,ya,st,W.bs,wy,vals,us,cs,rfl,S1 _ _ ebx,xJ (qB S1) pb,ok.named.nd,by omega,ok.b25,eya,pc,dok.ways wy hwy,S1 _ _ est,fits,hR⟩

theorem _root_.L2.Room.units3 {k:Nat}{A:Around}(r:Room k A):A.units+3<cLine:=by have:=r.units;omega
structure Kind (K:PySem.W.Frag)(C:Addr)(fs:List Str):Prop where
 cls:Cls K C
 no:∀f∈fs,NoAttr K C f
theorem xO {a C dx:Addr}{fs:List (Str×V)}{ns:List Str}{v:V}{f:Str}{i:Nat}{σ:St}{H:Hp}{Q:VK}(hv:σ[i]? = some (some (.ref a)))(ha:H a=some (.ins C dx fs))(kd:Kind K C ns)(hf:f∈ns)(l:fs.lookup f=some v)(q:Q v H):tFld K (tVar i) f σ H Q:=
 ⟨_,hv,a,C,dx,fs,v,rfl,ha,kd.cls,kd.no f hf,l,q⟩
noncomputable def ik (vals:List Int):List Key:=vals.map Sum.inl
theorem qGq (vals:List Int):(ik vals).map kV=intsV vals:=by unfold ik intsV;rw[List.map_map];rfl
theorem qHo {a b:List Int}(h:ik a=ik b):a=b:=(List.map_inj_right (fun x y e=>Sum.inl.inj e)).mp h
noncomputable def zO:List Str:=["world","nodes","forks","goals","needs","comings","showings"]
structure CA where
 co:Addr
 dx:Addr
 p:Addr
 pl:Addr
 fo:Addr
 g:Addr
 n:Addr
 c:Addr
 s:Addr
noncomputable def CA.fs (a:CA):List (Str×V):=[("world",.ref a.p),("nodes",.ref a.pl),("forks",.ref a.fo),("goals",.ref a.g),("needs",.ref a.n),("comings",.ref a.c),("showings",.ref a.s)]
theorem CA.l1 (a:CA):a.fs.lookup (Str.ofString "world")=some (.ref a.p):=rfl
theorem CA.l2 (a:CA):a.fs.lookup (Str.ofString "nodes")=some (.ref a.pl):=rfl
theorem CA.l3 (a:CA):a.fs.lookup (Str.ofString "forks")=some (.ref a.fo):=rfl
theorem CA.l4 (a:CA):a.fs.lookup (Str.ofString "goals")=some (.ref a.g):=rfl
theorem CA.l5 (a:CA):a.fs.lookup (Str.ofString "needs")=some (.ref a.n):=rfl
theorem CA.l6 (a:CA):a.fs.lookup (Str.ofString "comings")=some (.ref a.c):=rfl
theorem CA.l7 (a:CA):a.fs.lookup (Str.ofString "showings")=some (.ref a.s):=rfl
theorem cF:Str.ofString "world" ∈ zO∧Str.ofString "nodes" ∈ zO∧Str.ofString "forks" ∈ zO∧Str.ofString "goals" ∈ zO∧Str.ofString "needs" ∈ zO∧Str.ofString "comings" ∈ zO∧Str.ofString "showings" ∈ zO:=by decide +kernel
structure Crs (K:PySem.W.Frag)(C:Addr)(H:Hp)(a:CA)(W:Wd)(bx dx lx:Addr)(bv gv:V):Prop where
 at':H a.co=some (.ins C a.dx a.fs)
 kd:Kind K C zO
 p:H a.p=some (.tup [.ref bx,.ref dx,.ref lx,bv,gv])
 lies:WAt H W bx dx lx bv gv
 ok:WOk W
structure Std (H:Hp)(W:Wd)(st:Addr)(vals:List Int):Prop where
 at':H st=some (.tup (intsV vals))
 fits:Fits W.bs vals
noncomputable def Saves (d:Addr)(H H':Hp):Prop:=∀b o,b≠d→H b=some o→H' b=some o
theorem yO:xM ["self","standing"] ["self","standing"] (xW (mth 25 1)):=⟨rfl,rfl,rfl,by decide +kernel,rfl,by decide +kernel,by decide +kernel⟩
noncomputable def qXm (W:Wd)(kvs:List (List Key×V)):Prop:=∀vals v,valV kvs (ik vals)=some v→v=.bl (W.gt.truth (envOf (kvsOf W.bs vals)))
noncomputable def spGoal (K:PySem.W.Frag)(C:Addr):Sp:=fun vs H Q _=>∃(a:CA) (W:Wd) (bx dx lx:Addr) (bv gv:V) (st:Addr) (vals:List Int) (kvs:List (List Key×V)),vs=[.ref a.co,.ref st]∧Crs K C H a W bx dx lx bv gv∧Std H W st vals∧H a.g=some (.dT kvs)∧qXm W kvs∧kvs.length≤10000∧
 ∀(kvs':List (List Key×V)) (H':Hp),Saves a.g H H'→H' a.g=some (.dT kvs')→qXm W kvs'→kvs'.length≤kvs.length+1→Q (.bl (W.gt.truth (envOf (kvsOf W.bs vals)))) H'
theorem qNd {C:Addr}(F:Md K C "goal_holds" "Course.goal_holds" (mth 25 1) ["self","standing"])(D_holds:Dn P w K mg base "holds" 26 ["condition","boxes","standing"] qJf):Dm P w K mg base C "goal_holds" 27 ["self","standing"] (spGoal K C):=by
 refine F.ok yO (fun vs H Q E h=>?_) (fun f cdv A outer s H vs Q E hr h=>?_)
 ·obtain⟨_,_,_,_,_,_,_,_,_,_,rfl,_⟩:=h
  rfl
 obtain⟨a,W,bx,dx,lx,bv,gv,st,vals,kvs,rfl,c,⟨est,fits⟩,eg,gok,hl,q⟩:=h
 obtain⟨us,ebx,pb⟩:=c.lies.boxes
 have eco:=c.at'
 have ep:=c.p
 have b6:=c.ok.b6
 have ek:H st=some (.tup ((ik vals).map kV)):=by rw[qGq];exact est
 have hu:=qGx hr
 refine⟨_,(qZ (zG (qQv (qZb hu (pv 1) (xF (K:=K) (pv 0))) (by with_unfolding_all rfl)) (qJ (qJl hu (xF (K:=K) (pv 0)) (pv 1) (qC D_holds hr (qQ (xE (qR (K:=K)) (xF (K:=K) (pv 0)) qD (fun _ _=>rfl)) (qQ (xE (qR (K:=K)) (xF (K:=K) (pv 0)) qD (fun _ _=>rfl)) (qQ (pv 1) qX)))) rfl)) qY)
  (qJ (qM (wX hu (xF (K:=K) (pv 0)) (pv 1) (fun _ _=>rfl))))),?_⟩
 wtm_at "zw"
 refine⟨_,rfl,xO rfl eco c.kd cF.2.2.2.1 a.l4 ⟨a.g,_,rfl,.t eg ek,_,rfl,?_⟩⟩
 cases e:valV kvs (ik vals) with
 | some v=>
  refine iteF ?_
  wtm_at "zw"
  refine xO rfl eco c.kd cF.2.2.2.1 a.l4 ⟨_,rfl,a.g,v,rfl,by rw[← e];exact .t eg ek,?_⟩
  rw[gok vals v e]
  exact q kvs H (fun b o _ h=>h) eg gok (Nat.le_succ _)
 | none=>
  refine iteT ?_
  wtm_at "zw"
  refine xO rfl eco c.kd cF.1 a.l1 ?_
  wtm_at "zw"
  refine xO rfl eco c.kd cF.1 a.l1 ?_
  wtm_at "zw"
  refine⟨W.gt,gv,bx,st,W.bs,vals,rfl,c.lies.goal,c.ok.goal,c.ok.goald,⟨⟨us,ebx,pb⟩,est,fits.stands c.ok.b25,by omega⟩,fun H1 S1=>?_⟩
  refine xO rfl (S1 _ _ eco) c.kd cF.2.2.2.1 a.l4 ⟨_,rfl,a.g,_,rfl,.t (S1 _ _ eg) (S1 _ _ ek) (Nat.lt_of_le_of_lt hl (by decide)),?_⟩
  have lp:=jA kvs (ik vals) (.bl (W.gt.truth (envOf (kvsOf W.bs vals))))
  have ne:a.co≠a.g:=xU eco eg (fun z=>nomatch z)
  have nst:st≠a.g:=xU est eg (fun z=>nomatch z)
  have eg2:upd H1 a.g (.dT (putK kvs (ik vals) (.bl (W.gt.truth (envOf (kvsOf W.bs vals)))))) a.g=some (.dT (putK kvs (ik vals) (.bl (W.gt.truth (envOf (kvsOf W.bs vals)))))):=qV
  have e2:upd H1 a.g (.dT (putK kvs (ik vals) (.bl (W.gt.truth (envOf (kvsOf W.bs vals)))))) a.co=some (.ins C a.dx a.fs):=by rw[qW ne];exact S1 _ _ eco
  have e3:upd H1 a.g (.dT (putK kvs (ik vals) (.bl (W.gt.truth (envOf (kvsOf W.bs vals)))))) st=some (.tup ((ik vals).map kV)):=by rw[qW nst];exact S1 _ _ ek
  have sv:Saves a.g H (upd H1 a.g (.dT (putK kvs (ik vals) (.bl (W.gt.truth (envOf (kvsOf W.bs vals))))))):=fun b o hb h=>by rw[qW hb];exact S1 _ _ h
  generalize upd H1 a.g (.dT (putK kvs (ik vals) (.bl (W.gt.truth (envOf (kvsOf W.bs vals))))))=H2 at eg2 e2 e3 sv
  wtm_at "zw"
  refine xO rfl e2 c.kd cF.2.2.2.1 a.l4 ⟨_,rfl,a.g,.bl (W.gt.truth (envOf (kvsOf W.bs vals))),rfl,?_,q _ H2 sv eg2 (fun v2 v h=>?_) (by omega)⟩
  ·have:=DGet.t eg2 e3
   rw[jY,if_pos rfl] at this
   exact this
  ·rw[jY] at h
   by_cases z:ik v2=ik vals
   ·rw[if_pos z] at h
    cases h
    rw[qHo z]
   ·rw[if_neg z] at h
    exact gok v2 v h
structure PD (P:Program)(w:World)(H:Hp)(a:Addr)(xs:List (PKy×Addr×V)):Prop where
 at':H a=some (PDo P w a xs)
 keys:∀z∈xs,PkIn H z.1 z.2.1
 le:xs.length≤10000
theorem jD {H H':Hp}{d:Addr}{xs:List (PKy×Addr×V)}{k:PKy}{b:Addr}(hd:H d=some (PDo P w d xs))(s:Saves d H H')(h:PkIn H k b):PkIn H' k b:=by
 obtain⟨t,e1,e2⟩:=h
 exact⟨t,s _ _ (xU e1 hd (fun z=>nomatch z)) e1,s _ _ (xU e2 hd (fun z=>nomatch z)) e2⟩
theorem jH {xs:List (PKy×Addr×V)}{k k':PKy}{b:Addr}{v:V}(h:getP xs k=none):getP (xs++[(k,b,v)]) k'=if k'=k then some v else getP xs k':=by
 unfold getP at h ⊢
 rw[List.find?_append]
 by_cases e:k'=k
 ·subst e
  rw[if_pos rfl]
  rw[Option.map_eq_none_iff] at h
  rw[h]
  simp
 ·rw[if_neg e]
  have:List.find? (fun x:PKy×Addr×V=>decide (x.1=k')) [(k,b,v)]=none:=by simp[Ne.symm e]
  rw[this,Option.or_none]
theorem PD.same {H H':Hp}{a:Addr}{xs:List (PKy×Addr×V)}(h:PD P w H a xs)(s:Same H H'):PD P w H' a xs:=⟨s _ _ h.at',fun z hz=>let ⟨t,e1,e2⟩:=h.keys z hz;⟨t,s _ _ e1,s _ _ e2⟩,h.le⟩
theorem PD.more {H H1:Hp}{a b:Addr}{xs:List (PKy×Addr×V)}{k:PKy}{v:V}(h:PD P w H1 a xs)(kb:PkIn H1 k b)(hl:xs.length<10000):PD P w (upd H1 a (PDo P w a (xs++[(k,b,v)]))) a (xs++[(k,b,v)])∧Saves a H1 (upd H1 a (PDo P w a (xs++[(k,b,v)]))):=by
 have sv:Saves a H1 (upd H1 a (PDo P w a (xs++[(k,b,v)]))):=fun c o hc e=>by rw[qW hc];exact e
 refine⟨⟨qV,fun z hz=>?_,by rw[List.length_append];show _+1≤_;omega⟩,sv⟩
 rcases List.mem_append.mp hz with h1 | h1
 ·exact jD h.at' sv (h.keys z h1)
 ·rw[List.mem_singleton.mp h1];exact jD h.at' sv kb
theorem nodrop (x:Str)(vals:List Int)(y:Str)(vals':List Int):((y,ik vals'):PKy)=(x,ik vals)↔y=x∧vals'=vals:=⟨fun h=>⟨congrArg Prod.fst h,qHo (congrArg Prod.snd h)⟩,fun⟨a,b⟩=>by rw[a,b]⟩
theorem kW {α:Type}{f:α→Str}{l:List α}(nd:(l.map f).Nodup){a b:α}(ha:a∈l)(hb:b∈l)(e:f a=f b):a=b:=by
 obtain⟨i,hi⟩:=List.mem_iff_getElem?.mp ha
 obtain⟨j,hj⟩:=List.mem_iff_getElem?.mp hb
 have li:i<(l.map f).length:=by rw[List.length_map];exact(List.getElem?_eq_some_iff.mp hi).1
 have:(l.map f)[i]? = (l.map f)[j]? := by rw[List.getElem?_map,List.getElem?_map,hi,hj];exact congrArg some e
 have:=(List.getElem?_inj li nd).mp this
 subst this
 rw[hi] at hj
 exact Option.some.inj hj
theorem qWv {td ty tv:TE}{D:Ends}{σ:St}{H:Hp}(q:tv σ H fun v H1=>td σ H1 fun x H2=>ty σ H2 fun y H3=>∃a b k xs,PAt P w H3 x y a b k xs∧getP xs k=none∧xs.length<sizeLine∧D.nx σ (upd H3 a (PDo P w a (xs++[(k,b,v)])))):sPPut P w td ty tv D σ H:=q
theorem zA:xM ["self","name","standing","key","need"] ["self","name","standing"] (xW (mth 25 2)):=⟨rfl,rfl,rfl,by decide +kernel,rfl,by decide +kernel,by decide +kernel⟩
noncomputable def qXl (W:Wd)(xs:List (PKy×Addr×V)):Prop:=∀x vals v,getP xs (x,ik vals)=some v→∀d∈W.ds,d.name=x→v=.bl (d.need.truth (envOf (kvsOf W.bs vals)))
noncomputable def spNeed (P:Program)(w:World)(K:PySem.W.Frag)(C:Addr):Sp:=fun vs H Q _=>∃(a:CA) (W:Wd) (bx dx lx:Addr) (bv gv:V) (st:Addr) (vals:List Int) (d:Deed) (xs:List (PKy×Addr×V)),vs=[.ref a.co,.str d.name,.ref st]∧Crs K C H a W bx dx lx bv gv∧Std H W st vals∧d∈W.ds∧PD P w H a.n xs∧xs.length<10000∧qXl W xs∧
 ∀(xs':List (PKy×Addr×V)) (H':Hp),Saves a.n H H'→PD P w H' a.n xs'→qXl W xs'→xs'.length≤xs.length+1→Q (.bl (d.need.truth (envOf (kvsOf W.bs vals)))) H'
theorem qNc {C:Addr}(F:Md K C "need_holds" "Course.need_holds" (mth 25 2) ["self","name","standing"])(D_holds:Dn P w K mg base "holds" 26 ["condition","boxes","standing"] qJf)(D_named:Dn P w K mg base "named" 1 ["things","name","kind"] vO):Dm P w K mg base C "need_holds" 27 ["self","name","standing"] (spNeed P w K C):=by
 refine F.ok zA (fun vs H Q E h=>?_) (fun f cdv A outer s H vs Q E hr h=>?_)
 ·obtain⟨_,_,_,_,_,_,_,_,_,_,_,rfl,_⟩:=h
  rfl
 obtain⟨a,W,bx,dx,lx,bv,gv,st,vals,d,xs,rfl,c,⟨est,fits⟩,hd,pd0,hl,nok,q⟩:=h
 obtain⟨us,ebx,pb⟩:=c.lies.boxes
 obtain⟨du,edx,pd⟩:=c.lies.deeds
 have b6:=c.ok.b6
 have ek:H st=some (.tup ((ik vals).map kV)):=by rw[qGq];exact est
 refine⟨_,(qZ (qI (i:=3) zA.nd rfl (by wtm_at "zo") (xI (qQ (pv 1) (qQ (pv 2) qX))))
  (qZ (zG (qQv (wJ (P:=P) (w:=w) hr.units3 (pv 3) (xF (K:=K) (pv 0))) (by with_unfolding_all rfl)) (qZ (qI (i:=4) zA.nd rfl (by wtm_at "zo") (xE (qR (K:=K)) (qC D_named hr (qQ (xE (qR (K:=K)) (xF (K:=K) (pv 0)) qD (fun _ _=>rfl)) (qQ (pv 1) (qQ qE qX)))) qD (fun _ _=>rfl)))
  (qJ (qJi (P:=P) (w:=w) hr.units3 (xF (K:=K) (pv 0)) (pv 3) (qC D_holds hr (qQ (pv 4) (qQ (xE (qR (K:=K)) (xF (K:=K) (pv 0)) qD (fun _ _=>rfl)) (qQ (pv 2) qX)))) rfl))) qY)
  (qJ (qM (qJm (P:=P) (w:=w) hr.units3 (xF (K:=K) (pv 0)) (pv 3) (fun _ _=>rfl)))))),?_⟩
 wtm_at "zw"
 refine⟨xD (show 2≤1000000 by decide),fun kt hkt=>?_⟩
 have S0:=qK hkt (.tup [V.str d.name,V.ref st])
 have ekt:upd H kt (.tup [V.str d.name,V.ref st]) kt=some (.tup [V.str d.name,V.ref st]):=qV
 generalize upd H kt (.tup [V.str d.name,V.ref st])=H0 at S0 ekt
 have eco:=S0 _ _ c.at'
 have ep:=S0 _ _ c.p
 have pd1:=pd0.same S0
 have kb:PkIn H0 (d.name,ik vals) kt:=⟨st,ekt,S0 _ _ ek⟩
 wtm_at "zw"
 refine⟨_,rfl,xO rfl eco c.kd cF.2.2.2.2.1 a.l5 ⟨a.n,kt,(d.name,ik vals),xs,⟨rfl,rfl,pd1.at',pd1.keys,kb⟩,_,rfl,?_⟩⟩
 cases e:getP xs (d.name,ik vals) with
 | some v=>
  refine iteF ?_
  wtm_at "zw"
  refine xO rfl eco c.kd cF.2.2.2.2.1 a.l5 ⟨_,rfl,a.n,kt,(d.name,ik vals),xs,v,⟨rfl,rfl,pd1.at',pd1.keys,kb⟩,e,?_⟩
  rw[nok _ _ v e d hd rfl]
  exact q xs H0 (fun b o _ h=>S0 _ _ h) pd1 nok (Nat.le_succ _)
 | none=>
  refine iteT ?_
  wtm_at "zw"
  refine xO rfl eco c.kd cF.1 a.l1 ?_
  wtm_at "zw"
  obtain⟨i,ei⟩:=List.mem_iff_getElem?.mp hd
  refine⟨dx,du,W.ds.map Deed.name,d.name,.str "deed",rfl,S0 _ _ edx,kZ (Paired.mapP pd fun _ _ y=>y.same S0),(List.nodup_append.mp c.ok.nd).1,i,by rw[List.getElem?_map,ei];rfl,fun u eu=>?_⟩
  obtain⟨da,nv,wa,wu,rfl,ea,nat,_⟩:=xY pd ei eu
  have ea0:=S0 _ _ ea
  wtm_at "zw"
  dsimp only
  refine qWv ?_
  wtm_at "zw"
  refine xO rfl eco c.kd cF.1 a.l1 ?_
  wtm_at "zw"
  have dok:=c.ok.deeds d hd
  refine⟨d.need,nv,bx,st,W.bs,vals,rfl,nat.mono (qB S0),dok.need,dok.dep,⟨⟨us,S0 _ _ ebx,xJ (qB S0) pb⟩,S0 _ _ est,fits.stands c.ok.b25,by omega⟩,fun H1 S1=>?_⟩
  have S01:=S0.trans S1
  have pd2:=pd1.same S1
  have kb1:PkIn H1 (d.name,ik vals) kt:=⟨st,S1 _ _ ekt,S01 _ _ ek⟩
  refine xO rfl (S1 _ _ eco) c.kd cF.2.2.2.2.1 a.l5 ⟨_,rfl,a.n,kt,(d.name,ik vals),xs,⟨rfl,rfl,pd2.at',pd2.keys,kb1⟩,e,Nat.lt_trans hl (by decide),?_⟩
  obtain⟨pd3,sv⟩:=PD.more (H:=H) (v:=.bl (d.need.truth (envOf (kvsOf W.bs vals)))) pd2 kb1 hl
  have kb2:=jD pd2.at' sv kb1
  have eco2:=sv _ _ (xU (S1 _ _ eco) pd2.at' (fun z=>nomatch z)) (S1 _ _ eco)
  generalize upd H1 a.n (PDo P w a.n (xs++[((d.name,ik vals),kt,.bl (d.need.truth (envOf (kvsOf W.bs vals))))]))=H2 at pd3 sv kb2 eco2
  wtm_at "zw"
  refine xO rfl eco2 c.kd cF.2.2.2.2.1 a.l5 ⟨_,rfl,a.n,kt,(d.name,ik vals),_,_,⟨rfl,rfl,pd3.at',pd3.keys,kb2⟩,by rw[jH e,if_pos rfl],?_⟩
  refine q _ H2 (fun b o hb h=>sv _ _ hb (S01 _ _ h)) pd3 (fun x v2 v h d2 hd2 e2=>?_) (by rw[List.length_append];exact Nat.le_refl _)
  rw[jH e] at h
  by_cases z:((x,ik v2):PKy)=(d.name,ik vals)
  ·rw[if_pos z] at h
   obtain⟨z1,z2⟩:=(nodrop _ _ _ _).mp z
   cases h
   have:d2=d:=kW (List.nodup_append.mp c.ok.nd).1 hd2 hd (e2.trans z1)
   rw[this,z2]
  ·rw[if_neg z] at h
   exact nok x v2 v h d2 hd2 e2
theorem yB:xM ["self","name","standing","key"] ["self","name","standing"] (xW (mth 25 4)):=⟨rfl,rfl,rfl,by decide +kernel,rfl,by decide +kernel,by decide +kernel⟩
noncomputable def qXi (W:Wd)(xs:List (PKy×Addr×V)):Prop:=∀x vals v,getP xs (x,ik vals)=some v→∀d∈W.ls,d.name=x→v=.int (d.part.worth (envOf (kvsOf W.bs vals)))
noncomputable def qWo (P:Program)(w:World)(K:PySem.W.Frag)(C:Addr):Sp:=fun vs H Q _=>∃(a:CA) (W:Wd) (bx dx lx:Addr) (bv gv:V) (st:Addr) (vals:List Int) (d:Look) (xs:List (PKy×Addr×V)),vs=[.ref a.co,.str d.name,.ref st]∧Crs K C H a W bx dx lx bv gv∧Std H W st vals∧d∈W.ls∧PD P w H a.s xs∧xs.length<10000∧qXi W xs∧
 ∀(xs':List (PKy×Addr×V)) (H':Hp),Saves a.s H H'→PD P w H' a.s xs'→qXi W xs'→xs'.length≤xs.length+1→Q (.int (d.part.worth (envOf (kvsOf W.bs vals)))) H'
theorem qGm {C:Addr}(F:Md K C "shows" "Course.shows" (mth 25 4) ["self","name","standing"])(D_shown:Dn P w K mg base "shown" 15 ["world","name","standing"] qAq):Dm P w K mg base C "shows" 16 ["self","name","standing"] (qWo P w K C):=by
 refine F.ok yB (fun vs H Q E h=>?_) (fun f cdv A outer s H vs Q E hr h=>?_)
 ·obtain⟨_,_,_,_,_,_,_,_,_,_,_,rfl,_⟩:=h
  rfl
 obtain⟨a,W,bx,dx,lx,bv,gv,st,vals,d,xs,rfl,c,⟨est,fits⟩,hd,pd0,hl,nok,q⟩:=h
 have ek:H st=some (.tup ((ik vals).map kV)):=by rw[qGq];exact est
 refine⟨_,(qZ (qI (i:=3) yB.nd rfl (by wtm_at "zo") (xI (qQ (pv 1) (qQ (pv 2) qX))))
  (qZ (zG (qQv (wJ (P:=P) (w:=w) hr.units3 (pv 3) (xF (K:=K) (pv 0))) (by with_unfolding_all rfl)) (qJ (qJi (P:=P) (w:=w) hr.units3 (xF (K:=K) (pv 0)) (pv 3) (qC D_shown hr (qQ (xF (K:=K) (pv 0)) (qQ (pv 1) (qQ (pv 2) qX)))) rfl)) qY)
  (qJ (qM (qJm (P:=P) (w:=w) hr.units3 (xF (K:=K) (pv 0)) (pv 3) (fun _ _=>rfl)))))),?_⟩
 wtm_at "zw"
 refine⟨xD (show 2≤1000000 by decide),fun kt hkt=>?_⟩
 have S0:=qK hkt (.tup [V.str d.name,V.ref st])
 have ekt:upd H kt (.tup [V.str d.name,V.ref st]) kt=some (.tup [V.str d.name,V.ref st]):=qV
 generalize upd H kt (.tup [V.str d.name,V.ref st])=H0 at S0 ekt
 have eco:=S0 _ _ c.at'
 have ep:=S0 _ _ c.p
 have pd1:=pd0.same S0
 have kb:PkIn H0 (d.name,ik vals) kt:=⟨st,ekt,S0 _ _ ek⟩
 wtm_at "zw"
 refine⟨_,rfl,xO rfl eco c.kd cF.2.2.2.2.2.2 a.l7 ⟨a.s,kt,(d.name,ik vals),xs,⟨rfl,rfl,pd1.at',pd1.keys,kb⟩,_,rfl,?_⟩⟩
 cases e:getP xs (d.name,ik vals) with
 | some v=>
  refine iteF ?_
  wtm_at "zw"
  refine xO rfl eco c.kd cF.2.2.2.2.2.2 a.l7 ⟨_,rfl,a.s,kt,(d.name,ik vals),xs,v,⟨rfl,rfl,pd1.at',pd1.keys,kb⟩,e,?_⟩
  rw[nok _ _ v e d hd rfl]
  exact q xs H0 (fun b o _ h=>S0 _ _ h) pd1 nok (Nat.le_succ _)
 | none=>
  refine iteT ?_
  dsimp only
  refine qWv ?_
  wtm_at "zw"
  refine xO rfl eco c.kd cF.1 a.l1 ?_
  wtm_at "zw"
  refine⟨W,a.p,bx,dx,lx,bv,gv,st,vals,d,rfl,ep,c.lies.same S0,c.ok,S0 _ _ est,fits,hd,fun H1 S1=>?_⟩
  have S01:=S0.trans S1
  have pd2:=pd1.same S1
  have kb1:PkIn H1 (d.name,ik vals) kt:=⟨st,S1 _ _ ekt,S01 _ _ ek⟩
  refine xO rfl (S1 _ _ eco) c.kd cF.2.2.2.2.2.2 a.l7 ⟨_,rfl,a.s,kt,(d.name,ik vals),xs,⟨rfl,rfl,pd2.at',pd2.keys,kb1⟩,e,Nat.lt_trans hl (by decide),?_⟩
  obtain⟨pd3,sv⟩:=PD.more (H:=H) (v:=.int (d.part.worth (envOf (kvsOf W.bs vals)))) pd2 kb1 hl
  have kb2:=jD pd2.at' sv kb1
  have eco2:=sv _ _ (xU (S1 _ _ eco) pd2.at' (fun z=>nomatch z)) (S1 _ _ eco)
  generalize upd H1 a.s (PDo P w a.s (xs++[((d.name,ik vals),kt,.int (d.part.worth (envOf (kvsOf W.bs vals))))]))=H2 at pd3 sv kb2 eco2
  wtm_at "zw"
  refine xO rfl eco2 c.kd cF.2.2.2.2.2.2 a.l7 ⟨_,rfl,a.s,kt,(d.name,ik vals),_,_,⟨rfl,rfl,pd3.at',pd3.keys,kb2⟩,by rw[jH e,if_pos rfl],?_⟩
  refine q _ H2 (fun b o hb h=>sv _ _ hb (S01 _ _ h)) pd3 (fun x v2 v h d2 hd2 e2=>?_) (by rw[List.length_append];exact Nat.le_refl _)
  rw[jH e] at h
  by_cases z:((x,ik v2):PKy)=(d.name,ik vals)
  ·rw[if_pos z] at h
   obtain⟨z1,z2⟩:=(nodrop _ _ _ _).mp z
   cases h
   have:d2=d:=kW (List.nodup_append.mp c.ok.nd).2.1 hd2 hd (e2.trans z1)
   rw[this,z2]
  ·rw[if_neg z] at h
   exact nok x v2 v h d2 hd2 e2
theorem yC:xM ["self","name","standing","key"] ["self","name","standing"] (xW (mth 25 3)):=⟨rfl,rfl,rfl,by decide +kernel,rfl,by decide +kernel,by decide +kernel⟩
noncomputable def CameIn (H:Hp)(av:Addr)(W:Wd)(d:Deed)(vals:List Int)(v:V):Prop:=∃l us,v=.ref l∧l≠av∧H l=some (.lst us)∧Paired (TupIn H) (d.ways.map fun wy=>zY W.bs wy vals) us
theorem CameIn.saves {H H':Hp}{c av:Addr}{xs:List (PKy×Addr×V)}{W:Wd}{d:Deed}{vals:List Int}{v:V}(hc:H c=some (PDo P w c xs))(s:Saves c H H')(h:CameIn H av W d vals v):CameIn H' av W d vals v:=by
 obtain⟨l,us,e,nv,el,pu⟩:=h
 exact⟨l,us,e,nv,s _ _ (xU el hc (fun z=>nomatch z)) el,Paired.mapP pu fun _ _ ⟨t,e,et⟩=>⟨t,e,s _ _ (xU et hc (fun z=>nomatch z)) et⟩⟩
theorem CameIn.same {H H':Hp}{av:Addr}{W:Wd}{d:Deed}{vals:List Int}{v:V}(s:Same H H')(h:CameIn H av W d vals v):CameIn H' av W d vals v:=by
 obtain⟨l,us,e,nv,el,pu⟩:=h
 exact⟨l,us,e,nv,s _ _ el,Paired.mapP pu fun _ _ ⟨t,e,et⟩=>⟨t,e,s _ _ et⟩⟩
noncomputable def wP (H:Hp)(av:Addr)(W:Wd)(xs:List (PKy×Addr×V)):Prop:=∀x vals v,getP xs (x,ik vals)=some v→∀d∈W.ds,d.name=x→CameIn H av W d vals v
noncomputable def qKq (P:Program)(w:World)(K:PySem.W.Frag)(C:Addr):Sp:=fun vs H Q _=>∃(a:CA) (W:Wd) (bx dx lx:Addr) (bv gv:V) (st:Addr) (vals:List Int) (d:Deed) (xs:List (PKy×Addr×V)) (av:Addr),vs=[.ref a.co,.str d.name,.ref st]∧Crs K C H a W bx dx lx bv gv∧Std H W st vals∧d∈W.ds∧PD P w H a.c xs∧xs.length<10000∧wP H av W xs∧H av≠none∧
 ∀(xs':List (PKy×Addr×V)) (v:V) (H':Hp),Saves a.c H H'→PD P w H' a.c xs'→wP H' av W xs'→xs'.length≤xs.length+1→CameIn H' av W d vals v→Q v H'
theorem qGo {C:Addr}(F:Md K C "comes" "Course.comes" (mth 25 3) ["self","name","standing"])(D_comes_of:Dn P w K mg base "comes_of" 15 ["world","name","standing"] qAx):Dm P w K mg base C "comes" 16 ["self","name","standing"] (qKq P w K C):=by
 refine F.ok yC (fun vs H Q E h=>?_) (fun f cdv A outer s H vs Q E hr h=>?_)
 ·obtain⟨_,_,_,_,_,_,_,_,_,_,_,_,rfl,_⟩:=h
  rfl
 obtain⟨a,W,bx,dx,lx,bv,gv,st,vals,d,xs,av,rfl,c,⟨est,fits⟩,hd,pd0,hl,nok,hav,q⟩:=h
 have ek:H st=some (.tup ((ik vals).map kV)):=by rw[qGq];exact est
 refine⟨_,(qZ (qI (i:=3) yC.nd rfl (by wtm_at "zo") (xI (qQ (pv 1) (qQ (pv 2) qX))))
  (qZ (zG (qQv (wJ (P:=P) (w:=w) hr.units3 (pv 3) (xF (K:=K) (pv 0))) (by with_unfolding_all rfl)) (qJ (qJi (P:=P) (w:=w) hr.units3 (xF (K:=K) (pv 0)) (pv 3) (qC D_comes_of hr (qQ (xF (K:=K) (pv 0)) (qQ (pv 1) (qQ (pv 2) qX)))) rfl)) qY)
  (qJ (qM (qJm (P:=P) (w:=w) hr.units3 (xF (K:=K) (pv 0)) (pv 3) (fun _ _=>rfl)))))),?_⟩
 wtm_at "zw"
 refine⟨xD (show 2≤1000000 by decide),fun kt hkt=>?_⟩
 have S0:=qK hkt (.tup [V.str d.name,V.ref st])
 have ekt:upd H kt (.tup [V.str d.name,V.ref st]) kt=some (.tup [V.str d.name,V.ref st]):=qV
 generalize upd H kt (.tup [V.str d.name,V.ref st])=H0 at S0 ekt
 have eco:=S0 _ _ c.at'
 have ep:=S0 _ _ c.p
 have pd1:=pd0.same S0
 have nok0:wP H0 av W xs:=fun x v2 v h d2 h2 e2=>(nok x v2 v h d2 h2 e2).same S0
 have kb:PkIn H0 (d.name,ik vals) kt:=⟨st,ekt,S0 _ _ ek⟩
 wtm_at "zw"
 refine⟨_,rfl,xO rfl eco c.kd cF.2.2.2.2.2.1 a.l6 ⟨a.c,kt,(d.name,ik vals),xs,⟨rfl,rfl,pd1.at',pd1.keys,kb⟩,_,rfl,?_⟩⟩
 cases e:getP xs (d.name,ik vals) with
 | some v=>
  refine iteF ?_
  wtm_at "zw"
  refine xO rfl eco c.kd cF.2.2.2.2.2.1 a.l6 ⟨_,rfl,a.c,kt,(d.name,ik vals),xs,v,⟨rfl,rfl,pd1.at',pd1.keys,kb⟩,e,?_⟩
  exact q xs v H0 (fun b o _ h=>S0 _ _ h) pd1 nok0 (Nat.le_succ _) (nok0 _ _ v e d hd rfl)
 | none=>
  refine iteT ?_
  dsimp only
  refine qWv ?_
  wtm_at "zw"
  refine xO rfl eco c.kd cF.1 a.l1 ?_
  wtm_at "zw"
  refine⟨W,a.p,bx,dx,lx,bv,gv,st,vals,d,rfl,ep,c.lies.same S0,c.ok,S0 _ _ est,fits,hd,fun r ru H1 nr S1 er pu=>?_⟩
  have S01:=S0.trans S1
  have pd2:=pd1.same S1
  have kb1:PkIn H1 (d.name,ik vals) kt:=⟨st,S1 _ _ ekt,S01 _ _ ek⟩
  refine xO rfl (S1 _ _ eco) c.kd cF.2.2.2.2.2.1 a.l6 ⟨_,rfl,a.c,kt,(d.name,ik vals),xs,⟨rfl,rfl,pd2.at',pd2.keys,kb1⟩,e,Nat.lt_trans hl (by decide),?_⟩
  obtain⟨pd3,sv⟩:=PD.more (H:=H) (v:=.ref r) pd2 kb1 hl
  have kb2:=jD pd2.at' sv kb1
  have eco2:=sv _ _ (xU (S1 _ _ eco) pd2.at' (fun z=>nomatch z)) (S1 _ _ eco)
  have rav:r≠av:=fun z=>by
   subst z
   cases e:H r with
   | none=>exact hav e
   | some o=>rw[S0 _ _ e] at nr;cases nr
  have came:CameIn H1 av W d vals (.ref r):=⟨r,ru,rfl,rav,er,pu⟩
  have came2:=came.saves pd2.at' sv
  have nok2:∀x v2 v,getP xs (x,ik v2)=some v→∀d2∈W.ds,d2.name=x→CameIn (upd H1 a.c (PDo P w a.c (xs++[((d.name,ik vals),kt,.ref r)]))) av W d2 v2 v:=fun x v2 v h d2 h2 e2=>((nok0 x v2 v h d2 h2 e2).same S1).saves pd2.at' sv
  generalize upd H1 a.c (PDo P w a.c (xs++[((d.name,ik vals),kt,.ref r)]))=H2 at pd3 sv kb2 eco2 came2 nok2
  wtm_at "zw"
  refine xO rfl eco2 c.kd cF.2.2.2.2.2.1 a.l6 ⟨_,rfl,a.c,kt,(d.name,ik vals),_,.ref r,⟨rfl,rfl,pd3.at',pd3.keys,kb2⟩,by rw[jH e,if_pos rfl],?_⟩
  refine q _ (.ref r) H2 (fun b o hb h=>sv _ _ hb (S01 _ _ h)) pd3 (fun x v2 v h d2 hd2 e2=>?_) (by rw[List.length_append];exact Nat.le_refl _) came2
  rw[jH e] at h
  by_cases z:((x,ik v2):PKy)=(d.name,ik vals)
  ·rw[if_pos z] at h
   obtain⟨z1,z2⟩:=(nodrop _ _ _ _).mp z
   cases h
   have:d2=d:=kW (List.nodup_append.mp c.ok.nd).1 hd2 hd (e2.trans z1)
   rw[this,z2]
   exact came2
  ·rw[if_neg z] at h
   exact nok2 x v2 v h d2 hd2 e2

inductive Nd where
 | fin
 | act (x:Str) (to:Int)
 | see (x:Str) (fs:List (Int×Int))
noncomputable def NdAt (H:Hp):Nd→V→Prop
 | .fin,u=>∃a,u=.ref a∧H a=some (.tup [.str "end"])
 | .act x to,u=>∃a,u=.ref a∧H a=some (.tup [.str "do",.str x,.int to])
 | .see x fs,u=>∃a p us,u=.ref a∧H a=some (.tup [.str "look",.str x,.ref p])∧H p=some (.tup us)∧Paired (PairI H) fs us
theorem PairI.same {H H':Hp}{f:Int×Int}{u:V}(h:PairI H f u)(S:Same H H'):PairI H' f u:=let ⟨a,e,h⟩:=h;⟨a,e,S _ _ h⟩
theorem NdAt.same {H H':Hp}{n:Nd}{u:V}(h:NdAt H n u)(S:Same H H'):NdAt H' n u:=by
 cases n with
 | fin=>obtain⟨a,e,h⟩:=h;exact⟨a,e,S _ _ h⟩
 | act x to=>obtain⟨a,e,h⟩:=h;exact⟨a,e,S _ _ h⟩
 | see x fs=>obtain⟨a,p,us,e,h,h2,h3⟩:=h;exact⟨a,p,us,e,S _ _ h,S _ _ h2,Paired.mapP h3 fun _ _ z=>PairI.same z S⟩

theorem wU:xM ["self","world","plan"] ["self","world","plan"] (xW (mth 25 0)):=⟨rfl,rfl,rfl,by decide +kernel,rfl,by decide +kernel,by decide +kernel⟩
theorem yG:CompOk (xW (mth 25 0)) ["self","world","plan"] (scAt (xA (mth 25 0)) [2] []) ["node"] 1 []:=
 ⟨by decide +kernel,by decide +kernel,by decide +kernel,by decide +kernel,by decide +kernel,by decide +kernel,by decide +kernel,by decide +kernel⟩
noncomputable def Nd.Few:Nd→Prop
 | .see _ fs=>fs.length≤1000
 | _=>True
noncomputable def kX:Nd→List (Key×V)
 | .see _ fs=>mergeK [] (pairI fs)
 | _=>[]
noncomputable def qNn (H:Hp)(ns:List Nd)(fo:Addr):Prop:=∃fu,H fo=some (.lst fu)∧Paired (fun n u=>∃d,u=.ref d∧H d=some (.dK (kX n))) ns fu
noncomputable def qYo (P:Program)(w:World)(K:PySem.W.Frag)(C:Addr):Sp:=fun vs H Q _=>∃(x dx p pl:Addr) (nu:List V) (ns:List Nd),vs=[.ref x,.ref p,.ref pl]∧H x=some (.ins C dx [])∧Kind K C zO∧H pl=some (.lst nu)∧Paired (NdAt H) ns nu∧(∀n∈ns,n.Few)∧ns.length≤1000∧
 ∀(a:CA) (H':Hp),a.co=x→a.dx=dx→a.p=p→a.pl=pl→Saves x H H'→H' x=some (.ins C dx a.fs)→qNn H' ns a.fo→H' a.g=some (.dT [])→PD P w H' a.n []→PD P w H' a.c []→PD P w H' a.s []→(∀b∈[a.fo,a.g,a.n,a.c,a.s],H b=none)→[a.co,a.g,a.n,a.c,a.s].Nodup→Q .non H'
theorem qQl {σ:St}{H:Hp}{C:Bool→Hp→Prop}(h:C true H):tYes σ H C:=h
noncomputable def qId (N:List V→Hp→Prop)(D:Addr)(ys:List V)(H:Hp)(d:Addr):Prop:=H D=some (.lst ys)∧ys.length<sizeLine∧N (ys++[.ref d]) (upd H D (.lst (ys++[.ref d])))
theorem qVn {σ:St}{H:Hp}{Q:VK}{pl:Addr}{nu:List V}{ns:List Nd}(epl:H pl=some (.lst nu))(pn:Paired (NdAt H) ns nu)(few:∀n∈ns,n.Few)(hl:ns.length≤1000)
  (q:∀(D:Addr) (ys:List V) (H':Hp),H D=none→Same H H'→H' D=some (.lst ys)→Paired (fun n u=>∃d,u=.ref d∧H' d=some (.dK (kX n))) ns ys→Q (.ref D) H'):
  rdC 1 [] (gName 0) tYes (tIf (tTest (tOp rEq (tOp (rIxT K) (tVar 0) (tC (V.int 0))) (tC (V.str (Str.ofString "look")))))
   (tCB (fun vs H Q=>∃l us fs,vs=[V.ref l]∧H l=some (HO.tup us)∧Paired (PairI H) fs us∧fs.length≤1000∧∀(p:Addr),H p=none→Q (V.ref p) (upd H p (HO.dK (mergeK [] (pairI fs))))) (tCons (tOp (rIxT K) (tVar 0) (tC (V.int 2))) tNil)) tDNewK) (Itl K pl) σ H Q:=by
 have lb:nu.length=ns.length:=pn.length.symm
 refine jB (xs:=nu) (fun D i ys H'=>Paired (fun n u=>∃d,u=.ref d∧H' d=some (.dK (kX n))) (ns.take i) ys∧∀b o,H b=some o→H' b=some o) (fun D hD=>⟨.nil,qK hD _⟩)
  (fun D i ys H' _ hP=>SqL.of (hP.2 _ _ epl)) (fun D i u ys H' N hD hDy ex hP hN=>?_) (fun D ys H2 hD hDy hP=>?_)
 ·obtain⟨pl',hk⟩:=hP
  have hi:i<ns.length:=by rw[← lb];exact(List.getElem?_eq_some_iff.mp ex).1
  obtain⟨n,en⟩:∃b,ns[i]? = some b:=⟨_,List.getElem?_eq_getElem hi⟩
  have nat:=(xY pn en ex).same (show Same H H' from hk)
  have ll:=pl'.length
  rw[List.length_take] at ll
  have fin:∀d,H' d=none→qId N D ys (upd H' d (.dK (kX n))) d:=fun d hd=>by
   have eD:upd H' d (.dK (kX n)) D=some (.lst ys):=qK hd _ _ _ hDy
   refine⟨eD,small (by omega),hN _ _ qV ⟨?_,fun b o e=>?_⟩⟩
   ·rw[List.take_add_one,en]
    refine Paired.snoc (Paired.mapP pl' fun _ _ ⟨d',e,h⟩=>⟨d',e,?_⟩) ⟨d,rfl,?_⟩
    ·rw[qW (xU h hDy (fun z=>nomatch z)),qW (qA h hd)];exact h
    ·rw[qW (Ne.symm (qA hDy hd))];exact qV
   ·rw[qW (qA e hD),qW (qA (hk _ _ e) hd)];exact hk _ _ e
  refine⟨⟨[some u],rfl,rfl⟩,?_⟩
  cases n with
  | fin=>
   obtain⟨a,rfl,ea⟩:=nat
   refine qQl (iteT ?_)
   wtm_at "zw"
   exact fun p hp=>fin p hp
  | act x to=>
   obtain⟨a,rfl,ea⟩:=nat
   refine qQl (iteT ?_)
   wtm_at "zw"
   exact fun p hp=>fin p hp
  | see x fs=>
   obtain⟨a,p,us,rfl,ea,ep,pf⟩:=nat
   refine qQl (iteT ?_)
   wtm_at "zw"
   exact⟨p,us,fs,rfl,ep,pf,few _ (List.mem_of_getElem? en),fun d hd=>fin d hd⟩
 ·obtain⟨pl',hk⟩:=hP
  rw[lb,List.take_length] at pl'
  exact q D ys H2 hD hk hDy pl'
theorem Saves.trans {x:Addr}{A B D:Hp}(h:Saves x A B)(k:Saves x B D):Saves x A D:=fun b o hb e=>k b o hb (h b o hb e)
theorem jX {x:Addr}{A B:Hp}(h:Same A B):Saves x A B:=fun b o _ e=>h b o e
theorem Saves.back {x:Addr}{A B:Hp}(h:Saves x A B)(hx:B x≠none){b:Addr}(hb:B b=none):A b=none:=by
 cases e:A b with
 | none=>rfl
 | some o=>
  by_cases z:b=x
  ·subst z;exact absurd hb hx
  ·rw[h b o z e] at hb;cases hb
theorem qFe {H H':Hp}{x C dx:Addr}{fs:List (Str×V)}{n:Nd}{u:V}(ex:H x=some (.ins C dx fs))(s:Saves x H H')(h:NdAt H n u):NdAt H' n u:=by
 have k:∀b xs,H b=some (.tup xs)→H' b=some (.tup xs):=fun b xs e=>s _ _ (xU e ex (fun z=>nomatch z)) e
 cases n with
 | fin=>obtain⟨a,e,h⟩:=h;exact⟨a,e,k _ _ h⟩
 | act x to=>obtain⟨a,e,h⟩:=h;exact⟨a,e,k _ _ h⟩
 | see x fs=>obtain⟨a,p,us,e,h,h2,h3⟩:=h;exact⟨a,p,us,e,k _ _ h,k _ _ h2,Paired.mapP h3 fun _ _ ⟨b,e,z⟩=>⟨b,e,k _ _ z⟩⟩
theorem qDw {C:Addr}(F:Mi K mg "Course" C "Course.__init__" (mth 25 0) ["self","world","plan"])(B:Bl mg):Dk P w K mg base "Course" C 1 ["self","world","plan"] (qYo P w K C):=by
 refine F.ok wU (fun vs H Q E h=>?_) (fun f cdv A outer s H vs Q E hr h=>?_)
 ·obtain⟨_,_,_,_,_,_,rfl,_⟩:=h
  rfl
 obtain⟨x,dx,p,pl,nu,ns,rfl,ex,kd,epl,pn,few,l1000,q⟩:=h
 refine⟨_,(qZ (zJ (K:=K) (pv 0) (pv 1))
  (qZ (zJ (K:=K) (pv 0) (pv 2))
  (qZ (zJ (K:=K) (pv 0) (jV rfl yG (qT (K:=K) (pv 2)) (fun cl fp s H=>(qF (i:=0) yG.nd rfl (Or.inl rfl) (.inr rfl))) (fun cl fp s H=>zE) (fun cl fp s H=>(vD (qP jE (xE (qR (K:=K)) (pv 0) qD (fun _ _=>rfl)) qE (xC _)) (xQ (kF rfl) rfl B.dict' wM (qQ (xE (qR (K:=K)) (pv 0) qD (fun _ _=>rfl)) qX)) qXv))))
  (qZ (zJ (K:=K) (pv 0) qFv)
  (qZ (zJ (K:=K) (pv 0) (qXk (P:=P) (w:=w)))
  (qZ (zJ (K:=K) (pv 0) (qXk (P:=P) (w:=w)))
  (qJ (zJ (K:=K) (pv 0) (qXk (P:=P) (w:=w)))))))))),?_⟩
 wtm_at "zw"
 refine⟨_,rfl,_,rfl,x,C,dx,_,rfl,ex,kd.cls,kd.no _ cF.1,by decide,?_⟩
 have e1:upd H x (.ins C dx (putF (Str.ofString "world") (.ref p) [])) x=some (.ins C dx [(Str.ofString "world",.ref p)]):=qV
 have s1:Saves x H (upd H x (.ins C dx (putF (Str.ofString "world") (.ref p) []))):=fun b o hb e=>by rw[qW hb];exact e
 generalize upd H x (.ins C dx (putF (Str.ofString "world") (.ref p) []))=H1 at e1 s1
 wtm_at "zw"
 refine⟨_,rfl,_,rfl,x,C,dx,_,rfl,e1,kd.cls,kd.no _ cF.2.1,(show 1<1000 by decide),?_⟩
 have e2:upd H1 x (.ins C dx (putF (Str.ofString "nodes") (.ref pl) [(Str.ofString "world",.ref p)])) x=some (.ins C dx [(Str.ofString "world",.ref p),(Str.ofString "nodes",.ref pl)]):=qV
 have s2:Saves x H (upd H1 x (.ins C dx (putF (Str.ofString "nodes") (.ref pl) [(Str.ofString "world",.ref p)]))):=fun b o hb e=>by rw[qW hb];exact s1 _ _ hb e
 generalize upd H1 x (.ins C dx (putF (Str.ofString "nodes") (.ref pl) [(Str.ofString "world",.ref p)]))=H2 at e2 s2
 have nx:∀b o,H b=some o→(∀C dx fs,o≠.ins C dx fs)→b≠x:=fun b o e hn z=>by subst z;rw[ex] at e;cases e;exact hn _ _ _ rfl
 have fx:∀b,H2 b=none→H b=none:=fun b hb=>by
  cases e:H b with
  | none=>rfl
  | some o=>
   by_cases z:b=x
   ·subst z;rw[e2] at hb;cases hb
   ·rw[s2 _ _ z e] at hb;cases hb
 have epl2:=s2 _ _ (nx _ _ epl (fun _ _ _ z=>nomatch z)) epl
 have pn2:Paired (NdAt H2) ns nu:=Paired.mapP pn fun n u h=>qFe ex s2 h
 wtm_at "zw"
 refine⟨_,rfl,pl,rfl,⟨nu,SqL.of epl2⟩,qVn epl2 pn2 few l1000 fun fo fu H3 nfo S3 efo pfo=>?_⟩
 refine⟨_,rfl,x,C,dx,_,rfl,S3 _ _ e2,kd.cls,kd.no _ cF.2.2.1,(show 2<1000 by decide),?_⟩
 have eK3:upd H3 x (.ins C dx (putF (Str.ofString "forks") (.ref fo) [(Str.ofString "world",.ref p),(Str.ofString "nodes",.ref pl)])) x=some (.ins C dx [(Str.ofString "world",.ref p),(Str.ofString "nodes",.ref pl),(Str.ofString "forks",.ref fo)]):=qV
 have sK3:Saves x H3 (upd H3 x (.ins C dx (putF (Str.ofString "forks") (.ref fo) [(Str.ofString "world",.ref p),(Str.ofString "nodes",.ref pl)]))):=fun b o hb e=>by rw[qW hb];exact e
 generalize upd H3 x (.ins C dx (putF (Str.ofString "forks") (.ref fo) [(Str.ofString "world",.ref p),(Str.ofString "nodes",.ref pl)]))=K3 at eK3 sK3
 have xfo:fo≠x:=fun z=>by subst z;rw[S3 _ _ e2] at efo;cases efo
 wtm_at "zw"
 intro g hg
 have Sg:=qK hg (.dT [])
 have eg:upd K3 g (.dT []) g=some (.dT []):=qV
 generalize upd K3 g (.dT [])=L3 at Sg eg
 refine⟨_,rfl,x,C,dx,_,rfl,Sg _ _ eK3,kd.cls,kd.no _ cF.2.2.2.1,(show 3<1000 by decide),?_⟩
 have eK4:upd L3 x (.ins C dx (putF (Str.ofString "goals") (.ref g) [(Str.ofString "world",.ref p),(Str.ofString "nodes",.ref pl),(Str.ofString "forks",.ref fo)])) x=some (.ins C dx [(Str.ofString "world",.ref p),(Str.ofString "nodes",.ref pl),(Str.ofString "forks",.ref fo),(Str.ofString "goals",.ref g)]):=qV
 have sK4:Saves x L3 (upd L3 x (.ins C dx (putF (Str.ofString "goals") (.ref g) [(Str.ofString "world",.ref p),(Str.ofString "nodes",.ref pl),(Str.ofString "forks",.ref fo)]))):=fun b o hb e=>by rw[qW hb];exact e
 generalize upd L3 x (.ins C dx (putF (Str.ofString "goals") (.ref g) [(Str.ofString "world",.ref p),(Str.ofString "nodes",.ref pl),(Str.ofString "forks",.ref fo)]))=K4 at eK4 sK4
 have xg:g≠x:=fun z=>by subst z;rw[Sg _ _ eK3] at eg;cases eg
 wtm_at "zw"
 intro n hn
 have Sn:=qK hn (PDo P w n [])
 have en:upd K4 n (PDo P w n []) n=some (PDo P w n []):=qV
 generalize upd K4 n (PDo P w n [])=L4 at Sn en
 refine⟨_,rfl,x,C,dx,_,rfl,Sn _ _ eK4,kd.cls,kd.no _ cF.2.2.2.2.1,(show 4<1000 by decide),?_⟩
 have eK5:upd L4 x (.ins C dx (putF (Str.ofString "needs") (.ref n) [(Str.ofString "world",.ref p),(Str.ofString "nodes",.ref pl),(Str.ofString "forks",.ref fo),(Str.ofString "goals",.ref g)])) x=some (.ins C dx [(Str.ofString "world",.ref p),(Str.ofString "nodes",.ref pl),(Str.ofString "forks",.ref fo),(Str.ofString "goals",.ref g),(Str.ofString "needs",.ref n)]):=qV
 have sK5:Saves x L4 (upd L4 x (.ins C dx (putF (Str.ofString "needs") (.ref n) [(Str.ofString "world",.ref p),(Str.ofString "nodes",.ref pl),(Str.ofString "forks",.ref fo),(Str.ofString "goals",.ref g)]))):=fun b o hb e=>by rw[qW hb];exact e
 generalize upd L4 x (.ins C dx (putF (Str.ofString "needs") (.ref n) [(Str.ofString "world",.ref p),(Str.ofString "nodes",.ref pl),(Str.ofString "forks",.ref fo),(Str.ofString "goals",.ref g)]))=K5 at eK5 sK5
 have xn:n≠x:=fun z=>by subst z;rw[Sn _ _ eK4] at en;cases en
 wtm_at "zw"
 intro c hc
 have Sc:=qK hc (PDo P w c [])
 have ec:upd K5 c (PDo P w c []) c=some (PDo P w c []):=qV
 generalize upd K5 c (PDo P w c [])=L5 at Sc ec
 refine⟨_,rfl,x,C,dx,_,rfl,Sc _ _ eK5,kd.cls,kd.no _ cF.2.2.2.2.2.1,(show 5<1000 by decide),?_⟩
 have eK6:upd L5 x (.ins C dx (putF (Str.ofString "comings") (.ref c) [(Str.ofString "world",.ref p),(Str.ofString "nodes",.ref pl),(Str.ofString "forks",.ref fo),(Str.ofString "goals",.ref g),(Str.ofString "needs",.ref n)])) x=some (.ins C dx [(Str.ofString "world",.ref p),(Str.ofString "nodes",.ref pl),(Str.ofString "forks",.ref fo),(Str.ofString "goals",.ref g),(Str.ofString "needs",.ref n),(Str.ofString "comings",.ref c)]):=qV
 have sK6:Saves x L5 (upd L5 x (.ins C dx (putF (Str.ofString "comings") (.ref c) [(Str.ofString "world",.ref p),(Str.ofString "nodes",.ref pl),(Str.ofString "forks",.ref fo),(Str.ofString "goals",.ref g),(Str.ofString "needs",.ref n)]))):=fun b o hb e=>by rw[qW hb];exact e
 generalize upd L5 x (.ins C dx (putF (Str.ofString "comings") (.ref c) [(Str.ofString "world",.ref p),(Str.ofString "nodes",.ref pl),(Str.ofString "forks",.ref fo),(Str.ofString "goals",.ref g),(Str.ofString "needs",.ref n)]))=K6 at eK6 sK6
 have xc:c≠x:=fun z=>by subst z;rw[Sc _ _ eK5] at ec;cases ec
 wtm_at "zw"
 intro s' hs'
 have Ss':=qK hs' (PDo P w s' [])
 have es':upd K6 s' (PDo P w s' []) s'=some (PDo P w s' []):=qV
 generalize upd K6 s' (PDo P w s' [])=L6 at Ss' es'
 refine⟨_,rfl,x,C,dx,_,rfl,Ss' _ _ eK6,kd.cls,kd.no _ cF.2.2.2.2.2.2,(show 6<1000 by decide),?_⟩
 have eK7:upd L6 x (.ins C dx (putF (Str.ofString "showings") (.ref s') [(Str.ofString "world",.ref p),(Str.ofString "nodes",.ref pl),(Str.ofString "forks",.ref fo),(Str.ofString "goals",.ref g),(Str.ofString "needs",.ref n),(Str.ofString "comings",.ref c)])) x=some (.ins C dx [(Str.ofString "world",.ref p),(Str.ofString "nodes",.ref pl),(Str.ofString "forks",.ref fo),(Str.ofString "goals",.ref g),(Str.ofString "needs",.ref n),(Str.ofString "comings",.ref c),(Str.ofString "showings",.ref s')]):=qV
 have sK7:Saves x L6 (upd L6 x (.ins C dx (putF (Str.ofString "showings") (.ref s') [(Str.ofString "world",.ref p),(Str.ofString "nodes",.ref pl),(Str.ofString "forks",.ref fo),(Str.ofString "goals",.ref g),(Str.ofString "needs",.ref n),(Str.ofString "comings",.ref c)]))):=fun b o hb e=>by rw[qW hb];exact e
 generalize upd L6 x (.ins C dx (putF (Str.ofString "showings") (.ref s') [(Str.ofString "world",.ref p),(Str.ofString "nodes",.ref pl),(Str.ofString "forks",.ref fo),(Str.ofString "goals",.ref g),(Str.ofString "needs",.ref n),(Str.ofString "comings",.ref c)]))=K7 at eK7 sK7
 have xs':s'≠x:=fun z=>by subst z;rw[Ss' _ _ eK6] at es';cases es'
 have z23:Saves x H2 K3:=(jX S3).trans sK3
 have z34:Saves x K3 K4:=(jX Sg).trans sK4
 have z45:Saves x K4 K5:=(jX Sn).trans sK5
 have z56:Saves x K5 K6:=(jX Sc).trans sK6
 have z67:Saves x K6 K7:=(jX Ss').trans sK7
 have eg4:=sK4 _ _ xg eg
 have en5:=sK5 _ _ xn en
 have ec6:=sK6 _ _ xc ec
 have es7:=sK7 _ _ xs' es'
 have z47:=z45.trans (z56.trans z67)
 have b3:∀b,K3 b=none→H b=none:=fun b h=>fx b (z23.back (by rw[eK3];exact fun z=>nomatch z) h)
 have b4:∀b,K4 b=none→H b=none:=fun b h=>b3 b (z34.back (by rw[eK4];exact fun z=>nomatch z) h)
 have b5:∀b,K5 b=none→H b=none:=fun b h=>b4 b (z45.back (by rw[eK5];exact fun z=>nomatch z) h)
 have b6:∀b,K6 b=none→H b=none:=fun b h=>b5 b (z56.back (by rw[eK6];exact fun z=>nomatch z) h)
 have nil:∀(a:Addr) (Hh:Hp),Hh a=some (PDo P w a [])→PD P w Hh a []:=fun a Hh e=>⟨e,(fun z h=>by cases h),by decide⟩
 refine q ⟨x,dx,p,pl,fo,g,n,c,s'⟩ K7 rfl rfl rfl rfl (s2.trans (z23.trans (z34.trans z47))) eK7 ⟨fu,(z34.trans z47) _ _ xfo (sK3 _ _ xfo efo),Paired.mapP pfo fun _ _ ⟨d,e,h⟩=>⟨d,e,?_⟩⟩ (z47 _ _ xg eg4) (nil _ _ ((z56.trans z67) _ _ xn en5)) (nil _ _ (z67 _ _ xc ec6)) (nil _ _ es7) ?_ ?_
 ·have xd:d≠x:=fun z=>by subst z;rw[S3 _ _ e2] at h;cases h
  exact(z34.trans z47) _ _ xd (sK3 _ _ xd h)
 ·intro b hb
  simp only[List.mem_cons,List.not_mem_nil,or_false] at hb
  rcases hb with rfl | rfl | rfl | rfl | rfl
  ·exact fx _ nfo
  ·exact b3 _ hg
  ·exact b4 _ hn
  ·exact b5 _ hc
  ·exact b6 _ hs'
 ·have gn:g≠n:=qA eg4 hn
  have gc:g≠c:=qA (z45 _ _ xg eg4) hc
  have gs:g≠s':=qA ((z45.trans z56) _ _ xg eg4) hs'
  have nc:n≠c:=qA en5 hc
  have ns':n≠s':=qA (z56 _ _ xn en5) hs'
  have cs:c≠s':=qA ec6 hs'
  simp only[List.nodup_cons,List.mem_cons,List.not_mem_nil,or_false,not_or,not_false_eq_true,List.nodup_nil,and_true]
  exact⟨⟨xg.symm,xn.symm,xc.symm,xs'.symm⟩,⟨gn,gc,gs⟩,⟨nc,ns'⟩,cs⟩
theorem wT:xM ["self","course","standing","choices"] ["self","course","standing","choices"] (xW (mth 26 0)):=⟨rfl,rfl,rfl,by decide +kernel,rfl,by decide +kernel,by decide +kernel⟩
noncomputable def jZ:List Str:=["course","standing","choices","steps","number","deeds_done","looked"]
theorem pF:Str.ofString "course" ∈ jZ∧Str.ofString "standing" ∈ jZ∧Str.ofString "choices" ∈ jZ∧Str.ofString "steps" ∈ jZ∧Str.ofString "number" ∈ jZ∧Str.ofString "deeds_done" ∈ jZ∧Str.ofString "looked" ∈ jZ:=by decide +kernel
noncomputable def plF (co st ch sp:Addr)(num done:Int)(lk:Addr):List (Str×V):=[(Str.ofString "course",.ref co),(Str.ofString "standing",.ref st),(Str.ofString "choices",.ref ch),(Str.ofString "steps",.ref sp),(Str.ofString "number",.int num),(Str.ofString "deeds_done",.int done),(Str.ofString "looked",.ref lk)]
noncomputable def qYh (K:PySem.W.Frag)(C:Addr):Sp:=fun vs H Q _=>∃(x dx co st ch:Addr),vs=[.ref x,.ref co,.ref st,.ref ch]∧H x=some (.ins C dx [])∧Kind K C jZ∧
 ∀(sp lk:Addr) (H':Hp),Saves x H H'→H' x=some (.ins C dx (plF co st ch sp 0 0 lk))→H' sp=some (.lst [])→H' lk=some (.dK [])→H sp=none→H lk=none→sp≠lk→Q .non H'
theorem qDv {C:Addr}(F:Mi K mg "Player" C "Player.__init__" (mth 26 0) ["self","course","standing","choices"]):Dk P w K mg base "Player" C 1 ["self","course","standing","choices"] (qYh K C):=by
 refine F.ok wT (fun vs H Q E h=>?_) (fun f cdv A outer s H vs Q E hr h=>?_)
 ·obtain⟨_,_,_,_,_,rfl,_⟩:=h
  rfl
 obtain⟨x,dx,co,st,ch,rfl,ex,kd,q⟩:=h
 refine⟨_,(qZ (zJ (K:=K) (pv 0) (pv 1))
  (qZ (zJ (K:=K) (pv 0) (pv 2))
  (qZ (zJ (K:=K) (pv 0) (pv 3))
  (qZ (zJ (K:=K) (pv 0) (zK qX))
  (qZ (zJ (K:=K) (pv 0) qD)
  (qZ (zJ (K:=K) (pv 0) qD)
  (qJ (zJ (K:=K) (pv 0) qXv)))))))),?_⟩
 wtm_at "zw"
 refine⟨_,rfl,_,rfl,x,C,dx,_,rfl,ex,kd.cls,kd.no _ pF.1,(show 0<1000 by decide),?_⟩
 have eK0:upd H x (.ins C dx (putF (Str.ofString "course") (.ref co) [])) x=some (.ins C dx [(Str.ofString "course",.ref co)]):=qV
 have sK0:Saves x H (upd H x (.ins C dx (putF (Str.ofString "course") (.ref co) []))):=fun b o hb e=>by rw[qW hb];exact e
 generalize upd H x (.ins C dx (putF (Str.ofString "course") (.ref co) []))=K0 at eK0 sK0
 wtm_at "zw"
 refine⟨_,rfl,_,rfl,x,C,dx,_,rfl,eK0,kd.cls,kd.no _ pF.2.1,(show 1<1000 by decide),?_⟩
 have eK1:upd K0 x (.ins C dx (putF (Str.ofString "standing") (.ref st) [(Str.ofString "course",.ref co)])) x=some (.ins C dx [(Str.ofString "course",.ref co),(Str.ofString "standing",.ref st)]):=qV
 have sK1:Saves x K0 (upd K0 x (.ins C dx (putF (Str.ofString "standing") (.ref st) [(Str.ofString "course",.ref co)]))):=fun b o hb e=>by rw[qW hb];exact e
 generalize upd K0 x (.ins C dx (putF (Str.ofString "standing") (.ref st) [(Str.ofString "course",.ref co)]))=K1 at eK1 sK1
 wtm_at "zw"
 refine⟨_,rfl,_,rfl,x,C,dx,_,rfl,eK1,kd.cls,kd.no _ pF.2.2.1,(show 2<1000 by decide),?_⟩
 have eK2:upd K1 x (.ins C dx (putF (Str.ofString "choices") (.ref ch) [(Str.ofString "course",.ref co),(Str.ofString "standing",.ref st)])) x=some (.ins C dx [(Str.ofString "course",.ref co),(Str.ofString "standing",.ref st),(Str.ofString "choices",.ref ch)]):=qV
 have sK2:Saves x K1 (upd K1 x (.ins C dx (putF (Str.ofString "choices") (.ref ch) [(Str.ofString "course",.ref co),(Str.ofString "standing",.ref st)]))):=fun b o hb e=>by rw[qW hb];exact e
 generalize upd K1 x (.ins C dx (putF (Str.ofString "choices") (.ref ch) [(Str.ofString "course",.ref co),(Str.ofString "standing",.ref st)]))=K2 at eK2 sK2
 wtm_at "zw"
 refine⟨xD (show 0≤1000000 by decide),fun sp hsp=>?_⟩
 have Ssp:=qK hsp (.lst [])
 have esp:upd K2 sp (.lst []) sp=some (.lst []):=qV
 generalize upd K2 sp (.lst [])=L3 at Ssp esp
 refine⟨_,rfl,x,C,dx,_,rfl,Ssp _ _ eK2,kd.cls,kd.no _ pF.2.2.2.1,(show 3<1000 by decide),?_⟩
 have eK3:upd L3 x (.ins C dx (putF (Str.ofString "steps") (.ref sp) [(Str.ofString "course",.ref co),(Str.ofString "standing",.ref st),(Str.ofString "choices",.ref ch)])) x=some (.ins C dx [(Str.ofString "course",.ref co),(Str.ofString "standing",.ref st),(Str.ofString "choices",.ref ch),(Str.ofString "steps",.ref sp)]):=qV
 have sK3:Saves x L3 (upd L3 x (.ins C dx (putF (Str.ofString "steps") (.ref sp) [(Str.ofString "course",.ref co),(Str.ofString "standing",.ref st),(Str.ofString "choices",.ref ch)]))):=fun b o hb e=>by rw[qW hb];exact e
 generalize upd L3 x (.ins C dx (putF (Str.ofString "steps") (.ref sp) [(Str.ofString "course",.ref co),(Str.ofString "standing",.ref st),(Str.ofString "choices",.ref ch)]))=K3 at eK3 sK3
 wtm_at "zw"
 refine⟨_,rfl,x,C,dx,_,rfl,eK3,kd.cls,kd.no _ pF.2.2.2.2.1,(show 4<1000 by decide),?_⟩
 have eK4:upd K3 x (.ins C dx (putF (Str.ofString "number") (.int 0) [(Str.ofString "course",.ref co),(Str.ofString "standing",.ref st),(Str.ofString "choices",.ref ch),(Str.ofString "steps",.ref sp)])) x=some (.ins C dx [(Str.ofString "course",.ref co),(Str.ofString "standing",.ref st),(Str.ofString "choices",.ref ch),(Str.ofString "steps",.ref sp),(Str.ofString "number",.int 0)]):=qV
 have sK4:Saves x K3 (upd K3 x (.ins C dx (putF (Str.ofString "number") (.int 0) [(Str.ofString "course",.ref co),(Str.ofString "standing",.ref st),(Str.ofString "choices",.ref ch),(Str.ofString "steps",.ref sp)]))):=fun b o hb e=>by rw[qW hb];exact e
 generalize upd K3 x (.ins C dx (putF (Str.ofString "number") (.int 0) [(Str.ofString "course",.ref co),(Str.ofString "standing",.ref st),(Str.ofString "choices",.ref ch),(Str.ofString "steps",.ref sp)]))=K4 at eK4 sK4
 wtm_at "zw"
 refine⟨_,rfl,x,C,dx,_,rfl,eK4,kd.cls,kd.no _ pF.2.2.2.2.2.1,(show 5<1000 by decide),?_⟩
 have eK5:upd K4 x (.ins C dx (putF (Str.ofString "deeds_done") (.int 0) [(Str.ofString "course",.ref co),(Str.ofString "standing",.ref st),(Str.ofString "choices",.ref ch),(Str.ofString "steps",.ref sp),(Str.ofString "number",.int 0)])) x=some (.ins C dx [(Str.ofString "course",.ref co),(Str.ofString "standing",.ref st),(Str.ofString "choices",.ref ch),(Str.ofString "steps",.ref sp),(Str.ofString "number",.int 0),(Str.ofString "deeds_done",.int 0)]):=qV
 have sK5:Saves x K4 (upd K4 x (.ins C dx (putF (Str.ofString "deeds_done") (.int 0) [(Str.ofString "course",.ref co),(Str.ofString "standing",.ref st),(Str.ofString "choices",.ref ch),(Str.ofString "steps",.ref sp),(Str.ofString "number",.int 0)]))):=fun b o hb e=>by rw[qW hb];exact e
 generalize upd K4 x (.ins C dx (putF (Str.ofString "deeds_done") (.int 0) [(Str.ofString "course",.ref co),(Str.ofString "standing",.ref st),(Str.ofString "choices",.ref ch),(Str.ofString "steps",.ref sp),(Str.ofString "number",.int 0)]))=K5 at eK5 sK5
 wtm_at "zw"
 intro lk hlk
 have Slk:=qK hlk (.dK [])
 have elk:upd K5 lk (.dK []) lk=some (.dK []):=qV
 generalize upd K5 lk (.dK [])=L6 at Slk elk
 refine⟨_,rfl,x,C,dx,_,rfl,Slk _ _ eK5,kd.cls,kd.no _ pF.2.2.2.2.2.2,(show 6<1000 by decide),?_⟩
 have eK6:upd L6 x (.ins C dx (putF (Str.ofString "looked") (.ref lk) [(Str.ofString "course",.ref co),(Str.ofString "standing",.ref st),(Str.ofString "choices",.ref ch),(Str.ofString "steps",.ref sp),(Str.ofString "number",.int 0),(Str.ofString "deeds_done",.int 0)])) x=some (.ins C dx [(Str.ofString "course",.ref co),(Str.ofString "standing",.ref st),(Str.ofString "choices",.ref ch),(Str.ofString "steps",.ref sp),(Str.ofString "number",.int 0),(Str.ofString "deeds_done",.int 0),(Str.ofString "looked",.ref lk)]):=qV
 have sK6:Saves x L6 (upd L6 x (.ins C dx (putF (Str.ofString "looked") (.ref lk) [(Str.ofString "course",.ref co),(Str.ofString "standing",.ref st),(Str.ofString "choices",.ref ch),(Str.ofString "steps",.ref sp),(Str.ofString "number",.int 0),(Str.ofString "deeds_done",.int 0)]))):=fun b o hb e=>by rw[qW hb];exact e
 generalize upd L6 x (.ins C dx (putF (Str.ofString "looked") (.ref lk) [(Str.ofString "course",.ref co),(Str.ofString "standing",.ref st),(Str.ofString "choices",.ref ch),(Str.ofString "steps",.ref sp),(Str.ofString "number",.int 0),(Str.ofString "deeds_done",.int 0)]))=K6 at eK6 sK6
 have xsp:sp≠x:=fun z=>by subst z;rw[Ssp _ _ eK2] at esp;cases esp
 have xlk:lk≠x:=fun z=>by subst z;rw[Slk _ _ eK5] at elk;cases elk
 have z2:Saves x H K2:=sK0.trans (sK1.trans sK2)
 have z25:Saves x K2 K5:=(jX Ssp).trans (sK3.trans (sK4.trans sK5))
 have z56:Saves x K5 K6:=(jX Slk).trans sK6
 have e5:K5 sp=some (.lst []):=(sK3.trans (sK4.trans sK5)) _ _ xsp esp
 exact q sp lk K6 (z2.trans (z25.trans z56)) eK6 (z56 _ _ xsp e5) (sK6 _ _ xlk elk) (z2.back (by rw[eK2];exact fun z=>nomatch z) hsp) ((z2.trans z25).back (by rw[eK5];exact fun z=>nomatch z) hlk) (qA e5 hlk)

noncomputable def StepIn (H:Hp)(x:Str×Int)(u:V):Prop:=∃a,u=.ref a∧H a=some (.tup [.str x.1,.int x.2])
structure PAd where
 a:CA
 pp:Addr
 dxp:Addr
 st:Addr
 ch:Addr
 sp:Addr
 lk:Addr
structure PSt where
 num:Nat
 vals:List Int
 done:Nat
 steps:List (Str×Int)
 kv:List (Key×V)
structure Mem where
 gk:List (List Key×V)
 xn:List (PKy×Addr×V)
 xc:List (PKy×Addr×V)
 xs:List (PKy×Addr×V)
noncomputable def Mem.le (m:Mem)(k:Nat):Prop:=m.gk.length≤k∧m.xn.length≤k∧m.xc.length≤k∧m.xs.length≤k
structure Given (H0:Hp)(A:PAd)(W:Wd)(ns:List Nd)(chs:List Int)(bx dx lx:Addr)(bv gv:V):Prop where
 p:H0 A.a.p=some (.tup [.ref bx,.ref dx,.ref lx,bv,gv])
 lies:WAt H0 W bx dx lx bv gv
 ok:WOk W
 nodes:∃nu,H0 A.a.pl=some (.lst nu)∧Paired (NdAt H0) ns nu
 ch:H0 A.ch=some (.lst (intsV chs))
structure Pl (P:Program)(w:World)(K:PySem.W.Frag)(CC CP:Addr)(H0 H:Hp)(A:PAd)(W:Wd)(ns:List Nd)(s:PSt)(m:Mem):Prop where
 same:Same H0 H
 co:H A.a.co=some (.ins CC A.a.dx A.a.fs)
 kc:Kind K CC zO
 pl:H A.pp=some (.ins CP A.dxp (plF A.a.co A.st A.ch A.sp s.num s.done A.lk))
 kp:Kind K CP jZ
 std:Std H W A.st s.vals
 forks:∃fu,H A.a.fo=some (.lst fu)∧A.a.fo≠A.sp∧Paired (fun n u=>∃d,u=.ref d∧d≠A.lk∧H d=some (.dK (kX n))) ns fu
 sp:∃su,H A.sp=some (.lst su)∧Paired (StepIn H) s.steps su
 lk:H A.lk=some (.dK s.kv)
 g:H A.a.g=some (.dT m.gk)
 gok:qXm W m.gk
 n:PD P w H A.a.n m.xn
 nok:qXl W m.xn
 c:PD P w H A.a.c m.xc
 cok:wP H A.sp W m.xc
 s:PD P w H A.a.s m.xs
 sok:qXi W m.xs
 fresh:∀b∈[A.pp,A.sp,A.lk,A.a.g,A.a.n,A.a.c,A.a.s],H0 b=none
 apart:[A.a.co,A.pp,A.sp,A.lk,A.a.g,A.a.n,A.a.c,A.a.s].Nodup
theorem Given.crs {H0 H:Hp}{A:PAd}{W:Wd}{ns:List Nd}{chs:List Int}{bx dx lx:Addr}{bv gv:V}{CC CP:Addr}{s:PSt}{m:Mem}(G:Given H0 A W ns chs bx dx lx bv gv)(p:Pl P w K CC CP H0 H A W ns s m):Crs K CC H A.a W bx dx lx bv gv:=
 ⟨p.co,p.kc,p.same _ _ G.p,G.lies.same p.same,G.ok⟩
theorem Pl.shows {H0 H H':Hp}{A:PAd}{W:Wd}{ns:List Nd}{CC CP:Addr}{s:PSt}{m:Mem}{xs':List (PKy×Addr×V)}(p:Pl P w K CC CP H0 H A W ns s m)(sv:Saves A.a.s H H')(pd:PD P w H' A.a.s xs')(ok:qXi W xs'):Pl P w K CC CP H0 H' A W ns s { m with xs:=xs' }:=by
 have ap:=p.apart
 simp only[List.nodup_cons,List.mem_cons,List.not_mem_nil,or_false,not_or] at ap
 obtain⟨⟨a1,a2,a3,a4,a5,a6,a7⟩,⟨b1,b2,b3,b4,b5,b6⟩,⟨c1,c2,c3,c4,c5⟩,⟨d1,d2,d3,d4⟩,⟨e1,e2,e3⟩,⟨f1,f2⟩,g1,_⟩:=ap
 have hs:=p.s.at'
 have ps:∀a xs,a≠A.a.s→PD P w H a xs→PD P w H' a xs:=fun a xs ne h=>⟨sv _ _ ne h.at',fun z hz=>jD hs sv (h.keys z hz),h.le⟩
 have tp:∀b xs,H b=some (.tup xs)→H' b=some (.tup xs):=fun b xs e=>sv _ _ (xU e hs (fun z=>nomatch z)) e
 obtain⟨fu,f1',f2',f3'⟩:=p.forks
 obtain⟨su,s1',s2'⟩:=p.sp
 exact⟨fun b o e=>sv _ _ (qA e (p.fresh _ (by simp))) (p.same _ _ e),sv _ _ a7 p.co,p.kc,sv _ _ b6 p.pl,p.kp,⟨tp _ _ p.std.at',p.std.fits⟩,⟨fu,sv _ _ (xU f1' hs (fun z=>nomatch z)) f1',f2',Paired.mapP f3' fun _ _ ⟨d,e,n,h⟩=>⟨d,e,n,sv _ _ (xU h hs (fun z=>nomatch z)) h⟩⟩,
  ⟨su,sv _ _ c5 s1',Paired.mapP s2' fun _ _ ⟨a,e,h⟩=>⟨a,e,tp _ _ h⟩⟩,sv _ _ d4 p.lk,sv _ _ e3 p.g,p.gok,ps _ _ f2 p.n,p.nok,ps _ _ g1 p.c,fun x v2 v h d2 h2 e2=>(p.cok x v2 v h d2 h2 e2).saves hs sv,pd,ok,p.fresh,p.apart⟩
theorem Pl.needs {H0 H H':Hp}{A:PAd}{W:Wd}{ns:List Nd}{CC CP:Addr}{s:PSt}{m:Mem}{xs':List (PKy×Addr×V)}(p:Pl P w K CC CP H0 H A W ns s m)(sv:Saves A.a.n H H')(pd:PD P w H' A.a.n xs')(ok:qXl W xs'):Pl P w K CC CP H0 H' A W ns s { m with xn:=xs' }:=by
 have ap:=p.apart
 simp only[List.nodup_cons,List.mem_cons,List.not_mem_nil,or_false,not_or] at ap
 obtain⟨⟨a1,a2,a3,a4,a5,a6,a7⟩,⟨b1,b2,b3,b4,b5,b6⟩,⟨c1,c2,c3,c4,c5⟩,⟨d1,d2,d3,d4⟩,⟨e1,e2,e3⟩,⟨f1,f2⟩,g1,_⟩:=ap
 have hs:=p.n.at'
 have ps:∀a xs,a≠A.a.n→PD P w H a xs→PD P w H' a xs:=fun a xs ne h=>⟨sv _ _ ne h.at',fun z hz=>jD hs sv (h.keys z hz),h.le⟩
 have tp:∀b xs,H b=some (.tup xs)→H' b=some (.tup xs):=fun b xs e=>sv _ _ (xU e hs (fun z=>nomatch z)) e
 obtain⟨fu,f1',f2',f3'⟩:=p.forks
 obtain⟨su,s1',s2'⟩:=p.sp
 exact⟨fun b o e=>sv _ _ (qA e (p.fresh _ (by simp))) (p.same _ _ e),sv _ _ a5 p.co,p.kc,sv _ _ b4 p.pl,p.kp,⟨tp _ _ p.std.at',p.std.fits⟩,⟨fu,sv _ _ (xU f1' hs (fun z=>nomatch z)) f1',f2',Paired.mapP f3' fun _ _ ⟨d,e,n,h⟩=>⟨d,e,n,sv _ _ (xU h hs (fun z=>nomatch z)) h⟩⟩,
  ⟨su,sv _ _ c3 s1',Paired.mapP s2' fun _ _ ⟨a,e,h⟩=>⟨a,e,tp _ _ h⟩⟩,sv _ _ d2 p.lk,sv _ _ e1 p.g,p.gok,pd,ok,ps _ _ (Ne.symm f1) p.c,fun x v2 v h d2 h2 e2=>(p.cok x v2 v h d2 h2 e2).saves hs sv,ps _ _ (Ne.symm f2) p.s,p.sok,p.fresh,p.apart⟩
theorem Pl.comes {H0 H H':Hp}{A:PAd}{W:Wd}{ns:List Nd}{CC CP:Addr}{s:PSt}{m:Mem}{xs':List (PKy×Addr×V)}(p:Pl P w K CC CP H0 H A W ns s m)(sv:Saves A.a.c H H')(pd:PD P w H' A.a.c xs')(ok:wP H' A.sp W xs'):Pl P w K CC CP H0 H' A W ns s { m with xc:=xs' }:=by
 have ap:=p.apart
 simp only[List.nodup_cons,List.mem_cons,List.not_mem_nil,or_false,not_or] at ap
 obtain⟨⟨a1,a2,a3,a4,a5,a6,a7⟩,⟨b1,b2,b3,b4,b5,b6⟩,⟨c1,c2,c3,c4,c5⟩,⟨d1,d2,d3,d4⟩,⟨e1,e2,e3⟩,⟨f1,f2⟩,g1,_⟩:=ap
 have hs:=p.c.at'
 have ps:∀a xs,a≠A.a.c→PD P w H a xs→PD P w H' a xs:=fun a xs ne h=>⟨sv _ _ ne h.at',fun z hz=>jD hs sv (h.keys z hz),h.le⟩
 have tp:∀b xs,H b=some (.tup xs)→H' b=some (.tup xs):=fun b xs e=>sv _ _ (xU e hs (fun z=>nomatch z)) e
 obtain⟨fu,f1',f2',f3'⟩:=p.forks
 obtain⟨su,s1',s2'⟩:=p.sp
 exact⟨fun b o e=>sv _ _ (qA e (p.fresh _ (by simp))) (p.same _ _ e),sv _ _ a6 p.co,p.kc,sv _ _ b5 p.pl,p.kp,⟨tp _ _ p.std.at',p.std.fits⟩,⟨fu,sv _ _ (xU f1' hs (fun z=>nomatch z)) f1',f2',Paired.mapP f3' fun _ _ ⟨d,e,n,h⟩=>⟨d,e,n,sv _ _ (xU h hs (fun z=>nomatch z)) h⟩⟩,
  ⟨su,sv _ _ c4 s1',Paired.mapP s2' fun _ _ ⟨a,e,h⟩=>⟨a,e,tp _ _ h⟩⟩,sv _ _ d3 p.lk,sv _ _ e2 p.g,p.gok,ps _ _ f1 p.n,p.nok,pd,ok,ps _ _ (Ne.symm g1) p.s,p.sok,p.fresh,p.apart⟩
theorem Pl.goals {H0 H H':Hp}{A:PAd}{W:Wd}{ns:List Nd}{CC CP:Addr}{s:PSt}{m:Mem}{gk':List (List Key×V)}(p:Pl P w K CC CP H0 H A W ns s m)(sv:Saves A.a.g H H')(eg:H' A.a.g=some (.dT gk'))(ok:qXm W gk'):Pl P w K CC CP H0 H' A W ns s { m with gk:=gk' }:=by
 have ap:=p.apart
 simp only[List.nodup_cons,List.mem_cons,List.not_mem_nil,or_false,not_or] at ap
 obtain⟨⟨a1,a2,a3,a4,a5,a6,a7⟩,⟨b1,b2,b3,b4,b5,b6⟩,⟨c1,c2,c3,c4,c5⟩,⟨d1,d2,d3,d4⟩,⟨e1,e2,e3⟩,⟨f1,f2⟩,g1,_⟩:=ap
 have hs:=p.g
 have tp:∀b xs,H b=some (.tup xs)→H' b=some (.tup xs):=fun b xs e=>sv _ _ (xU e hs (fun z=>nomatch z)) e
 have ps:∀a xs,a≠A.a.g→PD P w H a xs→PD P w H' a xs:=fun a xs ne h=>⟨sv _ _ ne h.at',fun z hz=>let ⟨t,e1,e2⟩:=h.keys z hz;⟨t,tp _ _ e1,tp _ _ e2⟩,h.le⟩
 obtain⟨fu,f1',f2',f3'⟩:=p.forks
 obtain⟨su,s1',s2'⟩:=p.sp
 exact⟨fun b o e=>sv _ _ (qA e (p.fresh _ (by simp))) (p.same _ _ e),sv _ _ a4 p.co,p.kc,sv _ _ b3 p.pl,p.kp,⟨tp _ _ p.std.at',p.std.fits⟩,⟨fu,sv _ _ (xU f1' hs (fun z=>nomatch z)) f1',f2',Paired.mapP f3' fun _ _ ⟨d,e,n,h⟩=>⟨d,e,n,sv _ _ (xU h hs (fun z=>nomatch z)) h⟩⟩,
  ⟨su,sv _ _ c2 s1',Paired.mapP s2' fun _ _ ⟨a,e,h⟩=>⟨a,e,tp _ _ h⟩⟩,sv _ _ d1 p.lk,eg,ok,ps _ _ (Ne.symm e1) p.n,p.nok,ps _ _ (Ne.symm e2) p.c,fun x v2 v h d2 h2 e2=>by
   obtain⟨l,us,e,nv,el,pu⟩:=p.cok x v2 v h d2 h2 e2
   exact⟨l,us,e,nv,sv _ _ (xU el hs (fun z=>nomatch z)) el,Paired.mapP pu fun _ _ ⟨t,e,et⟩=>⟨t,e,tp _ _ et⟩⟩,ps _ _ (Ne.symm e3) p.s,p.sok,p.fresh,p.apart⟩
theorem Pl.newer {H0 H H':Hp}{A:PAd}{W:Wd}{ns:List Nd}{CC CP:Addr}{s:PSt}{m:Mem}(p:Pl P w K CC CP H0 H A W ns s m)(S:Same H H'):Pl P w K CC CP H0 H' A W ns s m:=by
 obtain⟨fu,f1',f2',f3'⟩:=p.forks
 obtain⟨su,s1',s2'⟩:=p.sp
 exact⟨p.same.trans S,S _ _ p.co,p.kc,S _ _ p.pl,p.kp,⟨S _ _ p.std.at',p.std.fits⟩,⟨fu,S _ _ f1',f2',Paired.mapP f3' fun _ _ ⟨d,e,n,h⟩=>⟨d,e,n,S _ _ h⟩⟩,
  ⟨su,S _ _ s1',Paired.mapP s2' fun _ _ ⟨a,e,h⟩=>⟨a,e,S _ _ h⟩⟩,S _ _ p.lk,S _ _ p.g,p.gok,p.n.same S,p.nok,p.c.same S,fun x v2 v h d2 h2 e2=>(p.cok x v2 v h d2 h2 e2).same S,p.s.same S,p.sok,p.fresh,p.apart⟩
theorem Pl.step {H0 H H':Hp}{A:PAd}{W:Wd}{ns:List Nd}{CC CP:Addr}{s:PSt}{m:Mem}{su:List V}{x:Str×Int}{u:V}(p:Pl P w K CC CP H0 H A W ns s m)(sv:Saves A.sp H H')(e:H A.sp=some (.lst su))(pu:Paired (StepIn H) s.steps su)(hu:StepIn H x u)(e':H' A.sp=some (.lst (su++[u]))):Pl P w K CC CP H0 H' A W ns { s with steps:=s.steps++[x] } m:=by
 have ap:=p.apart
 simp only[List.nodup_cons,List.mem_cons,List.not_mem_nil,or_false,not_or] at ap
 obtain⟨⟨a1,a2,a3,a4,a5,a6,a7⟩,⟨b1,b2,b3,b4,b5,b6⟩,⟨c1,c2,c3,c4,c5⟩,⟨d1,d2,d3,d4⟩,⟨e1,e2,e3⟩,⟨f1,f2⟩,g1,_⟩:=ap
 have tp:∀b xs,H b=some (.tup xs)→H' b=some (.tup xs):=fun b xs h=>sv _ _ (xU h e (fun z=>nomatch z)) h
 have ps:∀a xs,a≠A.sp→PD P w H a xs→PD P w H' a xs:=fun a xs ne h=>⟨sv _ _ ne h.at',fun z hz=>let ⟨t,e1,e2⟩:=h.keys z hz;⟨t,tp _ _ e1,tp _ _ e2⟩,h.le⟩
 have st:∀y v,StepIn H y v→StepIn H' y v:=fun y v ⟨a,h1,h2⟩=>⟨a,h1,tp _ _ h2⟩
 obtain⟨fu,f1',f2',f3'⟩:=p.forks
 exact⟨fun b o h=>sv _ _ (qA h (p.fresh _ (by simp))) (p.same _ _ h),sv _ _ a2 p.co,p.kc,sv _ _ b1 p.pl,p.kp,⟨tp _ _ p.std.at',p.std.fits⟩,⟨fu,sv _ _ f2' f1',f2',Paired.mapP f3' fun _ _ ⟨d,h1,n,h⟩=>⟨d,h1,n,sv _ _ (xU h e (fun z=>nomatch z)) h⟩⟩,
  ⟨_,e',Paired.snoc (Paired.mapP pu st) (st _ _ hu)⟩,sv _ _ (Ne.symm c1) p.lk,sv _ _ (Ne.symm c2) p.g,p.gok,ps _ _ (Ne.symm c3) p.n,p.nok,ps _ _ (Ne.symm c4) p.c,fun x v2 v h d2 h2 z2=>by
   obtain⟨l,us,h1,nv,el,pq⟩:=p.cok x v2 v h d2 h2 z2
   exact⟨l,us,h1,nv,sv _ _ nv el,Paired.mapP pq fun _ _ ⟨t,h3,et⟩=>⟨t,h3,tp _ _ et⟩⟩,ps _ _ (Ne.symm c5) p.s,p.sok,p.fresh,p.apart⟩

theorem yV {vals:List Int}{i:Nat}(h:i<vals.length):vals[i]? = some (vals.getD i 0):=by
 rw[List.getD_eq_getElem?_getD,List.getElem?_eq_getElem h];rfl
theorem qYc {bs:List (Str×Int)}{wy:List (Str×Th)}{vals:List Int}(f:Fits bs vals)(h:∀b∈bs,2≤b.2):Fits bs (zY bs wy vals):=by
 refine⟨vX f.1,fun i b v eb ev=>?_⟩
 have hi:i<vals.length:=by rw[f.1];exact(List.getElem?_eq_some_iff.mp eb).1
 rw[wO eb (yV hi)] at ev
 have fb:=f.2 i b _ eb (yV hi)
 have b2:=h b (List.mem_of_getElem? eb)
 generalize wy.lookup b.1=o at ev
 cases o with
 | none=>cases ev;exact fb
 | some x=>cases ev;exact⟨Int.emod_nonneg _ (by omega),Int.emod_lt_of_pos _ (by omega)⟩
theorem yY {x:Addr}{H:Hp}{o:HO}:Saves x H (upd H x o):=fun b _ hb e=>by rw[qW hb];exact e
theorem Pl.set {H0 H H':Hp}{A:PAd}{W:Wd}{ns:List Nd}{CC CP:Addr}{s:PSt}{m:Mem}{st' lk':Addr}{num' done':Nat}{vals':List Int}{kv':List (Key×V)}(p:Pl P w K CC CP H0 H A W ns s m)(sv:Saves A.pp H H')(e':H' A.pp=some (.ins CP A.dxp (plF A.a.co st' A.ch A.sp num' done' lk')))
  (sd:Std H' W st' vals') (el:H' lk'=some (.dK kv')) (hl:lk'=A.lk∨H lk'=none):Pl P w K CC CP H0 H' { A with st:=st',lk:=lk' } W ns { num:=num',vals:=vals',done:=done',steps:=s.steps,kv:=kv' } m:=by
 have ap:=p.apart
 simp only[List.nodup_cons,List.mem_cons,List.not_mem_nil,or_false,not_or] at ap
 obtain⟨⟨a1,a2,a3,a4,a5,a6,a7⟩,⟨b1,b2,b3,b4,b5,b6⟩,⟨c1,c2,c3,c4,c5⟩,⟨d1,d2,d3,d4⟩,⟨e1,e2,e3⟩,⟨f1,f2⟩,g1,_⟩:=ap
 have hp:=p.pl
 have tp:∀b xs,H b=some (.tup xs)→H' b=some (.tup xs):=fun b xs h=>sv _ _ (xU h hp (fun z=>nomatch z)) h
 have ps:∀a xs,a≠A.pp→PD P w H a xs→PD P w H' a xs:=fun a xs ne h=>⟨sv _ _ ne h.at',fun z hz=>let ⟨t,e1,e2⟩:=h.keys z hz;⟨t,tp _ _ e1,tp _ _ e2⟩,h.le⟩
 obtain⟨fu,f1',f2',f3'⟩:=p.forks
 obtain⟨su,s1',s2'⟩:=p.sp
 have nl:∀b o,H b=some o→b≠A.lk→b≠lk':=fun b o h hb=>by
  rcases hl with z | z
  ·rw[z];exact hb
  ·exact qA h z
 refine⟨fun b o h=>sv _ _ (qA h (p.fresh _ (by simp))) (p.same _ _ h),sv _ _ a1 p.co,p.kc,e',p.kp,sd,⟨fu,sv _ _ (xU f1' hp (fun z=>nomatch z)) f1',f2',Paired.mapP f3' fun _ _ ⟨d,h1,n,h⟩=>⟨d,h1,nl _ _ h n,sv _ _ (xU h hp (fun z=>nomatch z)) h⟩⟩,
  ⟨su,sv _ _ (Ne.symm b1) s1',Paired.mapP s2' fun _ _ ⟨a,h1,h⟩=>⟨a,h1,tp _ _ h⟩⟩,el,sv _ _ (Ne.symm b3) p.g,p.gok,ps _ _ (Ne.symm b4) p.n,p.nok,ps _ _ (Ne.symm b5) p.c,fun x v2 v h d2 h2 z2=>by
   obtain⟨l,us,h1,nv,el,pq⟩:=p.cok x v2 v h d2 h2 z2
   exact⟨l,us,h1,nv,sv _ _ (xU el hp (fun z=>nomatch z)) el,Paired.mapP pq fun _ _ ⟨t,h3,et⟩=>⟨t,h3,tp _ _ et⟩⟩,ps _ _ (Ne.symm b6) p.s,p.sok,?_,?_⟩
 ·have fr:H0 lk'=none:=by
   rcases hl with z | z
   ·rw[z];exact p.fresh _ (by simp)
   ·exact p.same.free z
  intro b hb
  simp only[List.mem_cons,List.not_mem_nil,or_false] at hb
  rcases hb with rfl | rfl | rfl | rfl | rfl | rfl | rfl
  ·exact p.fresh _ (by simp)
  ·exact p.fresh _ (by simp)
  ·exact fr
  ·exact p.fresh _ (by simp)
  ·exact p.fresh _ (by simp)
  ·exact p.fresh _ (by simp)
  ·exact p.fresh _ (by simp)
 ·have q1:=nl _ _ p.co a3
  have q2:=nl _ _ hp b2
  have q3:=nl _ _ s1' c1
  have q4:=nl _ _ p.g (Ne.symm d1)
  have q5:=nl _ _ p.n.at' (Ne.symm d2)
  have q6:=nl _ _ p.c.at' (Ne.symm d3)
  have q7:=nl _ _ p.s.at' (Ne.symm d4)
  simp only[List.nodup_cons,List.mem_cons,List.not_mem_nil,or_false,not_or,not_false_eq_true,List.nodup_nil,and_true]
  exact⟨⟨a1,a2,q1,a4,a5,a6,a7⟩,⟨b1,q2,b3,b4,b5,b6⟩,⟨q3,c2,c3,c4,c5⟩,⟨q4.symm,q5.symm,q6.symm,q7.symm⟩,⟨e1,e2,e3⟩,⟨f1,f2⟩,g1⟩
theorem Pl.mark {H0 H H':Hp}{A:PAd}{W:Wd}{ns:List Nd}{CC CP:Addr}{s:PSt}{m:Mem}{kv':List (Key×V)}(p:Pl P w K CC CP H0 H A W ns s m)(sv:Saves A.lk H H')(e':H' A.lk=some (.dK kv')):Pl P w K CC CP H0 H' A W ns { s with kv:=kv' } m:=by
 have ap:=p.apart
 simp only[List.nodup_cons,List.mem_cons,List.not_mem_nil,or_false,not_or] at ap
 obtain⟨⟨a1,a2,a3,a4,a5,a6,a7⟩,⟨b1,b2,b3,b4,b5,b6⟩,⟨c1,c2,c3,c4,c5⟩,⟨d1,d2,d3,d4⟩,⟨e1,e2,e3⟩,⟨f1,f2⟩,g1,_⟩:=ap
 have hp:=p.lk
 have tp:∀b xs,H b=some (.tup xs)→H' b=some (.tup xs):=fun b xs h=>sv _ _ (xU h hp (fun z=>nomatch z)) h
 have ps:∀a xs,a≠A.lk→PD P w H a xs→PD P w H' a xs:=fun a xs ne h=>⟨sv _ _ ne h.at',fun z hz=>let ⟨t,e1,e2⟩:=h.keys z hz;⟨t,tp _ _ e1,tp _ _ e2⟩,h.le⟩
 obtain⟨fu,f1',f2',f3'⟩:=p.forks
 obtain⟨su,s1',s2'⟩:=p.sp
 exact⟨fun b o h=>sv _ _ (qA h (p.fresh _ (by simp))) (p.same _ _ h),sv _ _ a3 p.co,p.kc,sv _ _ b2 p.pl,p.kp,⟨tp _ _ p.std.at',p.std.fits⟩,⟨fu,sv _ _ (xU f1' hp (fun z=>nomatch z)) f1',f2',Paired.mapP f3' fun _ _ ⟨d,h1,n,h⟩=>⟨d,h1,n,sv _ _ n h⟩⟩,
  ⟨su,sv _ _ c1 s1',Paired.mapP s2' fun _ _ ⟨a,h1,h⟩=>⟨a,h1,tp _ _ h⟩⟩,e',sv _ _ (Ne.symm d1) p.g,p.gok,ps _ _ (Ne.symm d2) p.n,p.nok,ps _ _ (Ne.symm d3) p.c,fun x v2 v h d2 h2 z2=>by
   obtain⟨l,us,h1,nv,el,pq⟩:=p.cok x v2 v h d2 h2 z2
   exact⟨l,us,h1,nv,sv _ _ (xU el hp (fun z=>nomatch z)) el,Paired.mapP pq fun _ _ ⟨t,h3,et⟩=>⟨t,h3,tp _ _ et⟩⟩,ps _ _ (Ne.symm d4) p.s,p.sok,p.fresh,p.apart⟩
noncomputable def forkTo:List (Int×Int)→Int→Option Int
 | [],_=>none
 | p::fs,x=>(forkTo fs x).or (if p.1=x then some p.2 else none)
theorem qGv:∀(fs:List (Int×Int)) (kv:List (Key×V)) (x:Int),valV (mergeK kv (pairI fs)) (Sum.inl x)=((forkTo fs x).map V.int).or (valV kv (Sum.inl x)):=by
 intro fs
 induction fs with
 | nil=>intro kv x;rfl
 | cons p fs ih=>
  intro kv x
  show valV (mergeK (putK kv (Sum.inl p.1) (.int p.2)) (pairI fs)) (Sum.inl x)=(((forkTo fs x).or (if p.1=x then some p.2 else none)).map V.int).or (valV kv (Sum.inl x))
  rw[ih,jY]
  cases forkTo fs x with
  | some r=>rfl
  | none=>
   by_cases e:p.1=x
   ·subst e;simp
   ·have:¬((Sum.inl x:Key)=Sum.inl p.1):=fun z=>e (Sum.inl.inj z).symm
    simp[this,e]
theorem qCm (y:Str)(fs:List (Int×Int))(x:Int):valV (kX (.see y fs)) (Sum.inl x)=(forkTo fs x).map V.int:=by
 show valV (mergeK [] (pairI fs)) _=_
 rw[qGv]
 cases forkTo fs x <;> rfl
theorem qQe {x k:Int}:∀{fs:List (Int×Int)},forkTo fs x=some k→∃f∈fs,f.2=k:=by
 intro fs
 induction fs with
 | nil=>intro h;cases h
 | cons p fs ih=>
  intro h
  change (forkTo fs x).or (if p.1=x then some p.2 else none)=some k at h
  cases e:forkTo fs x with
  | some r=>
   rw[e] at h
   obtain⟨f,h1,h2⟩:=ih (e.trans h)
   exact⟨f,List.mem_cons_of_mem _ h1,h2⟩
  | none=>
   rw[e] at h
   by_cases z:p.1=x
   ·rw[if_pos z] at h
    exact⟨p,List.mem_cons_self,Option.some.inj h⟩
   ·rw[if_neg z] at h
    cases h
noncomputable def lookS (W:Wd)(s:PSt)(l:Look)(fs:List (Int×Int)):Option Str×PSt:=match valV s.kv (Sum.inl (s.num:Int)) with
 | some _=>(some (Str.ofString "round"),s)
 | none=>match forkTo fs (l.part.worth (envOf (kvsOf W.bs s.vals))) with
  | none=>(some (Str.ofString "lost"),{ s with kv:=putK s.kv (Sum.inl (s.num:Int)) (.bl true),steps:=s.steps++[(l.name,l.part.worth (envOf (kvsOf W.bs s.vals)))] })
  | some k=>(none,{ num:=k.toNat,vals:=s.vals,done:=s.done,kv:=putK s.kv (Sum.inl (s.num:Int)) (.bl true),steps:=s.steps++[(l.name,l.part.worth (envOf (kvsOf W.bs s.vals)))] })
noncomputable def deedS (W:Wd)(chs:List Int)(s:PSt)(d:Deed)(to:Int):Option Str×PSt:=match d.need.truth (envOf (kvsOf W.bs s.vals)) with
 | false=>(some (Str.ofString "need"),s)
 | true=>match chs[s.done]? with
  | none=>(some (Str.ofString "open"),s)
  | some c=>(none,{ num:=to.toNat,vals:=zY W.bs (d.ways.getD (c % (d.ways.length:Int)).toNat []) s.vals,done:=s.done+1,steps:=s.steps++[(d.name,c % (d.ways.length:Int))],kv:=[] })
noncomputable def goS (W:Wd)(ns:List Nd)(chs:List Int)(s:PSt):Option Str×PSt:=match ns[s.num]? with
 | some .fin=>(some (match W.gt.truth (envOf (kvsOf W.bs s.vals)) with | true=>Str.ofString "goal" | false=>Str.ofString "short"),s)
 | some (.act x to)=>match W.ds.find? (fun d=>decide (d.name=x)) with
  | some d=>deedS W chs s d to
  | none=>(some (Str.ofString "lost"),s)
 | some (.see x fs)=>match W.ls.find? (fun d=>decide (d.name=x)) with
  | some l=>lookS W s l fs
  | none=>(some (Str.ofString "lost"),s)
 | none=>(some (Str.ofString "lost"),s)
noncomputable def runS (W:Wd)(ns:List Nd)(chs:List Int):Nat→PSt→Option (Str×PSt)
 | 0,_=>none
 | k+1,s=>match goS W ns chs s with
  | (some e,s')=>some (e,s')
  | (none,s')=>runS W ns chs k s'
noncomputable def endV:Option Str→V
 | none=>.non
 | some e=>.str e
structure NsOk (W:Wd)(ns:List Nd):Prop where
 act:∀x to,Nd.act x to∈ns→(∃d∈W.ds,d.name=x)∧0≤to∧to<(ns.length:Int)
 see:∀x fs,Nd.see x fs∈ns→(∃l∈W.ls,l.name=x)∧∀f∈fs,0≤f.2∧f.2<(ns.length:Int)
theorem jI {α:Type}{f:α→Str}{l:List α}(nd:(l.map f).Nodup){a:α}(ha:a∈l):l.find? (fun d=>decide (f d=f a))=some a:=by
 cases e:l.find? (fun d=>decide (f d=f a)) with
 | none=>exact absurd (decide_eq_true rfl) (List.find?_eq_none.mp e a ha)
 | some b=>rw[kW nd (List.mem_of_find?_eq_some e) ha (of_decide_eq_true (List.find?_some (p:=fun d=>decide (f d=f a)) e))]
theorem qRw {W:Wd}{ns:List Nd}{chs:List Int}{s s':PSt}(ok:NsOk W ns)(hd:s.done≤chs.length)(h:goS W ns chs s=(none,s')):s'.num<ns.length∧s'.done≤chs.length:=by
 unfold goS at h
 cases e:ns[s.num]? with
 | none=>rw[e] at h;cases h
 | some n=>
  rw[e] at h
  cases n with
  | fin=>cases h
  | act x to=>
   have o:=ok.act x to (List.mem_of_getElem? e)
   cases e2:W.ds.find? (fun d=>decide (d.name=x)) with
   | none=>simp only[e2] at h;cases h
   | some d=>
    simp only[e2,deedS] at h
    cases e3:d.need.truth (envOf (kvsOf W.bs s.vals)) with
    | false=>simp only[e3] at h;cases h
    | true=>
     simp only[e3] at h
     cases e4:chs[s.done]? with
     | none=>simp only[e4] at h;cases h
     | some c=>
      simp only[e4] at h
      have lt:=(List.getElem?_eq_some_iff.mp e4).1
      cases h
      exact⟨by show to.toNat<_;omega,by show s.done+1≤_;omega⟩
  | see x fs=>
   have o:=ok.see x fs (List.mem_of_getElem? e)
   cases e2:W.ls.find? (fun d=>decide (d.name=x)) with
   | none=>simp only[e2] at h;cases h
   | some l=>
    simp only[e2,lookS] at h
    cases e3:valV s.kv (Sum.inl (s.num:Int)) with
    | some v=>simp only[e3] at h;cases h
    | none=>
     simp only[e3] at h
     cases e4:forkTo fs (l.part.worth (envOf (kvsOf W.bs s.vals))) with
     | none=>simp only[e4] at h;cases h
     | some k=>
      simp only[e4] at h
      obtain⟨f,hf,z⟩:=qQe e4
      have b:=o.2 f hf
      cases h
      exact⟨by show k.toNat<_;omega,hd⟩
theorem qHc {a C dx a2 C2 dx2:Addr}{fs fs2:List (Str×V)}{ms ms2:List Str}{v2:V}{f g:Str}{i:Nat}{σ:St}{H:Hp}{Q:VK}(hv:σ[i]? = some (some (.ref a)))(ha:H a=some (.ins C dx fs))(kd:Kind K C ms)(hf:f∈ms)(l:fs.lookup f=some (.ref a2))(ha2:H a2=some (.ins C2 dx2 fs2))(kd2:Kind K C2 ms2)(hg:g∈ms2)(l2:fs2.lookup g=some v2)(q:Q v2 H):tFld K (tFld K (tVar i) f) g σ H Q:=
 ⟨_,hv,a,C,dx,fs,.ref a2,rfl,ha,kd.cls,kd.no f hf,l,a2,C2,dx2,fs2,v2,rfl,ha2,kd2.cls,kd2.no g hg,l2,q⟩
section
variable {co st ch sp lk:Addr}{num done:Int}
theorem qQw:(plF co st ch sp num done lk).lookup (Str.ofString "course")=some (.ref co):=rfl
theorem qZa:(plF co st ch sp num done lk).lookup (Str.ofString "standing")=some (.ref st):=rfl
theorem qHg:(plF co st ch sp num done lk).lookup (Str.ofString "choices")=some (.ref ch):=rfl
theorem qBx:(plF co st ch sp num done lk).lookup (Str.ofString "steps")=some (.ref sp):=rfl
theorem qFj:(plF co st ch sp num done lk).lookup (Str.ofString "number")=some (.int num):=rfl
theorem qMz:(plF co st ch sp num done lk).lookup (Str.ofString "deeds_done")=some (.int done):=rfl
theorem qHf:(plF co st ch sp num done lk).lookup (Str.ofString "looked")=some (.ref lk):=rfl
end
noncomputable def Lt (s:PSt)(m:Mem)(k:Nat):Prop:=m.le k∧s.steps.length≤k∧s.kv.length≤k
noncomputable def PAd.Of (A' A:PAd):Prop:=A'.a=A.a∧A'.ch=A.ch∧A'.pp=A.pp
theorem zM:xM ["self","name","worth","forks"] ["self","name"] (xW (mth 26 3)):=⟨rfl,rfl,rfl,by decide +kernel,rfl,by decide +kernel,by decide +kernel⟩
noncomputable def qYm (P:Program)(w:World)(K:PySem.W.Frag)(CC CP:Addr):Sp:=fun vs H Q _=>∃(H0:Hp) (A:PAd) (W:Wd) (ns:List Nd) (chs:List Int) (bx dx lx:Addr) (bv gv:V) (s:PSt) (m:Mem) (k:Nat) (l:Look) (fs:List (Int×Int)),vs=[.ref A.pp,.str l.name]∧Given H0 A W ns chs bx dx lx bv gv∧Pl P w K CC CP H0 H A W ns s m∧l∈W.ls∧ns[s.num]? = some (.see l.name fs)∧(∀f∈fs,0≤f.2)∧Lt s m k∧k<9000∧
 ∀(A':PAd) (s':PSt) (m':Mem) (e:Option Str) (H':Hp),lookS W s l fs=(e,s')→A'.Of A→Pl P w K CC CP H0 H' A' W ns s' m'→Lt s' m' (k+1)→Q (endV e) H'
theorem qWx {CC CP:Addr}(CL_Course:Cls K CC)(F:Md K CP "do_look" "Player.do_look" (mth 26 3) ["self","name"])(D_Course_shows:Dm P w K mg base CC "shows" 16 ["self","name","standing"] (qWo P w K CC)):Dm P w K mg base CP "do_look" 29 ["self","name"] (qYm P w K CC CP):=by
 refine F.ok zM (fun vs H Q E h=>?_) (fun f cdv A' outer s' H vs Q E hr h=>?_)
 ·obtain⟨_,_,_,_,_,_,_,_,_,_,_,_,_,_,_,rfl,_⟩:=h
  rfl
 obtain⟨H0,A,W,ns,chs,bx,dx,lx,bv,gv,s,m,k,l,fs,rfl,G,p,hl,en,hfs,⟨⟨g1,g2,g3,g4⟩,g5,g6⟩,hk,q⟩:=h
 have hu:=qGx hr
 refine⟨_,(qZ (zG (qQv (qPv hu (xF (K:=K) (pv 0)) (xF (K:=K) (pv 0))) (by with_unfolding_all rfl)) (qJ (qM qE)) qY)
  (qZ (qJl hu (xF (K:=K) (pv 0)) (xF (K:=K) (pv 0)) qBa rfl)
  (qZ (qI (i:=2) zM.nd rfl (by wtm_at "zo") (yM D_Course_shows CL_Course (xF (K:=K) (pv 0)) hr (qQ (pv 1) (qQ (xF (K:=K) (pv 0)) qX))))
  (qZ (qO (yP (K:=K) PySem.F.plainAttrs_list PySem.F.slot_list_append PySem.F.type_list_append zV (xF (K:=K) (pv 0)) (qQ (xI (qQ (pv 1) (qQ (pv 2) qX))) qX)))
  (qZ (qI (i:=3) zM.nd rfl (by wtm_at "zo") (xE (qS (K:=K)) (xF (K:=K) (xF (K:=K) (pv 0))) (xF (K:=K) (pv 0)) (fun _ _=>rfl)))
  (qZ (zG (qQv (qZb hu (pv 2) (pv 3)) (by with_unfolding_all rfl)) (qJ (qM qE)) qY)
  (qZ (zJ (K:=K) (pv 0) (wX hu (pv 3) (pv 2) (fun _ _=>rfl)))
  (qJ (qM qKf))))))))),?_⟩
 wtm_at "zw"
 refine xO rfl p.pl p.kp pF.2.2.2.2.1 qFj (xO rfl p.pl p.kp pF.2.2.2.2.2.2 qHf ⟨A.lk,_,rfl,DGet.k (k:=Sum.inl (s.num:Int)) p.lk,_,rfl,?_⟩)
 cases e:valV s.kv (Sum.inl (s.num:Int)) with
 | some v=>
  refine iteT ?_
  wtm_at "zw"
  exact q A s m (some (Str.ofString "round")) H (by simp only[lookS,e]) ⟨rfl,rfl,rfl⟩ p ⟨⟨by omega,by omega,by omega,by omega⟩,by omega,by omega⟩
 | none=>
  refine iteF ?_
  wtm_at "zw"
  refine xO rfl p.pl p.kp pF.2.2.2.2.2.2 qHf (xO rfl p.pl p.kp pF.2.2.2.2.1 qFj ⟨A.lk,_,rfl,DPut.k (k:=Sum.inl (s.num:Int)) p.lk (small (by omega)),?_⟩)
  have lp:=jA s.kv (Sum.inl (s.num:Int)) (.bl true)
  have p1:=p.mark (kv':=putK s.kv (Sum.inl (s.num:Int)) (.bl true)) yY qV
  generalize upd H A.lk (.dK (putK s.kv (Sum.inl (s.num:Int)) (.bl true)))=H1 at p1
  wtm_at "zw"
  refine xO rfl p1.pl p1.kp pF.1 qQw ⟨A.a.co,A.a.dx,A.a.fs,rfl,p1.co,rfl,?_⟩
  wtm_at "zw"
  refine xO rfl p1.pl p1.kp pF.2.1 qZa ?_
  wtm_at "zw"
  refine⟨A.a,W,bx,dx,lx,bv,gv,A.st,s.vals,l,m.xs,rfl,G.crs p1,p1.std,hl,p1.s,by omega,p1.sok,fun xs' H2 sv2 pd2 ok2 l2=>?_⟩
  have p2:=p1.shows sv2 pd2 ok2
  wtm_at "zw"
  obtain⟨su,es,ps⟩:=p2.sp
  have ls:su.length=s.steps.length:=ps.length.symm
  refine xO rfl p2.pl p2.kp pF.2.2.2.1 qBx (wR (SqL.of es) ?_)
  wtm_at "zw"
  refine⟨xD (show 2≤1000000 by decide),fun tt htt=>?_⟩
  have S3:=qK htt (.tup [V.str l.name,V.int (l.part.worth (envOf (kvsOf W.bs s.vals)))])
  have ett:upd H2 tt (.tup [V.str l.name,V.int (l.part.worth (envOf (kvsOf W.bs s.vals)))]) tt=some (.tup [V.str l.name,V.int (l.part.worth (envOf (kvsOf W.bs s.vals)))]):=qV
  generalize upd H2 tt (.tup [V.str l.name,V.int (l.part.worth (envOf (kvsOf W.bs s.vals)))])=H3 at S3 ett
  have p3:=p2.newer S3
  wtm_at "zw"
  refine zT (S3 _ _ es) (small (by omega)) ?_
  have p4:=p3.step (x:=(l.name,l.part.worth (envOf (kvsOf W.bs s.vals)))) (u:=.ref tt) yY (S3 _ _ es) (Paired.mapP ps fun _ _ ⟨a,h1,h2⟩=>⟨a,h1,S3 _ _ h2⟩) ⟨tt,rfl,ett⟩ qV
  generalize upd H3 A.sp (.lst (su++[.ref tt]))=H4 at p4
  wtm_at "zw"
  obtain⟨fu,ef,_,pf⟩:=p4.forks
  obtain⟨u,eu⟩:∃u,fu[s.num]? = some u:=⟨_,List.getElem?_eq_getElem (by rw[← pf.length];exact(List.getElem?_eq_some_iff.mp en).1)⟩
  obtain⟨d,rfl,nd,ed⟩:=xY pf en eu
  refine qHc rfl p4.pl p4.kp pF.1 qQw p4.co p4.kc cF.2.2.1 A.a.l3 (xO rfl p4.pl p4.kp pF.2.2.2.2.1 qFj (qIa (SqL.of ef) (zS eu) ?_))
  wtm_at "zw"
  have dg:DGet H4 d (.int (l.part.worth (envOf (kvsOf W.bs s.vals)))) ((forkTo fs (l.part.worth (envOf (kvsOf W.bs s.vals)))).map V.int):=by
   rw[← qCm l.name]
   exact DGet.k (k:=Sum.inl (l.part.worth (envOf (kvsOf W.bs s.vals)))) ed
  refine⟨_,rfl,_,rfl,d,_,rfl,dg,_,rfl,?_⟩
  cases ek:forkTo fs (l.part.worth (envOf (kvsOf W.bs s.vals))) with
  | none=>
   refine iteT ?_
   wtm_at "zw"
   refine q A _ _ (some (Str.ofString "lost")) H4 (by simp only[lookS,e,ek]) ⟨rfl,rfl,rfl⟩ p4 ⟨⟨?_,?_,?_,?_⟩,?_,?_⟩
   ·show m.gk.length≤_;omega
   ·show m.xn.length≤_;omega
   ·show m.xc.length≤_;omega
   ·show xs'.length≤_;omega
   ·show(s.steps++[_]).length≤_;rw[List.length_append];show _+1≤_;omega
   ·show(putK _ _ _).length≤_;omega
  | some kk=>
   rw[ek] at dg
   refine iteF ?_
   refine⟨_,rfl,_,rfl,d,.int kk,rfl,dg,_,rfl,A.pp,CP,A.dxp,_,rfl,p4.pl,p4.kp.cls,p4.kp.no _ pF.2.2.2.2.1,(show 7<1000 by decide),?_⟩
   obtain⟨g0,hg0,z0⟩:=qQe ek
   have k0:((kk.toNat:Nat):Int)=kk:=Int.toNat_of_nonneg (by rw[← z0];exact hfs g0 hg0)
   have p5:=p4.set (st':=A.st) (lk':=A.lk) (num':=kk.toNat) (done':=s.done) (H':=upd H4 A.pp (.ins CP A.dxp (putF (Str.ofString "number") (.int kk) (plF A.a.co A.st A.ch A.sp s.num s.done A.lk)))) yY (by rw[k0];exact qV) ⟨yY _ _ (xU p4.std.at' p4.pl (fun z=>nomatch z)) p4.std.at',p4.std.fits⟩ (yY _ _ (xU p4.lk p4.pl (fun z=>nomatch z)) p4.lk) (.inl rfl)
   generalize upd H4 A.pp (.ins CP A.dxp (putF (Str.ofString "number") (.int kk) (plF A.a.co A.st A.ch A.sp s.num s.done A.lk)))=H5 at p5
   wtm_at "zw"
   refine q _ _ _ none H5 (by simp only[lookS,e,ek]) ⟨rfl,rfl,rfl⟩ p5 ⟨⟨?_,?_,?_,?_⟩,?_,?_⟩
   ·show m.gk.length≤_;omega
   ·show m.xn.length≤_;omega
   ·show m.xc.length≤_;omega
   ·show xs'.length≤_;omega
   ·show(s.steps++[_]).length≤_;rw[List.length_append];show _+1≤_;omega
   ·show(putK _ _ _).length≤_;omega
theorem zN:xM ["self","name","follower","coming","way"] ["self","name","follower"] (xW (mth 26 2)):=⟨rfl,rfl,rfl,by decide +kernel,rfl,by decide +kernel,by decide +kernel⟩
noncomputable def qYn (P:Program)(w:World)(K:PySem.W.Frag)(CC CP:Addr):Sp:=fun vs H Q _=>∃(H0:Hp) (A:PAd) (W:Wd) (ns:List Nd) (chs:List Int) (bx dx lx:Addr) (bv gv:V) (s:PSt) (m:Mem) (k:Nat) (d:Deed) (to:Int),vs=[.ref A.pp,.str d.name,.int to]∧Given H0 A W ns chs bx dx lx bv gv∧Pl P w K CC CP H0 H A W ns s m∧d∈W.ds∧0≤to∧s.done≤chs.length∧Lt s m k∧k<9000∧
 ∀(A':PAd) (s':PSt) (m':Mem) (e:Option Str) (H':Hp),deedS W chs s d to=(e,s')→A'.Of A→Pl P w K CC CP H0 H' A' W ns s' m'→Lt s' m' (k+1)→Q (endV e) H'
theorem qWz {CC CP:Addr}(CL_Course:Cls K CC)(B:Bl mg)(F:Md K CP "do_deed" "Player.do_deed" (mth 26 2) ["self","name","follower"])(D_Course_need_holds:Dm P w K mg base CC "need_holds" 27 ["self","name","standing"] (spNeed P w K CC))(D_Course_comes:Dm P w K mg base CC "comes" 16 ["self","name","standing"] (qKq P w K CC)):Dm P w K mg base CP "do_deed" 29 ["self","name","follower"] (qYn P w K CC CP):=by
 refine F.ok zN (fun vs H Q E h=>?_) (fun f cdv A' outer s' H vs Q E hr h=>?_)
 ·obtain⟨_,_,_,_,_,_,_,_,_,_,_,_,_,_,_,rfl,_⟩:=h
  rfl
 obtain⟨H0,A,W,ns,chs,bx,dx,lx,bv,gv,s,m,k,d,to,rfl,G,p,hd,hto,hdn,⟨⟨g1,g2,g3,g4⟩,g5,g6⟩,hk,q⟩:=h
 refine⟨_,(qZ (zG (qHe (qKc (yM D_Course_need_holds CL_Course (xF (K:=K) (pv 0)) hr (qQ (pv 1) (qQ (xF (K:=K) (pv 0)) qX))))) (qJ (qM qE)) qY)
  (qZ (zG (qP jE (xF (K:=K) (pv 0)) (xX (zX (K:=K)) rfl B.len' jC (qQ (xF (K:=K) (pv 0)) qX)) (xC _)) (qJ (qM qE)) qY)
  (qZ (qI (i:=3) zN.nd rfl (by wtm_at "zo") (yM D_Course_comes CL_Course (xF (K:=K) (pv 0)) hr (qQ (pv 1) (qQ (xF (K:=K) (pv 0)) qX))))
  (qZ (qI (i:=4) zN.nd rfl (by wtm_at "zo") (qU kK (xE (qS (K:=K)) (xF (K:=K) (pv 0)) (xF (K:=K) (pv 0)) (fun _ _=>rfl)) (xX (zX (K:=K)) rfl B.len' jC (qQ (pv 3) qX))))
  (qZ (qO (yP (K:=K) PySem.F.plainAttrs_list PySem.F.slot_list_append PySem.F.type_list_append zV (xF (K:=K) (pv 0)) (qQ (xI (qQ (pv 1) (qQ (pv 4) qX))) qX)))
  (qZ (zJ (K:=K) (pv 0) (xE (qS (K:=K)) (pv 3) (pv 4) (fun _ _=>rfl)))
  (qZ (zJ (K:=K) (pv 0) (pv 2))
  (qZ (qVe (K:=K) (pv 0) qD)
  (qZ (zJ (K:=K) (pv 0) qXv)
  (qJ (qM qKf))))))))))),?_⟩
 wtm_at "zw"
 refine xO rfl p.pl p.kp pF.1 qQw ⟨A.a.co,A.a.dx,A.a.fs,rfl,p.co,rfl,?_⟩
 wtm_at "zw"
 refine xO rfl p.pl p.kp pF.2.1 qZa ?_
 wtm_at "zw"
 refine⟨A.a,W,bx,dx,lx,bv,gv,A.st,s.vals,d,m.xn,rfl,G.crs p,p.std,hd,p.n,by omega,p.nok,fun xn' H1 sv1 pd1 ok1 l1=>?_⟩
 have p1:=p.needs sv1 pd1 ok1
 have ech:H1 A.ch=some (.lst (intsV chs)):=p1.same _ _ G.ch
 cases en:d.need.truth (envOf (kvsOf W.bs s.vals)) with
 | false=>
  wtm_at "zw"
  exact q A s _ (some (Str.ofString "need")) H1 (by simp only[deedS,en]) ⟨rfl,rfl,rfl⟩ p1 ⟨⟨by show m.gk.length≤_;omega,by show xn'.length≤_;omega,by show m.xc.length≤_;omega,by show m.xs.length≤_;omega⟩,by omega,by omega⟩
 | true=>
  wtm_at "zw"
  refine xO rfl p1.pl p1.kp pF.2.2.2.2.2.1 qMz ?_
  wtm_at "zw"
  refine xO rfl p1.pl p1.kp pF.2.2.1 qHg ?_
  wtm_at "zw"
  rw[xP]
  by_cases ho:s.done=chs.length
  ·refine qQj (decide_eq_true (by rw[ho])) ?_
   wtm_at "zw"
   exact q A s _ (some (Str.ofString "open")) H1 (by simp only[deedS,en,List.getElem?_eq_none (Nat.le_of_eq ho.symm)]) ⟨rfl,rfl,rfl⟩ p1 ⟨⟨by show m.gk.length≤_;omega,by show xn'.length≤_;omega,by show m.xc.length≤_;omega,by show m.xs.length≤_;omega⟩,by omega,by omega⟩
  refine yS (decide_eq_false fun z=>ho (by have:=V.int.inj z;omega)) ?_
  obtain⟨c,ec⟩:∃c,chs[s.done]? = some c:=⟨_,List.getElem?_eq_getElem (by omega)⟩
  have ac:atI (intsV chs) (s.done:Int)=some (.int c):=zS (by show(List.map _ _)[_]? = _;rw[List.getElem?_map,ec];rfl)
  wtm_at "zw"
  refine xO rfl p1.pl p1.kp pF.1 qQw ⟨A.a.co,A.a.dx,A.a.fs,rfl,p1.co,rfl,?_⟩
  wtm_at "zw"
  refine xO rfl p1.pl p1.kp pF.2.1 qZa ?_
  wtm_at "zw"
  refine⟨A.a,W,bx,dx,lx,bv,gv,A.st,s.vals,d,m.xc,A.sp,rfl,G.crs p1,p1.std,hd,p1.c,by omega,p1.cok,(by obtain⟨su,es,_⟩:=p1.sp;rw[es];exact fun z=>nomatch z),fun xc' v H2 sv2 pd2 ok2 l2 came=>?_⟩
  have p2:=p1.comes sv2 pd2 ok2
  obtain⟨lc,us,rfl,nlc,elc,pu⟩:=came
  have lu:us.length=d.ways.length:=by rw[← pu.length,List.length_map]
  have dne:=(G.ok.deeds d hd).ne
  have lpos:0<d.ways.length:=List.length_pos_iff.mpr dne
  have ech2:H2 A.ch=some (.lst (intsV chs)):=p2.same _ _ G.ch
  wtm_at "zw"
  refine xO rfl p2.pl p2.kp pF.2.2.1 qHg ?_
  wtm_at "zw"
  refine xO rfl p2.pl p2.kp pF.2.2.2.2.2.1 qMz ?_
  wtm_at "zw"
  rw[lu]
  refine w_I (by show(0:Int)<_;omega) ?_
  have m0:=Int.emod_nonneg c (show((d.ways.length:Nat):Int)≠0 by omega)
  have m1:=Int.emod_lt_of_pos c (show(0:Int)<(d.ways.length:Int) by omega)
  obtain⟨u,eu⟩:∃u,us[(c % (d.ways.length:Int)).toNat]? = some u:=⟨_,List.getElem?_eq_getElem (by omega)⟩
  obtain⟨ta,rfl,eta⟩:=xY pu (show(d.ways.map fun wy=>zY W.bs wy s.vals)[(c % (d.ways.length:Int)).toNat]? = some (zY W.bs (d.ways.getD (c % (d.ways.length:Int)).toNat []) s.vals) from by rw[List.getElem?_map,List.getD_eq_getElem?_getD,List.getElem?_eq_getElem (by omega)];rfl) eu
  have au:atI us (c % (d.ways.length:Int))=some (.ref ta):=by
   have:=zS eu
   rw[Int.toNat_of_nonneg m0] at this
   exact this
  wtm_at "zw"
  obtain⟨su,es,ps⟩:=p2.sp
  have ls:su.length=s.steps.length:=ps.length.symm
  refine xO rfl p2.pl p2.kp pF.2.2.2.1 qBx (wR (SqL.of es) ?_)
  wtm_at "zw"
  refine⟨xD (show 2≤1000000 by decide),fun tt htt=>?_⟩
  have S3:=qK htt (.tup [V.str d.name,V.int (c % (d.ways.length:Int))])
  have ett:upd H2 tt (.tup [V.str d.name,V.int (c % (d.ways.length:Int))]) tt=some (.tup [V.str d.name,V.int (c % (d.ways.length:Int))]):=qV
  generalize upd H2 tt (.tup [V.str d.name,V.int (c % (d.ways.length:Int))])=H3 at S3 ett
  have p3:=p2.newer S3
  wtm_at "zw"
  refine zT (S3 _ _ es) (small (by omega)) ?_
  have p4:=p3.step (x:=(d.name,c % (d.ways.length:Int))) (u:=.ref tt) yY (S3 _ _ es) (Paired.mapP ps fun _ _ ⟨a,h1,h2⟩=>⟨a,h1,S3 _ _ h2⟩) ⟨tt,rfl,ett⟩ qV
  have elc4:upd H3 A.sp (.lst (su++[.ref tt])) lc=some (.lst us):=by rw[qW nlc];exact S3 _ _ elc
  have eta4:upd H3 A.sp (.lst (su++[.ref tt])) ta=some (.tup (intsV (zY W.bs (d.ways.getD (c % (d.ways.length:Int)).toNat []) s.vals))):=by rw[qW (xU (S3 _ _ eta) (S3 _ _ es) (fun z=>nomatch z))];exact S3 _ _ eta
  generalize upd H3 A.sp (.lst (su++[.ref tt]))=H4 at p4 elc4 eta4
  wtm_at "zw"
  refine⟨_,rfl,_,rfl,lc,us,_,.ref ta,rfl,rfl,SqL.of elc4,au,_,rfl,A.pp,CP,A.dxp,_,rfl,p4.pl,p4.kp.cls,p4.kp.no _ pF.2.1,(show 7<1000 by decide),?_⟩
  have e5:upd H4 A.pp (.ins CP A.dxp (putF (Str.ofString "standing") (.ref ta) (plF A.a.co A.st A.ch A.sp s.num s.done A.lk))) A.pp=some (.ins CP A.dxp (plF A.a.co ta A.ch A.sp s.num s.done A.lk)):=qV
  have s5:Saves A.pp H4 (upd H4 A.pp (.ins CP A.dxp (putF (Str.ofString "standing") (.ref ta) (plF A.a.co A.st A.ch A.sp s.num s.done A.lk)))):=yY
  generalize upd H4 A.pp (.ins CP A.dxp (putF (Str.ofString "standing") (.ref ta) (plF A.a.co A.st A.ch A.sp s.num s.done A.lk)))=H5 at e5 s5
  wtm_at "zw"
  refine⟨_,rfl,_,rfl,A.pp,CP,A.dxp,_,rfl,e5,p4.kp.cls,p4.kp.no _ pF.2.2.2.2.1,(show 7<1000 by decide),?_⟩
  have e6:upd H5 A.pp (.ins CP A.dxp (putF (Str.ofString "number") (.int to) (plF A.a.co ta A.ch A.sp s.num s.done A.lk))) A.pp=some (.ins CP A.dxp (plF A.a.co ta A.ch A.sp to s.done A.lk)):=qV
  have s6:Saves A.pp H5 (upd H5 A.pp (.ins CP A.dxp (putF (Str.ofString "number") (.int to) (plF A.a.co ta A.ch A.sp s.num s.done A.lk)))):=yY
  generalize upd H5 A.pp (.ins CP A.dxp (putF (Str.ofString "number") (.int to) (plF A.a.co ta A.ch A.sp s.num s.done A.lk)))=H6 at e6 s6
  wtm_at "zw"
  refine⟨_,rfl,A.pp,CP,A.dxp,_,_,rfl,e6,p4.kp.cls,p4.kp.no _ pF.2.2.2.2.2.1,qMz,⟨_,_,rfl,rfl,A.dxp,_,e6,(show 7<1000 by decide),?_⟩⟩
  have e7:upd H6 A.pp (.ins CP A.dxp (putF (Str.ofString "deeds_done") (.int ((s.done:Int)+1)) (plF A.a.co ta A.ch A.sp to s.done A.lk))) A.pp=some (.ins CP A.dxp (plF A.a.co ta A.ch A.sp to ((s.done:Int)+1) A.lk)):=qV
  have s7:Saves A.pp H6 (upd H6 A.pp (.ins CP A.dxp (putF (Str.ofString "deeds_done") (.int ((s.done:Int)+1)) (plF A.a.co ta A.ch A.sp to s.done A.lk)))):=yY
  generalize upd H6 A.pp (.ins CP A.dxp (putF (Str.ofString "deeds_done") (.int ((s.done:Int)+1)) (plF A.a.co ta A.ch A.sp to s.done A.lk)))=H7 at e7 s7
  wtm_at "zw"
  intro lk hlk
  have Sl:=qK hlk (.dK [])
  have el:upd H7 lk (.dK []) lk=some (.dK []):=qV
  generalize upd H7 lk (.dK [])=H8 at Sl el
  refine⟨_,rfl,A.pp,CP,A.dxp,_,rfl,Sl _ _ e7,p4.kp.cls,p4.kp.no _ pF.2.2.2.2.2.2,(show 7<1000 by decide),?_⟩
  have e9:upd H8 A.pp (.ins CP A.dxp (putF (Str.ofString "looked") (.ref lk) (plF A.a.co ta A.ch A.sp to ((s.done:Int)+1) A.lk))) A.pp=some (.ins CP A.dxp (plF A.a.co ta A.ch A.sp to ((s.done:Int)+1) lk)):=qV
  have s9:Saves A.pp H8 (upd H8 A.pp (.ins CP A.dxp (putF (Str.ofString "looked") (.ref lk) (plF A.a.co ta A.ch A.sp to ((s.done:Int)+1) A.lk)))):=yY
  generalize upd H8 A.pp (.ins CP A.dxp (putF (Str.ofString "looked") (.ref lk) (plF A.a.co ta A.ch A.sp to ((s.done:Int)+1) A.lk)))=H9 at e9 s9
  have s47:=s5.trans (s6.trans s7)
  have s49:Saves A.pp H4 H9:=s47.trans ((jX Sl).trans s9)
  have k0:((to.toNat:Nat):Int)=to:=Int.toNat_of_nonneg hto
  have pe:=p4.set (st':=ta) (lk':=lk) (num':=to.toNat) (done':=s.done+1) (kv':=[]) s49 (by rw[k0];exact e9) ⟨s49 _ _ (xU eta4 p4.pl (fun z=>nomatch z)) eta4,qYc p4.std.fits fun b hb=>(G.ok.b25 b hb).1⟩ (s9 _ _ (xU el (Sl _ _ e7) (fun z=>nomatch z)) el) (.inr (s47.back (by rw[e7];exact fun z=>nomatch z) hlk))
  wtm_at "zw"
  refine q { A with st:=ta,lk:=lk } _ _ none H9 (by simp only[deedS,en,ec]) ⟨rfl,rfl,rfl⟩ pe ⟨⟨?_,?_,?_,?_⟩,?_,?_⟩
  ·show m.gk.length≤_;omega
  ·show xn'.length≤_;omega
  ·show xc'.length≤_;omega
  ·show m.xs.length≤_;omega
  ·show(s.steps++[_]).length≤_;rw[List.length_append];show _+1≤_;omega
  ·exact Nat.zero_le _

theorem yW:xM ["self","node"] ["self"] (xW (mth 26 1)):=⟨rfl,rfl,rfl,by decide +kernel,rfl,by decide +kernel,by decide +kernel⟩
noncomputable def spGoOn (P:Program)(w:World)(K:PySem.W.Frag)(CC CP:Addr):Sp:=fun vs H Q _=>∃(H0:Hp) (A:PAd) (W:Wd) (ns:List Nd) (chs:List Int) (bx dx lx:Addr) (bv gv:V) (s:PSt) (m:Mem) (k:Nat),vs=[.ref A.pp]∧Given H0 A W ns chs bx dx lx bv gv∧NsOk W ns∧Pl P w K CC CP H0 H A W ns s m∧s.num<ns.length∧s.done≤chs.length∧Lt s m k∧k<9000∧
 ∀(A':PAd) (s':PSt) (m':Mem) (e:Option Str) (H':Hp),goS W ns chs s=(e,s')→A'.Of A→Pl P w K CC CP H0 H' A' W ns s' m'→Lt s' m' (k+1)→Q (endV e) H'
theorem qGn {CC CP:Addr}(CL_Course:Cls K CC)(CL_Player:Cls K CP)(F:Md K CP "go_on" "Player.go_on" (mth 26 1) ["self"])(D_Course_goal_holds:Dm P w K mg base CC "goal_holds" 27 ["self","standing"] (spGoal K CC))(D_Player_do_deed:Dm P w K mg base CP "do_deed" 29 ["self","name","follower"] (qYn P w K CC CP))(D_Player_do_look:Dm P w K mg base CP "do_look" 29 ["self","name"] (qYm P w K CC CP)):Dm P w K mg base CP "go_on" 30 ["self"] (spGoOn P w K CC CP):=by
 refine F.ok yW (fun vs H Q E h=>?_) (fun f cdv A' outer s' H vs Q E hr h=>?_)
 ·obtain⟨_,_,_,_,_,_,_,_,_,_,_,_,_,rfl,_⟩:=h
  rfl
 obtain⟨H0,A,W,ns,chs,bx,dx,lx,bv,gv,s,m,k,rfl,G,ok,p,hnum,hdn,lt,hk,q⟩:=h
 obtain⟨nu,enu0,pn0⟩:=G.nodes
 have enu:=p.same _ _ enu0
 obtain⟨n,en⟩:∃n,ns[s.num]? = some n:=⟨_,List.getElem?_eq_getElem hnum⟩
 obtain⟨u,eu⟩:∃u,nu[s.num]? = some u:=⟨_,List.getElem?_eq_getElem (by rw[← pn0.length];exact hnum)⟩
 have nat:=(xY pn0 en eu).same p.same
 have mn:=List.mem_of_getElem? en
 refine⟨_,(qZ (qI (i:=1) yW.nd rfl (by wtm_at "zo") (xE (qS (K:=K)) (xF (K:=K) (xF (K:=K) (pv 0))) (xF (K:=K) (pv 0)) (fun _ _=>rfl)))
  (qZ (zG (qP jE (xE (qR (K:=K)) (pv 1) qD (fun _ _=>rfl)) qE (xC _)) (qJ (qM (vD (qKc (yM D_Course_goal_holds CL_Course (xF (K:=K) (pv 0)) hr (qQ (xF (K:=K) (pv 0)) qX))) qE qE))) qY)
  (qZ (zG (qP jE (xE (qR (K:=K)) (pv 1) qD (fun _ _=>rfl)) qE (xC _)) (qJ (qM (yM D_Player_do_deed CL_Player (pv 0) hr (qQ (xE (qR (K:=K)) (pv 1) qD (fun _ _=>rfl)) (qQ (xE (qR (K:=K)) (pv 1) qD (fun _ _=>rfl)) qX))))) qY)
  (qJ (qM (yM D_Player_do_look CL_Player (pv 0) hr (qQ (xE (qR (K:=K)) (pv 1) qD (fun _ _=>rfl)) qX))))))),?_⟩
 wtm_at "zw"
 refine qHc rfl p.pl p.kp pF.1 qQw p.co p.kc cF.2.1 A.a.l2 (xO rfl p.pl p.kp pF.2.2.2.2.1 qFj (qIa (SqL.of enu) (zS eu) ?_))
 cases n with
 | fin=>
  obtain⟨a,rfl,ea⟩:=nat
  wtm_at "zw"
  refine xO rfl p.pl p.kp pF.1 qQw ⟨A.a.co,A.a.dx,A.a.fs,rfl,p.co,rfl,?_⟩
  wtm_at "zw"
  refine xO rfl p.pl p.kp pF.2.1 qZa ?_
  wtm_at "zw"
  obtain⟨⟨g1,g2,g3,g4⟩,g5,g6⟩:=lt
  refine⟨A.a,W,bx,dx,lx,bv,gv,A.st,s.vals,m.gk,rfl,G.crs p,p.std,p.g,p.gok,by omega,fun gk' H1 sv1 eg ok1 l1=>?_⟩
  have p1:=p.goals sv1 eg ok1
  have lt1:Lt s { m with gk:=gk' } (k+1):=⟨⟨by show gk'.length≤_;omega,by show m.xn.length≤_;omega,by show m.xc.length≤_;omega,by show m.xs.length≤_;omega⟩,by omega,by omega⟩
  cases e:W.gt.truth (envOf (kvsOf W.bs s.vals)) with
  | true=>
   wtm_at "zw"
   exact q A s _ (some (Str.ofString "goal")) H1 (by simp only[goS,en,e]) ⟨rfl,rfl,rfl⟩ p1 lt1
  | false=>
   wtm_at "zw"
   exact q A s _ (some (Str.ofString "short")) H1 (by simp only[goS,en,e]) ⟨rfl,rfl,rfl⟩ p1 lt1
 | act x to=>
  obtain⟨a,rfl,ea⟩:=nat
  obtain⟨⟨d,hd,rfl⟩,t0,t1⟩:=ok.act x to mn
  have fd:=jI (List.nodup_append.mp G.ok.nd).1 hd
  wtm_at "zw"
  refine⟨_,rfl,A.pp,A.dxp,_,rfl,p.pl,rfl,?_⟩
  wtm_at "zw"
  exact⟨H0,A,W,ns,chs,bx,dx,lx,bv,gv,s,m,k,d,to,rfl,G,p,hd,t0,hdn,lt,hk,fun A' s' m' e H' h=>q A' s' m' e H' (by simp only[goS,en,fd];exact h)⟩
 | see x fs=>
  obtain⟨a,fp,us,rfl,ea,ep,pf⟩:=nat
  obtain⟨⟨l,hl,rfl⟩,t0⟩:=ok.see x fs mn
  have fd:=jI (List.nodup_append.mp G.ok.nd).2.1 hl
  wtm_at "zw"
  refine⟨_,rfl,A.pp,A.dxp,_,rfl,p.pl,rfl,?_⟩
  wtm_at "zw"
  exact⟨H0,A,W,ns,chs,bx,dx,lx,bv,gv,s,m,k,l,fs,rfl,G,p,hl,en,fun f hf=>(t0 f hf).1,lt,hk,fun A' s' m' e H' h=>q A' s' m' e H' (by simp only[goS,en,fd];exact h)⟩
theorem qKk:xM ["world","plan","standing","choices","player","end"] ["world","plan","standing","choices"] (xW (top 18)):=⟨rfl,rfl,rfl,by decide +kernel,rfl,by decide +kernel,by decide +kernel⟩
theorem qHb {C:Addr}{sp:Sp}{dvs:List V}{E:XK}{t:TA}{σ:St}{H:Hp}{Q:VK}(q:t σ H fun vs H1=>∀x dx,H1 x=none→H1 dx=none→dx≠x→sp (.ref x::(vs++dvs)) (upd (upd H1 dx (.own x)) x (.ins C dx [])) (fun v H2=>v=.non∧Q (.ref x) H2) E):tMake C sp dvs E t σ H Q:=q
theorem qZw {C x dx:Addr}{H:Hp}(h1:H x=none)(h2:H dx=none)(h3:dx≠x):Same H (upd (upd H dx (.own x)) x (.ins C dx [])):=fun b o e=>by
 rw[qW (qA e h1),qW (qA e h2)];exact e
noncomputable def st0 (vals:List Int):PSt:=⟨0,vals,0,[],[]⟩
noncomputable def spRun:Sp:=fun vs H Q _=>∃(W:Wd) (p pl bx dx lx:Addr) (bv gv:V) (nu:List V) (ns:List Nd) (st ch:Addr) (vals chs:List Int) (fuel:Nat) (e:Str) (s':PSt),vs=[.ref p,.ref pl,.ref st,.ref ch]∧H p=some (.tup [.ref bx,.ref dx,.ref lx,bv,gv])∧WAt H W bx dx lx bv gv∧WOk W∧
 H pl=some (.lst nu)∧Paired (NdAt H) ns nu∧NsOk W ns∧(∀n∈ns,n.Few)∧0<ns.length∧ns.length≤1000∧Std H W st vals∧H ch=some (.lst (intsV chs))∧fuel≤8000∧runS W ns chs fuel (st0 vals)=some (e,s')∧
 ∀(r sp st':Addr) (su:List V) (H':Hp),Same H H'→H' r=some (.tup [.str e,.ref sp,.ref st'])→H r=none→H sp=none→H' sp=some (.lst su)→Paired (StepIn H') s'.steps su→H' st'=some (.tup (intsV s'.vals))→Q (.ref r) H'
structure Going (P:Program)(w:World)(K:PySem.W.Frag)(CC CP:Addr)(H0:Hp)(a:CA)(ch pp:Addr)(W:Wd)(ns:List Nd)(chs:List Int)(fuel:Nat)(E:Str)(S:PSt)(vs:List (Option V))(j:Nat)(σ:St)(H:Hp)(A:PAd)(s:PSt)(m:Mem)(en:Option Str)(k:Nat):Prop where
 st:σ=vs++[some (.ref A.pp),some (endV en)]
 a:A.a=a
 ch:A.ch=ch
 pp:A.pp=pp
 pl:Pl P w K CC CP H0 H A W ns s m
 lt:Lt s m k
 kj:k+j≤fuel
 go:(en=none∧runS W ns chs j s=some (E,S)∧s.num<ns.length∧s.done≤chs.length)∨(en=some E∧s=S)
theorem qRc {CC CP:Addr}(F:Fd K mg "run" (top 18) ["world","plan","standing","choices"])(KC:Kind K CC zO)(KP:Kind K CP jZ)(CL_Player:Cls K CP)(D_Course:Dk P w K mg base "Course" CC 1 ["self","world","plan"] (qYo P w K CC))(D_Player:Dk P w K mg base "Player" CP 1 ["self","course","standing","choices"] (qYh K CP))
  (D_Player_go_on:Dm P w K mg base CP "go_on" 30 ["self"] (spGoOn P w K CC CP)):Dn P w K mg base "run" 31 ["world","plan","standing","choices"] spRun:=by
 refine F.ok qKk (fun vs H Q E h=>?_) (fun f cdv A' outer s' H vs Q E hr h=>?_)
 ·obtain⟨_,_,_,_,_,_,_,_,_,_,_,_,_,_,_,_,_,rfl,_⟩:=h
  rfl
 obtain⟨W,p,pl,bx,dx,lx,bv,gv,nu,ns,st,ch,vals,chs,fuel,e,S,rfl,ep,wat,wok,epl,pn,nok,few,n0,n1000,std,ech,hf,hrun,q⟩:=h
 refine⟨_,(qZ (qI (i:=4) qKk.nd rfl (by wtm_at "zo") (qKg D_Player hr (qQ (qKg D_Course hr (qQ (pv 0) (qQ (pv 1) qX))) (qQ (pv 2) (qQ (pv 3) qX)))))
  (qZ (qI (i:=5) qKk.nd rfl (by wtm_at "zo") qKf)
  (qZ (qXz PassesOwn.never (qP qMd (pv 5) qKf (xC _)) (qJ (qI (i:=5) qKk.nd rfl (by wtm_at "zo") (qBw D_Player_go_on CL_Player (pv 4) hr))))
  (qJ (qM (xI (qQ (pv 5) (qQ (xF (K:=K) (pv 4)) (qQ (xF (K:=K) (pv 4)) qX))))))))),?_⟩
 wtm_at "zw"
 refine qHb ?_
 wtm_at "zw"
 refine qHb ?_
 wtm_at "zw"
 intro x1 dx1 h1 h2 h3
 have Sa:=qZw (C:=CC) h1 h2 h3
 have exa:upd (upd H dx1 (.own x1)) x1 (.ins CC dx1 []) x1=some (.ins CC dx1 []):=qV
 generalize upd (upd H dx1 (.own x1)) x1 (.ins CC dx1 [])=Ha at Sa exa
 refine⟨x1,dx1,p,pl,nu,ns,rfl,exa,KC,Sa _ _ epl,Paired.mapP pn fun _ _ z=>z.same Sa,few,n1000,fun a H1 r1 r2 r3 r4 sv1 ex1 fo1 g1 pn1 pc1 ps1 fresh1 apart1=>⟨rfl,?_⟩⟩
 subst r1 r2 r3 r4
 wtm_at "zw"
 intro x2 dx2 h4 h5 h6
 have Sb:=qZw (C:=CP) h4 h5 h6
 have exb:upd (upd H1 dx2 (.own x2)) x2 (.ins CP dx2 []) x2=some (.ins CP dx2 []):=qV
 generalize upd (upd H1 dx2 (.own x2)) x2 (.ins CP dx2 [])=Hb at Sb exb
 refine⟨x2,dx2,a.co,st,ch,rfl,exb,KP,fun sp lk H2 sv2 ex2 esp elk nsp nlk nsl=>⟨rfl,?_⟩⟩
 have S01:Same H H1:=fun b o hb=>sv1 _ _ (qA hb h1) (Sa _ _ hb)
 have S02:Same H H2:=fun b o hb=>sv2 _ _ (qA (S01 _ _ hb) h4) (Sb _ _ (S01 _ _ hb))
 have S12:∀b o,H1 b=some o→H2 b=some o:=fun b o hb=>sv2 _ _ (qA hb h4) (Sb _ _ hb)
 have n2:∀b o,H1 b=some o→b≠x2∧b≠sp∧b≠lk:=fun b o hb=>⟨qA hb h4,qA (Sb _ _ hb) nsp,qA (Sb _ _ hb) nlk⟩
 obtain⟨fu,efu,pfu⟩:=fo1
 have G:Given H ⟨a,x2,dx2,st,ch,sp,lk⟩ W ns chs bx dx lx bv gv:=⟨ep,wat,wok,⟨nu,epl,pn⟩,ech⟩
 have P0:Pl P w K CC CP H H2 ⟨a,x2,dx2,st,ch,sp,lk⟩ W ns (st0 vals) ⟨[],[],[],[]⟩:=by
  have ap:=apart1
  simp only[List.nodup_cons,List.mem_cons,List.not_mem_nil,or_false,not_or] at ap
  obtain⟨⟨a1,a2,a3,a4⟩,⟨b1,b2,b3⟩,⟨c1,c2⟩,d1,_⟩:=ap
  have P12:∀b xs,PD P w H1 b xs→PD P w H2 b xs:=fun b xs z=>⟨S12 _ _ z.at',fun y hy=>let ⟨t,e1,e2⟩:=z.keys y hy;⟨t,S12 _ _ e1,S12 _ _ e2⟩,z.le⟩
  refine⟨S02,S12 _ _ ex1,KC,ex2,KP,⟨S02 _ _ std.at',std.fits⟩,⟨fu,S12 _ _ efu,(n2 _ _ efu).2.1,Paired.mapP pfu fun _ _ ⟨d,e1,e2⟩=>⟨d,e1,(n2 _ _ e2).2.2,S12 _ _ e2⟩⟩,⟨[],esp,.nil⟩,elk,S12 _ _ g1,(fun _ _ z=>nomatch z),P12 _ _ pn1,(fun _ _ _ z=>nomatch z),P12 _ _ pc1,(fun _ _ _ z=>nomatch z),P12 _ _ ps1,(fun _ _ _ z=>nomatch z),?_,?_⟩
  ·intro b hb
   simp only[List.mem_cons,List.not_mem_nil,or_false] at hb
   rcases hb with rfl | rfl | rfl | rfl | rfl | rfl | rfl
   ·exact S01.free h4
   ·exact S01.free (Sb.free nsp)
   ·exact S01.free (Sb.free nlk)
   ·exact Sa.free (fresh1 _ (by simp))
   ·exact Sa.free (fresh1 _ (by simp))
   ·exact Sa.free (fresh1 _ (by simp))
   ·exact Sa.free (fresh1 _ (by simp))
  ·have qc:=n2 _ _ ex1
   have qg:=n2 _ _ g1
   have qn:=n2 _ _ pn1.at'
   have qo:=n2 _ _ pc1.at'
   have qs:=n2 _ _ ps1.at'
   have x2s:x2≠sp:=qA exb nsp
   have x2l:x2≠lk:=qA exb nlk
   simp only[List.nodup_cons,List.mem_cons,List.not_mem_nil,or_false,not_or,not_false_eq_true,List.nodup_nil,and_true]
   exact⟨⟨qc.1,qc.2.1,qc.2.2,a1,a2,a3,a4⟩,⟨x2s,x2l,qg.1.symm,qn.1.symm,qo.1.symm,qs.1.symm⟩,⟨nsl,qg.2.1.symm,qn.2.1.symm,qo.2.1.symm,qs.2.1.symm⟩,⟨qg.2.2.symm,qn.2.2.symm,qo.2.2.symm,qs.2.2.symm⟩,⟨b1,b2,b3⟩,⟨c1,c2⟩,d1⟩
 wtm_at "zw"
 refine⟨fun j σ H'=>∃A s m en k,Going P w K CC CP H a ch x2 W ns chs fuel e S [some (.ref a.p),some (.ref a.pl),some (.ref st),some (.ref ch)] j σ H' A s m en k,⟨fuel,⟨a,x2,dx2,st,ch,sp,lk⟩,st0 vals,⟨[],[],[],[]⟩,none,0,⟨rfl,rfl,rfl,rfl,P0,⟨⟨Nat.le_refl _,Nat.le_refl _,Nat.le_refl _,Nat.le_refl _⟩,Nat.le_refl _,Nat.le_refl _⟩,by omega,.inl ⟨rfl,hrun,n0,Nat.zero_le _⟩⟩⟩,fun j σ H' hW=>?_⟩
 obtain⟨A,s,m,en,k,⟨rfl,ea,eh,epp,pp,lt,kj,go⟩⟩:=hW
 rcases go with⟨rfl,hr2,hnum,hdn⟩ | ⟨rfl,rfl⟩
 ·wtm_at "zw"
  refine⟨rfl,_,rfl,qQj (decide_eq_true rfl) ?_⟩
  cases j with
  | zero=>cases hr2
  | succ j=>
   refine⟨_,fun σ' H' h=>⟨j,Nat.lt_succ_self j,h⟩,?_⟩
   wtm_at "zw"
   refine⟨_,rfl,A.pp,A.dxp,_,rfl,pp.pl,rfl,?_⟩
   wtm_at "zw"
   refine⟨H,A,W,ns,chs,bx,dx,lx,bv,gv,s,m,k,rfl,⟨by rw[ea];exact ep,wat,wok,⟨nu,by rw[ea];exact epl,pn⟩,by rw[eh];exact ech⟩,nok,pp,hnum,hdn,lt,by omega,fun A2 s2 m2 e2 H3 hgo hof hpl hlt=>?_⟩
   wtm_at "zw"
   obtain⟨o1,o2,o3⟩:=hof
   have hr3:=hr2
   unfold runS at hr3
   rw[hgo] at hr3
   refine⟨A2,s2,m2,e2,k+1,⟨by rw[o3];rfl,o1.trans ea,o2.trans eh,o3.trans epp,hpl,hlt,by omega,?_⟩⟩
   cases e2 with
   | none=>
    have g:=qRw nok hdn hgo
    exact .inl ⟨rfl,hr3,g.1,g.2⟩
   | some t=>
    have hr4:some (t,s2)=some (e,S):=hr3
    cases hr4
    exact .inr ⟨rfl,rfl⟩
 ·wtm_at "zw"
  refine⟨rfl,_,rfl,yS (decide_eq_false fun z=>nomatch z) ?_⟩
  wtm_at "zw"
  refine xO rfl pp.pl pp.kp pF.2.2.2.1 qBx ?_
  wtm_at "zw"
  refine xO rfl pp.pl pp.kp pF.2.1 qZa ?_
  wtm_at "zw"
  refine⟨xD (show 3≤1000000 by decide),fun r hr'=>?_⟩
  obtain⟨su,es,ps⟩:=pp.sp
  have S5:=qK hr' (.tup [V.str e,V.ref A.sp,V.ref A.st])
  exact q r A.sp A.st su _ (pp.same.trans S5) qV (pp.same.free hr') (pp.fresh _ (by simp)) (S5 _ _ es) (Paired.mapP ps fun _ _ ⟨a,h1,h2⟩=>⟨a,h1,S5 _ _ h2⟩) (S5 _ _ pp.std.at')

noncomputable def Nd.leads:Nd→List Int
 | .fin=>[]
 | .act _ to=>[to]
 | .see _ fs=>fs.map (·.2)
theorem vS:xM ["node"] ["node"] (xW (top 19)):=⟨rfl,rfl,rfl,by decide +kernel,rfl,by decide +kernel,by decide +kernel⟩
theorem jJ:CompOk (xW (top 19)) ["node"] (scAt (xA (top 19)) [2] []) ["worth","follower"] 2 []:=
 ⟨by decide +kernel,by decide +kernel,by decide +kernel,by decide +kernel,by decide +kernel,by decide +kernel,by decide +kernel,by decide +kernel⟩
noncomputable def qYl:Sp:=fun vs H Q _=>∃(n:Nd) (u:V),vs=[u]∧NdAt H n u∧n.Few∧∀(l:Addr) (H':Hp),H l=none→Same H H'→H' l=some (.lst (intsV n.leads))→Q (.ref l) H'
theorem qDj (F:Fd K mg "followers_of" (top 19) ["node"]):Dn P w K mg base "followers_of" 1 ["node"] qYl:=by
 refine F.ok vS (fun vs H Q E h=>?_) (fun f cdv A outer s H vs Q E hr h=>?_)
 ·obtain⟨_,_,rfl,_⟩:=h
  rfl
 obtain⟨n,u,rfl,hn,few,q⟩:=h
 refine⟨_,(qZ (zG (qP jE (xE (qR (K:=K)) (pv 0) qD (fun _ _=>rfl)) qE (xC _)) (qJ (qM (zK qX))) qY)
  (qZ (zG (qP jE (xE (qR (K:=K)) (pv 0) qD (fun _ _=>rfl)) qE (xC _)) (qJ (qM (zK (qQ (xE (qR (K:=K)) (pv 0) qD (fun _ _=>rfl)) qX)))) qY)
  (qJ (qM (jV rfl jJ (qMj (K:=K) (xE (qR (K:=K)) (pv 0) qD (fun _ _=>rfl))) (fun cl fp s H=>(kT (K:=K) (n:=2) rfl (qG (qF (i:=0) jJ.nd rfl (Or.inl rfl) (.inr rfl)) (qG (qF (i:=1) jJ.nd rfl (Or.inl rfl) (.inr rfl)) qH)))) (fun cl fp s H=>zE) (fun cl fp s H=>(pv 1))))))),?_⟩
 cases n with
 | fin=>
  obtain⟨a,rfl,ea⟩:=hn
  wtm_at "zw"
  exact⟨xD (by decide),fun p hp=>q p _ hp (qK hp _) qV⟩
 | act x to=>
  obtain⟨a,rfl,ea⟩:=hn
  wtm_at "zw"
  exact⟨xD (show 1≤1000000 by decide),fun p hp=>q p _ hp (qK hp _) qV⟩
 | see x fs=>
  obtain⟨a,p,us,rfl,ea,ep,pf⟩:=hn
  have lf:fs.length≤1000:=few
  have lu:=pf.length
  wtm_at "zf"
  refine⟨p,rfl,⟨us,SqT.of ep⟩,?_⟩
  refine qHj (xs:=us) (fun D i ys H'=>ys=intsV ((fs.take i).map (·.2))∧Same H H') (fun D hD=>⟨rfl,qK hD _⟩)
   (fun D i ys H' _ hP=>SqT.of (hP.2 _ _ ep)) (fun D i u ys H' N hD hDy ex hP hN=>?_) (fun D ys H2 hD hDy hP=>?_)
  ·obtain⟨rfl,hk⟩:=hP
   have hi:=(List.getElem?_eq_some_iff.mp ex).1
   obtain⟨g,eg⟩:∃b,fs[i]? = some b:=⟨_,List.getElem?_eq_getElem (by omega)⟩
   obtain⟨c,rfl,ec⟩:=xY pf eg ex
   have ec':=hk _ _ ec
   refine⟨c,_,rfl,SqT.of ec',rfl,_,_,rfl,_,_,rfl,rfl,⟨[some (.int g.1),some (.int g.2)],rfl,rfl⟩,?_⟩
   refine⟨_,rfl,hDy,?_,hN _ _ qV ⟨?_,fun b o e=>?_⟩⟩
   ·rw[List.length_map,List.length_map,List.length_take];exact small (by omega)
   ·rw[List.take_add_one,eg,List.map_append];unfold intsV;rw[List.map_append];rfl
   ·rw[qW (qA e hD)];exact hk _ _ e
  ·obtain⟨rfl,hk⟩:=hP
   rw[← lu,List.take_length] at hDy
   exact q D H2 hD hk hDy
theorem qJh:xM ["thing"] ["thing"] (xW (top 15)):=⟨rfl,rfl,rfl,by decide +kernel,rfl,by decide +kernel,by decide +kernel⟩
noncomputable def qWi:Sp:=fun vs H Q _=>∃i:Int,vs=[.int i]∧Q (.bl true) H
theorem qPl:PySem.W.kitOne K (.type "int") (.type "bool")=some false:=by with_unfolding_all rfl
theorem qGc (F:Fd K mg "is_whole" (top 15) ["thing"])(B:Bl mg):Dn P w K mg base "is_whole" 1 ["thing"] qWi:=by
 refine F.ok qJh (fun vs H Q E h=>?_) (fun f cdv A outer s H vs Q E hr h=>?_)
 ·obtain⟨_,rfl,_⟩:=h
  rfl
 obtain⟨i,rfl,q⟩:=h
 refine⟨_,(qJ (qM (qKh (xX (vK (K:=K)) rfl B.isinstance' kG (qQ (pv 0) (qQ (qPj rfl B.int' qIk) qX))) (qBv (qHl (xX (vK (K:=K)) rfl B.isinstance' kG (qQ (pv 0) (qQ (qPj rfl B.bool' qNg) qX)))))))),?_⟩
 wtm_at "zw"
 refine⟨.int i,"int",_,true,rfl,.int i,qPi,?_⟩
 wtm_at "zw"
 refine⟨.int i,"bool",_,false,rfl,.int i,qPl,?_⟩
 wtm_at "zw"
 exact q
theorem kS:xM ["number","size"] ["number","size"] (xW (top 20)):=⟨rfl,rfl,rfl,by decide +kernel,rfl,by decide +kernel,by decide +kernel⟩
noncomputable def qYi:Sp:=fun vs H Q _=>∃(i:Int) (m:Nat),vs=[.int i,.int m]∧Q (.bl (decide (0≤i∧i<m))) H
theorem qDz (F:Fd K mg "is_node_number" (top 20) ["number","size"])(D_is_whole:Dn P w K mg base "is_whole" 1 ["thing"] qWi):Dn P w K mg base "is_node_number" 2 ["number","size"] qYi:=by
 refine F.ok kS (fun vs H Q E h=>?_) (fun f cdv A outer s H vs Q E hr h=>?_)
 ·obtain⟨_,_,rfl,_⟩:=h
  rfl
 obtain⟨i,m,rfl,q⟩:=h
 refine⟨_,(qJ (qM (qKh (qC D_is_whole hr (qQ (pv 0) qX)) (qKh (kU qPe (pv 0) qD (xC _)) (qBv (kU qBd (pv 0) (pv 1) (xC _))))))),?_⟩
 wtm_at "zw"
 refine⟨i,rfl,?_⟩
 wtm_at "zw"
 by_cases h0:0≤i
 ·rw[decide_eq_true h0]
  refine iteT ?_
  wtm_at "zw"
  have e:decide (i<(m:Int))=decide (0≤i∧i<(m:Int)):=decide_eq_decide.mpr ⟨fun z=>⟨h0,z⟩,fun z=>z.2⟩
  rw[e]
  exact q
 ·rw[decide_eq_false h0]
  refine iteF ?_
  rw[decide_eq_false fun z=>h0 z.1] at q
  exact q
theorem jK:xM ["node","size","follower"] ["node","size"] (xW (top 21)):=⟨rfl,rfl,rfl,by decide +kernel,rfl,by decide +kernel,by decide +kernel⟩
noncomputable def Leads (n:Nd)(m:Nat):Prop:=∀t∈n.leads,0≤t∧t<(m:Int)
noncomputable def spRefF:Sp:=fun vs H Q _=>∃(n:Nd) (u:V) (m:Nat),vs=[u,.int m]∧NdAt H n u∧n.Few∧Leads n m∧∀H',Same H H'→Q .non H'
theorem qNw (F:Fd K mg "refuse_followers" (top 21) ["node","size"])(D_followers_of:Dn P w K mg base "followers_of" 1 ["node"] qYl)
  (D_is_node_number:Dn P w K mg base "is_node_number" 2 ["number","size"] qYi):Dn P w K mg base "refuse_followers" 3 ["node","size"] spRefF:=by
 refine F.ok jK (fun vs H Q E h=>?_) (fun f cdv A outer s H vs Q E hr h=>?_)
 ·obtain⟨_,_,_,rfl,_⟩:=h
  rfl
 obtain⟨n,u,m,rfl,hn,few,g,q⟩:=h
 refine⟨_,(qJ (wQ PassesOwn.never rfl (qT (K:=K) (qC D_followers_of hr (qQ (pv 0) qX))) (qF (i:=2) jK.nd rfl (by wtm_at "zo")) (qJ (zG (qHe (qKc (qC D_is_node_number hr (qQ (pv 2) (qQ (pv 1) qX))))) (qJ vB) qY)))),?_⟩
 wtm_at "zf"
 refine⟨n,u,rfl,hn,few,fun l H1 nl S1 el=>?_⟩
 refine⟨l,rfl,⟨_,SqL.of el⟩,?_⟩
 refine kB (xs:=intsV n.leads) (fun i σ' H'=>∃z:Option V,σ'=[some u,some (.int m),z]∧Same H1 H') ⟨none,rfl,.refl _⟩ (fun i σ' H' _ hP=>?_) (fun i v σ' H' ex hP=>?_) (fun σ' H' hP=>?_)
 ·obtain⟨_,rfl,S2⟩:=hP
  exact SqL.of (S2 _ _ el)
 ·obtain⟨z,rfl,S2⟩:=hP
  obtain⟨t,et,rfl⟩:∃t,n.leads[i]? = some t∧v=.int t:=by
   rw[List.getElem?_map] at ex
   cases h:n.leads[i]? with
   | none=>rw[h] at ex;cases ex
   | some t=>rw[h] at ex;cases ex;exact⟨t,rfl,rfl⟩
  wtm_at "zw"
  refine⟨t,m,rfl,?_⟩
  wtm_at "zw"
  rw[decide_eq_true (g t (List.mem_of_getElem? et))]
  exact iteNT ⟨_,rfl,S2⟩
 ·obtain⟨z,rfl,S2⟩:=hP
  exact q _ (S1.trans S2)
theorem vP:xM ["node"] ["node"] (xW (top 22)):=⟨rfl,rfl,rfl,by decide +kernel,rfl,by decide +kernel,by decide +kernel⟩
noncomputable def Nd.Once:Nd→Prop
 | .see _ fs=>(fs.map (·.1)).Nodup
 | _=>True
instance (n:Nd):Decidable n.Once:=by
 cases n with
 | see x fs=>exact inferInstanceAs (Decidable ((fs.map (·.1)).Nodup))
 | fin=>exact .isTrue trivial
 | act x to=>exact .isTrue trivial
noncomputable def spRefK:Sp:=fun vs H Q _=>∃(n:Nd) (u:V),vs=[u]∧NdAt H n u∧n.Few∧n.Once∧∀H',Same H H'→Q .non H'
theorem qNv (F:Fd K mg "refuse_forks" (top 22) ["node"])(B:Bl mg):Dn P w K mg base "refuse_forks" 1 ["node"] spRefK:=by
 refine F.ok vP (fun vs H Q E h=>?_) (fun f cdv A outer s H vs Q E hr h=>?_)
 ·obtain⟨_,_,rfl,_⟩:=h
  rfl
 obtain⟨n,u,rfl,hn,few,nd,q⟩:=h
 refine⟨_,(qJ (zG (PW.pt (qHd (qP jE (xE (qR (K:=K)) (pv 0) qD (fun _ _=>rfl)) qE (xC _)) (qAg (qP qBd (xX qEx rfl B.len' jC (qQ (xQ (kF rfl) rfl B.dict' wM (qQ (xE (qR (K:=K)) (pv 0) qD (fun _ _=>rfl)) qX)) qX)) (xX (zX (K:=K)) rfl B.len' jC (qQ (xE (qR (K:=K)) (pv 0) qD (fun _ _=>rfl)) qX)) (xC _))))) (qJ vB) qY)),?_⟩
 cases n with
 | fin=>
  obtain⟨a,rfl,ea⟩:=hn
  wtm_at "zw"
  exact q _ (.refl _)
 | act x to=>
  obtain⟨a,rfl,ea⟩:=hn
  wtm_at "zw"
  exact q _ (.refl _)
 | see x fs=>
  obtain⟨a,p,us,rfl,ea,ep,pf⟩:=hn
  have lf:fs.length≤1000:=few
  have lu:=pf.length
  wtm_at "zw"
  refine⟨p,us,fs,rfl,ep,pf,lf,fun d hd=>?_⟩
  have S1:=qK hd (.dK (mergeK [] (pairI fs)))
  have ed:upd H d (.dK (mergeK [] (pairI fs))) d=some _:=qV
  generalize upd H d (.dK (mergeK [] (pairI fs)))=H1 at S1 ed
  have ea1:=S1 _ _ ea
  have ep1:=S1 _ _ ep
  refine⟨d,_,rfl,ed,?_⟩
  wtm_at "zw"
  have nd':(fs.map (·.1)).Nodup:=nd
  rw[decide_eq_false (show¬(((mergeK [] (pairI fs)).length:Int)<(us.length:Int)) from fun z=>absurd nd' ((qWw fs).mp (by omega)))]
  exact iteF (q _ S1)
theorem kP:xM ["world","node"] ["world","node"] (xW (top 24)):=⟨rfl,rfl,rfl,by decide +kernel,rfl,by decide +kernel,by decide +kernel⟩
noncomputable def PlanW (H:Hp)(W:Wd)(wv:V):Prop:=∃(a bx dx lx:Addr) (bv gv:V),wv=.ref a∧H a=some (.tup [.ref bx,.ref dx,.ref lx,bv,gv])∧WAt H W bx dx lx bv gv∧WOk W
theorem PlanW.same {H H':Hp}{W:Wd}{wv:V}(h:PlanW H W wv)(S:Same H H'):PlanW H' W wv:=let ⟨a,bx,dx,lx,bv,gv,e,e1,e2,e3⟩:=h;⟨a,bx,dx,lx,bv,gv,e,S _ _ e1,e2.same S,e3⟩
noncomputable def Nd.Known (W:Wd):Nd→Prop
 | .fin=>True
 | .act x _=>∃d∈W.ds,d.name=x
 | .see x _=>∃d∈W.ls,d.name=x
noncomputable def qWm:Sp:=fun vs H Q _=>∃(n:Nd) (u wv:V) (W:Wd),vs=[wv,u]∧n≠.fin∧NdAt H n u∧PlanW H W wv∧n.Known W∧∀u,Q u H
theorem qGe (F:Fd K mg "thing_named_at" (top 24) ["world","node"])(D_named:Dn P w K mg base "named" 1 ["things","name","kind"] vO):Dn P w K mg base "thing_named_at" 2 ["world","node"] qWm:=by
 refine F.ok kP (fun vs H Q E h=>?_) (fun f cdv A outer s H vs Q E hr h=>?_)
 ·obtain⟨_,_,_,_,rfl,_⟩:=h
  rfl
 obtain⟨n,u,wv,W,rfl,nf,hn,⟨wa,bx,dx,lx,bv,gv,rfl,ew,wat,wok⟩,kn,q⟩:=h
 obtain⟨du,edx,pd⟩:=wat.deeds
 obtain⟨lu,elx,pl⟩:=wat.looks
 refine⟨_,(qZ (zG (qP jE (xE (qR (K:=K)) (pv 1) qD (fun _ _=>rfl)) qE (xC _)) (qJ (qM (qC D_named hr (qQ (xE (qR (K:=K)) (pv 0) qD (fun _ _=>rfl)) (qQ (xE (qR (K:=K)) (pv 1) qD (fun _ _=>rfl)) (qQ qE qX)))))) qY)
  (qJ (qM (qC D_named hr (qQ (xE (qR (K:=K)) (pv 0) qD (fun _ _=>rfl)) (qQ (xE (qR (K:=K)) (pv 1) qD (fun _ _=>rfl)) (qQ qE qX))))))),?_⟩
 cases n with
 | fin=>exact absurd rfl nf
 | act x to=>
  obtain⟨a,rfl,ea⟩:=hn
  obtain⟨d,hd,rfl⟩:=kn
  obtain⟨i,ei⟩:=List.mem_iff_getElem?.mp hd
  wtm_at "zw"
  exact⟨dx,du,W.ds.map Deed.name,d.name,.str "deed",rfl,edx,kZ pd,(List.nodup_append.mp wok.nd).1,i,by rw[List.getElem?_map,ei];rfl,fun u _=>q u⟩
 | see x fs=>
  obtain⟨a,p,us,rfl,ea,ep,pf⟩:=hn
  obtain⟨d,hd,rfl⟩:=kn
  obtain⟨i,ei⟩:=List.mem_iff_getElem?.mp hd
  wtm_at "zw"
  exact⟨lx,lu,W.ls.map Look.name,d.name,.str "look",rfl,elx,wA pl,(List.nodup_append.mp wok.nd).2.1,i,by rw[List.getElem?_map,ei];rfl,fun u _=>q u⟩
theorem wS:xM ["world","node"] ["world","node"] (xW (top 23)):=⟨rfl,rfl,rfl,by decide +kernel,rfl,by decide +kernel,by decide +kernel⟩
noncomputable def spRefN:Sp:=fun vs H Q _=>∃(n:Nd) (u wv:V) (W:Wd),vs=[wv,u]∧NdAt H n u∧PlanW H W wv∧n.Known W∧Q .non H
theorem qNk (F:Fd K mg "refuse_name" (top 23) ["world","node"])(D_thing_named_at:Dn P w K mg base "thing_named_at" 2 ["world","node"] qWm):Dn P w K mg base "refuse_name" 3 ["world","node"] spRefN:=by
 refine F.ok wS (fun vs H Q E h=>?_) (fun f cdv A outer s H vs Q E hr h=>?_)
 ·obtain⟨_,_,_,_,rfl,_⟩:=h
  rfl
 obtain⟨n,u,wv,W,rfl,hn,hw,kn,q⟩:=h
 refine⟨_,(qJ (zG (qP qPb (xE (qR (K:=K)) (pv 1) qD (fun _ _=>rfl)) qE (xC _)) (qJ (qO (qC D_thing_named_at hr (qQ (pv 0) (qQ (pv 1) qX))))) qY)),?_⟩
 cases n with
 | fin=>
  obtain⟨a,rfl,ea⟩:=hn
  wtm_at "zw"
  exact q
 | act x to=>
  obtain⟨a,rfl,ea⟩:=hn
  wtm_at "zw"
  exact⟨_,rfl,_,rfl,.act x to,.ref a,wv,W,rfl,(fun z=>nomatch z),⟨a,rfl,ea⟩,hw,kn,fun _=>q⟩
 | see x fs=>
  obtain⟨a,p,us,rfl,ea,ep,pf⟩:=hn
  wtm_at "zw"
  exact⟨_,rfl,_,rfl,.see x fs,.ref a,wv,W,rfl,(fun z=>nomatch z),⟨a,p,us,rfl,ea,ep,pf⟩,hw,kn,fun _=>q⟩
theorem kR:xM ["world","nodes","node"] ["world","nodes"] (xW (top 17)):=⟨rfl,rfl,rfl,by decide +kernel,rfl,by decide +kernel,by decide +kernel⟩
structure PlanOk (W:Wd)(ns:List Nd):Prop where
 ne:0<ns.length
 le:ns.length≤1000
 few:∀n∈ns,n.Few
 leads:∀n∈ns,Leads n ns.length
 once:∀n∈ns,n.Once
 known:∀n∈ns,n.Known W
theorem PlanOk.nsOk {W:Wd}{ns:List Nd}(h:PlanOk W ns):NsOk W ns:=⟨fun x to m=>⟨h.known _ m,h.leads _ m to List.mem_cons_self⟩,fun x fs m=>⟨h.known _ m,fun f hf=>h.leads _ m f.2 (List.mem_map_of_mem hf)⟩⟩
noncomputable def spPlan:Sp:=fun vs H Q _=>∃(wv:V) (W:Wd) (la:Addr) (us:List V) (ns:List Nd),vs=[wv,.ref la]∧PlanW H W wv∧H la=some (.lst us)∧Paired (NdAt H) ns us∧PlanOk W ns∧
 ∀(l:Addr) (H':Hp),H l=none→Same H H'→H' l=some (.lst us)→Q (.ref l) H'
theorem qNa (F:Fd K mg "plan_of" (top 17) ["world","nodes"])(B:Bl mg)(D_refuse_followers:Dn P w K mg base "refuse_followers" 3 ["node","size"] spRefF)
  (D_refuse_forks:Dn P w K mg base "refuse_forks" 1 ["node"] spRefK) (D_refuse_name:Dn P w K mg base "refuse_name" 3 ["world","node"] spRefN):Dn P w K mg base "plan_of" 4 ["world","nodes"] spPlan:=by
 refine F.ok kR (fun vs H Q E h=>?_) (fun f cdv A outer s H vs Q E hr h=>?_)
 ·obtain⟨_,_,_,_,_,rfl,_⟩:=h
  rfl
 obtain⟨wv,W,la,us,ns,rfl,hw,ela,pn,ok,q⟩:=h
 have ln:=pn.length
 have l0:=ok.ne
 refine⟨_,(qZ (zG (qP jE (xX (zX (K:=K)) rfl B.len' jC (qQ (pv 1) qX)) qD (xC _)) (qJ vB) qY)
  (qZ (wQ PassesOwn.never rfl (qT (K:=K) (pv 1)) (qF (i:=2) kR.nd rfl (by wtm_at "zo")) (qZ (qO (qC D_refuse_followers hr (qQ (pv 2) (qQ (xX (zX (K:=K)) rfl B.len' jC (qQ (pv 1) qX)) qX))))
  (qJ (qO (qC D_refuse_forks hr (qQ (pv 2) qX))))))
  (qZ (wQ PassesOwn.never rfl (qT (K:=K) (pv 1)) (qF (i:=2) kR.nd rfl (by wtm_at "zo")) (qJ (qO (qC D_refuse_name hr (qQ (pv 0) (qQ (pv 2) qX))))))
  (qJ (qM (xQ (qWj (K:=K)) rfl B.list' qNf (qQ (pv 1) qX))))))),?_⟩
 wtm_at "zw"
 rw[decide_eq_false (show¬(V.int (us.length:Int)=V.int 0) from fun z=>by have:=V.int.inj z;omega)]
 refine iteF ?_
 wtm_at "zf"
 refine⟨la,rfl,⟨us,SqL.of ela⟩,?_⟩
 refine kB (xs:=us) (fun i σ' H'=>∃z:Option V,σ'=[some wv,some (.ref la),z]∧Same H H') ⟨none,rfl,.refl _⟩ (fun i σ' H' _ hP=>?_) (fun i v σ' H' ex hP=>?_) (fun σ' H' hP=>?_)
 ·obtain⟨_,rfl,S2⟩:=hP
  exact SqL.of (S2 _ _ ela)
 ·obtain⟨z,rfl,S2⟩:=hP
  obtain⟨n,en⟩:∃b,ns[i]? = some b:=⟨_,List.getElem?_eq_getElem (by rw[ln];exact(List.getElem?_eq_some_iff.mp ex).1)⟩
  have hn:=xY pn en ex
  have mn:=List.mem_of_getElem? en
  have ela2:=S2 _ _ ela
  have g1:=ok.leads n mn
  rw[ln] at g1
  wtm_at "zw"
  refine⟨n,v,us.length,rfl,hn.same S2,ok.few n mn,g1,fun H3 S3=>?_⟩
  wtm_at "zw"
  exact⟨n,v,rfl,(hn.same S2).same S3,ok.few n mn,ok.once n mn,fun H4 S4=>⟨_,rfl,(S2.trans S3).trans S4⟩⟩
 ·obtain⟨z,rfl,S2⟩:=hP
  have ela2:=S2 _ _ ela
  have hw2:=hw.same S2
  wtm_at "zf"
  refine⟨la,rfl,⟨us,SqL.of ela2⟩,?_⟩
  refine kB (xs:=us) (fun i σ' H''=>∃z:Option V,σ'=[some wv,some (.ref la),z]∧H''=H') ⟨z,rfl,rfl⟩ (fun i σ' H'' _ hP=>?_) (fun i v σ' H'' ex hP=>?_) (fun σ' H'' hP=>?_)
  ·obtain⟨_,rfl,rfl⟩:=hP
   exact SqL.of ela2
  ·obtain⟨z,rfl,rfl⟩:=hP
   obtain⟨n,en⟩:∃b,ns[i]? = some b:=⟨_,List.getElem?_eq_getElem (by rw[ln];exact(List.getElem?_eq_some_iff.mp ex).1)⟩
   have hn:=xY pn en ex
   have mn:=List.mem_of_getElem? en
   wtm_at "zw"
   exact⟨n,v,wv,W,rfl,hn.same S2,hw2,ok.known n mn,_,rfl,rfl⟩
  ·obtain⟨z,rfl,rfl⟩:=hP
   wtm_at "zw"
   exact⟨la,us,rfl,.inl (SqL.of ela2),fun l hl=>q l _ (S2.free hl) (S2.trans (qK hl _)) qV⟩

inductive InR:List Int→List Int→Prop
 | nil:InR [] []
 | cons {s p:Int} {ss ps:List Int}:0≤p→p<s→InR ss ps→InR (s::ss) (p::ps)
noncomputable def atOf:List Int→List Int→Nat
 | s::ss,p::ps=>if p=s - 1 then atOf ss ps+1 else 0
 | _,_=>0
noncomputable def nextR:List Int→List Int→List Int
 | s::ss,p::ps=>if p=s - 1 then 0::nextR ss ps else (p+1)::ps
 | _,_=>[]
noncomputable def remR:List Int→List Int→Nat
 | s::ss,p::ps=>(s - 1 - p).toNat+s.toNat * remR ss ps
 | _,_=>0
section
variable {ss ps:List Int}{s p:Int}
theorem at_y (e:p=s - 1):atOf (s::ss) (p::ps)=atOf ss ps+1:=if_pos e
theorem at_n (e:¬p=s - 1):atOf (s::ss) (p::ps)=0:=if_neg e
theorem qBm (e:p=s - 1):nextR (s::ss) (p::ps)=0::nextR ss ps:=if_pos e
theorem qBn (e:¬p=s - 1):nextR (s::ss) (p::ps)=(p+1)::ps:=if_neg e
theorem InR.len (h:InR ss ps):ps.length=ss.length:=by
 induction h with
 | nil=>rfl
 | cons _ _ _ ih=>show _+1=_+1;rw[ih]
theorem InR.at_le (h:InR ss ps):atOf ss ps≤ss.length:=by
 induction h with
 | nil=>exact Nat.le_refl _
 | @cons s p ss ps _ _ _ ih=>
  show _≤ss.length+1
  by_cases e:p=s - 1
  ·rw[at_y e];omega
  ·rw[at_n e];omega
theorem InR.full (h:InR ss ps)(e:atOf ss ps=ss.length):ps=ss.map (· - 1):=by
 induction h with
 | nil=>rfl
 | @cons s p ss ps _ _ _ ih=>
  by_cases z:p=s - 1
  ·rw[at_y z] at e
   rw[ih (Nat.succ.inj e),z];rfl
  ·rw[at_n z] at e;cases e
theorem InR.rem0 (h:InR ss ps)(e:remR ss ps=0):atOf ss ps=ss.length:=by
 induction h with
 | nil=>rfl
 | @cons s p ss ps h1 h2 _ ih=>
  change (s - 1 - p).toNat+s.toNat * remR ss ps=0 at e
  have e1:p=s - 1:=by omega
  have e2:remR ss ps=0:=by
   rcases Nat.mul_eq_zero.mp (Nat.add_eq_zero_iff.mp e).2 with z | z
   ·omega
   ·exact z
  rw[at_y e1,ih e2];rfl
theorem InR.full_rem (h:InR ss ps)(e:atOf ss ps=ss.length):remR ss ps=0:=by
 induction h with
 | nil=>rfl
 | @cons s p ss ps h1 h2 _ ih=>
  by_cases z:p=s - 1
  ·rw[at_y z] at e
   show(s - 1 - p).toNat+s.toNat * remR ss ps=0
   rw[ih (Nat.succ.inj e),z,Nat.mul_zero]
   omega
  ·rw[at_n z] at e;cases e
theorem InR.next_in (h:InR ss ps)(e:atOf ss ps<ss.length):InR ss (nextR ss ps):=by
 induction h with
 | nil=>cases e
 | @cons s p ss ps h1 h2 t ih=>
  by_cases z:p=s - 1
  ·rw[at_y z] at e
   rw[qBm z]
   exact .cons (Int.le_refl _) (by omega) (ih (by change _+1<ss.length+1 at e;omega))
  ·rw[qBn z]
   exact .cons (by omega) (by omega) t
theorem InR.next_rem (h:InR ss ps)(e:atOf ss ps<ss.length):remR ss (nextR ss ps)+1=remR ss ps:=by
 induction h with
 | nil=>cases e
 | @cons s p ss ps h1 h2 t ih=>
  by_cases z:p=s - 1
  ·rw[at_y z] at e
   rw[qBm z]
   show(s - 1 - 0).toNat+s.toNat * remR ss (nextR ss ps)+1=(s - 1 - p).toNat+s.toNat * remR ss ps
   rw[← ih (by change _+1<ss.length+1 at e;omega),Nat.mul_succ]
   generalize s.toNat * remR ss (nextR ss ps)=m
   omega
  ·rw[qBn z]
   show(s - 1 - (p+1)).toNat+s.toNat * remR ss ps+1=(s - 1 - p).toNat+s.toNat * remR ss ps
   generalize s.toNat * remR ss ps=m
   omega
theorem InR.rem_pos (h:InR ss ps)(e:atOf ss ps<ss.length):0<remR ss ps:=by have:=h.next_rem e;omega
theorem InR.rem_lt (h:InR ss ps)(h5:∀s∈ss,s≤5):remR ss ps<5 ^ ss.length:=by
 induction h with
 | nil=>exact Nat.one_pos
 | @cons s p ss ps h1 h2 t ih=>
  have i:=ih fun x hx=>h5 x (List.mem_cons_of_mem _ hx)
  have s5:=h5 s List.mem_cons_self
  show(s - 1 - p).toNat+s.toNat * remR ss ps<5 ^ (ss.length+1)
  have m:=Nat.mul_le_mul (show s.toNat≤5 by omega) (Nat.le_refl (remR ss ps))
  rw[Nat.pow_succ]
  omega
theorem InR.lt_of (h:InR ss ps){j:Nat}(e:j<remR ss ps):atOf ss ps<ss.length:=by
 rcases Nat.lt_or_ge (atOf ss ps) ss.length with z | z
 ·exact z
 ·rw[h.full_rem (Nat.le_antisymm h.at_le z)] at e
  cases e
theorem InR.next_eq (h:InR ss ps)(e:atOf ss ps<ss.length):nextR ss ps=List.replicate (atOf ss ps) 0++(ps.getD (atOf ss ps) 0+1)::ps.drop (atOf ss ps+1):=by
 induction h with
 | nil=>cases e
 | @cons s p ss ps h1 h2 t ih=>
  by_cases z:p=s - 1
  ·rw[at_y z] at e ⊢
   rw[qBm z,ih (by change _+1<ss.length+1 at e;omega)]
   rfl
  ·rw[qBn z,at_n z]
   rfl
theorem InR.at_lt (h:InR ss ps){j:Nat}(e:j<atOf ss ps):ps.getD j 0=ss.getD j 0 - 1:=by
 induction h generalizing j with
 | nil=>cases e
 | @cons s p ss ps h1 h2 t ih=>
  by_cases z:p=s - 1
  ·rw[at_y z] at e
   cases j with
   | zero=>exact z
   | succ j=>exact ih (by omega)
  ·rw[at_n z] at e;cases e
theorem InR.at_ne (h:InR ss ps)(e:atOf ss ps<ss.length):ps.getD (atOf ss ps) 0≠ss.getD (atOf ss ps) 0 - 1:=by
 induction h with
 | nil=>cases e
 | @cons s p ss ps h1 h2 t ih=>
  by_cases z:p=s - 1
  ·rw[at_y z] at e ⊢
   exact ih (by change _+1<ss.length+1 at e;omega)
  ·rw[at_n z];exact z
theorem InR.get (h:InR ss ps){j:Nat}(e:j<ss.length):0≤ps.getD j 0∧ps.getD j 0<ss.getD j 0:=by
 induction h generalizing j with
 | nil=>cases e
 | @cons s p ss ps h1 h2 t ih=>
  cases j with
  | zero=>exact⟨h1,h2⟩
  | succ j=>exact ih (by change _<ss.length+1 at e;omega)
theorem InR.zeros (h:∀s∈ss,2≤s):InR ss (ss.map fun _=>0):=by
 induction ss with
 | nil=>exact .nil
 | cons s ss ih=>exact .cons (Int.le_refl _) (by have:=h s List.mem_cons_self;show 0<s;omega) (ih fun x hx=>h x (List.mem_cons_of_mem _ hx))
theorem qHa (h:∀s∈ss,2≤s)(ne:ss≠[]):atOf ss (ss.map fun _=>0)=0:=by
 cases ss with
 | nil=>exact absurd rfl ne
 | cons s ss=>exact at_n (by have:=h s List.mem_cons_self;show¬0=s - 1;omega)
end
noncomputable def dNs:List Str:=["put","go","gone"]
noncomputable def lNs:List Str:=["see","seen","ask"]
noncomputable def nmK (k:Nat):Str:=⟨#[97+k]⟩
noncomputable def dN (k:Nat):Str:=dNs.getD k "put"
noncomputable def lN (k:Nat):Str:=lNs.getD k "see"
noncomputable def wayK (k:Nat):List (Str×Th):=(List.range k).map (fun j=>(nmK j,Th.num 0))++[(nmK k,.bin "plus" (.box (nmK k)) (.num 1))]
noncomputable def deedK (szs:List Int)(k:Nat):Deed:=⟨dN k,1+k,.bin "under" (.box (nmK k)) (.num (szs.getD k 0 - 1)),[wayK k,wayK k]⟩
noncomputable def lookK (k:Nat):Look:=⟨lN k,2,.box (nmK k)⟩
noncomputable def topK (szs:List Int)(wr:Int)(k:Nat):Int:=szs.getD k 0 - 1 - wr * (if k=0 then 1 else 0)
noncomputable def goalT (szs:List Int)(wr:Int):Nat→Th
 | 0=>.nul "yes"
 | k+1=>.bin "both" (goalT szs wr k) (.bin "same" (.box (nmK k)) (.num (topK szs wr k)))
noncomputable def begT:Nat→Th
 | 0=>.bin "same" (.box (nmK 0)) (.num 0)
 | k+1=>.bin "both" (begT k) (.bin "same" (.box (nmK (k+1))) (.num 0))
noncomputable def boxK (szs:List Int)(k:Nat):Str×Int:=(nmK k,szs.getD k 0)
noncomputable def W24 (szs:List Int)(wr:Int):Wd:=⟨(List.range szs.length).map (boxK szs),(List.range szs.length).map (deedK szs),(List.range szs.length).map lookK,begT (szs.length - 1),goalT szs wr szs.length⟩
noncomputable def forksK (szs:List Int)(k:Nat):List (Int×Int):=(List.range (szs.getD k 0 - 1).toNat).map (fun f:Nat=>((f:Int),2 * (k:Int)+1))++[(szs.getD k 0 - 1,2 * (k:Int)+2)]
noncomputable def nodesK (szs:List Int):Nat→List Nd
 | 0=>[]
 | k+1=>nodesK szs k++[.see (lN k) (forksK szs k),.act (dN k) 0]
noncomputable def plan24 (szs:List Int):List Nd:=nodesK szs szs.length++[.fin]
theorem qVk {bs:List (Str×Int)}:∀i:Nat,i≤bs.length→∀r,Fits (bs.take i) r→r∈allV (bs.take i)
 | 0,_=>fun r f=>by
  have:r=[]:=List.length_eq_zero_iff.mp (by rw[f.1];rfl)
  subst this
  exact List.mem_singleton.mpr rfl
 | i+1,hi=>fun r f=>by
  have hb:bs[i]? = some (bs[i]'(by omega)):=List.getElem?_eq_getElem (by omega)
  have lr:r.length=i+1:=by rw[f.1,List.length_take];omega
  have er:r=r.take i++[r.getD i 0]:=by
   have e:=yV (vals:=r) (i:=i) (by omega)
   have:r.take (i+1)=r.take i++[r.getD i 0]:=by rw[List.take_add_one,e];rfl
   rw[← this,List.take_of_length_le (by omega)]
  have ft:Fits (bs.take i) (r.take i):=by
   refine⟨by rw[List.length_take,List.length_take];omega,fun j b v eb ev=>?_⟩
   have hj:j<i:=by
    have:=(List.getElem?_eq_some_iff.mp ev).1
    rw[List.length_take] at this
    omega
   rw[List.getElem?_take_of_lt hj] at eb ev
   exact f.2 j b v (by rw[List.getElem?_take_of_lt (by omega)];exact eb) ev
  have fi:=f.2 i (bs[i]'(by omega)) (r.getD i 0) (by rw[List.getElem?_take_of_lt (by omega)];exact hb) (yV (by omega))
  rw[qEc hb]
  unfold rowsBy
  refine List.mem_flatMap.mpr ⟨r.take i,qVk i (by omega) _ ft,List.mem_map.mpr ⟨(r.getD i 0).toNat,List.mem_range.mpr (by omega),?_⟩⟩
  rw[Int.toNat_of_nonneg fi.1]
  exact er.symm
theorem qFh {bs:List (Str×Int)}{r:List Int}(f:Fits bs r):r∈allV bs:=by
 have:=qVk bs.length (Nat.le_refl _) r
 rw[List.take_length] at this
 exact this f
structure Sz (szs:List Int):Prop where
 l1:1≤szs.length
 l3:szs.length≤3
 b:∀s∈szs,2≤s∧s≤5
theorem Sz.at {szs:List Int}(h:Sz szs){k:Nat}(hk:k<szs.length):2≤szs.getD k 0∧szs.getD k 0≤5:=by
 rw[List.getD_eq_getElem?_getD,List.getElem?_eq_getElem hk]
 exact h.b _ (List.getElem_mem hk)
theorem k3 {k:Nat}(h:k<3):k=0∨k=1∨k=2:=by omega
section
variable {szs:List Int}{wr:Int}
theorem ws24:(W24 szs wr).ws=(List.range szs.length).map nmK:=by
 show List.map _ (List.map _ _)=_
 rw[List.map_map];rfl
theorem vZ {k:Nat}(h:k<szs.length):nmK k∈(W24 szs wr).ws:=by rw[ws24];exact List.mem_map_of_mem (List.mem_range.mpr h)
theorem qBl {i j:Nat}(h:nmK i=nmK j):i=j:=by
 have:(#[97+i]:Array Nat)=#[97+j]:=congrArg Str.cps h
 have:=congrArg Array.toList this
 have:=(List.cons.inj this).1
 omega
theorem qZg {α β:Type}{f:α→β}(inj:∀a b,f a=f b→a=b){l:List α}(h:l.Nodup):(l.map f).Nodup:=List.Pairwise.map f (fun a b hab z=>hab (inj a b z)) h
theorem qFf (n:Nat):((List.range n).map nmK).Nodup:=qZg (fun _ _=>qBl) List.nodup_range
theorem names24 (h:szs.length≤3):((W24 szs wr).ds.map Deed.name++(W24 szs wr).ls.map Look.name).Nodup:=by
 show(List.map Deed.name (List.map (deedK szs) (List.range szs.length))++List.map Look.name (List.map lookK (List.range szs.length))).Nodup
 rw[List.map_map,List.map_map]
 show(List.map dN (List.range szs.length)++List.map lN (List.range szs.length)).Nodup
 generalize szs.length=n at h
 have:n=0∨n=1∨n=2∨n=3:=by omega
 rcases this with rfl | rfl | rfl | rfl <;> decide +kernel
theorem qGj (k:Nat):(goalT szs wr k).dep≤k+3:=by
 induction k with
 | zero=>exact(by decide:1≤3)
 | succ k ih=>show max (goalT szs wr k).dep 2+1≤_;omega
theorem qNh (k:Nat):(begT k).dep≤k+3:=by
 induction k with
 | zero=>exact(by decide:2≤3)
 | succ k ih=>show max (begT k).dep 2+1≤_;omega
theorem qCl (h:Sz szs)(hw:wr=0∨wr=1):∀k,k≤szs.length→Cond' (W24 szs wr).ws (goalT szs wr k):=by
 intro k
 induction k with
 | zero=>intro _;rfl
 | succ k ih=>
  intro hk
  have b:=h.at (k:=k) (by omega)
  refine .inr ⟨rfl,ih (by omega),.inl ⟨.inl rfl,vZ (by omega),?_⟩⟩
  show 0≤topK szs wr k∧topK szs wr k<10
  unfold topK
  by_cases e:k=0
  ·rw[if_pos e];rcases hw with rfl | rfl <;> omega
  ·rw[if_neg e];rcases hw with rfl | rfl <;> omega
theorem qHw:∀k,k<szs.length→Cond' (W24 szs wr).ws (begT k):=by
 intro k
 induction k with
 | zero=>intro h;exact .inl ⟨.inl rfl,vZ h,⟨by decide,by decide⟩⟩
 | succ k ih=>intro hk;exact .inr ⟨rfl,ih (by omega),.inl ⟨.inl rfl,vZ hk,⟨by decide,by decide⟩⟩⟩
theorem qNo {k:Nat}(h3:szs.length≤3)(h:k<szs.length):WayOk (W24 szs wr).ws (wayK k):=by
 refine⟨?_,?_,?_⟩
 ·show((List.map _ _++[_]).map _).Nodup
  rw[List.map_append,List.map_map]
  show(List.map nmK (List.range k)++[nmK k]).Nodup
  have:=qFf (k+1)
  rw[List.range_succ,List.map_append] at this
  exact this
 ·show(List.map _ _++[_]).length≤100
  rw[List.length_append,List.length_map,List.length_range]
  show k+1≤100
  omega
 ·intro c hc
  rcases List.mem_append.mp hc with z | z
  ·obtain⟨j,hj,rfl⟩:=List.mem_map.mp z
   have:=List.mem_range.mp hj
   exact⟨vZ (by omega),⟨by decide,by decide⟩,(by decide:1≤12)⟩
  ·rw[List.mem_singleton.mp z]
   exact⟨vZ h,⟨.inl rfl,vZ h,⟨by decide,by decide⟩⟩,(by decide:2≤12)⟩
theorem qEk {k:Nat}(h:k<szs.length):(W24 szs wr).bs[k]? = some (boxK szs k):=by
 show(List.map _ _)[k]? = _
 rw[List.getElem?_map,List.getElem?_range h];rfl
theorem wN:(W24 szs wr).bs.length=szs.length:=by
 show(List.map _ _).length=_
 rw[List.length_map,List.length_range]
theorem env24 {vals:List Int}(hl:vals.length=szs.length){k:Nat}(h:k<szs.length):envOf (kvsOf (W24 szs wr).bs vals) (nmK k)=vals.getD k 0:=by
 have:=qCk (bs:=(W24 szs wr).bs) (by have:=qFf szs.length;rw[← ws24 (wr:=wr)] at this;exact this) (hl.trans wN.symm) (qEk h) (yV (by omega))
 unfold envOf
 rw[show(boxK szs k).1=nmK k from rfl] at this
 rw[this]
theorem InR.fits {ps:List Int}(h:InR szs ps):Fits (W24 szs wr).bs ps:=by
 refine⟨h.len.trans wN.symm,fun i b v eb ev=>?_⟩
 have hi:i<szs.length:=by have:=(List.getElem?_eq_some_iff.mp eb).1;rw[wN] at this;exact this
 rw[qEk hi] at eb
 cases eb
 have g:=h.get hi
 rw[List.getD_eq_getElem?_getD,ev] at g
 exact g
theorem qHv {vals:List Int}(hl:vals.length=szs.length)(h0:∀k,vals.getD k 0=0):∀k,k<szs.length→(begT k).truth (envOf (kvsOf (W24 szs wr).bs vals))=true:=by
 intro k
 induction k with
 | zero=>
  intro h
  show(Th.bin "same" _ _).truth _=true
  rw[yH]
  exact decide_eq_true ((env24 hl h).trans (h0 0))
 | succ k ih=>
  intro h
  show(Th.bin "both" _ (.bin "same" _ _)).truth _=true
  rw[kI,ih (by omega),yH]
  exact decide_eq_true ((env24 hl h).trans (h0 (k+1)))
theorem qXo (k:Nat):(szs.map fun _=>(0:Int)).getD k 0=0:=by
 rw[List.getD_eq_getElem?_getD,List.getElem?_map]
 cases szs[k]? <;> rfl
theorem qAj:(W24 szs wr).bs.map (·.2)=szs:=by
 show List.map _ (List.map _ _)=_
 rw[List.map_map]
 apply List.ext_getElem?
 intro i
 rw[List.getElem?_map]
 by_cases h:i<szs.length
 ·rw[List.getElem?_range h]
  show some (szs.getD i 0)=_
  rw[List.getD_eq_getElem?_getD,List.getElem?_eq_getElem h];rfl
 ·rw[List.getElem?_eq_none (by rw[List.length_range];omega),List.getElem?_eq_none (by omega)];rfl
theorem qMq (h:Sz szs):szs.foldl (· * ·) 1≤200:=by
 have l1:=h.l1
 have l3:=h.l3
 have b:=h.b
 rcases szs with _ | ⟨x,_ | ⟨y,_ | ⟨z,_ | ⟨u,t⟩⟩⟩⟩
 ·exact(by decide)
 ·have:=b x (by simp)
  show 1 * x≤200
  omega
 ·have bx:=b x (by simp)
  have b_y:=b y (by simp)
  have:=Int.mul_le_mul bx.2 b_y.2 (by omega) (by omega)
  show 1 * x * y≤200
  rw[Int.one_mul]
  omega
 ·have bx:=b x (by simp)
  have b_y:=b y (by simp)
  have bz:=b z (by simp)
  have m:=Int.mul_le_mul bx.2 b_y.2 (by omega) (by omega)
  have m2:=Int.mul_le_mul m bz.2 (by omega) (by omega)
  show 1 * x * y * z≤200
  rw[Int.one_mul]
  omega
 ·exact absurd l3 (by show¬(t.length+1+1+1+1≤3);omega)
theorem wok24 (h:Sz szs)(hw:wr=0∨wr=1):WOk (W24 szs wr):=by
 have l1:=h.l1
 have l3:=h.l3
 have z:=InR.zeros (ss:=szs) fun s hs=>(h.b s hs).1
 refine⟨by rw[wN];exact l1,by rw[wN];omega,fun b hb=>?_,by rw[qAj];exact qMq h,⟨by rw[ws24];exact qFf _,fun x hx hc=>?_⟩,?_,?_,names24 l3,fun d hd=>?_,fun l hl=>?_,qHw _ (by omega),Nat.le_trans (qNh _) (by omega),qCl h hw _ (Nat.le_refl _),Nat.le_trans (qGj _) (by omega),_,qFh (InR.fits z),qHv z.len qXo _ (by omega)⟩
 ·obtain⟨k,hk,rfl⟩:=List.mem_map.mp hb
  exact h.at (List.mem_range.mp hk)
 ·rw[ws24] at hx
  obtain⟨k,hk,rfl⟩:=List.mem_map.mp hx
  have k3':k<3:=Nat.lt_of_lt_of_le (List.mem_range.mp hk) l3
  rcases k3 k3' with rfl | rfl | rfl <;> exact absurd hc (by decide +kernel)
 ·show(List.map _ _).length≤100
  rw[List.length_map,List.length_range];omega
 ·show(List.map _ _).length≤100
  rw[List.length_map,List.length_range];omega
 ·obtain⟨k,hk,rfl⟩:=List.mem_map.mp hd
  have hk':=List.mem_range.mp hk
  have b:=h.at hk'
  refine⟨by show(1:Int)≤1+(k:Int);omega,.inl ⟨.inr rfl,vZ hk',?_⟩,(by decide:2≤12),(fun z=>nomatch z),(by decide:2≤100),fun wy hwy=>?_⟩
  ·show 0≤szs.getD k 0 - 1∧szs.getD k 0 - 1<10
   omega
  ·have:wy=wayK k:=by
    rcases List.mem_cons.mp hwy with z | z
    ·exact z
    ·exact List.mem_singleton.mp z
   rw[this];exact qNo l3 hk'
 ·obtain⟨k,hk,rfl⟩:=List.mem_map.mp hl
  exact⟨by show(1:Int)≤2;decide,vZ (List.mem_range.mp hk),(by decide:1≤12)⟩
theorem zF (n:Nat):(nodesK szs n).length=2 * n:=by
 induction n with
 | zero=>rfl
 | succ n ih=>show(nodesK szs n++_).length=_;rw[List.length_append,ih];show _+2=_;omega
theorem qXa {k:Nat}(rest:List Nd):∀n,k<n→(nodesK szs n++rest)[2 * k]? = some (.see (lN k) (forksK szs k))∧(nodesK szs n++rest)[2 * k+1]? = some (.act (dN k) 0):=by
 intro n
 induction n generalizing rest with
 | zero=>intro h;cases h
 | succ n ih=>
  intro h
  show(nodesK szs n++[_,_]++rest)[2 * k]? = _∧(nodesK szs n++[_,_]++rest)[2 * k+1]? = _
  rw[List.append_assoc]
  by_cases e:k=n
  ·subst e
   constructor
   ·rw[List.getElem?_append_right (by rw[zF];exact Nat.le_refl _),zF,Nat.sub_self];rfl
   ·rw[List.getElem?_append_right (by rw[zF];omega),zF,Nat.add_sub_cancel_left];rfl
  ·exact ih _ (by omega)
theorem qBi:(plan24 szs)[2 * szs.length]? = some .fin:=by
 unfold plan24
 rw[List.getElem?_append_right (by rw[zF];exact Nat.le_refl _),zF,Nat.sub_self]
 rfl
theorem qBh {x:Nd}:∀n,x∈nodesK szs n→∃k<n,x=.see (lN k) (forksK szs k)∨x=.act (dN k) 0:=by
 intro n
 induction n with
 | zero=>intro h;cases h
 | succ n ih=>
  intro h
  rcases List.mem_append.mp h with z | z
  ·obtain⟨k,hk,r⟩:=ih z;exact⟨k,by omega,r⟩
  ·rcases List.mem_cons.mp z with z | z
   ·exact⟨n,Nat.lt_succ_self n,.inl z⟩
   ·exact⟨n,Nat.lt_succ_self n,.inr (List.mem_singleton.mp z)⟩
theorem qZo (y:Int×Int)(x:Int)(l:List (Int×Int)):forkTo (l++[y]) x=if y.1=x then some y.2 else forkTo l x:=by
 induction l with
 | nil=>show(none:Option Int).or _=_;rw[Option.none_or];rfl
 | cons p l ih=>
  show(forkTo (l++[y]) x).or (if p.1=x then some p.2 else none)=if y.1=x then some y.2 else (forkTo l x).or (if p.1=x then some p.2 else none)
  rw[ih]
  by_cases e:y.1=x
  ·rw[if_pos e,if_pos e];rfl
  ·rw[if_neg e,if_neg e]
theorem qVo (t:Int){x:Int}(h0:0≤x):∀m:Nat,x<(m:Int)→forkTo ((List.range m).map fun f:Nat=>((f:Int),t)) x=some t:=by
 intro m
 induction m with
 | zero=>intro h;omega
 | succ m ih=>
  intro h
  rw[List.range_succ,List.map_append]
  show forkTo (_++[((m:Int),t)]) x=_
  rw[qZo]
  by_cases e:(m:Int)=x
  ·rw[if_pos e]
  ·rw[if_neg e];exact ih (by omega)
theorem qNq {k:Nat}{x:Int}(h0:0≤x)(h1:x<szs.getD k 0):forkTo (forksK szs k) x=some (if x=szs.getD k 0 - 1 then 2 * (k:Int)+2 else 2 * (k:Int)+1):=by
 unfold forksK
 rw[qZo]
 by_cases e:x=szs.getD k 0 - 1
 ·rw[if_pos e,if_pos (show szs.getD k 0 - 1=x from e.symm)]
 ·rw[if_neg e,if_neg (show¬szs.getD k 0 - 1=x from fun z=>e z.symm),qVo _ h0 _ (by omega)]
theorem qBz (h:Sz szs):PlanOk (W24 szs wr) (plan24 szs):=by
 have l1:=h.l1
 have l3:=h.l3
 have len:(plan24 szs).length=2 * szs.length+1:=by unfold plan24;rw[List.length_append,zF];rfl
 have mem:∀x∈plan24 szs,x=.fin∨∃k<szs.length,x=.see (lN k) (forksK szs k)∨x=.act (dN k) 0:=fun x hx=>by
  rcases List.mem_append.mp hx with z | z
  ·exact .inr (qBh _ z)
  ·exact .inl (List.mem_singleton.mp z)
 have fl:∀k<szs.length,(forksK szs k).length≤1000:=fun k hk=>by
  have:=h.at hk
  unfold forksK
  rw[List.length_append,List.length_map,List.length_range]
  show _+1≤_
  omega
 refine⟨by omega,by omega,fun x hx=>?_,fun x hx=>?_,fun x hx=>?_,fun x hx=>?_⟩
 ·rcases mem x hx with rfl | ⟨k,hk,rfl | rfl⟩
  ·trivial
  ·exact fl k hk
  ·trivial
 ·rw[len]
  rcases mem x hx with rfl | ⟨k,hk,rfl | rfl⟩
  ·intro t ht;cases ht
  ·intro t ht
   obtain⟨f,hf,rfl⟩:=List.mem_map.mp ht
   rcases List.mem_append.mp hf with z | z
   ·obtain⟨j,_,rfl⟩:=List.mem_map.mp z
    show 0≤2 * (k:Int)+1∧2 * (k:Int)+1<_
    omega
   ·rw[List.mem_singleton.mp z]
    show 0≤2 * (k:Int)+2∧2 * (k:Int)+2<_
    omega
  ·intro t ht
   rw[List.mem_singleton.mp ht]
   omega
 ·rcases mem x hx with rfl | ⟨k,hk,rfl | rfl⟩
  ·trivial
  ·show((forksK szs k).map (·.1)).Nodup
   have:=h.at hk
   unfold forksK
   rw[List.map_append,List.map_map]
   have e:[((szs.getD k 0 - 1,2 * (k:Int)+2):Int×Int)].map (·.1)=List.map (fun f:Nat=>(f:Int)) [(szs.getD k 0 - 1).toNat]:=by
    show [_]=[(((szs.getD k 0 - 1).toNat:Nat):Int)]
    rw[Int.toNat_of_nonneg (by omega)]
   rw[e]
   show(List.map (fun f:Nat=>(f:Int)) _++_).Nodup
   rw[← List.map_append,← List.range_succ]
   exact qZg (fun a b z=>Int.ofNat.inj z) List.nodup_range
  ·trivial
 ·rcases mem x hx with rfl | ⟨k,hk,rfl | rfl⟩
  ·trivial
  ·exact⟨lookK k,List.mem_map_of_mem (List.mem_range.mpr hk),rfl⟩
  ·exact⟨deedK szs k,List.mem_map_of_mem (List.mem_range.mpr hk),rfl⟩
noncomputable def lookSt (ps:List Int)(j:Nat):List (Str×Int):=(List.range j).map fun k=>(lN k,ps.getD k 0)
noncomputable def tickSt (a:Nat)(ps:List Int):List (Str×Int):=lookSt ps (a+1)++[(dN a,0)]
noncomputable def ticksM (szs:List Int):Nat→List Int→List (Str×Int)
 | 0,ps=>lookSt ps szs.length
 | f+1,ps=>tickSt (atOf szs ps) ps++ticksM szs f (nextR szs ps)
noncomputable def openM (szs:List Int):Nat→List Int→List (Str×Int)
 | 0,ps=>lookSt ps (atOf szs ps+1)
 | j+1,ps=>tickSt (atOf szs ps) ps++openM szs j (nextR szs ps)
noncomputable def kvL (j:Nat):List (Key×V):=(List.range j).map fun i=>(Sum.inl ((2 * i:Nat):Int),V.bl true)
theorem qFo (j:Nat):valV (kvL j) (Sum.inl ((2 * j:Nat):Int))=none:=by
 unfold valV
 rw[Option.map_eq_none_iff,List.find?_eq_none]
 intro x hx
 obtain⟨i,hi,rfl⟩:=List.mem_map.mp hx
 have:=List.mem_range.mp hi
 intro z
 have:=Sum.inl.inj (of_decide_eq_true z)
 omega
theorem qMi (j:Nat):putK (kvL j) (Sum.inl ((2 * j:Nat):Int)) (.bl true)=kvL (j+1):=by
 unfold putK
 rw[if_neg]
 ·show _=List.map _ (List.range (j+1))
  rw[List.range_succ,List.map_append];rfl
 ·intro z
  obtain⟨x,hx,e⟩:=List.any_eq_true.mp z
  obtain⟨i,hi,rfl⟩:=List.mem_map.mp hx
  have:=List.mem_range.mp hi
  have:=Sum.inl.inj (of_decide_eq_true e)
  omega
theorem qZl {chs ps:List Int}{k d:Nat}{st:List (Str×Int)}(hs:Sz szs)(h:InR szs ps)(hk:k<szs.length):
  goS (W24 szs wr) (plan24 szs) chs ⟨2 * k,ps,d,st,kvL k⟩=(none,⟨if ps.getD k 0=szs.getD k 0 - 1 then 2 * (k+1) else 2 * k+1,ps,d,st++[(lN k,ps.getD k 0)],kvL (k+1)⟩):=by
 have fl:(W24 szs wr).ls.find? (fun d=>decide (d.name=lN k))=some (lookK k):=jI (f:=Look.name) (a:=lookK k) (List.nodup_append.mp (names24 (wr:=wr) hs.l3)).2.1 (List.mem_map_of_mem (List.mem_range.mpr hk))
 have n1:(plan24 szs)[2 * k]? = some (.see (lN k) (forksK szs k)):=(qXa [.fin] szs.length hk).1
 have w1:(lookK k).part.worth (envOf (kvsOf (W24 szs wr).bs ps))=ps.getD k 0:=env24 h.len hk
 have g:=h.get hk
 simp only[goS,n1,fl,lookS,qFo,w1,qNq g.1 g.2,qMi]
 by_cases e:ps.getD k 0=szs.getD k 0 - 1
 ·rw[if_pos e,if_pos e]
  show(none,(⟨(2 * (k:Int)+2).toNat,_,_,_,_⟩:PSt))=_
  rw[show(2 * (k:Int)+2).toNat=2 * (k+1) by omega];rfl
 ·rw[if_neg e,if_neg e]
  show(none,(⟨(2 * (k:Int)+1).toNat,_,_,_,_⟩:PSt))=_
  rw[show(2 * (k:Int)+1).toNat=2 * k+1 by omega];rfl
theorem yU {W:Wd}{ns:List Nd}{chs:List Int}{s s':PSt}(f:Nat)(h:goS W ns chs s=(none,s')):runS W ns chs (f+1) s=runS W ns chs f s':=by
 show(match goS W ns chs s with | (some e,s')=>some (e,s') | (none,s')=>runS W ns chs f s')=_
 rw[h]
theorem qXq {W:Wd}{ns:List Nd}{chs:List Int}{s s':PSt}{e:Str}(f:Nat)(h:goS W ns chs s=(some e,s')):runS W ns chs (f+1) s=some (e,s'):=by
 show(match goS W ns chs s with | (some e,s')=>some (e,s') | (none,s')=>runS W ns chs f s')=_
 rw[h]
theorem jU (ps:List Int)(j:Nat):lookSt ps (j+1)=lookSt ps j++[(lN j,ps.getD j 0)]:=by
 unfold lookSt
 rw[List.range_succ,List.map_append];rfl
theorem qKn {chs ps:List Int}{d:Nat}{st:List (Str×Int)}(hs:Sz szs)(h:InR szs ps)(f:Nat):∀j,j≤atOf szs ps→runS (W24 szs wr) (plan24 szs) chs (f+j) ⟨0,ps,d,st,[]⟩=runS (W24 szs wr) (plan24 szs) chs f ⟨2 * j,ps,d,st++lookSt ps j,kvL j⟩:=by
 intro j
 induction j generalizing f with
 | zero=>intro _;rw[show lookSt ps 0=[] from rfl,List.append_nil];rfl
 | succ j ih=>
  intro hj
  have al:=h.at_le
  rw[show f+(j+1)=f+1+j by omega,ih (f+1) (by omega),yU f (qZl hs h (by omega)),if_pos (h.at_lt (by omega)),jU,List.append_assoc]
noncomputable def stAt (szs ps:List Int)(d:Nat)(st:List (Str×Int)):PSt:=⟨2 * atOf szs ps+1,ps,d,st++lookSt ps (atOf szs ps+1),kvL (atOf szs ps+1)⟩
theorem qJe {chs ps:List Int}{d:Nat}{st:List (Str×Int)}(hs:Sz szs)(h:InR szs ps)(ha:atOf szs ps<szs.length)(f:Nat):runS (W24 szs wr) (plan24 szs) chs (f+(atOf szs ps+1)) ⟨0,ps,d,st,[]⟩=runS (W24 szs wr) (plan24 szs) chs f (stAt szs ps d st):=by
 rw[show f+(atOf szs ps+1)=f+1+atOf szs ps by omega,qKn hs h (f+1) _ (Nat.le_refl _),yU f (qZl hs h ha),if_neg (h.at_ne ha)]
 unfold stAt
 rw[jU,List.append_assoc]
theorem qFm {α:Type}{x:Str}{v:α}:∀{l:List (Str×α)},l.lookup x=some v→(x,v)∈l:=by
 intro l
 induction l with
 | nil=>intro h;cases h
 | cons p l ih=>
  intro h
  obtain⟨a,b⟩:=p
  rw[List.lookup_cons] at h
  cases e:x == a with
  | true=>
   rw[e] at h
   cases h
   rw[eq_of_beq e]
   exact List.mem_cons_self
  | false=>
   rw[e] at h
   exact List.mem_cons_of_mem _ (ih h)
theorem qFl (k:Nat):(∀j,j<k→(wayK k).lookup (nmK j)=some (Th.num 0))∧(wayK k).lookup (nmK k)=some (.bin "plus" (.box (nmK k)) (.num 1))∧∀j,k<j→(wayK k).lookup (nmK j)=none:=by
 have nd:((wayK k).map (·.1)).Nodup:=by
  show((List.map _ _++[_]).map _).Nodup
  rw[List.map_append,List.map_map]
  have:=qFf (k+1)
  rw[List.range_succ,List.map_append] at this
  exact this
 have ats:∀j,j<k→(wayK k)[j]? = some (nmK j,Th.num 0):=fun j hj=>by
  show(List.map _ _++[_])[j]? = _
  rw[List.getElem?_append_left (by rw[List.length_map,List.length_range];exact hj),List.getElem?_map,List.getElem?_range hj];rfl
 have atk:(wayK k)[k]? = some (nmK k,.bin "plus" (.box (nmK k)) (.num 1)):=by
  show(List.map _ _++[_])[k]? = _
  rw[List.getElem?_append_right (by rw[List.length_map,List.length_range];exact Nat.le_refl _),List.length_map,List.length_range,Nat.sub_self];rfl
 refine⟨fun j hj=>vQ nd (ats j hj),vQ nd atk,fun j hj=>?_⟩
 cases e:(wayK k).lookup (nmK j) with
 | none=>rfl
 | some t=>
  have m:(nmK j,t)∈wayK k:=qFm e
  rcases List.mem_append.mp m with z | z
  ·obtain⟨i,hi,q⟩:=List.mem_map.mp z
   have:=qBl (congrArg Prod.fst q)
   have:=List.mem_range.mp hi
   omega
  ·have:=qBl (congrArg Prod.fst (List.mem_singleton.mp z))
   omega
theorem behind24 {ps:List Int}{k:Nat}(h:InR szs ps)(hk:k<szs.length)(ne:ps.getD k 0≠szs.getD k 0 - 1):zY (W24 szs wr).bs (wayK k) ps=List.replicate k 0++(ps.getD k 0+1)::ps.drop (k+1):=by
 have lp:=h.len
 apply List.ext_getElem?
 intro i
 by_cases hi:i<szs.length
 ·rw[wO (qEk hi) (yV (vals:=ps) (by omega))]
  obtain⟨w1,w2,w3⟩:=qFl k
  rw[show(boxK szs i).1=nmK i from rfl]
  rcases Nat.lt_trichotomy i k with z | z | z
  ·rw[w1 i z,List.getElem?_append_left (by rw[List.length_replicate];exact z),List.getElem?_replicate,if_pos z]
   show some ((0:Int) % _)=some 0
   rw[Int.zero_emod]
  ·subst z
   rw[w2,List.getElem?_append_right (by rw[List.length_replicate];exact Nat.le_refl _),List.length_replicate,Nat.sub_self]
   show some ((Th.bin "plus" _ _).worth _ % szs.getD i 0)=some (ps.getD i 0+1)
   have g:=h.get hi
   have e:(Th.bin "plus" (.box (nmK i)) (.num 1)).worth (envOf (kvsOf (W24 szs wr).bs ps))=ps.getD i 0+1:=by
    show(if ("plus" : Str) = "plus" then envOf (kvsOf (W24 szs wr).bs ps) (nmK i)+1 else _)=_
    rw[if_pos rfl,env24 lp hi]
   rw[e,Int.emod_eq_of_lt (by omega) (by omega)]
  ·rw[w3 i z,List.getElem?_append_right (by rw[List.length_replicate];omega),List.length_replicate]
   obtain⟨m,rfl⟩:∃m,i=k+(m+1):=⟨i - k - 1,by omega⟩
   rw[show k+(m+1) - k=m+1 by omega]
   show some (ps.getD (k+(m+1)) 0)=(ps.drop (k+1))[m]?
   rw[List.getElem?_drop,show k+1+m=k+(m+1) by omega]
   exact(yV (by omega)).symm
 ·rw[List.getElem?_eq_none (by rw[vX (lp.trans wN.symm),wN];omega),List.getElem?_eq_none]
  rw[List.length_append,List.length_replicate,List.length_cons,List.length_drop]
  omega
theorem qDc (hs:Sz szs){k:Nat}(hk:k<szs.length):(W24 szs wr).ds.find? (fun d=>decide (d.name=dN k))=some (deedK szs k):=jI (f:=Deed.name) (a:=deedK szs k) (List.nodup_append.mp (names24 (wr:=wr) hs.l3)).1 (List.mem_map_of_mem (List.mem_range.mpr hk))
theorem qBo {ps:List Int}{k:Nat}(h:InR szs ps)(hk:k<szs.length)(ne:ps.getD k 0≠szs.getD k 0 - 1):(deedK szs k).need.truth (envOf (kvsOf (W24 szs wr).bs ps))=true:=by
 show(Th.bin "under" _ _).truth _=true
 rw[vH]
 have e:(Th.box (nmK k)).worth (envOf (kvsOf (W24 szs wr).bs ps))=ps.getD k 0:=env24 h.len hk
 have g:=h.get hk
 rw[e]
 exact decide_eq_true (by show ps.getD k 0<szs.getD k 0 - 1;omega)
theorem qJz {chs ps:List Int}{d:Nat}{st:List (Str×Int)}(hs:Sz szs)(h:InR szs ps)(ha:atOf szs ps<szs.length){c:Int}(hc:chs[d]? = some c)(c2:c % 2=0):
  goS (W24 szs wr) (plan24 szs) chs (stAt szs ps d st)=(none,⟨0,nextR szs ps,d+1,st++tickSt (atOf szs ps) ps,[]⟩):=by
 have n1:(plan24 szs)[2 * atOf szs ps+1]? = some (.act (dN (atOf szs ps)) 0):=(qXa [.fin] szs.length ha).2
 have lw:((deedK szs (atOf szs ps)).ways.length:Int)=2:=rfl
 simp only[goS,stAt,n1,qDc hs ha,deedS,qBo h ha (h.at_ne ha),hc,lw,c2]
 show(none,(⟨0,zY _ (wayK (atOf szs ps)) ps,d+1,st++lookSt ps (atOf szs ps+1)++[(dN (atOf szs ps),0)],[]⟩:PSt))=_
 rw[behind24 h ha (h.at_ne ha),← h.next_eq ha,List.append_assoc];rfl
theorem qBb {chs ps:List Int}{d:Nat}{st:List (Str×Int)}(hs:Sz szs)(h:InR szs ps)(ha:atOf szs ps<szs.length)(hc:chs[d]? = none):
  goS (W24 szs wr) (plan24 szs) chs (stAt szs ps d st)=(some (Str.ofString "open"),stAt szs ps d st):=by
 have n1:(plan24 szs)[2 * atOf szs ps+1]? = some (.act (dN (atOf szs ps)) 0):=(qXa [.fin] szs.length ha).2
 simp only[goS,stAt,n1,qDc hs ha,deedS,qBo h ha (h.at_ne ha),hc]
noncomputable def endOf (wr:Int):Str:=if wr=0 then Str.ofString "goal" else Str.ofString "short"
theorem qMm {ps:List Int}(hs:Sz szs)(hw:wr=0∨wr=1)(h:InR szs ps)(ha:atOf szs ps=szs.length):∀k,k≤szs.length→(goalT szs wr k).truth (envOf (kvsOf (W24 szs wr).bs ps))=(decide (k=0) || decide (wr=0)):=by
 intro k
 induction k with
 | zero=>intro _;rfl
 | succ k ih=>
  intro hk
  show(Th.bin "both" _ (.bin "same" _ _)).truth _=_
  rw[kI,ih (by omega),yH]
  have e:(Th.box (nmK k)).worth (envOf (kvsOf (W24 szs wr).bs ps))=szs.getD k 0 - 1:=(env24 h.len (by omega)).trans (h.at_lt (by omega))
  rw[e]
  show((decide (k=0) || decide (wr=0)) && decide (szs.getD k 0 - 1=topK szs wr k))=(decide (k+1=0) || decide (wr=0))
  unfold topK
  by_cases z:k=0
  ·rw[if_pos z]
   rcases hw with rfl | rfl
   ·simp[z]
   ·rw[decide_eq_false (show¬(szs.getD k 0 - 1=szs.getD k 0 - 1 - 1 * 1) by omega)]
    simp
  ·rw[if_neg z]
   simp[z]
theorem qGa {chs ps:List Int}{s:PSt}(hs:Sz szs)(hw:wr=0∨wr=1)(h:InR szs ps)(ha:atOf szs ps=szs.length)(en:s.num=2 * szs.length)(ev:s.vals=ps):goS (W24 szs wr) (plan24 szs) chs s=(some (endOf wr),s):=by
 have g:(W24 szs wr).gt.truth (envOf (kvsOf (W24 szs wr).bs s.vals))=decide (wr=0):=by
  rw[ev]
  have:=qMm hs hw h ha szs.length (Nat.le_refl _)
  have l1:=hs.l1
  rw[decide_eq_false (show¬szs.length=0 by omega),Bool.false_or] at this
  exact this
 simp only[goS,en,qBi,g]
 unfold endOf
 rcases hw with rfl | rfl <;> rfl
theorem qEo {chs:List Int}(hs:Sz szs)(hw:wr=0∨wr=1):∀(f:Nat) (ps:List Int) (d:Nat) (st:List (Str×Int)),InR szs ps→remR szs ps=f→(∀i,i<f→∃c,chs[d+i]? = some c∧c % 2=0)→
  ∃F s',F≤5 * f+5∧runS (W24 szs wr) (plan24 szs) chs F ⟨0,ps,d,st,[]⟩=some (endOf wr,s')∧s'.steps=st++ticksM szs f ps∧s'.vals=szs.map (· - 1):=by
 intro f
 have l3:=hs.l3
 induction f with
 | zero=>
  intro ps d st h e _
  have ha:=h.rem0 e
  refine⟨1+atOf szs ps,_,by omega,(qKn hs h 1 _ (Nat.le_refl _)).trans (qXq 0 (qGa hs hw h ha (by rw[ha]) rfl)),?_,h.full ha⟩
  show st++lookSt ps (atOf szs ps)=st++lookSt ps szs.length
  rw[ha]
 | succ f ih=>
  intro ps d st h e hc
  have ha:atOf szs ps<szs.length:=h.lt_of (j:=f) (by omega)
  have nr:=h.next_rem ha
  obtain⟨c,c1,c2⟩:=hc 0 (Nat.succ_pos f)
  rw[Nat.add_zero] at c1
  obtain⟨F,s',h1,h2,h3,h4⟩:=ih (nextR szs ps) (d+1) (st++tickSt (atOf szs ps) ps) (h.next_in ha) (by omega) fun i hi=>by
   obtain⟨c,c1,c2⟩:=hc (i+1) (by omega)
   exact⟨c,by rw[show d+1+i=d+(i+1) by omega];exact c1,c2⟩
  refine⟨F+1+(atOf szs ps+1),s',by omega,?_,?_,h4⟩
  ·rw[qJe hs h ha,yU F (qJz hs h ha c1 c2)]
   exact h2
  ·rw[h3,List.append_assoc];rfl
theorem qEm {chs:List Int}(hs:Sz szs):∀(j:Nat) (ps:List Int) (d:Nat) (st:List (Str×Int)),InR szs ps→j<remR szs ps→(∀i,i<j→∃c,chs[d+i]? = some c∧c % 2=0)→chs[d+j]? = none→
  ∃F s',F≤5 * j+5∧runS (W24 szs wr) (plan24 szs) chs F ⟨0,ps,d,st,[]⟩=some (Str.ofString "open",s')∧s'.steps=st++openM szs j ps:=by
 intro j
 have l3:=hs.l3
 induction j with
 | zero=>
  intro ps d st h e _ hn
  have ha:atOf szs ps<szs.length:=h.lt_of e
  exact⟨1+(atOf szs ps+1),_,by omega,(qJe hs h ha 1).trans (qXq 0 (qBb hs h ha hn)),rfl⟩
 | succ j ih=>
  intro ps d st h e hc hn
  have ha:atOf szs ps<szs.length:=h.lt_of (by omega)
  have nr:=h.next_rem ha
  obtain⟨c,c1,c2⟩:=hc 0 (Nat.succ_pos j)
  rw[Nat.add_zero] at c1
  obtain⟨F,s',h1,h2,h3⟩:=ih (nextR szs ps) (d+1) (st++tickSt (atOf szs ps) ps) (h.next_in ha) (by omega) (fun i hi=>by
   obtain⟨c,c1,c2⟩:=hc (i+1) (by omega)
   exact⟨c,by rw[show d+1+i=d+(i+1) by omega];exact c1,c2⟩) (by rw[show d+1+j=d+(j+1) by omega];exact hn)
  refine⟨F+1+(atOf szs ps+1),s',by omega,?_,?_⟩
  ·rw[qJe hs h ha,yU F (qJz hs h ha c1 c2)]
   exact h2
  ·rw[h3,List.append_assoc];rfl
end

noncomputable def isD (x:Str×Int):Bool:=decide (x.1∈dNs)
theorem qRj (k:Nat)(v:Int):isD (dN k,v)=true:=by
 refine decide_eq_true ?_
 show dN k∈dNs
 by_cases h:k<3
 ·rcases k3 h with rfl | rfl | rfl <;> decide +kernel
 ·unfold dN
  rw[List.getD_eq_getElem?_getD,List.getElem?_eq_none (by show 3≤k;omega)]
  decide +kernel
theorem qSf (k:Nat)(v:Int):isD (lN k,v)=false:=by
 refine decide_eq_false ?_
 show¬(lN k∈dNs)
 by_cases h:k<3
 ·rcases k3 h with rfl | rfl | rfl <;> decide +kernel
 ·unfold lN
  rw[List.getD_eq_getElem?_getD,List.getElem?_eq_none (by show 3≤k;omega)]
  decide +kernel
noncomputable def posD:Nat→List (Str×Int)→List Int
 | _,[]=>[]
 | k,x::l=>if isD x=true then (k:Int)::posD (k+1) l else posD (k+1) l
theorem qKd (b:List (Str×Int)):∀(a:List (Str×Int)) (k:Nat),posD k (a++b)=posD k a++posD (k+a.length) b:=by
 intro a
 induction a with
 | nil=>intro k;rfl
 | cons x a ih=>
  intro k
  show(if isD x=true then (k:Int)::posD (k+1) (a++b) else posD (k+1) (a++b))=(if isD x=true then (k:Int)::posD (k+1) a else posD (k+1) a)++posD (k+(a.length+1)) b
  rw[ih,show k+1+a.length=k+(a.length+1) by omega]
  by_cases e:isD x=true
  ·rw[if_pos e,if_pos e];rfl
  ·rw[if_neg e,if_neg e]
theorem vC:∀(a:List (Str×Int)) (k:Nat),(posD k a).length=a.countP isD:=by
 intro a
 induction a with
 | nil=>intro k;rfl
 | cons x a ih=>
  intro k
  show(if isD x=true then (k:Int)::posD (k+1) a else posD (k+1) a).length=_
  rw[List.countP_cons]
  by_cases e:isD x=true
  ·rw[if_pos e,if_pos e,List.length_cons,ih]
  ·rw[if_neg e,if_neg e,ih];rfl
theorem qMx {A R:List (Str×Int)}{x:Str×Int}(h:isD x=true):(posD 0 (A++x::R))[A.countP isD]? = some (A.length:Int):=by
 rw[qKd,List.getElem?_append_right (by rw[vC];exact Nat.le_refl _),vC,Nat.sub_self]
 show(if isD x=true then ((0+A.length:Nat):Int)::posD (0+A.length+1) R else _)[0]? = _
 rw[if_pos h,Nat.zero_add];rfl
section
variable {szs:List Int}
theorem qXf (ps:List Int)(j:Nat):(lookSt ps j).countP isD=0:=by
 rw[List.countP_eq_zero]
 intro x hx
 obtain⟨k,_,rfl⟩:=List.mem_map.mp hx
 rw[qSf]
 exact Bool.false_ne_true
theorem qVx (a:Nat)(ps:List Int):(tickSt a ps).countP isD=1:=by
 unfold tickSt
 rw[List.countP_append,qXf,List.countP_cons,qRj]
 rfl
theorem qEq:∀(f:Nat) (ps:List Int),(ticksM szs f ps).countP isD=f:=by
 intro f
 induction f with
 | zero=>intro ps;exact qXf ps _
 | succ f ih=>intro ps;show(tickSt _ _++ticksM szs f _).countP isD=_;rw[List.countP_append,qVx,ih];omega
theorem qHk:∀(j:Nat) (ps:List Int),(openM szs j ps).countP isD=j:=by
 intro j
 induction j with
 | zero=>intro ps;exact qXf ps _
 | succ j ih=>intro ps;show(tickSt _ _++openM szs j _).countP isD=_;rw[List.countP_append,qVx,ih];omega
theorem qVa:∀(j f:Nat) (ps:List Int),j<f→∃x R,isD x=true∧ticksM szs f ps=openM szs j ps++x::R:=by
 intro j
 induction j with
 | zero=>
  intro f ps h
  cases f with
  | zero=>cases h
  | succ f=>exact⟨(dN (atOf szs ps),0),ticksM szs f (nextR szs ps),qRj _ _,by show tickSt _ _++_=lookSt _ _++_;unfold tickSt;rw[List.append_assoc];rfl⟩
 | succ j ih=>
  intro f ps h
  cases f with
  | zero=>cases h
  | succ f=>
   obtain⟨x,R,h1,h2⟩:=ih f (nextR szs ps) (by omega)
   exact⟨x,R,h1,by show tickSt _ _++ticksM szs f _=tickSt _ _++openM szs j _++_;rw[h2,List.append_assoc]⟩
theorem vF (ps:List Int)(j:Nat):(lookSt ps j).length=j:=by unfold lookSt;rw[List.length_map,List.length_range]
theorem qCz {ps:List Int}(h3:szs.length≤3):∀(f:Nat) (ps:List Int),InR szs ps→remR szs ps=f→(ticksM szs f ps).length≤4 * f+3:=by
 intro f
 induction f with
 | zero=>intro ps h e;show(lookSt _ _).length≤_;rw[vF];omega
 | succ f ih=>
  intro ps h e
  have ha:=h.lt_of (j:=f) (by omega)
  have nr:=h.next_rem ha
  have:=ih _ (h.next_in ha) (by omega)
  show(tickSt _ _++ticksM szs f _).length≤_
  unfold tickSt
  rw[List.length_append,List.length_append,vF]
  show atOf szs ps+1+1+_≤_
  omega
end
noncomputable def rounds:List Nd:=[.see (Str.ofString "see") [(0,1)],.see (Str.ofString "see") [(0,2)],.see (Str.ofString "see") [(0,1)]]
section
variable {szs:List Int}{wr:Int}
theorem qAd (hs:Sz szs):PlanOk (W24 szs wr) rounds:=by
 have mem:∀x∈rounds,∃t:Int,(t=1∨t=2)∧x=.see (Str.ofString "see") [(0,t)]:=fun x hx=>by
  simp only[rounds,List.mem_cons,List.not_mem_nil,or_false] at hx
  rcases hx with rfl | rfl | rfl
  ·exact⟨1,.inl rfl,rfl⟩
  ·exact⟨2,.inr rfl,rfl⟩
  ·exact⟨1,.inl rfl,rfl⟩
 refine⟨by decide,by decide,fun x hx=>?_,fun x hx=>?_,fun x hx=>?_,fun x hx=>?_⟩
 ·obtain⟨t,_,rfl⟩:=mem x hx;exact(by decide:1≤1000)
 ·obtain⟨t,ht,rfl⟩:=mem x hx
  intro u hu
  rw[List.mem_singleton.mp hu]
  show 0≤t∧t<3
  omega
 ·obtain⟨t,_,rfl⟩:=mem x hx
  show([(0:Int)]).Nodup
  decide
 ·obtain⟨t,_,rfl⟩:=mem x hx
  exact⟨lookK 0,List.mem_map_of_mem (List.mem_range.mpr hs.l1),rfl⟩
theorem qXx (hs:Sz szs){chs ps:List Int}(h:InR szs ps)(h0:ps.getD 0 0=0){k d:Nat}{st:List (Str×Int)}{kv:List (Key×V)}{t:Int}(en:rounds[k]? = some (.see (Str.ofString "see") [(0,t)]))(ev:valV kv (Sum.inl (k:Int))=none):
  goS (W24 szs wr) rounds chs ⟨k,ps,d,st,kv⟩=(none,⟨t.toNat,ps,d,st++[(Str.ofString "see",0)],putK kv (Sum.inl (k:Int)) (.bl true)⟩):=by
 have fl:(W24 szs wr).ls.find? (fun d=>decide (d.name=Str.ofString "see"))=some (lookK 0):=jI (f:=Look.name) (a:=lookK 0) (List.nodup_append.mp (names24 (wr:=wr) hs.l3)).2.1 (List.mem_map_of_mem (List.mem_range.mpr hs.l1))
 have w1:(lookK 0).part.worth (envOf (kvsOf (W24 szs wr).bs ps))=0:=(env24 h.len hs.l1).trans h0
 have f1:forkTo [((0:Int),t)] 0=some t:=rfl
 simp only[goS,en,fl,lookS,ev,w1,f1]
 rfl
theorem qAb (hs:Sz szs){chs ps:List Int}(h:InR szs ps)(h0:ps.getD 0 0=0):∃s',runS (W24 szs wr) rounds chs 4 (st0 ps)=some (Str.ofString "round",s')∧s'.steps=[(Str.ofString "see",0),(Str.ofString "see",0),(Str.ofString "see",0)]∧s'.vals=ps:=by
 refine⟨⟨1,ps,0,[(Str.ofString "see",0),(Str.ofString "see",0),(Str.ofString "see",0)],[(Sum.inl 0,.bl true),(Sum.inl 1,.bl true),(Sum.inl 2,.bl true)]⟩,?_,rfl,rfl⟩
 have fl:(W24 szs wr).ls.find? (fun d=>decide (d.name=Str.ofString "see"))=some (lookK 0):=jI (f:=Look.name) (a:=lookK 0) (List.nodup_append.mp (names24 (wr:=wr) hs.l3)).2.1 (List.mem_map_of_mem (List.mem_range.mpr hs.l1))
 unfold st0
 rw[yU 3 (qXx hs h h0 (k:=0) (t:=1) rfl rfl)]
 show runS _ _ _ 3 ⟨1,ps,0,[(Str.ofString "see",0)],[(Sum.inl 0,.bl true)]⟩=_
 rw[yU 2 (qXx hs h h0 (k:=1) (t:=2) rfl (by decide))]
 show runS _ _ _ 2 ⟨2,ps,0,[(Str.ofString "see",0),(Str.ofString "see",0)],[(Sum.inl 0,.bl true),(Sum.inl 1,.bl true)]⟩=_
 rw[yU 1 (qXx hs h h0 (k:=2) (t:=1) rfl (by decide))]
 show runS _ _ _ 1 ⟨1,ps,0,[(Str.ofString "see",0),(Str.ofString "see",0),(Str.ofString "see",0)],[(Sum.inl 0,.bl true),(Sum.inl 1,.bl true),(Sum.inl 2,.bl true)]⟩=_
 refine qXq 0 ?_
 have en:rounds[1]? = some (.see (Str.ofString "see") [(0,2)]):=rfl
 have ev:valV ([(Sum.inl 0,.bl true),(Sum.inl 1,.bl true),(Sum.inl 2,.bl true)]:List (Key×V)) (Sum.inl ((1:Nat):Int))=some (.bl true):=by decide
 simp only[goS,en,fl,lookS,ev]
end

theorem zQ:xM ["sizes","steps","price","places","at"] ["sizes"] (xW (top 33)):=⟨rfl,rfl,rfl,by decide +kernel,rfl,by decide +kernel,by decide +kernel⟩
theorem kE:CompOk (xW (top 33)) ["sizes","steps","price","places","at"] (scAt (xA (top 33)) [2] []) ["size"] 1 []:=
 ⟨by decide +kernel,by decide +kernel,by decide +kernel,by decide +kernel,by decide +kernel,by decide +kernel,by decide +kernel,by decide +kernel⟩
theorem kC:CompOk (xW (top 33)) ["sizes","steps","price","places","at"] (scAt (xA (top 33)) [3,6] [0,0]) ["k"] 1 []:=
 ⟨by decide +kernel,by decide +kernel,by decide +kernel,by decide +kernel,by decide +kernel,by decide +kernel,by decide +kernel,by decide +kernel⟩
noncomputable abbrev xG (szs:List Int):List Int:=szs.map fun _=>0
noncomputable def allT (szs:List Int):List (Str×Int):=ticksM szs (remR szs (xG szs)) (xG szs)
theorem kN {H:Hp}{sl t:Addr}{su:List V}{st:List (Str×Int)}{x:Str×Int}(es:H sl=some (.lst su))(ps:Paired (StepIn H) st su)(et:H t=some (.tup [.str x.1,.int x.2])):
  Saves sl H (upd H sl (.lst (su++[.ref t])))∧upd H sl (.lst (su++[.ref t])) sl=some (.lst (su++[.ref t]))∧Paired (StepIn (upd H sl (.lst (su++[.ref t])))) (st++[x]) (su++[.ref t]):=by
 have k:∀y v,StepIn H y v→StepIn (upd H sl (.lst (su++[.ref t]))) y v:=fun y v ⟨a,e,h⟩=>⟨a,e,yY _ _ (xU h es (fun z=>nomatch z)) h⟩
 exact⟨yY,qV,Paired.snoc (Paired.mapP ps k) (k _ _ ⟨t,rfl,et⟩)⟩
theorem xR {H H':Hp}{su:List V}{st:List (Str×Int)}(ps:Paired (StepIn H) st su)(S:Same H H'):Paired (StepIn H') st su:=Paired.mapP ps fun _ _ ⟨a,e,h⟩=>⟨a,e,S _ _ h⟩
theorem qEw {a:Nat}(h:a<3):atI [V.str "see",V.str "seen",V.str "ask"] (a:Int)=some (.str (lN a)):=by rcases k3 h with rfl | rfl | rfl <;> rfl
theorem qEb {a:Nat}(h:a<3):atI [V.str "put",V.str "go",V.str "gone"] (a:Int)=some (.str (dN a)):=by rcases k3 h with rfl | rfl | rfl <;> rfl
theorem qVj {ps:List Int}{a:Nat}(h:a<ps.length):atI (intsV ps) (a:Int)=some (.int (ps.getD a 0)):=qEa (yV h)
theorem qRd {xs:List V}{j:Nat}(h:j≤xs.length):cutV xs none (some (j:Int))=xs.take j:=by
 unfold cutV
 rw[HT.sIx_none,HT.sIx_nat,List.drop_zero,Nat.sub_zero,Nat.min_eq_left h]
theorem qHz {xs:List V}{j:Nat}(h:j≤xs.length):cutV xs (some (j:Int)) none=xs.drop j:=by
 unfold cutV
 rw[HT.sIx_none,HT.sIx_nat,Nat.min_eq_left h,List.take_of_length_le (by rw[List.length_drop];exact Nat.le_refl _)]
noncomputable def qWl:Sp:=fun vs H Q _=>∃(sa:Addr) (szs:List Int),vs=[.ref sa]∧H sa=some (.lst (intsV szs))∧Sz szs∧
 ∀(r sl:Addr) (su:List V) (pr:Int) (H':Hp),Same H H'→H' r=some (.tup [.ref sl,.int pr])→H' sl=some (.lst su)→Paired (StepIn H') (allT szs) su→Q (.ref r) H'
theorem qGd (F:Fd K mg "_law_ticks" (top 33) ["sizes"])(B:Bl mg):Dn P w K mg base "_law_ticks" 1 ["sizes"] qWl:=by
 refine F.ok zQ (fun vs H Q E h=>?_) (fun f cdv A outer s H vs Q E hr h=>?_)
 ·obtain⟨_,_,rfl,_⟩:=h
  rfl
 obtain⟨sa,szs,rfl,esa,hs,q⟩:=h
 have l3:=hs.l3
 have l1:=hs.l1
 have il:(intsV szs).length=szs.length:=xP szs
 refine⟨_,(qZ (qI (i:=1) zQ.nd rfl (by wtm_at "zo") (zK qX))
  (qZ (qI (i:=2) zQ.nd rfl (by wtm_at "zo") qD)
  (qZ (yI (i:=3) zQ.nd rfl (by wtm_at "zo") rfl kE (qT (K:=K) (pv 0)) (fun cl fp s H=>(qF (i:=0) kE.nd rfl (Or.inl rfl) (.inr rfl))) (fun cl fp s H=>zE) (fun cl fp s H=>qD))
  (qJ (qXz PassesOwn.never (qKc qBa) (qZ (qI (i:=4) zQ.nd rfl (by wtm_at "zo") qD)
  (qZ (qXz PassesOwn.never (PW.pt (qHd (qP qBd (pv 4) (xX (zX (K:=K)) rfl B.len' jC (qQ (pv 0) qX)) (xC _)) (qAg (qP jE (xE (qS (K:=K)) (pv 3) (pv 4) (fun _ _=>rfl)) (qU kY (xE (qS (K:=K)) (pv 0) (pv 4) (fun _ _=>rfl)) qD) (xC _))))) (qZ (qO (yP (K:=K) PySem.F.plainAttrs_list PySem.F.slot_list_append PySem.F.type_list_append zV (pv 1) (qQ (xI (qQ (xE (qS (K:=K)) (zK (qQ qE (qQ qE (qQ qE qX)))) (pv 4) (fun _ _=>rfl)) (qQ (xE (qS (K:=K)) (pv 3) (pv 4) (fun _ _=>rfl)) qX))) qX)))
  (qZ (qI (i:=2) zQ.nd rfl (by wtm_at "zo") (qU zI (pv 2) qD))
  (qJ (qI (i:=4) zQ.nd rfl (by wtm_at "zo") (qU zI (pv 4) qD))))))
  (qZ (zG (qP jE (pv 4) (xX (zX (K:=K)) rfl B.len' jC (qQ (pv 0) qX)) (xC _)) (qJ (qM (xI (qQ (pv 1) (qQ (pv 2) qX))))) qY)
  (qZ (qO (yP (K:=K) PySem.F.plainAttrs_list PySem.F.slot_list_append PySem.F.type_list_append zV (pv 1) (qQ (xI (qQ (xE (qS (K:=K)) (zK (qQ qE (qQ qE (qQ qE qX)))) (pv 4) (fun _ _=>rfl)) (qQ (xE (qS (K:=K)) (pv 3) (pv 4) (fun _ _=>rfl)) qX))) qX)))
  (qZ (qO (yP (K:=K) PySem.F.plainAttrs_list PySem.F.slot_list_append PySem.F.type_list_append zV (pv 1) (qQ (xI (qQ (xE (qS (K:=K)) (zK (qQ qE (qQ qE (qQ qE qX)))) (pv 4) (fun _ _=>rfl)) (qQ qD qX))) qX)))
  (qZ (qI (i:=2) zQ.nd rfl (by wtm_at "zo") (qU zI (qU zI (pv 2) qD) (pv 4)))
  (qJ (qI (i:=3) zQ.nd rfl (by wtm_at "zo") (qU qKl (qU qKl (jV rfl kC (jQ rfl B.range' (qQ (pv 4) qX)) (fun cl fp s H=>(qF (i:=0) kC.nd rfl (Or.inl rfl) (.inr rfl))) (fun cl fp s H=>zE) (fun cl fp s H=>qD)) (zK (qQ (qU zI (xE (qS (K:=K)) (pv 3) (pv 4) (fun _ _=>rfl)) qD) qX))) (qKe (qKz (K:=K)) (pv 3) (qAo (qU zI (pv 4) qD)) qBq))))))))))))))),?_⟩
 wtm_at "zw"
 refine⟨xD (show 0≤1000000 by decide),fun sl hsl=>?_⟩
 have Ssl:=qK hsl (.lst [])
 have esl:upd H sl (.lst []) sl=some (.lst []):=qV
 generalize upd H sl (.lst [])=H1 at Ssl esl
 wtm_at "zf"
 refine⟨sa,rfl,⟨_,SqL.of (Ssl _ _ esa)⟩,?_⟩
 refine jB (xs:=intsV szs) (fun D i ys H'=>ys=intsV (xG (szs.take i))∧Same H1 H') (fun D hD=>⟨rfl,qK hD _⟩) (fun D i ys H' _ hP=>SqL.of (hP.2 _ _ (Ssl _ _ esa))) (fun D i u ys H' N hD hDy ex hP hN=>?_) (fun D ys H2 hD hDy hP=>?_)
 ·obtain⟨rfl,hk⟩:=hP
  have hi:i<szs.length:=by rw[← il];exact(List.getElem?_eq_some_iff.mp ex).1
  refine⟨⟨[some u],rfl,rfl⟩,?_⟩
  refine⟨hDy,by rw[xP,List.length_map,List.length_take];exact small (by omega),hN _ _ qV ⟨?_,fun b o e=>?_⟩⟩
  ·rw[List.take_add_one,List.getElem?_eq_getElem hi]
   unfold xG intsV
   rw[List.map_append,List.map_append];rfl
  ·rw[qW (qA e hD)];exact hk _ _ e
 obtain⟨rfl,S12⟩:=hP
 rw[il,List.take_length] at hDy
 have z0:=InR.zeros (ss:=szs) fun s hs'=>(hs.b s hs').1
 wtm_at "zw"
 have SD:Same H H2:=Ssl.trans S12
 have nDs:D≠sl:=(qA esl hD).symm
 refine⟨fun j σ H'=>∃(ps:List Int) (pa:Addr) (su:List V) (st:List (Str×Int)) (z4:Option V) (pr:Int),σ=[some (.ref sa),some (.ref sl),some (.int pr),some (.ref pa),z4]∧Saves sl H2 H'∧pa≠sl∧H' pa=some (.lst (intsV ps))∧InR szs ps∧remR szs ps=j∧H' sl=some (.lst su)∧Paired (StepIn H') st su∧st++ticksM szs j ps=allT szs∧st.length+4 * j≤500,
  ⟨remR szs (xG szs),xG szs,D,[],[],none,0,rfl,(fun b o _ e=>e),nDs,hDy,z0,rfl,S12 _ _ esl,.nil,rfl,?_⟩,fun j σ H' hW=>?_⟩
 ·have:remR szs (xG szs)<5 ^ szs.length:=z0.rem_lt fun s hs'=>(hs.b s hs').2
  have p3:5 ^ szs.length≤5 ^ 3:=Nat.pow_le_pow_right (by decide) l3
  show 0+4 * _≤500
  have:(5:Nat) ^ 3=125:=by decide
  omega
 obtain⟨ps,pa,su,st,z4,pr,rfl,sv,npa,epa,hin,rfl,esl',pst,est,lst⟩:=hW
 have esa2:H2 sa=some (.lst (intsV szs)):=SD _ _ esa
 have nsa:sa≠sl:=qA esa hsl
 have esa':=sv _ _ nsa esa2
 have lp:=hin.len
 have al:=hin.at_le
 wtm_at "zw"
 refine⟨_,fun σ' H3 h=>h,?_⟩
 wtm_at "zw"
 refine⟨fun m σ H''=>∃(a:Nat) (su':List V) (pr':Int),σ=[some (.ref sa),some (.ref sl),some (.int pr'),some (.ref pa),some (.int (a:Int))]∧a≤atOf szs ps∧m=atOf szs ps - a∧Saves sl H' H''∧H'' sl=some (.lst su')∧Paired (StepIn H'') (st++lookSt ps a) su',⟨atOf szs ps,0,su,pr,rfl,Nat.zero_le _,rfl,(fun b o _ e=>e),esl',by rw[show lookSt ps 0=[] from rfl,List.append_nil];exact pst⟩,fun m σ H'' hW2=>?_⟩
 obtain⟨a,su',pr',rfl,ha,rfl,sv2,esl2,pst2⟩:=hW2
 have esa3:=sv2 _ _ nsa esa'
 have epa3:=sv2 _ _ npa epa
 have ls2:su'.length=st.length+a:=by rw[← pst2.length,List.length_append,vF]
 wtm_at "zw"
 rw[il]
 by_cases an:a<szs.length
 ·refine qQj (decide_eq_true (by omega)) ?_
  have ap:=qVj (ps:=ps) (a:=a) (by omega)
  have as:=qVj (ps:=szs) (a:=a) an
  have ak:=qEw (a:=a) (by omega)
  have ad:=qEb (a:=a) (by omega)
  wtm_at "zw"
  by_cases af:a<atOf szs ps
  ·refine qQj (decide_eq_true (by rw[hin.at_lt af])) ?_
   refine⟨_,fun σ' H3 h=>⟨atOf szs ps - (a+1),by omega,h⟩,?_⟩
   wtm_at "zw"
   refine wR (SqL.of esl2) ?_
   wtm_at "zw"
   refine⟨xD (show 3≤1000000 by decide),fun tl htl=>?_⟩
   have Stl:=qK htl (.lst [V.str "see",V.str "seen",V.str "ask"])
   have etl:upd H'' tl (.lst [V.str "see",V.str "seen",V.str "ask"]) tl=some (.lst [V.str "see",V.str "seen",V.str "ask"]):=qV
   generalize upd H'' tl (.lst [V.str "see",V.str "seen",V.str "ask"])=H3 at Stl etl
   have epa4:=Stl _ _ epa3
   wtm_at "zw"
   refine⟨xD (show 2≤1000000 by decide),fun tt htt=>?_⟩
   have Stt:=qK htt (.tup [V.str (lN a),V.int (ps.getD a 0)])
   have ett:upd H3 tt (.tup [V.str (lN a),V.int (ps.getD a 0)]) tt=some (.tup [V.str (lN a),V.int (ps.getD a 0)]):=qV
   generalize upd H3 tt (.tup [V.str (lN a),V.int (ps.getD a 0)])=H4 at Stt ett
   wtm_at "zw"
   refine zT (Stt _ _ (Stl _ _ esl2)) (small (by omega)) ?_
   obtain⟨sv5,es5,ps5⟩:=kN (x:=(lN a,ps.getD a 0)) (Stt _ _ (Stl _ _ esl2)) (xR pst2 (Stl.trans Stt)) ett
   generalize upd H4 sl (.lst (su'++[.ref tt]))=H5 at sv5 es5 ps5
   wtm_at "zw"
   exact⟨a+1,_,_,rfl,af,rfl,sv2.trans ((jX (Stl.trans Stt)).trans sv5),es5,by rw[jU,← List.append_assoc];exact ps5⟩
  ·have ae:a=atOf szs ps:=by omega
   subst ae
   refine yS (decide_eq_false fun z=>hin.at_ne an (V.int.inj z)) ?_
   wtm_at "zw"
   rw[il]
   refine yS (decide_eq_false fun z=>by have:=V.int.inj z;omega) ?_
   wtm_at "zw"
   refine wR (SqL.of esl2) ?_
   wtm_at "zw"
   refine⟨xD (show 3≤1000000 by decide),fun tl htl=>?_⟩
   have Stl:=qK htl (.lst [V.str "see",V.str "seen",V.str "ask"])
   have etl:upd H'' tl (.lst [V.str "see",V.str "seen",V.str "ask"]) tl=some (.lst [V.str "see",V.str "seen",V.str "ask"]):=qV
   generalize upd H'' tl (.lst [V.str "see",V.str "seen",V.str "ask"])=H3 at Stl etl
   have epa4:=Stl _ _ epa3
   wtm_at "zw"
   refine⟨xD (show 2≤1000000 by decide),fun tt htt=>?_⟩
   have Stt:=qK htt (.tup [V.str (lN (atOf szs ps)),V.int (ps.getD (atOf szs ps) 0)])
   have ett:upd H3 tt (.tup [V.str (lN (atOf szs ps)),V.int (ps.getD (atOf szs ps) 0)]) tt=some (.tup [V.str (lN (atOf szs ps)),V.int (ps.getD (atOf szs ps) 0)]):=qV
   generalize upd H3 tt (.tup [V.str (lN (atOf szs ps)),V.int (ps.getD (atOf szs ps) 0)])=H4 at Stt ett
   wtm_at "zw"
   refine zT (Stt _ _ (Stl _ _ esl2)) (small (by omega)) ?_
   obtain⟨sv5,es5,ps5⟩:=kN (x:=(lN (atOf szs ps),ps.getD (atOf szs ps) 0)) (Stt _ _ (Stl _ _ esl2)) (xR pst2 (Stl.trans Stt)) ett
   have epa5:=sv5 _ _ npa (Stt _ _ epa4)
   generalize upd H4 sl (.lst (su'++[.ref tt]))=H5 at sv5 es5 ps5 epa5
   wtm_at "zw"
   refine wR (SqL.of es5) ?_
   wtm_at "zw"
   refine⟨xD (show 3≤1000000 by decide),fun dl hdl=>?_⟩
   have Sdl:=qK hdl (.lst [V.str "put",V.str "go",V.str "gone"])
   have edl:upd H5 dl (.lst [V.str "put",V.str "go",V.str "gone"]) dl=some (.lst [V.str "put",V.str "go",V.str "gone"]):=qV
   generalize upd H5 dl (.lst [V.str "put",V.str "go",V.str "gone"])=H6 at Sdl edl
   wtm_at "zw"
   refine⟨xD (show 2≤1000000 by decide),fun dt hdt=>?_⟩
   have Sdt:=qK hdt (.tup [V.str (dN (atOf szs ps)),V.int 0])
   have edt:upd H6 dt (.tup [V.str (dN (atOf szs ps)),V.int 0]) dt=some (.tup [V.str (dN (atOf szs ps)),V.int 0]):=qV
   generalize upd H6 dt (.tup [V.str (dN (atOf szs ps)),V.int 0])=H7 at Sdt edt
   wtm_at "zw"
   refine zT (Sdt _ _ (Sdl _ _ es5)) (small (by rw[List.length_append];show _+1≤_;omega)) ?_
   obtain⟨sv8,es8,ps8⟩:=kN (x:=(dN (atOf szs ps),0)) (Sdt _ _ (Sdl _ _ es5)) (xR ps5 (Sdl.trans Sdt)) edt
   have epa8:=sv8 _ _ npa (Sdt _ _ (Sdl _ _ epa5))
   generalize upd H7 sl (.lst (su'++[.ref tt]++[.ref dt]))=H8 at sv8 es8 ps8 epa8
   have sv08:Saves sl H'' H8:=(jX (Stl.trans Stt)).trans (sv5.trans ((jX (Sdl.trans Sdt)).trans sv8))
   wtm_at "zf"
   refine⟨((atOf szs ps:Nat):Int),rfl,by omega,by omega,?_⟩
   refine zP (fun D i ys H'=>ys=intsV (List.replicate i 0)∧Same H8 H') (fun D hD=>⟨rfl,qK hD _⟩) (fun D i ys H' N hD hDy hi hP hN=>?_) (fun D2 ys H9 hD2 hDy2 hP=>?_)
   ·obtain⟨rfl,hk⟩:=hP
    refine⟨⟨[some (.int (0+(i:Int)))],rfl,rfl⟩,?_⟩
    refine⟨hDy,by rw[xP,List.length_replicate];exact small (by omega),hN _ _ qV ⟨?_,fun b o e=>?_⟩⟩
    ·rw[List.replicate_succ']
     unfold intsV
     rw[List.map_append];rfl
    ·rw[qW (qA e hD)];exact hk _ _ e
   obtain⟨rfl,S89⟩:=hP
   rw[Int.toNat_natCast] at hDy2
   have epa9:=S89 _ _ epa8
   wtm_at "zw"
   refine⟨xD (show 1≤1000000 by decide),fun pl hpl=>?_⟩
   have Spl:=qK hpl (.lst [V.int (ps.getD (atOf szs ps) 0+1)])
   have epl:upd H9 pl (.lst [V.int (ps.getD (atOf szs ps) 0+1)]) pl=some (.lst [V.int (ps.getD (atOf szs ps) 0+1)]):=qV
   generalize upd H9 pl (.lst [V.int (ps.getD (atOf szs ps) 0+1)])=HA at Spl epl
   refine⟨D2,pl,_,_,rfl,rfl,Spl _ _ hDy2,epl,xD (by rw[xP,List.length_replicate];show _+1≤_;omega),fun c1 hc1=>?_⟩
   have Sc1:=qK hc1 (.lst (intsV (List.replicate (atOf szs ps) 0)++[V.int (ps.getD (atOf szs ps) 0+1)]))
   have ec1:upd HA c1 (.lst (intsV (List.replicate (atOf szs ps) 0)++[V.int (ps.getD (atOf szs ps) 0+1)])) c1=some (.lst (intsV (List.replicate (atOf szs ps) 0)++[V.int (ps.getD (atOf szs ps) 0+1)])):=qV
   generalize upd HA c1 (.lst (intsV (List.replicate (atOf szs ps) 0)++[V.int (ps.getD (atOf szs ps) 0+1)]))=HB at Sc1 ec1
   have epaB:=Sc1 _ _ (Spl _ _ epa9)
   wtm_at "zw"
   refine⟨pa,_,rfl,SqL.of epaB,fun c2 hc2=>?_⟩
   have cf:cutV (intsV ps) (some ((atOf szs ps:Int)+1)) none=intsV (ps.drop (atOf szs ps+1)):=by
    have:=qHz (xs:=intsV ps) (j:=atOf szs ps+1) (by rw[xP];omega)
    unfold intsV at this ⊢
    rw[List.map_drop]
    exact this
   rw[cf]
   have Sc2:=qK hc2 (.lst (intsV (ps.drop (atOf szs ps+1))))
   have ec2:upd HB c2 (.lst (intsV (ps.drop (atOf szs ps+1)))) c2=some (.lst (intsV (ps.drop (atOf szs ps+1)))):=qV
   generalize upd HB c2 (.lst (intsV (ps.drop (atOf szs ps+1))))=HC at Sc2 ec2
   refine⟨c1,c2,_,_,rfl,rfl,Sc2 _ _ ec1,ec2,xD (by rw[List.length_append,xP,xP,List.length_replicate,List.length_drop];show _+1+_≤_;omega),fun c3 hc3=>?_⟩
   have en:intsV (List.replicate (atOf szs ps) 0)++[V.int (ps.getD (atOf szs ps) 0+1)]++intsV (ps.drop (atOf szs ps+1))=intsV (nextR szs ps):=by
    rw[hin.next_eq an]
    unfold intsV
    rw[List.map_append,List.append_assoc];rfl
   rw[en]
   have Sc3:=qK hc3 (.lst (intsV (nextR szs ps)))
   have ec3:upd HC c3 (.lst (intsV (nextR szs ps))) c3=some (.lst (intsV (nextR szs ps))):=qV
   generalize upd HC c3 (.lst (intsV (nextR szs ps)))=HD at Sc3 ec3
   have S8D:Same H8 HD:=S89.trans (Spl.trans (Sc1.trans (Sc2.trans Sc3)))
   wtm_at "zw"
   have nr:=hin.next_rem an
   refine⟨remR szs (nextR szs ps),by omega,nextR szs ps,c3,_,st++tickSt (atOf szs ps) ps,_,_,rfl,sv.trans (sv2.trans (sv08.trans (jX S8D))),?_,ec3,hin.next_in an,rfl,S8D _ _ es8,?_,?_,?_⟩
   ·exact(qA (Sc2 _ _ (Sc1 _ _ (Spl _ _ (S89 _ _ es8)))) hc3).symm
   ·have:=xR ps8 S8D
    unfold tickSt
    rw[jU]
    rw[List.append_assoc,List.append_assoc] at this
    rw[← List.append_assoc,← List.append_assoc] at this ⊢
    exact this
   ·rw[List.append_assoc,← est,← nr];rfl
   ·unfold tickSt
    rw[List.length_append,List.length_append,vF]
    show st.length+(atOf szs ps+1+1)+4 * _≤500
    omega
 ·have ae:a=atOf szs ps:=by omega
  have an':atOf szs ps=szs.length:=by omega
  refine yS (decide_eq_false (by omega)) ?_
  wtm_at "zw"
  rw[il]
  refine qQj (decide_eq_true (by rw[ae,an'])) ?_
  wtm_at "zw"
  refine⟨xD (show 2≤1000000 by decide),fun r hr'=>?_⟩
  have S5:=qK hr' (.tup [V.ref sl,V.int pr'])
  have r0:=hin.full_rem an'
  refine q r sl su' pr' _ ?_ qV (S5 _ _ esl2) (xR ?_ S5)
  ·exact fun b o e=>S5 _ _ (sv2 _ _ (qA e hsl) (sv _ _ (qA e hsl) (SD _ _ e)))
  ·rw[← est,r0]
   rw[ae,an'] at pst2
   exact pst2

noncomputable def hidL (xs:List Addr)(H:Hp):Hp:=fun b=>if b∈xs then none else H b
section
variable {xs:List Addr}{H H':Hp}
theorem qZn {b:Addr}{o:HO}(n:b∉xs)(e:H b=some o):hidL xs H b=some o:=by unfold hidL;rw[if_neg n];exact e
theorem kA:Same (hidL xs H) H:=fun b o e=>by
 by_cases h:b∈xs
 ·unfold hidL at e;rw[if_pos h] at e;cases e
 ·unfold hidL at e;rw[if_neg h] at e;exact e
theorem yX (S:Same H H'):Same (hidL xs H) (hidL xs H'):=fun b o e=>by
 by_cases h:b∈xs
 ·unfold hidL at e;rw[if_pos h] at e;cases e
 ·unfold hidL at e;rw[if_neg h] at e;exact qZn h (S _ _ e)
theorem qXe {a:Addr}{o:HO}(m:a∈xs):hidL xs (upd H a o)=hidL xs H:=by
 funext b
 unfold hidL
 by_cases h:b∈xs
 ·rw[if_pos h,if_pos h]
 ·rw[if_neg h,if_neg h,qW (fun z=>h (by rw[z];exact m))]
end
structure Three (H:Hp)(d l n:Addr)(du lu nu:List V):Prop where
 d:H d=some (.lst du)
 l:H l=some (.lst lu)
 n:H n=some (.lst nu)
section
variable {H H':Hp}{d l n:Addr}{du lu nu:List V}
theorem Three.same (h:Three H d l n du lu nu)(S:Same H H'):Three H' d l n du lu nu:=⟨S _ _ h.d,S _ _ h.l,S _ _ h.n⟩
theorem Three.tups (h:Three H d l n du lu nu):Tups H (hidL [d,l,n] H):=fun b xs e=>qZn (fun z=>by
 simp only[List.mem_cons,List.not_mem_nil,or_false] at z
 rcases z with rfl | rfl | rfl
 ·rw[h.d] at e;cases e
 ·rw[h.l] at e;cases e
 ·rw[h.n] at e;cases e) e
theorem Three.new (h:Three H d l n du lu nu){b:Addr}(e:H b=none):b∉[d,l,n]:=fun z=>by
 simp only[List.mem_cons,List.not_mem_nil,or_false] at z
 rcases z with rfl | rfl | rfl
 ·rw[h.d] at e;cases e
 ·rw[h.l] at e;cases e
 ·rw[h.n] at e;cases e
theorem Three.putD (h:Three H d l n du lu nu)(n1:d≠l)(n2:d≠n)(du':List V):Three (upd H d (.lst du')) d l n du' lu nu:=⟨qV,by rw[qW n1.symm];exact h.l,by rw[qW n2.symm];exact h.n⟩
theorem Three.putL (h:Three H d l n du lu nu)(n1:d≠l)(n2:l≠n)(lu':List V):Three (upd H l (.lst lu')) d l n du lu' nu:=⟨by rw[qW n1];exact h.d,qV,by rw[qW n2.symm];exact h.n⟩
theorem Three.putN (h:Three H d l n du lu nu)(n1:d≠n)(n2:l≠n)(nu':List V):Three (upd H n (.lst nu')) d l n du lu nu':=⟨by rw[qW n1];exact h.d,by rw[qW n2];exact h.l,qV⟩
end
theorem zU.tups {H H':Hp}(h:Tups H H'){c:Str×Th}{u:V}(x:zU H c u):zU H' c u:=let ⟨a,v,e,q,r⟩:=x;⟨a,v,e,h _ _ q,r.mono h⟩
theorem qIv {a:Nat}(h:a<3):atI (Str.ofString "abc").cps.toList (a:Int)=some (97+a):=by rcases k3 h with rfl | rfl | rfl <;> decide +kernel
theorem qAz {us:List V}{u:V}{i:Nat}(h:us.length=i):atI (us++[u]) (i:Int)=some u:=zS (by rw[List.getElem?_append_right (by omega),h,Nat.sub_self];rfl)
theorem qEl {H H1:Hp}{r:Addr}{o:HO}(S:Same H H1)(n:H r=none):Same H (upd H1 r o):=fun b u e=>by rw[qW (qA e n)];exact S _ _ e
theorem keep3 {xs:List Addr}{H:Hp}{a b:Addr}{o x:HO}(m:a∈xs)(n:b∉xs)(e:H b=some o):upd H a x b=some o:=by rw[qW (fun z=>n (by rw[z];exact m))];exact e
theorem qOx {ta:TA}{σ:St}{H:Hp}{W:It→Hp→Prop}(q:ta σ H fun vs H1=>∃i j:Int,vs=[.int i,.int j]∧(-(2 ^ 62)≤i∧i<2 ^ 62∧-(2 ^ 62)≤j∧j<2 ^ 62)∧W (Itr i (j - i).toNat) H1):iRng2 ta σ H W:=q
theorem nm0:Str.ofString "a" = nmK 0:=by decide +kernel
theorem xH:xM ["sizes","wrong","boxes","deeds","looks","nodes","goal","k","way","need","forks","top","begin"] ["sizes","wrong"] (xW (top 32)):=⟨rfl,rfl,rfl,by decide +kernel,rfl,by decide +kernel,by decide +kernel⟩
theorem yF:CompOk (xW (top 32)) ["sizes","wrong","boxes","deeds","looks","nodes","goal","k","way","need","forks","top","begin"] (scAt (xA (top 32)) [0] []) ["k","sizes"] 1 [0]:=
 ⟨by decide +kernel,by decide +kernel,by decide +kernel,by decide +kernel,by decide +kernel,by decide +kernel,by decide +kernel,by decide +kernel⟩
theorem yE:CompOk (xW (top 32)) ["sizes","wrong","boxes","deeds","looks","nodes","goal","k","way","need","forks","top","begin"] (scAt (xA (top 32)) [5,0] []) ["j","boxes"] 1 [2]:=
 ⟨by decide +kernel,by decide +kernel,by decide +kernel,by decide +kernel,by decide +kernel,by decide +kernel,by decide +kernel,by decide +kernel⟩
theorem yD:CompOk (xW (top 32)) ["sizes","wrong","boxes","deeds","looks","nodes","goal","k","way","need","forks","top","begin"] (scAt (xA (top 32)) [5,5] [0]) ["fig","k"] 1 [7]:=
 ⟨by decide +kernel,by decide +kernel,by decide +kernel,by decide +kernel,by decide +kernel,by decide +kernel,by decide +kernel,by decide +kernel⟩
noncomputable def qZj:Sp:=fun vs H Q _=>∃(sa:Addr) (szs:List Int) (wr:Int),vs=[.ref sa,.int wr]∧H sa=some (.lst (intsV szs))∧Sz szs∧(wr=0∨wr=1)∧
 ∀(r wa bx dx lx nl:Addr) (bv gv:V) (nu:List V) (H':Hp),Same H H'→H' r=some (.tup [.ref wa,.ref nl])→H' wa=some (.tup [.ref bx,.ref dx,.ref lx,bv,gv])→WAt H' (W24 szs wr) bx dx lx bv gv→H' nl=some (.lst nu)→Paired (NdAt H') (plan24 szs) nu→Q (.ref r) H'
structure Cnt (H1:Hp)(szs:List Int)(wr:Int)(d l n:Addr)(k:Nat)(H:Hp)(du lu nu:List V)(gv:V):Prop where
 th:Three H d l n du lu nu
 sm:Same (hidL [d,l,n] H1) (hidL [d,l,n] H)
 pd:Paired (DeedIn (hidL [d,l,n] H)) ((List.range k).map (deedK szs)) du
 pl:Paired (LookIn (hidL [d,l,n] H)) ((List.range k).map lookK) lu
 pn:Paired (NdAt (hidL [d,l,n] H)) (nodesK szs k) nu
 go:(goalT szs wr k).At (hidL [d,l,n] H) gv
theorem qWq (F:Fd K mg "_law_counter" (top 32) ["sizes","wrong"])(B:Bl mg):Dn P w K mg base "_law_counter" 1 ["sizes","wrong"] qZj:=by
 refine F.ok xH (fun vs H Q E h=>?_) (fun f cdv A outer s H vs Q E hr h=>?_)
 ·obtain⟨_,_,_,rfl,_⟩:=h
  rfl
 obtain⟨sa,szs,wr,rfl,esa,hs,hw,q⟩:=h
 have l3:=hs.l3
 have l1:=hs.l1
 have il:(intsV szs).length=szs.length:=xP szs
 refine⟨_,(qZ (qI (i:=2) xH.nd rfl (by wtm_at "zo") (jV rfl yF (jQ rfl B.range' (qQ (xX (zX (K:=K)) rfl B.len' jC (qQ (pv 0) qX)) qX)) (fun cl fp s H=>(qF (i:=0) yF.nd rfl (Or.inl rfl) (.inr rfl))) (fun cl fp s H=>zE) (fun cl fp s H=>(xI (qQ (xE qRz qE (pv 0) (fun _ _=>rfl)) (qQ (xE (qS (K:=K)) (pv 1) (pv 0) (fun _ _=>rfl)) qX))))))
  (qZ (qI (i:=3) xH.nd rfl (by wtm_at "zo") (zK qX))
  (qZ (qI (i:=4) xH.nd rfl (by wtm_at "zo") (zK qX))
  (qZ (qI (i:=5) xH.nd rfl (by wtm_at "zo") (zK qX))
  (qZ (qI (i:=6) xH.nd rfl (by wtm_at "zo") (xI (qQ qE qX)))
  (qZ (wQ PassesOwn.never rfl (jQ rfl B.range' (qQ (xX (zX (K:=K)) rfl B.len' jC (qQ (pv 0) qX)) qX)) (qF (i:=7) xH.nd rfl (by wtm_at "zo")) (qZ (yI (i:=8) xH.nd rfl (by wtm_at "zo") rfl yE (jQ rfl B.range' (qQ (pv 7) qX)) (fun cl fp s H=>(qF (i:=0) yE.nd rfl (Or.inl rfl) (.inr rfl))) (fun cl fp s H=>zE) (fun cl fp s H=>(xI (qQ (xE (qR (K:=K)) (xE (qS (K:=K)) (pv 1) (pv 0) (fun _ _=>rfl)) qD (fun _ _=>rfl)) (qQ (xI (qQ qE (qQ qD qX))) qX)))))
  (qZ (qO (yP (K:=K) PySem.F.plainAttrs_list PySem.F.slot_list_append PySem.F.type_list_append zV (pv 8) (qQ (xI (qQ (xE (qR (K:=K)) (xE (qS (K:=K)) (pv 2) (pv 7) (fun _ _=>rfl)) qD (fun _ _=>rfl)) (qQ (xI (qQ qE (qQ (xI (qQ qE (qQ (xE (qR (K:=K)) (xE (qS (K:=K)) (pv 2) (pv 7) (fun _ _=>rfl)) qD (fun _ _=>rfl)) qX))) (qQ (xI (qQ qE (qQ qD qX))) qX)))) qX))) qX)))
  (qZ (qI (i:=9) xH.nd rfl (by wtm_at "zo") (xI (qQ qE (qQ (xI (qQ qE (qQ (xE (qR (K:=K)) (xE (qS (K:=K)) (pv 2) (pv 7) (fun _ _=>rfl)) qD (fun _ _=>rfl)) qX))) (qQ (xI (qQ qE (qQ (qU kY (xE (qS (K:=K)) (pv 0) (pv 7) (fun _ _=>rfl)) qD) qX))) qX)))))
  (qZ (qO (yP (K:=K) PySem.F.plainAttrs_list PySem.F.slot_list_append PySem.F.type_list_append zV (pv 3) (qQ (xI (qQ (xE (qS (K:=K)) (zK (qQ qE (qQ qE (qQ qE qX)))) (pv 7) (fun _ _=>rfl)) (qQ (qU zI qD (pv 7)) (qQ (pv 9) (qQ (zK (qQ (pv 8) (qQ (pv 8) qX))) qX))))) qX)))
  (qZ (qO (yP (K:=K) PySem.F.plainAttrs_list PySem.F.slot_list_append PySem.F.type_list_append zV (pv 4) (qQ (xI (qQ (xE (qS (K:=K)) (zK (qQ qE (qQ qE (qQ qE qX)))) (pv 7) (fun _ _=>rfl)) (qQ qD (qQ (xI (qQ qE (qQ (xE (qR (K:=K)) (xE (qS (K:=K)) (pv 2) (pv 7) (fun _ _=>rfl)) qD (fun _ _=>rfl)) qX))) qX)))) qX)))
  (qZ (qI (i:=10) xH.nd rfl (by wtm_at "zo") (qU qKl (jV rfl yD (jQ rfl B.range' (qQ (qU kY (xE (qS (K:=K)) (pv 0) (pv 7) (fun _ _=>rfl)) qD) qX)) (fun cl fp s H=>(qF (i:=0) yD.nd rfl (Or.inl rfl) (.inr rfl))) (fun cl fp s H=>zE) (fun cl fp s H=>(xI (qQ (pv 0) (qQ (qU zI (qU jR qD (pv 1)) qD) qX))))) (zK (qQ (xI (qQ (qU kY (xE (qS (K:=K)) (pv 0) (pv 7) (fun _ _=>rfl)) qD) (qQ (qU zI (qU jR qD (pv 7)) qD) qX))) qX))))
  (qZ (qO (yP (K:=K) PySem.F.plainAttrs_list PySem.F.slot_list_append PySem.F.type_list_append zV (pv 5) (qQ (xI (qQ qE (qQ (xE (qR (K:=K)) (xE (qS (K:=K)) (pv 4) (pv 7) (fun _ _=>rfl)) qD (fun _ _=>rfl)) (qQ (xQ (yZ (K:=K)) rfl B.tuple' vG (qQ (pv 10) qX)) qX)))) qX)))
  (qZ (qO (yP (K:=K) PySem.F.plainAttrs_list PySem.F.slot_list_append PySem.F.type_list_append zV (pv 5) (qQ (xI (qQ qE (qQ (xE (qR (K:=K)) (xE (qS (K:=K)) (pv 3) (pv 7) (fun _ _=>rfl)) qD (fun _ _=>rfl)) (qQ qD qX)))) qX)))
  (qZ (qI (i:=11) xH.nd rfl (by wtm_at "zo") (qU kY (qU kY (xE (qS (K:=K)) (pv 0) (pv 7) (fun _ _=>rfl)) qD) (qU jR (pv 1) (xQ qEz rfl B.int' qIk (qQ (kU jE (pv 7) qD (xC _)) qX)))))
  (qJ (qI (i:=6) xH.nd rfl (by wtm_at "zo") (xI (qQ qE (qQ (pv 6) (qQ (xI (qQ qE (qQ (xI (qQ qE (qQ (xE (qR (K:=K)) (xE (qS (K:=K)) (pv 2) (pv 7) (fun _ _=>rfl)) qD (fun _ _=>rfl)) qX))) (qQ (xI (qQ qE (qQ (pv 11) qX))) qX)))) qX))))))))))))))))
  (qZ (qI (i:=12) xH.nd rfl (by wtm_at "zo") (xI (qQ qE (qQ (xI (qQ qE (qQ qE qX))) (qQ (xI (qQ qE (qQ qD qX))) qX)))))
  (qZ (wQ PassesOwn.never rfl (qBj rfl B.range' (qQ qD (qQ (xX (zX (K:=K)) rfl B.len' jC (qQ (pv 0) qX)) qX))) (qF (i:=7) xH.nd rfl (by wtm_at "zo")) (qJ (qI (i:=12) xH.nd rfl (by wtm_at "zo") (xI (qQ qE (qQ (pv 12) (qQ (xI (qQ qE (qQ (xI (qQ qE (qQ (xE (qR (K:=K)) (xE (qS (K:=K)) (pv 2) (pv 7) (fun _ _=>rfl)) qD (fun _ _=>rfl)) qX))) (qQ (xI (qQ qE (qQ qD qX))) qX)))) qX)))))))
  (qJ (qM (xI (qQ (xI (qQ (pv 2) (qQ (pv 3) (qQ (pv 4) (qQ (pv 12) (qQ (pv 6) qX)))))) (qQ (qU qKl (pv 5) (zK (qQ (xI (qQ qE qX)) qX))) qX))))))))))))),?_⟩
 wtm_at "zf"
 rw[il]
 refine⟨((szs.length:Nat):Int),rfl,by omega,by omega,?_⟩
 refine zP (fun D i ys H'=>Paired (BoxIn H') ((List.range i).map (boxK szs)) ys∧Same H H') (fun D hD=>⟨.nil,qK hD _⟩) (fun D i ys H' N hD hDy hi hP hN=>?_) (fun bx bu H1 hD hDy hP=>?_)
 ·obtain⟨hp,hk⟩:=hP
  rw[Int.toNat_natCast] at hi
  have lp:=hp.length
  rw[List.length_map,List.length_range] at lp
  rw[Int.zero_add]
  have ac:=qIv (a:=i) (by omega)
  have as:=qVj (ps:=szs) (a:=i) hi
  have esa':=hk _ _ esa
  refine⟨⟨[some (.int (i:Int))],rfl,rfl⟩,?_⟩
  wtm_at "zw"
  refine qQl ?_
  wtm_at "zw"
  refine⟨_,_,_,rfl,rfl,xD (by decide +kernel),ac,?_⟩
  wtm_at "zw"
  refine⟨xD (show 2≤1000000 by decide),fun t ht=>?_⟩
  have St:=qK ht (.tup [V.str ⟨#[97+i]⟩,V.int (szs.getD i 0)])
  have et:upd H' t (.tup [V.str ⟨#[97+i]⟩,V.int (szs.getD i 0)]) t=some (.tup [V.str ⟨#[97+i]⟩,V.int (szs.getD i 0)]):=qV
  generalize upd H' t (.tup [V.str ⟨#[97+i]⟩,V.int (szs.getD i 0)])=H3 at St et
  have eD:=St _ _ hDy
  refine⟨eD,small (by omega),hN _ _ qV ⟨?_,fun b o e=>?_⟩⟩
  ·have T1:Tups H3 (upd H3 D (.lst (ys++[.ref t]))):=fun b xs e=>by rw[qW (xU e eD (by intro z;cases z))];exact e
   rw[List.range_succ,List.map_append]
   exact Paired.snoc (xJ T1 (xJ (qB St) hp)) ⟨t,rfl,T1 _ _ et⟩
  ·rw[qW (qA e hD)];exact St _ _ (hk _ _ e)
 obtain⟨pb,S01⟩:=hP
 rw[Int.toNat_natCast] at pb
 have lb:bu.length=szs.length:=by rw[← pb.length,List.length_map,List.length_range]
 wtm_at "zw"
 refine⟨xD (show 0≤1000000 by decide),fun dl hdl=>?_⟩
 have Sdl:=qK hdl (.lst [])
 have edl:upd H1 dl (.lst []) dl=some (.lst []):=qV
 generalize upd H1 dl (.lst [])=H2 at Sdl edl
 wtm_at "zw"
 refine⟨xD (show 0≤1000000 by decide),fun ll hll=>?_⟩
 have Sll:=qK hll (.lst [])
 have ell:upd H2 ll (.lst []) ll=some (.lst []):=qV
 generalize upd H2 ll (.lst [])=H3 at Sll ell
 wtm_at "zw"
 refine⟨xD (show 0≤1000000 by decide),fun nl hnl=>?_⟩
 have Snl:=qK hnl (.lst [])
 have enl:upd H3 nl (.lst []) nl=some (.lst []):=qV
 generalize upd H3 nl (.lst [])=H4 at Snl enl
 wtm_at "zw"
 refine⟨xD (show 1≤1000000 by decide),fun gt hgt=>?_⟩
 have Sgt:=qK hgt (.tup [V.str "yes"])
 have egt:upd H4 gt (.tup [V.str "yes"]) gt=some (.tup [V.str "yes"]):=qV
 generalize upd H4 gt (.tup [V.str "yes"])=H5 at Sgt egt
 have S15:Same H1 H5:=Sdl.trans (Sll.trans (Snl.trans Sgt))
 have ndl:dl≠ll:=qA edl hll
 have ndn:dl≠nl:=qA (Sll _ _ edl) hnl
 have nln:ll≠nl:=qA ell hnl
 have nb:∀b o,H1 b=some o→b∉[dl,ll,nl]:=fun b o e z=>by
  simp only[List.mem_cons,List.not_mem_nil,or_false] at z
  rcases z with rfl | rfl | rfl
  ·rw[e] at hdl;cases hdl
  ·rw[Sdl _ _ e] at hll;cases hll
  ·rw[Sll _ _ (Sdl _ _ e)] at hnl;cases hnl
 have h5:∀b o,H1 b=some o→hidL [dl,ll,nl] H5 b=some o:=fun b o e=>qZn (nb _ _ e) (S15 _ _ e)
 have T5:Three H5 dl ll nl [] [] []:=⟨Sgt _ _ (Snl _ _ (Sll _ _ edl)),Sgt _ _ (Snl _ _ ell),Sgt _ _ enl⟩
 have C0:Cnt H5 szs wr dl ll nl 0 H5 [] [] [] (.ref gt):=⟨T5,.refl _,.nil,.nil,.nil,gt,rfl,T5.tups _ _ egt⟩
 wtm_at "zf"
 rw[il]
 refine⟨((szs.length:Nat):Int),rfl,by omega,by omega,?_⟩
 refine qQf (fun i σ' H'=>∃(du lu nu:List V) (gv:V) (z7 z8 z9 z10 z11:Option V),σ'=[some (.ref sa),some (.int wr),some (.ref bx),some (.ref dl),some (.ref ll),some (.ref nl),some gv,z7,z8,z9,z10,z11,none]∧Cnt H5 szs wr dl ll nl i H' du lu nu gv) ⟨[],[],[],.ref gt,none,none,none,none,none,rfl,C0⟩ ?_ ?_
 ·rintro N rt bk i σ' H' hi ⟨du,lu,nu,gv,z7,z8,z9,z10,z11,rfl,C⟩ hN
  rw[Int.toNat_natCast] at hi
  rw[Int.zero_add]
  have i3:i<3:=by omega
  have ac:=qIv i3
  have adl:=qEb i3
  have all:=qEw i3
  have as:=qVj (ps:=szs) (a:=i) hi
  have bk1:∀b o,H1 b=some o→H' b=some o:=fun b o e=>kA _ _ (C.sm _ _ (h5 _ _ e))
  have esa':=bk1 _ _ (S01 _ _ esa)
  have ebx:=bk1 _ _ hDy
  obtain⟨ba,eba0,eba1⟩:∃ba,atI bu (i:Int)=some (.ref ba)∧H' ba=some (.tup [.str (nmK i),.int (szs.getD i 0)]):=by
   obtain⟨u,eu⟩:∃u,bu[i]? = some u:=⟨_,List.getElem?_eq_getElem (by omega)⟩
   obtain⟨a,rfl,ea⟩:=xY pb (show((List.range szs.length).map (boxK szs))[i]? = some (boxK szs i) by rw[List.getElem?_map,List.getElem?_range hi];rfl) eu
   exact⟨a,zS eu,bk1 _ _ ea⟩
  have ld:du.length=i:=by rw[← C.pd.length,List.length_map,List.length_range]
  have llu:lu.length=i:=by rw[← C.pl.length,List.length_map,List.length_range]
  have ln:nu.length=2 * i:=by rw[← C.pn.length,zF]
  wtm_at "zf"
  refine⟨(i:Int),rfl,by omega,by omega,?_⟩
  refine zP (fun D j ys H''=>Paired (zU H'') ((List.range j).map fun j=>(nmK j,Th.num 0)) ys∧Same H' H'') (fun D hD=>⟨.nil,qK hD _⟩) (fun D j ys H'' N2 hD hDy2 hj hP hN2=>?_) (fun wl wu HA hwl ewl hP=>?_)
  ·obtain⟨hp,hk⟩:=hP
   rw[Int.toNat_natCast] at hj
   have lp:=hp.length
   rw[List.length_map,List.length_range] at lp
   rw[Int.zero_add]
   obtain⟨bj,ebj0,ebj1⟩:∃ba,atI bu (j:Int)=some (.ref ba)∧H'' ba=some (.tup [.str (nmK j),.int (szs.getD j 0)]):=by
    obtain⟨u,eu⟩:∃u,bu[j]? = some u:=⟨_,List.getElem?_eq_getElem (by omega)⟩
    obtain⟨a,rfl,ea⟩:=xY pb (show((List.range szs.length).map (boxK szs))[j]? = some (boxK szs j) by rw[List.getElem?_map,List.getElem?_range (by omega)];rfl) eu
    exact⟨a,zS eu,hk _ _ (bk1 _ _ ea)⟩
   have ebx2:=hk _ _ ebx
   refine⟨⟨[some (.int (j:Int))],rfl,rfl⟩,?_⟩
   wtm_at "zw"
   refine qQl ?_
   wtm_at "zw"
   refine⟨xD (show 2≤1000000 by decide),fun n hn=>?_⟩
   have Sn:=qK hn (.tup [V.str "number",V.int 0])
   have en:upd H'' n (.tup [V.str "number",V.int 0]) n=some (.tup [V.str "number",V.int 0]):=qV
   generalize upd H'' n (.tup [V.str "number",V.int 0])=HB at Sn en
   wtm_at "zw"
   refine⟨xD (show 2≤1000000 by decide),fun t ht=>?_⟩
   have St:=qK ht (.tup [V.str (nmK j),V.ref n])
   have et:upd HB t (.tup [V.str (nmK j),V.ref n]) t=some (.tup [V.str (nmK j),V.ref n]):=qV
   generalize upd HB t (.tup [V.str (nmK j),V.ref n])=HC at St et
   have eD:=St _ _ (Sn _ _ hDy2)
   refine⟨eD,small (by omega),hN2 _ _ qV ⟨?_,fun b o e=>?_⟩⟩
   ·have T1:Tups HC (upd HC D (.lst (ys++[.ref t]))):=fun b xs e=>by rw[qW (xU e eD (by intro z;cases z))];exact e
    rw[List.range_succ,List.map_append]
    exact Paired.snoc (Paired.mapP hp fun _ _ y=>(y.tups (qB (Sn.trans St))).tups T1) ⟨t,.ref n,rfl,T1 _ _ et,n,rfl,T1 _ _ (St _ _ en)⟩
   ·rw[qW (qA e hD)];exact St _ _ (Sn _ _ (hk _ _ e))
  obtain⟨pw,SA⟩:=hP
  rw[Int.toNat_natCast] at pw
  have lw:wu.length=i:=by rw[← pw.length,List.length_map,List.length_range]
  have ebxA:=SA _ _ ebx
  have ebaA:=SA _ _ eba1
  wtm_at "zw"
  refine wR (SqL.of ewl) ?_
  wtm_at "zw"
  refine⟨xD (show 2≤1000000 by decide),fun b1 hb1=>?_⟩
  have Sb1:=qK hb1 (.tup [V.str "box",V.str (nmK i)])
  have eb1:upd HA b1 (.tup [V.str "box",V.str (nmK i)]) b1=some (.tup [V.str "box",V.str (nmK i)]):=qV
  generalize upd HA b1 (.tup [V.str "box",V.str (nmK i)])=HB at Sb1 eb1
  wtm_at "zw"
  refine⟨xD (show 2≤1000000 by decide),fun n1 hn1=>?_⟩
  have Sn1:=qK hn1 (.tup [V.str "number",V.int 1])
  have en1:upd HB n1 (.tup [V.str "number",V.int 1]) n1=some (.tup [V.str "number",V.int 1]):=qV
  generalize upd HB n1 (.tup [V.str "number",V.int 1])=HC at Sn1 en1
  wtm_at "zw"
  refine⟨xD (show 3≤1000000 by decide),fun p1 hp1=>?_⟩
  have Sp1:=qK hp1 (.tup [V.str "plus",V.ref b1,V.ref n1])
  have ep1:upd HC p1 (.tup [V.str "plus",V.ref b1,V.ref n1]) p1=some (.tup [V.str "plus",V.ref b1,V.ref n1]):=qV
  generalize upd HC p1 (.tup [V.str "plus",V.ref b1,V.ref n1])=HD at Sp1 ep1
  wtm_at "zw"
  refine⟨xD (show 2≤1000000 by decide),fun c1 hc1=>?_⟩
  have Sc1:=qK hc1 (.tup [V.str (nmK i),V.ref p1])
  have ec1:upd HD c1 (.tup [V.str (nmK i),V.ref p1]) c1=some (.tup [V.str (nmK i),V.ref p1]):=qV
  generalize upd HD c1 (.tup [V.str (nmK i),V.ref p1])=HE at Sc1 ec1
  wtm_at "zw"
  have SAE:Same HA HE:=Sb1.trans (Sn1.trans (Sp1.trans Sc1))
  refine zT (SAE _ _ ewl) (small (by omega)) ?_
  have TE:Tups HE (upd HE wl (.lst (wu++[.ref c1]))):=fun b xs e=>by rw[qW (xU e (SAE _ _ ewl) (by intro z;cases z))];exact e
  have pway:Paired (zU (upd HE wl (.lst (wu++[.ref c1])))) (wayK i) (wu++[.ref c1]):=Paired.snoc (Paired.mapP pw fun _ _ y=>(y.tups (qB SAE)).tups TE) ⟨c1,.ref p1,rfl,TE _ _ ec1,p1,.ref b1,.ref n1,rfl,TE _ _ (Sc1 _ _ ep1),⟨b1,rfl,TE _ _ (Sc1 _ _ (Sp1 _ _ (Sn1 _ _ eb1)))⟩,⟨n1,rfl,TE _ _ (Sc1 _ _ (Sp1 _ _ en1))⟩⟩
  have ewF:upd HE wl (.lst (wu++[.ref c1])) wl=some (.lst (wu++[.ref c1])):=qV
  have SF:Same H' (upd HE wl (.lst (wu++[.ref c1]))):=qEl (SA.trans SAE) hwl
  generalize upd HE wl (.lst (wu++[.ref c1]))=HF at TE pway ewF SF
  have ebxF:=SF _ _ ebx
  have ebaF:=SF _ _ eba1
  have esaF:=SF _ _ esa'
  have nsa:=nb _ _ (S01 _ _ esa)
  have nbx:=nb _ _ hDy
  have nba:=C.th.tups
  have nba:ba∉[dl,ll,nl]:=fun z=>by
   simp only[List.mem_cons,List.not_mem_nil,or_false] at z
   rcases z with rfl | rfl | rfl
   ·rw[C.th.d] at eba1;cases eba1
   ·rw[C.th.l] at eba1;cases eba1
   ·rw[C.th.n] at eba1;cases eba1
  have kbi:(i:Int).natAbs<2 ^ 1000:=by
   have:(3:Nat)<2 ^ 1000:=by decide +kernel
   omega
  wtm_at "zw"
  refine⟨xD (show 2≤1000000 by decide),fun b2 hb2=>?_⟩
  have Sb2:=qK hb2 (.tup [V.str "box",V.str (nmK i)])
  have eb2:upd HF b2 (.tup [V.str "box",V.str (nmK i)]) b2=some (.tup [V.str "box",V.str (nmK i)]):=qV
  generalize upd HF b2 (.tup [V.str "box",V.str (nmK i)])=HG at Sb2 eb2
  have esaG:=Sb2 _ _ esaF
  wtm_at "zw"
  refine⟨xD (show 2≤1000000 by decide),fun n2 hn2=>?_⟩
  have Sn2:=qK hn2 (.tup [V.str "number",V.int (szs.getD i 0 - 1)])
  have en2:upd HG n2 (.tup [V.str "number",V.int (szs.getD i 0 - 1)]) n2=some (.tup [V.str "number",V.int (szs.getD i 0 - 1)]):=qV
  generalize upd HG n2 (.tup [V.str "number",V.int (szs.getD i 0 - 1)])=HH at Sn2 en2
  wtm_at "zw"
  refine⟨xD (show 3≤1000000 by decide),fun u2 hu2=>?_⟩
  have Su2:=qK hu2 (.tup [V.str "under",V.ref b2,V.ref n2])
  have eu2:upd HH u2 (.tup [V.str "under",V.ref b2,V.ref n2]) u2=some (.tup [V.str "under",V.ref b2,V.ref n2]):=qV
  generalize upd HH u2 (.tup [V.str "under",V.ref b2,V.ref n2])=HI at Su2 eu2
  have SFI:Same HF HI:=Sb2.trans (Sn2.trans Su2)
  have TI:=C.th.same (SF.trans SFI)
  wtm_at "zw"
  refine wR (SqL.of TI.d) ?_
  wtm_at "zw"
  refine⟨xD (show 3≤1000000 by decide),fun d1 hd1=>?_⟩
  have Sd1:=qK hd1 (.lst [V.str "put",V.str "go",V.str "gone"])
  have ed1:upd HI d1 (.lst [V.str "put",V.str "go",V.str "gone"]) d1=some (.lst [V.str "put",V.str "go",V.str "gone"]):=qV
  generalize upd HI d1 (.lst [V.str "put",V.str "go",V.str "gone"])=HJ at Sd1 ed1
  wtm_at "zw"
  refine⟨xD (show 2≤1000000 by decide),fun w2 hw2=>?_⟩
  have Sw2:=qK hw2 (.lst [V.ref wl,V.ref wl])
  have ew2:upd HJ w2 (.lst [V.ref wl,V.ref wl]) w2=some (.lst [V.ref wl,V.ref wl]):=qV
  generalize upd HJ w2 (.lst [V.ref wl,V.ref wl])=HK at Sw2 ew2
  wtm_at "zw"
  refine⟨xD (show 4≤1000000 by decide),fun dt hdt=>?_⟩
  have Sdt:=qK hdt (.tup [V.str (dN i),V.int (1+(i:Int)),V.ref u2,V.ref w2])
  have edt:upd HK dt (.tup [V.str (dN i),V.int (1+(i:Int)),V.ref u2,V.ref w2]) dt=some (.tup [V.str (dN i),V.int (1+(i:Int)),V.ref u2,V.ref w2]):=qV
  generalize upd HK dt (.tup [V.str (dN i),V.int (1+(i:Int)),V.ref u2,V.ref w2])=HL at Sdt edt
  have SIL:=Sd1.trans (Sw2.trans Sdt)
  have TL:=TI.same SIL
  have SFL:Same HF HL:=SFI.trans SIL
  have TFL:Tups HF (hidL [dl,ll,nl] HL):=fun b xs e=>TL.tups _ _ (SFL _ _ e)
  have way1:WayIn (hidL [dl,ll,nl] HL) (wayK i) (.ref wl):=⟨wl,_,rfl,qZn (C.th.new hwl) (SFL _ _ ewF),Paired.mapP pway fun _ _ y=>y.tups TFL⟩
  have dd:DeedIn (hidL [dl,ll,nl] HL) (deedK szs i) (.ref dt):=⟨dt,.ref u2,w2,_,rfl,TL.tups _ _ edt,⟨u2,.ref b2,.ref n2,rfl,TL.tups _ _ (SIL _ _ eu2),⟨b2,rfl,TL.tups _ _ (SIL _ _ (Su2 _ _ (Sn2 _ _ eb2)))⟩,⟨n2,rfl,TL.tups _ _ (SIL _ _ (Su2 _ _ en2))⟩⟩,qZn ((TI.same Sd1).new hw2) (Sdt _ _ ew2),.cons way1 (.cons way1 .nil)⟩
  wtm_at "zw"
  refine zT TL.d (small (by omega)) ?_
  have hM:hidL [dl,ll,nl] (upd HL dl (.lst (du++[.ref dt])))=hidL [dl,ll,nl] HL:=qXe (by simp)
  have TM:=TL.putD ndl ndn (du++[.ref dt])
  have md:dl∈[dl,ll,nl]:=by simp
  have ml:ll∈[dl,ll,nl]:=by simp
  have mn:nl∈[dl,ll,nl]:=by simp
  have esaM:=keep3 (x:=.lst (du++[.ref dt])) md nsa (SFL _ _ esaF)
  have ebxM:=keep3 (x:=.lst (du++[.ref dt])) md nbx (SFL _ _ ebxF)
  have ebaM:=keep3 (x:=.lst (du++[.ref dt])) md nba (SFL _ _ ebaF)
  generalize upd HL dl (.lst (du++[.ref dt]))=HM at hM TM esaM ebxM ebaM
  wtm_at "zw"
  refine wR (SqL.of TM.l) ?_
  wtm_at "zw"
  refine⟨xD (show 3≤1000000 by decide),fun l1 hl1=>?_⟩
  have Sl1:=qK hl1 (.lst [V.str "see",V.str "seen",V.str "ask"])
  have el1:upd HM l1 (.lst [V.str "see",V.str "seen",V.str "ask"]) l1=some (.lst [V.str "see",V.str "seen",V.str "ask"]):=qV
  generalize upd HM l1 (.lst [V.str "see",V.str "seen",V.str "ask"])=HN at Sl1 el1
  have ebxN:=Sl1 _ _ ebxM
  have ebaN:=Sl1 _ _ ebaM
  wtm_at "zw"
  refine⟨xD (show 2≤1000000 by decide),fun b3 hb3=>?_⟩
  have Sb3:=qK hb3 (.tup [V.str "box",V.str (nmK i)])
  have eb3:upd HN b3 (.tup [V.str "box",V.str (nmK i)]) b3=some (.tup [V.str "box",V.str (nmK i)]):=qV
  generalize upd HN b3 (.tup [V.str "box",V.str (nmK i)])=HO at Sb3 eb3
  wtm_at "zw"
  refine⟨xD (show 3≤1000000 by decide),fun lt hlt=>?_⟩
  have Slt:=qK hlt (.tup [V.str (lN i),V.int 2,V.ref b3])
  have elt:upd HO lt (.tup [V.str (lN i),V.int 2,V.ref b3]) lt=some (.tup [V.str (lN i),V.int 2,V.ref b3]):=qV
  generalize upd HO lt (.tup [V.str (lN i),V.int 2,V.ref b3])=HP at Slt elt
  have SMP:=Sl1.trans (Sb3.trans Slt)
  have TP:=TM.same SMP
  have look1:LookIn (hidL [dl,ll,nl] HP) (lookK i) (.ref lt):=⟨lt,.ref b3,rfl,TP.tups _ _ elt,b3,rfl,TP.tups _ _ (Slt _ _ eb3)⟩
  wtm_at "zw"
  refine zT TP.l (small (by omega)) ?_
  have hQ:hidL [dl,ll,nl] (upd HP ll (.lst (lu++[.ref lt])))=hidL [dl,ll,nl] HP:=qXe ml
  have TQ:=TP.putL ndl nln (lu++[.ref lt])
  have esaQ:=keep3 (x:=.lst (lu++[.ref lt])) ml nsa (SMP _ _ esaM)
  have ebxQ:=keep3 (x:=.lst (lu++[.ref lt])) ml nbx (SMP _ _ ebxM)
  have ebaQ:=keep3 (x:=.lst (lu++[.ref lt])) ml nba (SMP _ _ ebaM)
  generalize upd HP ll (.lst (lu++[.ref lt]))=HQ at hQ TQ esaQ ebxQ ebaQ
  have sb:=hs.at hi
  wtm_at "zf"
  refine⟨szs.getD i 0 - 1,rfl,by omega,by omega,?_⟩
  refine zP (fun D j ys H''=>Paired (PairI H'') ((List.range j).map fun f:Nat=>((f:Int),2 * (i:Int)+1)) ys∧Same HQ H'') (fun D hD=>⟨.nil,qK hD _⟩) (fun D j ys H'' N2 hD hDy2 hj hP hN2=>?_) (fun f1 fu HR hf1 ef1 hP=>?_)
  ·obtain⟨hp,hk⟩:=hP
   have lp:=hp.length
   rw[List.length_map,List.length_range] at lp
   rw[Int.zero_add]
   refine⟨⟨[some (.int (j:Int))],rfl,rfl⟩,?_⟩
   wtm_at "zw"
   refine qQl ?_
   wtm_at "zw"
   refine w_I ⟨by decide +kernel,kbi⟩ ?_
   wtm_at "zw"
   refine⟨xD (show 2≤1000000 by decide),fun t ht=>?_⟩
   have St:=qK ht (.tup [V.int (j:Int),V.int (2 * (i:Int)+1)])
   have et:upd H'' t (.tup [V.int (j:Int),V.int (2 * (i:Int)+1)]) t=some (.tup [V.int (j:Int),V.int (2 * (i:Int)+1)]):=qV
   generalize upd H'' t (.tup [V.int (j:Int),V.int (2 * (i:Int)+1)])=HB at St et
   have eD:=St _ _ hDy2
   refine⟨eD,small (by omega),hN2 _ _ qV ⟨?_,fun b o e=>?_⟩⟩
   ·have T1:Tups HB (upd HB D (.lst (ys++[.ref t]))):=fun b xs e=>by rw[qW (xU e eD (by intro z;cases z))];exact e
    rw[List.range_succ,List.map_append]
    exact Paired.snoc (Paired.mapP hp fun _ _ ⟨a,h1,h2⟩=>⟨a,h1,T1 _ _ (St _ _ h2)⟩) ⟨t,rfl,T1 _ _ et⟩
   ·rw[qW (qA e hD)];exact St _ _ (hk _ _ e)
  obtain⟨pf0,SQR⟩:=hP
  have lf:fu.length≤5:=by rw[← pf0.length,List.length_map,List.length_range];omega
  have esaR:=SQR _ _ esaQ
  wtm_at "zw"
  refine w_I ⟨by decide +kernel,kbi⟩ ?_
  wtm_at "zw"
  refine⟨xD (show 2≤1000000 by decide),fun ft hft=>?_⟩
  have Sft:=qK hft (.tup [V.int (szs.getD i 0 - 1),V.int (2 * (i:Int)+2)])
  have eft:upd HR ft (.tup [V.int (szs.getD i 0 - 1),V.int (2 * (i:Int)+2)]) ft=some (.tup [V.int (szs.getD i 0 - 1),V.int (2 * (i:Int)+2)]):=qV
  generalize upd HR ft (.tup [V.int (szs.getD i 0 - 1),V.int (2 * (i:Int)+2)])=HS at Sft eft
  wtm_at "zw"
  refine⟨xD (show 1≤1000000 by decide),fun f2 hf2=>?_⟩
  have Sf2:=qK hf2 (.lst [V.ref ft])
  have ef2:upd HS f2 (.lst [V.ref ft]) f2=some (.lst [V.ref ft]):=qV
  generalize upd HS f2 (.lst [V.ref ft])=HT at Sf2 ef2
  refine⟨f1,f2,_,_,rfl,rfl,Sf2 _ _ (Sft _ _ ef1),ef2,xD (by show _+1≤_;omega),fun fl hfl=>?_⟩
  have Sfl:=qK hfl (.lst (fu++[V.ref ft]))
  have efl:upd HT fl (.lst (fu++[V.ref ft])) fl=some (.lst (fu++[V.ref ft])):=qV
  generalize upd HT fl (.lst (fu++[V.ref ft]))=HU at Sfl efl
  have SQU:Same HQ HU:=SQR.trans (Sft.trans (Sf2.trans Sfl))
  have TU:=TQ.same SQU
  have pf:Paired (PairI HU) (forksK szs i) (fu++[V.ref ft]):=Paired.snoc (Paired.mapP pf0 fun _ _ y=>PairI.same y (Sft.trans (Sf2.trans Sfl))) ⟨ft,rfl,Sfl _ _ (Sf2 _ _ eft)⟩
  have al:=qAz (u:=.ref lt) llu
  have eltU:HU lt=some (.tup [V.str (lN i),V.int 2,V.ref b3]):=SQU _ _ (kA _ _ (by rw[hQ];exact TP.tups _ _ elt))
  have ellU:=TU.l
  wtm_at "zw"
  refine wR (SqL.of TU.n) ?_
  wtm_at "zw"
  refine⟨fl,_,rfl,SqL.of efl,fun tf htf=>?_⟩
  have Stf:=qK htf (.tup (fu++[V.ref ft]))
  have etf:upd HU tf (.tup (fu++[V.ref ft])) tf=some (.tup (fu++[V.ref ft])):=qV
  generalize upd HU tf (.tup (fu++[V.ref ft]))=HV at Stf etf
  wtm_at "zw"
  refine⟨xD (show 3≤1000000 by decide),fun nt hnt=>?_⟩
  have Snt:=qK hnt (.tup [V.str "look",V.str (lN i),V.ref tf])
  have ent:upd HV nt (.tup [V.str "look",V.str (lN i),V.ref tf]) nt=some (.tup [V.str "look",V.str (lN i),V.ref tf]):=qV
  generalize upd HV nt (.tup [V.str "look",V.str (lN i),V.ref tf])=HW at Snt ent
  have SUW:=Stf.trans Snt
  have TW:=TU.same SUW
  have node1:NdAt (hidL [dl,ll,nl] HW) (.see (lN i) (forksK szs i)) (.ref nt):=⟨nt,tf,_,rfl,TW.tups _ _ ent,TW.tups _ _ (Snt _ _ etf),Paired.mapP pf fun _ _ ⟨a,h1,h2⟩=>⟨a,h1,TW.tups _ _ (SUW _ _ h2)⟩⟩
  wtm_at "zw"
  refine zT TW.n (small (by omega)) ?_
  have hX:hidL [dl,ll,nl] (upd HW nl (.lst (nu++[.ref nt])))=hidL [dl,ll,nl] HW:=qXe mn
  have TX:=TW.putN ndn nln (nu++[.ref nt])
  have SQW:Same HQ HW:=SQU.trans SUW
  have esaX:=keep3 (x:=.lst (nu++[.ref nt])) mn nsa (SQW _ _ esaQ)
  have ebxX:=keep3 (x:=.lst (nu++[.ref nt])) mn nbx (SQW _ _ ebxQ)
  have ebaX:=keep3 (x:=.lst (nu++[.ref nt])) mn nba (SQW _ _ ebaQ)
  generalize upd HW nl (.lst (nu++[.ref nt]))=HX at hX TX esaX ebxX ebaX
  have LW:Same (hidL [dl,ll,nl] HL) (hidL [dl,ll,nl] HW):=by
   have a1:Same (hidL [dl,ll,nl] HM) (hidL [dl,ll,nl] HP):=yX SMP
   have a2:Same (hidL [dl,ll,nl] HQ) (hidL [dl,ll,nl] HW):=yX SQW
   rw[hM] at a1
   rw[hQ] at a2
   exact a1.trans a2
  have edtX:HX dt=some (.tup [V.str (dN i),V.int (1+(i:Int)),V.ref u2,V.ref w2]):=kA _ _ (by rw[hX];exact LW _ _ (TL.tups _ _ edt))
  have adx:=qAz (u:=.ref dt) ld
  have edX:=TX.d
  wtm_at "zw"
  refine wR (SqL.of TX.n) ?_
  wtm_at "zw"
  refine⟨xD (show 3≤1000000 by decide),fun mt hmt=>?_⟩
  have Smt:=qK hmt (.tup [V.str "do",V.str (dN i),V.int 0])
  have emt:upd HX mt (.tup [V.str "do",V.str (dN i),V.int 0]) mt=some (.tup [V.str "do",V.str (dN i),V.int 0]):=qV
  generalize upd HX mt (.tup [V.str "do",V.str (dN i),V.int 0])=HY at Smt emt
  have TY:=TX.same Smt
  have node2:NdAt (hidL [dl,ll,nl] HY) (.act (dN i) 0) (.ref mt):=⟨mt,rfl,TY.tups _ _ emt⟩
  wtm_at "zw"
  refine zT TY.n (small (by rw[List.length_append];show _+1≤_;omega)) ?_
  have hZ:hidL [dl,ll,nl] (upd HY nl (.lst (nu++[.ref nt]++[.ref mt])))=hidL [dl,ll,nl] HY:=qXe mn
  have TZ:=TY.putN ndn nln (nu++[.ref nt]++[.ref mt])
  have esaZ:=keep3 (x:=.lst (nu++[.ref nt]++[.ref mt])) mn nsa (Smt _ _ esaX)
  have ebxZ:=keep3 (x:=.lst (nu++[.ref nt]++[.ref mt])) mn nbx (Smt _ _ ebxX)
  have ebaZ:=keep3 (x:=.lst (nu++[.ref nt]++[.ref mt])) mn nba (Smt _ _ ebaX)
  generalize upd HY nl (.lst (nu++[.ref nt]++[.ref mt]))=HZ at hZ TZ esaZ ebxZ ebaZ
  wtm_at "zw"
  refine .inr ⟨_,rfl,?_⟩
  wtm_at "zw"
  have kw:wr.natAbs<2 ^ 1000:=by
   have:(1:Nat)<2 ^ 1000:=by decide +kernel
   omega
  dsimp only
  refine w_I ⟨kw,?_⟩ ?_
  ·show(if decide (V.int (i:Int)=V.int 0)=true then (1:Int) else 0).natAbs<2 ^ 1000
   split <;> decide +kernel
  have etop:szs.getD i 0 - 1 - wr * (if decide (V.int (i:Int)=V.int 0)=true then (1:Int) else 0)=topK szs wr i:=by
   unfold topK
   by_cases z:i=0
   ·rw[if_pos z,if_pos (decide_eq_true (by rw[z];rfl))]
   ·rw[if_neg z,if_neg (by rw[decide_eq_false (fun y=>z (by have:=V.int.inj y;omega))];exact Bool.false_ne_true)]
  wtm_at "zw"
  rw[etop]
  refine⟨xD (show 2≤1000000 by decide),fun b4 hb4=>?_⟩
  have Sb4:=qK hb4 (.tup [V.str "box",V.str (nmK i)])
  have eb4:upd HZ b4 (.tup [V.str "box",V.str (nmK i)]) b4=some (.tup [V.str "box",V.str (nmK i)]):=qV
  generalize upd HZ b4 (.tup [V.str "box",V.str (nmK i)])=I1 at Sb4 eb4
  wtm_at "zw"
  refine⟨xD (show 2≤1000000 by decide),fun n4 hn4=>?_⟩
  have Sn4:=qK hn4 (.tup [V.str "number",V.int (topK szs wr i)])
  have en4:upd I1 n4 (.tup [V.str "number",V.int (topK szs wr i)]) n4=some (.tup [V.str "number",V.int (topK szs wr i)]):=qV
  generalize upd I1 n4 (.tup [V.str "number",V.int (topK szs wr i)])=I2 at Sn4 en4
  wtm_at "zw"
  refine⟨xD (show 3≤1000000 by decide),fun s4 hs4=>?_⟩
  have Ss4:=qK hs4 (.tup [V.str "same",V.ref b4,V.ref n4])
  have es4:upd I2 s4 (.tup [V.str "same",V.ref b4,V.ref n4]) s4=some (.tup [V.str "same",V.ref b4,V.ref n4]):=qV
  generalize upd I2 s4 (.tup [V.str "same",V.ref b4,V.ref n4])=I3 at Ss4 es4
  wtm_at "zw"
  refine⟨xD (show 3≤1000000 by decide),fun g4 hg4=>?_⟩
  have Sg4:=qK hg4 (.tup [V.str "both",gv,V.ref s4])
  have eg4:upd I3 g4 (.tup [V.str "both",gv,V.ref s4]) g4=some (.tup [V.str "both",gv,V.ref s4]):=qV
  generalize upd I3 g4 (.tup [V.str "both",gv,V.ref s4])=I4 at Sg4 eg4
  wtm_at "zw"
  have SZ4:=Sb4.trans (Sn4.trans (Ss4.trans Sg4))
  have T4:=TZ.same SZ4
  have WE:Same (hidL [dl,ll,nl] HW) (hidL [dl,ll,nl] I4):=by
   have a1:Same (hidL [dl,ll,nl] HX) (hidL [dl,ll,nl] HY):=yX Smt
   have a2:Same (hidL [dl,ll,nl] HZ) (hidL [dl,ll,nl] I4):=yX SZ4
   rw[hX] at a1
   rw[hZ] at a2
   exact a1.trans a2
  have YE:Same (hidL [dl,ll,nl] HY) (hidL [dl,ll,nl] I4):=by
   have a2:Same (hidL [dl,ll,nl] HZ) (hidL [dl,ll,nl] I4):=yX SZ4
   rw[hZ] at a2
   exact a2
  have PE':Same (hidL [dl,ll,nl] HP) (hidL [dl,ll,nl] I4):=by
   have a2:Same (hidL [dl,ll,nl] HQ) (hidL [dl,ll,nl] HW):=yX SQW
   rw[hQ] at a2
   exact a2.trans WE
  have LE:=LW.trans WE
  have oE:Same (hidL [dl,ll,nl] H') (hidL [dl,ll,nl] I4):=Same.trans (yX (SF.trans SFL)) LE
  refine hN _ _ ⟨_,_,_,.ref g4,_,_,_,_,_,rfl,T4,C.sm.trans oE,?_,?_,?_,?_⟩
  ·rw[List.range_succ,List.map_append]
   exact Paired.snoc (Paired.mapP C.pd fun _ _ y=>y.same oE) (dd.same LE)
  ·rw[List.range_succ,List.map_append]
   exact Paired.snoc (Paired.mapP C.pl fun _ _ y=>y.same oE) (look1.same PE')
  ·show Paired _ (nodesK szs i++[_,_]) _
   rw[show nodesK szs i++[Nd.see (lN i) (forksK szs i),Nd.act (dN i) 0]=nodesK szs i++[Nd.see (lN i) (forksK szs i)]++[Nd.act (dN i) 0] by rw[List.append_assoc];rfl]
   exact Paired.snoc (Paired.snoc (Paired.mapP C.pn fun _ _ y=>NdAt.same y oE) (NdAt.same node1 WE)) (NdAt.same node2 YE)
  ·exact⟨g4,gv,.ref s4,rfl,T4.tups _ _ eg4,C.go.mono (qB oE),s4,.ref b4,.ref n4,rfl,T4.tups _ _ (Sg4 _ _ es4),⟨b4,rfl,T4.tups _ _ (Sg4 _ _ (Ss4 _ _ (Sn4 _ _ eb4)))⟩,⟨n4,rfl,T4.tups _ _ (Sg4 _ _ (Ss4 _ _ en4))⟩⟩
 ·rintro σ' H' ⟨du,lu,nu,gv,z7,z8,z9,z10,z11,rfl,C⟩
  rw[Int.toNat_natCast] at C
  have bk1:∀b o,H1 b=some o→H' b=some o:=fun b o e=>kA _ _ (C.sm _ _ (h5 _ _ e))
  have esa':=bk1 _ _ (S01 _ _ esa)
  have ebx:=bk1 _ _ hDy
  wtm_at "zw"
  refine⟨xD (show 2≤1000000 by decide),fun b1 hb1=>?_⟩
  have Sb1:=qK hb1 (.tup [V.str "box",V.str "a"])
  have eb1:upd H' b1 (.tup [V.str "box",V.str "a"]) b1=some (.tup [V.str "box",V.str "a"]):=qV
  generalize upd H' b1 (.tup [V.str "box",V.str "a"])=HA at Sb1 eb1
  wtm_at "zw"
  refine⟨xD (show 2≤1000000 by decide),fun n1 hn1=>?_⟩
  have Sn1:=qK hn1 (.tup [V.str "number",V.int 0])
  have en1:upd HA n1 (.tup [V.str "number",V.int 0]) n1=some (.tup [V.str "number",V.int 0]):=qV
  generalize upd HA n1 (.tup [V.str "number",V.int 0])=HB at Sn1 en1
  wtm_at "zw"
  refine⟨xD (show 3≤1000000 by decide),fun s1 hs1=>?_⟩
  have Ss1:=qK hs1 (.tup [V.str "same",V.ref b1,V.ref n1])
  have es1:upd HB s1 (.tup [V.str "same",V.ref b1,V.ref n1]) s1=some (.tup [V.str "same",V.ref b1,V.ref n1]):=qV
  generalize upd HB s1 (.tup [V.str "same",V.ref b1,V.ref n1])=HC at Ss1 es1
  have S0C:Same H' HC:=Sb1.trans (Sn1.trans Ss1)
  have bt0:(begT 0).At HC (.ref s1):=⟨s1,.ref b1,.ref n1,rfl,es1,⟨b1,rfl,by rw[← nm0];exact Ss1 _ _ (Sn1 _ _ eb1)⟩,⟨n1,rfl,Ss1 _ _ en1⟩⟩
  have esaC:=S0C _ _ esa'
  wtm_at "zf"
  refine qOx ?_
  wtm_at "zw"
  rw[il]
  refine⟨1,((szs.length:Nat):Int),rfl,⟨by omega,by omega,by omega,by omega⟩,?_⟩
  refine qQf (fun i σ' H''=>∃(bv:V) (z7:Option V),σ'=[some (.ref sa),some (.int wr),some (.ref bx),some (.ref dl),some (.ref ll),some (.ref nl),some gv,z7,z8,z9,z10,z11,some bv]∧Same HC H''∧(begT i).At H'' bv) ⟨.ref s1,z7,rfl,.refl _,bt0⟩ ?_ ?_
  ·rintro N rt bk i σ' H'' hi ⟨bv,z7,rfl,S2,b2⟩ hN
   have hi':i+1<szs.length:=by omega
   rw[show(1:Int)+(i:Int)=((i+1:Nat):Int) by omega]
   obtain⟨ba,eba0,eba1⟩:∃ba,atI bu ((i+1:Nat):Int)=some (.ref ba)∧H'' ba=some (.tup [.str (nmK (i+1)),.int (szs.getD (i+1) 0)]):=by
    obtain⟨u,eu⟩:∃u,bu[i+1]? = some u:=⟨_,List.getElem?_eq_getElem (by omega)⟩
    obtain⟨a,rfl,ea⟩:=xY pb (show((List.range szs.length).map (boxK szs))[i+1]? = some (boxK szs (i+1)) by rw[List.getElem?_map,List.getElem?_range hi'];rfl) eu
    exact⟨a,zS eu,S2 _ _ (S0C _ _ (bk1 _ _ ea))⟩
   have ebx2:=S2 _ _ (S0C _ _ ebx)
   wtm_at "zw"
   refine⟨xD (show 2≤1000000 by decide),fun b4 hb4=>?_⟩
   have Sb4:=qK hb4 (.tup [V.str "box",V.str (nmK (i+1))])
   have eb4:upd H'' b4 (.tup [V.str "box",V.str (nmK (i+1))]) b4=some (.tup [V.str "box",V.str (nmK (i+1))]):=qV
   generalize upd H'' b4 (.tup [V.str "box",V.str (nmK (i+1))])=I1 at Sb4 eb4
   wtm_at "zw"
   refine⟨xD (show 2≤1000000 by decide),fun n4 hn4=>?_⟩
   have Sn4:=qK hn4 (.tup [V.str "number",V.int 0])
   have en4:upd I1 n4 (.tup [V.str "number",V.int 0]) n4=some (.tup [V.str "number",V.int 0]):=qV
   generalize upd I1 n4 (.tup [V.str "number",V.int 0])=I2 at Sn4 en4
   wtm_at "zw"
   refine⟨xD (show 3≤1000000 by decide),fun s4 hs4=>?_⟩
   have Ss4:=qK hs4 (.tup [V.str "same",V.ref b4,V.ref n4])
   have es4:upd I2 s4 (.tup [V.str "same",V.ref b4,V.ref n4]) s4=some (.tup [V.str "same",V.ref b4,V.ref n4]):=qV
   generalize upd I2 s4 (.tup [V.str "same",V.ref b4,V.ref n4])=I3 at Ss4 es4
   wtm_at "zw"
   refine⟨xD (show 3≤1000000 by decide),fun g4 hg4=>?_⟩
   have Sg4:=qK hg4 (.tup [V.str "both",bv,V.ref s4])
   have eg4:upd I3 g4 (.tup [V.str "both",bv,V.ref s4]) g4=some (.tup [V.str "both",bv,V.ref s4]):=qV
   generalize upd I3 g4 (.tup [V.str "both",bv,V.ref s4])=I4 at Sg4 eg4
   wtm_at "zw"
   have SZ4:=Sb4.trans (Sn4.trans (Ss4.trans Sg4))
   exact hN _ _ ⟨.ref g4,_,rfl,S2.trans SZ4,g4,bv,.ref s4,rfl,eg4,b2.mono (qB SZ4),s4,.ref b4,.ref n4,rfl,Sg4 _ _ es4,⟨b4,rfl,Sg4 _ _ (Ss4 _ _ (Sn4 _ _ eb4))⟩,⟨n4,rfl,Sg4 _ _ (Ss4 _ _ en4)⟩⟩
  ·rintro σ' H'' ⟨bv,z7,rfl,S2,b2⟩
   rw[show((szs.length:Int) - 1).toNat=szs.length - 1 by omega] at b2
   have S3:Same H' H'':=S0C.trans S2
   have T3:=C.th.same S3
   wtm_at "zw"
   refine⟨xD (show 5≤1000000 by decide),fun wt hwt=>?_⟩
   have Swt:=qK hwt (.tup [V.ref bx,V.ref dl,V.ref ll,bv,gv])
   have ewt:upd H'' wt (.tup [V.ref bx,V.ref dl,V.ref ll,bv,gv]) wt=some (.tup [V.ref bx,V.ref dl,V.ref ll,bv,gv]):=qV
   generalize upd H'' wt (.tup [V.ref bx,V.ref dl,V.ref ll,bv,gv])=HD at Swt ewt
   wtm_at "zw"
   refine⟨xD (show 1≤1000000 by decide),fun et het=>?_⟩
   have Set:=qK het (.tup [V.str "end"])
   have eet:upd HD et (.tup [V.str "end"]) et=some (.tup [V.str "end"]):=qV
   generalize upd HD et (.tup [V.str "end"])=HE at Set eet
   wtm_at "zw"
   refine⟨xD (show 1≤1000000 by decide),fun el hel=>?_⟩
   have Sel:=qK hel (.lst [V.ref et])
   have eel:upd HE el (.lst [V.ref et]) el=some (.lst [V.ref et]):=qV
   generalize upd HE el (.lst [V.ref et])=HF at Sel eel
   have SDF:=Swt.trans (Set.trans Sel)
   have TF:=T3.same SDF
   have ln:nu.length=2 * szs.length:=by rw[← C.pn.length,zF]
   refine⟨nl,el,_,_,rfl,rfl,TF.n,eel,xD (by show _+1≤_;omega),fun pl hpl=>?_⟩
   have Spl:=qK hpl (.lst (nu++[V.ref et]))
   have epl:upd HF pl (.lst (nu++[V.ref et])) pl=some (.lst (nu++[V.ref et])):=qV
   generalize upd HF pl (.lst (nu++[V.ref et]))=HG at Spl epl
   wtm_at "zw"
   refine⟨xD (show 2≤1000000 by decide),fun r hr=>?_⟩
   have Sr:=qK hr (.tup [V.ref wt,V.ref pl])
   have er:upd HG r (.tup [V.ref wt,V.ref pl]) r=some (.tup [V.ref wt,V.ref pl]):=qV
   generalize upd HG r (.tup [V.ref wt,V.ref pl])=HI at Sr er
   have SFI:=Spl.trans Sr
   have SDI:=SDF.trans SFI
   have oE:Same (hidL [dl,ll,nl] H') HI:=Same.trans kA (S3.trans SDI)
   have TI:=TF.same SFI
   have b1I:∀b o,H1 b=some o→HI b=some o:=fun b o e=>SDI _ _ (S3 _ _ (bk1 _ _ e))
   refine q r wt bx dl ll pl bv gv _ HI (fun b o e=>b1I _ _ (S01 _ _ e)) er ?_ ?_ (Sr _ _ epl) ?_
   ·exact SFI _ _ (Sel _ _ (Set _ _ ewt))
   ·exact⟨⟨bu,b1I _ _ hDy,Paired.mapP pb fun _ _ ⟨a,h1,h2⟩=>⟨a,h1,b1I _ _ h2⟩⟩,⟨du,TI.d,Paired.mapP C.pd fun _ _ y=>y.same oE⟩,⟨lu,TI.l,Paired.mapP C.pl fun _ _ y=>y.same oE⟩,b2.mono (qB SDI),C.go.mono (qB oE)⟩
   ·exact Paired.snoc (Paired.mapP C.pn fun _ _ y=>NdAt.same y oE) ⟨et,rfl,SFI _ _ (Sel _ _ eet)⟩

theorem qJg:xM ["script","k"] ["script","k"] (xW (top 28)):=⟨rfl,rfl,rfl,by decide +kernel,rfl,by decide +kernel,by decide +kernel⟩
noncomputable def cellM (ns:List Int)(k:Nat):Int:=if h:k<ns.length then ns[k] else k
noncomputable def spCell (K:PySem.W.Frag):Sp:=fun vs H Q _=>∃(a:Addr) (ns:List Int) (k:Nat),vs=[.ref a,.int k]∧SqL K H a (intsV ns)∧Q (.int (cellM ns k)) H
theorem qNb (F:Fd K mg "_law_cell" (top 28) ["script","k"])(B:Bl mg):Dn P w K mg base "_law_cell" 1 ["script","k"] (spCell K):=by
 refine F.ok qJg (fun vs H Q E h=>?_) (fun f cdv A outer s H vs Q E hr h=>?_)
 ·obtain⟨_,_,_,rfl,_⟩:=h
  rfl
 obtain⟨a,ns,k,rfl,ea,q⟩:=h
 refine⟨_,(qZ (zG (qFz qSv qBd qD (pv 1) (xX (zX (K:=K)) rfl B.len' jC (qQ (pv 0) qX))) (qJ (qM (xE (qS (K:=K)) (pv 0) (pv 1) (fun _ _=>rfl)))) qY)
  (qJ (qM (pv 1)))),?_⟩
 wtm_at "zw"
 refine⟨_,rfl,0,k,rfl,rfl,true,(by show V.bl (decide ((0:Int)≤(k:Int)))=V.bl true;rw[decide_eq_true (Int.natCast_nonneg k)]),iteT ?_⟩
 wtm_at "zw"
 have el:(intsV ns).length=ns.length:=List.length_map ..
 unfold cellM at q
 by_cases h:k<ns.length
 ·rw[dif_pos h] at q
  rw[decide_eq_true (show(k:Int)<((intsV ns).length:Int) by rw[el];omega)]
  refine iteT ?_
  refine⟨_,rfl,_,rfl,a,_,k,.int ns[k],rfl,rfl,ea,?_,q⟩
  exact zS (by rw[List.getElem?_map,List.getElem?_eq_getElem h];rfl)
 ·rw[dif_neg h] at q
  rw[decide_eq_false (show¬((k:Int)<((intsV ns).length:Int)) by rw[el];omega)]
  refine iteF ?_
  wtm_at "zw"
  exact q
theorem jO:xM ["cell","k","number"] ["cell","k"] (xW (top 29)):=⟨rfl,rfl,rfl,by decide +kernel,rfl,by decide +kernel,by decide +kernel⟩
noncomputable abbrev bigM:Int:=170141183460469231731687303715884105727
noncomputable def stir1 (c k:Int):Int:=(c % 10 ^ 60+7919 * k+1) * 27182818284590452353602874713527
noncomputable def stir2 (c k:Int):Int:=stir1 c k % bigM
noncomputable def stir3 (c k:Int):Int:=(stir2 c k * stir2 c k+104729 * k+1) % bigM
noncomputable def stirM (c k:Int):Int:=stir3 c k * stir3 c k % bigM / 5
theorem qCq (n:Int):(n % bigM).natAbs<2 ^ 1000:=big _ (Int.emod_nonneg _ (by decide)) (Int.lt_trans (Int.emod_lt_of_pos n (show 0<bigM by decide)) (by decide +kernel))
noncomputable def spStir:Sp:=fun vs H Q _=>∃c k:Int,vs=[.int c,.int k]∧0≤k∧k≤1000000∧Q (.int (stirM c k)) H
theorem qNj (F:Fd K mg "_law_stir" (top 29) ["cell","k"]):Dn P w K mg base "_law_stir" 1 ["cell","k"] spStir:=by
 refine F.ok jO (fun vs H Q E h=>?_) (fun f cdv A outer s H vs Q E hr h=>?_)
 ·obtain⟨c,k,rfl,_⟩:=h
  rfl
 obtain⟨c,k,rfl,h0,h1,q⟩:=h
 have a1:0≤c % 10 ^ 60:=Int.emod_nonneg _ (by decide +kernel)
 have a2:c % 10 ^ 60<10 ^ 60:=Int.emod_lt_of_pos _ (by decide +kernel)
 have pw:∀i j:Int,0≤j→j≤1000→i.natAbs<2 ^ 64→CPow i j:=fun i j x y z=>⟨x,by omega,z⟩
 refine⟨_,(qZ (qI (i:=2) jO.nd rfl (by wtm_at "zo") (qU jR (qU zI (qU zI (qU kK (pv 0) (qU qHm qD qD)) (qU jR qD (pv 1))) qD) qD))
  (qZ (qI (i:=2) jO.nd rfl (by wtm_at "zo") (qU kK (pv 2) qD))
  (qZ (qI (i:=2) jO.nd rfl (by wtm_at "zo") (qU kK (qU zI (qU zI (qU jR (pv 2) (pv 2)) (qU jR qD (pv 1))) qD) qD))
  (qJ (qM (qU qKi (qU kK (qU jR (pv 2) (pv 2)) qD) qD)))))),?_⟩
 have b1:=qHn (a:=7919) (b:=k) (c:=7919) (d:=1000000) (by decide) h0 (Int.le_refl _) h1
 have b2:=qHn (a:=104729) (b:=k) (c:=104729) (d:=1000000) (by decide) h0 (Int.le_refl _) h1
 have kb:k.natAbs<2 ^ 1000:=big _ h0 (Int.lt_of_le_of_lt h1 (by decide +kernel))
 wtm_at "zw"
 refine w_I (pw 10 60 (by decide) (by decide) (by decide)) ?_
 refine w_I (show(0:Int)<10 ^ 60 by decide +kernel) ?_
 wtm_at "zw"
 refine w_I ⟨by decide +kernel,kb⟩ ?_
 wtm_at "zw"
 refine w_I ⟨big _ (by show 0≤c % 10 ^ 60+7919 * k+1;omega) ?_,by decide +kernel⟩ ?_
 ·show c % 10 ^ 60+7919 * k+1<10 ^ 200
  have e:(10:Int) ^ 60+7919 * 1000000+1<10 ^ 200:=by decide +kernel
  generalize (10:Int) ^ 60=u at *
  generalize (10:Int) ^ 200=v at *
  omega
 wtm_at "zw"
 refine w_I (show(0:Int)<bigM by decide) ?_
 wtm_at "zw"
 have m2:=qCq (stir1 c k)
 refine w_I ⟨m2,m2⟩ ?_
 wtm_at "zw"
 refine w_I ⟨by decide +kernel,kb⟩ ?_
 wtm_at "zw"
 refine w_I (show(0:Int)<bigM by decide) ?_
 wtm_at "zw"
 have m3:=qCq (stir2 c k * stir2 c k+104729 * k+1)
 refine w_I ⟨m3,m3⟩ ?_
 wtm_at "zw"
 refine w_I (show(0:Int)<bigM by decide) ?_
 wtm_at "zw"
 refine w_I ⟨by decide,by decide +kernel⟩ ?_
 exact q
theorem qZv:xM ["cell"] ["cell"] (xW (top 30)):=⟨rfl,rfl,rfl,by decide +kernel,rfl,by decide +kernel,by decide +kernel⟩
structure S3 where
 a:Int
 c:Int
 n:Nat
noncomputable def St3 (H:Hp)(p:Addr)(s:S3):Prop:=H p=some (.lst [.int s.a,.int s.c,.int s.n])
noncomputable def stateM (c:Int):S3:=⟨c - 10 ^ 18,c,0⟩
noncomputable def qWn:Sp:=fun vs H Q _=>∃c:Int,vs=[.int c]∧∀(p:Addr) (H':Hp),H p=none→Same H H'→St3 H' p (stateM c)→Q (.ref p) H'
theorem qGf (F:Fd K mg "_law_state" (top 30) ["cell"]):Dn P w K mg base "_law_state" 1 ["cell"] qWn:=by
 refine F.ok qZv (fun vs H Q E h=>?_) (fun f cdv A outer s H vs Q E hr h=>?_)
 ·obtain⟨c,rfl,_⟩:=h
  rfl
 obtain⟨c,rfl,q⟩:=h
 refine⟨_,(qJ (qM (zK (qQ (qU kY (pv 0) (qU qHm qD qD)) (qQ (pv 0) (qQ qD qX)))))),?_⟩
 have pw:∀i j:Int,0≤j→j≤1000→i.natAbs<2 ^ 64→CPow i j:=fun i j x y z=>⟨x,by omega,z⟩
 wtm_at "zw"
 refine w_I (pw 10 18 (by decide) (by decide) (by decide)) ?_
 wtm_at "zw"
 exact⟨xD (show 3≤1000000 by decide),fun p hp=>q p _ hp (qK hp _) qV⟩
theorem vR:xM ["state","many","found"] ["state","many"] (xW (top 31)):=⟨rfl,rfl,rfl,by decide +kernel,rfl,by decide +kernel,by decide +kernel⟩
noncomputable def takeV (s:S3)(m:Int):Int:=if 0≤s.a then s.a % m else stirM s.c (s.n+1:Nat) % m
noncomputable def takeS (s:S3)(m:Int):S3:=⟨if 0≤s.a then s.a / m else s.a,s.c,s.n+1⟩
theorem vW (s:S3){m:Int}(h:0<m):0≤takeV s m∧takeV s m<m:=by
 unfold takeV
 split
 ·exact⟨Int.emod_nonneg _ (by omega),Int.emod_lt_of_pos _ h⟩
 ·exact⟨Int.emod_nonneg _ (by omega),Int.emod_lt_of_pos _ h⟩
noncomputable def But1 (p:Addr)(H H':Hp):Prop:=∀b o,b≠p→H b=some o→H' b=some o
noncomputable def spTake:Sp:=fun vs H Q _=>∃(p:Addr) (s:S3) (m:Int),vs=[.ref p,.int m]∧St3 H p s∧0<m∧m.natAbs<2 ^ 1000∧s.n≤999999∧∀H':Hp,But1 p H H'→St3 H' p (takeS s m)→Q (.int (takeV s m)) H'
theorem qNz (F:Fd K mg "_law_take" (top 31) ["state","many"])(D_law_stir:Dn P w K mg base "_law_stir" 1 ["cell","k"] spStir):Dn P w K mg base "_law_take" 2 ["state","many"] spTake:=by
 refine F.ok vR (fun vs H Q E h=>?_) (fun f cdv A outer s H vs Q E hr h=>?_)
 ·obtain⟨_,_,_,rfl,_⟩:=h
  rfl
 obtain⟨p,s,m,rfl,es,m0,m1,ns,q⟩:=h
 unfold St3 at es
 refine⟨_,(qZ (qN (qU zI (xE (qS (K:=K)) (pv 0) qD (fun _ _=>rfl)) qD) (qHi (pv 0) qD qKj))
  (qZ (zG (qP qPe (xE (qS (K:=K)) (pv 0) qD (fun _ _=>rfl)) qD (xC _)) (qZ (qI (i:=2) vR.nd rfl (by wtm_at "zo") (qU kK (xE (qS (K:=K)) (pv 0) qD (fun _ _=>rfl)) (pv 1)))
  (qZ (qN (qU qKi (xE (qS (K:=K)) (pv 0) qD (fun _ _=>rfl)) (pv 1)) (qHi (pv 0) qD qKj))
  (qJ (qM (pv 2))))) qY)
  (qJ (qM (qU kK (qC D_law_stir hr (qQ (xE (qS (K:=K)) (pv 0) qD (fun _ _=>rfl)) (qQ (xE (qS (K:=K)) (pv 0) qD (fun _ _=>rfl)) qX))) (pv 1)))))),?_⟩
 wtm_at "zw"
 refine⟨_,rfl,p,_,2,2,rfl,rfl,es,rfl,?_⟩
 have e1:upd H p (.lst ([V.int s.a,.int s.c,.int s.n].set 2 (.int (s.n+1)))) p=some (.lst [.int s.a,.int s.c,.int (s.n+1)]):=qV
 have S1:But1 p H (upd H p (.lst ([V.int s.a,.int s.c,.int s.n].set 2 (.int (s.n+1))))):=fun b o n e=>by rw[qW n];exact e
 generalize upd H p (.lst ([V.int s.a,.int s.c,.int s.n].set 2 (.int (s.n+1))))=H1 at e1 S1 ⊢
 unfold takeV takeS at q
 wtm_at "zw"
 by_cases h:0≤s.a
 ·rw[if_pos h,if_pos h] at q
  rw[decide_eq_true h]
  refine iteT ?_
  wtm_at "zw"
  refine w_I m0 ?_
  wtm_at "zw"
  refine w_I ⟨m0,m1⟩ ?_
  refine⟨_,rfl,p,_,0,0,rfl,rfl,e1,rfl,?_⟩
  wtm_at "zw"
  exact q _ (fun b o n e=>by rw[qW n];exact S1 b o n e) qV
 ·rw[if_neg h,if_neg h] at q
  rw[decide_eq_false h]
  refine iteF ?_
  wtm_at "zw"
  refine⟨s.c,s.n+1,rfl,by omega,by omega,?_⟩
  wtm_at "zw"
  refine w_I m0 ?_
  exact q _ S1 e1

theorem qYq {α:Type}{F:α→V→Prop}{H:Hp}{xs:List α}{us:List V}{b p:Addr}{s:S3}(hp:Paired F xs us)(hF:∀x u,F x u→∃a,u=.ref a)(e:H b=some (.lst us))(ep:St3 H p s):b≠p:=fun z=>by
 subst z
 unfold St3 at ep
 rw[e] at ep
 have:=HO.lst.inj (Option.some.inj ep)
 subst this
 cases hp with
 | cons h _=>obtain⟨a,q⟩:=hF _ _ h;cases q
theorem qWb {H H':Hp}{p:Addr}{s:S3}(B:But1 p H H')(ep:St3 H p s):Tups H H':=fun b xs e=>B _ _ (fun z=>by subst z;unfold St3 at ep;rw[e] at ep;cases ep) e
theorem WAt.but1 {H H':Hp}{p:Addr}{s:S3}{W:Wd}{bx dx lx:Addr}{bv gv:V}(B:But1 p H H')(ep:St3 H p s)(x:WAt H W bx dx lx bv gv):WAt H' W bx dx lx bv gv:=by
 have T:=qWb B ep
 obtain⟨u1,e1,p1⟩:=x.boxes
 obtain⟨u2,e2,p2⟩:=x.deeds
 obtain⟨u3,e3,p3⟩:=x.looks
 exact⟨⟨u1,B _ _ (qYq p1 (fun _ _ ⟨a,e,_⟩=>⟨a,e⟩) e1 ep) e1,xJ T p1⟩,⟨u2,B _ _ (qYq p2 (fun _ _ ⟨a,_,_,_,e,_⟩=>⟨a,e⟩) e2 ep) e2,Paired.mapP p2 fun d u ⟨a,nv,wa,us,e,q,r,q2,pw⟩=>⟨a,nv,wa,us,e,T _ _ q,r.mono T,B _ _ (qYq pw (fun _ _ ⟨a,_,e,_⟩=>⟨a,e⟩) q2 ep) q2,Paired.mapP pw fun _ _ ⟨a,us,e,q,pc⟩=>⟨a,us,e,B _ _ (qYq pc (fun _ _ ⟨a,_,e,_⟩=>⟨a,e⟩) q ep) q,Paired.mapP pc fun _ _ y=>y.tups T⟩⟩⟩,⟨u3,B _ _ (qYq p3 (fun _ _ ⟨a,_,e,_⟩=>⟨a,e⟩) e3 ep) e3,Paired.mapP p3 fun _ _ ⟨a,v,e,q,r⟩=>⟨a,v,e,T _ _ q,r.mono T⟩⟩,x.beg.mono T,x.goal.mono T⟩
theorem NdAt.tups {H H':Hp}{n:Nd}{u:V}(h:NdAt H n u)(T:Tups H H'):NdAt H' n u:=by
 cases n with
 | fin=>obtain⟨a,e,h⟩:=h;exact⟨a,e,T _ _ h⟩
 | act x to=>obtain⟨a,e,h⟩:=h;exact⟨a,e,T _ _ h⟩
 | see x fs=>obtain⟨a,p,us,e,h,h2,h3⟩:=h;exact⟨a,p,us,e,T _ _ h,T _ _ h2,Paired.mapP h3 fun _ _ ⟨a,h1,h2⟩=>⟨a,h1,T _ _ h2⟩⟩
theorem NdAt.isRef {H:Hp}{n:Nd}{u:V}(h:NdAt H n u):∃a,u=.ref a:=by
 cases n with
 | fin=>obtain⟨a,e,h⟩:=h;exact⟨a,e⟩
 | act x to=>obtain⟨a,e,h⟩:=h;exact⟨a,e⟩
 | see x fs=>obtain⟨a,p,us,e,h,h2,h3⟩:=h;exact⟨a,e⟩
theorem qDa {H:Hp}{A R:List (Str×Int)}{us vs:List V}(pu:Paired (StepIn H) A us)(pv:Paired (StepIn H) (A++R) vs):us.length=(vs.take A.length).length∧∀(j:Nat) x y,us[j]? = some x→(vs.take A.length)[j]? = some y→DEq K H 1 x y:=by
 have l1:=pu.length
 have l2:=pv.length
 rw[List.length_append] at l2
 refine⟨by rw[List.length_take];omega,fun j x y e1 e2=>?_⟩
 have hj:j<A.length:=by rw[l1];exact(List.getElem?_eq_some_iff.mp e1).1
 rw[List.getElem?_take,if_pos hj] at e2
 obtain⟨z,ez⟩:∃z,A[j]? = some z:=⟨_,List.getElem?_eq_getElem hj⟩
 obtain⟨a,rfl,ea⟩:=xY pu ez e1
 obtain⟨b,rfl,eb⟩:=xY pv (by rw[List.getElem?_append_left hj];exact ez) e2
 refine .tup (SqT.of ea) (SqT.of eb) rfl fun i u v h1 h2=>?_
 match i with
 | 0=>cases h1;cases h2;exact .str _
 | 1=>cases h1;cases h2;exact .int _
 | i+2=>cases h1
theorem qDb {H:Hp}{n:Nat}{A:List (Str×Int)}{a b:Addr}{us vs:List V}(ea:H a=some (.lst us))(eb:H b=some (.lst vs))(pu:Paired (StepIn H) A us)(pv:Paired (StepIn H) A vs):DEq K H 2 (.ref a) (.ref b):=by
 have d:=qDa (K:=K) (R:=[]) pu (by rw[List.append_nil];exact pv)
 rw[pv.length,List.take_length] at d
 exact .lst (SqL.of ea) (SqL.of eb) d.1 d.2
theorem qKo {H:Hp}{vals:List Int}{a b:Addr}(ea:H a=some (.tup (intsV vals)))(eb:H b=some (.tup (intsV vals))):DEq K H 2 (.ref a) (.ref b):=by
 refine .tup (SqT.of ea) (SqT.of eb) rfl fun j u v h1 h2=>?_
 rw[h1] at h2
 cases h2
 rw[List.getElem?_map] at h1
 cases e:vals[j]? with
 | none=>rw[e] at h1;cases h1
 | some z=>rw[e] at h1;cases h1;exact .int _
theorem qRv (x:Str)(v:Int):inV (.str x) [V.str "put",V.str "go",V.str "gone"]=isD (x,v):=by
 show(eqV (.str "put") (.str x) || (eqV (.str "go") (.str x) || (eqV (.str "gone") (.str x) || false)))=decide (x∈dNs)
 have e:∀y:Str,eqV (.str y) (.str x)=decide (x=y):=fun y=>by
  show(y == x)=decide (x=y)
  by_cases h:y=x
  ·subst h;simp
  ·simp[h,Ne.symm h]
 rw[e,e,e]
 unfold dNs
 simp
theorem qGw (n:Nat):(List.replicate n [V.int 0]).flatten=intsV (List.replicate n 0):=by
 induction n with
 | zero=>rfl
 | succ n ih=>rw[List.replicate_succ,List.replicate_succ,List.flatten_cons,ih];rfl
theorem qRb {wr:Int}(h:wr=0∨wr=1):atI [V.str "goal",V.str "short"] wr=some (.str (endOf wr)):=by rcases h with rfl | rfl <;> rfl
theorem qAn {l:List (Str×Int)}{i:Nat}{x:Str×Int}(h:l[i]? = some x):posD 0 (l.take (i+1))=posD 0 (l.take i)++(if isD x=true then [(i:Int)] else []):=by
 have hi:=(List.getElem?_eq_some_iff.mp h).1
 rw[List.take_add_one,h,qKd,List.length_take,Nat.zero_add,Nat.min_eq_left (by omega)]
 show _++(if isD x=true then (i:Int)::[] else [])=_
 rfl
theorem zH:xM ["script","state","sizes","wrong","world","nodes","steps","price","plan","begin","deeds","top","some","end","told","there","rounds","due"] ["script"] (xW (top 34)):=⟨rfl,rfl,rfl,by decide +kernel,rfl,by decide +kernel,by decide +kernel⟩
theorem qDo:CompOk (xW (top 34)) ["script","state","sizes","wrong","world","nodes","steps","price","plan","begin","deeds","top","some","end","told","there","rounds","due"] (scAt (xA (top 34)) [1] []) ["k","state"] 1 [1]:=
 ⟨by decide +kernel,by decide +kernel,by decide +kernel,by decide +kernel,by decide +kernel,by decide +kernel,by decide +kernel,by decide +kernel⟩
theorem qDn:CompOk (xW (top 34)) ["script","state","sizes","wrong","world","nodes","steps","price","plan","begin","deeds","top","some","end","told","there","rounds","due"] (scAt (xA (top 34)) [6] [1]) ["size"] 1 []:=
 ⟨by decide +kernel,by decide +kernel,by decide +kernel,by decide +kernel,by decide +kernel,by decide +kernel,by decide +kernel,by decide +kernel⟩
theorem qDm:CompOk (xW (top 34)) ["script","state","sizes","wrong","world","nodes","steps","price","plan","begin","deeds","top","some","end","told","there","rounds","due"] (scAt (xA (top 34)) [7] []) ["k","steps"] 1 [6]:=
 ⟨by decide +kernel,by decide +kernel,by decide +kernel,by decide +kernel,by decide +kernel,by decide +kernel,by decide +kernel,by decide +kernel⟩
theorem qDl:CompOk (xW (top 34)) ["script","state","sizes","wrong","world","nodes","steps","price","plan","begin","deeds","top","some","end","told","there","rounds","due"] (scAt (xA (top 34)) [8] [1]) ["size"] 1 []:=
 ⟨by decide +kernel,by decide +kernel,by decide +kernel,by decide +kernel,by decide +kernel,by decide +kernel,by decide +kernel,by decide +kernel⟩
theorem qDi:CompOk (xW (top 34)) ["script","state","sizes","wrong","world","nodes","steps","price","plan","begin","deeds","top","some","end","told","there","rounds","due"] (scAt (xA (top 34)) [11] [4]) ["k"] 1 []:=
 ⟨by decide +kernel,by decide +kernel,by decide +kernel,by decide +kernel,by decide +kernel,by decide +kernel,by decide +kernel,by decide +kernel⟩
noncomputable def spLaw (K:PySem.W.Frag):Sp:=fun vs H Q _=>∃(a:Addr) (ns:List Int),vs=[.ref a]∧SqL K H a (ns.map V.int)∧ns.length≤63∧∀H',Q (.bl true) H'
structure LawC (H:Hp)(szs:List Int)(wr:Int)(wa bx dx lx:Addr)(bv gv:V)(bt:Addr):Prop where
 hsz:Sz szs
 hwr:wr=0∨wr=1
 hwa:H wa=some (.tup [.ref bx,.ref dx,.ref lx,bv,gv])
 at':WAt H (W24 szs wr) bx dx lx bv gv
 hbt:H bt=some (.tup (intsV (xG szs)))
theorem LawC.same {H H':Hp}{szs:List Int}{wr:Int}{wa bx dx lx:Addr}{bv gv:V}{bt:Addr}(h:LawC H szs wr wa bx dx lx bv gv bt)(S:Same H H'):LawC H' szs wr wa bx dx lx bv gv bt:=⟨h.hsz,h.hwr,S _ _ h.hwa,h.at'.same S,S _ _ h.hbt⟩
theorem qSd {f:Addr}{cdv:Value}{A:Around}{outer:List Env}{s:Shared}{H:Hp}{E:XK}(hr:Room 59 (A.deeper (PyProof.Rows.envOfC "law" (xW (top 34)) s.heap.objs.size f cdv)))(D_plan_of:Dn P w K mg base "plan_of" 4 ["world","nodes"] spPlan)(D_run:Dn P w K mg base "run" 31 ["world","plan","standing","choices"] spRun):
  ∃u,PSs (cxOf CX0 P w K mg base ["script","state","sizes","wrong","world","nodes","steps","price","plan","begin","deeds","top","some","end","told","there","rounds","due"] "law" (xW (top 34)) f cdv A outer s H E).nox ((xA (top 34)).drop 13) u∧
   ∀(D:Ends) (HE:Hp) (szs:List Int) (wr:Int) (wa bx dx lx:Addr) (bv gv:V) (bt:Addr) (o0 o1 o2 o3 o5 o6 o7 o8 o10 o11 o12 o13 o14 o15 o16 o17:Option V),LawC HE szs wr wa bx dx lx bv gv bt→(∀H',D.rt (.bl true) H')→u D [o0,o1,o2,o3,some (.ref wa),o5,o6,o7,o8,some (.ref bt),o10,o11,o12,o13,o14,o15,o16,o17] HE:=by
 refine⟨_,(qZ (qI (i:=16) zH.nd rfl (by wtm_at "zo") (zK (qQ (xI (qQ qE (qQ qE (qQ (xI (qQ (xI (qQ qD (qQ qD qX))) qX)) qX)))) (qQ (xI (qQ qE (qQ qE (qQ (xI (qQ (xI (qQ qD (qQ qD qX))) qX)) qX)))) (qQ (xI (qQ qE (qQ qE (qQ (xI (qQ (xI (qQ qD (qQ qD qX))) qX)) qX)))) qX)))))
  (qZ (qI (i:=17) zH.nd rfl (by wtm_at "zo") (xI (qQ qE (qQ (zK (qQ (xI (qQ qE (qQ qD qX))) (qQ (xI (qQ qE (qQ qD qX))) (qQ (xI (qQ qE (qQ qD qX))) qX)))) (qQ (pv 9) qX)))))
  (qJ (qM (kU (qMe (K:=K) hr.units) (qC D_run hr (qQ (pv 4) (qQ (qC D_plan_of hr (qQ (pv 4) (qQ (pv 16) qX))) (qQ (pv 9) (qQ (zK (qQ qD qX)) qX))))) (pv 17) (xC _)))))),?_⟩
 intro D HE szs wr wa bx dx lx bv gv bt o0 o1 o2 o3 o5 o6 o7 o8 o10 o11 o12 o13 o14 o15 o16 o17 LC q
 obtain⟨hs,hw,ewaE,watE,ebtE⟩:=LC
 have wok:=wok24 hs hw
 have z0:=InR.zeros (ss:=szs) fun s hs'=>(hs.b s hs').1
 wtm_at "zw"
 refine⟨xD (show 2≤1000000 by decide),fun a1 ha1=>?_⟩
 have Sa1:=qK ha1 (.tup [V.int 0,V.int 1])
 have ea1:upd HE a1 (.tup [V.int 0,V.int 1]) a1=some (.tup [V.int 0,V.int 1]):=qV
 generalize upd HE a1 (.tup [V.int 0,V.int 1])=O1 at Sa1 ea1
 wtm_at "zw"
 refine⟨xD (show 1≤1000000 by decide),fun a2 ha2=>?_⟩
 have Sa2:=qK ha2 (.tup [V.ref a1])
 have ea2:upd O1 a2 (.tup [V.ref a1]) a2=some (.tup [V.ref a1]):=qV
 generalize upd O1 a2 (.tup [V.ref a1])=O2 at Sa2 ea2
 wtm_at "zw"
 refine⟨xD (show 3≤1000000 by decide),fun a3 ha3=>?_⟩
 have Sa3:=qK ha3 (.tup [V.str "look",V.str "see",V.ref a2])
 have ea3:upd O2 a3 (.tup [V.str "look",V.str "see",V.ref a2]) a3=some (.tup [V.str "look",V.str "see",V.ref a2]):=qV
 generalize upd O2 a3 (.tup [V.str "look",V.str "see",V.ref a2])=O3 at Sa3 ea3
 wtm_at "zw"
 refine⟨xD (show 2≤1000000 by decide),fun b1 hb1=>?_⟩
 have Sb1:=qK hb1 (.tup [V.int 0,V.int 2])
 have eb1:upd O3 b1 (.tup [V.int 0,V.int 2]) b1=some (.tup [V.int 0,V.int 2]):=qV
 generalize upd O3 b1 (.tup [V.int 0,V.int 2])=O4 at Sb1 eb1
 wtm_at "zw"
 refine⟨xD (show 1≤1000000 by decide),fun b2 hb2=>?_⟩
 have Sb2:=qK hb2 (.tup [V.ref b1])
 have eb2:upd O4 b2 (.tup [V.ref b1]) b2=some (.tup [V.ref b1]):=qV
 generalize upd O4 b2 (.tup [V.ref b1])=O5 at Sb2 eb2
 wtm_at "zw"
 refine⟨xD (show 3≤1000000 by decide),fun b3 hb3=>?_⟩
 have Sb3:=qK hb3 (.tup [V.str "look",V.str "see",V.ref b2])
 have eb3:upd O5 b3 (.tup [V.str "look",V.str "see",V.ref b2]) b3=some (.tup [V.str "look",V.str "see",V.ref b2]):=qV
 generalize upd O5 b3 (.tup [V.str "look",V.str "see",V.ref b2])=O6 at Sb3 eb3
 wtm_at "zw"
 refine⟨xD (show 2≤1000000 by decide),fun c3 hc3=>?_⟩
 have Sc3:=qK hc3 (.tup [V.int 0,V.int 1])
 have ec3:upd O6 c3 (.tup [V.int 0,V.int 1]) c3=some (.tup [V.int 0,V.int 1]):=qV
 generalize upd O6 c3 (.tup [V.int 0,V.int 1])=O7 at Sc3 ec3
 wtm_at "zw"
 refine⟨xD (show 1≤1000000 by decide),fun c4 hc4=>?_⟩
 have Sc4:=qK hc4 (.tup [V.ref c3])
 have ec4:upd O7 c4 (.tup [V.ref c3]) c4=some (.tup [V.ref c3]):=qV
 generalize upd O7 c4 (.tup [V.ref c3])=O8 at Sc4 ec4
 wtm_at "zw"
 refine⟨xD (show 3≤1000000 by decide),fun c5 hc5=>?_⟩
 have Sc5:=qK hc5 (.tup [V.str "look",V.str "see",V.ref c4])
 have ec5:upd O8 c5 (.tup [V.str "look",V.str "see",V.ref c4]) c5=some (.tup [V.str "look",V.str "see",V.ref c4]):=qV
 generalize upd O8 c5 (.tup [V.str "look",V.str "see",V.ref c4])=O9 at Sc5 ec5
 wtm_at "zw"
 refine⟨xD (show 3≤1000000 by decide),fun rl hrl=>?_⟩
 have Srl:=qK hrl (.lst [V.ref a3,V.ref b3,V.ref c5])
 have erl:upd O9 rl (.lst [V.ref a3,V.ref b3,V.ref c5]) rl=some (.lst [V.ref a3,V.ref b3,V.ref c5]):=qV
 generalize upd O9 rl (.lst [V.ref a3,V.ref b3,V.ref c5])=P0 at Srl erl
 have q9:=Srl
 have q8:=Sc5.trans q9
 have q7:=Sc4.trans q8
 have q6:=Sc3.trans q7
 have q5:=Sb3.trans q6
 have q4:=Sb2.trans q5
 have q3:=Sb1.trans q4
 have q2:=Sa3.trans q3
 have q1:=Sa2.trans q2
 have q0:=Sa1.trans q1
 have pr:Paired (NdAt P0) rounds [V.ref a3,V.ref b3,V.ref c5]:=.cons ⟨a3,a2,_,rfl,q3 _ _ ea3,q2 _ _ ea2,.cons ⟨a1,rfl,q1 _ _ ea1⟩ .nil⟩ (.cons ⟨b3,b2,_,rfl,q6 _ _ eb3,q5 _ _ eb2,.cons ⟨b1,rfl,q4 _ _ eb1⟩ .nil⟩ (.cons ⟨c5,c4,_,rfl,q9 _ _ ec5,q8 _ _ ec4,.cons ⟨c3,rfl,q7 _ _ ec3⟩ .nil⟩ .nil))
 have SEP:=q0
 wtm_at "zw"
 refine⟨xD (show 2≤1000000 by decide),fun d1 hd1=>?_⟩
 have Sd1:=qK hd1 (.tup [V.str "see",V.int 0])
 have ed1:upd P0 d1 (.tup [V.str "see",V.int 0]) d1=some (.tup [V.str "see",V.int 0]):=qV
 generalize upd P0 d1 (.tup [V.str "see",V.int 0])=P1 at Sd1 ed1
 wtm_at "zw"
 refine⟨xD (show 2≤1000000 by decide),fun d2 hd2=>?_⟩
 have Sd2:=qK hd2 (.tup [V.str "see",V.int 0])
 have ed2:upd P1 d2 (.tup [V.str "see",V.int 0]) d2=some (.tup [V.str "see",V.int 0]):=qV
 generalize upd P1 d2 (.tup [V.str "see",V.int 0])=P2 at Sd2 ed2
 wtm_at "zw"
 refine⟨xD (show 2≤1000000 by decide),fun d3 hd3=>?_⟩
 have Sd3:=qK hd3 (.tup [V.str "see",V.int 0])
 have ed3:upd P2 d3 (.tup [V.str "see",V.int 0]) d3=some (.tup [V.str "see",V.int 0]):=qV
 generalize upd P2 d3 (.tup [V.str "see",V.int 0])=P3 at Sd3 ed3
 wtm_at "zw"
 refine⟨xD (show 3≤1000000 by decide),fun d4 hd4=>?_⟩
 have Sd4:=qK hd4 (.lst [V.ref d1,V.ref d2,V.ref d3])
 have ed4:upd P3 d4 (.lst [V.ref d1,V.ref d2,V.ref d3]) d4=some (.lst [V.ref d1,V.ref d2,V.ref d3]):=qV
 generalize upd P3 d4 (.lst [V.ref d1,V.ref d2,V.ref d3])=P4 at Sd4 ed4
 wtm_at "zw"
 refine⟨xD (show 3≤1000000 by decide),fun d5 hd5=>?_⟩
 have Sd5:=qK hd5 (.tup [V.str "round",V.ref d4,V.ref bt])
 have ed5:upd P4 d5 (.tup [V.str "round",V.ref d4,V.ref bt]) d5=some (.tup [V.str "round",V.ref d4,V.ref bt]):=qV
 generalize upd P4 d5 (.tup [V.str "round",V.ref d4,V.ref bt])=P5 at Sd5 ed5
 have S05:Same P0 P5:=Sd1.trans (Sd2.trans (Sd3.trans (Sd4.trans Sd5)))
 have pdue:Paired (StepIn P5) [(Str.ofString "see",0),(Str.ofString "see",0),(Str.ofString "see",0)] [V.ref d1,V.ref d2,V.ref d3]:=.cons ⟨d1,rfl,Sd5 _ _ (Sd4 _ _ (Sd3 _ _ (Sd2 _ _ ed1)))⟩ (.cons ⟨d2,rfl,Sd5 _ _ (Sd4 _ _ (Sd3 _ _ ed2))⟩ (.cons ⟨d3,rfl,Sd5 _ _ (Sd4 _ _ ed3)⟩ .nil))
 have SE5:=SEP.trans S05
 have rok:=qAd (wr:=wr) hs
 wtm_at "zw"
 refine⟨.ref wa,W24 szs wr,rl,_,rounds,rfl,⟨wa,bx,dx,lx,bv,gv,rfl,SE5 _ _ ewaE,watE.same SE5,wok⟩,S05 _ _ erl,Paired.mapP pr fun _ _ y=>NdAt.same y S05,rok,fun pl2 P6 hpl2 S56 epl2=>?_⟩
 wtm_at "zw"
 refine⟨xD (show 1≤1000000 by decide),fun f5 hf5=>?_⟩
 have Sf5:=qK hf5 (.lst [V.int 5])
 have ef5:upd P6 f5 (.lst [V.int 5]) f5=some (.lst [V.int 5]):=qV
 generalize upd P6 f5 (.lst [V.int 5])=P7 at Sf5 ef5
 have S57:=S56.trans Sf5
 have SE7:=SE5.trans S57
 obtain⟨s3,hrun3,hst3,hv3⟩:=qAb (wr:=wr) (chs:=[5]) hs z0 (qXo 0)
 wtm_at "zw"
 refine⟨W24 szs wr,wa,pl2,bx,dx,lx,bv,gv,_,rounds,bt,f5,xG szs,[5],4,Str.ofString "round",s3,rfl,SE7 _ _ ewaE,watE.same SE7,wok,Sf5 _ _ epl2,Paired.mapP pr fun _ _ y=>NdAt.same y (S05.trans S57),rok.nsOk,rok.few,rok.ne,rok.le,⟨SE7 _ _ ebtE,z0.fits⟩,ef5,by decide,hrun3,fun r6 sp6 st6 su6 P8 S78' er6 _ _ esp6 pst6 est6=>?_⟩
 rw[hst3] at pst6
 rw[hv3] at est6
 have S58:=S57.trans S78'
 have SE8:=SE7.trans S78'
 wtm_at "zw"
 refine⟨2,r6,d5,_,_,by decide,rfl,rfl,SqT.of er6,SqT.of (S58 _ _ ed5),rfl,fun j x y h1 h2=>?_,q _⟩
 match j with
 | 0=>cases h1;cases h2;exact .str _
 | 1=>cases h1;cases h2;exact qDb (n:=0) esp6 (S58 _ _ (Sd5 _ _ ed4)) pst6 (xR pdue S58)
 | 2=>cases h1;cases h2;exact qKo est6 (SE8 _ _ ebtE)
 | j+3=>cases h1
structure LawB (K:PySem.W.Frag)(H0 H:Hp)(p:Addr)(S:S3)(a:Addr)(ns:List Int)(szs:List Int)(wr:Int)(wa bx dx lx:Addr)(bv gv:V)(pl:Addr)(nu:List V)(bt sl:Addr)(su:List V)(dl tp:Addr):Prop where
 hc:LawC H szs wr wa bx dx lx bv gv bt
 hsa:Same H0 H
 hnp:H0 p=none
 hsc:SqL K H0 a (intsV ns)
 hst:St3 H p S
 hn:S.n≤5
 hpl:H pl=some (.lst nu)
 hpn:Paired (NdAt H) (plan24 szs) nu
 hsl:H sl=some (.lst su)
 hps:Paired (StepIn H) (allT szs) su
 hdl:H dl=some (.lst (intsV (posD 0 (allT szs))))
 hnd:dl≠p
 htp:H tp=some (.tup (intsV (szs.map (· - 1))))
theorem qSe {f:Addr}{cdv:Value}{A:Around}{outer:List Env}{s:Shared}{H:Hp}{E:XK}(hr:Room 59 (A.deeper (PyProof.Rows.envOfC "law" (xW (top 34)) s.heap.objs.size f cdv)))(B:Bl mg)(D_law_cell:Dn P w K mg base "_law_cell" 1 ["script","k"] (spCell K))(D_law_stir:Dn P w K mg base "_law_stir" 1 ["cell","k"] spStir)(D_law_take:Dn P w K mg base "_law_take" 2 ["state","many"] spTake)(D_plan_of:Dn P w K mg base "plan_of" 4 ["world","nodes"] spPlan)(D_run:Dn P w K mg base "run" 31 ["world","plan","standing","choices"] spRun):
  ∃u,PSs (cxOf CX0 P w K mg base ["script","state","sizes","wrong","world","nodes","steps","price","plan","begin","deeds","top","some","end","told","there","rounds","due"] "law" (xW (top 34)) f cdv A outer s H E).nox ((xA (top 34)).drop 9) u∧
   ∀(D:Ends) (H0 HC:Hp) (p:Addr) (S4:S3) (a:Addr) (ns:List Int) (szs:List Int) (wr:Int) (wa bx dx lx:Addr) (bv gv:V) (pl:Addr) (nu:List V) (bt sl:Addr) (su:List V) (dl tp:Addr) (o2 o5 o7:Option V),LawB K H0 HC p S4 a ns szs wr wa bx dx lx bv gv pl nu bt sl su dl tp→(∀H',D.rt (.bl true) H')→u D [some (.ref a),some (.ref p),o2,some (.int wr),some (.ref wa),o5,some (.ref sl),o7,some (.ref pl),some (.ref bt),some (.ref dl),some (.ref tp),none,none,none,none,none,none] HC:=by
 obtain⟨uc,hc,qc⟩:=qSd (P:=P) (w:=w) (K:=K) (mg:=mg) (base:=base) (outer:=outer) (H:=H) (E:=E) hr D_plan_of D_run
 refine⟨_,(qZ (zG (qP (qMb (K:=K) hr.units) (qC D_run hr (qQ (pv 4) (qQ (pv 8) (qQ (pv 9) (qQ (qU qPw (zK (qQ qD qX)) (qU zI (xX (zX (K:=K)) rfl B.len' jC (qQ (pv 10) qX)) (qC D_law_take hr (qQ (pv 1) (qQ qD qX))))) qX))))) (xI (qQ (xE (qS (K:=K)) (zK (qQ qE (qQ qE qX))) (pv 3) (fun _ _=>rfl)) (qQ (pv 6) (qQ (pv 11) qX)))) (xC _)) (qJ (qM qBa)) qY)
  (qZ (qI (i:=12) zH.nd rfl (by wtm_at "zo") (qU kK (qC D_law_stir hr (qQ (qC D_law_cell hr (qQ (pv 0) (qQ qD qX))) (qQ qD qX))) (xX (zX (K:=K)) rfl B.len' jC (qQ (pv 10) qX))))
  (qZ (qN (qC D_run hr (qQ (pv 4) (qQ (pv 8) (qQ (pv 9) (qQ (jV rfl qDi (jQ rfl B.range' (qQ (pv 12) qX)) (fun cl fp s H=>(qF (i:=0) qDi.nd rfl (Or.inl rfl) (.inr rfl))) (fun cl fp s H=>zE) (fun cl fp s H=>(qU jR qD (pv 0)))) qX))))) (kT (K:=K) (n:=3) rfl (qG (qF (i:=13) zH.nd rfl (by wtm_at "zo")) (qG (qF (i:=14) zH.nd rfl (by wtm_at "zo")) (qG (qF (i:=15) zH.nd rfl (by wtm_at "zo")) qH)))))
  (qZ (zG (PW.pt (qSj (qP qPb (pv 13) qE (xC _)) (qOo (qP (qMc (K:=K) hr.units) (pv 14) (qKe (qKz (K:=K)) (pv 6) qBq (qAo (xE (qS (K:=K)) (pv 10) (pv 12) (fun _ _=>rfl)))) (xC _))))) (qJ (qM qBa)) qY)
  hc)))),?_⟩
 intro D H0 HC p S4 a ns szs wr wa bx dx lx bv gv pl nu bt sl su dl tp o2 o5 o7 LB q
 obtain⟨⟨hs,hw,ewaC,watC,ebtC⟩,S0C,np,hS,e4C,n4,eplC,pnC,eslC,pstC,edlC,npdl,etpC⟩:=LB
 have wok:=wok24 hs hw
 have z0:=InR.zeros (ss:=szs) fun s hs'=>(hs.b s hs').1
 have l3:=hs.l3
 have l1:=hs.l1
 have lsu:su.length=(allT szs).length:=pstC.length.symm
 have r124:remR szs (xG szs)≤124:=by
  have h125:(5:Nat) ^ 3=125:=by decide
  have p3:5 ^ szs.length≤5 ^ 3:=Nat.pow_le_pow_right (by decide) l3
  have rl:remR szs (xG szs)<5 ^ szs.length:=z0.rem_lt fun s hs'=>(hs.b s hs').2
  omega
 wtm_at "zw"
 refine⟨xD (show 1≤1000000 by decide),fun l0 hl0=>?_⟩
 have Sl0:=qK hl0 (.lst [V.int 0])
 have el0:upd HC l0 (.lst [V.int 0]) l0=some (.lst [V.int 0]):=qV
 generalize upd HC l0 (.lst [V.int 0])=HD at Sl0 el0
 have edlD:=Sl0 _ _ edlC
 have lpos:(intsV (posD 0 (allT szs))).length=remR szs (xG szs):=by
  rw[xP,vC]
  exact qEq _ _
 wtm_at "zw"
 rw[lpos]
 have epD:St3 HD p S4:=Sl0 _ _ e4C
 refine⟨p,S4,4,rfl,epD,by decide,by decide +kernel,by omega,fun HE BE eE=>?_⟩
 have t4:=vW S4 (m:=4) (by decide)
 generalize takeV S4 4=x4 at t4
 have TDE:=qWb BE epD
 have npl0:l0≠p:=(qA e4C hl0).symm
 have el0E:=BE _ _ npl0 el0
 have edlE:=BE _ _ npdl edlD
 have pnD:Paired (NdAt HD) (plan24 szs) nu:=Paired.mapP pnC fun _ _ y=>NdAt.same y Sl0
 have pstD:=xR pstC Sl0
 have eslE:=BE _ _ (qYq pstD (fun _ _ ⟨a,e,_⟩=>⟨a,e⟩) (Sl0 _ _ eslC) epD) (Sl0 _ _ eslC)
 have pstE:Paired (StepIn HE) (allT szs) su:=Paired.mapP pstD fun _ _ ⟨a,h1,h2⟩=>⟨a,h1,TDE _ _ h2⟩
 have eplE:=BE _ _ (qYq pnD (fun _ _ h=>h.isRef) (Sl0 _ _ eplC) epD) (Sl0 _ _ eplC)
 have pnE:Paired (NdAt HE) (plan24 szs) nu:=Paired.mapP pnD fun _ _ y=>y.tups TDE
 have watE:=(watC.same Sl0).but1 BE epD
 have ewaE:=TDE _ _ (Sl0 _ _ ewaC)
 have ebtE:=TDE _ _ (Sl0 _ _ ebtC)
 have etpE:=TDE _ _ (Sl0 _ _ etpC)
 have S0E:Same H0 HE:=fun b o e=>BE _ _ (qA e np) (Sl0 _ _ (S0C _ _ e))
 have pok:=qBz (wr:=wr) hs
 wtm_at "zw"
 refine⟨l0,_,_,rfl,rfl,el0E,by omega,by omega,xD (by show 1 * _≤_;omega),fun ch hch=>?_⟩
 rw[qGw]
 have Sch:=qK hch (.lst (intsV (List.replicate ((remR szs (xG szs):Int)+x4).toNat 0)))
 have ech:upd HE ch (.lst (intsV (List.replicate ((remR szs (xG szs):Int)+x4).toNat 0))) ch=some (.lst (intsV (List.replicate ((remR szs (xG szs):Int)+x4).toNat 0))):=qV
 generalize upd HE ch (.lst (intsV (List.replicate ((remR szs (xG szs):Int)+x4).toNat 0)))=HG at Sch ech
 obtain⟨F1,s1,hF1,hrun1,hst1,hv1⟩:=qEo (chs:=List.replicate ((remR szs (xG szs):Int)+x4).toNat 0) hs hw _ (xG szs) 0 [] z0 rfl (fun i hi=>⟨0,by rw[List.getElem?_replicate,if_pos (by omega)],rfl⟩)
 refine⟨W24 szs wr,wa,pl,bx,dx,lx,bv,gv,nu,plan24 szs,bt,ch,xG szs,_,F1,endOf wr,s1,rfl,Sch _ _ ewaE,watE.same Sch,wok,Sch _ _ eplE,Paired.mapP pnE fun _ _ y=>NdAt.same y Sch,pok.nsOk,pok.few,pok.ne,pok.le,⟨Sch _ _ ebtE,z0.fits⟩,ech,by omega,hrun1,fun r1 sp1 st1 su1 HI SI er1 _ _ esp1 pst1 est1=>?_⟩
 rw[hst1] at pst1
 rw[hv1] at est1
 have SEI:=Sch.trans SI
 have aend:=qRb hw
 wtm_at "zw"
 refine⟨xD (show 2≤1000000 by decide),fun gl hgl=>?_⟩
 have Sgl:=qK hgl (.lst [V.str "goal",V.str "short"])
 have egl:upd HI gl (.lst [V.str "goal",V.str "short"]) gl=some (.lst [V.str "goal",V.str "short"]):=qV
 generalize upd HI gl (.lst [V.str "goal",V.str "short"])=HJ at Sgl egl
 wtm_at "zw"
 refine⟨xD (show 3≤1000000 by decide),fun rt hrt=>?_⟩
 have Srt:=qK hrt (.tup [V.str (endOf wr),V.ref sl,V.ref tp])
 have ert:upd HJ rt (.tup [V.str (endOf wr),V.ref sl,V.ref tp]) rt=some (.tup [V.str (endOf wr),V.ref sl,V.ref tp]):=qV
 generalize upd HJ rt (.tup [V.str (endOf wr),V.ref sl,V.ref tp])=HK at Srt ert
 have SIK:=Sgl.trans Srt
 have SEK:=SEI.trans SIK
 refine⟨2,r1,rt,_,_,by decide,rfl,rfl,SqT.of (SIK _ _ er1),SqT.of ert,rfl,fun j x y h1 h2=>?_,?_⟩
 ·match j with
  | 0=>cases h1;cases h2;exact .str _
  | 1=>cases h1;cases h2;exact qDb (n:=0) (SIK _ _ esp1) (SEK _ _ eslE) (xR pst1 SIK) (xR pstE SEK)
  | 2=>cases h1;cases h2;exact qKo (SIK _ _ est1) (SEK _ _ etpE)
  | j+3=>cases h1
 wtm_at "zw"
 have SHK:Same H0 HK:=S0E.trans SEK
 refine⟨a,ns,1,rfl,SHK.seq hS,?_⟩
 wtm_at "zw"
 refine⟨_,1,rfl,by decide,by decide,?_⟩
 have edlK:=SEK _ _ edlE
 wtm_at "zw"
 rw[lpos]
 have tpos:0<remR szs (xG szs):=z0.rem_pos (by
  have e0:atOf szs (szs.map fun _=>0)=0:=qHa (fun s hs'=>(hs.b s hs').1) (fun z=>by rw[z] at l1;exact absurd l1 (by decide))
  rw[e0];omega)
 refine w_I (show(0:Int)<_ by omega) ?_
 generalize hv:stirM (cellM ns 1) 1 % ((remR szs (xG szs):Nat):Int)=v
 have v0:0≤v:=by rw[← hv];exact Int.emod_nonneg _ (by omega)
 have v1:v<((remR szs (xG szs):Nat):Int):=by rw[← hv];exact Int.emod_lt_of_pos _ (by omega)
 obtain⟨j,rfl⟩:∃j:Nat,v=(j:Int):=⟨v.toNat,(Int.toNat_of_nonneg v0).symm⟩
 have hj:j<remR szs (xG szs):=by omega
 wtm_at "zf"
 refine⟨(j:Int),rfl,by omega,by omega,?_⟩
 refine zP (fun D i ys H'=>ys=intsV ((List.range i).map fun k:Nat=>2 * (k:Int))∧Same HK H') (fun D hD=>⟨rfl,qK hD _⟩) (fun D i ys H' N hD hDy hi hP hN=>?_) (fun c2 ys HL hc2 ec2 hP=>?_)
 ·obtain⟨rfl,hk⟩:=hP
  rw[Int.toNat_natCast] at hi
  rw[Int.zero_add]
  refine⟨⟨[some (.int (i:Int))],rfl,rfl⟩,?_⟩
  wtm_at "zw"
  refine qQl ?_
  wtm_at "zw"
  have kbi:(i:Int).natAbs<2 ^ 1000:=by
   have:(1000:Nat)<2 ^ 1000:=by decide +kernel
   omega
  refine w_I ⟨by decide +kernel,kbi⟩ ?_
  refine⟨hDy,by rw[xP,List.length_map,List.length_range];exact small (by omega),hN _ _ qV ⟨?_,fun b o e=>?_⟩⟩
  ·rw[List.range_succ,List.map_append]
   unfold intsV
   rw[List.map_append];rfl
  ·rw[qW (qA e hD)];exact hk _ _ e
 obtain⟨rfl,SKL⟩:=hP
 rw[Int.toNat_natCast] at ec2
 have SEL:=SEK.trans SKL
 obtain⟨F2,s2,hF2,hrun2,hst2⟩:=qEm (wr:=wr) (chs:=(List.range j).map fun k:Nat=>2 * (k:Int)) hs j (xG szs) 0 [] z0 hj (fun i hi=>⟨2 * (i:Int),by rw[Nat.zero_add,List.getElem?_map,List.getElem?_range hi];rfl,by omega⟩) (List.getElem?_eq_none (by rw[List.length_map,List.length_range];omega))
 wtm_at "zw"
 refine⟨W24 szs wr,wa,pl,bx,dx,lx,bv,gv,nu,plan24 szs,bt,c2,xG szs,_,F2,Str.ofString "open",s2,rfl,SEL _ _ ewaE,watE.same SEL,wok,SEL _ _ eplE,Paired.mapP pnE fun _ _ y=>NdAt.same y SEL,pok.nsOk,pok.few,pok.ne,pok.le,⟨SEL _ _ ebtE,z0.fits⟩,ec2,by omega,hrun2,fun r4 sp4 st4 su4 HM SM er4 _ _ esp4 pst4 est4=>?_⟩
 rw[hst2] at pst4
 have SEM:=SEL.trans SM
 obtain⟨x,R,hx,eT⟩:=qVa (szs:=szs) j _ (xG szs) hj
 have apos:atI (intsV (posD 0 (allT szs))) (j:Int)=some (.int ((openM szs j (xG szs)).length:Int)):=by
  have h:=qMx (A:=openM szs j (xG szs)) (R:=R) hx
  rw[qHk,← eT] at h
  exact qEa h
 have edlM:=SEM _ _ edlE
 have eslM:=SEM _ _ eslE
 wtm_at "zw"
 rw[decide_eq_true (show V.str (Str.ofString "open")=V.str (Str.ofString "open") from rfl)]
 refine iteNT ?_
 wtm_at "zw"
 refine⟨sl,_,rfl,SqL.of eslM,fun cl hcl=>?_⟩
 have pstM:=xR pstE SEM
 have lo:(openM szs j (xG szs)).length≤su.length:=by
  rw[lsu]
  show _≤(ticksM szs _ _).length
  rw[eT,List.length_append]
  omega
 rw[qRd lo]
 have Scl:=qK hcl (.lst (su.take (openM szs j (xG szs)).length))
 have ecl:upd HM cl (.lst (su.take (openM szs j (xG szs)).length)) cl=some (.lst (su.take (openM szs j (xG szs)).length)):=qV
 generalize upd HM cl (.lst (su.take (openM szs j (xG szs)).length))=HN at Scl ecl
 have dpre:=qDa (K:=K) (H:=HN) (A:=openM szs j (xG szs)) (R:=x::R) (xR pst4 Scl) (by rw[← eT];exact xR pstM Scl)
 refine⟨1,sp4,cl,_,_,by decide,rfl,rfl,SqL.of (Scl _ _ esp4),SqL.of ecl,dpre.1,dpre.2,?_⟩
 have SEN:=SEM.trans Scl
 wtm_at "zw"
 exact qc _ HN szs wr wa bx dx lx bv gv bt _ _ _ _ _ _ _ _ _ _ _ _ _ _ _ _ (LawC.same ⟨hs,hw,ewaE,watE,ebtE⟩ SEN) q
theorem qPg {f:Addr}{fd:FuncData}(F:Fun K "law" "law" (top 34) f fd)(B:Bl mg)(D_law_cell:Dn P w K mg base "_law_cell" 1 ["script","k"] (spCell K))(D_law_stir:Dn P w K mg base "_law_stir" 1 ["cell","k"] spStir)(D_law_state:Dn P w K mg base "_law_state" 1 ["cell"] qWn)(D_law_take:Dn P w K mg base "_law_take" 2 ["state","many"] spTake)
  (D_law_counter:Dn P w K mg base "_law_counter" 1 ["sizes","wrong"] qZj) (D_law_ticks:Dn P w K mg base "_law_ticks" 1 ["sizes"] qWl) (D_plan_of:Dn P w K mg base "plan_of" 4 ["world","nodes"] spPlan) (D_run:Dn P w K mg base "run" 31 ["world","plan","standing","choices"] spRun):FnOk P w K mg base CX0 60 f fd ["script"] (spLaw K):=by
 refine F.ok (k:=59) zH (fun vs H Q E h=>?_) (fun cdv A outer s H vs Q E hr h=>?_)
 ·obtain⟨_,_,rfl,_⟩:=h
  rfl
 obtain⟨a,ns,rfl,hS,h63,q⟩:=h
 obtain⟨ub,hb0,qb⟩:=qSe (P:=P) (w:=w) (K:=K) (mg:=mg) (base:=base) (outer:=outer) (H:=H) (E:=E) hr B D_law_cell D_law_stir D_law_take D_plan_of D_run
 refine⟨_,(qZ (qI (i:=1) zH.nd rfl (by wtm_at "zo") (qC D_law_state hr (qQ (qC D_law_cell hr (qQ (pv 0) (qQ qD qX))) qX)))
  (qZ (yI (i:=2) zH.nd rfl (by wtm_at "zo") rfl qDo (jQ rfl B.range' (qQ (qU zI qD (qC D_law_take hr (qQ (pv 1) (qQ qD qX)))) qX)) (fun cl fp s H=>(qF (i:=0) qDo.nd rfl (Or.inl rfl) (.inr rfl))) (fun cl fp s H=>zE) (fun cl fp s H=>(qU zI qD (qC D_law_take hr (qQ (pv 1) (qQ qD qX))))))
  (qZ (qI (i:=3) zH.nd rfl (by wtm_at "zo") (qC D_law_take hr (qQ (pv 1) (qQ qD qX))))
  (qZ (qN (qC D_law_counter hr (qQ (pv 2) (qQ (pv 3) qX))) (kT (K:=K) (n:=2) rfl (qG (qF (i:=4) zH.nd rfl (by wtm_at "zo")) (qG (qF (i:=5) zH.nd rfl (by wtm_at "zo")) qH))))
  (qZ (qN (qC D_law_ticks hr (qQ (pv 2) qX)) (kT (K:=K) (n:=2) rfl (qG (qF (i:=6) zH.nd rfl (by wtm_at "zo")) (qG (qF (i:=7) zH.nd rfl (by wtm_at "zo")) qH))))
  (qZ (qI (i:=8) zH.nd rfl (by wtm_at "zo") (qC D_plan_of hr (qQ (pv 4) (qQ (pv 5) qX))))
  (qZ (qI (i:=9) zH.nd rfl (by wtm_at "zo") (xQ (yZ (K:=K)) rfl B.tuple' vG (qQ (jV rfl qDn (qT (K:=K) (pv 2)) (fun cl fp s H=>(qF (i:=0) qDn.nd rfl (Or.inl rfl) (.inr rfl))) (fun cl fp s H=>zE) (fun cl fp s H=>qD)) qX)))
  (qZ (yI (i:=10) zH.nd rfl (by wtm_at "zo") rfl qDm (jQ rfl B.range' (qQ (xX (zX (K:=K)) rfl B.len' jC (qQ (pv 6) qX)) qX)) (fun cl fp s H=>(qF (i:=0) qDm.nd rfl (Or.inl rfl) (.inr rfl))) (fun cl fp s H=>(qIo (qP (qPd (K:=K)) (xE (qR (K:=K)) (xE (qS (K:=K)) (pv 1) (pv 0) (fun _ _=>rfl)) qD (fun _ _=>rfl)) (zK (qQ qE (qQ qE (qQ qE qX)))) (by with_unfolding_all rfl)))) (fun cl fp s H=>(pv 0)))
  (qZ (qI (i:=11) zH.nd rfl (by wtm_at "zo") (xQ (yZ (K:=K)) rfl B.tuple' vG (qQ (jV rfl qDl (qT (K:=K) (pv 2)) (fun cl fp s H=>(qF (i:=0) qDl.nd rfl (Or.inl rfl) (.inr rfl))) (fun cl fp s H=>zE) (fun cl fp s H=>(qU kY (pv 0) qD))) qX)))
  hb0))))))))),?_⟩
 wtm_at "zw"
 refine⟨a,ns,0,rfl,hS,?_⟩
 wtm_at "zw"
 refine⟨_,rfl,fun p H1 np S1 e1=>?_⟩
 wtm_at "zf"
 refine⟨p,stateM (cellM ns 0),3,rfl,e1,by decide,by decide +kernel,Nat.zero_le _,fun H2 B2 e2=>?_⟩
 have t3:=vW (stateM (cellM ns 0)) (m:=3) (by decide)
 have n2:(takeS (stateM (cellM ns 0)) 3).n≤1:=Nat.le_refl 1
 generalize takeS (stateM (cellM ns 0)) 3=S2 at e2 n2
 generalize takeV (stateM (cellM ns 0)) 3=v3 at t3
 wtm_at "zw"
 refine⟨1+v3,rfl,by omega,by omega,?_⟩
 refine zP (fun D i ys H'=>∃(szs:List Int) (S:S3),ys=intsV szs∧szs.length=i∧(∀s∈szs,2≤s∧s≤5)∧St3 H' p S∧S.n≤1+i∧p≠D∧But1 p H2 H') (fun D hD=>⟨[],S2,rfl,rfl,(fun s h=>nomatch h),qK hD _ _ _ e2,by omega,qA e2 hD,fun b o _ e=>qK hD _ _ _ e⟩) (fun D i ys H' N hD hDy hi hP hN=>?_) (fun sa ys H3 hD hDy hP=>?_)
 ·obtain⟨szs,S,rfl,hl,hb,es,hn,npD,B⟩:=hP
  refine⟨⟨[some (.int (0+(i:Int)))],rfl,rfl⟩,?_⟩
  wtm_at "zw"
  refine qQl ?_
  wtm_at "zw"
  refine⟨p,S,4,rfl,es,by decide,by decide +kernel,by omega,fun H4 B4 e4=>?_⟩
  have t4:=vW S (m:=4) (by decide)
  wtm_at "zw"
  refine⟨B4 _ _ npD.symm hDy,by rw[xP];exact small (by omega),hN _ _ qV ⟨szs++[2+takeV S 4],takeS S 4,?_,by rw[List.length_append,hl];rfl,fun z hz=>?_,?_,?_,npD,fun b o nb e=>?_⟩⟩
  ·unfold intsV;rw[List.map_append];rfl
  ·rcases List.mem_append.mp hz with h | h
   ·exact hb z h
   ·rw[List.mem_singleton.mp h];omega
  ·unfold St3;rw[qW npD];exact e4
  ·show S.n+1≤1+(i+1);omega
  ·rw[qW (qA e hD)];exact B4 _ _ nb (B _ _ nb e)
 obtain⟨szs,S,rfl,hl,hb,es3,hn3,npsa,B3⟩:=hP
 have hs:Sz szs:=⟨by omega,by omega,hb⟩
 have l3:=hs.l3
 have l1:=hs.l1
 have il:(intsV szs).length=szs.length:=xP szs
 wtm_at "zw"
 refine⟨p,S,2,rfl,es3,by decide,by decide +kernel,by omega,fun H4 B4 e4=>?_⟩
 have t2:=vW S (m:=2) (by decide)
 have n4:(takeS S 2).n≤5:=by show S.n+1≤5;omega
 generalize takeS S 2=S4 at e4 n4
 generalize takeV S 2=wr at t2
 have hw:wr=0∨wr=1:=by omega
 have esa4:=B4 _ _ npsa.symm hDy
 have S04:Same H H4:=fun b o e=>B4 _ _ (qA e np) (B3 _ _ (qA e np) (B2 _ _ (qA e np) (S1 _ _ e)))
 wtm_at "zw"
 refine⟨sa,szs,wr,rfl,esa4,hs,hw,fun r wa bx dx lx nl bv gv nu H5 S5 er ewa wat enl pn=>?_⟩
 wtm_at "zw"
 refine⟨sa,szs,rfl,S5 _ _ esa4,hs,fun r2 sl su pr H6 S6 er2 esl pst=>?_⟩
 wtm_at "zw"
 have wok:=wok24 hs hw
 have S46:=S5.trans S6
 refine⟨.ref wa,W24 szs wr,nl,nu,plan24 szs,rfl,⟨wa,bx,dx,lx,bv,gv,rfl,S6 _ _ ewa,wat.same S6,wok⟩,S6 _ _ enl,Paired.mapP pn fun _ _ y=>NdAt.same y S6,qBz hs,fun pl H7 hpl S7 epl=>?_⟩
 have S47:=S46.trans S7
 have esa7:=S47 _ _ esa4
 have z0:=InR.zeros (ss:=szs) fun s hs'=>(hs.b s hs').1
 wtm_at "zf"
 refine⟨sa,rfl,⟨_,SqL.of esa7⟩,?_⟩
 refine jB (xs:=intsV szs) (fun D i ys H'=>ys=intsV (xG (szs.take i))∧Same H7 H') (fun D hD=>⟨rfl,qK hD _⟩) (fun D i ys H' _ hP=>SqL.of (hP.2 _ _ esa7)) (fun D i u ys H' N hD hDy ex hP hN=>?_) (fun D1 ys H8 hD1 hDy1 hP=>?_)
 ·obtain⟨rfl,hk⟩:=hP
  have hi:i<szs.length:=by rw[← il];exact(List.getElem?_eq_some_iff.mp ex).1
  refine⟨⟨[some u],rfl,rfl⟩,?_⟩
  refine⟨hDy,by rw[xP,List.length_map,List.length_take];exact small (by omega),hN _ _ qV ⟨?_,fun b o e=>?_⟩⟩
  ·rw[List.take_add_one,List.getElem?_eq_getElem hi]
   unfold xG intsV
   rw[List.map_append,List.map_append];rfl
  ·rw[qW (qA e hD)];exact hk _ _ e
 obtain⟨rfl,S78⟩:=hP
 rw[il,List.take_length] at hDy1
 wtm_at "zw"
 refine⟨D1,_,rfl,SqL.of hDy1,fun bt hbt=>?_⟩
 have Sbt:=qK hbt (.tup (intsV (xG szs)))
 have ebt:upd H8 bt (.tup (intsV (xG szs))) bt=some (.tup (intsV (xG szs))):=qV
 generalize upd H8 bt (.tup (intsV (xG szs)))=H9 at Sbt ebt
 have S69:Same H6 H9:=S7.trans (S78.trans Sbt)
 have esl9:=S69 _ _ esl
 have pst9:=xR pst S69
 have lsu:su.length=(allT szs).length:=pst.length.symm
 have rl:=z0.rem_lt fun s hs'=>(hs.b s hs').2
 have p3:5 ^ szs.length≤5 ^ 3:=Nat.pow_le_pow_right (by decide) l3
 have r124:remR szs (xG szs)≤124:=by
  have h125:(5:Nat) ^ 3=125:=by decide
  have rl':remR szs (xG szs)<5 ^ szs.length:=rl
  omega
 have lall:(allT szs).length≤500:=by
  have h1:(allT szs).length≤4 * remR szs (xG szs)+3:=qCz (ps:=[]) l3 _ _ z0 rfl
  omega
 wtm_at "zf"
 refine⟨(su.length:Int),rfl,by omega,by omega,?_⟩
 refine zP (fun D i ys H'=>ys=intsV (posD 0 ((allT szs).take i))∧Same H9 H') (fun D hD=>⟨rfl,qK hD _⟩) (fun D i ys H' N hD hDy hi hP hN=>?_) (fun dl ys HA hdl edl hP=>?_)
 ·obtain⟨rfl,hk⟩:=hP
  rw[Int.toNat_natCast] at hi
  rw[Int.zero_add]
  obtain⟨u,eu⟩:∃u,su[i]? = some u:=⟨_,List.getElem?_eq_getElem hi⟩
  obtain⟨x,ex⟩:∃x,(allT szs)[i]? = some x:=⟨_,List.getElem?_eq_getElem (by omega)⟩
  obtain⟨sa1,rfl,esa1⟩:=xY pst9 ex eu
  have eu':=zS eu
  have esl':=hk _ _ esl9
  have est':=hk _ _ esa1
  refine⟨⟨[some (.int (i:Int))],rfl,rfl⟩,?_⟩
  wtm_at "zw"
  refine⟨xD (show 3≤1000000 by decide),fun tl htl=>?_⟩
  have Stl:=qK htl (.lst [V.str "put",V.str "go",V.str "gone"])
  have etl:upd H' tl (.lst [V.str "put",V.str "go",V.str "gone"]) tl=some (.lst [V.str "put",V.str "go",V.str "gone"]):=qV
  generalize upd H' tl (.lst [V.str "put",V.str "go",V.str "gone"])=HB at Stl etl
  refine⟨tl,_,rfl,.inl (SqL.of etl),rfl,rfl,?_⟩
  wtm_at "zw"
  rw[qRv x.1 x.2]
  have sn:=qAn ex
  have pl':(posD 0 ((allT szs).take i)).length≤500:=by
   rw[vC]
   exact Nat.le_trans List.countP_le_length (by rw[List.length_take];omega)
  cases e:isD (x.1,x.2) with
  | false=>
   have e':isD x=false:=e
   refine iteF (hN _ _ (Stl _ _ hDy) ⟨?_,fun b o z=>Stl _ _ (hk _ _ z)⟩)
   rw[sn,e',if_neg Bool.false_ne_true,List.append_nil]
  | true=>
   have e':isD x=true:=e
   refine iteT ⟨_,rfl,Stl _ _ hDy,by rw[xP];exact small (by omega),hN _ _ qV ⟨?_,fun b o z=>?_⟩⟩
   ·rw[sn,e',if_pos rfl]
    unfold intsV
    rw[List.map_append];rfl
   ·rw[qW (qA z hD)];exact Stl _ _ (hk _ _ z)
 obtain⟨rfl,S9A⟩:=hP
 rw[Int.toNat_natCast,lsu,List.take_length] at edl
 have esaA:=S9A _ _ ((S78.trans Sbt) _ _ esa7)
 wtm_at "zf"
 refine⟨sa,rfl,⟨_,SqL.of esaA⟩,?_⟩
 refine jB (xs:=intsV szs) (fun D i ys H'=>ys=intsV ((szs.take i).map (· - 1))∧Same HA H') (fun D hD=>⟨rfl,qK hD _⟩) (fun D i ys H' _ hP=>SqL.of (hP.2 _ _ esaA)) (fun D i u ys H' N hD hDy ex hP hN=>?_) (fun D2 ys HB hD2 hDy2 hP=>?_)
 ·obtain⟨rfl,hk⟩:=hP
  have hi:i<szs.length:=by rw[← il];exact(List.getElem?_eq_some_iff.mp ex).1
  have eu:u=.int szs[i]:=by
   rw[List.getElem?_map,List.getElem?_eq_getElem hi] at ex
   exact(Option.some.inj ex).symm
  subst eu
  refine⟨⟨[some (.int szs[i])],rfl,rfl⟩,?_⟩
  wtm_at "zw"
  refine qQl ?_
  wtm_at "zw"
  refine⟨hDy,by rw[xP,List.length_map,List.length_take];exact small (by omega),hN _ _ qV ⟨?_,fun b o e=>?_⟩⟩
  ·rw[List.take_add_one,List.getElem?_eq_getElem hi]
   unfold intsV
   rw[List.map_append,List.map_append];rfl
  ·rw[qW (qA e hD)];exact hk _ _ e
 obtain⟨rfl,SAB⟩:=hP
 rw[il,List.take_length] at hDy2
 wtm_at "zw"
 refine⟨D2,_,rfl,SqL.of hDy2,fun tp htp=>?_⟩
 have Stp:=qK htp (.tup (intsV (szs.map (· - 1))))
 have etp:upd HB tp (.tup (intsV (szs.map (· - 1)))) tp=some (.tup (intsV (szs.map (· - 1)))):=qV
 generalize upd HB tp (.tup (intsV (szs.map (· - 1))))=HC at Stp etp
 have S9C:Same H9 HC:=S9A.trans (SAB.trans Stp)
 have S7C:Same H7 HC:=(S78.trans Sbt).trans S9C
 have S4C:Same H4 HC:=S47.trans S7C
 have SAC:Same HA HC:=SAB.trans Stp
 wtm_at "zw"
 have S6C:Same H6 HC:=S7.trans S7C
 have S5C:Same H5 HC:=S6.trans S6C
 exact qb _ H HC p S4 a ns szs wr wa bx dx lx bv gv pl nu bt sl su dl tp _ _ _ ⟨⟨hs,hw,S5C _ _ ewa,wat.same S5C,S9C _ _ ebt⟩,S04.trans S4C,np,hS,S4C _ _ e4,n4,S7C _ _ epl,Paired.mapP pn fun _ _ y=>NdAt.same y S5C,S6C _ _ esl,xR pst S6C,SAC _ _ edl,(qA ((S47.trans (S78.trans Sbt)) _ _ e4) hdl).symm,etp⟩ q

end
theorem len1 {C:List Value→Prop}(h:∀a0:Value,C [a0])(us:List Value)(e:us.length=1):C us:=by
 cases us with
 | nil=>cases e
 | cons a r=>
  cases r with
  | nil=>exact h a
  | cons _ _=>exact absurd (Nat.succ.inj e) (Nat.succ_ne_zero _)

theorem len2 {C:List Value→Prop}(h:∀a0 a1:Value,C [a0,a1])(us:List Value)(e:us.length=2):C us:=by
 cases us with
 | nil=>cases e
 | cons a r=>exact len1 (C:=fun r=>C (a::r)) (h a) r (Nat.succ.inj e)

theorem len3 {C:List Value→Prop}(h:∀a0 a1 a2:Value,C [a0,a1,a2])(us:List Value)(e:us.length=3):C us:=by
 cases us with
 | nil=>cases e
 | cons a r=>exact len2 (C:=fun r=>C (a::r)) (h a) r (Nat.succ.inj e)

theorem len4 {C:List Value→Prop}(h:∀a0 a1 a2 a3:Value,C [a0,a1,a2,a3])(us:List Value)(e:us.length=4):C us:=by
 cases us with
 | nil=>cases e
 | cons a r=>exact len3 (C:=fun r=>C (a::r)) (h a) r (Nat.succ.inj e)

theorem qRf {l:PySem.W.OpenLaw}{w:World}{K:PySem.W.Frag}{h:Heap}{mg:Str→Option Value}{fa f0 f1 f2 f3 f4 f5 f6 f7 f8 f9 f10 f11 f12 f13 f14 f15 f16 f17 f18 f19 f20 f21 f22 f23 f24:Addr}(X:K.In h)(G:h.Ns mainGlobals mg)(hfa:mg "law" = some (.ref fa))
  {od0 an0 od1 an1 od2 an2 od3 an3 od4 an4 od5 an5 od6 an6 od7 an7 od8 an8 od9 an9 od10 an10 od11 an11 od12 an12 od13 an13 od14 an14 od15 an15 od16 an16 od17 an17 od18 an18 od19 an19 od20 an20 od21 an21 od22 an22 od23 an23 od24 an24:Option Addr} {sl0 sl1 sl2 sl3 sl4 sl5 sl6 sl7 sl8 sl9 sl10 sl11 sl12 sl13 sl14 sl15 sl16 sl17 sl18 sl19 sl20 sl21 sl22 sl23 sl24:Array (Option Value)} {oc0 kV0 dc0 pm0 cd0 ct0 oc1 kV1 dc1 pm1 cd1 ct1 oc2 kV2 dc2 pm2 cd2 ct2 oc3 kV3 dc3 pm3 cd3 ct3 oc4 kV4 dc4 pm4 cd4 ct4 oc5 kV5 dc5 pm5 cd5 ct5 oc6 kV6 dc6 pm6 cd6 ct6 oc7 kV7 dc7 pm7 cd7 ct7 oc8 kV8 dc8 pm8 cd8 ct8 oc9 kV9 dc9 pm9 cd9 ct9 oc10 kV10 dc10 pm10 cd10 ct10 oc11 kV11 dc11 pm11 cd11 ct11 oc12 kV12 dc12 pm12 cd12 ct12 oc13 kV13 dc13 pm13 cd13 ct13 oc14 kV14 dc14 pm14 cd14 ct14 oc15 kV15 dc15 pm15 cd15 ct15 oc16 kV16 dc16 pm16 cd16 ct16 oc17 kV17 dc17 pm17 cd17 ct17 oc18 kV18 dc18 pm18 cd18 ct18 oc19 kV19 dc19 pm19 cd19 ct19 oc20 kV20 dc20 pm20 cd20 ct20 oc21 kV21 dc21 pm21 cd21 ct21 oc22 kV22 dc22 pm22 cd22 ct22 oc23 kV23 dc23 pm23 cd23 ct23 oc24 kV24 dc24 pm24 cd24 ct24:Value}
  (a0:PySem.W.nsIn K mainGlobals "_law_cell" = some (some (.ref f0))) (l0:K.lookup f0=some ⟨oc0,od0,.func (PySem.W.fnOf "_law_cell" "_law_cell" (xB (top 28)) (xA (top 28)) (xW (top 28)) .none kV0 dc0 pm0 an0 cd0 ct0),sl0⟩) (c0:PySem.W.codeIn K cd0 "_law_cell" = true) (k0:PySem.W.keepIn K (.ref f0)=true)
  (a1:PySem.W.nsIn K mainGlobals "_law_stir" = some (some (.ref f1))) (l1:K.lookup f1=some ⟨oc1,od1,.func (PySem.W.fnOf "_law_stir" "_law_stir" (xB (top 29)) (xA (top 29)) (xW (top 29)) .none kV1 dc1 pm1 an1 cd1 ct1),sl1⟩) (c1:PySem.W.codeIn K cd1 "_law_stir" = true) (k1:PySem.W.keepIn K (.ref f1)=true)
  (a2:PySem.W.nsIn K mainGlobals "_law_state" = some (some (.ref f2))) (l2:K.lookup f2=some ⟨oc2,od2,.func (PySem.W.fnOf "_law_state" "_law_state" (xB (top 30)) (xA (top 30)) (xW (top 30)) .none kV2 dc2 pm2 an2 cd2 ct2),sl2⟩) (c2:PySem.W.codeIn K cd2 "_law_state" = true) (k2:PySem.W.keepIn K (.ref f2)=true)
  (a3:PySem.W.nsIn K mainGlobals "_law_take" = some (some (.ref f3))) (l3:K.lookup f3=some ⟨oc3,od3,.func (PySem.W.fnOf "_law_take" "_law_take" (xB (top 31)) (xA (top 31)) (xW (top 31)) .none kV3 dc3 pm3 an3 cd3 ct3),sl3⟩) (c3:PySem.W.codeIn K cd3 "_law_take" = true) (k3:PySem.W.keepIn K (.ref f3)=true)
  (a4:PySem.W.nsIn K mainGlobals "_law_counter" = some (some (.ref f4))) (l4:K.lookup f4=some ⟨oc4,od4,.func (PySem.W.fnOf "_law_counter" "_law_counter" (xB (top 32)) (xA (top 32)) (xW (top 32)) .none kV4 dc4 pm4 an4 cd4 ct4),sl4⟩) (c4:PySem.W.codeIn K cd4 "_law_counter" = true) (k4:PySem.W.keepIn K (.ref f4)=true)
  (a5:PySem.W.nsIn K mainGlobals "_law_ticks" = some (some (.ref f5))) (l5:K.lookup f5=some ⟨oc5,od5,.func (PySem.W.fnOf "_law_ticks" "_law_ticks" (xB (top 33)) (xA (top 33)) (xW (top 33)) .none kV5 dc5 pm5 an5 cd5 ct5),sl5⟩) (c5:PySem.W.codeIn K cd5 "_law_ticks" = true) (k5:PySem.W.keepIn K (.ref f5)=true)
  (a6:PySem.W.nsIn K mainGlobals "plan_of" = some (some (.ref f6))) (l6:K.lookup f6=some ⟨oc6,od6,.func (PySem.W.fnOf "plan_of" "plan_of" (xB (top 17)) (xA (top 17)) (xW (top 17)) .none kV6 dc6 pm6 an6 cd6 ct6),sl6⟩) (c6:PySem.W.codeIn K cd6 "plan_of" = true) (k6:PySem.W.keepIn K (.ref f6)=true)
  (a7:PySem.W.nsIn K mainGlobals "run" = some (some (.ref f7))) (l7:K.lookup f7=some ⟨oc7,od7,.func (PySem.W.fnOf "run" "run" (xB (top 18)) (xA (top 18)) (xW (top 18)) .none kV7 dc7 pm7 an7 cd7 ct7),sl7⟩) (c7:PySem.W.codeIn K cd7 "run" = true) (k7:PySem.W.keepIn K (.ref f7)=true)
  (a8:PySem.W.nsIn K mainGlobals "followers_of" = some (some (.ref f8))) (l8:K.lookup f8=some ⟨oc8,od8,.func (PySem.W.fnOf "followers_of" "followers_of" (xB (top 19)) (xA (top 19)) (xW (top 19)) .none kV8 dc8 pm8 an8 cd8 ct8),sl8⟩) (c8:PySem.W.codeIn K cd8 "followers_of" = true) (k8:PySem.W.keepIn K (.ref f8)=true)
  (a9:PySem.W.nsIn K mainGlobals "is_whole" = some (some (.ref f9))) (l9:K.lookup f9=some ⟨oc9,od9,.func (PySem.W.fnOf "is_whole" "is_whole" (xB (top 15)) (xA (top 15)) (xW (top 15)) .none kV9 dc9 pm9 an9 cd9 ct9),sl9⟩) (c9:PySem.W.codeIn K cd9 "is_whole" = true) (k9:PySem.W.keepIn K (.ref f9)=true)
  (a10:PySem.W.nsIn K mainGlobals "is_node_number" = some (some (.ref f10))) (l10:K.lookup f10=some ⟨oc10,od10,.func (PySem.W.fnOf "is_node_number" "is_node_number" (xB (top 20)) (xA (top 20)) (xW (top 20)) .none kV10 dc10 pm10 an10 cd10 ct10),sl10⟩) (c10:PySem.W.codeIn K cd10 "is_node_number" = true) (k10:PySem.W.keepIn K (.ref f10)=true)
  (a11:PySem.W.nsIn K mainGlobals "refuse_followers" = some (some (.ref f11))) (l11:K.lookup f11=some ⟨oc11,od11,.func (PySem.W.fnOf "refuse_followers" "refuse_followers" (xB (top 21)) (xA (top 21)) (xW (top 21)) .none kV11 dc11 pm11 an11 cd11 ct11),sl11⟩) (c11:PySem.W.codeIn K cd11 "refuse_followers" = true) (k11:PySem.W.keepIn K (.ref f11)=true)
  (a12:PySem.W.nsIn K mainGlobals "refuse_forks" = some (some (.ref f12))) (l12:K.lookup f12=some ⟨oc12,od12,.func (PySem.W.fnOf "refuse_forks" "refuse_forks" (xB (top 22)) (xA (top 22)) (xW (top 22)) .none kV12 dc12 pm12 an12 cd12 ct12),sl12⟩) (c12:PySem.W.codeIn K cd12 "refuse_forks" = true) (k12:PySem.W.keepIn K (.ref f12)=true)
  (a13:PySem.W.nsIn K mainGlobals "thing_named_at" = some (some (.ref f13))) (l13:K.lookup f13=some ⟨oc13,od13,.func (PySem.W.fnOf "thing_named_at" "thing_named_at" (xB (top 24)) (xA (top 24)) (xW (top 24)) .none kV13 dc13 pm13 an13 cd13 ct13),sl13⟩) (c13:PySem.W.codeIn K cd13 "thing_named_at" = true) (k13:PySem.W.keepIn K (.ref f13)=true)
  (a14:PySem.W.nsIn K mainGlobals "refuse_name" = some (some (.ref f14))) (l14:K.lookup f14=some ⟨oc14,od14,.func (PySem.W.fnOf "refuse_name" "refuse_name" (xB (top 23)) (xA (top 23)) (xW (top 23)) .none kV14 dc14 pm14 an14 cd14 ct14),sl14⟩) (c14:PySem.W.codeIn K cd14 "refuse_name" = true) (k14:PySem.W.keepIn K (.ref f14)=true)
  (a15:PySem.W.nsIn K mainGlobals "worth" = some (some (.ref f15))) (l15:K.lookup f15=some ⟨oc15,od15,.func (PySem.W.fnOf "worth" "worth" (xB (top 5)) (xA (top 5)) (xW (top 5)) .none kV15 dc15 pm15 an15 cd15 ct15),sl15⟩) (c15:PySem.W.codeIn K cd15 "worth" = true) (k15:PySem.W.keepIn K (.ref f15)=true)
  (a16:PySem.W.nsIn K mainGlobals "holds" = some (some (.ref f16))) (l16:K.lookup f16=some ⟨oc16,od16,.func (PySem.W.fnOf "holds" "holds" (xB (top 6)) (xA (top 6)) (xW (top 6)) .none kV16 dc16 pm16 an16 cd16 ct16),sl16⟩) (c16:PySem.W.codeIn K cd16 "holds" = true) (k16:PySem.W.keepIn K (.ref f16)=true)
  (a17:PySem.W.nsIn K mainGlobals "values_by_name" = some (some (.ref f17))) (l17:K.lookup f17=some ⟨oc17,od17,.func (PySem.W.fnOf "values_by_name" "values_by_name" (xB (top 7)) (xA (top 7)) (xW (top 7)) .none kV17 dc17 pm17 an17 cd17 ct17),sl17⟩) (c17:PySem.W.codeIn K cd17 "values_by_name" = true) (k17:PySem.W.keepIn K (.ref f17)=true)
  (a18:PySem.W.nsIn K mainGlobals "worth_by" = some (some (.ref f18))) (l18:K.lookup f18=some ⟨oc18,od18,.func (PySem.W.fnOf "worth_by" "worth_by" (xB (top 8)) (xA (top 8)) (xW (top 8)) .none kV18 dc18 pm18 an18 cd18 ct18),sl18⟩) (c18:PySem.W.codeIn K cd18 "worth_by" = true) (k18:PySem.W.keepIn K (.ref f18)=true)
  (a19:PySem.W.nsIn K mainGlobals "holds_by" = some (some (.ref f19))) (l19:K.lookup f19=some ⟨oc19,od19,.func (PySem.W.fnOf "holds_by" "holds_by" (xB (top 9)) (xA (top 9)) (xW (top 9)) .none kV19 dc19 pm19 an19 cd19 ct19),sl19⟩) (c19:PySem.W.codeIn K cd19 "holds_by" = true) (k19:PySem.W.keepIn K (.ref f19)=true)
  (a20:PySem.W.nsIn K mainGlobals "named" = some (some (.ref f20))) (l20:K.lookup f20=some ⟨oc20,od20,.func (PySem.W.fnOf "named" "named" (xB (top 13)) (xA (top 13)) (xW (top 13)) .none kV20 dc20 pm20 an20 cd20 ct20),sl20⟩) (c20:PySem.W.codeIn K cd20 "named" = true) (k20:PySem.W.keepIn K (.ref f20)=true)
  (a21:PySem.W.nsIn K mainGlobals "behind_way" = some (some (.ref f21))) (l21:K.lookup f21=some ⟨oc21,od21,.func (PySem.W.fnOf "behind_way" "behind_way" (xB (top 14)) (xA (top 14)) (xW (top 14)) .none kV21 dc21 pm21 an21 cd21 ct21),sl21⟩) (c21:PySem.W.codeIn K cd21 "behind_way" = true) (k21:PySem.W.keepIn K (.ref f21)=true)
  (a22:PySem.W.nsIn K mainGlobals "comes_of" = some (some (.ref f22))) (l22:K.lookup f22=some ⟨oc22,od22,.func (PySem.W.fnOf "comes_of" "comes_of" (xB (top 11)) (xA (top 11)) (xW (top 11)) .none kV22 dc22 pm22 an22 cd22 ct22),sl22⟩) (c22:PySem.W.codeIn K cd22 "comes_of" = true) (k22:PySem.W.keepIn K (.ref f22)=true)
  (a23:PySem.W.nsIn K mainGlobals "shown" = some (some (.ref f23))) (l23:K.lookup f23=some ⟨oc23,od23,.func (PySem.W.fnOf "shown" "shown" (xB (top 12)) (xA (top 12)) (xW (top 12)) .none kV23 dc23 pm23 an23 cd23 ct23),sl23⟩) (c23:PySem.W.codeIn K cd23 "shown" = true) (k23:PySem.W.keepIn K (.ref f23)=true)
  (a24:PySem.W.nsIn K mainGlobals "law" = some (some (.ref f24))) (l24:K.lookup f24=some ⟨oc24,od24,.func (PySem.W.fnOf "law" "law" (xB (top 34)) (xA (top 34)) (xW (top 34)) .none kV24 dc24 pm24 an24 cd24 ct24),sl24⟩) (c24:PySem.W.codeIn K cd24 "law" = true) (k24:PySem.W.keepIn K (.ref f24)=true)
  {C_Course:Addr} (ca_Course:PySem.W.nsIn K mainGlobals "Course" = some (some (.ref C_Course))) (cb_Course:PySem.W.plainGet K C_Course Str.empty=true) (cc_Course:PySem.W.hasDictIn K C_Course=true) (cd_Course:PySem.W.plainOver K C_Course=true) (ce_Course:PySem.W.findIn K (.ref C_Course) "__setattr__" = some (some (.builtin "object.__setattr__"))) (cf_Course:PySem.W.makesIn K C_Course=true) (cg_Course:PySem.W.keepIn K (.ref C_Course)=true)
  (n_Course_world:PySem.W.findIn K (.ref C_Course) "world" = some none)
  (n_Course_nodes:PySem.W.findIn K (.ref C_Course) "nodes" = some none)
  (n_Course_forks:PySem.W.findIn K (.ref C_Course) "forks" = some none)
  (n_Course_goals:PySem.W.findIn K (.ref C_Course) "goals" = some none)
  (n_Course_needs:PySem.W.findIn K (.ref C_Course) "needs" = some none)
  (n_Course_comings:PySem.W.findIn K (.ref C_Course) "comings" = some none)
  (n_Course_showings:PySem.W.findIn K (.ref C_Course) "showings" = some none)
  {C_Player:Addr} (ca_Player:PySem.W.nsIn K mainGlobals "Player" = some (some (.ref C_Player))) (cb_Player:PySem.W.plainGet K C_Player Str.empty=true) (cc_Player:PySem.W.hasDictIn K C_Player=true) (cd_Player:PySem.W.plainOver K C_Player=true) (ce_Player:PySem.W.findIn K (.ref C_Player) "__setattr__" = some (some (.builtin "object.__setattr__"))) (cf_Player:PySem.W.makesIn K C_Player=true) (cg_Player:PySem.W.keepIn K (.ref C_Player)=true)
  (n_Player_course:PySem.W.findIn K (.ref C_Player) "course" = some none)
  (n_Player_standing:PySem.W.findIn K (.ref C_Player) "standing" = some none)
  (n_Player_choices:PySem.W.findIn K (.ref C_Player) "choices" = some none)
  (n_Player_steps:PySem.W.findIn K (.ref C_Player) "steps" = some none)
  (n_Player_number:PySem.W.findIn K (.ref C_Player) "number" = some none)
  (n_Player_deeds_done:PySem.W.findIn K (.ref C_Player) "deeds_done" = some none)
  (n_Player_looked:PySem.W.findIn K (.ref C_Player) "looked" = some none)
  {f_Course_init:Addr} {od_Course_init an_Course_init:Option Addr} {sl_Course_init:Array (Option Value)} {oc_Course_init kV_Course_init dc_Course_init pm_Course_init cd_Course_init ct_Course_init:Value}
  (m_Course_init:PySem.W.findIn K (.ref C_Course) "__init__" = some (some (.ref f_Course_init))) (l_Course_init:K.lookup f_Course_init=some ⟨oc_Course_init,od_Course_init,.func (PySem.W.fnOf "__init__" "Course.__init__" (xB (mth 25 0)) (xA (mth 25 0)) (xW (mth 25 0)) .none kV_Course_init dc_Course_init pm_Course_init an_Course_init cd_Course_init ct_Course_init),sl_Course_init⟩) (c_Course_init:PySem.W.codeIn K cd_Course_init "Course.__init__" = true) (k_Course_init:PySem.W.keepIn K (.ref f_Course_init)=true) (i_Course_init:PySem.W.isFn K (.ref f_Course_init)=true)
  {f_Course_goal_holds:Addr} {od_Course_goal_holds an_Course_goal_holds:Option Addr} {sl_Course_goal_holds:Array (Option Value)} {oc_Course_goal_holds kV_Course_goal_holds dc_Course_goal_holds pm_Course_goal_holds cd_Course_goal_holds ct_Course_goal_holds:Value}
  (m_Course_goal_holds:PySem.W.findIn K (.ref C_Course) "goal_holds" = some (some (.ref f_Course_goal_holds))) (l_Course_goal_holds:K.lookup f_Course_goal_holds=some ⟨oc_Course_goal_holds,od_Course_goal_holds,.func (PySem.W.fnOf "goal_holds" "Course.goal_holds" (xB (mth 25 1)) (xA (mth 25 1)) (xW (mth 25 1)) .none kV_Course_goal_holds dc_Course_goal_holds pm_Course_goal_holds an_Course_goal_holds cd_Course_goal_holds ct_Course_goal_holds),sl_Course_goal_holds⟩) (c_Course_goal_holds:PySem.W.codeIn K cd_Course_goal_holds "Course.goal_holds" = true) (k_Course_goal_holds:PySem.W.keepIn K (.ref f_Course_goal_holds)=true) (i_Course_goal_holds:PySem.W.isFn K (.ref f_Course_goal_holds)=true)
  {f_Course_need_holds:Addr} {od_Course_need_holds an_Course_need_holds:Option Addr} {sl_Course_need_holds:Array (Option Value)} {oc_Course_need_holds kV_Course_need_holds dc_Course_need_holds pm_Course_need_holds cd_Course_need_holds ct_Course_need_holds:Value}
  (m_Course_need_holds:PySem.W.findIn K (.ref C_Course) "need_holds" = some (some (.ref f_Course_need_holds))) (l_Course_need_holds:K.lookup f_Course_need_holds=some ⟨oc_Course_need_holds,od_Course_need_holds,.func (PySem.W.fnOf "need_holds" "Course.need_holds" (xB (mth 25 2)) (xA (mth 25 2)) (xW (mth 25 2)) .none kV_Course_need_holds dc_Course_need_holds pm_Course_need_holds an_Course_need_holds cd_Course_need_holds ct_Course_need_holds),sl_Course_need_holds⟩) (c_Course_need_holds:PySem.W.codeIn K cd_Course_need_holds "Course.need_holds" = true) (k_Course_need_holds:PySem.W.keepIn K (.ref f_Course_need_holds)=true) (i_Course_need_holds:PySem.W.isFn K (.ref f_Course_need_holds)=true)
  {f_Course_comes:Addr} {od_Course_comes an_Course_comes:Option Addr} {sl_Course_comes:Array (Option Value)} {oc_Course_comes kV_Course_comes dc_Course_comes pm_Course_comes cd_Course_comes ct_Course_comes:Value}
  (m_Course_comes:PySem.W.findIn K (.ref C_Course) "comes" = some (some (.ref f_Course_comes))) (l_Course_comes:K.lookup f_Course_comes=some ⟨oc_Course_comes,od_Course_comes,.func (PySem.W.fnOf "comes" "Course.comes" (xB (mth 25 3)) (xA (mth 25 3)) (xW (mth 25 3)) .none kV_Course_comes dc_Course_comes pm_Course_comes an_Course_comes cd_Course_comes ct_Course_comes),sl_Course_comes⟩) (c_Course_comes:PySem.W.codeIn K cd_Course_comes "Course.comes" = true) (k_Course_comes:PySem.W.keepIn K (.ref f_Course_comes)=true) (i_Course_comes:PySem.W.isFn K (.ref f_Course_comes)=true)
  {f_Course_shows:Addr} {od_Course_shows an_Course_shows:Option Addr} {sl_Course_shows:Array (Option Value)} {oc_Course_shows kV_Course_shows dc_Course_shows pm_Course_shows cd_Course_shows ct_Course_shows:Value}
  (m_Course_shows:PySem.W.findIn K (.ref C_Course) "shows" = some (some (.ref f_Course_shows))) (l_Course_shows:K.lookup f_Course_shows=some ⟨oc_Course_shows,od_Course_shows,.func (PySem.W.fnOf "shows" "Course.shows" (xB (mth 25 4)) (xA (mth 25 4)) (xW (mth 25 4)) .none kV_Course_shows dc_Course_shows pm_Course_shows an_Course_shows cd_Course_shows ct_Course_shows),sl_Course_shows⟩) (c_Course_shows:PySem.W.codeIn K cd_Course_shows "Course.shows" = true) (k_Course_shows:PySem.W.keepIn K (.ref f_Course_shows)=true) (i_Course_shows:PySem.W.isFn K (.ref f_Course_shows)=true)
  {f_Player_init:Addr} {od_Player_init an_Player_init:Option Addr} {sl_Player_init:Array (Option Value)} {oc_Player_init kV_Player_init dc_Player_init pm_Player_init cd_Player_init ct_Player_init:Value}
  (m_Player_init:PySem.W.findIn K (.ref C_Player) "__init__" = some (some (.ref f_Player_init))) (l_Player_init:K.lookup f_Player_init=some ⟨oc_Player_init,od_Player_init,.func (PySem.W.fnOf "__init__" "Player.__init__" (xB (mth 26 0)) (xA (mth 26 0)) (xW (mth 26 0)) .none kV_Player_init dc_Player_init pm_Player_init an_Player_init cd_Player_init ct_Player_init),sl_Player_init⟩) (c_Player_init:PySem.W.codeIn K cd_Player_init "Player.__init__" = true) (k_Player_init:PySem.W.keepIn K (.ref f_Player_init)=true) (i_Player_init:PySem.W.isFn K (.ref f_Player_init)=true)
  {f_Player_go_on:Addr} {od_Player_go_on an_Player_go_on:Option Addr} {sl_Player_go_on:Array (Option Value)} {oc_Player_go_on kV_Player_go_on dc_Player_go_on pm_Player_go_on cd_Player_go_on ct_Player_go_on:Value}
  (m_Player_go_on:PySem.W.findIn K (.ref C_Player) "go_on" = some (some (.ref f_Player_go_on))) (l_Player_go_on:K.lookup f_Player_go_on=some ⟨oc_Player_go_on,od_Player_go_on,.func (PySem.W.fnOf "go_on" "Player.go_on" (xB (mth 26 1)) (xA (mth 26 1)) (xW (mth 26 1)) .none kV_Player_go_on dc_Player_go_on pm_Player_go_on an_Player_go_on cd_Player_go_on ct_Player_go_on),sl_Player_go_on⟩) (c_Player_go_on:PySem.W.codeIn K cd_Player_go_on "Player.go_on" = true) (k_Player_go_on:PySem.W.keepIn K (.ref f_Player_go_on)=true) (i_Player_go_on:PySem.W.isFn K (.ref f_Player_go_on)=true)
  {f_Player_do_deed:Addr} {od_Player_do_deed an_Player_do_deed:Option Addr} {sl_Player_do_deed:Array (Option Value)} {oc_Player_do_deed kV_Player_do_deed dc_Player_do_deed pm_Player_do_deed cd_Player_do_deed ct_Player_do_deed:Value}
  (m_Player_do_deed:PySem.W.findIn K (.ref C_Player) "do_deed" = some (some (.ref f_Player_do_deed))) (l_Player_do_deed:K.lookup f_Player_do_deed=some ⟨oc_Player_do_deed,od_Player_do_deed,.func (PySem.W.fnOf "do_deed" "Player.do_deed" (xB (mth 26 2)) (xA (mth 26 2)) (xW (mth 26 2)) .none kV_Player_do_deed dc_Player_do_deed pm_Player_do_deed an_Player_do_deed cd_Player_do_deed ct_Player_do_deed),sl_Player_do_deed⟩) (c_Player_do_deed:PySem.W.codeIn K cd_Player_do_deed "Player.do_deed" = true) (k_Player_do_deed:PySem.W.keepIn K (.ref f_Player_do_deed)=true) (i_Player_do_deed:PySem.W.isFn K (.ref f_Player_do_deed)=true)
  {f_Player_do_look:Addr} {od_Player_do_look an_Player_do_look:Option Addr} {sl_Player_do_look:Array (Option Value)} {oc_Player_do_look kV_Player_do_look dc_Player_do_look pm_Player_do_look cd_Player_do_look ct_Player_do_look:Value}
  (m_Player_do_look:PySem.W.findIn K (.ref C_Player) "do_look" = some (some (.ref f_Player_do_look))) (l_Player_do_look:K.lookup f_Player_do_look=some ⟨oc_Player_do_look,od_Player_do_look,.func (PySem.W.fnOf "do_look" "Player.do_look" (xB (mth 26 3)) (xA (mth 26 3)) (xW (mth 26 3)) .none kV_Player_do_look dc_Player_do_look pm_Player_do_look an_Player_do_look cd_Player_do_look ct_Player_do_look),sl_Player_do_look⟩) (c_Player_do_look:PySem.W.codeIn K cd_Player_do_look "Player.do_look" = true) (k_Player_do_look:PySem.W.keepIn K (.ref f_Player_do_look)=true) (i_Player_do_look:PySem.W.isFn K (.ref f_Player_do_look)=true)
  (z_len:PySem.W.nsIn K mainGlobals "len" = some none)
  (z_range:PySem.W.nsIn K mainGlobals "range" = some none)
  (z_min:PySem.W.nsIn K mainGlobals "min" = some none)
  (z_isinstance:PySem.W.nsIn K mainGlobals "isinstance" = some none)
  (z_list:PySem.W.nsIn K mainGlobals "list" = some none)
  (z_reversed:PySem.W.nsIn K mainGlobals "reversed" = some none)
  (z_tuple:PySem.W.nsIn K mainGlobals "tuple" = some none)
  (z_int:PySem.W.nsIn K mainGlobals "int" = some none)
  (z_bool:PySem.W.nsIn K mainGlobals "bool" = some none)
  (z_dict:PySem.W.nsIn K mainGlobals "dict" = some none)
  (z_zip:PySem.W.nsIn K mainGlobals "zip" = some none):
  ∃fd:FuncData,(∀(s:Shared) (v:Value),BindsTo s fd ⟨[v],[]⟩ [("script",v)])∧∀base:Heap,K.In base→base.Ns mainGlobals mg→FnOk l.prog w K mg base CX0 60 fa fd ["script"] (spLaw K):=by
 have e:=hfa.symm.trans (PySem.W.mg_of X G a24)
 cases e
 have F0:=xS (st:=top 28) l0 c0 k0
 have b0:=F0.binds (ps:=["script","k"]) fun _ _ _ _ _ _=>len2 (fun _ _=>rfl)
 have E0:FunE K mg "_law_cell" f0 _ ["script","k"]:=⟨PySem.W.mg_of X G a0,k0,b0⟩
 have FD_law_cell:Fd K mg "_law_cell" (top 28) ["script","k"]:=⟨f0,_,F0,E0.mg,E0.kp,E0.bd⟩
 have F1:=xS (st:=top 29) l1 c1 k1
 have b1:=F1.binds (ps:=["cell","k"]) fun _ _ _ _ _ _=>len2 (fun _ _=>rfl)
 have E1:FunE K mg "_law_stir" f1 _ ["cell","k"]:=⟨PySem.W.mg_of X G a1,k1,b1⟩
 have FD_law_stir:Fd K mg "_law_stir" (top 29) ["cell","k"]:=⟨f1,_,F1,E1.mg,E1.kp,E1.bd⟩
 have F2:=xS (st:=top 30) l2 c2 k2
 have b2:=F2.binds (ps:=["cell"]) fun _ _ _ _ _ _=>len1 (fun _=>rfl)
 have E2:FunE K mg "_law_state" f2 _ ["cell"]:=⟨PySem.W.mg_of X G a2,k2,b2⟩
 have FD_law_state:Fd K mg "_law_state" (top 30) ["cell"]:=⟨f2,_,F2,E2.mg,E2.kp,E2.bd⟩
 have F3:=xS (st:=top 31) l3 c3 k3
 have b3:=F3.binds (ps:=["state","many"]) fun _ _ _ _ _ _=>len2 (fun _ _=>rfl)
 have E3:FunE K mg "_law_take" f3 _ ["state","many"]:=⟨PySem.W.mg_of X G a3,k3,b3⟩
 have FD_law_take:Fd K mg "_law_take" (top 31) ["state","many"]:=⟨f3,_,F3,E3.mg,E3.kp,E3.bd⟩
 have F4:=xS (st:=top 32) l4 c4 k4
 have b4:=F4.binds (ps:=["sizes","wrong"]) fun _ _ _ _ _ _=>len2 (fun _ _=>rfl)
 have E4:FunE K mg "_law_counter" f4 _ ["sizes","wrong"]:=⟨PySem.W.mg_of X G a4,k4,b4⟩
 have FD_law_counter:Fd K mg "_law_counter" (top 32) ["sizes","wrong"]:=⟨f4,_,F4,E4.mg,E4.kp,E4.bd⟩
 have F5:=xS (st:=top 33) l5 c5 k5
 have b5:=F5.binds (ps:=["sizes"]) fun _ _ _ _ _ _=>len1 (fun _=>rfl)
 have E5:FunE K mg "_law_ticks" f5 _ ["sizes"]:=⟨PySem.W.mg_of X G a5,k5,b5⟩
 have FD_law_ticks:Fd K mg "_law_ticks" (top 33) ["sizes"]:=⟨f5,_,F5,E5.mg,E5.kp,E5.bd⟩
 have F6:=xS (st:=top 17) l6 c6 k6
 have b6:=F6.binds (ps:=["world","nodes"]) fun _ _ _ _ _ _=>len2 (fun _ _=>rfl)
 have E6:FunE K mg "plan_of" f6 _ ["world","nodes"]:=⟨PySem.W.mg_of X G a6,k6,b6⟩
 have FD_plan_of:Fd K mg "plan_of" (top 17) ["world","nodes"]:=⟨f6,_,F6,E6.mg,E6.kp,E6.bd⟩
 have F7:=xS (st:=top 18) l7 c7 k7
 have b7:=F7.binds (ps:=["world","plan","standing","choices"]) fun _ _ _ _ _ _=>len4 (fun _ _ _ _=>rfl)
 have E7:FunE K mg "run" f7 _ ["world","plan","standing","choices"]:=⟨PySem.W.mg_of X G a7,k7,b7⟩
 have FD_run:Fd K mg "run" (top 18) ["world","plan","standing","choices"]:=⟨f7,_,F7,E7.mg,E7.kp,E7.bd⟩
 have F8:=xS (st:=top 19) l8 c8 k8
 have b8:=F8.binds (ps:=["node"]) fun _ _ _ _ _ _=>len1 (fun _=>rfl)
 have E8:FunE K mg "followers_of" f8 _ ["node"]:=⟨PySem.W.mg_of X G a8,k8,b8⟩
 have FD_followers_of:Fd K mg "followers_of" (top 19) ["node"]:=⟨f8,_,F8,E8.mg,E8.kp,E8.bd⟩
 have F9:=xS (st:=top 15) l9 c9 k9
 have b9:=F9.binds (ps:=["thing"]) fun _ _ _ _ _ _=>len1 (fun _=>rfl)
 have E9:FunE K mg "is_whole" f9 _ ["thing"]:=⟨PySem.W.mg_of X G a9,k9,b9⟩
 have FD_is_whole:Fd K mg "is_whole" (top 15) ["thing"]:=⟨f9,_,F9,E9.mg,E9.kp,E9.bd⟩
 have F10:=xS (st:=top 20) l10 c10 k10
 have b10:=F10.binds (ps:=["number","size"]) fun _ _ _ _ _ _=>len2 (fun _ _=>rfl)
 have E10:FunE K mg "is_node_number" f10 _ ["number","size"]:=⟨PySem.W.mg_of X G a10,k10,b10⟩
 have FD_is_node_number:Fd K mg "is_node_number" (top 20) ["number","size"]:=⟨f10,_,F10,E10.mg,E10.kp,E10.bd⟩
 have F11:=xS (st:=top 21) l11 c11 k11
 have b11:=F11.binds (ps:=["node","size"]) fun _ _ _ _ _ _=>len2 (fun _ _=>rfl)
 have E11:FunE K mg "refuse_followers" f11 _ ["node","size"]:=⟨PySem.W.mg_of X G a11,k11,b11⟩
 have FD_refuse_followers:Fd K mg "refuse_followers" (top 21) ["node","size"]:=⟨f11,_,F11,E11.mg,E11.kp,E11.bd⟩
 have F12:=xS (st:=top 22) l12 c12 k12
 have b12:=F12.binds (ps:=["node"]) fun _ _ _ _ _ _=>len1 (fun _=>rfl)
 have E12:FunE K mg "refuse_forks" f12 _ ["node"]:=⟨PySem.W.mg_of X G a12,k12,b12⟩
 have FD_refuse_forks:Fd K mg "refuse_forks" (top 22) ["node"]:=⟨f12,_,F12,E12.mg,E12.kp,E12.bd⟩
 have F13:=xS (st:=top 24) l13 c13 k13
 have b13:=F13.binds (ps:=["world","node"]) fun _ _ _ _ _ _=>len2 (fun _ _=>rfl)
 have E13:FunE K mg "thing_named_at" f13 _ ["world","node"]:=⟨PySem.W.mg_of X G a13,k13,b13⟩
 have FD_thing_named_at:Fd K mg "thing_named_at" (top 24) ["world","node"]:=⟨f13,_,F13,E13.mg,E13.kp,E13.bd⟩
 have F14:=xS (st:=top 23) l14 c14 k14
 have b14:=F14.binds (ps:=["world","node"]) fun _ _ _ _ _ _=>len2 (fun _ _=>rfl)
 have E14:FunE K mg "refuse_name" f14 _ ["world","node"]:=⟨PySem.W.mg_of X G a14,k14,b14⟩
 have FD_refuse_name:Fd K mg "refuse_name" (top 23) ["world","node"]:=⟨f14,_,F14,E14.mg,E14.kp,E14.bd⟩
 have F15:=xS (st:=top 5) l15 c15 k15
 have b15:=F15.binds (ps:=["expression","boxes","standing"]) fun _ _ _ _ _ _=>len3 (fun _ _ _=>rfl)
 have E15:FunE K mg "worth" f15 _ ["expression","boxes","standing"]:=⟨PySem.W.mg_of X G a15,k15,b15⟩
 have FD_worth:Fd K mg "worth" (top 5) ["expression","boxes","standing"]:=⟨f15,_,F15,E15.mg,E15.kp,E15.bd⟩
 have F16:=xS (st:=top 6) l16 c16 k16
 have b16:=F16.binds (ps:=["condition","boxes","standing"]) fun _ _ _ _ _ _=>len3 (fun _ _ _=>rfl)
 have E16:FunE K mg "holds" f16 _ ["condition","boxes","standing"]:=⟨PySem.W.mg_of X G a16,k16,b16⟩
 have FD_holds:Fd K mg "holds" (top 6) ["condition","boxes","standing"]:=⟨f16,_,F16,E16.mg,E16.kp,E16.bd⟩
 have F17:=xS (st:=top 7) l17 c17 k17
 have b17:=F17.binds (ps:=["boxes","standing"]) fun _ _ _ _ _ _=>len2 (fun _ _=>rfl)
 have E17:FunE K mg "values_by_name" f17 _ ["boxes","standing"]:=⟨PySem.W.mg_of X G a17,k17,b17⟩
 have FD_values_by_name:Fd K mg "values_by_name" (top 7) ["boxes","standing"]:=⟨f17,_,F17,E17.mg,E17.kp,E17.bd⟩
 have F18:=xS (st:=top 8) l18 c18 k18
 have b18:=F18.binds (ps:=["expression","values"]) fun _ _ _ _ _ _=>len2 (fun _ _=>rfl)
 have E18:FunE K mg "worth_by" f18 _ ["expression","values"]:=⟨PySem.W.mg_of X G a18,k18,b18⟩
 have FD_worth_by:Fd K mg "worth_by" (top 8) ["expression","values"]:=⟨f18,_,F18,E18.mg,E18.kp,E18.bd⟩
 have F19:=xS (st:=top 9) l19 c19 k19
 have b19:=F19.binds (ps:=["condition","values"]) fun _ _ _ _ _ _=>len2 (fun _ _=>rfl)
 have E19:FunE K mg "holds_by" f19 _ ["condition","values"]:=⟨PySem.W.mg_of X G a19,k19,b19⟩
 have FD_holds_by:Fd K mg "holds_by" (top 9) ["condition","values"]:=⟨f19,_,F19,E19.mg,E19.kp,E19.bd⟩
 have F20:=xS (st:=top 13) l20 c20 k20
 have b20:=F20.binds (ps:=["things","name","kind"]) fun _ _ _ _ _ _=>len3 (fun _ _ _=>rfl)
 have E20:FunE K mg "named" f20 _ ["things","name","kind"]:=⟨PySem.W.mg_of X G a20,k20,b20⟩
 have FD_named:Fd K mg "named" (top 13) ["things","name","kind"]:=⟨f20,_,F20,E20.mg,E20.kp,E20.bd⟩
 have F21:=xS (st:=top 14) l21 c21 k21
 have b21:=F21.binds (ps:=["boxes","way","standing"]) fun _ _ _ _ _ _=>len3 (fun _ _ _=>rfl)
 have E21:FunE K mg "behind_way" f21 _ ["boxes","way","standing"]:=⟨PySem.W.mg_of X G a21,k21,b21⟩
 have FD_behind_way:Fd K mg "behind_way" (top 14) ["boxes","way","standing"]:=⟨f21,_,F21,E21.mg,E21.kp,E21.bd⟩
 have F22:=xS (st:=top 11) l22 c22 k22
 have b22:=F22.binds (ps:=["world","name","standing"]) fun _ _ _ _ _ _=>len3 (fun _ _ _=>rfl)
 have E22:FunE K mg "comes_of" f22 _ ["world","name","standing"]:=⟨PySem.W.mg_of X G a22,k22,b22⟩
 have FD_comes_of:Fd K mg "comes_of" (top 11) ["world","name","standing"]:=⟨f22,_,F22,E22.mg,E22.kp,E22.bd⟩
 have F23:=xS (st:=top 12) l23 c23 k23
 have b23:=F23.binds (ps:=["world","name","standing"]) fun _ _ _ _ _ _=>len3 (fun _ _ _=>rfl)
 have E23:FunE K mg "shown" f23 _ ["world","name","standing"]:=⟨PySem.W.mg_of X G a23,k23,b23⟩
 have FD_shown:Fd K mg "shown" (top 12) ["world","name","standing"]:=⟨f23,_,F23,E23.mg,E23.kp,E23.bd⟩
 have F24:=xS (st:=top 34) l24 c24 k24
 have CL_Course:Cls K C_Course:=⟨cb_Course,cc_Course,cd_Course,ce_Course⟩
 have KD_Course:Kind K C_Course zO:=⟨CL_Course,fun f hf=>by
  simp only[zO,List.mem_cons,List.not_mem_nil,or_false] at hf
  rcases hf with rfl | rfl | rfl | rfl | rfl | rfl | rfl
  ·exact n_Course_world
  ·exact n_Course_nodes
  ·exact n_Course_forks
  ·exact n_Course_goals
  ·exact n_Course_needs
  ·exact n_Course_comings
  ·exact n_Course_showings⟩
 have CL_Player:Cls K C_Player:=⟨cb_Player,cc_Player,cd_Player,ce_Player⟩
 have KD_Player:Kind K C_Player jZ:=⟨CL_Player,fun f hf=>by
  simp only[jZ,List.mem_cons,List.not_mem_nil,or_false] at hf
  rcases hf with rfl | rfl | rfl | rfl | rfl | rfl | rfl
  ·exact n_Player_course
  ·exact n_Player_standing
  ·exact n_Player_choices
  ·exact n_Player_steps
  ·exact n_Player_number
  ·exact n_Player_deeds_done
  ·exact n_Player_looked⟩
 have F_Course_init:=xS (st:=mth 25 0) l_Course_init c_Course_init k_Course_init
 have b_Course_init:=F_Course_init.binds (ps:=["self","world","plan"]) fun _ _ _ _ _ _=>len3 (fun _ _ _=>rfl)
 have MI_Course:Mi K mg "Course" C_Course "Course.__init__" (mth 25 0) ["self","world","plan"]:=⟨f_Course_init,_,F_Course_init,⟨cf_Course,m_Course_init,i_Course_init,cg_Course⟩,PySem.W.mg_of X G ca_Course,b_Course_init⟩
 have F_Course_goal_holds:=xS (st:=mth 25 1) l_Course_goal_holds c_Course_goal_holds k_Course_goal_holds
 have b_Course_goal_holds:=F_Course_goal_holds.binds (ps:=["self","standing"]) fun _ _ _ _ _ _=>len2 (fun _ _=>rfl)
 have MD_Course_goal_holds:Md K C_Course "goal_holds" "Course.goal_holds" (mth 25 1) ["self","standing"]:=⟨f_Course_goal_holds,_,F_Course_goal_holds,⟨m_Course_goal_holds,i_Course_goal_holds,k_Course_goal_holds⟩,b_Course_goal_holds⟩
 have F_Course_need_holds:=xS (st:=mth 25 2) l_Course_need_holds c_Course_need_holds k_Course_need_holds
 have b_Course_need_holds:=F_Course_need_holds.binds (ps:=["self","name","standing"]) fun _ _ _ _ _ _=>len3 (fun _ _ _=>rfl)
 have MD_Course_need_holds:Md K C_Course "need_holds" "Course.need_holds" (mth 25 2) ["self","name","standing"]:=⟨f_Course_need_holds,_,F_Course_need_holds,⟨m_Course_need_holds,i_Course_need_holds,k_Course_need_holds⟩,b_Course_need_holds⟩
 have F_Course_comes:=xS (st:=mth 25 3) l_Course_comes c_Course_comes k_Course_comes
 have b_Course_comes:=F_Course_comes.binds (ps:=["self","name","standing"]) fun _ _ _ _ _ _=>len3 (fun _ _ _=>rfl)
 have MD_Course_comes:Md K C_Course "comes" "Course.comes" (mth 25 3) ["self","name","standing"]:=⟨f_Course_comes,_,F_Course_comes,⟨m_Course_comes,i_Course_comes,k_Course_comes⟩,b_Course_comes⟩
 have F_Course_shows:=xS (st:=mth 25 4) l_Course_shows c_Course_shows k_Course_shows
 have b_Course_shows:=F_Course_shows.binds (ps:=["self","name","standing"]) fun _ _ _ _ _ _=>len3 (fun _ _ _=>rfl)
 have MD_Course_shows:Md K C_Course "shows" "Course.shows" (mth 25 4) ["self","name","standing"]:=⟨f_Course_shows,_,F_Course_shows,⟨m_Course_shows,i_Course_shows,k_Course_shows⟩,b_Course_shows⟩
 have F_Player_init:=xS (st:=mth 26 0) l_Player_init c_Player_init k_Player_init
 have b_Player_init:=F_Player_init.binds (ps:=["self","course","standing","choices"]) fun _ _ _ _ _ _=>len4 (fun _ _ _ _=>rfl)
 have MI_Player:Mi K mg "Player" C_Player "Player.__init__" (mth 26 0) ["self","course","standing","choices"]:=⟨f_Player_init,_,F_Player_init,⟨cf_Player,m_Player_init,i_Player_init,cg_Player⟩,PySem.W.mg_of X G ca_Player,b_Player_init⟩
 have F_Player_go_on:=xS (st:=mth 26 1) l_Player_go_on c_Player_go_on k_Player_go_on
 have b_Player_go_on:=F_Player_go_on.binds (ps:=["self"]) fun _ _ _ _ _ _=>len1 (fun _=>rfl)
 have MD_Player_go_on:Md K C_Player "go_on" "Player.go_on" (mth 26 1) ["self"]:=⟨f_Player_go_on,_,F_Player_go_on,⟨m_Player_go_on,i_Player_go_on,k_Player_go_on⟩,b_Player_go_on⟩
 have F_Player_do_deed:=xS (st:=mth 26 2) l_Player_do_deed c_Player_do_deed k_Player_do_deed
 have b_Player_do_deed:=F_Player_do_deed.binds (ps:=["self","name","follower"]) fun _ _ _ _ _ _=>len3 (fun _ _ _=>rfl)
 have MD_Player_do_deed:Md K C_Player "do_deed" "Player.do_deed" (mth 26 2) ["self","name","follower"]:=⟨f_Player_do_deed,_,F_Player_do_deed,⟨m_Player_do_deed,i_Player_do_deed,k_Player_do_deed⟩,b_Player_do_deed⟩
 have F_Player_do_look:=xS (st:=mth 26 3) l_Player_do_look c_Player_do_look k_Player_do_look
 have b_Player_do_look:=F_Player_do_look.binds (ps:=["self","name"]) fun _ _ _ _ _ _=>len2 (fun _ _=>rfl)
 have MD_Player_do_look:Md K C_Player "do_look" "Player.do_look" (mth 26 3) ["self","name"]:=⟨f_Player_do_look,_,F_Player_do_look,⟨m_Player_do_look,i_Player_do_look,k_Player_do_look⟩,b_Player_do_look⟩
 have B:Bl mg:=⟨PySem.W.mg_none_of X G z_len,PySem.W.mg_none_of X G z_range,PySem.W.mg_none_of X G z_min,PySem.W.mg_none_of X G z_isinstance,PySem.W.mg_none_of X G z_list,PySem.W.mg_none_of X G z_reversed,PySem.W.mg_none_of X G z_tuple,PySem.W.mg_none_of X G z_int,PySem.W.mg_none_of X G z_bool,PySem.W.mg_none_of X G z_dict,PySem.W.mg_none_of X G z_zip⟩
 refine⟨PySem.W.fnOf "law" "law" (xB (top 34)) (xA (top 34)) (xW (top 34)) .none kV24 dc24 pm24 an24 cd24 ct24,fun s v=>.of_eq rfl,fun base YK _=>?_⟩
 have D_values:=Dn.mk (x := "values_by_name") ⟨_,_,qZf (P:=l.prog) (w:=w) (base:=base) F17 B,E17.mg,E17.kp,E17.bd⟩
 have GW:=wY (P:=l.prog) (w:=w) (base:=base) F18 E18 12
 have D_wb:=Dn.mk (x := "worth_by") ⟨_,_,GW,E18.mg,E18.kp,E18.bd⟩
 have D_holds:=qGi FD_holds (wH FD_holds_by D_wb 12) D_values
 have D_worth:=Dn.mk (x := "worth") ⟨_,_,qFc F15 GW E18 ((qZf F17 B).mono (by decide)) E17,E15.mg,E15.kp,E15.bd⟩
 have D_named:=qGh (P:=l.prog) (w:=w) (K:=K) (mg:=mg) (base:=base) FD_named
 have D_comes:=qGl FD_comes_of D_named (qDk FD_behind_way B D_values D_wb)
 have M_goal:=qNd MD_Course_goal_holds D_holds
 have M_need:=qNc MD_Course_need_holds D_holds D_named
 have M_shows:=qGm MD_Course_shows (qGg FD_shown D_named D_worth)
 have M_comes:=qGo MD_Course_comes D_comes
 have M_look:=qWx CL_Course MD_Player_do_look M_shows
 have M_deed:=qWz CL_Course B MD_Player_do_deed M_need M_comes
 have M_go:=qGn CL_Course CL_Player MD_Player_go_on M_goal M_deed M_look
 have D_run:=qRc FD_run KD_Course KD_Player CL_Player (qDw MI_Course B) (qDv MI_Player) M_go
 have D_stir:=qNj (P:=l.prog) (w:=w) (K:=K) (mg:=mg) (base:=base) FD_law_stir
 have D_take:=qNz FD_law_take D_stir
 have D_refF:=qNw FD_refuse_followers (qDj (P:=l.prog) (w:=w) (K:=K) (mg:=mg) (base:=base) FD_followers_of) (qDz FD_is_node_number (qGc (P:=l.prog) (w:=w) (K:=K) (mg:=mg) (base:=base) FD_is_whole B))
 have D_plan:=qNa FD_plan_of B D_refF (qNv (P:=l.prog) (w:=w) (K:=K) (mg:=mg) (base:=base) FD_refuse_forks B) (qNk FD_refuse_name (qGe FD_thing_named_at D_named))
 exact qPg F24 B (qNb (P:=l.prog) (w:=w) (K:=K) (mg:=mg) (base:=base) FD_law_cell B) D_stir (qGf (P:=l.prog) (w:=w) (K:=K) (mg:=mg) (base:=base) FD_law_state) D_take (qWq (P:=l.prog) (w:=w) (K:=K) (mg:=mg) (base:=base) FD_law_counter B) (qGd (P:=l.prog) (w:=w) (K:=K) (mg:=mg) (base:=base) FD_law_ticks B) D_plan D_run
theorem walk {l:PySem.W.OpenLaw}{q:Program}{loose:List Str}{XP:(Str→Option Value)→Heap→Prop}{YP:World→Heap→Prop}{d:DefRec}{K:Params→PySem.W.Frag}(hn:l.most=some 63)(hdf:d.params.defaults=[])
  (hY:∀(w:World) (h:Heap),YP w h→(K w.params).In h)
  (F:∀(w:World) (mg:Str→Option Value) (fa:Addr) (h:Heap),(K w.params).In h→h.Ns mainGlobals mg→mg d.name=some (.ref fa)→
   ∃fd:FuncData,(∀(s:Shared) (u:Value),BindsTo s fd ⟨[u],[]⟩ [("script",u)])∧∀base:Heap,(K w.params).In base→base.Ns mainGlobals mg→FnOk l.prog w (K w.params) mg base CX0 60 fa fd ["script"] (spLaw (K w.params))):
  PySem.W.WalkO q loose XP YP l.row.toRowW d [] (fun f vs=>PySem.call f vs):=
 L2.qIw (n:=63) (k:=60) (x := "script") (CX:=fun _=>CX0) (sp:=fun w=>spLaw (K w.params)) hn (by decide) hdf ⟨rfl,by decide,by decide⟩ hY F (fun _ _ a ns hl _ hS=>⟨a,ns,rfl,hS,hl,fun _=>rfl⟩) fun _ _ _ _ _ z=>z
end FP
open PySem PySem.W PyProof.Rows
set_option maxRecDepth 100000 in
set_option maxHeartbeats 0 in
theorem PySem.Challenge.cw_forkplan_k24_long_runs_known_holds : PySem.Challenge.rw_forkplan_k24_long_runs_known.Holds := by
 w_on
 refine PySem.W.holds_law FP.saidW fun said=>?_
 refine PySem.W.holds_open (q:=FP.vI) (loose:=[]) (N:=4896) (YP:=InK FP.qJd) (XP:=XL FP.vI [])
  (Xt:=fun s=>xlAt FP.vI [] s && recOk (RowW.records (OpenRow.toRowW (PySem.W.OpenLaw.row PySem.Challenge.rw_forkplan_k24_long_runs_known))) s)
  (Yf:=Hook.obs FP.kM) (Ya:=Hook.val FP.kM) FP.qIe
  (Hook.of FP.kM) (Hook.keeps FP.kM) (fun s e=>xl_of s (Bool.and_eq_true_iff.mp e).1)
  XL.keeps (by rfl) (by rfl) (by rfl) (fun s e=>recFacts_of (Bool.and_eq_true_iff.mp e).2)
  (by rfl) (by first | assumption | decide +kernel) (by decide +kernel)
  ⟨rfl,rfl,rfl,rfl,rfl,by decide +kernel⟩ ?hw ?hc
 case hw=>w_witness2
 k_fill
 refine FP.walk (l:=PySem.Challenge.rw_forkplan_k24_long_runs_known) (K:=FP.qJd) rfl rfl (fun w h Y=>Y) ?F
 case F=>
  intro w mg fa h KX G hmg
  refine' FP.qRf KX G hmg ?a0 ?l0 ?c0 ?k0 ?a1 ?l1 ?c1 ?k1 ?a2 ?l2 ?c2 ?k2 ?a3 ?l3 ?c3 ?k3 ?a4 ?l4 ?c4 ?k4 ?a5 ?l5 ?c5 ?k5 ?a6 ?l6 ?c6 ?k6 ?a7 ?l7 ?c7 ?k7 ?a8 ?l8 ?c8 ?k8 ?a9 ?l9 ?c9 ?k9 ?a10 ?l10 ?c10 ?k10 ?a11 ?l11 ?c11 ?k11 ?a12 ?l12 ?c12 ?k12 ?a13 ?l13 ?c13 ?k13 ?a14 ?l14 ?c14 ?k14 ?a15 ?l15 ?c15 ?k15 ?a16 ?l16 ?c16 ?k16 ?a17 ?l17 ?c17 ?k17 ?a18 ?l18 ?c18 ?k18 ?a19 ?l19 ?c19 ?k19 ?a20 ?l20 ?c20 ?k20 ?a21 ?l21 ?c21 ?k21 ?a22 ?l22 ?c22 ?k22 ?a23 ?l23 ?c23 ?k23 ?a24 ?l24 ?c24 ?k24 ?ca_Course ?cb_Course ?cc_Course ?cd_Course ?ce_Course ?cf_Course ?cg_Course ?n_Course_world ?n_Course_nodes ?n_Course_forks ?n_Course_goals ?n_Course_needs ?n_Course_comings ?n_Course_showings ?ca_Player ?cb_Player ?cc_Player ?cd_Player ?ce_Player ?cf_Player ?cg_Player ?n_Player_course ?n_Player_standing ?n_Player_choices ?n_Player_steps ?n_Player_number ?n_Player_deeds_done ?n_Player_looked ?m_Course_init ?l_Course_init ?c_Course_init ?k_Course_init ?i_Course_init ?m_Course_goal_holds ?l_Course_goal_holds ?c_Course_goal_holds ?k_Course_goal_holds ?i_Course_goal_holds ?m_Course_need_holds ?l_Course_need_holds ?c_Course_need_holds ?k_Course_need_holds ?i_Course_need_holds ?m_Course_comes ?l_Course_comes ?c_Course_comes ?k_Course_comes ?i_Course_comes ?m_Course_shows ?l_Course_shows ?c_Course_shows ?k_Course_shows ?i_Course_shows ?m_Player_init ?l_Player_init ?c_Player_init ?k_Player_init ?i_Player_init ?m_Player_go_on ?l_Player_go_on ?c_Player_go_on ?k_Player_go_on ?i_Player_go_on ?m_Player_do_deed ?l_Player_do_deed ?c_Player_do_deed ?k_Player_do_deed ?i_Player_do_deed ?m_Player_do_look ?l_Player_do_look ?c_Player_do_look ?k_Player_do_look ?i_Player_do_look ?z_len ?z_range ?z_min ?z_isinstance ?z_list ?z_reversed ?z_tuple ?z_int ?z_bool ?z_dict ?z_zip
  (case a0=>k_is);(case l0=>k_is);(case c0=>k_is);(case k0=>k_is)
  (case a1=>k_is);(case l1=>k_is);(case c1=>k_is);(case k1=>k_is)
  (case a2=>k_is);(case l2=>k_is);(case c2=>k_is);(case k2=>k_is)
  (case a3=>k_is);(case l3=>k_is);(case c3=>k_is);(case k3=>k_is)
  (case a4=>k_is);(case l4=>k_is);(case c4=>k_is);(case k4=>k_is)
  (case a5=>k_is);(case l5=>k_is);(case c5=>k_is);(case k5=>k_is)
  (case a6=>k_is);(case l6=>k_is);(case c6=>k_is);(case k6=>k_is)
  (case a7=>k_is);(case l7=>k_is);(case c7=>k_is);(case k7=>k_is)
  (case a8=>k_is);(case l8=>k_is);(case c8=>k_is);(case k8=>k_is)
  (case a9=>k_is);(case l9=>k_is);(case c9=>k_is);(case k9=>k_is)
  (case a10=>k_is);(case l10=>k_is);(case c10=>k_is);(case k10=>k_is)
  (case a11=>k_is);(case l11=>k_is);(case c11=>k_is);(case k11=>k_is)
  (case a12=>k_is);(case l12=>k_is);(case c12=>k_is);(case k12=>k_is)
  (case a13=>k_is);(case l13=>k_is);(case c13=>k_is);(case k13=>k_is)
  (case a14=>k_is);(case l14=>k_is);(case c14=>k_is);(case k14=>k_is)
  (case a15=>k_is);(case l15=>k_is);(case c15=>k_is);(case k15=>k_is)
  (case a16=>k_is);(case l16=>k_is);(case c16=>k_is);(case k16=>k_is)
  (case a17=>k_is);(case l17=>k_is);(case c17=>k_is);(case k17=>k_is)
  (case a18=>k_is);(case l18=>k_is);(case c18=>k_is);(case k18=>k_is)
  (case a19=>k_is);(case l19=>k_is);(case c19=>k_is);(case k19=>k_is)
  (case a20=>k_is);(case l20=>k_is);(case c20=>k_is);(case k20=>k_is)
  (case a21=>k_is);(case l21=>k_is);(case c21=>k_is);(case k21=>k_is)
  (case a22=>k_is);(case l22=>k_is);(case c22=>k_is);(case k22=>k_is)
  (case a23=>k_is);(case l23=>k_is);(case c23=>k_is);(case k23=>k_is)
  (case a24=>k_is);(case l24=>k_is);(case c24=>k_is);(case k24=>k_is)
  (case ca_Course=>first | k_is | rfl | decide)
  (case cb_Course=>first | k_is | rfl | decide)
  (case cc_Course=>first | k_is | rfl | decide)
  (case cd_Course=>first | k_is | rfl | decide)
  (case ce_Course=>first | k_is | rfl | decide)
  (case cf_Course=>first | k_is | rfl | decide)
  (case cg_Course=>first | k_is | rfl | decide)
  (case n_Course_world=>first | k_is | rfl | decide)
  (case n_Course_nodes=>first | k_is | rfl | decide)
  (case n_Course_forks=>first | k_is | rfl | decide)
  (case n_Course_goals=>first | k_is | rfl | decide)
  (case n_Course_needs=>first | k_is | rfl | decide)
  (case n_Course_comings=>first | k_is | rfl | decide)
  (case n_Course_showings=>first | k_is | rfl | decide)
  (case ca_Player=>first | k_is | rfl | decide)
  (case cb_Player=>first | k_is | rfl | decide)
  (case cc_Player=>first | k_is | rfl | decide)
  (case cd_Player=>first | k_is | rfl | decide)
  (case ce_Player=>first | k_is | rfl | decide)
  (case cf_Player=>first | k_is | rfl | decide)
  (case cg_Player=>first | k_is | rfl | decide)
  (case n_Player_course=>first | k_is | rfl | decide)
  (case n_Player_standing=>first | k_is | rfl | decide)
  (case n_Player_choices=>first | k_is | rfl | decide)
  (case n_Player_steps=>first | k_is | rfl | decide)
  (case n_Player_number=>first | k_is | rfl | decide)
  (case n_Player_deeds_done=>first | k_is | rfl | decide)
  (case n_Player_looked=>first | k_is | rfl | decide)
  (case m_Course_init=>first | k_is | rfl | decide)
  (case l_Course_init=>first | k_is | rfl | decide)
  (case c_Course_init=>first | k_is | rfl | decide)
  (case k_Course_init=>first | k_is | rfl | decide)
  (case i_Course_init=>first | k_is | rfl | decide)
  (case m_Course_goal_holds=>first | k_is | rfl | decide)
  (case l_Course_goal_holds=>first | k_is | rfl | decide)
  (case c_Course_goal_holds=>first | k_is | rfl | decide)
  (case k_Course_goal_holds=>first | k_is | rfl | decide)
  (case i_Course_goal_holds=>first | k_is | rfl | decide)
  (case m_Course_need_holds=>first | k_is | rfl | decide)
  (case l_Course_need_holds=>first | k_is | rfl | decide)
  (case c_Course_need_holds=>first | k_is | rfl | decide)
  (case k_Course_need_holds=>first | k_is | rfl | decide)
  (case i_Course_need_holds=>first | k_is | rfl | decide)
  (case m_Course_comes=>first | k_is | rfl | decide)
  (case l_Course_comes=>first | k_is | rfl | decide)
  (case c_Course_comes=>first | k_is | rfl | decide)
  (case k_Course_comes=>first | k_is | rfl | decide)
  (case i_Course_comes=>first | k_is | rfl | decide)
  (case m_Course_shows=>first | k_is | rfl | decide)
  (case l_Course_shows=>first | k_is | rfl | decide)
  (case c_Course_shows=>first | k_is | rfl | decide)
  (case k_Course_shows=>first | k_is | rfl | decide)
  (case i_Course_shows=>first | k_is | rfl | decide)
  (case m_Player_init=>first | k_is | rfl | decide)
  (case l_Player_init=>first | k_is | rfl | decide)
  (case c_Player_init=>first | k_is | rfl | decide)
  (case k_Player_init=>first | k_is | rfl | decide)
  (case i_Player_init=>first | k_is | rfl | decide)
  (case m_Player_go_on=>first | k_is | rfl | decide)
  (case l_Player_go_on=>first | k_is | rfl | decide)
  (case c_Player_go_on=>first | k_is | rfl | decide)
  (case k_Player_go_on=>first | k_is | rfl | decide)
  (case i_Player_go_on=>first | k_is | rfl | decide)
  (case m_Player_do_deed=>first | k_is | rfl | decide)
  (case l_Player_do_deed=>first | k_is | rfl | decide)
  (case c_Player_do_deed=>first | k_is | rfl | decide)
  (case k_Player_do_deed=>first | k_is | rfl | decide)
  (case i_Player_do_deed=>first | k_is | rfl | decide)
  (case m_Player_do_look=>first | k_is | rfl | decide)
  (case l_Player_do_look=>first | k_is | rfl | decide)
  (case c_Player_do_look=>first | k_is | rfl | decide)
  (case k_Player_do_look=>first | k_is | rfl | decide)
  (case i_Player_do_look=>first | k_is | rfl | decide)
  (case z_len=>k_is);(case z_range=>k_is);(case z_min=>k_is);(case z_isinstance=>k_is);(case z_list=>k_is);(case z_reversed=>k_is);(case z_tuple=>k_is);(case z_int=>k_is);(case z_bool=>k_is);(case z_dict=>k_is);(case z_zip=>k_is)
