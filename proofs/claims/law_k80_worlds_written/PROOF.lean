import PyProof.Rows.All
import Wide.All
import OpenK.AllK
import Wide.FinOn
import Lean
import PyProof.EqAt
import PyProof.EqKinds
import PyProof.TupleCall
import PyProof.NeKinds
import KE.KRevIter
import PyProof.AttrMissHeap
import PyProof.ZipIter
import PyProof.DictList
import KE.KItemsList
import KE.KDictOf
import PyProof.Rows.SetFrom
import PyProof.ConsumeWalk
import PyProof.EnumFor
import PyProof.EnumMake
import PyProof.EnumStmt
import PyProof.RaisesMany
import PyProof.Rows.Own
import PyProof.FString
import PyProof.PureStr
import PyProof.FactsAll.str_2
import PyProof.RulesTry
import PyProof.RulesAs
import PyProof.RulesDel
import PyProof.ExcArgsOwn
import PyProof.ExcAttrAll.ValueError
import KE.KIsAll
import OpenK.KOwn
import PyProof.ExcBaseAll.ValueError
import KE.KIntText
import PyProof.Rows.StrSplitJoin
import PyProof.Rows.StrSplitAre
import PyProof.StrWalks
import PyProof.DictWalks
import PyProof.Rows.Range3
import PyProof.StrLawsTight
import PyProof.Rows.StrDigitsNeg
import PyProof.Rows.StrIntSpec
import PySem.Challenge.RW_forkplan_k80_worlds_written
set_option maxHeartbeats 4000000
set_option Elab.async false
set_option linter.all false
set_option maxRecDepth 100000
namespace L2
open PySem
noncomputable def xC (s:Stmt):Arguments:=match s with
 | .FunctionDef _ a _ _ _ _ _ _ _ _=>a
 | _=>{ posonlyargs:=[],args:=[],vararg:=none,kwonlyargs:=[],kw_defaults:=[],kwarg:=none,defaults:=[] }
noncomputable def xB (s:Stmt):List Stmt:=match s with
 | .FunctionDef _ _ b _ _ _ _ _ _ _=>b
 | _=>[]
noncomputable def xA (s:Stmt):Scope:=match s with
 | .FunctionDef _ _ _ _ _ _ sc _ _ _=>sc
 | _=>{ kind:=.function,names:=[],isGenerator:=false,isCoroutine:=false }
end L2
namespace FP
open PySem
noncomputable def top (i:Nat):Stmt:=PySem.Challenge.pw_forkplan_k80_worlds_written.main.body.getD i (.Pass ⟨0,0,0,0⟩)
noncomputable abbrev oF (x:String)(i:Nat)(m:String)(n c:Nat):Obj:=Obj.mk (.type "function") none (Data.func (PySem.W.fnOf (Str.ofString x) (Str.ofString x) (L2.xC (top i)) (L2.xB (top i)) (L2.xA (top i)) .none .none .none (.str (Str.ofString m) n) none (.ref c) .none)) #[]
noncomputable abbrev oG (x:String)(i:Nat):Obj:=Obj.mk .none none (Data.func { PySem.W.fnOf (Str.ofString x) (Str.ofString x) (L2.xC (top i)) (L2.xB (top i)) (L2.xA (top i)) .none .none .none .none none .none .none with globals:=0 }) #[]
noncomputable abbrev oE (P:Params)(k:String)(n:Nat)(v:Value):DictEntry:=DictEntry.mk (PyData.keyHash P (Str.ofString k)) (.str (Str.ofString k) n) v
noncomputable abbrev oS (x:String)(n:Nat):Value:=.str (Str.ofString x) n
noncomputable abbrev oR (n:Nat):Value:=.ref n
noncomputable abbrev oI (n:Int):Value:=.int n 0
noncomputable abbrev oN:Obj:=Obj.mk .none none (Data.fields #[]) #[]
noncomputable abbrev oT (x:Array Value):Obj:=Obj.mk (.type "tuple") none (Data.seq x 0) #[]
noncomputable abbrev oC (x:Array Value):Obj:=Obj.mk (.type "code") none (Data.fields x) #[]
open PySem.W
noncomputable def qCz (P:Params):List Obj:=[boot_o_0 P,
  boot_o_1 P,
  boot_o_2 P,
  (Obj.mk (.type "dict") none (Data.dict #[(oE P "__name__" 165 (oS "law_forkplan_k80_worlds_written" 447)),(oE P "__doc__" 166 .none),(oE P "__package__" 167 .none),(oE P "__loader__" 168 (.builtin "__main__.__loader__#opaque")),(oE P "__spec__" 169 .none),(oE P "__annotations__" 170 (oR 6)),(oE P "__builtins__" 171 (oR 4)),(oE P "__file__" 173 (oS "/claim/cut.py" 172)),(oE P "__cached__" 174 .none),(oE P "ForkError" 206 (oR 24)),(oE P "NoWorld" 222 (oR 37)),(oE P "holds" 233 (oR 46)),(oE P "names_in" 242 (oR 53)),(oE P "values_by_name" 248 (oR 58)),(oE P "worth_by" 259 (oR 65)),(oE P "holds_by" 270 (oR 72)),(oE P "LEAST_SIZE" 274 (.int 2 273)),(oE P "GREATEST_SIZE" 276 (.int 5 275)),(oE P "LEAST_PRICE" 278 (.int 1 277)),(oE P "WORDS_OF_CONDITIONS" 282 (oR 73)),(oE P "world_of" 288 (oR 78)),(oE P "standings_of_boxes" 294 (oR 83)),(oE P "copied_deed" 300 (oR 88)),(oE P "is_whole" 307 (oR 95)),(oE P "refuse_boxes" 313 (oR 100)),(oE P "refuse_twice" 321 (oR 107)),(oE P "refuse_price" 329 (oR 114)),(oE P "refuse_ways" 335 (oR 119)),(oE P "refuse_strange_name" 343 (oR 126)),(oE P "refuse_strange_names" 352 (oR 133)),(oE P "refuse_begin" 361 (oR 140)),(oE P "FIGURES_OF_A_BLOCK" 365 (.int 18 364)),(oE P "BLOCK" 367 (.int 1000000000000000000 366)),(oE P "YES" 369 (oR 141)),(oE P "FORMS" 411 (oR 142)),(oE P "shown_world" 417 (oR 159)),(oE P "shown_need" 424 (oR 166)),(oE P "shown_way" 430 (oR 171)),(oE P "shown_thing" 436 (oR 176)),(oE P "shown_number" 446 (oR 183)),(oE P "_law_cell_at" 456 (oR 190)),(oE P "_law_stir" 465 (oR 197)),(oE P "_law_drawn" 476 (oR 204)),(oE P "_law_deck" 483 (oR 211)),(oE P "_law_take" 492 (oR 218)),(oE P "_law_unlike" 508 (oR 225)),(oE P "_law_boxes" 521 (oR 232)),(oE P "_law_expr" 532 (oR 239)),(oE P "_law_cond" 543 (oR 246)),(oE P "_law_worth" 555 (oR 253)),(oE P "_law_holds" 564 (oR 260)),(oE P "_law_values" 570 (oR 265)),(oE P "_law_standings" 576 (oR 270)),(oE P "_law_deed" 591 (oR 277)),(oE P "_law_world" 597 (oR 282)),(oE P "_law_shown" 606 (oR 289)),(oE P "_law_rows" 612 (oR 294)),(oE P "_law_short" 619 (oR 301)),(oE P "law" 634 (oR 308))] 59) #[]),
  boot_o_4 P,
  boot_o_5 P,
  boot_o_6 P,
  boot_o_7 P,
  boot_o_8 P,
  boot_o_9 P,
  boot_o_10 P,
  oT #[],
  (Obj.mk .none none (Data.fields #[(oI 2),(oI 0),(oR 20),(oI 4),(oI 0),(oR 33),(oI 7),(oI 0),(oR 45),(oI 9),(oI 0),(oR 52),(oI 17),(oI 0),(oR 57),(oI 19),(oI 0),(oR 64),(oI 28),(oI 0),(oR 71),(oI 44),(oI 0),(oR 77),(oI 59),(oI 0),(oR 82),(oI 67),(oI 0),(oR 87),(oI 69),(oI 0),(oR 94),(oI 71),(oI 0),(oR 99),(oI 80),(oI 0),(oR 106),(oI 83),(oI 0),(oR 113),(oI 86),(oI 0),(oR 118),(oI 94),(oI 0),(oR 125),(oI 97),(oI 0),(oR 132),(oI 100),(oI 0),(oR 139),(oI 110),(oI 0),(oR 158),(oI 120),(oI 0),(oR 165),(oI 122),(oI 0),(oR 170),(oI 124),(oI 0),(oR 175),(oI 136),(oI 0),(oR 182),(oI 147),(oI 0),(oR 189),(oI 151),(oI 0),(oR 196),(oI 155),(oI 0),(oR 203),(oI 165),(oI 0),(oR 210),(oI 169),(oI 0),(oR 217),(oI 173),(oI 0),(oR 224),(oI 184),(oI 0),(oR 231),(oI 197),(oI 0),(oR 238),(oI 205),(oI 0),(oR 245),(oI 216),(oI 0),(oR 252),(oI 229),(oI 0),(oR 259),(oI 238),(oI 0),(oR 264),(oI 240),(oI 0),(oR 269),(oI 248),(oI 0),(oR 276),(oI 261),(oI 0),(oR 281),(oI 282),(oI 0),(oR 288),(oI 294),(oI 0),(oR 293),(oI 310),(oI 0),(oR 300),(oI 312),(oI 0),(oR 307)]) #[]),
  oC #[(oS "<module>" 182),(oS "<module>" 183),(oS "/claim/cut.py" 184),(oI 1),(oI 0),(oI 0),(oI 0),(oI 0),(oR 11),(.bool Bool.false),(oI 181),(oR 12),.none,.none,.none,.none,(oI 185),(oI 1),(oS "/claim/cut.py" 186)],
  (Obj.mk (.type "frame") none Data.plain #[(some (oR 13)),(some (oR 3)),(some (oR 3)),none,(some (oS "__main__" 164)),none,(some (oR 0))]),
  oT #[(.type "ValueError")],
  (Obj.mk (.type "builtin_function_or_method") none (Data.fields #[(.builtin "type.__prepare__"),(.type "type")]) #[]),
  (Obj.mk (.type "dict") none (Data.dict #[(oE P "__module__" 196 (oS "forkplan.errors" 187)),(oE P "__qualname__" 198 (oS "ForkError" 197)),(oE P "__firstlineno__" 200 (.int 2 199)),(oE P "__static_attributes__" 201 (oR 22))] 4) #[]),
  oT #[],
  oN,
  oC #[(oS "ForkError" 191),(oS "ForkError" 192),(oS "/claim/cut.py" 193),(oI 2),(oI 0),(oI 0),(oI 0),(oI 0),(oR 18),(.bool Bool.false),(oI 181),(oR 19),.none,.none,.none,.none,(oI 194),(oI 2),(oS "/claim/cut.py" 195)],
  (Obj.mk (.type "frame") none Data.plain #[(some (oR 20)),(some (oR 3)),(some (oR 17)),none,(some (oS "forkplan.errors" 187)),none,(some (oR 0))]),
  oT #[],
  (Obj.mk (.type "dict") none (Data.dict #[(oE P "__module__" 196 (oS "forkplan.errors" 187)),(oE P "__firstlineno__" 200 (.int 2 199)),(oE P "__static_attributes__" 201 (oR 22)),(oE P "__weakref__" 203 (oR 25)),(oE P "__doc__" 204 .none)] 3) #[]),
  (Obj.mk (.type "type") none (Data.cls (ClassData.mk (Str.ofString "ForkError") [(.type "ValueError")] [(oR 24),(.type "ValueError"),(.type "Exception"),(.type "BaseException"),(.type "object")] 23 (Str.ofString "ForkError") Bool.true [] [(oR 37)] Bool.false none Bool.false)) #[(some (oR 15)),none,(some (oS "ForkError" 189)),(some (oS "ForkError" 197)),(some (.builtin "ValueError.__new__")),(some (.bool Bool.true))]),
  (Obj.mk (.type "getset_descriptor") none (Data.fields #[(oS "__weakref__" 202),(oR 24),(.builtin "ExceptionGroup.__weakref__"),.none]) #[]),
  (Obj.mk (.type "super") none (Data.fields #[(oR 24),(oR 24),(oR 24)]) #[]),
  (Obj.mk (.type "builtin_function_or_method") none (Data.fields #[(.builtin "object.__init_subclass__"),(oR 24)]) #[]),
  oT #[(oR 24)],
  (Obj.mk (.type "builtin_function_or_method") none (Data.fields #[(.builtin "type.__prepare__"),(.type "type")]) #[]),
  (Obj.mk (.type "dict") none (Data.dict #[(oE P "__module__" 214 (oS "forkplan.errors" 187)),(oE P "__qualname__" 216 (oS "NoWorld" 215)),(oE P "__firstlineno__" 218 (.int 4 217)),(oE P "__static_attributes__" 219 (oR 35))] 4) #[]),
  oT #[],
  oN,
  oC #[(oS "NoWorld" 209),(oS "NoWorld" 210),(oS "/claim/cut.py" 211),(oI 4),(oI 0),(oI 0),(oI 0),(oI 0),(oR 31),(.bool Bool.false),(oI 181),(oR 32),.none,.none,.none,.none,(oI 212),(oI 4),(oS "/claim/cut.py" 213)],
  (Obj.mk (.type "frame") none Data.plain #[(some (oR 33)),(some (oR 3)),(some (oR 30)),none,(some (oS "forkplan.errors" 187)),none,(some (oR 0))]),
  oT #[],
  (Obj.mk (.type "dict") none (Data.dict #[(oE P "__module__" 214 (oS "forkplan.errors" 187)),(oE P "__firstlineno__" 218 (.int 4 217)),(oE P "__static_attributes__" 219 (oR 35)),(oE P "__doc__" 220 .none)] 2) #[]),
  (Obj.mk (.type "type") none (Data.cls (ClassData.mk (Str.ofString "NoWorld") [(oR 24)] [(oR 37),(oR 24),(.type "ValueError"),(.type "Exception"),(.type "BaseException"),(.type "object")] 36 (Str.ofString "NoWorld") Bool.true [] [] Bool.false none Bool.false)) #[(some (oR 28)),none,(some (oS "NoWorld" 207)),(some (oS "NoWorld" 215)),(some (.builtin "ValueError.__new__")),(some (.bool Bool.true))]),
  (Obj.mk (.type "super") none (Data.fields #[(oR 37),(oR 37),(oR 37)]) #[]),
  (Obj.mk (.type "builtin_function_or_method") none (Data.fields #[(.builtin "object.__init_subclass__"),(oR 37)]) #[]),
  oT #[],
  oN,
  oT #[(oS "condition" 228),(oS "boxes" 229),(oS "standing" 230)],
  oT #[],
  oG "holds" 4,
  oC #[(oS "holds" 225),(oS "holds" 226),(oS "/claim/cut.py" 227),(oI 7),(oI 3),(oI 0),(oI 0),(oI 3),(oR 40),(.bool Bool.true),(oI 181),(oR 41),.none,(oR 42),(oR 43),(oR 44),(oI 231),(oI 7),(oS "/claim/cut.py" 232)],
  oF "holds" 4 "forkplan.exprs" 223 45,
  oT #[],
  oN,
  oT #[(oS "thing" 237),(oS "names" 238),(oS "part" 239)],
  oT #[],
  oG "names_in" 5,
  oC #[(oS "names_in" 234),(oS "names_in" 235),(oS "/claim/cut.py" 236),(oI 9),(oI 1),(oI 0),(oI 0),(oI 3),(oR 47),(.bool Bool.true),(oI 181),(oR 48),.none,(oR 49),(oR 50),(oR 51),(oI 240),(oI 9),(oS "/claim/cut.py" 241)],
  oF "names_in" 5 "forkplan.exprs" 223 52,
  oT #[],
  oN,
  oG "values_by_name" 6,
  oC #[(oS "values_by_name" 243),(oS "values_by_name" 244),(oS "/claim/cut.py" 245),(oI 17),(oI 2),(oI 0),(oI 0),(oI 3),(oR 54),(.bool Bool.true),(oI 181),(oR 55),.none,.none,.none,(oR 56),(oI 246),(oI 17),(oS "/claim/cut.py" 247)],
  oF "values_by_name" 6 "forkplan.exprs" 223 57,
  oT #[],
  oN,
  oT #[(oS "expression" 252),(oS "values" 253),(oS "kind" 254),(oS "one" 255),(oS "other" 256)],
  oT #[],
  oG "worth_by" 7,
  oC #[(oS "worth_by" 249),(oS "worth_by" 250),(oS "/claim/cut.py" 251),(oI 19),(oI 2),(oI 0),(oI 0),(oI 3),(oR 59),(.bool Bool.true),(oI 181),(oR 60),.none,(oR 61),(oR 62),(oR 63),(oI 257),(oI 19),(oS "/claim/cut.py" 258)],
  oF "worth_by" 7 "forkplan.exprs" 223 64,
  oT #[],
  oN,
  oT #[(oS "condition" 263),(oS "values" 264),(oS "kind" 265),(oS "one" 266),(oS "other" 267)],
  oT #[],
  oG "holds_by" 8,
  oC #[(oS "holds_by" 260),(oS "holds_by" 261),(oS "/claim/cut.py" 262),(oI 28),(oI 2),(oI 0),(oI 0),(oI 3),(oR 66),(.bool Bool.true),(oI 181),(oR 67),.none,(oR 68),(oR 69),(oR 70),(oI 268),(oI 28),(oS "/claim/cut.py" 269)],
  oF "holds_by" 8 "forkplan.exprs" 223 71,
  oT #[(oS "not" 279),(oS "and" 280),(oS "yes" 281)],
  oT #[],
  oN,
  oG "world_of" 14,
  oC #[(oS "world_of" 283),(oS "world_of" 284),(oS "/claim/cut.py" 285),(oI 44),(oI 5),(oI 0),(oI 0),(oI 3),(oR 74),(.bool Bool.true),(oI 181),(oR 75),.none,.none,.none,(oR 76),(oI 286),(oI 44),(oS "/claim/cut.py" 287)],
  oF "world_of" 14 "forkplan.worlds" 271 77,
  oT #[],
  oN,
  oG "standings_of_boxes" 15,
  oC #[(oS "standings_of_boxes" 289),(oS "standings_of_boxes" 290),(oS "/claim/cut.py" 291),(oI 59),(oI 1),(oI 0),(oI 0),(oI 3),(oR 79),(.bool Bool.true),(oI 181),(oR 80),.none,.none,.none,(oR 81),(oI 292),(oI 59),(oS "/claim/cut.py" 293)],
  oF "standings_of_boxes" 15 "forkplan.worlds" 271 82,
  oT #[],
  oN,
  oG "copied_deed" 16,
  oC #[(oS "copied_deed" 295),(oS "copied_deed" 296),(oS "/claim/cut.py" 297),(oI 67),(oI 1),(oI 0),(oI 0),(oI 3),(oR 84),(.bool Bool.true),(oI 181),(oR 85),.none,.none,.none,(oR 86),(oI 298),(oI 67),(oS "/claim/cut.py" 299)],
  oF "copied_deed" 16 "forkplan.worlds" 271 87,
  oT #[],
  oN,
  oT #[(oS "thing" 304)],
  oT #[],
  oG "is_whole" 17,
  oC #[(oS "is_whole" 301),(oS "is_whole" 302),(oS "/claim/cut.py" 303),(oI 69),(oI 1),(oI 0),(oI 0),(oI 3),(oR 89),(.bool Bool.true),(oI 181),(oR 90),.none,(oR 91),(oR 92),(oR 93),(oI 305),(oI 69),(oS "/claim/cut.py" 306)],
  oF "is_whole" 17 "forkplan.worlds" 271 94,
  oT #[],
  oN,
  oG "refuse_boxes" 18,
  oC #[(oS "refuse_boxes" 308),(oS "refuse_boxes" 309),(oS "/claim/cut.py" 310),(oI 71),(oI 1),(oI 0),(oI 0),(oI 3),(oR 96),(.bool Bool.true),(oI 181),(oR 97),.none,.none,.none,(oR 98),(oI 311),(oI 71),(oS "/claim/cut.py" 312)],
  oF "refuse_boxes" 18 "forkplan.worlds" 271 99,
  oT #[],
  oN,
  oT #[(oS "names" 317),(oS "kind" 318)],
  oT #[],
  oG "refuse_twice" 19,
  oC #[(oS "refuse_twice" 314),(oS "refuse_twice" 315),(oS "/claim/cut.py" 316),(oI 80),(oI 2),(oI 0),(oI 0),(oI 3),(oR 101),(.bool Bool.true),(oI 181),(oR 102),.none,(oR 103),(oR 104),(oR 105),(oI 319),(oI 80),(oS "/claim/cut.py" 320)],
  oF "refuse_twice" 19 "forkplan.worlds" 271 106,
  oT #[],
  oN,
  oT #[(oS "name" 325),(oS "price" 326)],
  oT #[],
  oG "refuse_price" 20,
  oC #[(oS "refuse_price" 322),(oS "refuse_price" 323),(oS "/claim/cut.py" 324),(oI 83),(oI 2),(oI 0),(oI 0),(oI 3),(oR 108),(.bool Bool.true),(oI 181),(oR 109),.none,(oR 110),(oR 111),(oR 112),(oI 327),(oI 83),(oS "/claim/cut.py" 328)],
  oF "refuse_price" 20 "forkplan.worlds" 271 113,
  oT #[],
  oN,
  oG "refuse_ways" 21,
  oC #[(oS "refuse_ways" 330),(oS "refuse_ways" 331),(oS "/claim/cut.py" 332),(oI 86),(oI 3),(oI 0),(oI 0),(oI 3),(oR 115),(.bool Bool.true),(oI 181),(oR 116),.none,.none,.none,(oR 117),(oI 333),(oI 86),(oS "/claim/cut.py" 334)],
  oF "refuse_ways" 21 "forkplan.worlds" 271 118,
  oT #[],
  oN,
  oT #[(oS "name" 339),(oS "names" 340)],
  oT #[],
  oG "refuse_strange_name" 22,
  oC #[(oS "refuse_strange_name" 336),(oS "refuse_strange_name" 337),(oS "/claim/cut.py" 338),(oI 94),(oI 2),(oI 0),(oI 0),(oI 3),(oR 120),(.bool Bool.true),(oI 181),(oR 121),.none,(oR 122),(oR 123),(oR 124),(oI 341),(oI 94),(oS "/claim/cut.py" 342)],
  oF "refuse_strange_name" 22 "forkplan.worlds" 271 125,
  oT #[],
  oN,
  oT #[(oS "thing" 347),(oS "names" 348),(oS "name" 349)],
  oT #[],
  oG "refuse_strange_names" 23,
  oC #[(oS "refuse_strange_names" 344),(oS "refuse_strange_names" 345),(oS "/claim/cut.py" 346),(oI 97),(oI 2),(oI 0),(oI 0),(oI 3),(oR 127),(.bool Bool.true),(oI 181),(oR 128),.none,(oR 129),(oR 130),(oR 131),(oI 350),(oI 97),(oS "/claim/cut.py" 351)],
  oF "refuse_strange_names" 23 "forkplan.worlds" 271 132,
  oT #[],
  oN,
  oT #[(oS "begin" 356),(oS "boxes" 357),(oS "standing" 358)],
  oT #[],
  oG "refuse_begin" 24,
  oC #[(oS "refuse_begin" 353),(oS "refuse_begin" 354),(oS "/claim/cut.py" 355),(oI 100),(oI 2),(oI 0),(oI 0),(oI 3),(oR 134),(.bool Bool.true),(oI 181),(oR 135),.none,(oR 136),(oR 137),(oR 138),(oI 359),(oI 100),(oS "/claim/cut.py" 360)],
  oF "refuse_begin" 24 "forkplan.worlds" 271 139,
  oT #[(oS "yes" 368)],
  (Obj.mk (.type "dict") none (Data.dict #[(oE P "plus" 370 (oR 144)),(oE P "less" 377 (oR 146)),(oE P "same" 384 (oR 148)),(oE P "under" 389 (oR 150)),(oE P "not" 394 (oR 152)),(oE P "both" 398 (oR 154))] 6) #[]),
  oT #[(oS "(" 372),(oS "E" 373),(oS "+" 374),(oS "E" 375),(oS ")" 376)],
  oT #[(oS "E" 371),(oR 143)],
  oT #[(oS "(" 379),(oS "E" 380),(oS "-" 381),(oS "E" 382),(oS ")" 383)],
  oT #[(oS "E" 378),(oR 145)],
  oT #[(oS "E" 386),(oS "=" 387),(oS "E" 388)],
  oT #[(oS "C" 385),(oR 147)],
  oT #[(oS "E" 391),(oS "<" 392),(oS "E" 393)],
  oT #[(oS "C" 390),(oR 149)],
  oT #[(oS "not" 396),(oS "C" 397)],
  oT #[(oS "C" 395),(oR 151)],
  oT #[(oS "(" 400),(oS "C" 401),(oS "and" 402),(oS "C" 403),(oS ")" 404)],
  oT #[(oS "C" 399),(oR 153)],
  oT #[],
  oN,
  oG "shown_world" 30,
  oC #[(oS "shown_world" 412),(oS "shown_world" 413),(oS "/claim/cut.py" 414),(oI 110),(oI 1),(oI 0),(oI 0),(oI 3),(oR 155),(.bool Bool.true),(oI 181),(oR 156),.none,.none,.none,(oR 157),(oI 415),(oI 110),(oS "/claim/cut.py" 416)],
  oF "shown_world" 30 "forkplan.texts" 362 158,
  oT #[],
  oN,
  oT #[(oS "need" 421)],
  oT #[],
  oG "shown_need" 31,
  oC #[(oS "shown_need" 418),(oS "shown_need" 419),(oS "/claim/cut.py" 420),(oI 120),(oI 1),(oI 0),(oI 0),(oI 3),(oR 160),(.bool Bool.true),(oI 181),(oR 161),.none,(oR 162),(oR 163),(oR 164),(oI 422),(oI 120),(oS "/claim/cut.py" 423)],
  oF "shown_need" 31 "forkplan.texts" 362 165,
  oT #[],
  oN,
  oG "shown_way" 32,
  oC #[(oS "shown_way" 425),(oS "shown_way" 426),(oS "/claim/cut.py" 427),(oI 122),(oI 1),(oI 0),(oI 0),(oI 3),(oR 167),(.bool Bool.true),(oI 181),(oR 168),.none,.none,.none,(oR 169),(oI 428),(oI 122),(oS "/claim/cut.py" 429)],
  oF "shown_way" 32 "forkplan.texts" 362 170,
  oT #[],
  oN,
  oG "shown_thing" 33,
  oC #[(oS "shown_thing" 431),(oS "shown_thing" 432),(oS "/claim/cut.py" 433),(oI 124),(oI 1),(oI 0),(oI 0),(oI 3),(oR 172),(.bool Bool.true),(oI 181),(oR 173),.none,.none,.none,(oR 174),(oI 434),(oI 124),(oS "/claim/cut.py" 435)],
  oF "shown_thing" 33 "forkplan.texts" 362 175,
  oT #[],
  oN,
  oT #[(oS "number" 440),(oS "sign" 441),(oS "rest" 442),(oS "blocks" 443)],
  oT #[],
  oG "shown_number" 34,
  oC #[(oS "shown_number" 437),(oS "shown_number" 438),(oS "/claim/cut.py" 439),(oI 136),(oI 1),(oI 0),(oI 0),(oI 3),(oR 177),(.bool Bool.true),(oI 181),(oR 178),.none,(oR 179),(oR 180),(oR 181),(oI 444),(oI 136),(oS "/claim/cut.py" 445)],
  oF "shown_number" 34 "forkplan.texts" 362 182,
  oT #[],
  oN,
  oT #[(oS "script" 452),(oS "k" 453)],
  oT #[],
  oG "_law_cell_at" 36,
  oC #[(oS "_law_cell_at" 449),(oS "_law_cell_at" 450),(oS "/claim/cut.py" 451),(oI 147),(oI 2),(oI 0),(oI 0),(oI 3),(oR 184),(.bool Bool.true),(oI 181),(oR 185),.none,(oR 186),(oR 187),(oR 188),(oI 454),(oI 147),(oS "/claim/cut.py" 455)],
  oF "_law_cell_at" 36 "law_forkplan_k80_worlds_written" 447 189,
  oT #[],
  oN,
  oT #[(oS "cell" 460),(oS "k" 461),(oS "number" 462)],
  oT #[],
  oG "_law_stir" 37,
  oC #[(oS "_law_stir" 457),(oS "_law_stir" 458),(oS "/claim/cut.py" 459),(oI 151),(oI 2),(oI 0),(oI 0),(oI 3),(oR 191),(.bool Bool.true),(oI 181),(oR 192),.none,(oR 193),(oR 194),(oR 195),(oI 463),(oI 151),(oS "/claim/cut.py" 464)],
  oF "_law_stir" 37 "law_forkplan_k80_worlds_written" 447 196,
  oT #[],
  oN,
  oT #[(oS "cell" 469),(oS "sizes" 470),(oS "found" 471),(oS "rest" 472),(oS "k" 473)],
  oT #[],
  oG "_law_drawn" 38,
  oC #[(oS "_law_drawn" 466),(oS "_law_drawn" 467),(oS "/claim/cut.py" 468),(oI 155),(oI 2),(oI 0),(oI 0),(oI 3),(oR 198),(.bool Bool.true),(oI 181),(oR 199),.none,(oR 200),(oR 201),(oR 202),(oI 474),(oI 155),(oS "/claim/cut.py" 475)],
  oF "_law_drawn" 38 "law_forkplan_k80_worlds_written" 447 203,
  oT #[],
  oN,
  oT #[(oS "cell" 480)],
  oT #[],
  oG "_law_deck" 39,
  oC #[(oS "_law_deck" 477),(oS "_law_deck" 478),(oS "/claim/cut.py" 479),(oI 165),(oI 1),(oI 0),(oI 0),(oI 3),(oR 205),(.bool Bool.true),(oI 181),(oR 206),.none,(oR 207),(oR 208),(oR 209),(oI 481),(oI 165),(oS "/claim/cut.py" 482)],
  oF "_law_deck" 39 "law_forkplan_k80_worlds_written" 447 210,
  oT #[],
  oN,
  oT #[(oS "deck" 487),(oS "many" 488),(oS "taken" 489)],
  oT #[],
  oG "_law_take" 40,
  oC #[(oS "_law_take" 484),(oS "_law_take" 485),(oS "/claim/cut.py" 486),(oI 169),(oI 2),(oI 0),(oI 0),(oI 3),(oR 212),(.bool Bool.true),(oI 181),(oR 213),.none,(oR 214),(oR 215),(oR 216),(oI 490),(oI 169),(oS "/claim/cut.py" 491)],
  oF "_law_take" 40 "law_forkplan_k80_worlds_written" 447 217,
  oT #[],
  oN,
  oT #[(oS "number" 496),(oS "many" 497),(oS "letters" 498),(oS "pad" 499),(oS "size" 500),(oS "at" 501),(oS "first" 502),(oS "found" 503),(oS "k" 504),(oS "sign" 505)],
  oT #[],
  oG "_law_unlike" 41,
  oC #[(oS "_law_unlike" 493),(oS "_law_unlike" 494),(oS "/claim/cut.py" 495),(oI 173),(oI 2),(oI 0),(oI 0),(oI 3),(oR 219),(.bool Bool.true),(oI 181),(oR 220),.none,(oR 221),(oR 222),(oR 223),(oI 506),(oI 173),(oS "/claim/cut.py" 507)],
  oF "_law_unlike" 41 "law_forkplan_k80_worlds_written" 447 224,
  oT #[],
  oN,
  oT #[(oS "cell" 512),(oS "drawn" 513),(oS "words" 514),(oS "boxes" 515),(oS "room" 516),(oS "k" 517),(oS "size" 518)],
  oT #[],
  oG "_law_boxes" 42,
  oC #[(oS "_law_boxes" 509),(oS "_law_boxes" 510),(oS "/claim/cut.py" 511),(oI 184),(oI 1),(oI 0),(oI 0),(oI 3),(oR 226),(.bool Bool.true),(oI 181),(oR 227),.none,(oR 228),(oR 229),(oR 230),(oI 519),(oI 184),(oS "/claim/cut.py" 520)],
  oF "_law_boxes" 42 "law_forkplan_k80_worlds_written" 447 231,
  oT #[],
  oN,
  oT #[(oS "deck" 525),(oS "words" 526),(oS "deep" 527),(oS "kind" 528),(oS "one" 529)],
  oT #[],
  oG "_law_expr" 43,
  oC #[(oS "_law_expr" 522),(oS "_law_expr" 523),(oS "/claim/cut.py" 524),(oI 197),(oI 3),(oI 0),(oI 0),(oI 3),(oR 233),(.bool Bool.true),(oI 181),(oR 234),.none,(oR 235),(oR 236),(oR 237),(oI 530),(oI 197),(oS "/claim/cut.py" 531)],
  oF "_law_expr" 43 "law_forkplan_k80_worlds_written" 447 238,
  oT #[],
  oN,
  oT #[(oS "deck" 536),(oS "words" 537),(oS "deep" 538),(oS "kind" 539),(oS "one" 540)],
  oT #[],
  oG "_law_cond" 44,
  oC #[(oS "_law_cond" 533),(oS "_law_cond" 534),(oS "/claim/cut.py" 535),(oI 205),(oI 3),(oI 0),(oI 0),(oI 3),(oR 240),(.bool Bool.true),(oI 181),(oR 241),.none,(oR 242),(oR 243),(oR 244),(oI 541),(oI 205),(oS "/claim/cut.py" 542)],
  oF "_law_cond" 44 "law_forkplan_k80_worlds_written" 447 245,
  oT #[],
  oN,
  oT #[(oS "part" 547),(oS "values" 548),(oS "total" 549),(oS "pile" 550),(oS "one" 551),(oS "sign" 552)],
  oT #[],
  oG "_law_worth" 45,
  oC #[(oS "_law_worth" 544),(oS "_law_worth" 545),(oS "/claim/cut.py" 546),(oI 216),(oI 2),(oI 0),(oI 0),(oI 3),(oR 247),(.bool Bool.true),(oI 181),(oR 248),.none,(oR 249),(oR 250),(oR 251),(oI 553),(oI 216),(oS "/claim/cut.py" 554)],
  oF "_law_worth" 45 "law_forkplan_k80_worlds_written" 447 252,
  oT #[],
  oN,
  oT #[(oS "cond" 559),(oS "values" 560),(oS "apart" 561)],
  oT #[],
  oG "_law_holds" 46,
  oC #[(oS "_law_holds" 556),(oS "_law_holds" 557),(oS "/claim/cut.py" 558),(oI 229),(oI 2),(oI 0),(oI 0),(oI 3),(oR 254),(.bool Bool.true),(oI 181),(oR 255),.none,(oR 256),(oR 257),(oR 258),(oI 562),(oI 229),(oS "/claim/cut.py" 563)],
  oF "_law_holds" 46 "law_forkplan_k80_worlds_written" 447 259,
  oT #[],
  oN,
  oG "_law_values" 47,
  oC #[(oS "_law_values" 565),(oS "_law_values" 566),(oS "/claim/cut.py" 567),(oI 238),(oI 2),(oI 0),(oI 0),(oI 3),(oR 261),(.bool Bool.true),(oI 181),(oR 262),.none,.none,.none,(oR 263),(oI 568),(oI 238),(oS "/claim/cut.py" 569)],
  oF "_law_values" 47 "law_forkplan_k80_worlds_written" 447 264,
  oT #[],
  oN,
  oG "_law_standings" 48,
  oC #[(oS "_law_standings" 571),(oS "_law_standings" 572),(oS "/claim/cut.py" 573),(oI 240),(oI 1),(oI 0),(oI 0),(oI 3),(oR 266),(.bool Bool.true),(oI 181),(oR 267),.none,.none,.none,(oR 268),(oI 574),(oI 240),(oS "/claim/cut.py" 575)],
  oF "_law_standings" 48 "law_forkplan_k80_worlds_written" 447 269,
  oT #[],
  oN,
  oT #[(oS "deck" 580),(oS "name" 581),(oS "words" 582),(oS "price" 583),(oS "need" 584),(oS "ways" 585),(oS "k" 586),(oS "way" 587),(oS "word" 588)],
  oT #[],
  oG "_law_deed" 49,
  oC #[(oS "_law_deed" 577),(oS "_law_deed" 578),(oS "/claim/cut.py" 579),(oI 248),(oI 3),(oI 0),(oI 0),(oI 3),(oR 271),(.bool Bool.true),(oI 181),(oR 272),.none,(oR 273),(oR 274),(oR 275),(oI 589),(oI 248),(oS "/claim/cut.py" 590)],
  oF "_law_deed" 49 "law_forkplan_k80_worlds_written" 447 276,
  oT #[],
  oN,
  oG "_law_world" 50,
  oC #[(oS "_law_world" 592),(oS "_law_world" 593),(oS "/claim/cut.py" 594),(oI 261),(oI 1),(oI 0),(oI 0),(oI 3),(oR 278),(.bool Bool.true),(oI 181),(oR 279),.none,.none,.none,(oR 280),(oI 595),(oI 261),(oS "/claim/cut.py" 596)],
  oF "_law_world" 50 "law_forkplan_k80_worlds_written" 447 281,
  oT #[],
  oN,
  oT #[(oS "thing" 601),(oS "mark" 602),(oS "found" 603)],
  oT #[],
  oG "_law_shown" 51,
  oC #[(oS "_law_shown" 598),(oS "_law_shown" 599),(oS "/claim/cut.py" 600),(oI 282),(oI 1),(oI 0),(oI 0),(oI 3),(oR 283),(.bool Bool.true),(oI 181),(oR 284),.none,(oR 285),(oR 286),(oR 287),(oI 604),(oI 282),(oS "/claim/cut.py" 605)],
  oF "_law_shown" 51 "law_forkplan_k80_worlds_written" 447 288,
  oT #[],
  oN,
  oG "_law_rows" 52,
  oC #[(oS "_law_rows" 607),(oS "_law_rows" 608),(oS "/claim/cut.py" 609),(oI 294),(oI 1),(oI 0),(oI 0),(oI 3),(oR 290),(.bool Bool.true),(oI 181),(oR 291),.none,.none,.none,(oR 292),(oI 610),(oI 294),(oS "/claim/cut.py" 611)],
  oF "_law_rows" 52 "law_forkplan_k80_worlds_written" 447 293,
  oT #[],
  oN,
  oT #[(oS "world" 616)],
  oT #[],
  oG "_law_short" 53,
  oC #[(oS "_law_short" 613),(oS "_law_short" 614),(oS "/claim/cut.py" 615),(oI 310),(oI 1),(oI 0),(oI 0),(oI 3),(oR 295),(.bool Bool.true),(oI 181),(oR 296),.none,(oR 297),(oR 298),(oR 299),(oI 617),(oI 310),(oS "/claim/cut.py" 618)],
  oF "_law_short" 53 "law_forkplan_k80_worlds_written" 447 300,
  oT #[],
  oN,
  oT #[(oS "script" 623),(oS "boxes" 624),(oS "deeds" 625),(oS "looks" 626),(oS "begin" 627),(oS "goal" 628),(oS "world" 629),(oS "due" 630),(oS "k" 631)],
  oT #[],
  oG "law" 54,
  oC #[(oS "law" 620),(oS "law" 621),(oS "/claim/cut.py" 622),(oI 312),(oI 1),(oI 0),(oI 0),(oI 3),(oR 302),(.bool Bool.true),(oI 181),(oR 303),.none,(oR 304),(oR 305),(oR 306),(oI 632),(oI 312),(oS "/claim/cut.py" 633)],
  oF "law" 54 "law_forkplan_k80_worlds_written" 447 307]
noncomputable def qCx (P:Params):List Obj:=[boot_o_0 P,boot_o_1 P,boot_o_2 P,boot_o_3 P,boot_o_4 P,boot_o_5 P,boot_o_6 P,boot_o_7 P,boot_o_8 P,boot_o_9 P,boot_o_10 P,oT #[],oN,oC #[(oS "<module>" 182),(oS "<module>" 183),(oS "/claim/cut.py" 184),(oI 1),(oI 0),(oI 0),(oI 0),(oI 0),(oR 11),(.bool Bool.false),(oI 181),(oR 12),.none,.none,.none,.none,(oI 185),(oI 1),(oS "/claim/cut.py" 186)],(Obj.mk (.type "frame") none Data.plain #[(some (oR 13)),(some (oR 3)),(some (oR 3)),none,(some (oS "__main__" 164)),none,(some (oR 0))])]
noncomputable def wP (os:List Obj):Nat→Nat→Nat→BT
 | 0,_,_=>.nil
 | f+1,a,b=>match os[b]? with
  | some o=>.node o (wP os f (2 * a) (a+b)) (wP os f (2 * a) (2 * a+b))
  | none=>.nil
noncomputable def qZd:Life:=(Life.mk [] [] [] 0 [] [] Bool.false #[] [] 0 Bool.false Bool.false Bool.false 0 [2000,10,10] Bool.false 0 Bool.true [] [] 0 Bool.false)
noncomputable def topEnv:Env:={ scope:=PySem.Challenge.pw_forkplan_k80_worlds_written.main.scope,locals:=mainNs,globals:=mainNs,cells:=[],code:=(Value.ref 13),frame:=some 14 }
noncomputable def kT:List Stmt:=behindTheImports PySem.Challenge.pw_forkplan_k80_worlds_written
noncomputable def jR:Code:=.body kT topEnv
noncomputable def topA (w:World)(os:OsState):Shared:=⟨⟨⟨qCx w.params⟩,qZd⟩,⟨[]⟩,(Drawn.mk 0 0 0 0),187,os⟩
noncomputable def topB (w:World)(os:OsState):SharedT:=⟨wP (qCx w.params) 12 1 0,15,qZd,⟨[]⟩,(Drawn.mk 0 0 0 0),187,os⟩
noncomputable def topZ (w:World)(os:OsState):SharedT:=⟨wP (qCz w.params) 12 1 0,309,qZd,⟨[]⟩,(Drawn.mk 0 0 0 0),635,os⟩
theorem topPre (w:World)(os:OsState):topGo treeTable PySem.Challenge.pw_forkplan_k80_worlds_written w 11 (some (Value.ref 6)) 12 ⟨boot_heap w.params,⟨[]⟩,boot_drawn,boot_toks,os⟩ (topStub PySem.Challenge.pw_forkplan_k80_worlds_written)=some (topA w os,⟨denote treeTable jR,jR,(Pos.mk 0 0 0 0),[topFrame (Pos.mk 0 0 0 0)]⟩):=by kernel_rfl
theorem qGv (w:World)(os:OsState):segRun treeTable PySem.Challenge.pw_forkplan_k80_worlds_written w 11 (some (Value.ref 6)) 1 1 (topA w os) (blockOf kT topEnv jR (Pos.mk 0 0 0 0) [topFrame (Pos.mk 0 0 0 0)])=some (.next,(topB w os).abs,jR,(Pos.mk 0 0 0 0)):=by kernel_rfl
theorem qMh (w:World)(os:OsState):segRunT treeTable PySem.Challenge.pw_forkplan_k80_worlds_written (w.withFollow "special-get-raises" false) 11 (some (Value.ref 6)) 1 1861 (topB (w.withFollow "special-get-raises" false) os) (piecesOf kT topEnv jR (Pos.mk 0 0 0 0) [topFrame (Pos.mk 0 0 0 0)])=some (.next,topZ (w.withFollow "special-get-raises" false) os,jR,(Pos.mk 312 0 319 15)):=by kernel_rfl
theorem qMg (w:World)(os:OsState):segRunT treeTable PySem.Challenge.pw_forkplan_k80_worlds_written (w.withFollow "special-get-raises" true) 11 (some (Value.ref 6)) 1 1861 (topB (w.withFollow "special-get-raises" true) os) (piecesOf kT topEnv jR (Pos.mk 0 0 0 0) [topFrame (Pos.mk 0 0 0 0)])=some (.next,topZ (w.withFollow "special-get-raises" true) os,jR,(Pos.mk 312 0 319 15)):=by kernel_rfl
theorem topSeg (w:World)(os:OsState):segRunT treeTable PySem.Challenge.pw_forkplan_k80_worlds_written w 11 (some (Value.ref 6)) 1 1861 (topB w os) (piecesOf kT topEnv jR (Pos.mk 0 0 0 0) [topFrame (Pos.mk 0 0 0 0)])=some (.next,topZ w os,jR,(Pos.mk 312 0 319 15)):=by
 have e:=World.withFollow_self w "special-get-raises"
 cases c:w.params.followText "special-get-raises" with
 | false=>rw[c] at e;have h:=qMh w os;rw[e] at h;exact h
 | true=>rw[c] at e;have h:=qMg w os;rw[e] at h;exact h
theorem topFin (w:World)(os:OsState):topRun treeTable PySem.Challenge.pw_forkplan_k80_worlds_written w 11 (some (Value.ref 6)) 2 (topZ w os).abs ⟨doneF .next,jR,(Pos.mk 312 0 319 15),[topFrame (Pos.mk 0 0 0 0)]⟩=some (topZ w os).abs:=by kernel_rfl
noncomputable def qKb (P:Params):PySem.W.Frag:=
 (nat_lit 2,(Obj.mk .none none (Data.dict #[] 0) #[]))::
 (nat_lit 3,(Obj.mk (.type "dict") none (Data.dict #[(oE P "__name__" 165 (.str (Str.ofString "law_forkplan_k80_worlds_written") 447)),(oE P "__doc__" 166 .none),(oE P "__package__" 167 .none),(oE P "__loader__" 168 (.builtin "__main__.__loader__#opaque")),(oE P "__spec__" 169 .none),(oE P "__annotations__" 170 (.ref 6)),(oE P "__builtins__" 171 (.ref 4)),(oE P "__file__" 173 (.str (Str.ofString "/claim/cut.py") 172)),(oE P "__cached__" 174 .none),(oE P "ForkError" 206 (.ref 24)),(oE P "NoWorld" 222 (.ref 37)),(oE P "holds" 233 (.ref 46)),(oE P "names_in" 242 (.ref 53)),(oE P "values_by_name" 248 (.ref 58)),(oE P "worth_by" 259 (.ref 65)),(oE P "holds_by" 270 (.ref 72)),(oE P "LEAST_SIZE" 274 (.int 2 273)),(oE P "GREATEST_SIZE" 276 (.int 5 275)),(oE P "LEAST_PRICE" 278 (.int 1 277)),(oE P "WORDS_OF_CONDITIONS" 282 (.ref 73)),(oE P "world_of" 288 (.ref 78)),(oE P "standings_of_boxes" 294 (.ref 83)),(oE P "copied_deed" 300 (.ref 88)),(oE P "is_whole" 307 (.ref 95)),(oE P "refuse_boxes" 313 (.ref 100)),(oE P "refuse_twice" 321 (.ref 107)),(oE P "refuse_price" 329 (.ref 114)),(oE P "refuse_ways" 335 (.ref 119)),(oE P "refuse_strange_name" 343 (.ref 126)),(oE P "refuse_strange_names" 352 (.ref 133)),(oE P "refuse_begin" 361 (.ref 140)),(oE P "FIGURES_OF_A_BLOCK" 365 (.int 18 364)),(oE P "BLOCK" 367 (.int 1000000000000000000 366)),(oE P "YES" 369 (.ref 141)),(oE P "FORMS" 411 (.ref 142)),(oE P "shown_world" 417 (.ref 159)),(oE P "shown_need" 424 (.ref 166)),(oE P "shown_way" 430 (.ref 171)),(oE P "shown_thing" 436 (.ref 176)),(oE P "shown_number" 446 (.ref 183)),(oE P "_law_cell_at" 456 (.ref 190)),(oE P "_law_stir" 465 (.ref 197)),(oE P "_law_drawn" 476 (.ref 204)),(oE P "_law_deck" 483 (.ref 211)),(oE P "_law_take" 492 (.ref 218)),(oE P "_law_unlike" 508 (.ref 225)),(oE P "_law_boxes" 521 (.ref 232)),(oE P "_law_expr" 532 (.ref 239)),(oE P "_law_cond" 543 (.ref 246)),(oE P "_law_worth" 555 (.ref 253)),(oE P "_law_holds" 564 (.ref 260)),(oE P "_law_values" 570 (.ref 265)),(oE P "_law_standings" 576 (.ref 270)),(oE P "_law_deed" 591 (.ref 277)),(oE P "_law_world" 597 (.ref 282)),(oE P "_law_shown" 606 (.ref 289)),(oE P "_law_rows" 612 (.ref 294)),(oE P "_law_short" 619 (.ref 301)),(oE P "law" 634 (.ref 308))] 59) #[]))::
 (nat_lit 15,(Obj.mk (.type "tuple") none (Data.seq #[(.type "ValueError")] 0) #[]))::
 (nat_lit 22,(Obj.mk (.type "tuple") none (Data.seq #[] 0) #[]))::
 (nat_lit 23,(Obj.mk (.type "dict") none (Data.dict #[(oE P "__module__" 196 (.str (Str.ofString "forkplan.errors") 187)),(oE P "__firstlineno__" 200 (.int 2 199)),(oE P "__static_attributes__" 201 (.ref 22)),(oE P "__weakref__" 203 (.ref 25)),(oE P "__doc__" 204 .none)] 3) #[]))::
 (nat_lit 24,(Obj.mk (.type "type") none (Data.cls (ClassData.mk (Str.ofString "ForkError") [(.type "ValueError")] [(.ref 24),(.type "ValueError"),(.type "Exception"),(.type "BaseException"),(.type "object")] 23 (Str.ofString "ForkError") Bool.true [] [(.ref 37)] Bool.false none Bool.false)) #[(some (.ref 15)),none,(some (.str (Str.ofString "ForkError") 189)),(some (.str (Str.ofString "ForkError") 197)),(some (.builtin "ValueError.__new__")),(some (.bool Bool.true))]))::
 (nat_lit 25,(Obj.mk (.type "getset_descriptor") none (Data.fields #[(.str (Str.ofString "__weakref__") 202),(.ref 24),(.builtin "ExceptionGroup.__weakref__"),.none]) #[]))::
 (nat_lit 28,(Obj.mk (.type "tuple") none (Data.seq #[(.ref 24)] 0) #[]))::
 (nat_lit 35,(Obj.mk (.type "tuple") none (Data.seq #[] 0) #[]))::
 (nat_lit 36,(Obj.mk (.type "dict") none (Data.dict #[(oE P "__module__" 214 (.str (Str.ofString "forkplan.errors") 187)),(oE P "__firstlineno__" 218 (.int 4 217)),(oE P "__static_attributes__" 219 (.ref 35)),(oE P "__doc__" 220 .none)] 2) #[]))::
 (nat_lit 37,(Obj.mk (.type "type") none (Data.cls (ClassData.mk (Str.ofString "NoWorld") [(.ref 24)] [(.ref 37),(.ref 24),(.type "ValueError"),(.type "Exception"),(.type "BaseException"),(.type "object")] 36 (Str.ofString "NoWorld") Bool.true [] [] Bool.false none Bool.false)) #[(some (.ref 28)),none,(some (.str (Str.ofString "NoWorld") 207)),(some (.str (Str.ofString "NoWorld") 215)),(some (.builtin "ValueError.__new__")),(some (.bool Bool.true))]))::
 (nat_lit 45,oC #[(oS "holds" 225),(oS "holds" 226),(oS "/claim/cut.py" 227),(oI 7),(oI 3),(oI 0),(oI 0),(oI 3),(oR 40),(.bool Bool.true),(oI 181),(oR 41),.none,(oR 42),(oR 43),(oR 44),(oI 231),(oI 7),(oS "/claim/cut.py" 232)])::
 (nat_lit 46,oF "holds" 4 "forkplan.exprs" 223 45)::
 (nat_lit 52,oC #[(oS "names_in" 234),(oS "names_in" 235),(oS "/claim/cut.py" 236),(oI 9),(oI 1),(oI 0),(oI 0),(oI 3),(oR 47),(.bool Bool.true),(oI 181),(oR 48),.none,(oR 49),(oR 50),(oR 51),(oI 240),(oI 9),(oS "/claim/cut.py" 241)])::
 (nat_lit 53,oF "names_in" 5 "forkplan.exprs" 223 52)::
 (nat_lit 57,oC #[(oS "values_by_name" 243),(oS "values_by_name" 244),(oS "/claim/cut.py" 245),(oI 17),(oI 2),(oI 0),(oI 0),(oI 3),(oR 54),(.bool Bool.true),(oI 181),(oR 55),.none,.none,.none,(oR 56),(oI 246),(oI 17),(oS "/claim/cut.py" 247)])::
 (nat_lit 58,oF "values_by_name" 6 "forkplan.exprs" 223 57)::
 (nat_lit 64,oC #[(oS "worth_by" 249),(oS "worth_by" 250),(oS "/claim/cut.py" 251),(oI 19),(oI 2),(oI 0),(oI 0),(oI 3),(oR 59),(.bool Bool.true),(oI 181),(oR 60),.none,(oR 61),(oR 62),(oR 63),(oI 257),(oI 19),(oS "/claim/cut.py" 258)])::
 (nat_lit 65,oF "worth_by" 7 "forkplan.exprs" 223 64)::
 (nat_lit 71,oC #[(oS "holds_by" 260),(oS "holds_by" 261),(oS "/claim/cut.py" 262),(oI 28),(oI 2),(oI 0),(oI 0),(oI 3),(oR 66),(.bool Bool.true),(oI 181),(oR 67),.none,(oR 68),(oR 69),(oR 70),(oI 268),(oI 28),(oS "/claim/cut.py" 269)])::
 (nat_lit 72,oF "holds_by" 8 "forkplan.exprs" 223 71)::
 (nat_lit 73,(Obj.mk (.type "tuple") none (Data.seq #[(.str (Str.ofString "not") 279),(.str (Str.ofString "and") 280),(.str (Str.ofString "yes") 281)] 0) #[]))::
 (nat_lit 77,oC #[(oS "world_of" 283),(oS "world_of" 284),(oS "/claim/cut.py" 285),(oI 44),(oI 5),(oI 0),(oI 0),(oI 3),(oR 74),(.bool Bool.true),(oI 181),(oR 75),.none,.none,.none,(oR 76),(oI 286),(oI 44),(oS "/claim/cut.py" 287)])::
 (nat_lit 78,oF "world_of" 14 "forkplan.worlds" 271 77)::
 (nat_lit 82,oC #[(oS "standings_of_boxes" 289),(oS "standings_of_boxes" 290),(oS "/claim/cut.py" 291),(oI 59),(oI 1),(oI 0),(oI 0),(oI 3),(oR 79),(.bool Bool.true),(oI 181),(oR 80),.none,.none,.none,(oR 81),(oI 292),(oI 59),(oS "/claim/cut.py" 293)])::
 (nat_lit 83,oF "standings_of_boxes" 15 "forkplan.worlds" 271 82)::
 (nat_lit 87,oC #[(oS "copied_deed" 295),(oS "copied_deed" 296),(oS "/claim/cut.py" 297),(oI 67),(oI 1),(oI 0),(oI 0),(oI 3),(oR 84),(.bool Bool.true),(oI 181),(oR 85),.none,.none,.none,(oR 86),(oI 298),(oI 67),(oS "/claim/cut.py" 299)])::
 (nat_lit 88,oF "copied_deed" 16 "forkplan.worlds" 271 87)::
 (nat_lit 94,oC #[(oS "is_whole" 301),(oS "is_whole" 302),(oS "/claim/cut.py" 303),(oI 69),(oI 1),(oI 0),(oI 0),(oI 3),(oR 89),(.bool Bool.true),(oI 181),(oR 90),.none,(oR 91),(oR 92),(oR 93),(oI 305),(oI 69),(oS "/claim/cut.py" 306)])::
 (nat_lit 95,oF "is_whole" 17 "forkplan.worlds" 271 94)::
 (nat_lit 99,oC #[(oS "refuse_boxes" 308),(oS "refuse_boxes" 309),(oS "/claim/cut.py" 310),(oI 71),(oI 1),(oI 0),(oI 0),(oI 3),(oR 96),(.bool Bool.true),(oI 181),(oR 97),.none,.none,.none,(oR 98),(oI 311),(oI 71),(oS "/claim/cut.py" 312)])::
 (nat_lit 100,oF "refuse_boxes" 18 "forkplan.worlds" 271 99)::
 (nat_lit 106,oC #[(oS "refuse_twice" 314),(oS "refuse_twice" 315),(oS "/claim/cut.py" 316),(oI 80),(oI 2),(oI 0),(oI 0),(oI 3),(oR 101),(.bool Bool.true),(oI 181),(oR 102),.none,(oR 103),(oR 104),(oR 105),(oI 319),(oI 80),(oS "/claim/cut.py" 320)])::
 (nat_lit 107,oF "refuse_twice" 19 "forkplan.worlds" 271 106)::
 (nat_lit 113,oC #[(oS "refuse_price" 322),(oS "refuse_price" 323),(oS "/claim/cut.py" 324),(oI 83),(oI 2),(oI 0),(oI 0),(oI 3),(oR 108),(.bool Bool.true),(oI 181),(oR 109),.none,(oR 110),(oR 111),(oR 112),(oI 327),(oI 83),(oS "/claim/cut.py" 328)])::
 (nat_lit 114,oF "refuse_price" 20 "forkplan.worlds" 271 113)::
 (nat_lit 118,oC #[(oS "refuse_ways" 330),(oS "refuse_ways" 331),(oS "/claim/cut.py" 332),(oI 86),(oI 3),(oI 0),(oI 0),(oI 3),(oR 115),(.bool Bool.true),(oI 181),(oR 116),.none,.none,.none,(oR 117),(oI 333),(oI 86),(oS "/claim/cut.py" 334)])::
 (nat_lit 119,oF "refuse_ways" 21 "forkplan.worlds" 271 118)::
 (nat_lit 125,oC #[(oS "refuse_strange_name" 336),(oS "refuse_strange_name" 337),(oS "/claim/cut.py" 338),(oI 94),(oI 2),(oI 0),(oI 0),(oI 3),(oR 120),(.bool Bool.true),(oI 181),(oR 121),.none,(oR 122),(oR 123),(oR 124),(oI 341),(oI 94),(oS "/claim/cut.py" 342)])::
 (nat_lit 126,oF "refuse_strange_name" 22 "forkplan.worlds" 271 125)::
 (nat_lit 132,oC #[(oS "refuse_strange_names" 344),(oS "refuse_strange_names" 345),(oS "/claim/cut.py" 346),(oI 97),(oI 2),(oI 0),(oI 0),(oI 3),(oR 127),(.bool Bool.true),(oI 181),(oR 128),.none,(oR 129),(oR 130),(oR 131),(oI 350),(oI 97),(oS "/claim/cut.py" 351)])::
 (nat_lit 133,oF "refuse_strange_names" 23 "forkplan.worlds" 271 132)::
 (nat_lit 139,oC #[(oS "refuse_begin" 353),(oS "refuse_begin" 354),(oS "/claim/cut.py" 355),(oI 100),(oI 2),(oI 0),(oI 0),(oI 3),(oR 134),(.bool Bool.true),(oI 181),(oR 135),.none,(oR 136),(oR 137),(oR 138),(oI 359),(oI 100),(oS "/claim/cut.py" 360)])::
 (nat_lit 140,oF "refuse_begin" 24 "forkplan.worlds" 271 139)::
 (nat_lit 141,(Obj.mk (.type "tuple") none (Data.seq #[(.str (Str.ofString "yes") 368)] 0) #[]))::
 (nat_lit 142,(Obj.mk (.type "dict") none (Data.dict #[(oE P "plus" 370 (.ref 144)),(oE P "less" 377 (.ref 146)),(oE P "same" 384 (.ref 148)),(oE P "under" 389 (.ref 150)),(oE P "not" 394 (.ref 152)),(oE P "both" 398 (.ref 154))] 6) #[]))::
 (nat_lit 143,(Obj.mk (.type "tuple") none (Data.seq #[(.str (Str.ofString "(") 372),(.str (Str.ofString "E") 373),(.str (Str.ofString "+") 374),(.str (Str.ofString "E") 375),(.str (Str.ofString ")") 376)] 0) #[]))::
 (nat_lit 144,(Obj.mk (.type "tuple") none (Data.seq #[(.str (Str.ofString "E") 371),(.ref 143)] 0) #[]))::
 (nat_lit 145,(Obj.mk (.type "tuple") none (Data.seq #[(.str (Str.ofString "(") 379),(.str (Str.ofString "E") 380),(.str (Str.ofString "-") 381),(.str (Str.ofString "E") 382),(.str (Str.ofString ")") 383)] 0) #[]))::
 (nat_lit 146,(Obj.mk (.type "tuple") none (Data.seq #[(.str (Str.ofString "E") 378),(.ref 145)] 0) #[]))::
 (nat_lit 147,(Obj.mk (.type "tuple") none (Data.seq #[(.str (Str.ofString "E") 386),(.str (Str.ofString "=") 387),(.str (Str.ofString "E") 388)] 0) #[]))::
 (nat_lit 148,(Obj.mk (.type "tuple") none (Data.seq #[(.str (Str.ofString "C") 385),(.ref 147)] 0) #[]))::
 (nat_lit 149,(Obj.mk (.type "tuple") none (Data.seq #[(.str (Str.ofString "E") 391),(.str (Str.ofString "<") 392),(.str (Str.ofString "E") 393)] 0) #[]))::
 (nat_lit 150,(Obj.mk (.type "tuple") none (Data.seq #[(.str (Str.ofString "C") 390),(.ref 149)] 0) #[]))::
 (nat_lit 151,(Obj.mk (.type "tuple") none (Data.seq #[(.str (Str.ofString "not") 396),(.str (Str.ofString "C") 397)] 0) #[]))::
 (nat_lit 152,(Obj.mk (.type "tuple") none (Data.seq #[(.str (Str.ofString "C") 395),(.ref 151)] 0) #[]))::
 (nat_lit 153,(Obj.mk (.type "tuple") none (Data.seq #[(.str (Str.ofString "(") 400),(.str (Str.ofString "C") 401),(.str (Str.ofString "and") 402),(.str (Str.ofString "C") 403),(.str (Str.ofString ")") 404)] 0) #[]))::
 (nat_lit 154,(Obj.mk (.type "tuple") none (Data.seq #[(.str (Str.ofString "C") 399),(.ref 153)] 0) #[]))::
 (nat_lit 158,oC #[(oS "shown_world" 412),(oS "shown_world" 413),(oS "/claim/cut.py" 414),(oI 110),(oI 1),(oI 0),(oI 0),(oI 3),(oR 155),(.bool Bool.true),(oI 181),(oR 156),.none,.none,.none,(oR 157),(oI 415),(oI 110),(oS "/claim/cut.py" 416)])::
 (nat_lit 159,oF "shown_world" 30 "forkplan.texts" 362 158)::
 (nat_lit 165,oC #[(oS "shown_need" 418),(oS "shown_need" 419),(oS "/claim/cut.py" 420),(oI 120),(oI 1),(oI 0),(oI 0),(oI 3),(oR 160),(.bool Bool.true),(oI 181),(oR 161),.none,(oR 162),(oR 163),(oR 164),(oI 422),(oI 120),(oS "/claim/cut.py" 423)])::
 (nat_lit 166,oF "shown_need" 31 "forkplan.texts" 362 165)::
 (nat_lit 170,oC #[(oS "shown_way" 425),(oS "shown_way" 426),(oS "/claim/cut.py" 427),(oI 122),(oI 1),(oI 0),(oI 0),(oI 3),(oR 167),(.bool Bool.true),(oI 181),(oR 168),.none,.none,.none,(oR 169),(oI 428),(oI 122),(oS "/claim/cut.py" 429)])::
 (nat_lit 171,oF "shown_way" 32 "forkplan.texts" 362 170)::
 (nat_lit 175,oC #[(oS "shown_thing" 431),(oS "shown_thing" 432),(oS "/claim/cut.py" 433),(oI 124),(oI 1),(oI 0),(oI 0),(oI 3),(oR 172),(.bool Bool.true),(oI 181),(oR 173),.none,.none,.none,(oR 174),(oI 434),(oI 124),(oS "/claim/cut.py" 435)])::
 (nat_lit 176,oF "shown_thing" 33 "forkplan.texts" 362 175)::
 (nat_lit 182,oC #[(oS "shown_number" 437),(oS "shown_number" 438),(oS "/claim/cut.py" 439),(oI 136),(oI 1),(oI 0),(oI 0),(oI 3),(oR 177),(.bool Bool.true),(oI 181),(oR 178),.none,(oR 179),(oR 180),(oR 181),(oI 444),(oI 136),(oS "/claim/cut.py" 445)])::
 (nat_lit 183,oF "shown_number" 34 "forkplan.texts" 362 182)::
 (nat_lit 189,oC #[(oS "_law_cell_at" 449),(oS "_law_cell_at" 450),(oS "/claim/cut.py" 451),(oI 147),(oI 2),(oI 0),(oI 0),(oI 3),(oR 184),(.bool Bool.true),(oI 181),(oR 185),.none,(oR 186),(oR 187),(oR 188),(oI 454),(oI 147),(oS "/claim/cut.py" 455)])::
 (nat_lit 190,oF "_law_cell_at" 36 "law_forkplan_k80_worlds_written" 447 189)::
 (nat_lit 196,oC #[(oS "_law_stir" 457),(oS "_law_stir" 458),(oS "/claim/cut.py" 459),(oI 151),(oI 2),(oI 0),(oI 0),(oI 3),(oR 191),(.bool Bool.true),(oI 181),(oR 192),.none,(oR 193),(oR 194),(oR 195),(oI 463),(oI 151),(oS "/claim/cut.py" 464)])::
 (nat_lit 197,oF "_law_stir" 37 "law_forkplan_k80_worlds_written" 447 196)::
 (nat_lit 203,oC #[(oS "_law_drawn" 466),(oS "_law_drawn" 467),(oS "/claim/cut.py" 468),(oI 155),(oI 2),(oI 0),(oI 0),(oI 3),(oR 198),(.bool Bool.true),(oI 181),(oR 199),.none,(oR 200),(oR 201),(oR 202),(oI 474),(oI 155),(oS "/claim/cut.py" 475)])::
 (nat_lit 204,oF "_law_drawn" 38 "law_forkplan_k80_worlds_written" 447 203)::
 (nat_lit 210,oC #[(oS "_law_deck" 477),(oS "_law_deck" 478),(oS "/claim/cut.py" 479),(oI 165),(oI 1),(oI 0),(oI 0),(oI 3),(oR 205),(.bool Bool.true),(oI 181),(oR 206),.none,(oR 207),(oR 208),(oR 209),(oI 481),(oI 165),(oS "/claim/cut.py" 482)])::
 (nat_lit 211,oF "_law_deck" 39 "law_forkplan_k80_worlds_written" 447 210)::
 (nat_lit 217,oC #[(oS "_law_take" 484),(oS "_law_take" 485),(oS "/claim/cut.py" 486),(oI 169),(oI 2),(oI 0),(oI 0),(oI 3),(oR 212),(.bool Bool.true),(oI 181),(oR 213),.none,(oR 214),(oR 215),(oR 216),(oI 490),(oI 169),(oS "/claim/cut.py" 491)])::
 (nat_lit 218,oF "_law_take" 40 "law_forkplan_k80_worlds_written" 447 217)::
 (nat_lit 224,oC #[(oS "_law_unlike" 493),(oS "_law_unlike" 494),(oS "/claim/cut.py" 495),(oI 173),(oI 2),(oI 0),(oI 0),(oI 3),(oR 219),(.bool Bool.true),(oI 181),(oR 220),.none,(oR 221),(oR 222),(oR 223),(oI 506),(oI 173),(oS "/claim/cut.py" 507)])::
 (nat_lit 225,oF "_law_unlike" 41 "law_forkplan_k80_worlds_written" 447 224)::
 (nat_lit 231,oC #[(oS "_law_boxes" 509),(oS "_law_boxes" 510),(oS "/claim/cut.py" 511),(oI 184),(oI 1),(oI 0),(oI 0),(oI 3),(oR 226),(.bool Bool.true),(oI 181),(oR 227),.none,(oR 228),(oR 229),(oR 230),(oI 519),(oI 184),(oS "/claim/cut.py" 520)])::
 (nat_lit 232,oF "_law_boxes" 42 "law_forkplan_k80_worlds_written" 447 231)::
 (nat_lit 238,oC #[(oS "_law_expr" 522),(oS "_law_expr" 523),(oS "/claim/cut.py" 524),(oI 197),(oI 3),(oI 0),(oI 0),(oI 3),(oR 233),(.bool Bool.true),(oI 181),(oR 234),.none,(oR 235),(oR 236),(oR 237),(oI 530),(oI 197),(oS "/claim/cut.py" 531)])::
 (nat_lit 239,oF "_law_expr" 43 "law_forkplan_k80_worlds_written" 447 238)::
 (nat_lit 245,oC #[(oS "_law_cond" 533),(oS "_law_cond" 534),(oS "/claim/cut.py" 535),(oI 205),(oI 3),(oI 0),(oI 0),(oI 3),(oR 240),(.bool Bool.true),(oI 181),(oR 241),.none,(oR 242),(oR 243),(oR 244),(oI 541),(oI 205),(oS "/claim/cut.py" 542)])::
 (nat_lit 246,oF "_law_cond" 44 "law_forkplan_k80_worlds_written" 447 245)::
 (nat_lit 252,oC #[(oS "_law_worth" 544),(oS "_law_worth" 545),(oS "/claim/cut.py" 546),(oI 216),(oI 2),(oI 0),(oI 0),(oI 3),(oR 247),(.bool Bool.true),(oI 181),(oR 248),.none,(oR 249),(oR 250),(oR 251),(oI 553),(oI 216),(oS "/claim/cut.py" 554)])::
 (nat_lit 253,oF "_law_worth" 45 "law_forkplan_k80_worlds_written" 447 252)::
 (nat_lit 259,oC #[(oS "_law_holds" 556),(oS "_law_holds" 557),(oS "/claim/cut.py" 558),(oI 229),(oI 2),(oI 0),(oI 0),(oI 3),(oR 254),(.bool Bool.true),(oI 181),(oR 255),.none,(oR 256),(oR 257),(oR 258),(oI 562),(oI 229),(oS "/claim/cut.py" 563)])::
 (nat_lit 260,oF "_law_holds" 46 "law_forkplan_k80_worlds_written" 447 259)::
 (nat_lit 264,oC #[(oS "_law_values" 565),(oS "_law_values" 566),(oS "/claim/cut.py" 567),(oI 238),(oI 2),(oI 0),(oI 0),(oI 3),(oR 261),(.bool Bool.true),(oI 181),(oR 262),.none,.none,.none,(oR 263),(oI 568),(oI 238),(oS "/claim/cut.py" 569)])::
 (nat_lit 265,oF "_law_values" 47 "law_forkplan_k80_worlds_written" 447 264)::
 (nat_lit 269,oC #[(oS "_law_standings" 571),(oS "_law_standings" 572),(oS "/claim/cut.py" 573),(oI 240),(oI 1),(oI 0),(oI 0),(oI 3),(oR 266),(.bool Bool.true),(oI 181),(oR 267),.none,.none,.none,(oR 268),(oI 574),(oI 240),(oS "/claim/cut.py" 575)])::
 (nat_lit 270,oF "_law_standings" 48 "law_forkplan_k80_worlds_written" 447 269)::
 (nat_lit 276,oC #[(oS "_law_deed" 577),(oS "_law_deed" 578),(oS "/claim/cut.py" 579),(oI 248),(oI 3),(oI 0),(oI 0),(oI 3),(oR 271),(.bool Bool.true),(oI 181),(oR 272),.none,(oR 273),(oR 274),(oR 275),(oI 589),(oI 248),(oS "/claim/cut.py" 590)])::
 (nat_lit 277,oF "_law_deed" 49 "law_forkplan_k80_worlds_written" 447 276)::
 (nat_lit 281,oC #[(oS "_law_world" 592),(oS "_law_world" 593),(oS "/claim/cut.py" 594),(oI 261),(oI 1),(oI 0),(oI 0),(oI 3),(oR 278),(.bool Bool.true),(oI 181),(oR 279),.none,.none,.none,(oR 280),(oI 595),(oI 261),(oS "/claim/cut.py" 596)])::
 (nat_lit 282,oF "_law_world" 50 "law_forkplan_k80_worlds_written" 447 281)::
 (nat_lit 288,oC #[(oS "_law_shown" 598),(oS "_law_shown" 599),(oS "/claim/cut.py" 600),(oI 282),(oI 1),(oI 0),(oI 0),(oI 3),(oR 283),(.bool Bool.true),(oI 181),(oR 284),.none,(oR 285),(oR 286),(oR 287),(oI 604),(oI 282),(oS "/claim/cut.py" 605)])::
 (nat_lit 289,oF "_law_shown" 51 "law_forkplan_k80_worlds_written" 447 288)::
 (nat_lit 293,oC #[(oS "_law_rows" 607),(oS "_law_rows" 608),(oS "/claim/cut.py" 609),(oI 294),(oI 1),(oI 0),(oI 0),(oI 3),(oR 290),(.bool Bool.true),(oI 181),(oR 291),.none,.none,.none,(oR 292),(oI 610),(oI 294),(oS "/claim/cut.py" 611)])::
 (nat_lit 294,oF "_law_rows" 52 "law_forkplan_k80_worlds_written" 447 293)::
 (nat_lit 300,oC #[(oS "_law_short" 613),(oS "_law_short" 614),(oS "/claim/cut.py" 615),(oI 310),(oI 1),(oI 0),(oI 0),(oI 3),(oR 295),(.bool Bool.true),(oI 181),(oR 296),.none,(oR 297),(oR 298),(oR 299),(oI 617),(oI 310),(oS "/claim/cut.py" 618)])::
 (nat_lit 301,oF "_law_short" 53 "law_forkplan_k80_worlds_written" 447 300)::
 (nat_lit 307,oC #[(oS "law" 620),(oS "law" 621),(oS "/claim/cut.py" 622),(oI 312),(oI 1),(oI 0),(oI 0),(oI 3),(oR 302),(.bool Bool.true),(oI 181),(oR 303),.none,(oR 304),(oR 305),(oR 306),(oI 632),(oI 312),(oS "/claim/cut.py" 633)])::
 (nat_lit 308,oF "law" 54 "law_forkplan_k80_worlds_written" 447 307)::[]
noncomputable def wO:Program:={ PySem.Challenge.pw_forkplan_k80_worlds_written with main:={ PySem.Challenge.pw_forkplan_k80_worlds_written.main with body:=([1,2,4,5,6,7,8,10,11,12,13,14,15,16,17,18,19,20,21,22,23,24,26,27,28,29,30,31,32,33,34,36,37,38,39,40,41,42,43,44,45,46,47,48,49,50,51,52,53,54]:List Nat).filterMap fun i=>PySem.Challenge.pw_forkplan_k80_worlds_written.main.body[i]? } }
noncomputable def vO:PySem.W.Hook:=PySem.W.kHook qKb [2,3,15,22,23,24,25,28,35,36,37,45,46,52,53,57,58,64,65,71,72,73,77,78,82,83,87,88,94,95,99,100,106,107,113,114,118,119,125,126,132,133,139,140,141,142,143,144,145,146,147,148,149,150,151,152,153,154,158,159,165,166,170,171,175,176,182,183,189,190,196,197,203,204,210,211,217,218,224,225,231,232,238,239,245,246,252,253,259,260,264,265,269,270,276,277,281,282,288,289,293,294,300,301,307,308] (fun _=>by kernel_rfl)
theorem qMi:LeftO (PySem.W.OpenLaw.row PySem.Challenge.rw_forkplan_k80_worlds_written).prog wO [Str.ofString "FORMS"] (fun s=>xlAt wO [] s && recOk (RowW.records (OpenRow.toRowW (PySem.W.OpenLaw.row PySem.Challenge.rw_forkplan_k80_worlds_written))) s) (Hook.obs vO) (Hook.val vO) 4446:=
 LeftO.of_pieces (H₀:=boot_heap) (H₁:=fun P=>absHeap (wP (qCz P) 12 1 0) 309 qZd) (gs₀:=⟨[]⟩) (gs₁:=⟨[]⟩) (d₀:=boot_drawn) (d₁:=(Drawn.mk 0 0 0 0)) (k₀:=boot_toks) (k₁:=635) (m₀:=11) (ann:=(some (Value.ref 6))) (M:=12+(1+(1861+2)))
  (boot_open (p:=PySem.Challenge.pw_forkplan_k80_worlds_written) (by kernel_rfl) (by decide +kernel) (fun s=>by rfl)) (fun w=>by kernel_rfl)
  (fun w os=>go_top (topPre w os) (piece_block (qGv w os) (List.append_nil kT▸piece_app (l:=kT) (rest:=[]) (segRun_of (topSeg w os)) (topFin w os)))) (by decide +kernel) (fun w=>by kernel_rfl)
end FP
namespace L2
open PySem PySem.Spec PyProof.Rows

noncomputable abbrev Key:=Sum Int Str
noncomputable def keyIs:Key→Value→Bool
 | .inl k,v=>Value.isInt k v
 | .inr x,v=>Value.isStrOf x v
noncomputable def keyH (w:World):Key→Int
 | .inl k=>hashInt k
 | .inr x=>hashStr w x
theorem zI:∀{k:Key} {v:Value},keyIs k v=true→(∃i t,k=Sum.inl i∧v=Value.int i t)∨(∃x t,k=Sum.inr x∧v=Value.str x t)
 | .inl i,v,h=>by
  obtain⟨t,e⟩:=Value.isInt_shape (k:=i) (v:=v) h
  exact .inl ⟨i,t,rfl,e⟩
 | .inr x,v,h=>by
  obtain⟨t,e⟩:=Value.isStrOf_shape (x:=x) (v:=v) h
  exact .inr ⟨x,t,rfl,e⟩
theorem qEw (i:Int)(t:Tok):keyIs (.inl i) (.int i t)=true:=by simp[keyIs,Value.isInt]
theorem qEv (x:Str)(t:Tok):keyIs (.inr x) (.str x t)=true:=by simp[keyIs,Value.isStrOf]
theorem qSa (a b:Int):decide ((Sum.inl a:Key)=Sum.inl b)=(a == b):=by
 by_cases e:a=b
 ·subst e;simp
 ·have h:¬(Sum.inl a:Key)=Sum.inl b:=fun q=>e (Sum.inl.inj q)
  rw[decide_eq_false h]
  exact(beq_eq_false_iff_ne.mpr e).symm
theorem qSk (a b:Str):decide ((Sum.inr a:Key)=Sum.inr b)=decide (a=b):=by
 by_cases e:a=b
 ·subst e;simp
 ·have h:¬(Sum.inr a:Key)=Sum.inr b:=fun q=>e (Sum.inr.inj q)
  rw[decide_eq_false h,decide_eq_false e]
theorem qSw (a:Int)(b:Str):decide ((Sum.inl a:Key)=Sum.inr b)=false:=decide_eq_false (fun q=>nomatch q)
theorem qSv (a:Str)(b:Int):decide ((Sum.inr a:Key)=Sum.inl b)=false:=decide_eq_false (fun q=>nomatch q)

noncomputable def zY (prog:Program)(w:World):PySem.KeyKind prog w Key where
 is:=keyIs
 hash:=keyH w
 inj:=fun v a b ha hb=>by
  rcases zI ha with⟨i,t,rfl,rfl⟩ | ⟨x,t,rfl,rfl⟩
  ·rcases zI hb with⟨j,u,rfl,e⟩ | ⟨y,u,rfl,e⟩
   ·injection e with e1 _;rw[e1]
   ·exact nomatch e
  ·rcases zI hb with⟨j,u,rfl,e⟩ | ⟨y,u,rfl,e⟩
   ·exact nomatch e
   ·injection e with e1 _;rw[e1]
 byValue:=fun k v h=>by
  rcases zI h with⟨i,t,rfl,rfl⟩ | ⟨x,t,rfl,rfl⟩ <;> rfl
 pyHash:=fun hv h=>by
  rcases zI hv with⟨i,t,rfl,rfl⟩ | ⟨x,t,rfl,rfl⟩
  ·exact wpAny_pyHash_int h
  ·exact wpAny_pyHash_str h
 eqBool:=fun hu hv h=>by
  rcases zI hu with⟨i,t,rfl,rfl⟩ | ⟨x,t,rfl,rfl⟩
  ·rcases zI hv with⟨j,u,rfl,rfl⟩ | ⟨y,u,rfl,rfl⟩
   ·rw[qSa] at h;exact wpAny_eqBool_int h
   ·rw[qSw] at h;exact SeqAt.EqAt.int_str i t y u _ _ _ _ h
  ·rcases zI hv with⟨j,u,rfl,rfl⟩ | ⟨y,u,rfl,rfl⟩
   ·rw[qSv] at h;exact SeqAt.EqAt.str_int x t j u _ _ _ _ h
   ·rw[qSk] at h;exact wpAny_eqBool_str h
 «strs»:=fun k x t v h=>by
  rcases zI h with⟨i,u,rfl,e⟩ | ⟨y,u,rfl,e⟩
  ·exact nomatch e
  ·injection e with e1 _
   subst e1
   cases v <;> rfl

theorem qVj (prog:Program)(w:World)(i:Int)(t:Tok):(zY prog w).is (.inl i) (.int i t)=true:=qEw i t
theorem jA (prog:Program)(w:World)(x:Str)(t:Tok):(zY prog w).is (.inr x) (.str x t)=true:=qEv x t
end L2

namespace L2
open PySem PySem.Spec PyProof.Rows

inductive V where
 | non | bl (b:Bool) | int (i:Int) | str (x:Str) | byt (b:Array UInt8) | flt (b:UInt64) | ref (a:Addr) | ty (n:String)
 deriving DecidableEq

noncomputable def RelV:V→Value→Prop
 | .non,u=>u=Value.none
 | .bl b,u=>u=Value.bool b
 | .int i,u=>∃t,u=Value.int i t
 | .str x,u=>∃t,u=Value.str x t
 | .byt b,u=>∃t,u=Value.bytes b t
 | .flt b,u=>∃t,u=Value.float b t
 | .ref a,u=>u=Value.ref a
 | .ty n,u=>u=Value.type n

noncomputable abbrev Vals:List V→List Value→Prop:=Paired RelV
theorem Vals.length {xs:List V}{us:List Value}(r:Vals xs us):xs.length=us.length:=Paired.length r
theorem Vals.get:∀{xs:List V} {us:List Value} {i:Nat} {x:V},Vals xs us→xs[i]? = some x→∃u,us[i]? = some u∧RelV x u
 | _,_,_,_,.nil,e=>by simp at e
 | _,_,0,_,.cons r _,e=>by simp at e;subst e;exact⟨_,rfl,r⟩
 | _,_,i+1,x,.cons _ t,e=>by
  obtain⟨u,h1,h2⟩:=Vals.get (i:=i) (x:=x) t (by simpa using e)
  exact⟨u,by simpa using h1,h2⟩
theorem Vals.set {x:V}{u:Value}(r:RelV x u):∀{xs:List V} {us:List Value} (i:Nat),Vals xs us→Vals (xs.set i x) (us.set i u)
 | _,_,_,.nil=>.nil
 | _,_,0,.cons _ t=>.cons r t
 | _,_,i+1,.cons q t=>.cons q (Vals.set r i t)
theorem Vals.append:∀{xs ys:List V} {us ws:List Value},Vals xs us→Vals ys ws→Vals (xs++ys) (us++ws)
 | _,_,_,_,.nil,s=>s
 | _,_,_,_,.cons r t,s=>.cons r (Vals.append t s)
theorem Vals.take:∀{xs:List V} {us:List Value} (n:Nat),Vals xs us→Vals (xs.take n) (us.take n)
 | _,_,0,_=>.nil
 | _,_,_+1,.nil=>.nil
 | _,_,n+1,.cons r t=>.cons r (Vals.take n t)
theorem Vals.drop:∀{xs:List V} {us:List Value} (n:Nat),Vals xs us→Vals (xs.drop n) (us.drop n)
 | _,_,0,r=>r
 | _,_,_+1,.nil=>.nil
 | _,_,n+1,.cons _ t=>Vals.drop n t
noncomputable def RelO:Option V→Option Value→Prop
 | some v,some u=>RelV v u
 | none,none=>True
 | _,_=>False
noncomputable def KV {κ:Type}:List (κ×V)→List (κ×Value)→Prop:=Paired fun(p:κ×V) (q:κ×Value)=>p.1=q.1∧RelV p.2 q.2

noncomputable def kV:Key→V
 | .inl i=>.int i
 | .inr x=>.str x

inductive HO where
 /-- a list -/
 | lst (xs:List V)
 /-- a tuple (never changes) -/
 | tup (xs:List V)
 /-- a dict whose keys are ints and texts; one whose keys are tuples of ints and texts (the empty one is both) -/
 | dK (kvs:List (Key×V)) | dT (kvs:List (List Key×V))
 /-- a set of ints: its members, its size -/
 | set (S:Int→Bool) (n:Nat)
 /-- an instance of the class at C, its dict at dx, its attributes -/
 | ins (C dx:Addr) (fs:List (Str×V))
 /-- the dict of the instance at x -/
 | own (x:Addr)
 /-- the dict of an exception -/
 | xd (fs:List (Str×V))
 /-- a bound method, f of x -/
 | met (f x:Addr)
 /-- a range object lo, lo + 1, .. below hi -/
 | rng (lo hi:Int)
 /-- a thing that is known to the object (the script; a dict while a loop walks it): read, never written while it is so -/
 | frz (o:Obj) (u:HO)
 /-- a code object's table -/
 | tbl (ps:Array Value)
 /-- any other thing, by what is true of its one object (a def of one's own: SetO a S n := HO.ext fun h => ..) -/
 | ext (φ:Heap→Prop)

noncomputable abbrev Hp:=Addr→Option HO
noncomputable def upd (H:Hp)(a:Addr)(o:HO):Hp:=fun b=>if b=a then some o else H b
theorem qW {H:Hp}{a:Addr}{o:HO}:upd H a o a=some o:=by unfold upd;rw[if_pos rfl]
theorem qA {H:Hp}{a b:Addr}{o:HO}(h:b≠a):upd H a o b=H b:=by unfold upd;rw[if_neg h]
theorem qKa {H:Hp}{a:Addr}{o u:HO}:upd (upd H a o) a u=upd H a u:=by
 funext b;unfold upd;split <;> rfl
theorem vJ {H:Hp}{a b:Addr}{o u:HO}(h:H a=some o)(h':H b=some u)(d:o≠u):a≠b:=by
 intro e;subst e;rw[h] at h';exact d (Option.some.inj h')
theorem qB {H:Hp}{a b:Addr}{o:HO}(h:H a=some o)(h':H b=none):a≠b:=by
 intro e;subst e;rw[h] at h';cases h'

noncomputable def TupX (h:Heap)(a:Addr)(its:Array Value):Prop:=∃o,h.get? a=some o∧o.cls=.type "tuple" ∧ ∃n,o.data=.seq its n∧o.dict=none
theorem TupX.tup {h:Heap}{a:Addr}{its:Array Value}(x:TupX h a its):IsTup h a its:=let ⟨o,e,c,n,d,_⟩:=x;⟨o,e,c,n,d⟩
theorem TupX.lt {h:Heap}{a:Addr}{its:Array Value}(x:TupX h a its):a<h.objs.size:=x.tup.lt
theorem TupX.new (h:Heap)(its:Array Value):TupX (h.push { cls:=.type "tuple",data:=.seq its }) h.objs.size its:=⟨_,Heap.get?_push_size _ rfl,rfl,_,rfl,rfl⟩
section
variable (P:Program)(w:World)
noncomputable def ObjOk (H:Hp)(h:Heap)(a:Addr):HO→Prop
 | .lst xs=>xs.length≤sizeLine∧∃(its:List Value) (n:Nat),Vals xs its∧h.get? a=some { cls:=.type "list",data:=.seq its.toArray n }
 | .tup xs=>xs.length≤sizeLine∧∃its:List Value,Vals xs its∧TupX h a its.toArray
 | .dK kvs=>kvs.length≤sizeLine∧(a == sysModules)=false∧∃vs,KV kvs vs∧h.DictOf (zY P w) a vs
 | .dT kvs=>kvs.length≤sizeLine∧(a == sysModules)=false∧∃xs:List (List Key×Addr×Value),
   Paired (fun(p:List Key×V) (q:List Key×Addr×Value)=>p.1=q.1∧H q.2.1=some (.tup (p.1.map kV))∧RelV p.2 q.2.2) kvs xs∧
   ∃o es ep,h.get? a=some o∧o.ExactDict∧o.data=.dict es ep∧es.toList=xs.map (entryOfKey (tupleKind (zY P w)))∧(xs.map (·.1)).Nodup
 | .set S n=>h.SetOf (intKind P w) a S n
 | .ins C dx fs=>H dx=some (.own a)∧fs.length≤1000∧dx≠a∧h.get? a=some (PySem.W.instObj C dx)∧
   ∃mA,h.Ns1 dx mA∧(∀f,RelO (fs.lookup f) (mA f))∧PySem.Within mA (fs.map (·.1))
 | .own _=>∃o,h.get? a=some o
 | .xd fs=>∃mA,h.Ns1 a mA∧∀f,RelO (fs.lookup f) (mA f)
 | .rng lo hi=>∃t u v,h.get? a=some { cls:=.type "range",data:=.fields #[.int lo t,.int hi u,.int 1 v] }
 | .frz o u=>h.get? a=some o∧ObjOk H h a u
 | .tbl ps=>h.get? a=some { cls:=.none,data:=.fields ps }
 | .met f x=>h.get? a=some (PySem.W.methodObj (.ref f) (.ref x))
 | .ext φ=>φ h∧(∃o,h.get? a=some o)∧∀h1 h2:Heap,φ h1→(∀o,h1.get? a=some o→h2.get? a=some o)→φ h2
noncomputable def HOk (H:Hp)(h:Heap):Prop:=∀a o,H a=some o→ObjOk P w H h a o
end

section
variable {P:Program}{w:World}{H H':Hp}{h h':Heap}{a:Addr}{o:HO}
theorem ObjOk.lt (x:ObjOk P w H h a o):a<h.objs.size:=by
 cases o with
 | lst xs=>obtain⟨_,_,_,_,e⟩:=x;exact Heap.lt_size e
 | tup xs=>obtain⟨_,_,_,p⟩:=x;exact p.lt
 | dK kvs=>obtain⟨_,_,_,_,o,_,_,e,_⟩:=x;exact Heap.lt_size e
 | dT kvs=>obtain⟨_,_,_,_,o,_,_,e,_⟩:=x;exact Heap.lt_size e
 | set S n=>obtain⟨o,_,_,_,e,_⟩:=x;exact Heap.lt_size e
 | ins C dx fs=>obtain⟨_,_,_,e,_⟩:=x;exact Heap.lt_size e
 | own y=>obtain⟨_,e⟩:=x;exact Heap.lt_size e
 | xd fs=>obtain⟨_,⟨_,_,_,e,_⟩,_⟩:=x;exact Heap.lt_size e
 | rng lo hi=>obtain⟨_,_,_,e⟩:=x;exact Heap.lt_size e
 | frz ob u=>obtain⟨e,_⟩:=x;exact Heap.lt_size e
 | tbl ps=>exact Heap.lt_size (show h.get? a=some _ from x)
 | met f y=>exact Heap.lt_size (show h.get? a=some _ from x)
 | ext φ=>obtain⟨_,⟨_,e⟩,_⟩:=x;exact Heap.lt_size e
theorem Paired.mapP {α β:Type}{F G:α→β→Prop}:∀{l₁:List α} {l₂:List β},Paired F l₁ l₂→(∀a b,F a b→G a b)→Paired G l₁ l₂
 | _,_,.nil,_=>.nil
 | _,_,.cons r t,f=>.cons (f _ _ r) (Paired.mapP t f)
theorem ObjOk.stay (x:ObjOk P w H h a o)(k:∀b u,(b=a∨H b=some (.own a))→h.get? b=some u→h'.get? b=some u)
  (ho:∀b,H b=some (.own a)→H' b=some (.own a)) (ht:∀b xs,H b=some (.tup xs)→H' b=some (.tup xs)):ObjOk P w H' h' a o:=by
 induction o with
 | lst xs=>obtain⟨z,its,n,r,e⟩:=x;exact⟨z,its,n,r,k _ _ (.inl rfl) e⟩
 | tup xs=>obtain⟨z,its,r,ob,e,c⟩:=x;exact⟨z,its,r,ob,k _ _ (.inl rfl) e,c⟩
 | dK kvs=>obtain⟨z,y,vs,r,ob,es,ep,e,c⟩:=x;exact⟨z,y,vs,r,ob,es,ep,k _ _ (.inl rfl) e,c⟩
 | dT kvs=>
  obtain⟨z,y,xs,r,ob,es,ep,e,c⟩:=x
  exact⟨z,y,xs,Paired.mapP r fun p q z=>⟨z.1,ht _ _ z.2.1,z.2.2⟩,ob,es,ep,k _ _ (.inl rfl) e,c⟩
 | set S n=>obtain⟨ob,es,ep,t,e,c⟩:=x;exact⟨ob,es,ep,t,k _ _ (.inl rfl) e,c⟩
 | ins C dx fs=>
  obtain⟨d,z,ne,e,mA,⟨od,es,ep,e2,c⟩,r⟩:=x
  exact⟨ho _ d,z,ne,k _ _ (.inl rfl) e,mA,⟨od,es,ep,k _ _ (.inr d) e2,c⟩,r⟩
 | own y=>obtain⟨ob,e⟩:=x;exact⟨ob,k _ _ (.inl rfl) e⟩
 | xd fs=>obtain⟨mA,⟨od,es,ep,e,c⟩,r⟩:=x;exact⟨mA,⟨od,es,ep,k _ _ (.inl rfl) e,c⟩,r⟩
 | rng lo hi=>obtain⟨t,u,v,e⟩:=x;exact⟨t,u,v,k _ _ (.inl rfl) e⟩
 | frz ob u ih=>obtain⟨e,q⟩:=x;exact⟨k _ _ (.inl rfl) e,ih q⟩
 | tbl ps=>
  have e:h.get? a=some { cls:=.none,data:=.fields ps }:=x
  show h'.get? a=some { cls:=.none,data:=.fields ps }
  exact k a _ (.inl rfl) e
 | met f y=>
  have e:h.get? a=some (PySem.W.methodObj (.ref f) (.ref y)):=x
  show h'.get? a=some (PySem.W.methodObj (.ref f) (.ref y))
  exact k a _ (.inl rfl) e
 | ext φ=>obtain⟨p,⟨o,e⟩,st⟩:=x;exact⟨st _ _ p fun o q=>k _ _ (.inl rfl) q,⟨o,k _ _ (.inl rfl) e⟩,st⟩
theorem HOk.lt (x:HOk P w H h)(e:H a=some o):a<h.objs.size:=(x a o e).lt
theorem HOk.fresh (x:HOk P w H h)(e:h.objs.size≤a):H a=none:=by
 cases q:H a with
 | none=>rfl
 | some u=>exact absurd (Nat.lt_of_lt_of_le (x.lt q) e) (Nat.lt_irrefl _)
theorem HOk.kept (x:HOk P w H h)(k:∀b u,h.get? b=some u→h'.get? b=some u):HOk P w H h':=fun a o e=>
 (x a o e).stay (fun b u _ q=>k b u q) (fun _ q=>q) fun _ _ q=>q
theorem HOk.laid (x:HOk P w H h)(k:∀b u,h.get? b=some u→h'.get? b=some u)(hp:h.objs.size≤a)(new:ObjOk P w (upd H a o) h' a o):HOk P w (upd H a o) h':=fun b u e=>by
 have hn:=x.fresh hp
 by_cases hb:b=a
 ·subst hb;rw[qW] at e;cases e;exact new
 ·rw[qA hb] at e
  exact(x b u e).stay (fun c v _ q=>k c v q) (fun c q=>by rw[qA (qB q hn)];exact q) fun c xs q=>by rw[qA (qB q hn)];exact q
end

noncomputable def Rd (H:Hp)(a:Addr)(u:HO):Prop:=H a=some u∨∃o,H a=some (.frz o u)
theorem Rd.ok {P:Program}{w:World}{H:Hp}{h:Heap}{a:Addr}{u:HO}(r:Rd H a u)(x:HOk P w H h):ObjOk P w H h a u:=by
 rcases r with r | ⟨o,r⟩
 ·exact x a u r
 ·obtain⟨_,q⟩:=x a _ r
  exact q
noncomputable def Mut:Option HO→Prop
 | some (.lst _)=>True
 | some (.dK _)=>True
 | some (.dT _)=>True
 | some (.set _ _)=>True
 | some (.ins _ _ _)=>True
 | some (.ext _)=>True
 | _=>False
section
variable {P:Program}{w:World}{H:Hp}{h h':Heap}{x e:Addr}{o':HO}
theorem HOk.write (ok:HOk P w H h)(mu:Mut (H x))(he:e=x∨H e=some (.own x))(k:∀b u,b≠e→h.get? b=some u→h'.get? b=some u)(heo:∃u,h'.get? e=some u)
  (new:ObjOk P w (upd H x o') h' x o'):HOk P w (upd H x o') h':=fun b u q=>by
 have nown:∀c y,H c=some (.own y)→c≠x:=fun c y r z=>by subst z;rw[r] at mu;exact mu
 have ntup:∀c xs,H c=some (.tup xs)→c≠x:=fun c xs r z=>by subst z;rw[r] at mu;exact mu
 by_cases hb:b=x
 ·subst hb;rw[qW] at q;cases q;exact new
 ·rw[qA hb] at q
  by_cases hbe:b=e
  ·have q':H b=some (.own x):=by
    rcases he with z | z
    ·exact absurd (hbe.trans z) hb
    ·rw[hbe];exact z
   rw[q] at q';cases q'
   obtain⟨v,hv⟩:=heo
   exact⟨v,by rw[hbe];exact hv⟩
  ·refine(ok b u q).stay (fun c v hc r=>k c v ?_ r) (fun c r=>by rw[qA (nown c b r)];exact r) fun c xs r=>by rw[qA (ntup c xs r)];exact r
   rcases hc with rfl | hc
   ·exact hbe
   ·rintro rfl
    rcases he with z | z
    ·exact nown c b hc z
    ·rw[hc] at z;cases z;exact hb rfl
end

structure Un (fs ex:List Addr)(H H':Hp)(h h':Heap):Prop where
 keep:∀b o,h.get? b=some o→H b=none→b∉fs→b∉ex→h'.get? b=some o
 slot:∀b o,h.get? b=some o→H b=none→b∈fs→b∉ex→∃sl,h'.get? b=some { o with slots:=sl }
 free:∀b o,h.get? b=some o→H b=none→b∉ex→H' b=none
 there:∀b o,h.get? b=some o→b∉ex→∃o',h'.get? b=some o'
 tups:∀b xs,H b=some (.tup xs)→H' b=some (.tup xs)
 frzs:∀b o u,H b=some (.frz o u)→H' b=some (.frz o u)
 tbls:∀b ps,H b=some (.tbl ps)→∃more,H' b=some (.tbl (ps++more))
section
variable {fs fs' ex ex':List Addr}{H H1 H2:Hp}{h h1 h2 h':Heap}{a x e:Addr}{o:HO}
theorem Un.any (u:Un fs ex H H1 h h1){b:Addr}{ob:Obj}(q:h.get? b=some ob)(n:H b=none)(hx:b∉ex):∃sl,h1.get? b=some { ob with slots:=sl }:=by
 by_cases hb:b∈fs
 ·exact u.slot b ob q n hb hx
 ·exact⟨ob.slots,u.keep b ob q n hb hx⟩
theorem Un.trans (a:Un fs ex H H1 h h1)(b:Un fs ex H1 H2 h1 h2):Un fs ex H H2 h h2 where
 keep:=fun c ob q n hc hx=>b.keep c ob (a.keep c ob q n hc hx) (a.free c ob q n hx) hc hx
 slot:=fun c ob q n hc hx=>by
  obtain⟨sl,e1⟩:=a.slot c ob q n hc hx
  obtain⟨sl',e2⟩:=b.slot c _ e1 (a.free c ob q n hx) hc hx
  exact⟨sl',e2⟩
 free:=fun c ob q n hx=>by
  obtain⟨o',e1⟩:=a.there c ob q hx
  exact b.free c o' e1 (a.free c ob q n hx) hx
 there:=fun c ob q hx=>by
  obtain⟨o',e1⟩:=a.there c ob q hx
  exact b.there c o' e1 hx
 tups:=fun c xs q=>b.tups c xs (a.tups c xs q)
 frzs:=fun c ob xs q=>b.frzs c ob xs (a.frzs c ob xs q)
 tbls:=fun c ps q=>by
  obtain⟨m1,e1⟩:=a.tbls c ps q
  obtain⟨m2,e2⟩:=b.tbls c _ e1
  exact⟨m1++m2,by rw[e2,Array.append_assoc]⟩
theorem Un.kept (k:∀b u,h.get? b=some u→h'.get? b=some u):Un fs ex H H h h':=
 ⟨fun b ob q _ _ _=>k b ob q,fun b ob q _ _ _=>⟨ob.slots,k b ob q⟩,fun _ _ _ n _=>n,fun b ob q _=>⟨ob,k b ob q⟩,fun _ _ q=>q,fun _ _ _ q=>q,fun _ ps q=>⟨#[],by rw[q];simp⟩⟩
theorem Un.refl:Un fs ex H H h h:=Un.kept fun _ _ q=>q
theorem Un.laid (k:∀b u,h.get? b=some u→h'.get? b=some u)(hp:h.objs.size≤a)(hn:H a=none):Un fs ex H (upd H a o) h h' where
 keep:=fun b u q _ _ _=>k b u q
 slot:=fun b u q _ _ _=>⟨u.slots,k b u q⟩
 free:=fun b u q n _=>by rw[qA (Nat.ne_of_lt (Nat.lt_of_lt_of_le (Heap.lt_size q) hp))];exact n
 there:=fun b u q _=>⟨u,k b u q⟩
 tups:=fun b xs q=>by rw[qA (qB q hn)];exact q
 frzs:=fun b u xs q=>by rw[qA (qB q hn)];exact q
 tbls:=fun b ps q=>⟨#[],by rw[qA (qB q hn),q];simp⟩
theorem Un.write (mu:Mut (H x))(he:e=x∨H e=some (.own x))(k:∀b u,b≠e→h.get? b=some u→h'.get? b=some u)(heo:∃u,h'.get? e=some u):Un fs ex H (upd H x o) h h':=by
 have hx:∀b,H b=none→b≠x:=fun b n z=>by subst z;rw[n] at mu;exact mu
 have hb:∀b,H b=none→b≠e:=fun b n z=>by
  subst z
  rcases he with r | r
  ·exact hx b n r
  ·rw[n] at r;cases r
 have hm:∀b u,H b=some u→¬Mut (some u)→b≠x:=fun b u q nm z=>by subst z;rw[q] at mu;exact nm mu
 refine⟨fun b u q n _ _=>k b u (hb b n) q,fun b u q n _ _=>⟨u.slots,k b u (hb b n) q⟩,fun b u q n _=>by rw[qA (hx b n)];exact n,fun b u q _=>?_,
  fun b xs q=>by rw[qA (hm b _ q fun z=>z)];exact q,fun b u xs q=>by rw[qA (hm b _ q fun z=>z)];exact q,fun b ps q=>⟨#[],by rw[qA (hm b _ q fun z=>z),q];simp⟩⟩
 by_cases hbe:b=e
 ·subst hbe;exact heo
 ·exact⟨u,k b u hbe q⟩
end

noncomputable def trk (h:Heap)(H:Hp):List Addr:=(List.range h.objs.size).filter fun a=>(H a).isSome
noncomputable def hidT (h:Heap)(H:Hp):Heap:=PySem.W.hideAll h (trk h H)
theorem qEi (h:Heap)(H:Hp):(hidT h H).objs.size=h.objs.size:=PySem.W.hideAll_size _ _
theorem qHl {h:Heap}{H:Hp}{b:Addr}{o:Obj}(e:h.get? b=some o)(n:H b=none):(hidT h H).get? b=some o:=
 PySem.W.hideAll_get _ e fun hm=>by
  have q:(H b).isSome=true:=(List.mem_filter.mp hm).2
  rw[n] at q;simp at q
theorem qOz {h:Heap}{H:Hp}{b:Addr}{o:Obj}(e:(hidT h H).get? b=some o):h.get? b=some o∧H b=none:=by
 have e':h.get? b=some o:=PySem.W.of_hideAll (trk h H) e
 refine⟨e',?_⟩
 cases q:H b with
 | none=>rfl
 | some x=>
  have hm:b∈trk h H:=List.mem_filter.mpr ⟨List.mem_range.mpr (Heap.lt_size e'),by simp[q]⟩
  have z:(hidT h H).get? b=none:=PySem.W.hideAll_none (trk h H) hm
  rw[z] at e;cases e

end L2

namespace L2
open PySem PySem.Spec PyProof.Rows

structure Mod (K:PySem.W.Frag)(mg:Str→Option Value)(base:Heap):Prop where
 kin:K.In base
 glob:base.Ns mainGlobals mg
 blt:∃mb,base.Ns builtinsNs mb∧∀x:Str,x ≠ "__name__" → mb x=bootBuiltins x
 nolimit:base.NoLimit

/-- the context: a def's body (or a comprehension's block) running. base: fixed through the whole law; s₀, H₀: the entry; outer: the frames whose slots others may change (a def's callers); stack: all frames that run;
   ex: iterators that were made ahead of the entry and are walked here (a comprehension's); fn: the names whose cells were made at the entry (a def: all; a comprehension's block: its own); calm: not within an except suite; pn: pins that every state bears; xe: what is wanted of an exception that leaves the code -/
structure Cx where
 prog:Program
 w:World
 K:PySem.W.Frag
 mg:Str→Option Value
 base:Heap
 A:Around
 N:List Str
 s₀:Shared
 H₀:Hp
 env:Env
 outer:List Env
 stack:List Env
 ex:List Addr
 fn:Str→Bool
 calm:Bool
 pn:List (Addr×Obj)
 xe:Value→Shared→Prop
noncomputable def frs (l:List Env):List Addr:=l.filterMap (·.frame)
noncomputable abbrev Cx.fs (X:Cx):List Addr:=frs X.outer

noncomputable def Vis (sc:Scope)(x:Str):Prop:=sc.names.lookup x=some .local∨sc.names.lookup x=some .cell∨sc.names.lookup x=some .free
noncomputable def Loc (sc:Scope)(x:Str):Prop:=sc.names.lookup x=some .local∨sc.names.lookup x=some .cell
noncomputable def Look (env:Env)(h:Heap)(m:Str→Option Value)(x:Str)(u:Value):Prop:=
 (env.kindOf x=some .local∧m x=some u)∨((env.kindOf x=some .cell∨env.kindOf x=some .free)∧∃c,env.cells.lookup x=some c∧h.IsCell c (some u))

structure Cx.Ok (X:Cx):Prop where
 mod:Mod X.K X.mg X.base
 kind:X.env.scope.kind=.function
 glob:X.env.globals=mainGlobals
 blt:X.env.builtins=builtinsNs
 above:X.s₀.heap.objs.size≤X.env.locals
 inj:∀x y c,X.env.cells.lookup x=some c→X.env.cells.lookup y=some c→x=y
 has:∀x,(X.env.kindOf x=some .cell∨X.env.kindOf x=some .free)→∃c,X.env.cells.lookup x=some c
 cab:∀x c,X.fn x=true→X.env.cells.lookup x=some c→X.s₀.heap.objs.size≤c
 hd:X.calm=true→X.A.handled=none
 frames:X.A.frames=some X.stack
 stk:X.stack=X.outer∨(X.stack=X.env::X.outer∧X.env.frame=some X.env.locals)
 exf:∀b∈X.ex,b≠X.env.locals∧∀x c,X.env.cells.lookup x=some c→c≠b
 bs:∀b o,X.base.get? b=some o→X.s₀.heap.get? b=some o∧X.H₀ b=none
 bsz:X.base.objs.size≤X.s₀.heap.objs.size
 noex:∀b o,X.base.get? b=some o→b∉X.ex
 exfs:∀b∈X.ex,b∉X.fs
 funs:X.s₀.heap.FunFrames X.base X.outer
 frf:∀b∈X.fs,X.H₀ b=none

structure Inv (X:Cx)(pins:List (Addr×Obj))(σ:List (Option V))(H:Hp)(s:Shared):Prop where
 ok:X.Ok
 os:s.os=X.s₀.os
 bare:AllBare s.gens
 base:Un X.fs X.ex X.H₀ H X.s₀.heap s.heap
 loc:∃m,s.heap.Ns X.env.locals m∧∀(i:Nat) (x:Str) (v:V),X.N[i]? = some x→σ[i]? = some (some v)→Vis X.env.scope x→∃u,RelV v u∧Look X.env s.heap m x u
 cell:∀x c,X.env.cells.lookup x=some c→∃v,s.heap.IsCell c v
 free:H X.env.locals=none
 freeC:∀x c,X.env.cells.lookup x=some c→H c=none
 pin:∀p∈X.pn++pins,s.heap.get? p.1=some p.2∧H p.1=none∧p.1≠X.env.locals∧p.1∉X.fs∧∀v,p.2.data≠.cell v
 hok:HOk X.prog X.w H s.heap
 len:σ.length=X.N.length

section
variable {X:Cx}{pins:List (Addr×Obj)}{σ:List (Option V)}{H H':Hp}{s:Shared}{h':Heap}

theorem Cx.Ok.nofr (ok:X.Ok){b:Addr}{o:Obj}(e:X.base.get? b=some o):b∉X.fs:=fun hb=>by
 have:=(ok.funs.mem hb).1
 rw[e] at this;cases this
theorem Inv.bs (I:Inv X pins σ H s):∀b o,X.base.get? b=some o→s.heap.get? b=some o∧H b=none:=fun b o e=>
 ⟨I.base.keep b o (I.ok.bs b o e).1 (I.ok.bs b o e).2 (I.ok.nofr e) (I.ok.noex b o e),I.base.free b o (I.ok.bs b o e).1 (I.ok.bs b o e).2 (I.ok.noex b o e)⟩
theorem Inv.bk (I:Inv X pins σ H s):∀b o,X.base.get? b=some o→s.heap.get? b=some o:=fun b o e=>(I.bs b o e).1
theorem Inv.mod (I:Inv X pins σ H s):Mod X.K X.mg X.base:=I.ok.mod
theorem Inv.kIn (I:Inv X pins σ H s):X.K.In s.heap:=I.ok.mod.kin.keeps I.bk
theorem Inv.lt (I:Inv X pins σ H s):X.env.locals<s.heap.objs.size:=let ⟨_,hn,_⟩:=I.loc;hn.lt
theorem Inv.sz (I:Inv X pins σ H s):X.s₀.heap.objs.size≤s.heap.objs.size:=Nat.le_trans I.ok.above (Nat.le_of_lt I.lt)
theorem Inv.nofs (I:Inv X pins σ H s){a:Addr}(h:s.heap.objs.size≤a):a∉X.fs:=fun hb=>by
 obtain⟨_,o,ho,_⟩:=I.ok.funs.mem hb
 exact absurd (Nat.lt_of_lt_of_le (Heap.lt_size ho) (Nat.le_trans I.sz h)) (Nat.lt_irrefl _)
theorem Inv.cne (I:Inv X pins σ H s):∀x c,X.env.cells.lookup x=some c→c≠X.env.locals:=fun x c e z=>by
 obtain⟨v,o,ho,hd⟩:=I.cell x c e
 obtain⟨m,⟨o',es,ep,ho',hd',_⟩,_⟩:=I.loc
 rw[z,ho'] at ho;cases ho;rw[hd'] at hd;cases hd
theorem Inv.funs (I:Inv X pins σ H s):s.heap.FunFrames X.base X.outer:=by
 have all:∀(l:List Env),(∀b∈frs l,b∈X.fs)→X.s₀.heap.FunFrames X.base l→s.heap.FunFrames X.base l:=by
  intro l
  induction l with
  | nil=>intro _ _;trivial
  | cons env r ih=>
   intro hs hl
   obtain⟨hk,⟨L,o,hf,hn,ho,hd⟩,hr⟩:=hl
   have hL:L∈X.fs:=hs L (by unfold frs;rw[List.filterMap_cons,hf];exact List.mem_cons_self)
   obtain⟨sl,e⟩:=I.base.slot L o ho (I.ok.frf L hL) hL fun z=>I.ok.exfs L z hL
   exact⟨hk,⟨L,_,hf,hn,e,hd⟩,ih (fun b hb=>hs b (by unfold frs;rw[List.filterMap_cons,hf];exact List.mem_cons_of_mem _ hb)) hr⟩
 exact all X.outer (fun _ hb=>hb) I.ok.funs

theorem Inv.stack (I:Inv X pins σ H s):s.heap.FunFrames X.base X.stack:=by
 rcases I.ok.stk with e | ⟨e,hf⟩
 ·rw[e];exact I.funs
 ·rw[e]
  obtain⟨m,hn,_⟩:=I.loc
  refine .cons (by rw[I.ok.kind];decide) hf hn ?_ I.funs
  exact Heap.get?_none_of_le (Nat.le_trans I.ok.bsz I.ok.above)
theorem Inv.stkSub (I:Inv X pins σ H s):∀b∈frs X.stack,b∈X.env.locals::X.fs:=fun b hb=>by
 rcases I.ok.stk with e | ⟨e,hf⟩
 ·rw[e] at hb;exact List.mem_cons_of_mem _ hb
 ·rw[e] at hb
  unfold frs at hb
  rw[List.filterMap_cons,hf] at hb
  exact hb
theorem Inv.stkFree (I:Inv X pins σ H s):∀b∈frs X.stack,H b=none:=fun b hb=>by
 rcases List.mem_cons.mp (I.stkSub b hb) with e | hb
 ·rw[e];exact I.free
 ·obtain⟨_,o,ho,_⟩:=I.ok.funs.mem hb
  exact I.base.free b o ho (I.ok.frf b hb) fun z=>I.ok.exfs b z hb

theorem Inv.step {g':Array GenState}{t':Nat}{d':Drawn}{ch:List Addr}(I:Inv X pins σ H s)
  (hch:∀b∈ch,(b∈X.ex∨X.s₀.heap.objs.size≤b)∧b≠X.env.locals∧(∀x c,X.env.cells.lookup x=some c→c≠b)∧∀p∈X.pn++pins,p.1≠b)
  (keep:∀b o,b≠X.env.locals→b∉X.fs→b∉ch→s.heap.get? b=some o→H b=none→h'.get? b=some o)
  (slot:∀b o,b≠X.env.locals→b∈X.fs→b∉ch→s.heap.get? b=some o→H b=none→∃sl,h'.get? b=some { o with slots:=sl }) (free:∀b o,b∉ch→s.heap.get? b=some o→H b=none→H' b=none)
  (there:∀b o,b∉ch→s.heap.get? b=some o→∃o',h'.get? b=some o')
  (tups:∀b xs,H b=some (.tup xs)→H' b=some (.tup xs)) (frzs:∀b o u,H b=some (.frz o u)→H' b=some (.frz o u)) (tbls:∀b ps,H b=some (.tbl ps)→∃more,H' b=some (.tbl (ps++more)))
  (ns:∀m,s.heap.Ns X.env.locals m→h'.Ns X.env.locals m) (hok:HOk X.prog X.w H' h') (hg:AllBare g'):
  Inv X pins σ H' { s with heap:=h',gens:=g',drawn:=d',toks:=t' }:=by
 have neL:∀b o,X.s₀.heap.get? b=some o→b≠X.env.locals:=fun b o e=>Nat.ne_of_lt (Nat.lt_of_lt_of_le (Heap.lt_size e) I.ok.above)
 have neC:∀b o,X.s₀.heap.get? b=some o→b∉X.ex→b∉ch:=fun b o e hx hb=>by
  rcases(hch b hb).1 with z | z
  ·exact hx z
  ·exact absurd (Nat.lt_of_lt_of_le (Heap.lt_size e) z) (Nat.lt_irrefl _)
 have cellK:∀x c,X.env.cells.lookup x=some c→∀v,s.heap.IsCell c v→h'.IsCell c v:=fun x c e v ⟨o,ho,hd⟩=>by
  have nch:c∉ch:=fun z=>(hch c z).2.2.1 x c e rfl
  by_cases hc:c∈X.fs
  ·obtain⟨sl,q⟩:=slot c o (I.cne x c e) hc nch ho (I.freeC x c e)
   exact⟨_,q,hd⟩
  ·exact⟨o,keep c o (I.cne x c e) hc nch ho (I.freeC x c e),hd⟩
 refine⟨I.ok,I.os,hg,⟨fun b o e n hb hx=>?_,fun b o e n hb hx=>?_,fun b o e n hx=>?_,fun b o e hx=>?_,fun b xs e=>tups b xs (I.base.tups b xs e),fun b o xs e=>frzs b o xs (I.base.frzs b o xs e),fun b ps e=>?_⟩,?_,fun x c e=>?_,?_,fun x c e=>?_,fun p hp=>?_,hok,I.len⟩
 ·exact keep b o (neL b o e) hb (neC b o e hx) (I.base.keep b o e n hb hx) (I.base.free b o e n hx)
 ·obtain⟨sl,e1⟩:=I.base.slot b o e n hb hx
  obtain⟨sl',e2⟩:=slot b _ (neL b o e) hb (neC b o e hx) e1 (I.base.free b o e n hx)
  exact⟨sl',e2⟩
 ·obtain⟨o',e1⟩:=I.base.there b o e hx
  exact free b o' (neC b o e hx) e1 (I.base.free b o e n hx)
 ·obtain⟨o',e1⟩:=I.base.there b o e hx
  exact there b o' (neC b o e hx) e1
 ·obtain⟨m1,e1⟩:=I.base.tbls b ps e
  obtain⟨m2,e2⟩:=tbls b _ e1
  exact⟨m1++m2,by rw[e2,Array.append_assoc]⟩
 ·obtain⟨m,hn,hl⟩:=I.loc
  refine⟨m,ns m hn,fun i x v e1 e2 e3=>?_⟩
  obtain⟨u,r,l⟩:=hl i x v e1 e2 e3
  refine⟨u,r,?_⟩
  rcases l with l | ⟨k,c,e,z⟩
  ·exact .inl l
  ·exact .inr ⟨k,c,e,cellK x c e _ z⟩
 ·obtain⟨v,z⟩:=I.cell x c e
  exact⟨v,cellK x c e v z⟩
 ·obtain⟨m,⟨o,_,_,ho,_⟩,_⟩:=I.loc
  exact free _ o (fun z=>(hch _ z).2.1 rfl) ho I.free
 ·obtain⟨v,o,ho,hd⟩:=I.cell x c e
  exact free c o (fun z=>(hch c z).2.2.1 x c e rfl) ho (I.freeC x c e)
 ·obtain⟨e,n,ne,nf,d⟩:=I.pin p hp
  have nch:p.1∉ch:=fun z=>(hch p.1 z).2.2.2 p hp rfl
  exact⟨keep p.1 p.2 ne nf nch e n,free p.1 p.2 nch e n,ne,nf,d⟩
theorem Inv.un {t':Nat}(I:Inv X pins σ H s)(u:Un X.fs [] H H' s.heap h')(hok:HOk X.prog X.w H' h'):Inv X pins σ H' { s with heap:=h',toks:=t' }:=by
 obtain⟨m,⟨o,es,ep,ho,r⟩,_⟩:=id I.loc
 obtain⟨sl,hL⟩:=u.any ho I.free (by simp)
 exact I.step (g':=s.gens) (d':=s.drawn) (ch:=[]) (fun _ z=>nomatch z) (fun b o _ hb _ e n=>u.keep b o e n hb (by simp)) (fun b o _ hb _ e n=>u.slot b o e n hb (by simp)) (fun b o _ e n=>u.free b o e n (by simp)) (fun b o _ e=>u.there b o e (by simp)) u.tups u.frzs u.tbls (fun m' hm=>by
  obtain⟨o',es',ep',ho',r'⟩:=hm
  rw[ho] at ho';cases ho'
  exact⟨_,es',ep',hL,r'⟩) hok I.bare
theorem Inv.call {g':Array GenState}{t':Nat}{d':Drawn}{ch:List Addr}(I:Inv X pins σ H s)(u:Un (frs X.stack) ch H H' s.heap h')(hok:HOk X.prog X.w H' h')(hg:AllBare g')
  (hch:∀b∈ch,(b∈X.ex∨X.s₀.heap.objs.size≤b)∧b≠X.env.locals∧(∀x c,X.env.cells.lookup x=some c→c≠b)∧∀p∈X.pn++pins,p.1≠b):
  Inv X pins σ H' { s with heap:=h',gens:=g',drawn:=d',toks:=t' }:=by
 obtain⟨m,⟨o,es,ep,ho,r⟩,_⟩:=id I.loc
 obtain⟨sl,hL⟩:=u.any ho I.free fun z=>(hch _ z).2.1 rfl
 exact I.step (ch:=ch) hch (fun b o hL hb hc e n=>u.keep b o e n (fun z=>(List.mem_cons.mp (I.stkSub b z)).elim hL hb) hc) (fun b o _ _ hc e n=>u.any e n hc) (fun b o hc e n=>u.free b o e n hc) (fun b o hc e=>u.there b o e hc) u.tups u.frzs u.tbls (fun m' hm=>by
  obtain⟨o',es',ep',ho',r'⟩:=hm
  rw[ho] at ho';cases ho'
  exact⟨_,es',ep',hL,r'⟩) hok hg
theorem Inv.turned {t':Nat}{it:Addr}(I:Inv X pins σ H s)(k:∀b o,b≠it→s.heap.get? b=some o→h'.get? b=some o)(hn:H it=none)(hL:it≠X.env.locals)
  (h1:it∈X.ex∨X.s₀.heap.objs.size≤it) (h2:∀x c,X.env.cells.lookup x=some c→c≠it) (h3:∀p∈X.pn++pins,p.1≠it):Inv X pins σ H { s with heap:=h',toks:=t' }:=by
 have nit:∀b u,H b=some u→b≠it:=fun b u e z=>by rw[z,hn] at e;cases e
 refine I.step (g':=s.gens) (d':=s.drawn) (ch:=[it]) (fun b hb=>?_) (fun b o _ _ hc e _=>k b o (fun z=>hc (by simp[z])) e) (fun b o _ _ hc e _=>⟨o.slots,k b o (fun z=>hc (by simp[z])) e⟩) (fun _ _ _ _ n=>n)
  (fun b o hc e=>⟨o,k b o (fun z=>hc (by simp[z])) e⟩) (fun _ _ e=>e) (fun _ _ _ e=>e) (fun b ps e=>⟨#[],by rw[e];simp⟩) (fun m hm=>?_) (fun b u e=>?_) I.bare
 ·have e:b=it:=by simpa using hb
  subst e
  exact⟨h1,hL,h2,h3⟩
 ·obtain⟨o,es,ep,ho,r⟩:=hm
  exact⟨o,es,ep,k _ o (Ne.symm hL) ho,r⟩
 ·refine(I.hok b u e).stay (fun c v hc q=>k c v ?_ q) (fun _ q=>q) fun _ _ q=>q
  rcases hc with z | z
  ·rw[z];exact nit b u e
  ·exact nit c _ z
theorem Inv.tok (I:Inv X pins σ H s)(t:Nat):Inv X pins σ H { s with toks:=t }:=I.un (h':=s.heap) (t':=t) Un.refl I.hok
theorem Inv.kept {t':Nat}(I:Inv X pins σ H s)(k:∀b u,s.heap.get? b=some u→h'.get? b=some u):Inv X pins σ H { s with heap:=h',toks:=t' }:=I.un (Un.kept k) (I.hok.kept k)
theorem Inv.laid {a:Addr}{o:HO}{t':Nat}(I:Inv X pins σ H s)(k:∀b u,s.heap.get? b=some u→h'.get? b=some u)(hp:s.heap.objs.size≤a)(new:ObjOk X.prog X.w (upd H a o) h' a o):
  Inv X pins σ (upd H a o) { s with heap:=h',toks:=t' }:=I.un (Un.laid k hp (I.hok.fresh hp)) (I.hok.laid k hp new)
theorem Inv.write {x e:Addr}{o:HO}{t':Nat}(I:Inv X pins σ H s)(mu:Mut (H x))(he:e=x∨H e=some (.own x))(k:∀b u,b≠e→s.heap.get? b=some u→h'.get? b=some u)(heo:∃u,h'.get? e=some u)
  (new:ObjOk X.prog X.w (upd H x o) h' x o):Inv X pins σ (upd H x o) { s with heap:=h',toks:=t' }:=I.un (Un.write mu he k heo) (I.hok.write mu he k heo new)
theorem Inv.weak {σ':List (Option V)}(I:Inv X pins σ H s)(hl:σ'.length=σ.length)(w:∀(i:Nat) v,σ'[i]? = some (some v)→σ[i]? = some (some v)):Inv X pins σ' H s:=
 ⟨I.ok,I.os,I.bare,I.base,let ⟨m,hn,hl'⟩:=I.loc;⟨m,hn,fun i x v e1 e2 e3=>hl' i x v e1 (w i v e2) e3⟩,I.cell,I.free,I.freeC,I.pin,I.hok,hl.trans I.len⟩
theorem Inv.pins_of {pins':List (Addr×Obj)}(I:Inv X pins σ H s)(h:∀p∈pins',s.heap.get? p.1=some p.2∧H p.1=none∧p.1≠X.env.locals∧p.1∉X.fs∧∀v,p.2.data≠.cell v):Inv X pins' σ H s:=
 ⟨I.ok,I.os,I.bare,I.base,I.loc,I.cell,I.free,I.freeC,fun p hp=>(List.mem_append.mp hp).elim (fun z=>I.pin p (List.mem_append_left _ z)) (h p),I.hok,I.len⟩

theorem qWo {N:List Str}(hN:N.Nodup){i j:Nat}{x:Str}(a:N[i]? = some x)(b:N[j]? = some x):i=j:=by
 obtain⟨h1,e1⟩:=List.getElem?_eq_some_iff.mp a
 obtain⟨h2,e2⟩:=List.getElem?_eq_some_iff.mp b
 exact(List.getElem_inj hN).mp (e1.trans e2.symm)

theorem qJi {M:Model}{A:Around}{E:Value→Shared→Prop}{i:Nat}{x:Str}{v:V}{u:Value}{Q:Unit→Shared→Prop}(I:Inv X pins σ H s)(hN:X.N.Nodup)(hi:X.N[i]? = some x)(hx:Loc X.env.scope x)(r:RelV v u)
  (h:∀s',Inv X pins (σ.set i (some v)) H s'→(∃a,Heap.SameBut a s.heap s'.heap∧(a=X.env.locals∨X.env.cells.lookup x=some a))→Q () s') (hf:X.fn x=true∨X.env.scope.names.lookup x=some .local:=by first | exact .inl rfl | exact .inr rfl | assumption):wpAny M A (storeName X.env x u) Q E s:=by
 obtain⟨m,hn,hl⟩:=id I.loc
 have hcls:(X.env.scope.kind == .class || (X.env.scope.kind == .module && X.env.locals != X.env.globals))=false:=by rw[I.ok.kind];rfl
 have hiσ:i<σ.length:=by rw[I.len];exact(List.getElem?_eq_some_iff.mp hi).1
 have cne:=I.cne
 have tracked:∀{a:Addr} {h':Heap},(∃o,s.heap.get? a=some o∧H a=none)→Heap.SameBut a s.heap h'→HOk X.prog X.w H h':=fun{a h'} ha hs b ob e=>by
  obtain⟨_,_,hfree⟩:=ha
  refine(I.hok b ob e).stay (fun c w' hc q=>(hs.2 c ?_).trans q) (fun _ q=>q) fun _ _ q=>q
  rintro rfl
  rcases hc with rfl | hc
  ·rw[hfree] at e;cases e
  ·rw[hfree] at hc;cases hc
 rcases hx with hk | hk
 ·refine wpAny_storeName_local hk hn (fun h' hn' hs=>?_) hcls
  obtain⟨oL,_,_,hoL,_⟩:=id hn
  refine h _ ⟨I.ok,I.os,I.bare,⟨fun b o e n hb hx=>?_,fun b o e n hb hx=>?_,I.base.free,fun b o e hx=>?_,I.base.tups,I.base.frzs,I.base.tbls⟩,⟨_,hn',fun j y v' e1 e2 e3=>?_⟩,fun y c e=>?_,I.free,I.freeC,fun p hp=>?_,tracked ⟨oL,hoL,I.free⟩ hs,by simpa using I.len⟩ ⟨_,hs,.inl rfl⟩
  ·exact(hs.2 b (Nat.ne_of_lt (Nat.lt_of_lt_of_le (Heap.lt_size e) I.ok.above))).trans (I.base.keep b o e n hb hx)
  ·obtain⟨sl,e1⟩:=I.base.slot b o e n hb hx
   exact⟨sl,(hs.2 b (Nat.ne_of_lt (Nat.lt_of_lt_of_le (Heap.lt_size e) I.ok.above))).trans e1⟩
  ·obtain⟨o',e1⟩:=I.base.there b o e hx
   exact⟨o',(hs.2 b (Nat.ne_of_lt (Nat.lt_of_lt_of_le (Heap.lt_size e) I.ok.above))).trans e1⟩
  ·by_cases hj:j=i
   ·subst hj
    rw[hi] at e1;cases e1
    rw[List.getElem?_set_self hiσ] at e2
    cases e2
    exact⟨u,r,.inl ⟨hk,by simp⟩⟩
   ·rw[List.getElem?_set_ne (Ne.symm hj)] at e2
    obtain⟨u',r',q⟩:=hl j y v' e1 e2 e3
    refine⟨u',r',?_⟩
    rcases q with⟨k,e⟩ | ⟨k,c,e,z⟩
    ·refine .inl ⟨k,?_⟩
     have:y≠x:=fun e=>hj (qWo hN e1 (e▸hi))
     simp[this,e]
    ·exact .inr ⟨k,c,e,z.sameBut hs (cne y c e)⟩
  ·obtain⟨w',z⟩:=I.cell y c e
   exact⟨w',z.sameBut hs (cne y c e)⟩
  ·obtain⟨e,n,ne,nf,d⟩:=I.pin p hp
   exact⟨(hs.2 p.1 ne).trans e,n,ne,nf,d⟩
 ·have hfn:X.fn x=true:=by
   rcases hf with z | z
   ·exact z
   ·rw[z] at hk;cases hk
  obtain⟨c,hc⟩:=I.ok.has x (.inl hk)
  obtain⟨w',z⟩:=I.cell x c hc
  refine wpAny_storeName_cell I.ok.kind hk hc z (fun h' hc' hs=>?_)
  obtain⟨oc,hoc,hocd⟩:=id z
  refine h { s with heap:=h' } ⟨I.ok,I.os,I.bare,⟨fun b o e n hb hx=>?_,fun b o e n hb hx=>?_,I.base.free,fun b o e hx=>?_,I.base.tups,I.base.frzs,I.base.tbls⟩,⟨m,hn.sameBut hs (Ne.symm (cne x c hc)),fun j y v' e1 e2 e3=>?_⟩,fun y c' e=>?_,I.free,I.freeC,fun p hp=>?_,tracked ⟨oc,hoc,I.freeC x c hc⟩ hs,by simpa using I.len⟩ ⟨c,hs,.inr hc⟩
  ·exact(hs.2 b (Nat.ne_of_lt (Nat.lt_of_lt_of_le (Heap.lt_size e) (I.ok.cab x c hfn hc)))).trans (I.base.keep b o e n hb hx)
  ·obtain⟨sl,e1⟩:=I.base.slot b o e n hb hx
   exact⟨sl,(hs.2 b (Nat.ne_of_lt (Nat.lt_of_lt_of_le (Heap.lt_size e) (I.ok.cab x c hfn hc)))).trans e1⟩
  ·obtain⟨o',e1⟩:=I.base.there b o e hx
   exact⟨o',(hs.2 b (Nat.ne_of_lt (Nat.lt_of_lt_of_le (Heap.lt_size e) (I.ok.cab x c hfn hc)))).trans e1⟩
  ·by_cases hj:j=i
   ·subst hj
    rw[hi] at e1;cases e1
    rw[List.getElem?_set_self hiσ] at e2
    cases e2
    exact⟨u,r,.inr ⟨.inl hk,c,hc,hc'⟩⟩
   ·rw[List.getElem?_set_ne (Ne.symm hj)] at e2
    obtain⟨u',r',q⟩:=hl j y v' e1 e2 e3
    refine⟨u',r',?_⟩
    rcases q with q | ⟨k,c',e,z'⟩
    ·exact .inl q
    ·refine .inr ⟨k,c',e,z'.sameBut hs ?_⟩
     rintro rfl
     exact hj (qWo hN e1 (I.ok.inj _ _ _ e hc▸hi))
  ·by_cases hcc:c'=c
   ·subst hcc;exact⟨_,hc'⟩
   ·obtain⟨w2,z2⟩:=I.cell y c' e
    exact⟨w2,z2.sameBut hs hcc⟩
  ·obtain⟨e,n,ne,nf,d⟩:=I.pin p hp
   refine⟨(hs.2 p.1 ?_).trans e,n,ne,nf,d⟩
   intro q
   rw[q,hoc] at e
   have q':oc=p.2:=Option.some.inj e
   exact d w' (by rw[← q'];exact hocd)
theorem qWk {M:Model}{A:Around}{E:Value→Shared→Prop}{i:Nat}{x:Str}{v:V}{u:Value}{Q:Unit→Shared→Prop}(I:Inv X pins σ H s)(hN:X.N.Nodup)(hi:X.N[i]? = some x)(hx:Loc X.env.scope x)(r:RelV v u)
  (h:∀s',Inv X pins (σ.set i (some v)) H s'→Q () s') (hf:X.fn x=true∨X.env.scope.names.lookup x=some .local:=by first | exact .inl rfl | exact .inr rfl | assumption):wpAny M A (storeName X.env x u) Q E s:=
 qJi I hN hi hx r (fun s' I' _=>h s' I') hf
theorem Inv.call' {s':Shared}{ch:List Addr}(I:Inv X pins σ H s)(ho:s'.os=s.os)(u:Un (frs X.stack) ch H H' s.heap s'.heap)(hok:HOk X.prog X.w H' s'.heap)(hg:AllBare s'.gens)
  (hch:∀b∈ch,(b∈X.ex∨X.s₀.heap.objs.size≤b)∧b≠X.env.locals∧(∀x c,X.env.cells.lookup x=some c→c≠b)∧∀p∈X.pn++pins,p.1≠b):Inv X pins σ H' s':=by
 obtain⟨h',g',d',t',o'⟩:=s'
 have e:o'=s.os:=ho
 subst e
 exact I.call (g':=g') (t':=t') (d':=d') u hok hg hch
end

noncomputable abbrev XK:=Value→Option Addr→Hp→Prop
noncomputable abbrev St:=List (Option V)
noncomputable abbrev VK:=V→Hp→Prop
noncomputable abbrev TE:=St→Hp→VK→Prop
noncomputable abbrev TT:=St→Hp→(Bool→Hp→Prop)→Prop
noncomputable abbrev TA:=St→Hp→(List V→Hp→Prop)→Prop
structure Ends where
 nx:St→Hp→Prop
 rt:VK
 bk:St→Hp→Prop:=fun _ _=>False
 ct:St→Hp→Prop:=fun _ _=>False
noncomputable abbrev TS:=Ends→St→Hp→Prop

noncomputable def EP (X:Cx)(pins:List (Addr×Obj))(σ:St)(Q:VK)(u:Value)(s':Shared):Prop:=∃v H',Inv X pins σ H' s'∧RelV v u∧Q v H'
noncomputable def TP (X:Cx)(pins:List (Addr×Obj))(σ:St)(Q:Bool→Hp→Prop)(b:Bool)(s':Shared):Prop:=∃H',Inv X pins σ H' s'∧Q b H'
noncomputable def AP (X:Cx)(pins:List (Addr×Obj))(σ:St)(Q:List V→Hp→Prop)(us:List Value)(s':Shared):Prop:=∃vs H',Inv X pins σ H' s'∧Vals vs us∧Q vs H'
noncomputable def SP (X:Cx)(pins:List (Addr×Obj))(D:Ends)(f:Flow)(s':Shared):Prop:=
 match f with
 | .next=>∃σ' H',Inv X pins σ' H' s'∧D.nx σ' H'
 | .brk=>∃σ' H',Inv X pins σ' H' s'∧D.bk σ' H'
 | .cont=>∃σ' H',Inv X pins σ' H' s'∧D.ct σ' H'
 | .ret u=>∃v σ' H',Inv X pins σ' H' s'∧RelV v u∧D.rt v H'

noncomputable def PE (X:Cx)(e:Expr)(t:TE):Prop:=
 ∀(pins:List (Addr×Obj)) (s:Shared) (σ:St) (H:Hp) (Q:VK),Inv X pins σ H s→t σ H Q→wpAny (model X.prog X.w) X.A (eval e X.env) (EP X pins σ Q) X.xe s
noncomputable def PT (X:Cx)(e:Expr)(t:TT):Prop:=
 ∀(pins:List (Addr×Obj)) (s:Shared) (σ:St) (H:Hp) (Q:Bool→Hp→Prop),Inv X pins σ H s→t σ H Q→wpAny (model X.prog X.w) X.A (isTrue e X.env (eval e X.env)) (TP X pins σ Q) X.xe s
noncomputable def PW (X:Cx)(e:Expr)(t:TT):Prop:=
 ∀(whole:Sem Value) (pins:List (Addr×Obj)) (s:Shared) (σ:St) (H:Hp) (Q:Bool→Hp→Prop),Inv X pins σ H s→t σ H Q→wpAny (model X.prog X.w) X.A (isTrue e X.env whole) (TP X pins σ Q) X.xe s
theorem PW.pt {X:Cx}{e:Expr}{t:TT}(h:PW X e t):PT X e t:=h _
noncomputable def PA (X:Cx)(es:List Expr)(t:TA):Prop:=
 ∀(pos:Pos) (pins:List (Addr×Obj)) (s:Shared) (σ:St) (H:Hp) (Q:List V→Hp→Prop),Inv X pins σ H s→t σ H Q→wpAny (model X.prog X.w) X.A (spliced (backTo pos (starEach es X.env))) (AP X pins σ Q) X.xe s
noncomputable def PS (X:Cx)(st:Stmt)(t:TS):Prop:=
 ∀(pins:List (Addr×Obj)) (s:Shared) (σ:St) (H:Hp) (D:Ends),Inv X pins σ H s→t D σ H→wpAny (model X.prog X.w) X.A (exec st X.env) (SP X pins D) X.xe s
noncomputable def PSs (X:Cx)(st:List Stmt)(t:TS):Prop:=
 ∀(pins:List (Addr×Obj)) (s:Shared) (σ:St) (H:Hp) (D:Ends),Inv X pins σ H s→t D σ H→wpAny (model X.prog X.w) X.A (execs st X.env) (SP X pins D) X.xe s
theorem thn {α:Type}{t:Sem α}{Q Q':α→Shared→Prop}{M:Model}{A:Around}{E:Value→Shared→Prop}{s:Shared}(h:wpAny M A t Q E s)(hQ:∀a s,Q a s→Q' a s):wpAny M A t Q' E s:=wpAny_mono h hQ fun _ _ x=>x
end L2

namespace L2
open PySem PySem.Spec PyProof.Rows
section
variable {X:Cx}

noncomputable def tVar (i:Nat):TE:=fun σ H Q=>∃v,σ[i]? = some (some v)∧Q v H
noncomputable def tC (v:V):TE:=fun _ H Q=>Q v H
theorem qRa {i:Nat}{x:Str}{pos:Pos}(hN:X.N[i]? = some x)(hv:Vis X.env.scope x)(hd:(x == ("__debug__" : Str))=false:=by decide)(hcd:(x == ("__classdict__" : Str))=false:=by decide):PE X (.Name x pos) (tVar i):=by
 intro pins s σ H Q I h
 obtain⟨v,e,h⟩:=h
 obtain⟨m,hn,hl⟩:=I.loc
 obtain⟨u,r,l⟩:=hl i x v hN e hv
 have fin:EP X pins σ Q u s:=⟨v,H,I,r,h⟩
 rcases l with⟨hk,hm⟩ | ⟨hk,c,hc,hcell⟩
 ·exact wpAny_Name (wpAny_loadName_local I.ok.kind hk hn hm fin) hd
 ·rcases hk with hk | hk
  ·exact wpAny_Name (wpAny_loadName_cell I.ok.kind hk hc hcell fin) hd
  ·exact wpAny_Name (wpAny_loadName_free I.ok.kind hk hc hcell fin hcd) hd
theorem qE {i j pos}:PE X (.Constant (.int i) j pos) (tC (.int i)):=fun _ _ _ H _ I h=>wpAny_Constant_int ⟨.int i,H,I.tok _,⟨_,rfl⟩,h⟩
theorem qBz {b j pos}:PE X (.Constant (.bool b) j pos) (tC (.bl b)):=fun _ _ _ H _ I h=>Constant_bool ⟨.bl b,H,I,rfl,h⟩
theorem qF {x j pos}:PE X (.Constant (.str x) j pos) (tC (.str x)):=fun _ _ _ H _ I h=>Calls.Constant_str ⟨.str x,H,I.tok _,⟨_,rfl⟩,h⟩

noncomputable def Gl (X:Cx)(x:Str):Prop:=X.env.kindOf x=some .globalImplicit
theorem qEj {E:Value→Shared→Prop}{pins:List (Addr×Obj)}{s:Shared}{σ:St}{H:Hp}{x:Str}{u:Value}{pos:Pos}{Q:Value→Shared→Prop}(I:Inv X pins σ H s)(hg:Gl X x)(hm:X.mg x=some u)(h:Q u s)
  (hd:(x == ("__debug__" : Str))=false:=by decide):wpAny (model X.prog X.w) X.A (eval (.Name x pos) X.env) Q E s:=
 Calls.Name_function_global I.ok.kind hg (Calls.loadGlobal_global (by rw[I.ok.glob];exact I.mod.glob.keeps I.bk) hm h) hd
theorem qXm {E:Value→Shared→Prop}{pins:List (Addr×Obj)}{s:Shared}{σ:St}{H:Hp}{x:Str}{u:Value}{pos:Pos}{Q:Value→Shared→Prop}(I:Inv X pins σ H s)(hg:Gl X x)(hm:X.mg x=none)(hv:bootBuiltins x=some u)(h:Q u s)
  (hn:x ≠ "__name__" := by decide) (hd:(x == ("__debug__" : Str))=false:=by decide):wpAny (model X.prog X.w) X.A (eval (.Name x pos) X.env) Q E s:=by
 obtain⟨mb,h1,h2⟩:=I.mod.blt
 exact Calls.Name_function_global I.ok.kind hg (Calls.loadGlobal_builtin (by rw[I.ok.glob];exact I.mod.glob.keeps I.bk) hm (by rw[I.ok.blt];exact h1.keeps I.bk) ((h2 x hn).trans hv) h) hd
theorem qKl {x:Str}{v:V}{u:Value}{pos:Pos}(hg:Gl X x)(hm:X.mg x=some u)(r:RelV v u)(hd:(x == ("__debug__" : Str))=false:=by decide):PE X (.Name x pos) (tC v):=
 fun _ _ _ H _ I h=>qEj I hg hm ⟨v,H,I,r,h⟩ hd
theorem qNb {x:Str}{v:V}{u:Value}{pos:Pos}(hg:Gl X x)(hm:X.mg x=none)(hv:bootBuiltins x=some u)(r:RelV v u)(hn:x ≠ "__name__" := by decide)(hd:(x == ("__debug__" : Str))=false:=by decide):PE X (.Name x pos) (tC v):=
 fun _ _ _ H _ I h=>qXm I hg hm hv ⟨v,H,I,r,h⟩ hn hd

variable {a b:Expr}{ta tb:TE}{pos:Pos}
noncomputable def tB (t:TE):TT:=fun σ H Q=>t σ H fun x H1=>∃c,x=.bl c∧Q c H1
theorem qWf {e:Expr}{t:TE}(h:PE X e t)(he:∀whole,isTrue e X.env whole=(do let v ← whole;standAt e.pos;holding [v] (truthy v)):=by intro _;rfl):PT X e (tB t):=by
 intro pins s σ H Q I hw
 refine isTrue_plain (thn (h pins s σ H _ I hw) fun v s1 ⟨x,H1,I1,r1,q1⟩=>?_) (he _)
 obtain⟨d,rfl,q⟩:=q1
 cases r1
 exact wpAny_truthy_bool ⟨H1,I1,q⟩

variable {tA tB':TT}{rest:List Expr}
noncomputable def tOr (t u:TT):TT:=fun σ H Q=>t σ H fun c H1=>if c=true then Q true H1 else u σ H1 Q
noncomputable def tNot (t:TT):TT:=fun σ H Q=>t σ H fun c H1=>Q (!c) H1
theorem qYq (ha:PT X a tA):PW X (.BoolOp .Or [a] pos) tA:=by
 intro wh pins s σ H Q I h
 refine isTrue_or (thn (ha pins s σ H Q I h) fun c s1 e=>?_)
 cases c with
 | false=>exact isTrue_or_nil e
 | true=>exact e
theorem qAo (ha:PT X a tA)(hb:PW X (.BoolOp .Or (b::rest) pos) tB'):PW X (.BoolOp .Or (a::b::rest) pos) (tOr tA tB'):=by
 intro wh pins s σ H Q I h
 refine isTrue_or (thn (ha pins s σ H _ I h) fun c s1 ⟨H1,I1,q1⟩=>?_)
 cases c with
 | true=>exact⟨H1,I1,q1⟩
 | false=>exact hb wh pins s1 σ H1 Q I1 q1
theorem qIf (ha:PT X a tA):PT X (.UnaryOp .Not a pos) (tNot tA):=by
 intro pins s σ H Q I h
 exact isTrue_not (ha pins s σ H (fun c H1=>Q (!c) H1) I h)
noncomputable def tAndV (ta tb:TE):TE:=fun σ H Q=>ta σ H fun x H1=>∃c,x=.bl c∧if c=true then tb σ H1 Q else Q (.bl false) H1
noncomputable def tNotV (ta:TE):TE:=fun σ H Q=>ta σ H fun x H1=>∃c,x=.bl c∧Q (.bl (!c)) H1
theorem qIh {op}{t:TE}(h:PE X a t):PE X (.BoolOp op [a] pos) t:=fun pins s σ H Q I hw=>BoolOp_one (h pins s σ H Q I hw)
theorem qIi (ha:PE X a ta)(hb:PE X (.BoolOp .And (b::rest) pos) tb):PE X (.BoolOp .And (a::b::rest) pos) (tAndV ta tb):=by
 intro pins s σ H Q I h
 refine BoolOp_and (thn (ha pins s σ H _ I h) fun v s1 ⟨x,H1,I1,r1,q1⟩=>?_)
 obtain⟨c,rfl,q1⟩:=q1
 cases r1
 refine wpAny_truthy_bool ?_
 cases c with
 | true=>exact hb pins s1 σ H1 Q I1 q1
 | false=>exact⟨.bl false,H1,I1,rfl,q1⟩
theorem qCm (ha:PE X a ta):PE X (.UnaryOp .Not a pos) (tNotV ta):=by
 intro pins s σ H Q I h
 refine UnaryOp_ (thn (ha pins s σ H _ I h) fun v s1 ⟨x,H1,I1,r1,q1⟩=>?_)
 obtain⟨c,rfl,q1⟩:=q1
 cases r1
 exact not_of (wpAny_truthy_bool ⟨.bl (!c),H1,I1,rfl,q1⟩)
noncomputable def tIf (t:TT)(ta tb:TE):TE:=fun σ H Q=>t σ H fun c H1=>if c=true then ta σ H1 Q else tb σ H1 Q
theorem vA {c:Expr}(hc:PT X c tA)(ha:PE X a ta)(hb:PE X b tb):PE X (.IfExp c a b pos) (tIf tA ta tb):=by
 intro pins s σ H Q I h
 refine wpAny_IfExp (thn (hc pins s σ H _ I h) fun d s1 ⟨H1,I1,q1⟩=>?_)
 cases d with
 | true=>exact ha pins s1 σ H1 Q I1 q1
 | false=>exact hb pins s1 σ H1 Q I1 q1
end
end L2

namespace L2
open PySem PySem.Spec PyProof.Rows

noncomputable def SqL (K:PySem.W.Frag)(H:Hp)(a:Addr)(xs:List V):Prop:=
 Rd H a (.lst xs)∨
  ∃(o:Obj) (its:Array Value) (n:Nat),K.lookup a=some o∧o.cls=.type "list" ∧ o.dict=none∧o.data=.seq its n∧its.size≤sizeLine∧Vals xs its.toList
noncomputable def SqT (K:PySem.W.Frag)(H:Hp)(a:Addr)(xs:List V):Prop:=
 Rd H a (.tup xs)∨
  ∃(o:Obj) (its:Array Value) (n:Nat),K.lookup a=some o∧o.cls=.type "tuple" ∧ o.data=.seq its n∧its.size≤sizeLine∧Vals xs its.toList
noncomputable def absV:Value→Option V
 | .none=>some .non
 | .bool b=>some (.bl b)
 | .int i _=>some (.int i)
 | .str x _=>some (.str x)
 | .bytes b _=>some (.byt b)
 | .float b _=>some (.flt b)
 | .ref a=>some (.ref a)
 | .type n=>some (.ty n)
 | _=>none
theorem RelV.abs {x:V}{u:Value}(r:RelV x u):absV u=some x:=by
 cases x with
 | non=>cases r;rfl
 | bl _=>cases r;rfl
 | int _=>obtain⟨t,rfl⟩:=r;rfl
 | str _=>obtain⟨t,rfl⟩:=r;rfl
 | byt _=>obtain⟨t,rfl⟩:=r;rfl
 | flt _=>obtain⟨t,rfl⟩:=r;rfl
 | ref _=>cases r;rfl
 | ty _=>cases r;rfl
theorem RelV.inj {x y:V}{u:Value}(r:RelV x u)(q:RelV y u):x=y:=Option.some.inj (r.abs.symm.trans q.abs)
theorem Vals.inj {xs ys:List V}{us:List Value}(h:Vals xs us)(h':Vals ys us):xs=ys:=by
 induction h generalizing ys with
 | nil=>cases h';rfl
 | cons r _ ih=>
  cases h' with
  | cons r' t'=>rw[r.inj r',ih t']
section
variable {X:Cx}{pins:List (Addr×Obj)}{σ:St}{H:Hp}{s:Shared}{a:Addr}{xs ys:List V}
theorem SqL.of {K:PySem.W.Frag}(h:H a=some (.lst xs)):SqL K H a xs:=.inl (.inl h)
theorem SqT.of {K:PySem.W.Frag}(h:H a=some (.tup xs)):SqT K H a xs:=.inl (.inl h)
theorem Inv.list (I:Inv X pins σ H s)(h:SqL X.K H a xs):∃its:List Value,Vals xs its∧PlainL s.heap a its.toArray∧xs.length≤sizeLine:=by
 rcases h with h | ⟨o,its,n,hk,hc,hd,hs,hz,r⟩
 ·obtain⟨z,its,n,r,e⟩:=h.ok I.hok
  exact⟨its,r,⟨_,n,e,rfl,rfl,rfl⟩,z⟩
 ·refine⟨its.toList,r,⟨o,n,I.kIn a o hk,hc,hd,by simpa using hs⟩,?_⟩
  have e:=r.length
  simp only[Array.length_toList] at e
  omega
theorem Inv.tuple (I:Inv X pins σ H s)(h:SqT X.K H a xs):∃its:List Value,Vals xs its∧IsTup s.heap a its.toArray∧xs.length≤sizeLine:=by
 rcases h with h | ⟨o,its,n,hk,hc,hs,hz,r⟩
 ·obtain⟨z,its,r,p⟩:=h.ok I.hok
  exact⟨its,r,p.tup,z⟩
 ·refine⟨its.toList,r,⟨o,I.kIn a o hk,hc,n,by simpa using hs⟩,?_⟩
  have e:=r.length
  simp only[Array.length_toList] at e
  omega
theorem Inv.list_inj (I:Inv X pins σ H s)(h:SqL X.K H a xs)(h':SqL X.K H a ys):xs=ys:=by
 obtain⟨its,r,⟨o,n,e,_,_,d⟩,_⟩:=I.list h
 obtain⟨its',r',⟨o',n',e',_,_,d'⟩,_⟩:=I.list h'
 rw[e] at e';cases e'
 rw[d] at d'
 injection d' with d1 _
 have:its=its':=by simpa using congrArg Array.toList d1
 subst this
 exact r.inj r'
theorem Inv.tuple_inj (I:Inv X pins σ H s)(h:SqT X.K H a xs)(h':SqT X.K H a ys):xs=ys:=by
 obtain⟨its,r,⟨o,e,_,n,d⟩,_⟩:=I.tuple h
 obtain⟨its',r',⟨o',e',_,n',d'⟩,_⟩:=I.tuple h'
 rw[e] at e';cases e'
 rw[d] at d'
 injection d' with d1 _
 have:its=its':=by simpa using congrArg Array.toList d1
 subst this
 exact r.inj r'
end

noncomputable abbrev Cx.wish (X:Cx)(E:Value→Shared→Prop):Cx:={ X with xe:=E }
noncomputable abbrev Cx.nox (X:Cx):Cx:=X.wish fun _ _=>False
theorem Cx.Ok.wish {X:Cx}(ok:X.Ok)(E:Value→Shared→Prop):(X.wish E).Ok:=
 ⟨ok.mod,ok.kind,ok.glob,ok.blt,ok.above,ok.inj,ok.has,ok.cab,ok.hd,ok.frames,ok.stk,ok.exf,ok.bs,ok.bsz,ok.noex,ok.exfs,ok.funs,ok.frf⟩
theorem Cx.Ok.unwish {X:Cx}{E:Value→Shared→Prop}(ok:(X.wish E).Ok):X.Ok:=
 ⟨ok.mod,ok.kind,ok.glob,ok.blt,ok.above,ok.inj,ok.has,ok.cab,ok.hd,ok.frames,ok.stk,ok.exf,ok.bs,ok.bsz,ok.noex,ok.exfs,ok.funs,ok.frf⟩
section
variable {X:Cx}{pins:List (Addr×Obj)}{σ:St}{H:Hp}{s:Shared}{E:Value→Shared→Prop}
theorem Inv.wish (I:Inv X pins σ H s)(E:Value→Shared→Prop):Inv (X.wish E) pins σ H s:=⟨I.ok.wish E,I.os,I.bare,I.base,I.loc,I.cell,I.free,I.freeC,I.pin,I.hok,I.len⟩
theorem Inv.unwish (I:Inv (X.wish E) pins σ H s):Inv X pins σ H s:=⟨I.ok.unwish,I.os,I.bare,I.base,I.loc,I.cell,I.free,I.freeC,I.pin,I.hok,I.len⟩
theorem SP.unwish {D:Ends}{f:Flow}{s':Shared}(h:SP (X.wish E) pins D f s'):SP X pins D f s':=by
 cases f with
 | next=>obtain⟨σ',H',I,q⟩:=h;exact⟨σ',H',I.unwish,q⟩
 | brk=>obtain⟨σ',H',I,q⟩:=h;exact⟨σ',H',I.unwish,q⟩
 | cont=>obtain⟨σ',H',I,q⟩:=h;exact⟨σ',H',I.unwish,q⟩
 | ret u=>obtain⟨v,σ',H',I,r,q⟩:=h;exact⟨v,σ',H',I.unwish,r,q⟩
theorem PSs.nox {st:List Stmt}{t:TS}(h:PSs X.nox st t):PSs X st t:=fun pins s σ H D I hw=>
 wpAny_mono (h pins s σ H D (I.wish _) hw) (fun _ _ q=>q.unwish) fun _ _ z=>False.elim z
end

section
variable {X:Cx}{st:Stmt}{rest:List Stmt}{t u:TS}{e:Expr}{te:TE}{pos:Pos}
noncomputable def tNext:TS:=fun D σ H=>D.nx σ H
noncomputable def tSeq (t u:TS):TS:=fun D σ H=>t { D with nx:=u D } σ H
theorem qY:PSs X [] tNext:=fun _ _ σ H _ I h=>wpAny_execs_nil ⟨σ,H,I,h⟩
theorem qZ (h1:PS X st t)(h2:PSs X rest u):PSs X (st::rest) (tSeq t u):=by
 intro pins s σ H D I h
 refine wpAny_execs_cons (thn (h1 pins s σ H { D with nx:=u D } I h) fun f s1 q=>?_)
 cases f with
 | next=>
  obtain⟨σ',H',I',q⟩:=q
  exact h2 pins s1 σ' H' D I' q
 | ret v=>exact q
 | brk=>exact q
 | cont=>exact q
theorem qJ (h1:PS X st t):PSs X [st] t:=by
 intro pins s σ H D I h
 refine wpAny_execs_cons (thn (h1 pins s σ H D I h) fun f s1 q=>?_)
 cases f with
 | next=>exact wpAny_execs_nil q
 | ret v=>exact q
 | brk=>exact q
 | cont=>exact q
theorem Inv.quiet {pins:List (Addr×Obj)}{σ:St}{H:Hp}{s:Shared}(I:Inv X pins σ H s):interactive X.env=false:=by simp[interactive,I.ok.kind]
noncomputable def tDrop (te:TE):TS:=fun D σ H=>te σ H fun _ H1=>D.nx σ H1
theorem qP (he:PE X e te)(hs:swapsWith e none pos.line X.env=pure false:=by rfl):PS X (.Expr e pos) (tDrop te):=by
 intro pins s σ H D I h
 exact wpAny_Expr_any (thn (he pins s σ H _ I h) fun v s1 ⟨x,H1,I1,r1,q1⟩=>⟨σ,H1,I1,q1⟩) I.quiet hs
noncomputable def tRet (te:TE):TS:=fun D σ H=>te σ H D.rt
theorem qN (he:PE X e te):PS X (.Return (some e) pos) (tRet te):=by
 intro pins s σ H D I h
 exact wpAny_Return_some (thn (he pins s σ H _ I h) fun v s1 ⟨x,H1,I1,r1,q1⟩=>⟨x,σ,H1,I1,r1,q1⟩)
noncomputable def tRetN:TS:=fun D _ H=>D.rt .non H
theorem qNj:PS X (.Return none pos) tRetN:=fun _ _ σ H _ I h=>wpAny_Return_none ⟨.non,σ,H,I,rfl,h⟩
noncomputable def tIfS (c:TT)(t u:TS):TS:=fun D σ H=>c σ H fun b H1=>if b=true then t D σ H1 else u D σ H1
theorem zB {c:Expr}{a b:List Stmt}{tc:TT}(hc:PT X c tc)(ha:PSs X a t)(hb:PSs X b u):PS X (.If c a b pos) (tIfS tc t u):=by
 intro pins s σ H D I h
 refine wpAny_If (thn (hc pins s σ H _ I h) fun d s1 ⟨H1,I1,q1⟩=>?_)
 cases d with
 | true=>exact ha pins s1 σ H1 D I1 q1
 | false=>exact hb pins s1 σ H1 D I1 q1
noncomputable def tNever:TS:=fun _ _ _=>False
theorem jG:PS X st tNever:=fun _ _ _ _ _ _ h=>h.elim
end

noncomputable abbrev TG:=V→St→Hp→(St→Hp→Prop)→Prop
noncomputable abbrev TGs:=List V→St→Hp→(St→Hp→Prop)→Prop
noncomputable def PG (X:Cx)(target:Expr)(t:TG):Prop:=
 ∀(pins:List (Addr×Obj)) (s:Shared) (σ:St) (H:Hp) (v:V) (u:Value) (Q:St→Hp→Prop),Inv X pins σ H s→RelV v u→t v σ H Q→
  wpAny (model X.prog X.w) X.A (assign target X.env u) (fun _ s'=>∃σ' H',Inv X pins σ' H' s'∧Q σ' H') X.xe s
noncomputable def PGs (X:Cx)(ts:List Expr)(t:TGs):Prop:=
 ∀(pins:List (Addr×Obj)) (s:Shared) (σ:St) (H:Hp) (vs:List V) (us:List Value) (Q:St→Hp→Prop),Inv X pins σ H s→Vals vs us→t vs σ H Q→
  wpAny (model X.prog X.w) X.A (assignInOrder ((assignEach ts X.env).map (·.2)) us) (fun _ s'=>∃σ' H',Inv X pins σ' H' s'∧Q σ' H') X.xe s
noncomputable abbrev TSet:=V→V→V→Hp→(Hp→Prop)→Prop
noncomputable def PSet (X:Cx)(t:TSet):Prop:=
 ∀(pins:List (Addr×Obj)) (s:Shared) (σ:St) (H:Hp) (o i v:V) (ov iv u:Value) (Q:Hp→Prop),Inv X pins σ H s→RelV o ov→RelV i iv→RelV v u→t o i v H Q→
  wpAny (model X.prog X.w) X.A (setItem ov iv u) (fun _ s'=>∃H',Inv X pins σ H' s'∧Q H') X.xe s
section
variable {X:Cx}{pos:Pos}
noncomputable def gName (i:Nat):TG:=fun v σ H Q=>Q (σ.set i (some v)) H
theorem qG {i:Nat}{x:Str}(hN:X.N.Nodup)(hi:X.N[i]? = some x)(hx:Loc X.env.scope x)(hf:X.fn x=true∨X.env.scope.names.lookup x=some .local:=by first | exact .inl rfl | exact .inr rfl | assumption):PG X (.Name x pos) (gName i):=by
 intro pins s σ H v u Q I r h
 exact wpAny_assign_Name (qWk I hN hi hx r (fun s' I'=>⟨_,H,I',h⟩) hf)
noncomputable def gNil:TGs:=fun vs σ H Q=>vs=[]∧Q σ H
noncomputable def gCons (t:TG)(u:TGs):TGs:=fun vs σ H Q=>∃v r,vs=v::r∧t v σ H fun σ' H'=>u r σ' H' Q
theorem qI:PGs X [] gNil:=by
 intro pins s σ H vs us Q I r h
 obtain⟨e,h⟩:=h
 subst e
 cases r
 exact assignInOrder_nil ⟨σ,H,I,h⟩
theorem qH {e:Expr}{es:List Expr}{t:TG}{u:TGs}(h1:PG X e t)(h2:PGs X es u)
  (hs:(assignEach (e::es) X.env).map (·.2)=assign e X.env::(assignEach es X.env).map (·.2):=by rfl):PGs X (e::es) (gCons t u):=by
 intro pins s σ H vs us Q I r h
 obtain⟨v,vr,e1,h⟩:=h
 subst e1
 cases r with
 | cons r rr=>
  rw[hs]
  refine assignInOrder_cons (thn (h1 pins s σ H _ _ _ I r h) fun _ s1 ⟨σ1,H1,I1,q1⟩=>?_)
  exact h2 pins s1 σ1 H1 _ _ Q I1 rr q1
noncomputable def gTup (K:PySem.W.Frag)(n:Nat)(t:TGs):TG:=fun v σ H Q=>∃a xs,v=.ref a∧SqT K H a xs∧xs.length=n∧t xs σ H Q
theorem qIg {es:List Expr}{k:Nat}{t:TGs}{n:Nat}(hc:X.calm=true)(h:PGs X es t)
  (hn:(assignEach es X.env).length=n:=by rfl) (hst:(assignEach es X.env).findIdx? (·.1)=none:=by rfl):PG X (.Tuple es k pos) (gTup X.K n t):=by
 intro pins s σ H v u Q I r hw
 obtain⟨a,xs,e1,hq,hl,hw⟩:=hw
 subst e1
 cases r
 obtain⟨its,rv,ht,hz⟩:=I.tuple hq
 refine assign_Tuple_tuple (I.ok.hd hc) ht (by simp[hn,← hl,rv.length]) hst fun h' hx=>?_
 have I1:Inv X pins σ H { s with heap:=h' }:=I.kept (t':=s.toks) fun b o e=>hx b o (Nat.ne_of_lt (Heap.lt_size e)) e
 exact h pins _ σ H xs _ Q I1 (by simpa using rv) hw
noncomputable def gSub (to ti:TE)(t:TSet):TG:=fun v σ H Q=>to σ H fun o H1=>ti σ H1 fun i H2=>t o i v H2 fun H3=>Q σ H3
theorem qRw {o i:Expr}{to ti:TE}{t:TSet}(ho:PE X o to)(hi:PE X i ti)(hs:PSet X t)
  (ha:∀v,assign (.Subscript o i pos) X.env v=(do
   let ov ← holding [v] (eval o X.env)
   let iv ← holding [v,ov] (eval i X.env)
   standAt pos
   holding [v,ov,iv] (setItem ov iv v)
   release [v,ov,iv] []):=by intro _;rfl):PG X (.Subscript o i pos) (gSub to ti t):=by
 intro pins s σ H v u Q I r h
 rw[ha]
 refine wpAny_bind (wpAny_holding (thn (ho pins s σ H _ I h) fun ov s1 ⟨x,H1,I1,r1,q1⟩=>?_))
 refine wpAny_bind (wpAny_holding (thn (hi pins s1 σ H1 _ I1 q1) fun iv s2 ⟨y,H2,I2,r2,q2⟩=>?_))
 refine wpAny_bind (wpAny_standAt (wpAny_bind (wpAny_holding (thn (hs pins s2 σ H2 x y v ov iv u _ I2 r1 r2 r q2) fun _ s3 ⟨H3,I3,q3⟩=>?_))))
 exact wpAny_release ⟨σ,H3,I3,q3⟩
noncomputable def tAsg (te:TE)(g:TG):TS:=fun D σ H=>te σ H fun x H1=>g x σ H1 D.nx
theorem qO {tg e:Expr}{te:TE}{g:TG}(he:PE X e te)(hg:PG X tg g)(hs:swapsWithSole [tg] e pos.line X.env=pure false:=by rfl)(hw:swappedStores [tg] e X.env=pure none:=by rfl)
  (h1:(assignEach [tg] X.env).map (·.2)=[assign tg X.env]:=by rfl):PS X (.Assign [tg] e pos) (tAsg te g):=by
 intro pins s σ H D I h
 refine wpAny_Assign_stores (thn (he pins s σ H _ I h) fun v s1 ⟨x,H1,I1,r1,q1⟩=>?_) hs hw
 rw[h1]
 exact thn (hg pins s1 σ H1 x v _ I1 r1 q1) fun _ s2 q=>q
theorem qM {i:Nat}{x:Str}{e:Expr}{te:TE}{pos':Pos}(hN:X.N.Nodup)(hi:X.N[i]? = some x)(hx:Loc X.env.scope x)(he:PE X e te)(hs:swapsWith e (some (.Name x pos')) pos.line X.env=pure false:=by rfl)(hf:X.fn x=true∨X.env.scope.names.lookup x=some .local:=by first | exact .inl rfl | exact .inr rfl | assumption):
  PS X (.Assign [.Name x pos'] e pos) (tAsg te (gName i)):=by
 intro pins s σ H D I h
 refine wpAny_Assign_Name (thn (he pins s σ H _ I h) fun v s1 ⟨y,H1,I1,r1,q1⟩=>?_) hs
 exact qWk I1 hN hi hx r1 (fun s2 I2=>⟨_,H1,I2,q1⟩) hf
end

section
variable {X:Cx}{pos:Pos}
noncomputable def tWhile (c:TT)(tb:TS):TS:=fun D σ H=>∃W:Nat→St→Hp→Prop,(∃m,W m σ H)∧∀m σ H,W m σ H→
 c σ H fun b H1=>if b=true then ∃N:St→Hp→Prop,(∀σ' H',N σ' H'→∃m',m'<m∧W m' σ' H')∧tb { D with nx:=N,ct:=N,bk:=D.nx } σ H1 else D.nx σ H1
theorem qWg {c:Expr}{body:List Stmt}{tc:TT}{tb:TS}(hp:PassesOwn (model X.prog X.w) X.A X.env X.xe)(hc:PT X c tc)(hb:PSs X body tb):PS X (.While c body [] pos) (tWhile tc tb):=by
 intro pins s σ H D I h
 obtain⟨W,⟨m0,w0⟩,turn⟩:=h
 refine wpAny_While (codeAny_whileLoop (fun n s'=>∃σ' H',Inv X pins σ' H' s'∧W n σ' H') ?_ m0 ⟨σ,H,I,w0⟩)
 rintro n s1 ⟨σ1,H1,I1,w1⟩
 refine wpAny_passesOwn hp (thn (hc pins s1 σ1 H1 _ I1 (turn n σ1 H1 w1)) fun b s2 ⟨H2,I2,q2⟩=>?_)
 cases b with
 | true=>
  obtain⟨N,hN,q2⟩:=q2
  rw[if_pos rfl]
  refine wpAny_passesOwn hp (thn (hb pins s2 σ1 H2 _ I2 q2) fun f s3 q3=>?_)
  cases f with
  | next=>
   obtain⟨σ3,H3,I3,n3⟩:=q3
   obtain⟨m',hm,w3⟩:=hN σ3 H3 n3
   exact⟨m',hm,σ3,H3,I3,w3⟩
  | cont=>
   obtain⟨σ3,H3,I3,n3⟩:=q3
   obtain⟨m',hm,w3⟩:=hN σ3 H3 n3
   exact⟨m',hm,σ3,H3,I3,w3⟩
  | brk=>exact q3
  | ret v=>exact q3
 | false=>
  rw[if_neg Bool.false_ne_true]
  exact wpAny_execs_nil ⟨σ1,H2,I2,q2⟩
end

structure It where
 go:Nat→Hp→Prop
 yld:Nat→Hp→V→Hp→Prop
 stop:Nat→Hp→Prop
noncomputable def FpOk (X:Cx)(pins:List (Addr×Obj))(H:Hp)(b:Addr):Prop:=
 H b=none∧b≠X.env.locals∧b∉X.fs∧(b∈X.ex∨X.s₀.heap.objs.size≤b)∧(∀x c,X.env.cells.lookup x=some c→c≠b)∧∀p∈X.pn++pins,p.1≠b
theorem Inv.fpOk {X:Cx}{pins:List (Addr×Obj)}{σ:St}{H H':Hp}{s:Shared}{b:Addr}(I:Inv X pins σ H s)(hb:s.heap.objs.size≤b)(hn:H' b=none):FpOk X pins H' b:=by
 refine⟨hn,Nat.ne_of_gt (Nat.lt_of_lt_of_le I.lt hb),I.nofs hb,.inr (Nat.le_trans I.sz hb),fun x c e z=>?_,fun p hp z=>?_⟩
 ·obtain⟨v,q⟩:=I.cell x c e
  exact absurd (Nat.lt_of_lt_of_le q.lt (by rw[z];exact hb)) (Nat.lt_irrefl _)
 ·exact absurd (Nat.lt_of_lt_of_le (Heap.lt_size (I.pin p hp).1) (by rw[z];exact hb)) (Nat.lt_irrefl _)
structure Turn (P:Program)(w:World)(K:PySem.W.Frag)(tg:Expr)(J:It)(fp:List Addr)(it:Addr)(tn:Nat→Heap→Prop):Prop where
 mem:it∈fp
 obj:∀i h,tn i h→∀b∈fp,∃o,h.get? b=some o∧∀v,o.data≠.cell v
 keep:∀i h h',tn i h→(∀b∈fp,∀o,h.get? b=some o→h'.get? b=some o)→tn i h'
 item:∀(X:Cx),X.prog=P→X.w=w→X.K=K→X.calm=true→∀(i:Nat) (pins:List (Addr×Obj)) (s:Shared) (σ:St) (H:Hp) (E:Value→Shared→Prop),Inv X pins σ H s→(∀b∈fp,FpOk X pins H b)→tn i s.heap→J.go i H→
  wpAny (model P w) X.A (pyNext (.ref it)) (fun r s1=>∃u,r=some u∧
   wpAny (model P w) X.A (letOwnedTupleGo tg (.ref it) u) (fun _ s2=>∃x H',Inv X pins σ H' s2∧RelV x u∧J.yld i H x H'∧tn (i+1) s2.heap∧∀b∈fp,H' b=none) E s1) E s
 done:∀(X:Cx),X.prog=P→X.w=w→X.K=K→X.calm=true→∀(i:Nat) (pins:List (Addr×Obj)) (s:Shared) (σ:St) (H:Hp) (E:Value→Shared→Prop),Inv X pins σ H s→(∀b∈fp,FpOk X pins H b)→tn i s.heap→J.stop i H→
  wpAny (model P w) X.A (pyNext (.ref it)) (fun r s1=>r=none∧Inv X pins σ H s1) E s
 self:∀(A:Around) (i:Nat) (s:Shared) (Q:Value→Shared→Prop) (E:Value→Shared→Prop),tn i s.heap→Q (.ref it) s→wpAny (model P w) A (pyIter (.ref it)) Q E s
noncomputable abbrev TI:=St→Hp→(It→Hp→Prop)→Prop
noncomputable def PIE (X:Cx)(pins:List (Addr×Obj))(σ:St)(tg:Expr)(R:It→Hp→Prop)(itv:Value)(s2:Shared):Prop:=
 ∃(it:Addr) (fp:List Addr) (tn:Nat→Heap→Prop) (J:It) (H':Hp),itv=.ref it∧Inv X pins σ H' s2∧Turn X.prog X.w X.K tg J fp it tn∧tn 0 s2.heap∧(∀b∈fp,FpOk X pins H' b)∧R J H'
noncomputable def PI (X:Cx)(tg iter:Expr)(wi:TI):Prop:=
 ∀(pins:List (Addr×Obj)) (s:Shared) (σ:St) (H:Hp) (R:It→Hp→Prop),Inv X pins σ H s→wi σ H R→
  wpAny (model X.prog X.w) X.A (eval iter X.env) (fun v s1=>wpAny (model X.prog X.w) X.A (pyIter v) (PIE X pins σ tg R) X.xe s1) X.xe s

theorem qOc {M:Model}{A:Around}{E:Value→Shared→Prop}{s:Shared}{tg:Expr}{it:Addr}{u:Value}{o:Obj}{n:String}{vs:Array Value}{Q:Unit→Shared→Prop}(ho:s.heap.get? it=some o)(hc:o.cls=.type n)(hd:o.data=.fields vs)
  (hn:["enumerate","zip","dict_itemiterator","dict_reverseitemiterator","odict_iterator","itertools.zip_longest","itertools.pairwise"].contains n=false) (hQ:Q () s):wpAny M A (letOwnedTupleGo tg (.ref it) u) Q E s:=by
 unfold letOwnedTupleGo
 cases tg <;> first
  | exact wpAny_pure hQ
  | (cases u <;> first
    | exact wpAny_pure hQ
    | (refine wpAny_bind (wpAny_load ho ?_)
       rw[hc,hd]
       show wpAny M A (if (["enumerate","zip","dict_itemiterator","dict_reverseitemiterator","odict_iterator","itertools.zip_longest","itertools.pairwise"].contains n && vs[0]? == some (rawInt _))=true then _ else _) Q E s
       rw[if_neg (by intro h;rw[hn,Bool.false_and] at h;cases h)]
       exact wpAny_pure hQ))

noncomputable def Itl (K:PySem.W.Frag)(a:Addr):It:=
 ⟨fun i H=>∃xs x,SqL K H a xs∧xs[i]? = some x,fun i H x H'=>H'=H∧∀xs,SqL K H a xs→xs[i]? = some x,fun i H=>∃xs,SqL K H a xs∧xs.length≤i⟩
noncomputable def Itt (K:PySem.W.Frag)(a:Addr):It:=
 ⟨fun i H=>∃xs x,SqT K H a xs∧xs[i]? = some x,fun i H x H'=>H'=H∧∀xs,SqT K H a xs→xs[i]? = some x,fun i H=>∃xs,SqT K H a xs∧xs.length≤i⟩
noncomputable def Itr (lo:Int)(n:Nat):It:=⟨fun i _=>i<n,fun i H x H'=>H'=H∧x=.int (lo+i),fun i _=>n≤i⟩
theorem qCq {P:Program}{w:World}{K:PySem.W.Frag}{tg:Expr}(a it:Addr):Turn P w K tg (Itl K a) [it] it (fun i h=>h.IsListIter it a i) where
 mem:=by simp
 obj:=fun i h st b hb=>by
  have e:b=it:=by simpa using hb
  subst e
  obtain⟨o,e,c,d⟩:=st
  exact⟨o,e,fun v z=>by rw[d] at z;cases z⟩
 keep:=fun i h h' st k=>st.at fun o e=>k it (by simp) o e
 item:=by
  intro X hP hw hK hc i pins s σ H E I hf st hg
  subst hP hw hK
  obtain⟨xs,x,hq,hx⟩:=hg
  obtain⟨its,rv,p,hz⟩:=I.list hq
  obtain⟨u,hu,ru⟩:=rv.get hx
  obtain⟨f0,f1,f2,f3,f4,f5⟩:=hf it (by simp)
  refine wpAny_pyNext_list_item st p.isList (x:=u) (by simpa using hu) fun h' st' sb=>?_
  have I1:Inv X pins σ H { s with heap:=h' }:=I.turned (t':=s.toks) (fun b o hb e=>(sb.2 b hb).trans e) f0 f1 f3 f4 f5
  obtain⟨o,e,c,d⟩:=id st'
  exact⟨u,rfl,qOc (s:={ s with heap:=h' }) e c d (by decide) ⟨x,H,I1,ru,⟨rfl,fun ys hy=>by rw[I.list_inj hy hq];exact hx⟩,st',fun b hb=>(hf b hb).1⟩⟩
 done:=by
  intro X hP hw hK hc i pins s σ H E I hf st hg
  subst hP hw hK
  obtain⟨xs,hq,hx⟩:=hg
  obtain⟨its,rv,p,hz⟩:=I.list hq
  obtain⟨f0,f1,f2,f3,f4,f5⟩:=hf it (by simp)
  have hl:=rv.length
  exact wpAny_pyNext_list_end (I.ok.hd hc) st p.isList (by simp;omega) fun h' eb=>⟨rfl,I.turned (t':=s.toks) (fun b o hb e=>eb b o hb e) f0 f1 f3 f4 f5⟩
 self:=fun _ _ _ _ _ st h=>wpAny_pyIter_listiter st h
theorem qAf {P:Program}{w:World}{K:PySem.W.Frag}{tg:Expr}(a it:Addr):Turn P w K tg (Itt K a) [it] it (fun i h=>h.IsTupleIter it a i) where
 mem:=by simp
 obj:=fun i h st b hb=>by
  have e:b=it:=by simpa using hb
  subst e
  obtain⟨o,e,c,d⟩:=st
  exact⟨o,e,fun v z=>by rw[d] at z;cases z⟩
 keep:=fun i h h' st k=>st.at fun o e=>k it (by simp) o e
 item:=by
  intro X hP hw hK hc i pins s σ H E I hf st hg
  subst hP hw hK
  obtain⟨xs,x,hq,hx⟩:=hg
  obtain⟨its,rv,p,hz⟩:=I.tuple hq
  obtain⟨u,hu,ru⟩:=rv.get hx
  obtain⟨f0,f1,f2,f3,f4,f5⟩:=hf it (by simp)
  refine wpAny_pyNext_tuple_item st (show s.heap.IsTuple a its.toArray from p) (x:=u) (by simpa using hu) fun h' st' sb=>?_
  have I1:Inv X pins σ H { s with heap:=h' }:=I.turned (t':=s.toks) (fun b o hb e=>(sb.2 b hb).trans e) f0 f1 f3 f4 f5
  obtain⟨o,e,c,d⟩:=id st'
  exact⟨u,rfl,qOc (s:={ s with heap:=h' }) e c d (by decide) ⟨x,H,I1,ru,⟨rfl,fun ys hy=>by rw[I.tuple_inj hy hq];exact hx⟩,st',fun b hb=>(hf b hb).1⟩⟩
 done:=by
  intro X hP hw hK hc i pins s σ H E I hf st hg
  subst hP hw hK
  obtain⟨xs,hq,hx⟩:=hg
  obtain⟨its,rv,p,hz⟩:=I.tuple hq
  obtain⟨f0,f1,f2,f3,f4,f5⟩:=hf it (by simp)
  have hl:=rv.length
  exact wpAny_pyNext_tuple_end (I.ok.hd hc) st (show s.heap.IsTuple a its.toArray from p) (by simp;omega) fun h' eb=>⟨rfl,I.turned (t':=s.toks) (fun b o hb e=>eb b o hb e) f0 f1 f3 f4 f5⟩
 self:=fun _ _ _ _ _ st h=>wpAny_pyIter_tupleiter st h
theorem qAg {P:Program}{w:World}{K:PySem.W.Frag}{tg:Expr}(it:Addr)(lo:Int)(n:Nat):Turn P w K tg (Itr lo n) [it] it (fun i h=>IsRangeIter h it (lo+(i:Nat) * 1) ((n:Int) - (i:Nat)) 1) where
 mem:=by simp
 obj:=fun i h st b hb=>by
  have e:b=it:=by simpa using hb
  subst e
  exact⟨_,st,fun v z=>by
   have z':Data.fields _=Data.cell v:=z
   cases z'⟩
 keep:=fun i h h' st k=>k it (by simp) _ st
 item:=by
  intro X hP hw hK hc i pins s σ H E I hf st hg
  subst hP hw hK
  obtain⟨f0,f1,f2,f3,f4,f5⟩:=hf it (by simp)
  have W:=Walks.range (prog:=X.prog) (w:=X.w) (I.ok.hd hc) it lo 1 n
  refine W.item i s _ _ hg st fun v h' tk hv st' kk=>?_
  obtain⟨t,rfl⟩:=hv
  have I1:Inv X pins σ H { s with heap:=h',toks:=tk }:=I.turned (fun b o hb e=>kk b o (by simpa using hb) e) f0 f1 f3 f4 f5
  refine⟨_,rfl,qOc (s:={ s with heap:=h',toks:=tk }) (n := "range_iterator") st' rfl rfl (by decide) ⟨.int (lo+i),H,I1,⟨t,?_⟩,⟨rfl,rfl⟩,st',fun b hb=>(hf b hb).1⟩⟩
  rw[Int.mul_one]
 done:=by
  intro X hP hw hK hc i pins s σ H E I hf st hg
  subst hP hw hK
  obtain⟨f0,f1,f2,f3,f4,f5⟩:=hf it (by simp)
  exact wpAny_pyNext_range_end (I.ok.hd hc) st (by have:n≤i:=hg;omega) fun h' eb=>⟨rfl,I.turned (t':=s.toks) (fun b o hb e=>eb b o hb e) f0 f1 f3 f4 f5⟩
 self:=fun _ _ _ _ _ st h=>wpAny_pyIter_rangeiter st h
end L2

namespace L2
open PySem PySem.Spec PyProof.Rows
section
variable {X:Cx}{tg:Expr}
noncomputable def iList (K:PySem.W.Frag)(tl:TE):TI:=fun σ H R=>tl σ H fun x H1=>∃a,x=.ref a∧(∃xs,SqL K H1 a xs)∧R (Itl K a) H1
noncomputable def iTup (K:PySem.W.Frag)(tl:TE):TI:=fun σ H R=>tl σ H fun x H1=>∃a,x=.ref a∧(∃xs,SqT K H1 a xs)∧R (Itt K a) H1
theorem qCl {l:Expr}{tl:TE}(hl:PE X l tl):PI X tg l (iList X.K tl):=by
 intro pins s σ H R I h
 refine thn (hl pins s σ H _ I h) fun v s1 ⟨x,H1,I1,r1,q1⟩=>?_
 obtain⟨a,e,⟨xs,hq⟩,q⟩:=q1
 subst e
 cases r1
 obtain⟨its,rv,p,hz⟩:=I1.list hq
 refine wpAny_pyIter_list p.isList ?_
 refine⟨s1.heap.objs.size,[s1.heap.objs.size],_,_,H1,rfl,I1.kept (t':=s1.toks) fun b o e=>Heap.get?_push_of_some _ e,qCq a _,⟨_,Heap.get?_push_size _ rfl,rfl,rfl⟩,fun b hb=>?_,q⟩
 have e:b=s1.heap.objs.size:=by simpa using hb
 subst e
 exact I1.fpOk (Nat.le_refl _) (I1.hok.fresh (Nat.le_refl _))
theorem qRv {l:Expr}{tl:TE}(hl:PE X l tl):PI X tg l (iTup X.K tl):=by
 intro pins s σ H R I h
 refine thn (hl pins s σ H _ I h) fun v s1 ⟨x,H1,I1,r1,q1⟩=>?_
 obtain⟨a,e,⟨xs,hq⟩,q⟩:=q1
 subst e
 cases r1
 obtain⟨its,rv,p,hz⟩:=I1.tuple hq
 refine wpAny_pyIter_tuple (show s1.heap.IsTuple a its.toArray from p) ?_
 refine⟨s1.heap.objs.size,[s1.heap.objs.size],_,_,H1,rfl,I1.kept (t':=s1.toks) fun b o e=>Heap.get?_push_of_some _ e,qAf a _,⟨_,Heap.get?_push_size _ rfl,rfl,rfl⟩,fun b hb=>?_,q⟩
 have e:b=s1.heap.objs.size:=by simpa using hb
 subst e
 exact I1.fpOk (Nat.le_refl _) (I1.hok.fresh (Nat.le_refl _))
theorem qGm {pins:List (Addr×Obj)}{σ:St}{H:Hp}{s:Shared}{R:It→Hp→Prop}{E:Value→Shared→Prop}{lo hi:Int}{t u v:Tok}{tk:Nat}(I:Inv X pins σ H s)(h1 : -(2 ^ 62)≤lo)(h2:lo<2 ^ 62)(h3 : -(2 ^ 62)≤hi)(h4:hi<2 ^ 62)
  (q:R (Itr lo (hi - lo).toNat) H):wpAny (model X.prog X.w) X.A (pyIter (.ref s.heap.objs.size)) (PIE X pins σ tg R) E { s with heap:=s.heap.push { cls:=.type "range",data:=.fields #[.int lo t,.int hi u,.int 1 v] },toks:=tk }:=by
 refine wpAny_pyIter_range (IsRange.new ..) (small_one h1 h2 h3 h4) ?_
 have I1:Inv X pins σ H { s with heap:=s.heap.push { cls:=.type "range",data:=.fields #[.int lo t,.int hi u,.int 1 v] },toks:=tk }:=I.kept fun b o e=>Heap.get?_push_of_some _ e
 refine⟨(s.heap.push { cls:=.type "range",data:=.fields #[.int lo t,.int hi u,.int 1 v] }).objs.size,[(s.heap.push { cls:=.type "range",data:=.fields #[.int lo t,.int hi u,.int 1 v] }).objs.size],_,_,H,rfl,
  I1.kept (t':=tk) fun b o e=>Heap.get?_push_of_some _ e,qAg _ lo (hi - lo).toNat,?_,fun b hb=>?_,q⟩
 ·have e1:lo+((0:Nat):Int) * 1=lo:=by simp
  have e2:(((hi - lo).toNat:Nat):Int) - ((0:Nat):Int)=Builtin.Range.rangeSize lo hi 1:=by rw[rangeSize_one];split <;> omega
  show IsRangeIter _ _ (lo+((0:Nat):Int) * 1) ((((hi - lo).toNat:Nat):Int) - ((0:Nat):Int)) 1
  rw[e1,e2]
  exact Heap.get?_push_size _ rfl
 ·have e:b=(s.heap.push { cls:=.type "range",data:=.fields #[.int lo t,.int hi u,.int 1 v] }).objs.size:=by simpa using hb
  subst e
  exact I1.fpOk (Nat.le_refl _) (I1.hok.fresh (Nat.le_refl _))
noncomputable def iRng1 (ta:TA):TI:=fun σ H R=>ta σ H fun vs H1=>∃j:Int,vs=[.int j]∧-(2 ^ 62)≤j∧j<2 ^ 62∧R (Itr 0 j.toNat) H1
theorem zT {a:Expr}{ta:TA}{p pos:Pos}(hg:Gl X "range")(hm:X.mg "range" = none)(ha:PA X [a] ta)(hs:starEach [a] X.env=[(false,eval a X.env)]:=by rfl):PI X tg (.Call (.Name "range" p) [a] [] pos) (iRng1 ta):=by
 intro pins s σ H R I h
 refine Call_ (qXm I hg hm boot_range (PyProof.Rows.callWith_type1 (thn (ha pos pins s σ H _ I h) fun us s1 ⟨vs,H1,I1,r1,q1⟩=>?_) hs rfl))
 obtain⟨j,e,q1,q2,q⟩:=q1
 subst e
 cases r1 with
 | cons r rr=>
  cases rr
  obtain⟨t,rfl⟩:=r
  exact call_range_1 (qGm I1 (by omega) (by omega) q1 q2 (by simpa using q))
noncomputable def tFor (wi:TI)(g:TG)(tb:TS):TS:=fun D σ H=>wi σ H fun J H1=>∃W:Nat→Nat→St→Hp→Prop,(∃m,W 0 m σ H1)∧∀i m σ H,W i m σ H→
 (J.stop i H∧D.nx σ H)∨(J.go i H∧∃N:St→Hp→Prop,(∀σ' H',N σ' H'→∃m',m'<m∧W (i+1) m' σ' H')∧∀x H',J.yld i H x H'→g x σ H' fun σ2 H2=>tb { D with nx:=N,ct:=N,bk:=D.nx } σ2 H2)
noncomputable def pinsAt (fp:List Addr)(h:Heap):List (Addr×Obj):=fp.filterMap fun b=>(h.get? b).map fun o=>(b,o)
theorem kP {fp:List Addr}{h:Heap}{b:Addr}{o:Obj}(hb:b∈fp)(e:h.get? b=some o):(b,o)∈pinsAt fp h:=List.mem_filterMap.mpr ⟨b,hb,by rw[e];rfl⟩
theorem qDd {fp:List Addr}{h:Heap}{p:Addr×Obj}(hp:p∈pinsAt fp h):p.1∈fp∧h.get? p.1=some p.2:=by
 obtain⟨b,hb,e⟩:=List.mem_filterMap.mp hp
 cases q:h.get? b with
 | none=>rw[q] at e;cases e
 | some o=>
  rw[q] at e
  have e':(b,o)=p:=Option.some.inj e
  subst e'
  exact⟨hb,q⟩
theorem Inv.pinned {pins:List (Addr×Obj)}{σ:St}{H:Hp}{s:Shared}{fp:List Addr}(I:Inv X pins σ H s)(hf:∀b∈fp,FpOk X pins H b)(ho:∀b∈fp,∃o,s.heap.get? b=some o∧∀v,o.data≠.cell v):Inv X (pins++pinsAt fp s.heap) σ H s:=
 I.pins_of fun p hp=>(List.mem_append.mp hp).elim (fun z=>I.pin p (List.mem_append_right _ z)) fun z=>by
  obtain⟨hb,e⟩:=qDd z
  obtain⟨f0,f1,f2,_⟩:=hf p.1 hb
  obtain⟨o,e',d⟩:=ho p.1 hb
  rw[e] at e';cases e'
  exact⟨e,f0,f1,f2,d⟩
theorem Inv.unpinned {pins pl:List (Addr×Obj)}{σ:St}{H:Hp}{s:Shared}(I:Inv X (pins++pl) σ H s):Inv X pins σ H s:=I.pins_of fun p hp=>I.pin p (List.mem_append_right _ (List.mem_append_left _ hp))
theorem zE {iter:Expr}{body:List Stmt}{wi:TI}{g:TG}{tb:TS}{pos:Pos}(hp:PassesOwn (model X.prog X.w) X.A X.env X.xe)(hc:X.calm=true)(hi:PI X tg iter wi)(hg:PG X tg g)(hb:PSs X body tb)
  (hs:∀x,foldedSetIterable iter X.env x=pure x:=by intro _;rfl):PS X (.For tg iter body [] pos) (tFor wi g tb):=by
 intro pins s σ H D I h
 refine wpAny_For (thn (hi pins s σ H _ I h) fun v s1 h1=>thn h1 fun itv s2 h2=>?_) hs
 obtain⟨it,fp,tn,J,H2,e,I2,T,st2,f2,W,⟨m0,w0⟩,turn⟩:=h2
 subst e
 have stat:∀{H':Hp},(∀b∈fp,H' b=none)→∀b∈fp,FpOk X pins H' b:=fun hn b hb=>⟨hn b hb,(f2 b hb).2⟩
 refine codeAny_forLoop_any (fun n s'=>∃i σ' H',Inv X pins σ' H' s'∧tn i s'.heap∧(∀b∈fp,H' b=none)∧W i n σ' H') ?_ m0 ⟨0,σ,H2,I2,st2,fun b hb=>(f2 b hb).1,w0⟩
 rintro n s3 ⟨i,σ3,H3,I3,st3,fr3,w3⟩
 rcases turn i n σ3 H3 w3 with⟨stop,qn⟩ | ⟨go,N,hN,step⟩
 ·refine wpAny_passesOwn hp (thn (T.done X rfl rfl rfl hc i pins s3 σ3 H3 X.xe I3 (stat fr3) st3 stop) fun r s4 ⟨hr,I4⟩=>?_)
  subst hr
  exact wpAny_execs_nil ⟨σ3,H3,I4,qn⟩
 ·refine wpAny_passesOwn hp (thn (T.item X rfl rfl rfl hc i pins s3 σ3 H3 X.xe I3 (stat fr3) st3 go) fun r s4 ⟨u,hr,h4⟩=>?_)
  subst hr
  refine wpAny_passesOwn hp (thn h4 fun _ s5 ⟨x,H5,I5,r5,y5,st5,fr5⟩=>?_)
  have I5':=I5.pinned (stat fr5) (T.obj _ _ st5)
  refine wpAny_passesOwn hp (thn (hg _ s5 σ3 H5 x u _ I5' r5 (step x H5 y5)) fun _ s6 ⟨σ6,H6,I6,q6⟩=>?_)
  refine wpAny_passesOwn hp (thn (hb _ s6 σ6 H6 _ I6 q6) fun f s7 q7=>?_)
  have again:∀{σ7:St} {H7:Hp},Inv X (pins++pinsAt fp s5.heap) σ7 H7 s7→N σ7 H7→∃m,m<n∧∃i σ' H',Inv X pins σ' H' s7∧tn i s7.heap∧(∀b∈fp,H' b=none)∧W i m σ' H':=fun{σ7 H7} I7 n7=>by
   obtain⟨m',hm,w7⟩:=hN σ7 H7 n7
   refine⟨m',hm,i+1,σ7,H7,I7.unpinned,T.keep _ _ _ st5 fun b hb o e=>(I7.pin (b,o) (List.mem_append_right _ (List.mem_append_right _ (kP hb e)))).1,fun b hb=>?_,w7⟩
   obtain⟨o,e,d⟩:=T.obj _ _ st5 b hb
   exact(I7.pin (b,o) (List.mem_append_right _ (List.mem_append_right _ (kP hb e)))).2.1
  cases f with
  | next=>obtain⟨σ7,H7,I7,n7⟩:=q7;exact again I7 n7
  | cont=>obtain⟨σ7,H7,I7,n7⟩:=q7;exact again I7 n7
  | brk=>obtain⟨σ7,H7,I7,q7⟩:=q7;exact⟨σ7,H7,I7.unpinned,q7⟩
  | ret v=>obtain⟨x7,σ7,H7,I7,r7,q7⟩:=q7;exact⟨x7,σ7,H7,I7.unpinned,r7,q7⟩
end

theorem qJj {K:PySem.W.Frag}{a:Addr}{xs:List V}{g:TG}{tb:TS}{D:Ends}{σ:St}{H:Hp}(Pv:Nat→St→Hp→Prop)(h0:Pv 0 σ H)(hl:∀i σ H,i≤xs.length→Pv i σ H→SqL K H a xs)
  (hs:∀i x σ H,xs[i]? = some x→Pv i σ H→g x σ H fun σ2 H2=>tb { D with nx:=Pv (i+1),ct:=Pv (i+1),bk:=D.nx } σ2 H2) (hd:∀σ H,Pv xs.length σ H→D.nx σ H):
  ∃W:Nat→Nat→St→Hp→Prop,(∃m,W 0 m σ H)∧∀i m σ H,W i m σ H→
   ((Itl K a).stop i H∧D.nx σ H)∨((Itl K a).go i H∧∃N:St→Hp→Prop,(∀σ' H',N σ' H'→∃m',m'<m∧W (i+1) m' σ' H')∧∀x H',(Itl K a).yld i H x H'→g x σ H' fun σ2 H2=>tb { D with nx:=N,ct:=N,bk:=D.nx } σ2 H2):=by
 refine⟨fun i m σ H=>m=xs.length - i∧i≤xs.length∧Pv i σ H,⟨xs.length,by simp,Nat.zero_le _,h0⟩,?_⟩
 rintro i m σ H ⟨rfl,hi,p⟩
 have q:=hl i σ H hi p
 by_cases hlt:i<xs.length
 ·refine .inr ⟨⟨xs,xs[i],q,by simp[hlt]⟩,Pv (i+1),fun σ' H' p'=>⟨xs.length - (i+1),by omega,rfl,hlt,p'⟩,fun x H' y=>?_⟩
  obtain⟨e,y⟩:=y
  subst e
  exact hs i x σ _ (y xs q) p
 ·have e:i=xs.length:=by omega
  subst e
  exact .inl ⟨⟨xs,q,Nat.le_refl _⟩,hd σ H p⟩
theorem qEl {K:PySem.W.Frag}{a:Addr}{xs:List V}{g:TG}{tb:TS}{D:Ends}{σ:St}{H:Hp}(Pv:Nat→St→Hp→Prop)(h0:Pv 0 σ H)(hl:∀i σ H,i≤xs.length→Pv i σ H→SqT K H a xs)
  (hs:∀i x σ H,xs[i]? = some x→Pv i σ H→g x σ H fun σ2 H2=>tb { D with nx:=Pv (i+1),ct:=Pv (i+1),bk:=D.nx } σ2 H2) (hd:∀σ H,Pv xs.length σ H→D.nx σ H):
  ∃W:Nat→Nat→St→Hp→Prop,(∃m,W 0 m σ H)∧∀i m σ H,W i m σ H→
   ((Itt K a).stop i H∧D.nx σ H)∨((Itt K a).go i H∧∃N:St→Hp→Prop,(∀σ' H',N σ' H'→∃m',m'<m∧W (i+1) m' σ' H')∧∀x H',(Itt K a).yld i H x H'→g x σ H' fun σ2 H2=>tb { D with nx:=N,ct:=N,bk:=D.nx } σ2 H2):=by
 refine⟨fun i m σ H=>m=xs.length - i∧i≤xs.length∧Pv i σ H,⟨xs.length,by simp,Nat.zero_le _,h0⟩,?_⟩
 rintro i m σ H ⟨rfl,hi,p⟩
 have q:=hl i σ H hi p
 by_cases hlt:i<xs.length
 ·refine .inr ⟨⟨xs,xs[i],q,by simp[hlt]⟩,Pv (i+1),fun σ' H' p'=>⟨xs.length - (i+1),by omega,rfl,hlt,p'⟩,fun x H' y=>?_⟩
  obtain⟨e,y⟩:=y
  subst e
  exact hs i x σ _ (y xs q) p
 ·have e:i=xs.length:=by omega
  subst e
  exact .inl ⟨⟨xs,q,Nat.le_refl _⟩,hd σ H p⟩
theorem qYe {lo:Int}{n:Nat}{g:TG}{tb:TS}{D:Ends}{σ:St}{H:Hp}(Pv:Nat→St→Hp→Prop)(h0:Pv 0 σ H)
  (hs:∀i σ H,i<n→Pv i σ H→g (.int (lo+i)) σ H fun σ2 H2=>tb { D with nx:=Pv (i+1),ct:=Pv (i+1),bk:=D.nx } σ2 H2) (hd:∀σ H,Pv n σ H→D.nx σ H):
  ∃W:Nat→Nat→St→Hp→Prop,(∃m,W 0 m σ H)∧∀i m σ H,W i m σ H→
   ((Itr lo n).stop i H∧D.nx σ H)∨((Itr lo n).go i H∧∃N:St→Hp→Prop,(∀σ' H',N σ' H'→∃m',m'<m∧W (i+1) m' σ' H')∧∀x H',(Itr lo n).yld i H x H'→g x σ H' fun σ2 H2=>tb { D with nx:=N,ct:=N,bk:=D.nx } σ2 H2):=by
 refine⟨fun i m σ H=>m=n - i∧i≤n∧Pv i σ H,⟨n,by simp,Nat.zero_le _,h0⟩,?_⟩
 rintro i m σ H ⟨rfl,hi,p⟩
 by_cases hlt:i<n
 ·refine .inr ⟨hlt,Pv (i+1),fun σ' H' p'=>⟨n - (i+1),by omega,rfl,hlt,p'⟩,fun x H' y=>?_⟩
  obtain⟨e,y⟩:=y
  subst e y
  exact hs i σ _ hlt p
 ·have e:i=n:=by omega
  subst e
  exact .inl ⟨Nat.le_refl _,hd σ H p⟩
end L2

namespace L2
open PySem PySem.Spec PyProof.Rows

noncomputable abbrev R2:=V→V→Hp→VK→Prop
noncomputable def OpR (X:Cx)(f:Value→Value→Sem Value)(r:R2):Prop:=
 ∀(pins:List (Addr×Obj)) (s:Shared) (σ:St) (H:Hp) (x y:V) (v u:Value) (Q:VK),Inv X pins σ H s→RelV x v→RelV y u→r x y H Q→
  wpAny (model X.prog X.w) X.A (f v u) (EP X pins σ Q) X.xe s
noncomputable def UnR (X:Cx)(f:Value→Sem Value)(r:V→Hp→VK→Prop):Prop:=
 ∀(pins:List (Addr×Obj)) (s:Shared) (σ:St) (H:Hp) (x:V) (v:Value) (Q:VK),Inv X pins σ H s→RelV x v→r x H Q→
  wpAny (model X.prog X.w) X.A (f v) (EP X pins σ Q) X.xe s
noncomputable def CallR (X:Cx)(f:Value)(r:List V→Hp→VK→Prop):Prop:=
 ∀(pins:List (Addr×Obj)) (s:Shared) (σ:St) (H:Hp) (xs:List V) (us:List Value) (Q:VK),Inv X pins σ H s→Vals xs us→r xs H Q→
  wpAny (model X.prog X.w) X.A (call f us) (EP X pins σ Q) X.xe s
noncomputable def tOp (r:R2)(ta tb:TE):TE:=fun σ H Q=>ta σ H fun x H1=>tb σ H1 fun y H2=>r x y H2 Q
noncomputable def tUn (r:V→Hp→VK→Prop)(ta:TE):TE:=fun σ H Q=>ta σ H fun x H1=>r x H1 Q
noncomputable def rI (C:Int→Int→Prop)(g:Int→Int→V):R2:=fun x y H Q=>∃i j,x=.int i∧y=.int j∧C i j∧Q (g i j) H
noncomputable def rI0 (g:Int→Int→V):R2:=fun x y H Q=>∃i j,x=.int i∧y=.int j∧Q (g i j) H
noncomputable def rU (g:Int→V):V→Hp→VK→Prop:=fun x H Q=>∃i,x=.int i∧Q (g i) H

section
variable {X:Cx}{a b c:Expr}{ta tb tc:TE}{pos:Pos}

theorem binT (ha:PE X a ta)(hb:PE X b tb){pins:List (Addr×Obj)}{s:Shared}{σ:St}{H:Hp}{R:V→V→Hp→Prop}(I:Inv X pins σ H s)
  (h:ta σ H fun x H1=>tb σ H1 fun y H2=>R x y H2) {Q:Value→Shared→Prop} {f:Value→Value→Sem Value}
  (hf:∀v u s2 x y H2,Inv X pins σ H2 s2→RelV x v→RelV y u→R x y H2→wpAny (model X.prog X.w) X.A (f v u) Q X.xe s2):
  wpAny (model X.prog X.w) X.A (eval a X.env) (fun v s₁=>wpAny (model X.prog X.w) X.A (eval b X.env) (fun u s₂=>wpAny (model X.prog X.w) X.A (f v u) Q X.xe s₂) X.xe s₁) X.xe s:=by
 refine thn (ha pins s σ H _ I h) fun v s1 ⟨x,H1,I1,r1,q1⟩=>?_
 refine thn (hb pins s1 σ H1 _ I1 q1) fun u s2 ⟨y,H2,I2,r2,q2⟩=>?_
 exact hf v u s2 x y H2 I2 r1 r2 q2

theorem xQ {op:Operator}{r:R2}(ho:OpR X (binaryOp op) r)(ha:PE X a ta)(hb:PE X b tb):PE X (.BinOp a op b pos) (tOp r ta tb):=by
 intro pins s σ H Q I h
 exact wpAny_BinOp (binT ha hb I h fun v u s2 x y H2 I2 rx ry q=>ho pins s2 σ H2 x y v u Q I2 rx ry q)
theorem qTh {op:UnaryOp}{r:V→Hp→VK→Prop}(ho:UnR X (unaryOp op) r)(ha:PE X a ta):PE X (.UnaryOp op a pos) (tUn r ta):=by
 intro pins s σ H Q I h
 exact UnaryOp_ (thn (ha pins s σ H _ I h) fun v s1 ⟨x,H1,I1,r1,q1⟩=>ho pins s1 σ H1 x v Q I1 r1 q1)
theorem opI {f:Value→Value→Sem Value}{C:Int→Int→Prop}{g:Int→Int→Int}
  (rule:∀(i j:Int) (t u:Tok) (s:Shared) (Q:Value→Shared→Prop) (E:Value→Shared→Prop),C i j→Q (.int (g i j) s.toks) { s with toks:=s.toks+1 }→wpAny (model X.prog X.w) X.A (f (.int i t) (.int j u)) Q E s):
  OpR X f (rI C fun i j=>.int (g i j)):=by
 intro pins s σ H x y v u Q I rx ry h
 obtain⟨i,j,rfl,rfl,hc,q⟩:=h
 obtain⟨t,rfl⟩:=rx
 obtain⟨t',rfl⟩:=ry
 exact rule i j t t' s _ _ hc ⟨.int (g i j),H,I.tok _,⟨_,rfl⟩,q⟩
theorem opI0 {f:Value→Value→Sem Value}{g:Int→Int→Int}
  (rule:∀(i j:Int) (t u:Tok) (s:Shared) (Q:Value→Shared→Prop) (E:Value→Shared→Prop),Q (.int (g i j) s.toks) { s with toks:=s.toks+1 }→wpAny (model X.prog X.w) X.A (f (.int i t) (.int j u)) Q E s):
  OpR X f (rI0 fun i j=>.int (g i j)):=by
 intro pins s σ H x y v u Q I rx ry h
 obtain⟨i,j,rfl,rfl,q⟩:=h
 obtain⟨t,rfl⟩:=rx
 obtain⟨t',rfl⟩:=ry
 exact rule i j t t' s _ _ ⟨.int (g i j),H,I.tok _,⟨_,rfl⟩,q⟩
theorem opB0 {f:Value→Value→Sem Value}{g:Int→Int→Bool}
  (rule:∀(i j:Int) (t u:Tok) (s:Shared) (Q:Value→Shared→Prop) (E:Value→Shared→Prop),Q (.bool (g i j)) s→wpAny (model X.prog X.w) X.A (f (.int i t) (.int j u)) Q E s):
  OpR X f (rI0 fun i j=>.bl (g i j)):=by
 intro pins s σ H x y v u Q I rx ry h
 obtain⟨i,j,rfl,rfl,q⟩:=h
 obtain⟨t,rfl⟩:=rx
 obtain⟨t',rfl⟩:=ry
 exact rule i j t t' s _ _ ⟨.bl (g i j),H,I,rfl,q⟩

noncomputable def CPow (i j:Int):Prop:=0≤j∧j≤1000000∧i.natAbs<2 ^ 64
theorem zO:OpR X (binaryOp .Add) (rI0 fun i j=>.int (i+j)):=opI0 fun _ _ _ _ _ _ _ q=>add_int q
theorem kB:OpR X (binaryOp .Sub) (rI0 fun i j=>.int (i - j)):=opI0 fun _ _ _ _ _ _ _ q=>sub_int q
theorem yW:OpR X (binaryOp .Mod) (rI (fun _ j=>0<j) fun i j=>.int (i % j)):=opI fun i j _ _ _ _ _ hc q=>by
 have h1:(0:Int)<j:=hc
 exact mod_int' (by omega) (by rw[Int.fmod_eq_emod_of_nonneg i (by omega)];exact q)
theorem yF:OpR X (binaryOp .Pow) (rI CPow fun i j=>.int (i ^ j.toNat)):=opI fun _ _ _ _ _ _ _ hc q=>pow_int_small hc.1 hc.2.1 hc.2.2 q
theorem unI {f:Value→Sem Value}{g:Int→Int}
  (rule:∀(i:Int) (t:Tok) (s:Shared) (Q:Value→Shared→Prop) (E:Value→Shared→Prop),Q (.int (g i) s.toks) { s with toks:=s.toks+1 }→wpAny (model X.prog X.w) X.A (f (.int i t)) Q E s):
  UnR X f (rU fun i=>.int (g i)):=by
 intro pins s σ H x v Q I rx h
 obtain⟨i,rfl,q⟩:=h
 obtain⟨t,rfl⟩:=rx
 exact rule i t s _ _ ⟨.int (g i),H,I.tok _,⟨_,rfl⟩,q⟩
theorem qPo:UnR X (unaryOp .USub) (rU fun i=>.int (-i)):=unI fun _ _ _ _ _ q=>neg_int q
end

noncomputable def scal:V→V→Bool
 | .non,.non=>true | .non,.int _=>true | .int _,.non=>true | .non,.bl _=>true | .bl _,.non=>true | .non,.str _=>true | .str _,.non=>true
 | .int _,.int _=>true | .bl _,.bl _=>true | .str _,.str _=>true | .byt _,.byt _=>true
 | .int _,.str _=>true | .str _,.int _=>true | .bl _,.str _=>true | .str _,.bl _=>true
 | _,_=>false
noncomputable def rEq:R2:=fun x y H Q=>scal x y=true∧Q (.bl (decide (x=y))) H
noncomputable def rNe:R2:=fun x y H Q=>scal x y=true∧Q (.bl (!decide (x=y))) H

theorem qFc {i j:Int}:decide (V.int i=V.int j)=(i == j):=by
 rw[Bool.eq_iff_iff]
 simp
theorem qMb {i j:Bool}:decide (V.bl i=V.bl j)=(i == j):=by
 rw[Bool.eq_iff_iff]
 simp
theorem qFb {i j:Str}:decide (V.str i=V.str j)=(i == j):=by
 rw[Bool.eq_iff_iff]
 simp
theorem qFd {i j:Array UInt8}:decide (V.byt i=V.byt j)=(i.toList == j.toList):=by
 rw[Bool.eq_iff_iff]
 cases i
 cases j
 simp

section
variable {X:Cx}{a b c:Expr}{ta tb tc:TE}{pos:Pos}
theorem zW {pins:List (Addr×Obj)}{σ:St}{H:Hp}{s:Shared}{Q:VK}{k k':Bool}(I:Inv X pins σ H s)(q:Q (.bl k) H)(e:k=k'):EP X pins σ Q (.bool k') s:=by
 subst e
 exact⟨.bl k,H,I,rfl,q⟩
theorem jQ:OpR X (compareOp .Eq) rEq:=by
 intro pins s σ H x y v u Q I rx ry h
 obtain⟨hs,q⟩:=h
 cases x with
 | non=>
  cases rx
  cases y with
  | non=>cases ry;exact PySem.EqNone.eq_none_none (zW I q (by simp))
  | bl j=>cases ry;exact PySem.EqNone.eq_none_bool (zW I q (by simp))
  | int j=>obtain⟨t',rfl⟩:=ry;exact PySem.EqNone.eq_none_int (zW I q (by simp))
  | str j=>obtain⟨t',rfl⟩:=ry;exact PySem.EqNone.eq_none_str (zW I q (by simp))
  | _=>exact absurd (show false=true from hs) Bool.false_ne_true
 | bl i=>
  cases rx
  cases y with
  | non=>cases ry;exact PySem.EqNone.eq_bool_none (zW I q (by simp))
  | bl j=>cases ry;exact eq_bool (zW I q qMb)
  | str j=>obtain⟨t',rfl⟩:=ry;exact PySem.EqMixed.eq_bool_str (zW I q (by simp))
  | _=>exact absurd (show false=true from hs) Bool.false_ne_true
 | int i=>
  obtain⟨t,rfl⟩:=rx
  cases y with
  | non=>cases ry;exact PySem.EqNone.eq_int_none (zW I q (by simp))
  | int j=>obtain⟨t',rfl⟩:=ry;exact eq_int (zW I q qFc)
  | str j=>obtain⟨t',rfl⟩:=ry;exact PySem.EqMixed.eq_int_str (zW I q (by simp))
  | _=>exact absurd (show false=true from hs) Bool.false_ne_true
 | str i=>
  obtain⟨t,rfl⟩:=rx
  cases y with
  | non=>cases ry;exact PySem.EqNone.eq_str_none (zW I q (by simp))
  | bl j=>cases ry;exact PySem.EqMixed.eq_str_bool (zW I q (by simp))
  | int j=>obtain⟨t',rfl⟩:=ry;exact PySem.EqMixed.eq_str_int (zW I q (by simp))
  | str j=>obtain⟨t',rfl⟩:=ry;exact eq_str (zW I q qFb)
  | _=>exact absurd (show false=true from hs) Bool.false_ne_true
 | byt i=>
  obtain⟨t,rfl⟩:=rx
  cases y with
  | byt j=>obtain⟨t',rfl⟩:=ry;exact PySem.W.eq_bytes (zW I q qFd)
  | _=>exact absurd (show false=true from hs) Bool.false_ne_true
 | _=>cases y <;> exact absurd (show false=true from hs) Bool.false_ne_true
theorem qRi:OpR X (compareOp .NotEq) rNe:=by
 intro pins s σ H x y v u Q I rx ry h
 obtain⟨hs,q⟩:=h
 cases x with
 | non=>
  cases rx
  cases y with
  | non=>cases ry;exact PySem.EqNone.ne_none_none (zW I q (by simp))
  | bl j=>cases ry;exact PySem.EqNone.ne_none_bool (zW I q (by simp))
  | int j=>obtain⟨t',rfl⟩:=ry;exact PySem.EqNone.ne_none_int (zW I q (by simp))
  | str j=>obtain⟨t',rfl⟩:=ry;exact PySem.EqNone.ne_none_str (zW I q (by simp))
  | _=>exact absurd (show false=true from hs) Bool.false_ne_true
 | bl i=>
  cases rx
  cases y with
  | non=>cases ry;exact PySem.EqNone.ne_bool_none (zW I q (by simp))
  | bl j=>cases ry;exact ne_bool (zW I q (congrArg not qMb))
  | str j=>obtain⟨t',rfl⟩:=ry;exact PySem.EqMixed.ne_bool_str (zW I q (by simp))
  | _=>exact absurd (show false=true from hs) Bool.false_ne_true
 | int i=>
  obtain⟨t,rfl⟩:=rx
  cases y with
  | non=>cases ry;exact PySem.EqNone.ne_int_none (zW I q (by simp))
  | int j=>obtain⟨t',rfl⟩:=ry;exact ne_int (zW I q (congrArg not qFc))
  | str j=>obtain⟨t',rfl⟩:=ry;exact PySem.EqMixed.ne_int_str (zW I q (by simp))
  | _=>exact absurd (show false=true from hs) Bool.false_ne_true
 | str i=>
  obtain⟨t,rfl⟩:=rx
  cases y with
  | non=>cases ry;exact PySem.EqNone.ne_str_none (zW I q (by simp))
  | bl j=>cases ry;exact PySem.EqMixed.ne_str_bool (zW I q (by simp))
  | int j=>obtain⟨t',rfl⟩:=ry;exact PySem.EqMixed.ne_str_int (zW I q (by simp))
  | str j=>obtain⟨t',rfl⟩:=ry;exact ne_str (zW I q (congrArg not qFb))
  | _=>exact absurd (show false=true from hs) Bool.false_ne_true
 | byt i=>
  obtain⟨t,rfl⟩:=rx
  cases y with
  | byt j=>obtain⟨t',rfl⟩:=ry;exact PySem.W.ne_bytes (zW I q (congrArg not qFd))
  | _=>exact absurd (show false=true from hs) Bool.false_ne_true
 | _=>cases y <;> exact absurd (show false=true from hs) Bool.false_ne_true

theorem qZn:OpR X (compareOp .Lt) (rI0 fun i j=>.bl (decide (i<j))):=opB0 fun _ _ _ _ _ _ _ q=>lt_int q
theorem qHx:OpR X (compareOp .Gt) (rI0 fun i j=>.bl (decide (j<i))):=opB0 fun _ _ _ _ _ _ _ q=>gt_int q
theorem qNg:OpR X (compareOp .GtE) (rI0 fun i j=>.bl (decide (j≤i))):=opB0 fun _ _ _ _ _ _ _ q=>ge_int q
theorem xD (b:Expr){op:CmpOp}(h:op≠.In:=by decide)(h2:op≠.NotIn:=by decide):behindInMarks op b=false:=by
 have e1:(op == CmpOp.In)=false:=by cases op <;> first | rfl | exact absurd rfl h
 have e2:(op == CmpOp.NotIn)=false:=by cases op <;> first | rfl | exact absurd rfl h2
 cases b <;> simp[behindInMarks,e1,e2]
theorem kA {op:CmpOp}{r:R2}(ho:OpR X (compareOp op) r)(ha:PE X a ta)(hb:PE X b tb)(hm:behindInMarks op b=false):PE X (.Compare a [op] [b] pos) (tOp r ta tb):=by
 intro pins s σ H Q I h
 exact wpAny_Compare1 (binT ha hb I h fun v u s2 x y H2 I2 rx ry q=>ho pins s2 σ H2 x y v u Q I2 rx ry q) hm
noncomputable def tTest (t:TE):TT:=fun σ H Q=>t σ H fun x H'=>∃k,x=.bl k∧Q k H'
theorem qR {op:CmpOp}{r:R2}(ho:OpR X (compareOp op) r)(ha:PE X a ta)(hb:PE X b tb)(hm:behindInMarks op b=false):PT X (.Compare a [op] [b] pos) (tTest (tOp r ta tb)):=by
 intro pins s σ H Q I h
 refine wpAny_isTrue_Compare1 (thn (ha pins s σ H _ I h) fun v s1 ⟨x,H1,I1,r1,q1⟩=>thn (hb pins s1 σ H1 _ I1 q1) fun u s2 ⟨y,H2,I2,r2,q2⟩=>
  thn (ho pins s2 σ H2 x y v u _ I2 r1 r2 q2) fun c s3 ⟨z,H3,I3,r3,k,e,q3⟩=>?_) hm
 subst e
 cases r3
 exact wpAny_truthy_bool ⟨H3,I3,q3⟩
theorem line63:(sizeLine:Nat)<2 ^ 63:=by rw[sizeLine_eq];decide
theorem xG:OpR X (binaryOp .Add) (fun x y H Q=>∃i j,x=.str i∧y=.str j∧i.length+j.length≤sizeLine∧Q (.str (i++j)) H):=by
 intro pins s σ H x y v u Q I rx ry h
 obtain⟨i,j,rfl,rfl,hz,q⟩:=h
 obtain⟨t,rfl⟩:=rx
 obtain⟨t',rfl⟩:=ry
 exact add_str (fun t' tk=>⟨.str (i++j),H,I.tok _,⟨_,rfl⟩,q⟩) hz
theorem vals1 {x:V}{us:List Value}(r:Vals [x] us):∃u,us=[u]∧RelV x u:=by
 cases r with
 | cons r1 r2=>cases r2;exact⟨_,rfl,r1⟩
theorem vals2 {x y:V}{us:List Value}(r:Vals [x,y] us):∃u w',us=[u,w']∧RelV x u∧RelV y w':=by
 cases r with
 | cons r1 r2=>
  cases r2 with
  | cons r3 r4=>cases r4;exact⟨_,_,rfl,r1,r3⟩
theorem qIb:CallR X (.builtin "abs") (fun xs H Q=>∃i,xs=[.int i]∧Q (.int (if i<0 then -i else i)) H):=by
 intro pins s σ H xs us Q I r h
 obtain⟨i,rfl,q⟩:=h
 obtain⟨u,rfl,t,rfl⟩:=vals1 r
 exact call_abs_int fun u tk=>⟨.int (if i<0 then -i else i),H,I.tok _,⟨_,rfl⟩,q⟩
theorem qFh (hc:X.calm=true):CallR X (.builtin "min") (fun xs H Q=>∃i j,xs=[.int i,.int j]∧Q (.int (if j<i then j else i)) H):=by
 intro pins s σ H xs us Q I r h
 obtain⟨i,j,rfl,q⟩:=h
 obtain⟨u,w',rfl,⟨t,rfl⟩,⟨t',rfl⟩⟩:=vals2 r
 refine min_two_ints (I.ok.hd hc) fun h' tk k=>⟨_,H,I.kept k,?_,q⟩
 by_cases hj:j<i
 ·rw[if_pos hj,if_pos hj];exact⟨_,rfl⟩
 ·rw[if_neg hj,if_neg hj];exact⟨_,rfl⟩
theorem qXq:CallR X (.type "int") (fun xs H Q=>(∃i,xs=[.int i]∧Q (.int i) H)∨∃k,xs=[.bl k]∧Q (.int (if k then 1 else 0)) H):=by
 intro pins s σ H xs us Q I r h
 rcases h with⟨i,rfl,q⟩ | ⟨k,rfl,q⟩
 ·obtain⟨u,rfl,t,rfl⟩:=vals1 r
  exact call_int_int ⟨.int i,H,I,⟨_,rfl⟩,q⟩
 ·obtain⟨u,rfl,r1⟩:=vals1 r
  cases r1
  exact call_int_bool ⟨.int (if k then 1 else 0),H,I.tok _,⟨_,rfl⟩,q⟩
theorem qYn:CallR X (.type "str") (fun xs H Q=>∃i,xs=[.int i]∧i.natAbs.log2<1920∧Q (.str (toString i)) H):=by
 intro pins s σ H xs us Q I r h
 obtain⟨i,rfl,hz,q⟩:=h
 obtain⟨u,rfl,t,rfl⟩:=vals1 r
 exact PySem.P.str_of_int hz ⟨.str _,H,I.tok _,⟨_,rfl⟩,q⟩
end
end L2

namespace L2
open PySem PySem.Spec PyProof.Rows

structure ObjM (h:Heap)(x dx C:Addr)(mA:Str→Option Value):Prop where
 obj:h.get? x=some (PySem.W.instObj C dx)
 ns:h.Ns1 dx mA
 ne:dx≠x

theorem qDo {h:Heap}{dx:Addr}{mA:Str→Option Value}(n:h.Ns1 dx mA):∃od,h.get? dx=some od∧∀name,PySem.W.lookIn name od=some (mA name):=by
 obtain⟨o,es,ep,ho,hd,hk,_,hm⟩:=n
 refine⟨o,ho,fun name=>?_⟩
 have e:=hm name
 unfold nsFind findBy at e
 rw[← Array.find?_toList] at e
 unfold PySem.W.lookIn
 rw[hd]
 dsimp only
 split
 ·rename_i y q
  rw[q] at e
  exact congrArg some e
 ·rename_i q
  rw[q] at e
  have a:es.toList.any (·.refKey)=false:=by
   rw[List.any_eq_false]
   intro y hy
   obtain⟨z,t,hkey⟩:=hk y (Array.mem_toList_iff.mp hy)
   simp[DictEntry.refKey,hkey]
  have a':¬es.toList.any (·.refKey)=true:=by rw[a];exact Bool.false_ne_true
  rw[if_neg a']
  exact congrArg some e

theorem ObjM.look {h:Heap}{x dx C:Addr}{mA:Str→Option Value}(I:ObjM h x dx C mA):∃od,PySem.W.InstAt h x (PySem.W.instObj C dx) C (some od)∧∀name,PySem.W.lookIn name od=some (mA name):=
 let ⟨od,ho,hl⟩:=qDo I.ns
 ⟨od,⟨I.obj,rfl,rfl,ho⟩,hl⟩

section
variable {prog:Program}{w:World}{A:Around}{E:Value→Shared→Prop}{s:Shared}{K:PySem.W.Frag}{x dx C f:Addr}{mA:Str→Option Value}{name:Str}{v:Value}

end

theorem RelO.some_of {v:V}{o:Option Value}(r:RelO (some v) o):∃u,o=some u∧RelV v u:=by
 cases o with
 | none=>exact(show False from r).elim
 | some u=>exact⟨u,rfl,r⟩
section
variable {P:Program}{w:World}{H H':Hp}{h h':Heap}{a C dx:Addr}{fs fs':List (Str×V)}
theorem qOa (hok:HOk P w H h)(e:H a=some (.ins C dx fs)):∃mA,ObjM h a dx C mA∧(∀f,RelO (fs.lookup f) (mA f))∧PySem.Within mA (fs.map (·.1))∧fs.length≤1000∧H dx=some (.own a):=by
 obtain⟨d,z,ne,ob,mA,n,r,q⟩:=(show ObjOk P w H h a (.ins C dx fs) from hok a _ e)
 exact⟨mA,⟨ob,n,ne⟩,r,q,z,d⟩
end

structure Cls (K:PySem.W.Frag)(C:Addr):Prop where
 pg:PySem.W.plainGet K C Str.empty=true
 hd:PySem.W.hasDictIn K C=true
 po:PySem.W.plainOver K C=true
 sa:PySem.W.findIn K (.ref C) "__setattr__" = some (some (.builtin "object.__setattr__"))
theorem Cls.get {K:PySem.W.Frag}{C:Addr}(c:Cls K C)(f:Str):PySem.W.plainGet K C f=true:=c.pg
section
variable {X:Cx}{pins:List (Addr×Obj)}{σ:St}{H:Hp}{s:Shared}{a C dx:Addr}{fs:List (Str×V)}{f:Str}{v:V}{A:Around}{E:Value→Shared→Prop}

end

section
variable {X:Cx}{o e value:Expr}{f:Str}{pos pos' tpos:Pos}{ta tv:TE}
end

section
variable {X:Cx}{pins:List (Addr×Obj)}{σ:St}{H:Hp}{s:Shared}{A:Around}{E:Value→Shared→Prop}{Q:Value→Shared→Prop}{c:Value}{b:Bool}
inductive TyOf (K:PySem.W.Frag)(H:Hp):V→Value→Prop where
 | non:TyOf K H .non (.type "NoneType")
 | bl (x:Bool):TyOf K H (.bl x) (.type "bool")
 | int (i:Int):TyOf K H (.int i) (.type "int")
 | str (x:Str):TyOf K H (.str x) (.type "str")
 | flt (x:UInt64):TyOf K H (.flt x) (.type "float")
 | lst {a:Addr} {xs:List V} (e:H a=some (.lst xs)):TyOf K H (.ref a) (.type "list")
 | frz {a:Addr} {o:Obj} {xs:List V} (e:H a=some (.frz o (.lst xs))):TyOf K H (.ref a) (.type "list")
 | tup {a:Addr} {xs:List V} (e:H a=some (.tup xs)):TyOf K H (.ref a) (.type "tuple")
 | dK {a:Addr} {kvs:List (Key×V)} (e:H a=some (.dK kvs)):TyOf K H (.ref a) (.type "dict")
 | dT {a:Addr} {kvs:List (List Key×V)} (e:H a=some (.dT kvs)):TyOf K H (.ref a) (.type "dict")
 | ins {a C dx:Addr} {fs:List (Str×V)} (e:H a=some (.ins C dx fs)) (cl:Cls K C) (ha:PySem.W.findIn K (.ref C) "__class__" = some (some (.builtin "object.__class__")))
   (hn:PySem.W.specialIn K (.builtin "object.__class__") "__get__" = some (some (.builtin "getset_descriptor.__get__"))) (htk:PySem.W.takesIn K (.builtin "object.__class__")=some true)
   (hm:PySem.W.mroIn K C (.type "object")=some true):TyOf K H (.ref a) (.ref C)
theorem qEe {x:V}{u t:Value}(I:Inv X pins σ H s)(rx:RelV x u)(ty:TyOf X.K H x t)(e:PySem.W.kitOne X.K t c=some b)(h:∀tk,Q (.bool b) { s with toks:=tk }):
  wpAny (model X.prog X.w) A (call (.builtin "isinstance") [u,c]) Q E s:=by
 cases ty with
 | non=>cases(show u=Value.none from rx);exact PySem.W.kia_one PySem.W.kitx_none I.kIn True.intro e (fun z=>nomatch z) h
 | bl y=>cases(show u=Value.bool y from rx);exact PySem.W.kia_one PySem.W.kitx_bool I.kIn True.intro e (fun z=>nomatch z) h
 | int i=>obtain⟨t,q⟩:=(show∃t,u=Value.int i t from rx);cases q;exact PySem.W.kia_one PySem.W.kitx_int I.kIn True.intro e (fun z=>nomatch z) h
 | str y=>obtain⟨t,q⟩:=(show∃t,u=Value.str y t from rx);cases q;exact PySem.W.kia_one PySem.W.kitx_str I.kIn True.intro e (fun z=>nomatch z) h
 | flt y=>obtain⟨t,q⟩:=(show∃t,u=Value.float y t from rx);cases q;exact PySem.W.kia_one PySem.W.kitx_float I.kIn True.intro e (fun z=>nomatch z) h
 | @lst a xs ea=>
  cases(show u=Value.ref a from rx)
  obtain⟨_,_,n,_,h1⟩:=(show ObjOk X.prog X.w H s.heap a (.lst xs) from I.hok a _ ea)
  exact PySem.W.kia_one PySem.W.kitx_list I.kIn ⟨_,h1,rfl⟩ e (fun z=>nomatch z) h
 | @frz a ob xs ea=>
  cases(show u=Value.ref a from rx)
  obtain⟨_,_,_,n,_,h1⟩:=(show ObjOk X.prog X.w H s.heap a (.frz ob (.lst xs)) from I.hok a _ ea)
  exact PySem.W.kia_one PySem.W.kitx_list I.kIn ⟨_,h1,rfl⟩ e (fun z=>nomatch z) h
 | @tup a xs ea=>
  cases(show u=Value.ref a from rx)
  obtain⟨_,_,_,p⟩:=(show ObjOk X.prog X.w H s.heap a (.tup xs) from I.hok a _ ea)
  obtain⟨o,h1,h2,_⟩:=p
  exact PySem.W.kia_one PySem.W.kitx_tuple I.kIn ⟨o,h1,h2⟩ e (fun z=>nomatch z) h
 | @dK a kvs ea=>
  cases(show u=Value.ref a from rx)
  obtain⟨_,_,vs,_,p⟩:=(show ObjOk X.prog X.w H s.heap a (.dK kvs) from I.hok a _ ea)
  obtain⟨o,es,ep,h1,h2,_⟩:=p
  exact PySem.W.kia_one PySem.W.kitx_dict I.kIn ⟨o,h1,h2.1⟩ e (fun z=>nomatch z) h
 | @dT a kvs ea=>
  cases(show u=Value.ref a from rx)
  obtain⟨_,_,xs,_,o,es,ep,h1,h2,_⟩:=(show ObjOk X.prog X.w H s.heap a (.dT kvs) from I.hok a _ ea)
  exact PySem.W.kia_one PySem.W.kitx_dict I.kIn ⟨o,h1,h2.1⟩ e (fun z=>nomatch z) h
 | @ins a C dx fs ea cl ha hn htk hm=>
  cases(show u=Value.ref a from rx)
  obtain⟨mA,O,_⟩:=qOa I.hok ea
  obtain⟨od,J,_⟩:=O.look
  exact PySem.W.kia_one (PySem.W.kitx_own (cl.get _) cl.hd ha hn htk hm) I.kIn J e (fun z=>nomatch z) h
end
end L2

namespace L2
open PySem PySem.Spec PyProof.Rows

structure Room (k:Nat)(A:Around):Prop where
 hd:A.handled=none
 dp:A.depth+3 * k+5<recursionLimit
 un:A.units+16 * k+200<cLine
theorem Room.mono {j k:Nat}{A:Around}(r:Room k A)(h:j≤k):Room j A:=⟨r.hd,by have:=r.dp;omega,by have:=r.un;omega⟩
theorem Room.deeper {k:Nat}{A:Around}(r:Room (k+1) A)(env:Env):Room k (A.deeper env):=
 ⟨r.hd,by have:=r.dp;show A.depth+1+3 * k+5<_;omega,by have:=r.un;show A.units+3+16 * k+200<_;omega⟩
theorem Room.depth {k:Nat}{A:Around}(r:Room k A):A.depth<recursionLimit:=by have:=r.dp;omega
theorem Room.units {k:Nat}{A:Around}(r:Room k A):A.units+64<cLine:=by have:=r.un;omega
noncomputable def tNil:TA:=fun _ H Q=>Q [] H
noncomputable def tCons (ta:TE)(tr:TA):TA:=fun σ H Q=>ta σ H fun x H1=>tr σ H1 fun xs H2=>Q (x::xs) H2
section
variable {X:Cx}{e:Expr}{es:List Expr}{te:TE}{t:TA}{pos:Pos}
theorem qX:PA X [] tNil:=fun _ _ _ _ H Q I h=>Calls.spliced_nil ⟨[],H,I,.nil,h⟩
theorem qQ (ha:PE X e te)(hr:PA X es t)(hs:starEach (e::es) X.env=(false,eval e X.env)::starEach es X.env:=by rfl):PA X (e::es) (tCons te t):=by
 intro pos pins s σ H Q I h
 rw[hs]
 show wpAny _ _ (spliced ((false,eval e X.env)::backTo pos (starEach es X.env))) _ _ s
 refine Calls.spliced_cons (thn (ha pins s σ H _ I h) fun u s1 ⟨x,H1,I1,r1,q1⟩=>?_)
 exact thn (hr pos pins s1 σ H1 _ I1 q1) fun us s2 ⟨xs,H2,I2,r2,q2⟩=>⟨x::xs,H2,I2,.cons r1 r2,q2⟩

noncomputable def tTup (t:TA):TE:=fun σ H Q=>t σ H fun xs H1=>xs.length≤sizeLine∧∀p,H1 p=none→Q (.ref p) (upd H1 p (.tup xs))
noncomputable def tLst (t:TA):TE:=fun σ H Q=>t σ H fun xs H1=>xs.length≤sizeLine∧∀p,H1 p=none→Q (.ref p) (upd H1 p (.lst xs))
theorem zJ {x1}(h:PA X es t):PE X (.Tuple es x1 pos) (tTup t):=by
 intro pins s σ H Q I hq
 refine wpAny_Tuple_spliced (thn (h pos pins s σ H _ I hq) fun us s1 ⟨xs,H1,I1,r,z,q⟩=>⟨by rw[← r.length];exact z,?_⟩)
 have hf:H1 s1.heap.objs.size=none:=I1.hok.fresh (Nat.le_refl _)
 refine⟨.ref s1.heap.objs.size,upd H1 s1.heap.objs.size (.tup xs),I1.laid (t':=s1.toks) (fun b u e=>Heap.get?_push_of_some _ e) (Nat.le_refl _) ?_,rfl,q _ hf⟩
 exact⟨z,us,r,⟨_,Heap.get?_push_size _ rfl,rfl,_,rfl,rfl⟩⟩
theorem zX (h:PA X es t):PE X (.List es pos) (tLst t):=by
 intro pins s σ H Q I hq
 refine wpAny_List_spliced (thn (h pos pins s σ H _ I hq) fun us s1 ⟨xs,H1,I1,r,z,q⟩=>⟨by rw[← r.length];exact z,?_⟩)
 have hf:H1 s1.heap.objs.size=none:=I1.hok.fresh (Nat.le_refl _)
 refine⟨.ref s1.heap.objs.size,upd H1 s1.heap.objs.size (.lst xs),I1.laid (t':=s1.toks) (fun b u e=>Heap.get?_push_of_some _ e) (Nat.le_refl _) ?_,rfl,q _ hf⟩
 exact⟨z,us,0,r,Heap.get?_push_size _ rfl⟩
end

noncomputable abbrev Sp:=List V→Hp→VK→XK→Prop
noncomputable abbrev CXT:=List Env→Hp→Shared→XK→Value→Shared→Prop

structure Env0 (P:Program)(w:World)(K:PySem.W.Frag)(mg:Str→Option Value)(base:Heap)(A:Around)(outer:List Env)(s:Shared)(H:Hp):Prop where
 frames:A.frames=some outer
 mod:Mod K mg base
 bs:∀b o,base.get? b=some o→s.heap.get? b=some o∧H b=none
 bsz:base.objs.size≤s.heap.objs.size
 funs:s.heap.FunFrames base outer
 frf:∀b∈frs outer,H b=none
 hok:HOk P w H s.heap
 bare:AllBare s.gens
noncomputable def CE (outer:List Env)(P:Program)(w:World)(H:Hp)(s:Shared)(Q:VK)(u:Value)(s':Shared):Prop:=
 ∃v H',s'.os=s.os∧AllBare s'.gens∧Un (frs outer) [] H H' s.heap s'.heap∧HOk P w H' s'.heap∧RelV v u∧Q v H'
noncomputable def CR (CX:CXT)(outer:List Env)(P:Program)(w:World)(H:Hp)(s:Shared)(Q:VK)(E:XK)(r:Result)(s':Shared):Prop:=
 match r with
 | .ok (.ret u)=>CE outer P w H s Q u s'
 | .ok _=>False
 | .error e=>CX outer H s E e s'
structure FnOk (P:Program)(w:World)(K:PySem.W.Frag)(mg:Str→Option Value)(base:Heap)(CX:CXT)(k:Nat)(f:Addr)(fd:FuncData)(ps:List Str)(sp:Sp):Prop where
 len:∀vs H Q E,sp vs H Q E→vs.length=ps.length
 run:∀(A:Around) (outer:List Env) (s:Shared) (H:Hp) (args:Args) (us:List Value) (vs:List V) (Q:VK) (E:XK),Room k A→Env0 P w K mg base A outer s H→BindsTo s fd args (ps.zip us)→Vals vs us→sp vs H Q E→
  codeAny (model P w) A (.call (.ref f) args) (CR CX outer P w H s Q E) s
theorem FnOk.mono {P:Program}{w:World}{K:PySem.W.Frag}{mg:Str→Option Value}{base:Heap}{CX:CXT}{j k:Nat}{f:Addr}{fd:FuncData}{ps:List Str}{sp:Sp}(F:FnOk P w K mg base CX j f fd ps sp)(h:j≤k):
  FnOk P w K mg base CX k f fd ps sp:=⟨F.len,fun A outer s H args us vs Q E hr=>F.run A outer s H args us vs Q E (hr.mono h)⟩
section
variable {X:Cx}{pins:List (Addr×Obj)}{σ:St}{H:Hp}{s s':Shared}
theorem Inv.env0 (I:Inv X pins σ H s):Env0 X.prog X.w X.K X.mg X.base X.A X.stack s H:=
 ⟨I.ok.frames,I.ok.mod,I.bs,Nat.le_trans I.ok.bsz I.sz,I.stack,I.stkFree,I.hok,I.bare⟩
theorem Inv.after {Q:VK}{u:Value}(I:Inv X pins σ H s)(h:CE X.stack X.prog X.w H s Q u s'):EP X pins σ Q u s':=by
 obtain⟨v,H',os,bare,un,hok,r,q⟩:=h
 obtain⟨hh,g,d,t,os'⟩:=s'
 obtain rfl:os'=s.os:=os
 exact⟨v,H',I.call (h':=hh) (g':=g) (d':=d) (t':=t) (ch:=[]) un hok bare (fun b z=>absurd z (by simp)),r,q⟩
end

noncomputable def tCall (sp:Sp)(dvs:List V)(E:XK)(t:TA):TE:=fun σ H Q=>t σ H fun vs H1=>sp (vs++dvs) H1 Q E
noncomputable def Binds (K:PySem.W.Frag)(fd:FuncData)(ps:List Str)(ds:List Value):Prop:=
 ∀(s:Shared) (us:List Value),K.In s.heap→(us++ds).length=ps.length→BindsTo s fd ⟨us,[]⟩ (ps.zip (us++ds))
theorem Binds.all {K:PySem.W.Frag}{fd:FuncData}{ps:List Str}(h:∀us:List Value,us.length=ps.length→bindArgs fd ⟨us,[]⟩=pure (ps.zip us)):Binds K fd ps []:=fun s us _ hl=>by
 rw[List.append_nil] at hl ⊢
 exact .of_eq (h us hl)

noncomputable def Passes (CX:CXT)(X:Cx)(E:XK):Prop:=∀(pins:List (Addr×Obj)) (σ:St) (H:Hp) (s:Shared) (e:Value) (s':Shared),Inv X pins σ H s→CX X.stack H s E e s'→X.xe e s'

section
variable {X:Cx}{CX:CXT}{k:Nat}{f C:Addr}{fd:FuncData}{ps:List Str}{sp:Sp}{dvs:List V}{ds:List Value}{E:XK}{x m:Str}{p pos apos:Pos}{e o:Expr}{es:List Expr}{ta:TE}{t:TA}

theorem qRj {pins:List (Addr×Obj)}{σ:St}{H:Hp}{s:Shared}{Q:VK}{us:List Value}{vs:List V}(F:FnOk X.prog X.w X.K X.mg X.base CX k f fd ps sp)(hr:Room k X.A)(hb:Binds X.K fd ps ds)(hd:Vals dvs ds)(hx:Passes CX X E)
  (I:Inv X pins σ H s) (r:Vals vs us) (h:sp (vs++dvs) H Q E):wpAny (model X.prog X.w) X.A (call (.ref f) us) (EP X pins σ Q) X.xe s:=by
 have r2:Vals (vs++dvs) (us++ds):=r.append hd
 have hl:(us++ds).length=ps.length:=by rw[← r2.length];exact F.len _ _ _ _ h
 refine wpAny_call (codeAny_mono (F.run X.A X.stack s H ⟨us,[]⟩ (us++ds) (vs++dvs) Q E hr I.env0 (hb s us I.kIn hl) r2 h) fun r s' hq=>?_)
 cases r with
 | error e=>exact hx pins σ H s e s' I hq
 | ok fl=>
  cases fl with
  | ret u=>exact I.after hq
  | next=>exact False.elim hq
  | brk=>exact False.elim hq
  | cont=>exact False.elim hq

theorem zF (F:FnOk X.prog X.w X.K X.mg X.base CX k f fd ps sp)(hr:Room k X.A)(hg:Gl X x)(hm:X.mg x=some (.ref f))(hk:PySem.W.keepIn X.K (.ref f)=true)(hb:Binds X.K fd ps ds)(hd:Vals dvs ds)(hx:Passes CX X E)
  (ha:PA X (e::es) t) (hdb:(x == ("__debug__" : Str))=false:=by decide) (he:starEach (e::es) X.env=(false,eval e X.env)::starEach es X.env:=by rfl) (hpl:(backTo pos (starEach es X.env)).any (·.1)=false:=by rfl):
  PE X (.Call (.Name x p) (e::es) [] pos) (tCall sp dvs E t):=by
 intro pins s σ H Q I h
 refine wpAny_Call_Name_kw (qEj I hg hm ?_ hdb)
 refine PySem.W.callWith_K (h₀:=X.base) I.ok.mod.kin hk (thn (ha pos pins s σ H _ I h) fun us s1 ⟨vs,H1,I1,r,q⟩=>⟨I1.kIn,?_⟩) he hpl
 exact qRj F hr hb hd hx I1 r q
end

section
variable {X:Cx}{CX:CXT}{k:Nat}{f C:Addr}{fd:FuncData}{ps ks:List Str}{sp:Sp}{E:XK}{x m:Str}{p pos apos kpos:Pos}{e o:Expr}{es:List Expr}{kws:List Keyword}{te ta:TE}{t tk:TA}{nm:Option Str}
variable {g:List Value→List Value→List Value}{gV:List V→List V→List V}
end

structure xI (N P:List Str)(sc:Scope):Prop where
 kind:sc.kind=.function
 co:sc.isCoroutine=false
 gen:sc.isGenerator=false
 nd:N.Nodup
 pre:N.take P.length=P
 par:∀x∈P,sc.names.lookup x=some .local∨sc.names.lookup x=some .cell
 nofree:∀y∈sc.names,y.2≠.free

theorem qKz {kindOf:Str→Option NameKind}{x:Str}:∀{binds:List (Str×Value)} {m:Str→Option Value},(∀v,(x,v)∉binds)→bindL kindOf binds m x=m x
 | [],_,_=>rfl
 | (n,v)::r,m,h=>by
  unfold bindL
  rw[qKz fun w hw=>h w (List.mem_cons_of_mem _ hw)]
  split
  ·have:x≠n:=by rintro rfl;exact h v List.mem_cons_self
   simp[this]
  ·rfl
theorem qKk {kindOf:Str→Option NameKind}{x:Str}:∀{binds:List (Str×Value)} {m:Str→Option Value},(∀v,(x,v)∉binds)→bindC kindOf binds m x=m x
 | [],_,_=>rfl
 | (n,v)::r,m,h=>by
  unfold bindC
  rw[qKk fun w hw=>h w (List.mem_cons_of_mem _ hw)]
  split
  ·rfl
  ·have:x≠n:=by rintro rfl;exact h v List.mem_cons_self
   simp[this]
theorem qKj {kindOf:Str→Option NameKind}{x:Str}{v:Value}:∀{P:List Str} {vs:List Value} {i:Nat} {m:Str→Option Value},P.Nodup→P[i]? = some x→vs[i]? = some v→kindOf x=some .local→
  bindL kindOf (P.zip vs) m x=some v
 | [],_,_,_,_,h,_,_=>by simp at h
 | _::_,[],_,_,_,_,h,_=>by simp at h
 | p::P,w::vs,0,m,nd,h1,h2,hk=>by
  simp at h1 h2;subst h1;subst h2
  show bindL kindOf ((p,w)::P.zip vs) m p=_
  unfold bindL
  rw[qKz fun v hv=>(List.nodup_cons.mp nd).1 (List.of_mem_zip hv).1,if_pos hk]
  simp
 | p::P,w::vs,i+1,m,nd,h1,h2,hk=>by
  show bindL kindOf ((p,w)::P.zip vs) m x=_
  unfold bindL
  exact qKj (i:=i) (List.nodup_cons.mp nd).2 (by simpa using h1) (by simpa using h2) hk
theorem qKv {kindOf:Str→Option NameKind}{x:Str}{v:Value}:∀{P:List Str} {vs:List Value} {i:Nat} {m:Str→Option Value},P.Nodup→P[i]? = some x→vs[i]? = some v→kindOf x≠some .local→
  bindC kindOf (P.zip vs) m x=some v
 | [],_,_,_,_,h,_,_=>by simp at h
 | _::_,[],_,_,_,_,h,_=>by simp at h
 | p::P,w::vs,0,m,nd,h1,h2,hk=>by
  simp at h1 h2;subst h1;subst h2
  show bindC kindOf ((p,w)::P.zip vs) m p=_
  unfold bindC
  rw[qKk fun v hv=>(List.nodup_cons.mp nd).1 (List.of_mem_zip hv).1,if_neg hk]
  simp
 | p::P,w::vs,i+1,m,nd,h1,h2,hk=>by
  show bindC kindOf ((p,w)::P.zip vs) m x=_
  unfold bindC
  exact qKv (i:=i) (List.nodup_cons.mp nd).2 (by simpa using h1) (by simpa using h2) hk

noncomputable def start (N:List Str)(vs:List V):St:=vs.map some++List.replicate (N.length - vs.length) none

noncomputable def cxOf (CX:CXT)(P:Program)(w:World)(K:PySem.W.Frag)(mg:Str→Option Value)(base:Heap)(N:List Str)(qual:Str)(scope:Scope)(f:Addr)(cd:Value)(A:Around)(outer:List Env)(s:Shared)(H:Hp)(E:XK):Cx where
 prog:=P
 w:=w
 K:=K
 mg:=mg
 base:=base
 A:=A.deeper (envOfC qual scope s.heap.objs.size f cd)
 N:=N
 s₀:=s
 H₀:=H
 env:=envOfC qual scope s.heap.objs.size f cd
 outer:=outer
 stack:=envOfC qual scope s.heap.objs.size f cd::outer
 ex:=[]
 calm:=true
 fn:=fun _=>true
 pn:=[]
 xe:=fun e s'=>wpAny (model P w) (A.deeper (envOfC qual scope s.heap.objs.size f cd)) (leaving (envOfC qual scope s.heap.objs.size f cd) e) (fun _ s''=>CX outer H s E e s'') (fun e' s''=>CX outer H s E e' s'') s'

theorem qAw {sc:Scope}{n:Nat}{x:Str}(h:sc.names.lookup x=some .cell):∃c,(cellsFrom n sc.names []).lookup x=some c:=by
 have q:=PySem.W.cellsFrom_some sc.names n [] (.inl h)
 exact Option.isSome_iff_exists.mp q

theorem qEf {CX:CXT}{P:Program}{w:World}{K:PySem.W.Frag}{mg:Str→Option Value}{base:Heap}{N ps:List Str}{qual:Str}{scope:Scope}{f:Addr}{cd:Value}{A:Around}{outer:List Env}{s s1:Shared}{H:Hp}{E:XK}{us:List Value}{vs:List V}
  (S:xI N ps scope) (hd:A.handled=none) (e0:Env0 P w K mg base A outer s H) (hl:vs.length=ps.length) (r:Vals vs us)
  (x:InCallC s s.heap.objs.size (bindL (envOfC qual scope s.heap.objs.size f cd).kindOf (ps.zip us) fun _=>none) (cellsFrom (s.heap.objs.size+1) scope.names []) (bindC (envOfC qual scope s.heap.objs.size f cd).kindOf (ps.zip us) fun _=>none) s1):
  Inv (cxOf CX P w K mg base N qual scope f cd A outer s H E) [] (start N vs) H s1:=by
 have hpl:ps.length≤N.length:=by have:=congrArg List.length S.pre;rw[List.length_take] at this;omega
 obtain⟨h1,tk,rfl,hk⟩:=x.done
 have noA:∀b:Addr,b∉(cxOf CX P w K mg base N qual scope f cd A outer s H E).ex:=fun b z=>absurd (show b∈([]:List Addr) from z) (by simp)
 refine⟨⟨e0.mod,S.kind,rfl,rfl,Nat.le_refl _,fun y z c h1 h2=>?_,fun y hy=>?_,fun y c _ h=>?_,fun _=>hd,Around.frames_deeper e0.frames,.inr ⟨rfl,rfl⟩,fun b z=>absurd z (noA b),e0.bs,e0.bsz,fun b _ _=>noA b,fun b z=>absurd z (noA b),e0.funs,e0.frf⟩,
  rfl,e0.bare,Un.kept hk,⟨_,x.toInCall.ns,fun i y v h1 h2 h3=>?_⟩,fun y c h=>⟨_,x.cell y c h⟩,e0.hok.fresh (Nat.le_refl _),fun y c h=>?_,fun p hp=>absurd (show p∈([]:List (Addr×Obj)) from hp) (by simp),e0.hok.kept hk,?_⟩
 ·exact name_of_addr x.apart (PySem.mem_of_lookup h1) (PySem.mem_of_lookup h2)
 ·have hy:scope.names.lookup y=some .cell∨scope.names.lookup y=some .free:=hy
  rcases hy with hy | hy
  ·exact qAw hy
  ·exact absurd rfl (S.nofree _ (PySem.mem_of_lookup hy))
 ·exact Nat.le_of_lt (x.above y c (PySem.mem_of_lookup h))
 ·have hi:i<vs.length:=by
   unfold start at h2
   by_cases hi:i<vs.length
   ·exact hi
   ·rw[List.getElem?_append_right (by simpa using hi)] at h2
    rw[List.getElem?_replicate] at h2
    split at h2 <;> cases h2
  have ha:vs[i]? = some v:=by
   unfold start at h2
   rw[List.getElem?_append_left (by simpa using hi),List.getElem?_map] at h2
   cases e:vs[i]? with
   | none=>rw[e] at h2;cases h2
   | some a=>rw[e] at h2;cases h2;rfl
  obtain⟨u,hu,rv⟩:=r.get ha
  have hp:ps[i]? = some y:=by
   rw[← S.pre,List.getElem?_take_of_lt (by omega)];exact h1
  have ndP:ps.Nodup:=by rw[← S.pre];exact S.nd.sublist (List.take_sublist _ _)
  refine⟨u,rv,?_⟩
  rcases S.par y (List.mem_of_getElem? hp) with k | k
  ·exact .inl ⟨k,qKj ndP hp hu k⟩
  ·obtain⟨c,e⟩:=qAw (n:=s.heap.objs.size+1) k
   refine .inr ⟨.inl k,c,e,?_⟩
   have q:=x.cell y c e
   rw[qKv ndP hp hu (by show scope.names.lookup y≠_;rw[k];decide)] at q
   exact q
 ·exact e0.hok.fresh (Nat.le_of_lt (x.above y c (PySem.mem_of_lookup h)))
 ·unfold start
  show _=N.length
  rw[List.length_append,List.length_map,List.length_replicate]
  omega

theorem qTn {CX:CXT}{P:Program}{w:World}{K:PySem.W.Frag}{mg:Str→Option Value}{base:Heap}{k:Nat}{f:Addr}{name qual:Str}{params:Arguments}{body:List Stmt}{scope:Scope}{dV kV doc pm cdv ct oc:Value}{an od:Option Addr}
  {osl:Array (Option Value)} {N ps:List Str} {sp:Sp} (lk:K.lookup f=some ⟨oc,od,.func (PySem.W.fnOf name qual params body scope dV kV doc pm an cdv ct),osl⟩) (hcd:PySem.W.codeIn K cdv qual=true) (S:xI N ps scope)
  (len:∀vs H Q E,sp vs H Q E→vs.length=ps.length)
  (hbody:∀(A:Around) (outer:List Env) (s:Shared) (H:Hp) (vs:List V) (Q:VK) (E:XK),Room k (A.deeper (envOfC qual scope s.heap.objs.size f cdv))→sp vs H Q E→
   ∃t,PSs (cxOf CX P w K mg base N qual scope f cdv A outer s H E) body t∧t { nx:=fun _ H'=>Q .non H',rt:=Q } (start N vs) H):
  FnOk P w K mg base CX (k+1) f (PySem.W.fnOf name qual params body scope dV kV doc pm an cdv ct) ps sp:=by
 refine⟨len,fun A outer s H args us vs Q E hr e0 hb r hsp=>?_⟩
 have hl:=len _ _ _ _ hsp
 have KX:K.In s.heap:=e0.mod.kin.keeps fun b o e=>(e0.bs b o e).1
 have lim:s.heap.NoLimit:=e0.mod.nolimit.keeps fun b o e=>(e0.bs b o e).1
 have hkind:∀y∈ps.zip us,scope.names.lookup y.1=some .local∨(scope.names.lookup y.1=some .cell∧((cellsFrom (s.heap.objs.size+1) scope.names []).lookup y.1).isSome=true):=fun⟨n,v⟩ hy=>by
  rcases S.par n (List.of_mem_zip hy).1 with q | q
  ·exact .inl q
  ·exact .inr ⟨q,PySem.W.cellsFrom_some _ _ _ (.inl q)⟩
 refine codeAny_call_function hr.depth (KX _ _ lk) rfl S.co S.gen rfl (PySem.W.codeRec_of KX hcd) (hb _ _ _ _ ?_)
 refine wpAny_newFunctionEnv_cells S.kind hkind fun env he s1 x=>?_
 subst he
 refine⟨lim.keeps x.toInCall.keep,codeAny_func ?_⟩
 obtain⟨t,ht,hq⟩:=hbody A outer s H vs Q E (hr.deeper _) hsp
 have I:Inv (cxOf CX P w K mg base N qual scope f cdv A outer s H E) [] (start N vs) H s1:=qEf S hr.hd e0 hl r x
 refine wpAny_mono (ht [] s1 (start N vs) H _ I hq) (fun fl s' hs=>?_) fun e s' hs=>hs
 have fin:∀{σ':St} {H':Hp} {v:V} {u:Value},Inv (cxOf CX P w K mg base N qual scope f cdv A outer s H E) [] σ' H' s'→RelV v u→Q v H'→CE outer P w H s Q u s':=
  fun{σ' H' v u} J rv q=>⟨v,H',J.os,J.bare,J.base,J.hok,rv,q⟩
 cases fl with
 | ret u=>
  obtain⟨v,σ',H',J,rv,q⟩:=hs
  exact fin J rv q
 | next=>
  obtain⟨σ',H',J,q⟩:=hs
  exact fin (v:=V.non) (u:=Value.none) J rfl q
 | brk=>
  obtain⟨_,_,_,q⟩:=hs
  exact False.elim q
 | cont=>
  obtain⟨_,_,_,q⟩:=hs
  exact False.elim q
end L2

namespace L2
open PySem PySem.Spec PyProof.Rows
section
variable {X:Cx}{x:Str}{p pos:Pos}{e:Expr}{es:List Expr}{t:TA}{id T:String}{r:List V→Hp→VK→Prop}

noncomputable def tCB (r:List V→Hp→VK→Prop)(t:TA):TE:=fun σ H Q=>t σ H fun vs H1=>r vs H1 Q
theorem xZ (hc:CallR X (.builtin id) r)(hg:Gl X x)(hm:X.mg x=none)(hv:bootBuiltins x=some (.builtin id))(ha:PA X (e::es) t)(hn:x ≠ "__name__" := by decide)(hdb:(x == ("__debug__" : Str))=false:=by decide)
  (he:starEach (e::es) X.env=(false,eval e X.env)::starEach es X.env:=by rfl) (hpl:(backTo pos (starEach es X.env)).any (·.1)=false:=by rfl):PE X (.Call (.Name x p) (e::es) [] pos) (tCB r t):=by
 intro pins s σ H Q I h
 refine wpAny_Call_Name_kw (qXm I hg hm hv ?_ hn hdb)
 exact PyProof.Rows.callWith_builtin1 (thn (ha pos pins s σ H _ I h) fun us s1 ⟨vs,H1,I1,r1,q1⟩=>hc pins s1 σ H1 vs us Q I1 r1 q1) he hpl
theorem xX (hc:CallR X (.type T) r)(hg:Gl X x)(hm:X.mg x=none)(hv:bootBuiltins x=some (.type T))(ha:PA X (e::es) t)(hn:x ≠ "__name__" := by decide)(hdb:(x == ("__debug__" : Str))=false:=by decide)
  (he:starEach (e::es) X.env=(false,eval e X.env)::starEach es X.env:=by rfl) (hpl:(backTo pos (starEach es X.env)).any (·.1)=false:=by rfl):PE X (.Call (.Name x p) (e::es) [] pos) (tCB r t):=by
 intro pins s σ H Q I h
 refine wpAny_Call_Name_kw (qXm I hg hm hv ?_ hn hdb)
 exact PyProof.Rows.callWith_type1 (thn (ha pos pins s σ H _ I h) fun us s1 ⟨vs,H1,I1,r1,q1⟩=>hc pins s1 σ H1 vs us Q I1 r1 q1) he hpl
end
end L2

namespace HT
open PySem PyProof.Rows

section
open PySem.SeqAt
open PySem.AutoSeq1 (wpAny_loadPart')
open PySem.MeetsSeq PySem.MeetsSeq2 PySem.MeetsSeq3

end

section
variable {prog:Program}{w:World}{A:Around}{E:Value→Shared→Prop}{s:Shared}

theorem cat_tup {t b:Addr}{vs ws:List Value}{Q:Value→Shared→Prop}(ht:IsTup s.heap t vs.toArray)(hb:IsTup s.heap b ws.toArray)(hv:vs≠[])
  (h1:ws=[]→Q (.ref t) s) (h2:ws≠[]→Q (.ref s.heap.objs.size) { s with heap:=s.heap.push { cls:=.type "tuple",data:=.seq (vs++ws).toArray } })
  (hsz:vs.length+ws.length≤sizeLine):wpAny (model prog w) A (binaryOp .Add (.ref t) (.ref b)) Q E s:=by
 obtain⟨⟨cls,dd,data,sl⟩,ho,hc,n,hd⟩:=id ht
 obtain⟨⟨cls2,dd2,data2,sl2⟩,ho2,hc2,n2,hd2⟩:=id hb
 simp only at hc hd hc2 hd2
 subst hc hd hc2 hd2
 have e:vs.toArray++ws.toArray=(vs++ws).toArray:=by simp
 by_cases hw:ws=[]
 ·exact concat_meets ⟨_,ho,rfl⟩ ⟨_,ho2,rfl⟩ noFill_tuple_add seq_tuple_add PySem.F.slot_tuple_add PySem.F.entry_tuple_add (PySem.F.args_tuple_add_2 _ _)
   (tuple_addW1 t b vs.toArray ws.toArray n n2 dd dd2 sl sl2 (by simpa using hv) (by simp[hw])) ⟨ho,ho2,h1 hw⟩
 ·refine concat_meets ⟨_,ho,rfl⟩ ⟨_,ho2,rfl⟩ noFill_tuple_add seq_tuple_add PySem.F.slot_tuple_add PySem.F.entry_tuple_add (PySem.F.args_tuple_add_2 _ _)
   (tuple_addW2 t b vs.toArray ws.toArray n n2 dd dd2 sl sl2 (by simpa using hv) (by simpa using hw) (by rw[List.size_toArray,List.size_toArray];exact hsz)) ⟨ho,ho2,?_⟩
  rw[e]
  exact h2 hw

noncomputable def sIx (n d:Nat):Option Int→Nat
 | none=>d
 | some v=>if v<0 then (v+(n:Int)).toNat else min v.toNat n
theorem sIx_none (n d:Nat):sIx n d none=d:=rfl
theorem sIx_nat (n d k:Nat):sIx n d (some (k:Int))=min k n:=by
 show(if (k:Int)<0 then ((k:Int)+(n:Int)).toNat else min (k:Int).toNat n)=min k n
 rw[if_neg (by omega),Int.toNat_natCast]
theorem qRz (n d:Nat)(hd:d≤n)(o:Option Int):sIx n d o≤n:=by
 cases o with
 | none=>exact hd
 | some v=>
  show(if v<0 then (v+(n:Int)).toNat else min v.toNat n)≤n
  by_cases hv:v<0
  ·rw[if_pos hv];omega
  ·rw[if_neg hv];exact Nat.min_le_right _ _
theorem qFf (v:Int)(n d:Nat):(if v<0 then max (v+(n:Int)) 0 else min v (n:Int))=((sIx n d (some v):Nat):Int):=by
 show(if v<0 then max (v+(n:Int)) 0 else min v (n:Int))=(((if v<0 then (v+(n:Int)).toNat else min v.toNat n):Nat):Int)
 by_cases hv:v<0
 ·simp only[if_pos hv];omega
 ·simp only[if_neg hv];omega
theorem qBl (lo hi:Option Int)(n:Nat):Builtin.Slice.sliceAdjust lo hi 1 (n:Int)=(((sIx n 0 lo:Nat):Int),((sIx n n hi:Nat):Int)):=by
 have h1:¬((1:Int)<0):=by omega
 unfold Builtin.Slice.sliceAdjust
 simp only[h1,if_false]
 refine Prod.ext ?_ ?_
 ·cases lo with
  | none=>rfl
  | some v=>exact qFf v n 0
 ·cases hi with
  | none=>rfl
  | some v=>exact qFf v n n
theorem qBx (i j:Nat):Builtin.Slice.slicePlaces (i:Int) (j:Int) 1=j - i:=by
 unfold Builtin.Slice.slicePlaces
 have h1:(1:Int)>0:=by omega
 simp only[h1,if_true,Int.ediv_one]
 split <;> omega
theorem qXc {v:Value}{o:Option Int}{Q:Option Int→Shared→Prop}(p:IsPart v o)(h:Q o s):wpAny (model prog w) A (Builtin.Slice.slicePartIndex v) Q E s:=by
 cases p with
 | none=>exact slicePart_none h
 | int i t=>exact slicePart_int h
theorem wC {sl:Addr}{vl vu:Value}{lo hi:Option Int}{n:Nat}{Q:Int×Int×Nat→Shared→Prop}(hs:s.heap.IsSliceOf sl vl vu .none)(pl:IsPart vl lo)(pu:IsPart vu hi)
  (h:Q (((sIx n 0 lo:Nat):Int),1,sIx n n hi - sIx n 0 lo) s):wpAny (model prog w) A (Builtin.Slice.sliceApplied (.ref sl) (pure (n:Int))) Q E s:=by
 obtain⟨os,hos,hcs,hds⟩:=id hs
 unfold Builtin.Slice.sliceApplied Builtin.Slice.sliceFields
 refine wpAny_bind (wpAny_bind (wpAny_field hos hds (x:=vl) rfl (wpAny_bind (wpAny_field hos hds (x:=vu) rfl (wpAny_bind (wpAny_field hos hds (x:=.none) rfl (wpAny_pure ?_)))))))
 refine wpAny_bind (slicePart_none ?_)
 show wpAny _ _ (if ((1:Int) == 0)=true then _ else _) _ _ s
 rw[if_neg (by decide)]
 refine wpAny_bind (qXc pl (wpAny_bind (qXc pu (wpAny_bind (wpAny_pure ?_)))))
 show wpAny _ _ (match Builtin.Slice.sliceAdjust lo hi 1 (n:Int) with | (lo,hi)=>pure (lo,(1:Int),Builtin.Slice.slicePlaces lo hi 1)) _ _ s
 rw[qBl lo hi n]
 show wpAny _ _ (pure (((sIx n 0 lo:Nat):Int),(1:Int),Builtin.Slice.slicePlaces ((sIx n 0 lo:Nat):Int) ((sIx n n hi:Nat):Int) 1)) _ _ s
 rw[qBx]
 exact wpAny_pure h
theorem qGn (xs:Array Value)(i k:Nat):((List.range k).filterMap fun(m:Nat)=>xs[((i:Int)+(m:Int) * 1).toNat]?).toArray=((xs.toList.drop i).take k).toArray:=by
 have e:(fun(m:Nat)=>xs[((i:Int)+(m:Int) * 1).toNat]?)=fun m=>xs[i+m]? := by
  funext m
  have:((i:Int)+(m:Int) * 1).toNat=i+m:=by omega
  rw[this]
 rw[e]
 have:=pick_run xs i k
 rw[List.filterMap_map] at this
 have e2:((fun x=>xs[x]?)∘fun x=>i+x)=fun m=>xs[i+m]? := rfl
 rw[e2] at this
 rw[this]

theorem getItem_tuple_cut {t sl:Addr}{items:Array Value}{vl vu:Value}{lo hi:Option Int}{Q:Value→Shared→Prop}(ht:IsTup s.heap t items)(hs:s.heap.IsSliceOf sl vl vu .none)(pl:IsPart vl lo)(pu:IsPart vu hi)
  (hw:¬(sIx items.size 0 lo=0∧sIx items.size items.size hi=items.size))
  (h:Q (.ref s.heap.objs.size) { s with heap:=s.heap.push { cls:=.type "tuple",data:=.seq ((items.toList.drop (sIx items.size 0 lo)).take (sIx items.size items.size hi - sIx items.size 0 lo)).toArray } })
  (hsz:items.size≤sizeLine):wpAny (model prog w) A (getItem (.ref t) (.ref sl)) Q E s:=by
 have htake:sizeOk (.seq ((items.toList.drop (sIx items.size 0 lo)).take (sIx items.size items.size hi - sIx items.size 0 lo)).toArray):=by
  show((items.toList.drop (sIx items.size 0 lo)).take (sIx items.size items.size hi - sIx items.size 0 lo)).toArray.size≤sizeLine
  rw[List.size_toArray,List.length_take,List.length_drop,Array.length_toList]
  omega
 have hj:sIx items.size items.size hi≤items.size:=qRz _ _ (Nat.le_refl _) hi
 obtain⟨os,hos,hcs,hds⟩:=id hs
 have hTs:s.TypeIs (.ref sl) "slice" := ⟨os,hos,hcs⟩
 unfold getItem
 try with_reducible refine wpAny_holding ?_
 first | refine wpAny_bind (wpAny_pure ?_) | skip
 refine wpAny_bind (wpAny_sequenceKey ht.typeIs (by decide) ?_)
 refine wpAny_bind (wpAny_callSpecial?_slot (name:=Str.ofString "__getitem__") ht.typeIs PyProof.Rows.slot_tuple_getitem
  (wpAny_call_entry PyProof.Rows.slot_tuple_getitem ht.typeIs entry_tuple_getitem ?_ (args_tuple_getitem _ _)))
 show wpAny _ _ (Builtin.Tuple.tupleItemsOf (.ref t) >>= _) _ _ s
 refine wpAny_bind (tupleItemsOf_ ht ?_)
 refine wpAny_bind (wpAny_typeOf hTs ?_)
 rw[if_pos (by decide)]
 refine wpAny_bind (wC hs pl pu ?_)
 have hno:¬((((sIx items.size 0 lo:Nat):Int) == 0 && (1:Int) == 1 && (sIx items.size items.size hi - sIx items.size 0 lo) == items.size)=true):=by
  intro q
  rw[Bool.and_eq_true,Bool.and_eq_true] at q
  have q1:((sIx items.size 0 lo:Nat):Int)=0:=eq_of_beq q.1.1
  have q2:sIx items.size items.size hi - sIx items.size 0 lo=items.size:=eq_of_beq q.2
  exact hw ⟨by omega,by omega⟩
 show wpAny _ _ (if (((sIx items.size 0 lo:Nat):Int) == 0 && (1:Int) == 1 && (sIx items.size items.size hi - sIx items.size 0 lo) == items.size)=true then _ else _) _ _ s
 rw[if_neg hno,qGn]
 first
  | exact wpAny_bind (m:=Builtin.Tuple.tupleExact _) (wpAny_newObj_type (wpAny_pure ⟨_,rfl,wpAny_pure h⟩) htake)
  | exact wpAny_bind (m:=Builtin.Tuple.tupleExact _) (wpAny_newObj_type (wpAny_bind (wpAny_pure (wpAny_pure ⟨_,rfl,wpAny_pure h⟩))) htake)
  | exact wpAny_bind (wpAny_bind (m:=Builtin.Tuple.tupleExact _) (wpAny_newObj_type (wpAny_pure (wpAny_pure ⟨_,rfl,wpAny_pure h⟩)) htake))
  | exact wpAny_bind (wpAny_bind (m:=Builtin.Tuple.tupleExact _) (wpAny_newObj_type (wpAny_pure ⟨_,rfl,wpAny_pure h⟩) htake))
end
end HT

namespace L2
open PySem PySem.Spec PyProof.Rows

noncomputable abbrev TO:=St→Hp→(Option Int→Hp→Prop)→Prop
noncomputable def PO (X:Cx)(e:Option Expr)(t:TO):Prop:=
 ∀(pins:List (Addr×Obj)) (s:Shared) (σ:St) (H:Hp) (Q:Option Int→Hp→Prop),Inv X pins σ H s→t σ H Q→
  wpAny (model X.prog X.w) X.A (evalPart e X.env) (fun u s'=>∃o H',Inv X pins σ H' s'∧IsPart u o∧Q o H') X.xe s
noncomputable def qCj:TO:=fun _ H Q=>Q none H
noncomputable def tPart (t:TE):TO:=fun σ H Q=>t σ H fun x H1=>∃i,x=.int i∧Q (some i) H1

section
variable {X:Cx}{e:Expr}{te:TE}{lo hi:Option Expr}{tl th:TO}{pos p2:Pos}

theorem kW:PO X none qCj:=by
 intro pins s σ H Q I h
 rw[evalPart_none]
 exact wpAny_pure ⟨none,H,I,.none,h⟩
theorem kK (h:PE X e te):PO X (some e) (tPart te):=by
 intro pins s σ H Q I hw
 rw[evalPart_some]
 refine thn (h pins s σ H _ I hw) fun u s1 ⟨x,H1,I1,r1,q1⟩=>?_
 obtain⟨i,rfl,q⟩:=q1
 obtain⟨t,rfl⟩:=r1
 exact⟨some i,H1,I1,.int i t,q⟩

noncomputable def SlR (X:Cx)(r:V→Option Int→Option Int→Hp→VK→Prop):Prop:=
 ∀(pins:List (Addr×Obj)) (s:Shared) (σ:St) (H:Hp) (x:V) (v vl vu:Value) (lo hi:Option Int) (sl:Addr) (Q:VK),Inv X pins σ H s→RelV x v→s.heap.IsSliceOf sl vl vu .none→IsPart vl lo→IsPart vu hi→r x lo hi H Q→
  ∃T id,typeLookup (.type T) "__getitem__" = pure (some (.builtin id))∧s.TypeIs v T∧wpAny (model X.prog X.w) X.A (getItem v (.ref sl)) (EP X pins σ Q) X.xe s
noncomputable def tSl (r:V→Option Int→Option Int→Hp→VK→Prop)(te:TE)(tl th:TO):TE:=fun σ H Q=>te σ H fun x H1=>tl σ H1 fun l H2=>th σ H2 fun u H3=>r x l u H3 Q
theorem yV {r:V→Option Int→Option Int→Hp→VK→Prop}(hr:SlR X r)(he:PE X e te)(hl:PO X lo tl)(hu:PO X hi th):PE X (.Subscript e (.Slice lo hi none p2) pos) (tSl r te tl th):=by
 intro pins s σ H Q I h
 refine Subscript_ (thn (he pins s σ H _ I h) fun v s1 ⟨x,H1,I1,r1,q1⟩=>?_)
 refine wpAny_Slice (thn (hl pins s1 σ H1 _ I1 q1) fun vl s2 ⟨l,H2,I2,pl,q2⟩=>thn (hu pins s2 σ H2 _ I2 q2) fun vu s3 ⟨u,H3,I3,pu,q3⟩=>?_)
 rw[evalPart_none]
 refine wpAny_pure ?_
 have I4:Inv X pins σ H3 { s3 with heap:=s3.heap.push { cls:=.type "slice",data:=.fields #[vl,vu,.none] } }:=I3.kept (t':=s3.toks) fun b ob q=>Heap.get?_push_of_some _ q
 obtain⟨T,id,hT,ht,hg⟩:=hr pins { s3 with heap:=s3.heap.push { cls:=.type "slice",data:=.fields #[vl,vu,.none] } } σ H3 x v vl vu l u s3.heap.objs.size Q I4 r1 (Heap.IsSliceOf.new ..) pl pu q3
 show wpAny (model X.prog X.w) X.A (subscriptTail e (.Slice lo hi none p2) v (.ref s3.heap.objs.size)) (EP X pins σ Q) X.xe { s3 with heap:=s3.heap.push { cls:=.type "slice",data:=.fields #[vl,vu,.none] } }
 exact tail_any (ops:=[.ref s3.heap.objs.size,v]) ht hT hg (by with_unfolding_all rfl)

noncomputable def cutV (xs:List V)(lo hi:Option Int):List V:=(xs.drop (HT.sIx xs.length 0 lo)).take (HT.sIx xs.length xs.length hi - HT.sIx xs.length 0 lo)
theorem qQo (xs:List V)(lo hi:Option Int):(cutV xs lo hi).length≤xs.length:=by
 unfold cutV
 rw[List.length_take,List.length_drop]
 omega
noncomputable def rSlT (K:PySem.W.Frag):V→Option Int→Option Int→Hp→VK→Prop:=fun x lo hi H Q=>∃a xs,x=.ref a∧SqT K H a xs∧
 ¬(HT.sIx xs.length 0 lo=0∧HT.sIx xs.length xs.length hi=xs.length)∧∀p,H p=none→Q (.ref p) (upd H p (.tup (cutV xs lo hi)))
theorem qRq:SlR X (rSlT X.K):=by
 intro pins s σ H x v vl vu lo hi sl Q I rx hs pl pu h
 obtain⟨a,xs,rfl,hx,hw,q⟩:=h
 cases rx
 obtain⟨its,r,ht,hz⟩:=I.tuple hx
 have hlen:its.toArray.size=xs.length:=by rw[List.size_toArray];exact r.length.symm
 refine⟨"tuple",_,PyProof.Rows.slot_tuple_getitem.lookup,ht.typeIs,?_⟩
 refine HT.getItem_tuple_cut ht hs pl pu (by rw[hlen];exact hw) ?_ (by rw[hlen];exact hz)
 rw[hlen]
 refine⟨.ref s.heap.objs.size,_,I.laid (t':=s.toks) (o:=.tup (cutV xs lo hi)) (fun b ob q=>Heap.get?_push_of_some _ q) (Nat.le_refl _) ?_,rfl,q _ (I.hok.fresh (Nat.le_refl _))⟩
 exact⟨Nat.le_trans (qQo xs lo hi) hz,_,(r.drop (HT.sIx xs.length 0 lo)).take (HT.sIx xs.length xs.length hi - HT.sIx xs.length 0 lo),TupX.new _ _⟩

noncomputable def rCatT (K:PySem.W.Frag):R2:=fun x y H Q=>∃a b xs ys,x=.ref a∧y=.ref b∧SqT K H a xs∧SqT K H b ys∧xs≠[]∧xs.length+ys.length≤sizeLine∧
 (ys=[]→Q (.ref a) H)∧(ys≠[]→∀p,H p=none→Q (.ref p) (upd H p (.tup (xs++ys))))
theorem Vals.nil_iff {xs:List V}{us:List Value}(r:Vals xs us):us=[]↔xs=[]:=by
 cases r with
 | nil=>simp
 | cons _ _=>simp
theorem qNl:OpR X (binaryOp .Add) (rCatT X.K):=by
 intro pins s σ H x y v u Q I rx ry h
 obtain⟨a,b,xs,ys,rfl,rfl,ha,hb,hx,hz,q1,q2⟩:=h
 cases rx
 cases ry
 obtain⟨its,r1,p1,_⟩:=I.tuple ha
 obtain⟨its2,r2,p2,_⟩:=I.tuple hb
 refine HT.cat_tup p1 p2 (fun z=>hx (r1.nil_iff.mp z)) (fun z=>⟨.ref a,H,I,rfl,q1 (r2.nil_iff.mp z)⟩) (fun z=>?_) (by rw[← r1.length,← r2.length];exact hz)
 refine⟨.ref s.heap.objs.size,_,I.laid (t':=s.toks) (o:=.tup (xs++ys)) (fun b ob q=>Heap.get?_push_of_some _ q) (Nat.le_refl _) ?_,rfl,q2 (fun w=>z (r2.nil_iff.mpr w)) _ (I.hok.fresh (Nat.le_refl _))⟩
 exact⟨by rw[List.length_append];exact hz,_,r1.append r2,TupX.new _ _⟩
end
end L2

namespace L2
open PySem PySem.Spec PyProof.Rows

noncomputable def ixN (n:Nat)(i:Int):Option Nat:=if 0≤i then (if i<n then some i.toNat else none) else if -(n:Int)≤i then some (i+n).toNat else none
noncomputable def atI {α:Type}(xs:List α)(i:Int):Option α:=(ixN xs.length i).bind fun j=>xs[j]?
theorem qEd {n:Nat}{i:Int}{j:Nat}(h:ixN n i=some j):seqIndex? i n=some j∧j<n∧-(n:Int)≤i∧i<n:=by
 unfold ixN at h
 by_cases h0:0≤i
 ·rw[if_pos h0] at h
  by_cases h1:i<n
  ·rw[if_pos h1] at h
   have e:i.toNat=j:=Option.some.inj h
   exact⟨by rw[seqIndex_of h0 h1,e],by omega,by omega,h1⟩
  ·rw[if_neg h1] at h;cases h
 ·rw[if_neg h0] at h
  by_cases h1 : -(n:Int)≤i
  ·rw[if_pos h1] at h
   have e:(i+n).toNat=j:=Option.some.inj h
   exact⟨by rw[seqIndex_neg (by omega) h1,e],by omega,h1,by omega⟩
  ·rw[if_neg h1] at h;cases h
theorem qVl {α:Type}{xs:List α}{i:Int}{v:α}(h:atI xs i=some v):∃j,seqIndex? i xs.length=some j∧xs[j]? = some v∧j<xs.length∧-(xs.length:Int)≤i∧i<xs.length:=by
 unfold atI at h
 cases e:ixN xs.length i with
 | none=>rw[e] at h;cases h
 | some j=>
  rw[e] at h
  obtain⟨h1,h2,h3,h4⟩:=qEd e
  exact⟨j,h1,h,h2,h3,h4⟩
theorem yZ {α:Type}{xs:List α}{j:Nat}{v:α}(h:xs[j]? = some v):atI xs (j:Int)=some v:=by
 have hj:j<xs.length:=(List.getElem?_eq_some_iff.mp h).1
 have e:ixN xs.length (j:Int)=some j:=by
  unfold ixN
  rw[if_pos (by omega),if_pos (by omega)];simp
 unfold atI;rw[e];exact h
noncomputable def qPj (b:Expr):Prop:=∀o i,subscripted b false o i=operate [o,i] (getItem o i)
noncomputable def IxR (X:Cx)(r:R2):Prop:=
 ∀(value slice:Expr) (pins:List (Addr×Obj)) (s:Shared) (σ:St) (H:Hp) (x y:V) (v u:Value) (Q:VK),Inv X pins σ H s→RelV x v→RelV y u→r x y H Q→
  subscripted slice false v u=operate [v,u] (getItem v u)→wpAny (model X.prog X.w) X.A (subscriptTail value slice v u) (EP X pins σ Q) X.xe s
noncomputable def MtR (X:Cx)(id:String)(r:V→List V→Hp→VK→Prop):Prop:=
 ∀(pins:List (Addr×Obj)) (s:Shared) (σ:St) (H:Hp) (x:V) (xs:List V) (v:Value) (us:List Value) (Q:VK),Inv X pins σ H s→RelV x v→Vals xs us→r x xs H Q→
  wpAny (model X.prog X.w) X.A (call (.builtin id) (v::us)) (EP X pins σ Q) X.xe s
section
variable {X:Cx}{a b:Expr}{ta tb:TE}{pos:Pos}
theorem xH {r:R2}(hr:IxR X r)(ha:PE X a ta)(hb:PE X b tb)(hs:qPj b):PE X (.Subscript a b pos) (tOp r ta tb):=by
 intro pins s σ H Q I h
 exact Subscript_ (binT ha hb I h fun v u s2 x y H2 I2 rx ry q=>hr a b pins s2 σ H2 x y v u Q I2 rx ry q (hs _ _))

noncomputable def rIxL (K:PySem.W.Frag):R2:=fun x y H Q=>∃p xs i v,x=.ref p∧y=.int i∧SqL K H p xs∧atI xs i=some v∧Q v H
noncomputable def rIxT (K:PySem.W.Frag):R2:=fun x y H Q=>∃p xs i v,x=.ref p∧y=.int i∧SqT K H p xs∧atI xs i=some v∧Q v H
noncomputable def rIxS:R2:=fun x y H Q=>∃z i c,x=.str z∧y=.int i∧z.length≤sizeLine∧atI z.cps.toList i=some c∧Q (.str ⟨#[c]⟩) H
theorem qEc:IxR X (rIxL X.K):=by
 intro value slice pins s σ H x y v u Q I rx ry h hs
 obtain⟨p,xs,i,z,rfl,rfl,hq,he,q⟩:=h
 cases rx
 obtain⟨t,rfl⟩:=ry
 obtain⟨its,r,pl,hz⟩:=I.list hq
 obtain⟨j,h1,h2,h3,h4,h5⟩:=qVl he
 obtain⟨w,ew,rw'⟩:=r.get h2
 have hl:=r.length
 have hn:=line63
 have fin:EP X pins σ Q w s:=⟨z,H,I,rw',q⟩
 by_cases h0:0≤i
 ·have hj:i.toNat=j:=by
   rw[seqIndex_of h0 h5] at h1
   exact Option.some.inj h1
  exact item_listR pl.isList h0 (by omega) (by rw[hj];simpa using ew) fin hs
 ·have hj:(i+(its.toArray.size:Int)).toNat=j:=by
   rw[seqIndex_neg (by omega) h4] at h1
   rw[List.size_toArray,← hl]
   exact Option.some.inj h1
  exact subscriptTail_builtinR (x:=w) pl.isList.typeIs slot_list_getitem.lookup
   (wpAny_getItem_list_neg (Q:=fun r s'=>r=w∧EP X pins σ Q r s') pl.isList (by omega) (by rw[List.size_toArray] <;> omega) (by omega) (by rw[hj];simpa using ew) ⟨rfl,fin⟩) hs
theorem qEb:IxR X (rIxT X.K):=by
 intro value slice pins s σ H x y v u Q I rx ry h hs
 obtain⟨p,xs,i,z,rfl,rfl,hq,he,q⟩:=h
 cases rx
 obtain⟨t,rfl⟩:=ry
 obtain⟨its,r,pl,hz⟩:=I.tuple hq
 obtain⟨j,h1,h2,h3,h4,h5⟩:=qVl he
 obtain⟨w,ew,rw'⟩:=r.get h2
 have hl:=r.length
 have hn:=line63
 have fin:EP X pins σ Q w s:=⟨z,H,I,rw',q⟩
 exact subscriptTail_builtinR (x:=w) pl.typeIs slot_tuple_getitem.lookup
  (getItem_tuple (j:=j) (Q:=fun r s'=>r=w∧EP X pins σ Q r s') pl (by omega) (by omega) (by rw[List.size_toArray,← hl];exact h1) (by simpa using ew) ⟨rfl,fin⟩) hs
theorem qIn:IxR X rIxS:=by
 intro value slice pins s σ H x y v u Q I rx ry h hs
 obtain⟨z,i,c,rfl,rfl,hz,he,q⟩:=h
 obtain⟨t,rfl⟩:=rx
 obtain⟨t',rfl⟩:=ry
 obtain⟨j,h1,h2,h3,h4,h5⟩:=qVl he
 have hl:z.cps.toList.length=z.length:=by simp[Str.length]
 rw[hl] at h1 h4 h5
 have hn:=line63
 exact tail_any (typeIs_str s z t) slot_str_getitem.lookup (getItem_str (c:=c) (by
  have e1:decide (i < -(2 ^ 63:Int))=false:=decide_eq_false (by omega)
  have e2:decide (i≥2 ^ 63)=false:=decide_eq_false (by omega)
  rw[e1,e2,Bool.or_false]) (by rw[h1];simpa using h2) ⟨.str ⟨#[c]⟩,H,I.tok _,⟨_,rfl⟩,q⟩) hs
theorem qBa (its:List Value)(n j:Nat)(u:Value):Obj.mapSeq (·.setIfInBounds j u) { cls:=.type "list",data:=.seq its.toArray n }={ cls:=.type "list",data:=.seq (its.set j u).toArray n }:=by
 simp[Obj.mapSeq]
theorem Inv.lst {pins:List (Addr×Obj)}{σ:St}{H:Hp}{s:Shared}{p:Addr}{xs:List V}(I:Inv X pins σ H s)(h:H p=some (.lst xs)):
  ∃(its:List Value) (n:Nat),Vals xs its∧s.heap.get? p=some { cls:=.type "list",data:=.seq its.toArray n }∧xs.length≤sizeLine:=by
 obtain⟨z,its,n,r,e⟩:=I.hok p _ h
 exact⟨its,n,r,e,z⟩
theorem Inv.lstUpd {pins:List (Addr×Obj)}{σ:St}{H:Hp}{s:Shared}{p:Addr}{xs ys:List V}{its its':List Value}{n n':Nat}{f:Obj→Obj}(I:Inv X pins σ H s)(h:H p=some (.lst xs))
  (ho:s.heap.get? p=some { cls:=.type "list",data:=.seq its.toArray n }) (hf:f { cls:=.type "list",data:=.seq its.toArray n }={ cls:=.type "list",data:=.seq its'.toArray n' }) (r:Vals ys its') (hz:ys.length≤sizeLine) (t:Nat):
  Inv X pins σ (upd H p (.lst ys)) { s with heap:=s.heap.update p f,toks:=t }:=by
 have e:(s.heap.update p f).get? p=some { cls:=.type "list",data:=.seq its'.toArray n' }:=by
  rw[Heap.get?_update_self f ho (by rw[hf] <;> rfl),hf]
 refine I.write (x:=p) (e:=p) (by rw[h];trivial) (.inl rfl) (fun b u hb q=>(Heap.get?_update_other _ _ (Ne.symm hb)).trans q) ⟨_,e⟩ ?_
 exact⟨hz,its',n',r,e⟩
noncomputable def rSetL:V→V→V→Hp→(Hp→Prop)→Prop:=fun o i v H Q=>∃p xs k j,o=.ref p∧i=.int k∧H p=some (.lst xs)∧ixN xs.length k=some j∧Q (upd H p (.lst (xs.set j v)))
theorem qGg:PSet X rSetL:=by
 intro pins s σ H o i v ov iv u Q I ro ri rv h
 obtain⟨p,xs,k,j,rfl,rfl,hp,hj,q⟩:=h
 cases ro
 obtain⟨t,rfl⟩:=ri
 obtain⟨its,n,r,ho,hz⟩:=I.lst hp
 obtain⟨h1,h2,h3,h4⟩:=qEd hj
 have hl:=r.length
 have hn:=line63
 have I':Inv X pins σ (upd H p (.lst (xs.set j v))) { s with heap:=s.heap.update p (Obj.mapSeq (·.setIfInBounds j u)) }:=
  I.lstUpd hp ho (qBa its n j u) (r.set rv j) (by rw[List.length_set];exact hz) s.toks
 by_cases h0:0≤k
 ·have hk:k.toNat=j:=by
   rw[seqIndex_of h0 h4] at h1
   exact Option.some.inj h1
  exact PySem.W.ki_setAt ho h0 (by omega) (by rw[List.size_toArray,← hl];exact h4) (by rw[hk];exact⟨_,I',q⟩)
 ·have hk:(k+(its.toArray.size:Int)).toNat=j:=by
   rw[seqIndex_neg (by omega) h3] at h1
   rw[List.size_toArray,← hl]
   exact Option.some.inj h1
  exact PySem.W.ki_setBack ho (by omega) (by rw[List.size_toArray,← hl];exact h3) (by omega) (by rw[hk];exact⟨_,I',q⟩)

theorem qJm (lo hi:Option Int)(n:Nat):(sliceBounds lo hi none n).1=((HT.sIx n 0 lo:Nat):Int)∧(sliceBounds lo hi none n).2.1=((HT.sIx n n hi:Nat):Int)∧(sliceBounds lo hi none n).2.2=1:=by
 refine⟨?_,?_,rfl⟩
 ·cases lo with
  | none=>simp[sliceBounds,HT.sIx]
  | some i=>
   simp only[sliceBounds,HT.sIx,Option.getD_none,show(1:Int)>0 by decide,if_true]
   by_cases h:i<0
   ·simp only[h,if_true] <;> omega
   ·simp only[h,if_false] <;> omega
 ·cases hi with
  | none=>simp[sliceBounds,HT.sIx]
  | some i=>
   simp only[sliceBounds,HT.sIx,Option.getD_none,show(1:Int)>0 by decide,if_true]
   by_cases h:i<0
   ·simp only[h,if_true] <;> omega
   ·simp only[h,if_false] <;> omega
theorem qZi (its:List Value)(lo hi:Option Int):slicePick its.toArray lo hi none=((its.drop (HT.sIx its.length 0 lo)).take (HT.sIx its.length its.length hi - HT.sIx its.length 0 lo)).toArray:=by
 obtain⟨h1,h2,h3⟩:=qJm lo hi its.toArray.size
 unfold slicePick
 rw[h1,h2,h3]
 simp only[sliceRange_one,pick_run,List.size_toArray] <;> rfl
noncomputable def rSlL (K:PySem.W.Frag):V→Option Int→Option Int→Hp→VK→Prop:=fun x lo hi H Q=>∃a xs,x=.ref a∧SqL K H a xs∧∀p,H p=none→Q (.ref p) (upd H p (.lst (cutV xs lo hi)))
theorem qMm:SlR X (rSlL X.K):=by
 intro pins s σ H x v vl vu lo hi sl Q I rx hs pl pu h
 obtain⟨a,xs,rfl,hx,q⟩:=h
 cases rx
 obtain⟨its,r,ht,hz⟩:=I.list hx
 have hlen:=r.length
 refine⟨"list",_,slot_list_getitem.lookup,ht.isList.typeIs,?_⟩
 refine wpAny_getItem_list_slice ht.isList hs pl pu .none (by simp) ?_ (by rw[List.size_toArray] <;> omega)
 rw[qZi,← hlen]
 refine⟨.ref s.heap.objs.size,_,I.laid (t':=s.toks) (o:=.lst (cutV xs lo hi)) (fun b ob q=>Heap.get?_push_of_some _ q) (Nat.le_refl _) ?_,rfl,q _ (I.hok.fresh (Nat.le_refl _))⟩
 exact⟨Nat.le_trans (qQo xs lo hi) hz,_,0,(r.drop (HT.sIx xs.length 0 lo)).take (HT.sIx xs.length xs.length hi - HT.sIx xs.length 0 lo),Heap.get?_push_size _ rfl⟩

noncomputable def flatV:V→Bool
 | .non=>true
 | .bl _=>true
 | .int _=>true
 | .str _=>true
 | _=>false
noncomputable def eqV:V→V→Bool
 | .non,.non=>true
 | .bl a,.bl b=>a == b
 | .bl a,.int b=>(if a then 1 else 0) == b
 | .int a,.bl b=>a == (if b then 1 else 0)
 | .int a,.int b=>a == b
 | .str a,.str b=>a == b
 | _,_=>false
theorem qMv {A:Around}{s:Shared}{y x:V}{u v:Value}(ry:RelV y u)(rx:RelV x v)(fy:flatV y=true)(fx:flatV x=true):SeqAt.EqAt A s u v (eqV y x):=by
 cases y with
 | non=>
  cases ry
  cases x with
  | non=>cases rx;exact SeqAt.EqAt.same _
  | bl b=>cases rx;exact SeqAt.EqAt.none_bool b
  | int b=>obtain⟨t,rfl⟩:=rx;exact SeqAt.EqAt.none_int b t
  | str b=>obtain⟨t,rfl⟩:=rx;exact SeqAt.EqAt.none_str b t
  | _=>exact absurd (show false=true from fx) Bool.false_ne_true
 | bl a=>
  cases ry
  cases x with
  | non=>cases rx;exact SeqAt.EqAt.bool_none a
  | bl b=>cases rx;exact SeqAt.EqAt.bool_bool a b
  | int b=>obtain⟨t,rfl⟩:=rx;exact SeqAt.EqAt.bool_int a b t
  | str b=>obtain⟨t,rfl⟩:=rx;exact SeqAt.EqAt.bool_str a b t
  | _=>exact absurd (show false=true from fx) Bool.false_ne_true
 | int a=>
  obtain⟨t',rfl⟩:=ry
  cases x with
  | non=>cases rx;exact SeqAt.EqAt.int_none a t'
  | bl b=>cases rx;exact SeqAt.EqAt.int_bool a t' b
  | int b=>obtain⟨t,rfl⟩:=rx;exact SeqAt.EqAt.int_int a t' b t
  | str b=>obtain⟨t,rfl⟩:=rx;exact SeqAt.EqAt.int_str a t' b t
  | _=>exact absurd (show false=true from fx) Bool.false_ne_true
 | str a=>
  obtain⟨t',rfl⟩:=ry
  cases x with
  | non=>cases rx;exact SeqAt.EqAt.str_none a t'
  | bl b=>cases rx;exact SeqAt.EqAt.str_bool a t' b
  | int b=>obtain⟨t,rfl⟩:=rx;exact SeqAt.EqAt.str_int a t' b t
  | str b=>obtain⟨t,rfl⟩:=rx;exact SeqAt.EqAt.str_str a t' b t
  | _=>exact absurd (show false=true from fx) Bool.false_ne_true
 | _=>exact absurd (show false=true from fy) Bool.false_ne_true
noncomputable def eqU (x:V)(u:Value):Bool:=match u with
 | .none=>eqV .non x
 | .bool b=>eqV (.bl b) x
 | .int i _=>eqV (.int i) x
 | .str z _=>eqV (.str z) x
 | _=>false
theorem qMk {x y:V}{u:Value}(r:RelV y u)(f:flatV y=true):eqU x u=eqV y x:=by
 cases y with
 | non=>cases r;rfl
 | bl b=>cases r;rfl
 | int i=>obtain⟨t,rfl⟩:=r;rfl
 | str z=>obtain⟨t,rfl⟩:=r;rfl
 | _=>exact absurd (show false=true from f) Bool.false_ne_true
theorem qXx {x:V}:∀{xs:List V} {us:List Value},Vals xs us→xs.all flatV=true→us.any (eqU x)=xs.any fun y=>eqV y x
 | _,_,.nil,_=>rfl
 | y::xs,u::us,.cons r t,f=>by
  rw[List.all_cons,Bool.and_eq_true] at f
  rw[List.any_cons,List.any_cons,qMk r f.1,qXx t f.2]
theorem vB {A:Around}{s:Shared}{x:V}{v:Value}(rx:RelV x v)(fx:flatV x=true):∀{xs:List V} {us:List Value},Vals xs us→xs.all flatV=true→∀u∈us,SeqAt.EqAt A s u v (eqU x u)
 | _,_,.nil,_=>fun u hu=>by cases hu
 | y::xs,u::us,.cons r t,f=>fun u' hu=>by
  rw[List.all_cons,Bool.and_eq_true] at f
  rcases List.mem_cons.mp hu with rfl | hu
  ·rw[qMk r f.1];exact qMv r rx f.1 fx
  ·exact vB rx fx t f.2 u' hu
noncomputable def inV (x:V)(xs:List V):Bool:=xs.any fun y=>eqV y x
noncomputable def rIn (K:PySem.W.Frag)(neg:Bool):R2:=fun x y H Q=>∃p xs,y=.ref p∧(SqL K H p xs∨SqT K H p xs)∧flatV x=true∧xs.all flatV=true∧Q (.bl (if neg then !inV x xs else inV x xs)) H
theorem qDx:OpR X (compareOp .In) (rIn X.K false):=by
 intro pins s σ H x y v u Q I rx ry h
 obtain⟨p,xs,rfl,hq,fx,fs,q⟩:=h
 cases ry
 rcases hq with hq | hq
 ·obtain⟨its,r,pl,hz⟩:=I.list hq
  refine SeqAt.in_listAt (eqU x) pl.isList (fun w hw=>vB rx fx r fs w (by simpa using hw)) ⟨.bl _,H,I,rfl,?_⟩
  rw[show its.toArray.any (eqU x)=its.any (eqU x) by simp,qXx r fs]
  exact q
 ·obtain⟨its,r,pl,hz⟩:=I.tuple hq
  refine SeqAt.in_tupleAt (eqU x) pl (fun w hw=>vB rx fx r fs w (by simpa using hw)) ⟨.bl _,H,I,rfl,?_⟩
  rw[show its.toArray.any (eqU x)=its.any (eqU x) by simp,qXx r fs]
  exact q
theorem qYz:OpR X (compareOp .NotIn) (rIn X.K true):=by
 intro pins s σ H x y v u Q I rx ry h
 obtain⟨p,xs,rfl,hq,fx,fs,q⟩:=h
 cases ry
 rcases hq with hq | hq
 ·obtain⟨its,r,pl,hz⟩:=I.list hq
  refine SeqAt.notIn_listAt (eqU x) pl.isList (fun w hw=>vB rx fx r fs w (by simpa using hw)) ⟨.bl _,H,I,rfl,?_⟩
  rw[show its.toArray.any (eqU x)=its.any (eqU x) by simp,qXx r fs]
  exact q
 ·obtain⟨its,r,pl,hz⟩:=I.tuple hq
  refine SeqAt.notIn_tupleAt (eqU x) pl (fun w hw=>vB rx fx r fs w (by simpa using hw)) ⟨.bl _,H,I,rfl,?_⟩
  rw[show its.toArray.any (eqU x)=its.any (eqU x) by simp,qXx r fs]
  exact q
theorem wW:CallR X (.builtin "len") (fun xs H Q=>∃p ys,xs=[.ref p]∧(SqL X.K H p ys∨SqT X.K H p ys)∧Q (.int ys.length) H):=by
 intro pins s σ H xs us Q I r h
 obtain⟨p,ys,rfl,hq,q⟩:=h
 obtain⟨u,rfl,rx⟩:=vals1 r
 cases rx
 have hn:=line63
 rcases hq with hq | hq
 ·obtain⟨its,r',pl,hz⟩:=I.list hq
  have hlen:=r'.length
  exact Calls.call_len_list pl.isList (by simp only[List.size_toArray] <;> omega) ⟨.int ys.length,H,I.tok _,⟨s.toks+1,by rw[List.size_toArray,hlen]⟩,q⟩
 ·obtain⟨its,r',pl,hz⟩:=I.tuple hq
  have hlen:=r'.length
  exact len_tuple pl (by simp only[List.size_toArray] <;> omega) ⟨.int ys.length,H,I.tok _,⟨s.toks+1,by rw[List.size_toArray,hlen]⟩,q⟩
theorem qYo:CallR X (.type "list") (fun xs H Q=>∃p ys,xs=[.ref p]∧(SqL X.K H p ys∨SqT X.K H p ys)∧∀l,H l=none→Q (.ref l) (upd H l (.lst ys))):=by
 intro pins s σ H xs us Q I r h
 obtain⟨p,ys,rfl,hq,q⟩:=h
 obtain⟨u,rfl,rx⟩:=vals1 r
 cases rx
 have fin:∀(its:List Value),Vals ys its→ys.length≤sizeLine→∀(h':Heap) (c':Nat),(∀b o',s.heap.get? b=some o'→h'.get? b=some o')→
   h'.get? s.heap.objs.size=some { cls:=.type "list",dict:=none,data:=.seq its.toArray c',slots:=#[] }→EP X pins σ Q (.ref s.heap.objs.size) { s with heap:=h' }:=fun its r' hz h' c' kp e=>
  ⟨.ref s.heap.objs.size,_,I.laid (t':=s.toks) kp (Nat.le_refl _) (show ObjOk X.prog X.w _ h' _ (.lst ys) from⟨hz,its,c',r',e⟩),rfl,q _ (I.hok.fresh (Nat.le_refl _))⟩
 rcases hq with hq | hq
 ·obtain⟨its,r',pl,hz⟩:=I.list hq
  have hlen:=r'.length
  obtain⟨o,ho,hc,n,hd⟩:=pl.isList
  exact call_list_seq p (.inl rfl) ho hc hd (fun h' c' kp e=>fin its r' hz h' c' kp e) (by simp only[List.size_toArray] <;> omega)
 ·obtain⟨its,r',pl,hz⟩:=I.tuple hq
  have hlen:=r'.length
  obtain⟨o,ho,hc,n,hd⟩:=pl
  exact call_list_seq p (.inr rfl) ho hc hd (fun h' c' kp e=>fin its r' hz h' c' kp e) (by simp only[List.size_toArray] <;> omega)
noncomputable def tyV (K:PySem.W.Frag)(T:String)(x:V)(H:Hp):Prop:=match x with
 | .str _=>T = "str"
 | .int _=>T = "int"
 | .ref p=>(T = "list" ∧ ∃xs,SqL K H p xs)∨(T = "tuple" ∧ ∃o,K.lookup p=some o∧o.cls=.type "tuple" ∧ o.dict=none)∨
   (T = "dict" ∧ ((∃kvs,H p=some (.dK kvs))∨∃kvs,H p=some (.dT kvs)))∨(T = "set" ∧ ∃S n,H p=some (.set S n))
 | _=>False
theorem qId {pins:List (Addr×Obj)}{σ:St}{H:Hp}{s:Shared}{T:String}{x:V}{v:Value}(I:Inv X pins σ H s)(r:RelV x v)(ty:tyV X.K T x H):
  s.TypeIs v T∧∀a,v=.ref a→∃ob,s.heap.get? a=some ob∧ob.dict=none:=by
 cases x with
 | str z=>
  obtain⟨t,rfl⟩:=r
  cases(show T = "str" from ty)
  exact⟨typeIs_str s z t,fun _ e=>nomatch e⟩
 | int i=>
  obtain⟨t,rfl⟩:=r
  cases(show T = "int" from ty)
  exact⟨typeIs_int s i t,fun _ e=>nomatch e⟩
 | ref p=>
  cases r
  rcases ty with⟨rfl,xs,hq⟩ | ⟨rfl,o,hk,hc,hd⟩ | ⟨rfl,hk⟩ | ⟨rfl,S,n,hk⟩
  ·obtain⟨its,_,pl,_⟩:=I.list hq
   refine⟨pl.isList.typeIs,fun a e=>?_⟩
   cases e
   obtain⟨o,n,e,c,hd,_⟩:=pl
   exact⟨o,e,hd⟩
  ·refine⟨⟨o,I.kIn p o hk,hc⟩,fun a e=>?_⟩
   cases e
   exact⟨o,I.kIn _ o hk,hd⟩
  ·have z:∃o,s.heap.get? p=some o∧o.ExactDict:=by
    rcases hk with⟨kvs,hk⟩ | ⟨kvs,hk⟩
    ·obtain⟨_,_,_,_,o,_,_,e,ex,_⟩:=I.hok p _ hk
     exact⟨o,e,ex⟩
    ·obtain⟨_,_,_,_,o,_,_,e,ex,_⟩:=I.hok p _ hk
     exact⟨o,e,ex⟩
   obtain⟨o,e,ex⟩:=z
   refine⟨⟨o,e,ex.1⟩,fun a e2=>?_⟩
   cases e2
   exact⟨o,e,ex.2.1⟩
  ·obtain⟨o,_,_,_,e,ex,_⟩:=I.hok p _ hk
   refine⟨⟨o,e,ex.1⟩,fun a e2=>?_⟩
   cases e2
   exact⟨o,e,ex.2.1⟩
 | _=>exact False.elim ty
noncomputable def tBM0 (K:PySem.W.Frag)(T:String)(r:V→List V→Hp→VK→Prop)(to:TE):TE:=fun σ H Q=>to σ H fun x H1=>tyV K T x H1∧r x [] H1 Q
noncomputable def tBM (K:PySem.W.Frag)(T:String)(r:V→List V→Hp→VK→Prop)(to:TE)(t:TA):TE:=fun σ H Q=>to σ H fun x H1=>tyV K T x H1∧t σ H1 fun xs H2=>r x xs H2 Q
variable {o e:Expr}{es:List Expr}{to:TE}{t:TA}{name:Str}{apos cpos:Pos}{T id:String}{r:V→List V→Hp→VK→Prop}
theorem qRc (pa:PlainAttrs T)(slot:Slot T name id)(hty:typeOf (.builtin id)=pure (.type "method_descriptor"))(hm:MtR X id r)(ho:PE X o to)
  (hbase:attributeBase o name X.env (eval o X.env)=eval o X.env:=by rfl) (hline:(apos.endLine == cpos.line)=true:=by rfl):PE X (.Call (.Attribute o name apos) [] [] cpos) (tBM0 X.K T r to):=by
 intro pins s σ H Q I h
 refine wpAny_Call_method0_late hbase hline (thn (ho pins s σ H _ I h) fun v s1 ⟨x,H1,I1,r1,ty,q1⟩=>?_)
 obtain⟨h1,h2⟩:=qId I1 r1 ty
 exact⟨T,id,pa,slot,hty,h1,h2,Calls.callWith_builtin rfl (PySem.evalArgs_none (hm pins s1 σ H1 x [] v [] Q I1 r1 .nil q1))⟩
theorem qTi (pa:PlainAttrs T)(slot:Slot T name id)(hty:typeOf (.builtin id)=pure (.type "method_descriptor"))(hm:MtR X id r)(ho:PE X o to)(ha:PA X (e::es) t)
  (hbase:attributeBase o name X.env (eval o X.env)=eval o X.env:=by rfl)
  (hfew:((backTo cpos (starEach (e::es) X.env)).all (fun x=>!x.1) && (backToKw cpos (keywordEach [] X.env)).all (fun x=>x.1.isSome)
   && decide ((e::es).length+([]:List Keyword).length+(if ([]:List Keyword).isEmpty then 0 else 1)<30))=true:=by rfl)
  (hline:(apos.endLine == cpos.line)=true:=by rfl) (hs:starEach (e::es) X.env=(false,eval e X.env)::starEach es X.env:=by rfl) (hplain:(backTo cpos (starEach es X.env)).any (·.1)=false:=by rfl):
  PE X (.Call (.Attribute o name apos) (e::es) [] cpos) (tBM X.K T r to t):=by
 intro pins s σ H Q I h
 refine wpAny_Call_method_late hbase hfew hline rfl (thn (ho pins s σ H _ I h) fun v s1 ⟨x,H1,I1,r1,ty,q1⟩=>?_)
 obtain⟨h1,h2⟩:=qId I1 r1 ty
 refine⟨T,id,pa,slot,hty,h1,h2,?_⟩
 have hA:=ha cpos pins s1 σ H1 _ I1 q1
 rw[hs] at hA ⊢
 refine Calls.callWith_builtin (by show(false || (backTo cpos (starEach es X.env)).any (·.1))=false;rw[hplain] <;> rfl) (Calls.evalArgs_plain ?_)
 exact thn hA fun us s2 ⟨vs,H2,I2,r2,q2⟩=>hm pins s2 σ H2 x vs v us Q I2 r1 r2 q2
end
end L2

namespace L2
open PySem PySem.Spec PyProof.Rows

noncomputable def MtM (X:Cx)(id:String)(r:V→List V→Hp→VK→Prop):Prop:=
 ∀(pins:List (Addr×Obj)) (s:Shared) (σ:St) (H:Hp) (x:V) (xs:List V) (v:Value) (us:List Value) (Q:VK),Inv X pins σ H s→RelV x v→Vals xs us→r x xs H Q→
  wpAny (model X.prog X.w) X.A (call (.builtin id) (v::us)) (EP X pins σ Q) X.xe s

theorem Vals.one {x:V}{us:List Value}(h:Vals [x] us):∃u,us=[u]∧RelV x u:=by
 cases h with
 | cons r t=>
  cases t
  exact⟨_,rfl,r⟩
theorem Vals.zero:∀{us:List Value},Vals [] us→us=[]
 | _,.nil=>rfl
theorem Vals.dropLast {xs:List V}{us:List Value}(h:Vals xs us):Vals xs.dropLast us.dropLast:=by
 induction h with
 | nil=>exact .nil
 | cons r t ih=>
  cases t with
  | nil=>exact .nil
  | cons q t'=>exact .cons r ih
theorem Vals.eraseIdx:∀{xs:List V} {us:List Value} (i:Nat),Vals xs us→Vals (xs.eraseIdx i) (us.eraseIdx i)
 | _,_,_,.nil=>.nil
 | _,_,0,.cons _ t=>t
 | _,_,i+1,.cons r t=>.cons r (Vals.eraseIdx i t)
theorem Vals.reverse {xs:List V}{us:List Value}(h:Vals xs us):Vals xs.reverse us.reverse:=by
 induction h with
 | nil=>exact .nil
 | cons r t ih=>rw[List.reverse_cons,List.reverse_cons];exact Vals.append ih (.cons r .nil)
theorem Vals.rep {xs:List V}{us:List Value}(h:Vals xs us):∀k:Nat,Vals (List.replicate k xs).flatten (List.replicate k us).flatten
 | 0=>.nil
 | k+1=>by
  rw[List.replicate_succ,List.replicate_succ,List.flatten_cons,List.flatten_cons]
  exact Vals.append h (Vals.rep h k)
theorem qBd {α:Type}(l:List α):l.eraseIdx (l.length - 1)=l.dropLast:=by
 induction l with
 | nil=>rfl
 | cons a r ih=>
  cases r with
  | nil=>rfl
  | cons b r=>
   have e:(a::b::r).length - 1=((b::r).length - 1)+1:=by
    have h1:(a::b::r).length=r.length+2:=rfl
    have h2:(b::r).length=r.length+1:=rfl
    omega
   rw[e,List.eraseIdx_cons_succ,ih]
   all_goals rfl
theorem qYc {α:Type}:∀(l:List α) (i:Nat),(l.eraseIdx i).length≤l.length
 | [],_=>Nat.le_refl _
 | _::_,0=>Nat.le_succ _
 | _::r,i+1=>Nat.succ_le_succ (qYc r i)
theorem qYf (its:List Value):∀(k:Nat) (acc:List Value),
  List.foldl (fun x1 x2=>x1++x2) acc.toArray (List.replicate k its.toArray)=(acc++(List.replicate k its).flatten).toArray
 | 0,acc=>by simp
 | k+1,acc=>by
  have e:acc.toArray++its.toArray=(acc++its).toArray:=by simp
  have e2:(acc++its)++(List.replicate k its).flatten=acc++(List.replicate (k+1) its).flatten:=by
   rw[List.replicate_succ,List.flatten_cons,List.append_assoc]
  rw[← e2,← qYf its k (acc++its),← e,List.replicate_succ,List.foldl_cons]

section
variable {X:Cx}{pins:List (Addr×Obj)}{σ:St}{H:Hp}{s:Shared}{l b:Addr}{xs ys zs:List V}

theorem Inv.lset {its its':List Value}{n:Nat}{f:Array Value→Array Value}{t':Nat}(I:Inv X pins σ H s)(hH:H l=some (.lst xs))
  (e:s.heap.get? l=some { cls:=.type "list",data:=.seq its.toArray n }) (hf:f its.toArray=its'.toArray) (hv:Vals ys its') (hz:ys.length≤sizeLine):
  Inv X pins σ (upd H l (.lst ys)) { s with heap:=s.heap.update l (Obj.mapSeq f),toks:=t' }:=by
 have q:=PySem.IsL.update e f
 rw[hf] at q
 refine I.write (x:=l) (e:=l) (by rw[hH];exact trivial) (.inl rfl) (fun b' u hb hu=>(Heap.get?_update_other s.heap (Obj.mapSeq f) (Ne.symm hb)).trans hu) ⟨_,q⟩ ?_
 exact⟨hz,its',_,hv,q⟩
theorem Inv.lnew {its:List Value}{t':Nat}(I:Inv X pins σ H s)(hv:Vals ys its)(hz:ys.length≤sizeLine):
  Inv X pins σ (upd H s.heap.objs.size (.lst ys)) { s with heap:=s.heap.push { cls:=.type "list",data:=.seq its.toArray },toks:=t' }:=
 I.laid (fun _ _ q=>Heap.get?_push_of_some _ q) (Nat.le_refl _) ⟨hz,its,0,hv,Heap.get?_push_size _ rfl⟩
theorem Inv.fresh (I:Inv X pins σ H s):H s.heap.objs.size=none:=I.hok.fresh (Nat.le_refl _)
theorem Inv.lstM (I:Inv X pins σ H s)(hH:H l=some (.lst xs)):xs.length≤sizeLine∧∃(its:List Value) (n:Nat),Vals xs its∧xs.length=its.length∧s.heap.get? l=some { cls:=.type "list",data:=.seq its.toArray n }:=by
 obtain⟨z,its,n,r,e⟩:=I.hok l _ hH
 exact⟨z,its,n,r,r.length,e⟩

theorem qWn {n:Nat}(h:n≤sizeLine):Builtin.List.listTooLong n=false:=by
 unfold Builtin.List.listTooLong
 exact decide_eq_false (by omega)
end

section
variable {X:Cx}

noncomputable def qKh:V→List V→Hp→VK→Prop:=fun x vs H Q=>∃l xs y,x=.ref l∧vs=[y]∧H l=some (.lst xs)∧xs.length<sizeLine∧Q .non (upd H l (.lst (xs++[y])))
theorem xS:MtM X "list.append" qKh:=by
 intro pins s σ H x vs v us Q I rx rv h
 obtain⟨l,xs,y,rfl,rfl,hH,hz,q⟩:=h
 cases rx
 obtain⟨u,rfl,ru⟩:=rv.one
 obtain⟨z,its,n,r,hl,e⟩:=I.lstM hH
 refine call_meets F.slot_list_append ⟨_,e,rfl⟩ F.entry_list_append (F.args_list_append_2 _ _) (PySem.list_append l its.toArray n u (by rw[List.size_toArray];omega)) ⟨e,?_⟩
 refine⟨.non,_,I.lset (its':=its++[u]) hH e (by simp) (r.append (.cons ru .nil)) ?_,rfl,q⟩
 rw[List.length_append,List.length_singleton]
 omega

noncomputable def qNx:V→List V→Hp→VK→Prop:=fun x vs H Q=>∃l b xs zs,x=.ref l∧vs=[.ref b]∧H l=some (.lst xs)∧H b=some (.lst zs)∧xs.length+zs.length≤sizeLine∧Q .non (upd H l (.lst (xs++zs)))
theorem qQd:MtM X "list.extend" qNx:=by
 intro pins s σ H x vs v us Q I rx rv h
 obtain⟨l,b,xs,zs,rfl,rfl,hH,hB,hz,q⟩:=h
 cases rx
 obtain⟨u,rfl,ru⟩:=rv.one
 cases ru
 obtain⟨z,its,n,r,hl,e⟩:=I.lstM hH
 obtain⟨z2,its2,n2,r2,hl2,e2⟩:=I.lstM hB
 have hsz:its.toArray.size+its2.toArray.size≤sizeLine:=by rw[List.size_toArray,List.size_toArray];omega
 have hlong:¬(!its.toArray.isEmpty && Builtin.List.listTooLong (its.toArray.size+its2.toArray.size))=true:=by
  rw[qWn hsz,Bool.and_false]
  exact Bool.false_ne_true
 refine call_meets F.slot_list_extend ⟨_,e,rfl⟩ F.entry_list_extend (F.args_list_extend_2 _ _)
  (AutoSeq1.list_extend_list_list_0 l its.toArray n b its2.toArray n2 hlong (by rw[List.size_toArray];omega) (by omega)) ⟨e,e2,?_⟩
 refine⟨.non,_,I.lset (its':=its++its2) hH e (by simp) (r.append r2) ?_,rfl,q⟩
 rw[List.length_append]
 omega

noncomputable def rPop:V→List V→Hp→VK→Prop:=fun x vs H Q=>∃l xs y,x=.ref l∧vs=[]∧H l=some (.lst xs)∧xs[xs.length - 1]? = some y∧Q y (upd H l (.lst xs.dropLast))
theorem qSx:MtM X "list.pop" rPop:=by
 intro pins s σ H x vs v us Q I rx rv h
 obtain⟨l,xs,y,rfl,rfl,hH,hy,q⟩:=h
 cases rx
 have hus:=rv.zero
 subst hus
 obtain⟨z,its,n,r,hl,e⟩:=I.lstM hH
 obtain⟨u,hu,ru⟩:=r.get hy
 have hy':its.toArray[its.toArray.size - 1]? = some u:=by
  show its.toArray[its.length - 1]? = some u
  rw[← Array.getElem?_toList,← hl]
  exact hu
 refine call_meets F.slot_list_pop ⟨_,e,rfl⟩ F.entry_list_pop (F.args_list_pop_1 _) (MeetsSeq.list_pop_last l its.toArray n u hy' (by rw[List.size_toArray];omega)) ⟨e,?_⟩
 refine⟨y,_,I.lset (its':=its.dropLast) hH e ?_ r.dropLast ?_,ru,q⟩
 ·show its.toArray.eraseIdxIfInBounds (its.toArray.size - 1)=its.dropLast.toArray
  rw[List.size_toArray,List.eraseIdxIfInBounds_toArray,qBd]
 ·rw[List.length_dropLast]
  omega

noncomputable def rPopAt:V→List V→Hp→VK→Prop:=fun x vs H Q=>∃l xs i k y,x=.ref l∧vs=[.int i]∧H l=some (.lst xs)∧-(2 ^ 63)≤i∧i<2 ^ 63∧seqIndex? i xs.length=some k∧xs[k]? = some y∧Q y (upd H l (.lst (xs.eraseIdx k)))
theorem qHf:MtM X "list.pop" rPopAt:=by
 intro pins s σ H x vs v us Q I rx rv h
 obtain⟨l,xs,i,k,y,rfl,rfl,hH,h1,h2,hk,hy,q⟩:=h
 cases rx
 obtain⟨u,rfl,ru⟩:=rv.one
 obtain⟨t,rfl⟩:=ru
 obtain⟨z,its,n,r,hl,e⟩:=I.lstM hH
 obtain⟨w,hw,rw'⟩:=r.get hy
 refine call_meets F.slot_list_pop ⟨_,e,rfl⟩ F.entry_list_pop (F.args_list_pop_2 _ _)
  (MeetsSeq.list_pop_at l its.toArray n i t k w (fitsIndex_both h1 h2) (by rw[List.size_toArray,← hl];exact hk) (by rw[← Array.getElem?_toList];exact hw) (by rw[List.size_toArray];omega)) ⟨e,?_⟩
 refine⟨y,_,I.lset (its':=its.eraseIdx k) hH e ?_ (r.eraseIdx k) ?_,rw',q⟩
 ·show its.toArray.eraseIdxIfInBounds k=(its.eraseIdx k).toArray
  rw[List.eraseIdxIfInBounds_toArray]
 ·have:=qYc xs k
  omega

noncomputable def qWe:V→List V→Hp→VK→Prop:=fun x vs H Q=>∃l xs,x=.ref l∧vs=[]∧H l=some (.lst xs)∧Q .non (upd H l (.lst xs.reverse))
theorem qBv:MtM X "list.reverse" qWe:=by
 intro pins s σ H x vs v us Q I rx rv h
 obtain⟨l,xs,rfl,rfl,hH,q⟩:=h
 cases rx
 have hus:=rv.zero
 subst hus
 obtain⟨z,its,n,r,hl,e⟩:=I.lstM hH
 refine call_meets F.slot_list_reverse ⟨_,e,rfl⟩ F.entry_list_reverse (F.args_list_reverse_1 _) (AutoSeq1.list_reverse_list_0 l its.toArray n (by rw[List.size_toArray];omega)) ⟨e,?_⟩
 refine⟨.non,_,I.lset (its':=its.reverse) hH e (by simp) r.reverse ?_,rfl,q⟩
 rw[List.length_reverse]
 omega

noncomputable def rCat:R2:=fun x y H Q=>∃l b xs zs,x=.ref l∧y=.ref b∧H l=some (.lst xs)∧H b=some (.lst zs)∧xs.length+zs.length≤sizeLine∧∀p,H p=none→Q (.ref p) (upd H p (.lst (xs++zs)))
theorem qQv:OpR X (binaryOp .Add) rCat:=by
 intro pins s σ H x y v u Q I rx ry h
 obtain⟨l,b,xs,zs,rfl,rfl,hH,hB,hz,q⟩:=h
 cases rx
 cases ry
 obtain⟨z,its,n,r,hl,e⟩:=I.lstM hH
 obtain⟨z2,its2,n2,r2,hl2,e2⟩:=I.lstM hB
 refine PySem.P.add_list e e2 ?_ (by rw[List.size_toArray,List.size_toArray];omega)
 have ea:its.toArray++its2.toArray=(its++its2).toArray:=by simp
 rw[ea]
 exact⟨.ref _,_,I.lnew (t':=s.toks) (r.append r2) (by rw[List.length_append];omega),rfl,q _ I.fresh⟩
noncomputable def rRep:R2:=fun x y H Q=>∃l k xs,x=.ref l∧y=.int k∧H l=some (.lst xs)∧-(2 ^ 63)≤k∧k<2 ^ 63∧xs.length * k.toNat≤sizeLine∧
 ∀p,H p=none→Q (.ref p) (upd H p (.lst (List.replicate k.toNat xs).flatten))
theorem qOw {α:Type}(xs:List α)(k:Nat):(List.replicate k xs).flatten.length=k * xs.length:=by
 induction k with
 | zero=>simp
 | succ k ih=>rw[List.replicate_succ,List.flatten_cons,List.length_append,ih,Nat.succ_mul,Nat.add_comm]
theorem qRe:OpR X (binaryOp .Mult) rRep:=by
 intro pins s σ H x y v u Q I rx ry h
 obtain⟨l,k,xs,rfl,rfl,hH,h1,h2,hz,q⟩:=h
 cases rx
 obtain⟨t,rfl⟩:=ry
 obtain⟨z,its,n,r,hl,e⟩:=I.lstM hH
 have hlen:its.toArray.size * k.toNat≤sizeLine:=by rw[List.size_toArray,← hl];exact hz
 have hcap:¬its.toArray.size * k.toNat>(2 ^ 63 - 1) / 8:=by
  have:(sizeLine:Nat)≤(2 ^ 63 - 1) / 8:=by decide
  omega
 have hfit:¬(!Builtin.List.listFitsIndex k)=true:=by
  rw[fitsIndex_both h1 h2]
  exact Bool.false_ne_true
 have hlong:¬Builtin.List.listTooLong (its.toArray.size * k.toNat)=true:=by
  rw[qWn hlen]
  exact Bool.false_ne_true
 have hnew:List.foldl (fun x1 x2=>x1++x2) #[] (List.replicate (if its.toArray.isEmpty=true then 0 else k.toNat) its.toArray)=(List.replicate k.toNat its).flatten.toArray:=by
  have f0:∀m:Nat,List.foldl (fun x1 x2=>x1++x2) #[] (List.replicate m its.toArray)=(List.replicate m its).flatten.toArray:=fun m=>by
   have:=qYf its m []
   rw[List.nil_append] at this
   exact this
  rw[f0]
  cases its with
  | nil=>simp
  | cons a r'=>rw[if_neg (by simp)]
 refine wpAny_binaryOp_repeat_ref (T := "list") (U := "int") (by decide) ⟨_,e,rfl⟩ (fun s'=>typeIs_int s' k t) noFill_list_mul F.fills_int_mul F.slot_int_rmul repeat_list F.slot_int_index.lookup
  (call_meets F.slot_int_rmul (typeIs_int s k t) F.entry_int_rmul (F.args_int_rmul_2 _ _) (int___rmul___int_list k t l its.toArray n)
   ⟨e,rfl,⟨_,e,rfl⟩,call_meets F.slot_list_mul ⟨_,e,rfl⟩ F.entry_list_mul (F.args_list_mul_2 _ _) (AutoListH.list___mul___list_int_3 l its.toArray n k t hfit hcap hlong) ⟨e,?_⟩⟩)
 rw[hnew]
 exact⟨.ref _,_,I.lnew (t':=s.toks) (r.rep k.toNat) (by rw[qOw,Nat.mul_comm];exact hz),rfl,q _ I.fresh⟩

end

section
variable {prog:Program}{w:World}{A:Around}{E:Value→Shared→Prop}{s:Shared}
end

section
variable {X:Cx}
end
end L2

namespace L2
open PySem PySem.Spec PyProof.Rows

section
variable {κ:Type}[DecidableEq κ]
noncomputable def valV (kvs:List (κ×V))(k:κ):Option V:=(kvs.find? fun kv=>decide (kv.1=k)).map (·.2)
noncomputable def putK (kvs:List (κ×V))(k:κ)(v:V):List (κ×V):=
 if (kvs.any fun kv=>decide (kv.1=k))=true then kvs.map (fun kv=>if kv.1=k then (kv.1,v) else kv) else kvs++[(k,v)]
theorem jX {p:κ×V}{r:List (κ×V)}{k:κ}(e:p.1=k):valV (p::r) k=some p.2:=by simp[valV,List.find?_cons,e]
theorem jZ {p:κ×V}{r:List (κ×V)}{k:κ}(e:¬p.1=k):valV (p::r) k=valV r k:=by simp[valV,List.find?_cons,e]
theorem qZc (k:κ):∀kvs:List (κ×V),(kvs.any fun kv=>decide (kv.1=k))=(valV kvs k).isSome
 | []=>rfl
 | p::r=>by
  rw[List.any_cons]
  by_cases e:p.1=k
  ·simp only[jX e,decide_eq_true e,Bool.true_or,Option.isSome_some]
  ·rw[jZ e,decide_eq_false e,Bool.false_or];exact qZc k r
theorem qWz (k j:κ)(y:V):∀kvs:List (κ×V),valV (kvs.map fun kv=>if kv.1=k then (kv.1,y) else kv) j=(valV kvs j).map fun x=>if j=k then y else x
 | []=>rfl
 | p::r=>by
  have ih:=qWz k j y r
  rw[List.map_cons]
  by_cases h:p.1=k
  ·rw[if_pos h]
   by_cases e:p.1=j
   ·rw[jX (p:=(p.1,y)) e,jX e,Option.map_some,if_pos (e.symm.trans h)]
   ·rw[jZ (p:=(p.1,y)) e,jZ e,ih]
  ·rw[if_neg h]
   by_cases e:p.1=j
   ·rw[jX (p:=p) e,jX e,Option.map_some,if_neg (fun z=>h (e.trans z))]
   ·rw[jZ (p:=p) e,jZ e,ih]
theorem qJg (k j:κ)(y:V):∀kvs:List (κ×V),valV kvs k=none→valV (kvs++[(k,y)]) j=if j=k then some y else valV kvs j
 | [],_=>by
  by_cases e:k=j
  ·rw[if_pos e.symm];exact jX (p:=(k,y)) e
  ·rw[if_neg (fun z=>e z.symm)];exact jZ (p:=(k,y)) e
 | p::r,hn=>by
  rw[List.cons_append]
  have hk:¬p.1=k:=fun z=>by rw[jX z] at hn;cases hn
  rw[jZ hk] at hn
  have ih:=qJg k j y r hn
  by_cases e:p.1=j
  ·rw[jX e,jX e,if_neg (fun z=>hk (e.trans z))]
  ·rw[jZ e,jZ e,ih]
theorem qWx (kvs:List (κ×V))(k j:κ)(y:V):valV (putK kvs k y) j=if j=k then some y else valV kvs j:=by
 unfold putK
 by_cases a:(kvs.any fun kv=>decide (kv.1=k))=true
 ·rw[if_pos a,qWz]
  rw[qZc] at a
  by_cases e:j=k
  ·obtain⟨x,hx⟩:=Option.isSome_iff_exists.mp a
   rw[if_pos e,e,hx,Option.map_some,if_pos rfl]
  ·rw[if_neg e]
   cases valV kvs j with
   | none=>rfl
   | some x=>rw[Option.map_some,if_neg e]
 ·rw[if_neg a]
  refine qJg k j y kvs ?_
  rw[qZc] at a
  cases q:valV kvs k with
  | none=>rfl
  | some x=>rw[q] at a;exact(a rfl).elim
theorem qVv (kvs:List (κ×V))(k:κ)(v:V):(putK kvs k v).length≤kvs.length+1:=by
 unfold putK
 split
 ·rw[List.length_map];omega
 ·rw[List.length_append,List.length_cons,List.length_nil];omega
theorem KV.val {kvs:List (κ×V)}{vs:List (κ×Value)}(r:KV kvs vs)(k:κ):RelO (valV kvs k) (valueAt vs k):=by
 unfold KV at r
 induction r with
 | nil=>exact True.intro
 | @cons p q ps qs h t ih=>
  obtain⟨h1,h2⟩:=h
  by_cases e:p.1=k
  ·have e':q.1=k:=h1.symm.trans e
   have b:valueAt (q::qs) k=some q.2:=by simp[valueAt,List.find?_cons,e']
   rw[jX e,b];exact h2
  ·have e':¬q.1=k:=fun z=>e (h1.trans z)
   have b:valueAt (q::qs) k=valueAt qs k:=by simp[valueAt,List.find?_cons,e']
   rw[jZ e,b];exact ih
theorem KV.any {kvs:List (κ×V)}{vs:List (κ×Value)}(r:KV kvs vs)(k:κ):(kvs.any fun kv=>decide (kv.1=k))=vs.any fun kv=>decide (kv.1=k):=by
 unfold KV at r
 induction r with
 | nil=>rfl
 | cons h t ih=>rw[List.any_cons,List.any_cons,ih,h.1]
theorem KV.repl {kvs:List (κ×V)}{vs:List (κ×Value)}(r:KV kvs vs)(k:κ){y:V}{u:Value}(ry:RelV y u):
  KV (kvs.map fun kv=>if kv.1=k then (kv.1,y) else kv) (vs.map fun kv=>if kv.1=k then (kv.1,u) else kv):=by
 unfold KV at r ⊢
 induction r with
 | nil=>exact .nil
 | @cons p q ps qs h t ih=>
  rw[List.map_cons,List.map_cons]
  refine .cons ?_ ih
  obtain⟨h1,h2⟩:=h
  by_cases e:p.1=k
  ·rw[if_pos e,if_pos (h1.symm.trans e)];exact⟨h1,ry⟩
  ·rw[if_neg e,if_neg (fun z=>e (h1.trans z))];exact⟨h1,h2⟩
theorem KV.put {kvs:List (κ×V)}{vs:List (κ×Value)}(r:KV kvs vs)(k:κ){y:V}{u:Value}(ry:RelV y u):KV (putK kvs k y) (stored vs k u):=by
 unfold putK stored
 rw[r.any k]
 by_cases e:(vs.any fun kv=>decide (kv.1=k))=true
 ·rw[if_pos e,if_pos e];exact r.repl k ry
 ·rw[if_neg e,if_neg e];exact Paired.snoc r ⟨rfl,ry⟩
theorem KV.length {kvs:List (κ×V)}{vs:List (κ×Value)}(r:KV kvs vs):kvs.length=vs.length:=Paired.length r
end

theorem qHh {P:Program}{w:World}{k:Key}{u:Value}(r:RelV (kV k) u):(zY P w).is k u=true:=by
 cases k with
 | inl i=>obtain⟨t,e⟩:=(show∃t,u=Value.int i t from r);subst e;exact qVj P w i t
 | inr x=>obtain⟨t,e⟩:=(show∃t,u=Value.str x t from r);subst e;exact jA P w x t
theorem qYd {P:Program}{w:World}:∀{ks:List Key} {us:List Value},Vals (ks.map kV) us→ItemsAre (zY P w) ks us
 | [],_,r=>by rw[List.map_nil] at r;cases r;exact .nil
 | k::ks,_,r=>by
  rw[List.map_cons] at r
  cases r with
  | cons h t=>exact .cons (qHh h) (qYd t)

noncomputable abbrev KT (H:Hp):List (List Key×V)→List (List Key×Addr×Value)→Prop:=Paired fun p q=>p.1=q.1∧H q.2.1=some (.tup (p.1.map kV))∧RelV p.2 q.2.2
theorem KT.val {H:Hp}{kvs:List (List Key×V)}{xs:List (List Key×Addr×Value)}(r:KT H kvs xs)(k:List Key):RelO (valV kvs k) ((atKey xs k).map (·.2)):=by
 induction r with
 | nil=>exact True.intro
 | @cons p q ps qs h t ih=>
  obtain⟨h1,_,h2⟩:=h
  by_cases e:p.1=k
  ·have e':q.1=k:=h1.symm.trans e
   have b:atKey (q::qs) k=some q.2:=by simp[atKey,List.find?_cons,e']
   rw[jX e,b];exact h2
  ·have e':¬q.1=k:=fun z=>e (h1.trans z)
   have b:atKey (q::qs) k=atKey qs k:=by simp[atKey,List.find?_cons,e']
   rw[jZ e,b];exact ih
section
variable {P:Program}{w:World}{H:Hp}{h:Heap}{a:Addr}
theorem qRk {u:HO}(ok:HOk P w H h)(e:Rd H a u):ObjOk P w H h a u:=e.ok ok
theorem qOl {kvs:List (Key×V)}(ok:HOk P w H h)(e:Rd H a (.dK kvs)):kvs.length≤sizeLine∧(a == sysModules)=false∧∃vs,KV kvs vs∧h.DictOf (zY P w) a vs:=
 show ObjOk P w H h a (.dK kvs) from qRk ok e
theorem qUq {kvs:List (Key×V)}(ok:HOk P w H h)(e:H a=some (.dK kvs)):kvs.length≤sizeLine∧(a == sysModules)=false∧∃vs,KV kvs vs∧h.DictOf (zY P w) a vs:=qOl ok (.inl e)
theorem qIm {ks:List Key}(ok:HOk P w H h)(e:H a=some (.tup (ks.map kV))):(tupleKind (zY P w)).is h ks a:=by
 obtain⟨_,its,r,o,h1,h2,n,h3,_⟩:=(show ObjOk P w H h a (.tup (ks.map kV)) from ok a _ e)
 exact⟨o,its.toArray,n,h1,h2,h3,by simpa using qYd r⟩
theorem qSd {kvs:List (List Key×V)}(ok:HOk P w H h)(e:Rd H a (.dT kvs)):kvs.length≤sizeLine∧(a == sysModules)=false∧
  ∃xs,KT H kvs xs∧h.DictOfH (tupleKind (zY P w)) a xs:=by
 obtain⟨z,y,xs,r,o,es,ep,h1,h2,h3,h4,h5⟩:=(show ObjOk P w H h a (.dT kvs) from qRk ok e)
 refine⟨z,y,xs,r,o,es,ep,h1,h2,h3,h4,fun x hx=>?_,h5⟩
 have all:∀{l:List (List Key×V)} {m:List (List Key×Addr×Value)},KT H l m→∀x∈m,(tupleKind (zY P w)).is h x.1 x.2.1:=by
  intro l m q
  induction q with
  | nil=>intro x hx;exact nomatch hx
  | @cons p q ps qs hq t ih=>
   intro x hx
   rcases List.mem_cons.mp hx with e | hx
   ·subst e
    exact qIm ok (by rw[← hq.1];exact hq.2.1)
   ·exact ih x hx
 exact all r x hx
end

noncomputable def DGet (H:Hp)(a:Addr)(y:V)(r:Option V):Prop:=
 (∃kvs k,Rd H a (.dK kvs)∧y=kV k∧r=valV kvs k)∨∃kvs k b,Rd H a (.dT kvs)∧y=.ref b∧H b=some (.tup (k.map kV))∧r=valV kvs k
theorem DGet.k {H:Hp}{a:Addr}{kvs:List (Key×V)}{k:Key}(e:H a=some (.dK kvs)):DGet H a (kV k) (valV kvs k):=.inl ⟨kvs,k,.inl e,rfl,rfl⟩
section
variable {X:Cx}{pins:List (Addr×Obj)}{σ:St}{H:Hp}{s:Shared}{a:Addr}{y v:V}{u r:Value}{o:Option V}{A:Around}{E:Value→Shared→Prop}

theorem Inv.big (I:Inv X pins σ H s):sysModules<s.heap.objs.size:=by
 have h:mainGlobals<s.heap.objs.size:=(I.mod.glob.keeps I.bk).lt
 exact Nat.lt_trans (by decide) h

theorem qFe {Q:Value→Shared→Prop}(hu:A.units+1<cLine)(I:Inv X pins σ H s)(g:DGet H a y (some v))(ry:RelV y u)(h:∀w' s',Inv X pins σ H s'→RelV v w'→Q w' s'):
  wpAny (model X.prog X.w) A (getItem (.ref a) u) Q E s:=by
 rcases g with⟨kvs,k,e,ey,l⟩ | ⟨kvs,k,b,e,ey,eb,l⟩
 ·subst ey
  obtain⟨z,hd,vs,rel,dd⟩:=qOl I.hok e
  obtain⟨w',hw,rw'⟩:=RelO.some_of (v:=v) (o:=valueAt vs k) (by rw[l];exact rel.val k)
  exact wpAny_getItem_of (qHh ry) dd.mapOf hw (h w' _ (I.tok _) rw')
 ·subst ey
  cases(show u=Value.ref b from ry)
  obtain⟨z,hd,xs,rel,dd⟩:=qSd I.hok e
  obtain⟨w',hw,rw'⟩:=RelO.some_of (v:=v) (o:=(atKey xs k).map (·.2)) (by rw[l];exact rel.val k)
  obtain⟨p,hp,hp2⟩:=Option.map_eq_some_iff.mp hw
  refine wpAny_getItem_heap (tupleKind_room_in1 hu) (qIm I.hok eb) dd hp ?_
  rw[hp2]
  exact h w' _ (I.tok _) rw'
theorem qOm {h':Heap}{t':Nat}{ob:HO}(I:Inv X pins σ H s)(mu:Mut (H a))(hs:Heap.SameBut a s.heap h')(he:∃q,h'.get? a=some q)(new:ObjOk X.prog X.w (upd H a ob) h' a ob):
  Inv X pins σ (upd H a ob) { s with heap:=h',toks:=t' }:=
 I.write (x:=a) (e:=a) mu (.inl rfl) (fun b q hb z=>(hs.2 b hb).trans z) he new
theorem qSg {P:Program}{w:World}{H':Hp}{h':Heap}{kvs:List (Key×V)}{vs:List (Key×Value)}(z:kvs.length≤sizeLine)(hd:(a == sysModules)=false)(rel:KV kvs vs)(dd:h'.DictOf (zY P w) a vs):
  ObjOk P w H' h' a (.dK kvs):=⟨z,hd,vs,rel,dd⟩
end

section
variable {X:Cx}{pins:List (Addr×Obj)}{σ:St}{H:Hp}{s:Shared}{a:Addr}{kvs:List (Key×V)}{k:Key}{u:Value}{A:Around}{E:Value→Shared→Prop}
end

noncomputable def NoSl (i:Expr):Prop:=∀ov iv,subscripted i false ov iv=operate [ov,iv] (getItem ov iv)
theorem qCk {prog:Program}{w:World}{A:Around}{E:Value→Shared→Prop}{s:Shared}{env:Env}{value slice:Expr}{pos:Pos}{T id:String}{Q:Value→Shared→Prop}
  (hl:typeLookup (.type T) "__getitem__" = pure (some (.builtin id))) (hs:NoSl slice)
  (h:wpAny (model prog w) A (eval value env) (fun o s₁=>wpAny (model prog w) A (eval slice env) (fun i s₂=>s₂.TypeIs o T∧wpAny (model prog w) A (getItem o i) Q E s₂) E s₁) E s):
  wpAny (model prog w) A (eval (.Subscript value slice pos) env) Q E s:=by
 refine Subscript_ (wpAny_mono h (fun o s₁ h₁=>wpAny_mono h₁ (fun i s₂ h₂=>?_) fun _ _ x=>x) fun _ _ x=>x)
 obtain⟨hT,h₂⟩:=h₂
 unfold subscriptTail
 refine wpAny_bind ?_
 rw[getitemInPython_of_ne hT.not_modules]
 refine wpAny_bind (wpAny_specialOf hT hl ?_)
 have fin:wpAny (model prog w) A (subscripted slice false o i) (fun r s₃=>wpAny (model prog w) A (letTemporaryGo value o r >>= fun _=>pure r) Q E s₃) E s₂:=by
  rw[hs o i]
  exact wpAny_operating (wpAny_mono h₂ (fun r s₃ h₃=>wpAny_bind (wpAny_letTemporaryGo (wpAny_pure h₃))) fun _ _ x=>x)
 first
  | exact wpAny_pure (wpAny_bind fin)
  | exact wpAny_bind (wpAny_pure (wpAny_bind fin))
  | exact wpAny_bind fin

theorem qVc {X:Cx}{pins:List (Addr×Obj)}{σ:St}{H:Hp}{s:Shared}{a:Addr}{y:V}{o:Option V}(I:Inv X pins σ H s)(g:DGet H a y o):s.TypeIs (.ref a) "dict" := by
 rcases g with⟨kvs,k,e,_,_⟩ | ⟨kvs,k,b,e,_,_,_⟩
 ·obtain⟨_,_,vs,_,dd⟩:=qOl I.hok e
  exact dd.typeIs
 ·obtain⟨_,_,xs,_,dd⟩:=qSd I.hok e
  exact dd.typeIs
noncomputable def tDGet (td ty:TE):TE:=fun σ H Q=>td σ H fun x H1=>ty σ H1 fun y H2=>∃a v,x=.ref a∧DGet H2 a y (some v)∧Q v H2
section
variable {X:Cx}{o i e value:Expr}{pos pos' tpos:Pos}{td ty tv:TE}
theorem qKo (hu:X.A.units+1<cLine)(ho:PE X o td)(hi:PE X i ty)(hs:NoSl i):PE X (.Subscript o i pos) (tDGet td ty):=by
 intro pins s σ H Q I h
 refine qCk PySem.F.slot_dict_getitem.lookup hs (thn (ho pins s σ H _ I h) fun u s1 ⟨x,H1,I1,rx,q1⟩=>thn (hi pins s1 σ H1 _ I1 q1) fun iv s2 ⟨y,H2,I2,ry,a,v,ex,g,q2⟩=>?_)
 subst ex
 obtain rfl:u=Value.ref a:=rx
 exact⟨qVc I2 g,qFe hu I2 g ry fun w' s3 I3 rw'=>⟨v,H2,I3,rw',q2⟩⟩
end

theorem qIj {P:Program}{w:World}{H:Hp}(h:Heap)(hb:sysModules<h.objs.size):ObjOk P w H (h.push { cls:=.type "dict",data:=.dict #[] }) h.objs.size (.dK []):=
 ⟨Nat.zero_le _,beq_eq_false_iff_ne.mpr (Ne.symm (Nat.ne_of_lt hb)),[],.nil,Heap.DictOf.new h⟩
section
variable {X:Cx}{pos:Pos}
end

noncomputable def tPairs:List (TE×TE)→St→Hp→(List (V×V)→Hp→Prop)→Prop
 | [],_,H,Q=>Q [] H
 | (tk,tv)::r,σ,H,Q=>tk σ H fun x H1=>tv σ H1 fun y H2=>tPairs r σ H2 fun ps H3=>Q ((x,y)::ps) H3
noncomputable abbrev VV:List (V×V)→List (Value×Value)→Prop:=Paired fun p q=>RelV p.1 q.1∧RelV p.2 q.2
noncomputable def PPs (X:Cx)(pos:Pos)(keys:List (Option Expr))(values:List Expr)(trs:List (TE×TE)):Prop:=
 ∀(pins:List (Addr×Obj)) (s:Shared) (σ:St) (H:Hp) (Q:List (V×V)→Hp→Prop),Inv X pins σ H s→tPairs trs σ H Q→
  wpAny (model X.prog X.w) X.A (evalPairs (pairTrees keys values X.env pos)) (fun vs s'=>∃ps H',Inv X pins σ H' s'∧VV ps vs∧Q ps H') X.xe s
theorem qNk {X:Cx}{pos:Pos}:PPs X pos [] [] []:=fun pins s σ H Q I h=>pairTrees_nil_walk ⟨[],H,I,.nil,h⟩
theorem vV {X:Cx}{pos:Pos}{k v:Expr}{ks:List (Option Expr)}{vs:List Expr}{tk tv:TE}{trs:List (TE×TE)}(hk:PE X k tk)(hv:PE X v tv)(hr:PPs X pos ks vs trs):
  PPs X pos (some k::ks) (v::vs) ((tk,tv)::trs):=fun pins s σ H Q I h=>
 pairTrees_cons_walk (thn (hk pins s σ H _ I h) fun u s1 ⟨x,H1,I1,rx,q1⟩=>thn (hv pins s1 σ H1 _ I1 q1) fun w2 s2 ⟨y,H2,I2,ry,q2⟩=>
  thn (hr pins s2 σ H2 _ I2 q2) fun ws s3 ⟨ps,H3,I3,rel,q3⟩=>⟨(x,y)::ps,H3,I3,.cons ⟨rx,ry⟩ rel,q3⟩)

noncomputable def mergeK (kvs more:List (Key×V)):List (Key×V):=more.foldl (fun acc kv=>putK acc kv.1 kv.2) kvs
theorem KV.merge:∀{more:List (Key×V)} {rs:List (Key×Value)} {kvs:List (Key×V)} {vs:List (Key×Value)},KV more rs→KV kvs vs→KV (mergeK kvs more) (merged vs rs):=by
 intro more rs kvs vs r
 unfold KV at r
 induction r generalizing kvs vs with
 | nil=>intro q;exact q
 | @cons p q ps qs h t ih=>
  intro r0
  have e:KV (putK kvs p.1 p.2) (stored vs q.1 q.2):=by
   have:=r0.put p.1 h.2
   rw[← h.1];exact this
  exact ih e
theorem yT:∀(more kvs:List (Key×V)),(mergeK kvs more).length≤kvs.length+more.length
 | [],kvs=>by show kvs.length≤kvs.length+0;omega
 | p::r,kvs=>by
  have h1:=yT r (putK kvs p.1 p.2)
  have h2:=qVv kvs p.1 p.2
  show(mergeK (putK kvs p.1 p.2) r).length≤_
  rw[List.length_cons];omega
theorem qZk {P:Program}{w:World}:∀{kvs:List (Key×V)} {ws:List (Value×Value)},VV (kvs.map fun kv=>(kV kv.1,kv.2)) ws→∃rs,Carries (zY P w) ws rs∧KV kvs rs
 | [],_,r=>by rw[List.map_nil] at r;cases r;exact⟨[],True.intro,.nil⟩
 | p::kvs,_,r=>by
  rw[List.map_cons] at r
  cases r with
  | @cons a b as bs h t=>
   obtain⟨rs,c,q⟩:=qZk (P:=P) (w:=w) t
   obtain⟨b1,b2⟩:=b
   exact⟨(p.1,b2)::rs,⟨qHh h.1,rfl,c⟩,.cons ⟨rfl,h.2⟩ q⟩
noncomputable def tDisp (trs:List (TE×TE)):TE:=fun σ H Q=>∀p,H p=none→tPairs trs σ (upd H p (.dK [])) fun ps H2=>H2 p=some (.dK [])∧∃kvs:List (Key×V),ps=kvs.map (fun kv=>(kV kv.1,kv.2))∧kvs.length≤15∧Q (.ref p) (upd H2 p (.dK (mergeK [] kvs)))
theorem qNa {X:Cx}{pos:Pos}{keys:List (Option Expr)}{values:List Expr}{trs:List (TE×TE)}(h:PPs X pos keys values trs)(hall:keys.all (·.isSome)=true)(hl:keys.length=values.length)(h0:keys≠[])
  (h15:keys.length≤15):PE X (.Dict keys values pos) (tDisp trs):=by
 intro pins s σ H Q I q
 have hn:=I.hok.fresh (Nat.le_refl s.heap.objs.size)
 have I1:=I.laid (a:=s.heap.objs.size) (o:=.dK []) (h':=s.heap.push { cls:=.type "dict",data:=.dict #[] }) (t':=s.toks) (fun _ _ q=>Heap.get?_push_of_some _ q) (Nat.le_refl _) (qIj s.heap I.big)
 refine wpAny_Dict_walk (knd:=zY X.prog X.w) hall hl h0 h15 (thn (h pins _ σ _ _ I1 (q _ hn)) fun ws s2 ⟨ps,H2,I2,rel,e,kvs,ep,lk,q2⟩=>?_)
 subst ep
 obtain⟨rs,c,rk⟩:=qZk (P:=X.prog) (w:=X.w) rel
 obtain⟨z,hd,vs0,r0,dd⟩:=qUq I2.hok e
 cases r0
 refine⟨rs,c,dd,fun h' dd' hs=>⟨.ref s.heap.objs.size,_,?_,rfl,q2⟩⟩
 have hz:(mergeK [] kvs).length≤sizeLine:=by
  have h1:=yT kvs []
  rw[List.length_nil] at h1
  rw[sizeLine_eq];omega
 have he:∃q,h'.get? s.heap.objs.size=some q:=let ⟨q,_,_,hq,_⟩:=dd';⟨q,hq⟩
 exact qOm I2 (by rw[e];exact True.intro) hs he (qSg hz hd (rk.merge .nil) dd')

section
variable {X:Cx}{pins:List (Addr×Obj)}{σ:St}{H:Hp}{s:Shared}{a:Addr}{y d:V}{u r:Value}{o:Option V}{A:Around}{E:Value→Shared→Prop}
end

section
variable {X:Cx}{o e f:Expr}{apos cpos:Pos}{td ty tx:TE}
end

section
variable {X:Cx}{pins:List (Addr×Obj)}{σ:St}{H:Hp}{s:Shared}{a:Addr}{kvs:List (Key×V)}{A:Around}{E:Value→Shared→Prop}
end

section
variable {X:Cx}{pins:List (Addr×Obj)}{σ:St}{H:Hp}{s:Shared}{a:Addr}{y:V}{u:Value}{A:Around}{E:Value→Shared→Prop}
end
end L2

namespace Att
open PySem PySem.W PySem.Calls PyProof.Rows

theorem qQi {P:Params}{h:Heap}:∀(ns:List Int) (vs:List Value),WellAll P h vs (ns.map WData.int)→IntsAre vs ns:=by
 intro ns
 induction ns with
 | nil=>
  intro vs w
  rw[List.map_nil] at w
  cases w
  exact .nil
 | cons n ns ih=>
  intro vs w
  rw[List.map_cons] at w
  cases w with
  | cons a b=>
   cases a
   exact .cons _ _ (ih _ b)

theorem qCg {l:OpenLaw}{n:Nat}(hn:l.most=some n){P:Params}{h:Heap}{args:List WData}{vals:List Value}
  (hpre:l.row.toRowW.claim.pre args=true) (hwl:WellAll P h vals args):
  ∃a vs ns,vals=[Value.ref a]∧args=[WData.list (ns.map WData.int)]∧h.get? a=some { cls:=.type "list",data:=.seq vs.toArray }∧IntsAre vs ns∧ns.length≤n:=by
 have hsh:WShape.hasAll [] args [.list .int]=true:=(pre_splitW hpre).1
 have hc:l.pre.holds [] { args:=args }=true:=(pre_splitW hpre).2
 obtain⟨d,r,rfl,h1,h2⟩:=hasAllW_cons hsh
 obtain rfl:=hasAllW_nil h2
 obtain⟨xs,rfl,h3⟩:=hasW_list h1
 obtain⟨ns,rfl⟩:=items_int h3
 have hlen:ns.length≤n:=by
  unfold OpenLaw.pre at hc
  have h4:(WTm.not (.lt (.lit (.int (n:Int))) (.len (.arg 0)))).holds [] { args:=[.list (ns.map .int)] }=true:=by
   have h4:=(holds_andW hc).1
   rw[hn] at h4
   exact h4
  have h5:=condW_of h4 (w_not (w_lt w_lit (w_len_list (w_arg rfl))))
  rw[List.length_map] at h5
  refine Nat.le_of_not_lt fun q=>?_
  have q':(n:Int)<((ns.length:Nat):Int):=by omega
  first
   | (rw[decide_eq_true q'] at h5;exact absurd h5 (by decide))
   | (simp at h5;omega)
 cases hwl with
 | cons w1 w2=>
  cases w2
  cases w1 with
  | list ho hall=>exact⟨_,_,ns,rfl,rfl,ho,qQi ns _ hall,hlen⟩

theorem qCi (l:OpenLaw)(args:List WData):l.row.toRowW.claim.post args (.bool true) args=true:=
 postW_of (r:=l.row.toRowW) (X:=(true == true))
  (show WShape.has [] (.bool true) .bool=true by first | rfl | decide | simp[WShape.has,WShape.arms,WShape.armsAll])
  (show(WTm.eq .res (.lit (.bool true))).value [] { args:=args,res:=some (.bool true),after:=args }=some (.bool (true == true)) from w_eq_bool (w_res rfl) w_lit) rfl

theorem attach_call {l:OpenLaw}{n:Nat}{q:Program}{loose:List Str}{XP:(Str→Option Value)→Heap→Prop}{YP:World→Heap→Prop}{d:DefRec}
  (hn:l.most=some n) (hdf:d.params.defaults=[])
  (call:∀(w:World) (s₀ s₁:Shared) (mg mb:Str→Option Value) (fa:Addr) (o:Obj) (pm cd doc:Value) (a:Addr) (vs:List Value) (ns:List Int),
   Ground q loose [] XP w s₀ mg mb s₁.heap→YP w s₁.heap→
   s₁.heap.get? fa=some o→o.data=.func (docDef d.name d.params d.body d.scope pm cd doc)→s₁.heap.CodeRec cd d.name→mg d.name=some (.ref fa)→
   s₁.heap.get? a=some { cls:=.type "list",data:=.seq vs.toArray }→IntsAre vs ns→ns.length≤n→s₁.gens=#[]→
   codeAny (model l.prog w) callerA (.call (.ref fa) ⟨[.ref a],[]⟩) (fun r s'=>r=.ok (.ret (.bool true))∧OldK s₁.heap s'.heap∧s'.os=s₁.os∧AllBare s'.gens) s₁):
  WalkO q loose XP YP l.row.toRowW d [] (fun f vs=>PySem.call f vs):=by
 intro w s₀ s₁ mg mb G Y fa o pm cd doc dV kV ho hd hcd hD hmg hg args vals as hpre hlay hrd hwl hlo
 obtain rfl:dV=.none:=Dflts.none hD hdf
 obtain rfl:kV=.none:=Dflts.noKw hD
 obtain⟨a,vs,ns,rfl,rfl,hobj,hints,hlen⟩:=qCg hn hpre hwl
 refine enter_call (codeAny_mono (call w s₀ s₁ mg mb fa o pm cd doc a vs ns G Y ho (fd_plain hd) hcd hmg hobj hints hlen hg) fun r s' hq=>?_)
 obtain⟨rfl,h2,h3,h4⟩:=hq
 exact⟨.inl ⟨.bool true,.bool true,[],rfl,fun _=>rfl,.bool true,qCi l _,fun _=>⟨List.Pairwise.nil,fun _ hm=>(nomatch hm)⟩⟩,h2,h3,h4⟩

section
variable {prog:Program}{w:World}{A:Around}{E:Value→Shared→Prop}{s:Shared}{K:Frag}

end
end Att

namespace L2
open PySem PySem.Spec PyProof.Rows

theorem qJf:∀{vs:List Value} {ns:List Int},IntsAre vs ns→Vals (ns.map V.int) vs
 | _,_,.nil=>.nil
 | _,_,.cons n t h=>.cons ⟨t,rfl⟩ (qJf h)

noncomputable def Only (H:Hp):Prop:=∀b,H b=none∨∃o xs,H b=some (.frz o (.lst xs))

theorem qHg {P:Program}{w:World}{K:PySem.W.Frag}{mg mb:Str→Option Value}{CX:CXT}{k:Nat}{fa a:Addr}{fd:FuncData}{x:Str}{sp:Sp}{s₁:Shared}{vs:List Value}{ns:List Int}
  (KX:K.In s₁.heap) (hns:s₁.heap.Ns mainGlobals mg) (hb:s₁.heap.Ns builtinsNs mb) (hbb:∀x:Str,x ≠ "__name__" → mb x=bootBuiltins x) (hlim:s₁.heap.NoLimit) (hg:s₁.gens=#[])
  (ha:s₁.heap.get? a=some { cls:=.type "list",data:=.seq vs.toArray }) (hi:IntsAre vs ns) (hl:ns.length≤sizeLine) (hr:Room k callerA)
  (F:∀base:Heap,K.In base→base.Ns mainGlobals mg→FnOk P w K mg base CX k fa fd [x] sp) (hbind:∀(s:Shared) (u:Value),BindsTo s fd ⟨[u],[]⟩ [(x,u)])
  (hsp:∀H:Hp,Only H→SqL K H a (ns.map V.int)→sp [.ref a] H (fun v _=>v=.bl true) fun _ _ _=>False)
  (hCX:∀H e s',CX [] H s₁ (fun _ _ _=>False) e s'→False):
  codeAny (model P w) callerA (.call (.ref fa) ⟨[.ref a],[]⟩) (fun r s'=>r=.ok (.ret (.bool true))∧OldK s₁.heap s'.heap∧s'.os=s₁.os∧AllBare s'.gens) s₁:=by
 have rv:=qJf hi
 have lenV:=hi.length
 have core:∀H:Hp,Only H→SqL K H a (ns.map V.int)→HOk P w H s₁.heap→(∀b,H b≠none→b=a)→(H a≠none→K.lookup a=none)→
   codeAny (model P w) callerA (.call (.ref fa) ⟨[.ref a],[]⟩) (fun r s'=>r=.ok (.ret (.bool true))∧OldK s₁.heap s'.heap∧s'.os=s₁.os∧AllBare s'.gens) s₁:=by
  intro H hO hS hok hA hK
  have base_of:∀{b:Addr} {o:Obj},s₁.heap.get? b=some o→H b=none→(hidT s₁.heap H).get? b=some o:=fun e n=>qHl e n
  have noA:∀{b:Addr} {o:Obj} {es:Array DictEntry} {ep:Nat},s₁.heap.get? b=some o→o.data=.dict es ep→H b=none:=fun{b o es ep} e d=>by
   cases q:H b with
   | none=>rfl
   | some u=>
    have e':b=a:=hA b (by rw[q];simp)
    subst e'
    rw[ha] at e;cases e
    have d':Data.seq vs.toArray _=Data.dict es ep:=d
    cases d'
  have nsK:∀{b:Addr} {m:Str→Option Value},s₁.heap.Ns b m→(hidT s₁.heap H).Ns b m:=fun{b m} ⟨o,es,ep,e,d,r⟩=>⟨o,es,ep,base_of e (noA e d),d,r⟩
  have hKb:K.In (hidT s₁.heap H):=fun b o e=>base_of (KX b o e) (by
   cases q:H b with
   | none=>rfl
   | some u=>
    have e':b=a:=hA b (by rw[q];simp)
    subst e'
    rw[hK (by rw[q];simp)] at e;cases e)
  have hM:Mod K mg (hidT s₁.heap H):=⟨hKb,nsK hns,⟨mb,nsK hb,hbb⟩,let ⟨mc,h1,h2⟩:=hlim;⟨mc,nsK h1,h2⟩⟩
  have e0:Env0 P w K mg (hidT s₁.heap H) callerA [] s₁ H:=⟨rfl,hM,fun b o e=>qOz e,Nat.le_of_eq (qEi _ _),trivial,fun b hb=>absurd (show b∈([]:List Addr) from hb) (by simp),hok,.of_eq hg⟩
  refine codeAny_mono ((F _ hKb (nsK hns)).run callerA [] s₁ H ⟨[.ref a],[]⟩ [.ref a] [.ref a] _ _ hr e0 (hbind s₁ (.ref a)) (.cons rfl .nil) (hsp H hO hS)) fun r s' h=>?_
  cases r with
  | error e=>exact(hCX H e s' h).elim
  | ok fl=>
   cases fl with
   | next=>exact False.elim h
   | brk=>exact False.elim h
   | cont=>exact False.elim h
   | ret u=>
    obtain⟨v,H',os,bare,un,hok',r',q⟩:=h
    have q':v=.bl true:=q
    subst q'
    obtain rfl:u=Value.bool true:=r'
    refine⟨rfl,OldK.of_keep fun b o e=>?_,os,bare⟩
    cases q:H b with
    | none=>exact un.keep b o e q (by intro z;exact absurd (show b∈([]:List Addr) from z) (by simp)) (by simp)
    | some u=>
     rcases hO b with z | ⟨ob,xs,z⟩
     ·rw[q] at z;cases z
     ·have z2:=un.frzs b ob _ z
      obtain⟨e1,_⟩:=hok b _ z
      obtain⟨e2,_⟩:=hok' b _ z2
      rw[e] at e1;cases e1
      exact e2
 cases hk:K.lookup a with
 | some o=>
  have e:=KX a o hk
  rw[ha] at e
  cases e
  refine core (fun _=>none) (fun _=>.inl rfl) (.inr ⟨_,vs.toArray,_,hk,rfl,rfl,rfl,by rw[List.size_toArray,lenV];exact hl,by simpa using rv⟩) (fun b u z=>by have z':(none:Option HO)=some u:=z;cases z') (fun b z=>absurd rfl z) fun z=>absurd rfl z
 | none=>
  refine core (fun b=>if b=a then some (.frz { cls:=.type "list",data:=.seq vs.toArray } (.lst (ns.map V.int))) else none) (fun b=>?_) (.inl (.inr ⟨{ cls:=.type "list",data:=.seq vs.toArray },if_pos rfl⟩)) (fun b u z=>?_) (fun b z=>?_) fun _=>hk
  ·by_cases hb:b=a
   ·exact .inr ⟨_,_,if_pos hb⟩
   ·exact .inl (if_neg hb)
  ·by_cases hb:b=a
   ·have z':=(if_pos hb).symm.trans z
    cases z'
    subst hb
    exact⟨ha,by rw[List.length_map];exact hl,vs,_,rv,ha⟩
   ·have z':=(if_neg hb).symm.trans z
    cases z'
  ·by_cases hb:b=a
   ·exact hb
   ·exact absurd (if_neg hb) z
end L2

namespace L2
open PySem PySem.Spec PyProof.Rows

theorem qMd {l:PySem.W.OpenLaw}{n k:Nat}{q:Program}{loose:List Str}{XP:(Str→Option Value)→Heap→Prop}{YP:World→Heap→Prop}{d:DefRec}{K:Params→PySem.W.Frag}{CX:World→CXT}{sp:World→Sp}{x:Str}
  (hn:l.most=some n) (hn2:n≤sizeLine) (hdf:d.params.defaults=[]) (hr:Room k callerA)
  (hY:∀(w:World) (h:Heap),YP w h→(K w.params).In h)
  (F:∀(w:World) (mg:Str→Option Value) (fa:Addr) (h:Heap),(K w.params).In h→h.Ns mainGlobals mg→mg d.name=some (.ref fa)→
   ∃fd:FuncData,(∀(s:Shared) (u:Value),BindsTo s fd ⟨[u],[]⟩ [(x,u)])∧
    ∀base:Heap,(K w.params).In base→base.Ns mainGlobals mg→FnOk l.prog w (K w.params) mg base (CX w) k fa fd [x] (sp w))
  (hsp:∀(w:World) (H:Hp) (a:Addr) (ns:List Int),ns.length≤n→Only H→SqL (K w.params) H a (ns.map V.int)→sp w [.ref a] H (fun v _=>v=.bl true) fun _ _ _=>False)
  (hCX:∀(w:World) (H:Hp) (s:Shared) (e:Value) (s':Shared),CX w [] H s (fun _ _ _=>False) e s'→False):
  PySem.W.WalkO q loose XP YP l.row.toRowW d [] (fun f vs=>PySem.call f vs):=by
 refine Att.attach_call hn hdf fun w s₀ s₁ mg mb fa o pm cd doc a vs ns G Y ho hd hcd hmg hobj hints hlen hg=>?_
 have KX:=hY w _ Y
 obtain⟨fd,hb,hF⟩:=F w mg fa _ KX G.T.g hmg
 exact qHg KX G.T.g G.T.b G.T.builtins G.T.nolimit hg hobj hints (Nat.le_trans hlen hn2) hr hF hb (fun H hO hS=>hsp w H a ns hlen hO hS) fun H e s'=>hCX w H s₁ e s'
end L2

namespace L2
open PySem PySem.Spec PyProof.Rows

noncomputable abbrev CX0:CXT:=fun _ _ _ _ _ _=>False
noncomputable abbrev E0:XK:=fun _ _ _=>False
theorem pass0 {X:Cx}:Passes CX0 X E0:=fun _ _ _ _ _ _ _ h=>h.elim

structure Fun (K:PySem.W.Frag)(x qual:Str)(st:Stmt)(f:Addr)(fd:FuncData):Prop where
 ex:∃(oc:Value) (od:Option Addr) (kV doc pm:Value) (an:Option Addr) (cdv ct:Value) (osl:Array (Option Value)),
  fd=PySem.W.fnOf x qual (xC st) (xB st) (xA st) .none kV doc pm an cdv ct∧K.lookup f=some ⟨oc,od,.func fd,osl⟩∧PySem.W.codeIn K cdv qual=true
 kp:PySem.W.keepIn K (.ref f)=true
section
variable {P:Program}{w:World}{K:PySem.W.Frag}{mg:Str→Option Value}{base:Heap}
theorem Fun.ok {x qual:Str}{st:Stmt}{f:Addr}{fd:FuncData}{N ps:List Str}{k:Nat}{sp:Sp}(F:Fun K x qual st f fd)(S:xI N ps (xA st))(len:∀vs H Q E,sp vs H Q E→vs.length=ps.length)
  (hbody:∀(cdv:Value) (A:Around) (outer:List Env) (s:Shared) (H:Hp) (vs:List V) (Q:VK) (E:XK),Room k (A.deeper (envOfC qual (xA st) s.heap.objs.size f cdv))→sp vs H Q E→
   ∃t,PSs (cxOf CX0 P w K mg base N qual (xA st) f cdv A outer s H E).nox (xB st) t∧t { nx:=fun _ H'=>Q .non H',rt:=Q } (start N vs) H):FnOk P w K mg base CX0 (k+1) f fd ps sp:=by
 obtain⟨oc,od,kV,doc,pm,an,cdv,ct,osl,rfl,lk,hcd⟩:=F.ex
 refine qTn lk hcd S len fun A outer s H vs Q E hr hsp=>?_
 obtain⟨t,h,q⟩:=hbody cdv A outer s H vs Q E hr hsp
 exact⟨t,h.nox,q⟩
theorem Fun.binds {x qual:Str}{st:Stmt}{f:Addr}{fd:FuncData}{ps:List Str}(F:Fun K x qual st f fd)
  (h:∀(kV doc pm:Value) (an:Option Addr) (cdv ct:Value) (us:List Value),us.length=ps.length→bindArgs (PySem.W.fnOf x qual (xC st) (xB st) (xA st) .none kV doc pm an cdv ct) ⟨us,[]⟩=pure (ps.zip us)):Binds K fd ps []:=by
 obtain⟨oc,od,kV,doc,pm,an,cdv,ct,osl,rfl,lk,hcd⟩:=F.ex
 exact .all (h kV doc pm an cdv ct)
theorem xT {x qual:Str}{st:Stmt}{f:Addr}{oc:Value}{od an:Option Addr}{osl:Array (Option Value)}{kV doc pm cdv ct:Value}(l:K.lookup f=some ⟨oc,od,.func (PySem.W.fnOf x qual (xC st) (xB st) (xA st) .none kV doc pm an cdv ct),osl⟩)
  (c:PySem.W.codeIn K cdv qual=true) (k:PySem.W.keepIn K (.ref f)=true):Fun K x qual st f (PySem.W.fnOf x qual (xC st) (xB st) (xA st) .none kV doc pm an cdv ct):=⟨⟨oc,od,kV,doc,pm,an,cdv,ct,osl,rfl,l,c⟩,k⟩
end
theorem qOb {A:Around}{k:Nat}(hr:Room k A):A.units+1<cLine:=Nat.lt_of_le_of_lt (Nat.add_le_add_left (by decide:1≤64) _) hr.units
section
variable {X:Cx}
theorem pv (i:Nat){x:Str}{pos:Pos}(hN:X.N[i]? = some x:=by rfl)(hv:Vis X.env.scope x:=by first | exact Or.inl rfl | exact Or.inr (Or.inl rfl) | exact Or.inr (Or.inr rfl))(hd:(x == ("__debug__" : Str))=false:=by decide)
  (hcd:(x == ("__classdict__" : Str))=false:=by decide):PE X (.Name x pos) (tVar i):=qRa hN hv hd hcd
end

theorem iteF {A B:Prop}(h:B):if false=true then A else B:=by
 rw[if_neg Bool.false_ne_true]
 exact h
theorem iteT {A B:Prop}(h:A):if true=true then A else B:=by
 rw[if_pos rfl]
 exact h
theorem ite2 {c A B:Prop}[Decidable c](h1:c→A)(h2:¬c→B):if c then A else B:=by
 by_cases h:c
 ·rw[if_pos h]
  exact h1 h
 ·rw[if_neg h]
  exact h2 h
noncomputable def Same (H H':Hp):Prop:=∀b o,H b=some o→H' b=some o
theorem Same.refl (H:Hp):Same H H:=fun _ _ h=>h
theorem Same.trans {H H1 H2:Hp}(a:Same H H1)(b:Same H1 H2):Same H H2:=fun c o h=>b c o (a c o h)
theorem Same.free {H H':Hp}(e:Same H H'){l:Addr}(h:H' l=Option.none):H l=Option.none:=by
 cases q:H l with
 | none=>rfl
 | some o=>
  rw[e l o q] at h
  cases h
theorem Same.seq {K:PySem.W.Frag}{H H':Hp}{a:Addr}{xs:List V}(e:Same H H')(h:SqL K H a xs):SqL K H' a xs:=by
 rcases h with(h | ⟨o,h⟩) | h
 ·exact .inl (.inl (e _ _ h))
 ·exact .inl (.inr ⟨o,e _ _ h⟩)
 ·exact .inr h

end L2

namespace L2
open PySem PySem.Spec PyProof.Rows
section
variable {X:Cx}
end
section
variable {κ:Type}[DecidableEq κ]
theorem qDg:∀{l:List κ} {k:κ},l.Nodup→¬k∈l→(l++[k]).Nodup
 | [],k,_,_=>by simp
 | a::r,k,h,hk=>by
  obtain⟨h1,h2⟩:=List.nodup_cons.mp h
  show(a::(r++[k])).Nodup
  refine List.nodup_cons.mpr ⟨fun m=>?_,qDg h2 fun m=>hk (List.mem_cons.mpr (Or.inr m))⟩
  rcases List.mem_append.mp m with q | q
  ·exact h1 q
  ·exact hk (List.mem_cons.mpr (Or.inl (List.mem_singleton.mp q).symm))
end
end L2

namespace L2
open PySem PySem.Spec PyProof.Rows

theorem qZj {scope:Scope}{env:Env}(h:∀p∈scope.names,p.2=.free→∃c,env.cells.lookup p.1=some c):
  ∃cl,closureFor scope env=pure cl∧(∀x c,cl.lookup x=some c→env.cells.lookup x=some c)∧(∀p∈scope.names,p.2=.free→∃c,cl.lookup p.1=some c):=by
 have key:∀(names:List (Str×NameKind)) (acc:List (Str×Addr)),(∀p∈names,p.2=.free→∃c,env.cells.lookup p.1=some c)→(∀x c,acc.lookup x=some c→env.cells.lookup x=some c)→
   ∃cl,(forIn names acc (fun(x:Str×NameKind) (r:List (Str×Addr))=>(if (x.2 == NameKind.free)=true then (do let a ← cellOf env x.1;pure (ForInStep.yield ((x.1,a)::r))) else pure (ForInStep.yield r):Sem (ForInStep (List (Str×Addr))))):Sem (List (Str×Addr)))=pure cl∧
    (∀x c,cl.lookup x=some c→env.cells.lookup x=some c)∧(∀x c,acc.lookup x=some c→∃c,cl.lookup x=some c)∧(∀p∈names,p.2=.free→∃c,cl.lookup p.1=some c):=by
  intro names
  induction names with
  | nil=>intro acc _ ha;exact⟨acc,rfl,ha,fun x c e=>⟨c,e⟩,fun p hp=>by cases hp⟩
  | cons p r ih=>
   intro acc hn ha
   obtain⟨n,k⟩:=p
   by_cases hk:k=.free
   ·subst hk
    obtain⟨c,hc⟩:=hn (n,.free) List.mem_cons_self rfl
    have ha':∀x d,((n,c)::acc).lookup x=some d→env.cells.lookup x=some d:=fun x d e=>by
     rw[List.lookup_cons] at e
     cases hx:x == n with
     | true=>rw[hx] at e;cases e;rw[eq_of_beq hx];exact hc
     | false=>rw[hx] at e;exact ha x d e
    obtain⟨cl,e,h1,h2,h3⟩:=ih ((n,c)::acc) (fun p hp=>hn p (List.mem_cons_of_mem _ hp)) ha'
    have hcell:cellOf env n=pure c:=by unfold cellOf;rw[hc]
    refine⟨cl,?_,h1,fun x d ex=>?_,fun p hp hf=>?_⟩
    ·rw[List.forIn_cons]
     show(if (NameKind.free == NameKind.free)=true then (do let a ← cellOf env n;pure (ForInStep.yield ((n,a)::acc))) else _) >>= _=_
     rw[if_pos (show(NameKind.free == NameKind.free)=true from rfl),hcell]
     exact e
    ·cases hx:x == n with
     | true=>exact h2 x c (by rw[List.lookup_cons,hx])
     | false=>exact h2 x d (by rw[List.lookup_cons,hx];exact ex)
    ·rcases List.mem_cons.mp hp with rfl | hp
     ·exact h2 n c (by rw[List.lookup_cons,beq_self_eq_true])
     ·exact h3 p hp hf
   ·obtain⟨cl,e,h1,h2,h3⟩:=ih acc (fun p hp=>hn p (List.mem_cons_of_mem _ hp)) ha
    refine⟨cl,?_,h1,h2,fun p hp hf=>?_⟩
    ·rw[List.forIn_cons]
     show(if (k == NameKind.free)=true then _ else _) >>= _=_
     rw[if_neg (by simpa using hk)]
     exact e
    ·rcases List.mem_cons.mp hp with rfl | hp
     ·exact absurd hf hk
     ·exact h3 p hp hf
 obtain⟨cl,e,h1,_,h3⟩:=key scope.names [] h (fun x c e=>by cases e)
 refine⟨cl,?_,h1,h3⟩
 show(forIn scope.names [] _ >>= fun r=>pure r)=pure cl
 rw[bind_pure]
 exact e

theorem qQe {α:Type}(x:Str)(k:α)(l:List (Str×α)):List.lookup x ((x,k)::l)=some k:=by rw[List.lookup_cons,beq_self_eq_true]
theorem qQf {α:Type}{x n:Str}(k:α)(l:List (Str×α))(h:(x == n)=false):List.lookup x ((n,k)::l)=List.lookup x l:=by rw[List.lookup_cons,h]
theorem kR {env:Env}{x:Str}:∀(names:List (Str×NameKind)),
  (names.map fun(n,k)=>if (k == NameKind.free && env.scope.kind == .function && env.kindOf n == some .cell) then (n,NameKind.cell) else (n,k)).lookup x=
   (names.lookup x).map fun k=>if (k == NameKind.free && env.scope.kind == .function && env.kindOf x == some .cell) then NameKind.cell else k
 | []=>rfl
 | (n,k)::r=>by
  have ih:=@kR env x r
  show List.lookup x ((if (k == NameKind.free && env.scope.kind == .function && env.kindOf n == some .cell)=true then (n,NameKind.cell) else (n,k))::_)=_
  cases hx:x == n with
  | true=>
   have e:x=n:=eq_of_beq hx
   subst e
   rw[qQe]
   by_cases hc:(k == NameKind.free && env.scope.kind == .function && env.kindOf x == some .cell)=true
   ·rw[if_pos hc,qQe]
    show _=some (if (k == NameKind.free && env.scope.kind == .function && env.kindOf x == some .cell)=true then NameKind.cell else k)
    rw[if_pos hc]
   ·rw[if_neg hc,qQe]
    show _=some (if (k == NameKind.free && env.scope.kind == .function && env.kindOf x == some .cell)=true then NameKind.cell else k)
    rw[if_neg hc]
  | false=>
   rw[qQf _ _ hx]
   by_cases hc:(k == NameKind.free && env.scope.kind == .function && env.kindOf n == some .cell)=true
   ·rw[if_pos hc,qQf _ _ hx];exact ih
   ·rw[if_neg hc,qQf _ _ hx];exact ih

noncomputable def cxC (X:Cx)(scope:Scope)(cl:List (Str×Addr))(N:List Str)(fp:List Addr)(s:Shared)(H:Hp):Cx where
 prog:=X.prog
 w:=X.w
 K:=X.K
 mg:=X.mg
 base:=X.base
 A:=X.A
 N:=N
 s₀:=s
 H₀:=H
 env:=compEnvC scope cl s.heap.objs.size X.env
 outer:=X.stack
 stack:=X.stack
 ex:=fp
 fn:=fun _=>false
 calm:=X.calm
 pn:=[]
 xe:=fun _ _=>False

noncomputable def PTs (X:Cx)(ifs:List Expr)(t:TT):Prop:=
 ∀(pins:List (Addr×Obj)) (s:Shared) (σ:St) (H:Hp) (Q:Bool→Hp→Prop),Inv X pins σ H s→t σ H Q→
  wpAny (model X.prog X.w) X.A (forIn ifs true fun c r=>if r=true then do let ok ← isTrue c X.env (eval c X.env);pure (ForInStep.yield ok) else pure (ForInStep.yield r)) (TP X pins σ Q) X.xe s
noncomputable def tYes:TT:=fun _ H Q=>Q true H
theorem zS {X:Cx}:PTs X [] tYes:=fun _ _ _ H _ I h=>wpAny_tests_nil ⟨H,I,h⟩
theorem qNz {X:Cx}{c:Expr}{t:TT}(h:PT X c t):PTs X [c] t:=fun pins s σ H Q I q=>wpAny_tests_one (h pins s σ H Q I q)

noncomputable def frees (js:List Nat)(σ:St):St:=js.map fun j=>σ.getD j none
noncomputable abbrev stC (k:Nat)(js:List Nat)(σ:St):St:=List.replicate k none++frees js σ

noncomputable def rdC (k:Nat)(js:List Nat)(g:TG)(tt:TT)(te:TE)(J:It)(σ:St)(H1:Hp)(Q:VK):Prop:=∀D,H1 D=none→
 ∃W:Nat→Nat→List V→Hp→Prop,(∃m,W 0 m [] (upd H1 D (.lst [])))∧∀i m ys H2,W i m ys H2→H2 D=some (.lst ys)∧
  ((J.stop i H2∧Q (.ref D) H2)∨(J.go i H2∧∀x H3,J.yld i H2 x H3→g x (stC k js σ) H3 fun σ4 H4=>(∃ow:St,ow.length=k∧σ4=ow++frees js σ)∧
   tt σ4 H4 fun b H5=>if b=true then te σ4 H5 fun y H6=>H6 D=some (.lst ys)∧ys.length<sizeLine∧∃m',m'<m∧W (i+1) m' (ys++[y]) (upd H6 D (.lst (ys++[y])))
    else ∃m',m'<m∧W (i+1) m' ys H5))
noncomputable def tComp (k:Nat)(js:List Nat)(wi:TI)(g:TG)(tt:TT)(te:TE):TE:=fun σ H Q=>wi σ H fun J H1=>rdC k js g tt te J σ H1 Q

structure CompOk (sc:Scope)(N0:List Str)(scope:Scope)(N:List Str)(k:Nat)(js:List Nat):Prop where
 kind:scope.kind=.function
 cell:∀y∈scope.names,y.2≠.cell
 names:∀y∈scope.names,y.2=.local→scope.names.lookup y.1=some .local
 free:∀p∈scope.names,p.2=.free→sc.names.lookup p.1=some .cell∨sc.names.lookup p.1=some .free
 fn:∀x∈N.drop k,scope.names.lookup x=some .free
 at':js.map (fun j=>N0[j]?)=(N.drop k).map some
 le:k≤N.length
 nd:N.Nodup

theorem yS {names:List (Str×NameKind)}{x:Str}{k:NameKind}(h:names.lookup x=some k):(x,k)∈names:=PySem.mem_of_lookup h

section
variable {X:Cx}{elt tg iter:Expr}{ifs:List Expr}{scope:Scope}{cpos:Pos}{N:List Str}{k:Nat}{js:List Nat}{cl:List (Str×Addr)}{g:TG}{tt:TT}{te:TE}

theorem qEg {pins:List (Addr×Obj)}{σ:St}{H:Hp}{s:Shared}{fp:List Addr}{h₁:Heap}{t':Nat}{m:Str→Option Value}(C:CompOk X.env.scope X.N scope N k js)
  (hcl1:∀x c,cl.lookup x=some c→X.env.cells.lookup x=some c) (hcl2:∀p∈scope.names,p.2=.free→∃c,cl.lookup p.1=some c)
  (I:Inv X pins σ H s) (f2:∀b∈fp,FpOk X pins H b) (flt:∀b∈fp,b<s.heap.objs.size) (hns:h₁.Ns s.heap.objs.size m) (keep:∀b o,s.heap.get? b=some o→h₁.get? b=some o):
  Inv (cxC X scope cl N fp s H) [] (stC k js σ) H { s with heap:=h₁,toks:=t' }:=by
 have relk:∀x,(cxC X scope cl N fp s H).env.kindOf x=(scope.names.lookup x).map fun k=>if (k == NameKind.free && X.env.scope.kind == .function && X.env.kindOf x == some .cell) then NameKind.cell else k:=fun x=>kR scope.names
 have wasfree:∀x,((cxC X scope cl N fp s H).env.kindOf x=some .cell∨(cxC X scope cl N fp s H).env.kindOf x=some .free)→scope.names.lookup x=some .free:=fun x hx=>by
  rw[relk x] at hx
  cases e:scope.names.lookup x with
  | none=>rw[e] at hx;rcases hx with hx | hx <;> cases hx
  | some kd=>
   rw[e] at hx
   by_cases hk:kd=.free
   ·rw[hk]
   ·have hk':(kd == NameKind.free)=false:=by simpa using hk
    rw[Option.map_some,hk',Bool.false_and,Bool.false_and,if_neg Bool.false_ne_true] at hx
    rcases hx with hx | hx
    ·exact absurd (Option.some.inj hx) (C.cell _ (yS e))
    ·exact absurd (Option.some.inj hx) hk
 have clt:∀x c,cl.lookup x=some c→c<s.heap.objs.size:=fun x c e=>by
  obtain⟨v,z⟩:=I.cell x c (hcl1 x c e)
  exact z.lt
 have ok:(cxC X scope cl N fp s H).Ok:=
  {mod:=I.ok.mod
   kind:=by show(relabel scope X.env).kind=_;exact C.kind
   glob:=I.ok.glob
   blt:=I.ok.blt
   above:=Nat.le_refl _
   inj:=fun x y c e1 e2=>I.ok.inj x y c (hcl1 x c e1) (hcl1 y c e2)
   has:=fun x hx=>hcl2 (x,.free) (yS (wasfree x hx)) rfl
   cab:=fun x c z=>by cases z
   hd:=I.ok.hd
   frames:=I.ok.frames
   stk:=.inl rfl
   exf:=fun b hb=>⟨Nat.ne_of_lt (flt b hb),fun x c e=>(f2 b hb).2.2.2.2.1 x c (hcl1 x c e)⟩
   bs:=fun b o e=>I.bs b o e
   bsz:=Nat.le_trans I.ok.bsz I.sz
   noex:=fun b o e hb=>by
    rcases(f2 b hb).2.2.2.1 with z | z
    ·exact I.ok.noex b o e z
    ·exact absurd (Nat.lt_of_lt_of_le (Heap.lt_size (I.ok.bs b o e).1) z) (Nat.lt_irrefl _)
   exfs:=fun b hb z=>by
    rcases List.mem_cons.mp (I.stkSub b z) with q | q
    ·exact(f2 b hb).2.1 q
    ·exact(f2 b hb).2.2.1 q
   funs:=I.stack
   frf:=I.stkFree }
 have hlen:(stC k js σ).length=N.length:=by
  have q:=congrArg List.length C.at'
  rw[List.length_map,List.length_map,List.length_drop] at q
  have:=C.le
  show(List.replicate k none++frees js σ).length=N.length
  rw[List.length_append,List.length_replicate,frees,List.length_map]
  omega
 refine⟨ok,rfl,I.bare,Un.kept keep,⟨m,hns,fun i x v e1 e2 e3=>?_⟩,fun x c e=>?_,I.hok.fresh (Nat.le_refl _),fun x c e=>I.freeC x c (hcl1 x c e),fun p hp=>absurd (show p∈([]:List (Addr×Obj)) from hp) (by simp),I.hok.kept keep,hlen⟩
 ·have e1:N[i]? = some x:=e1
  have hik:k≤i:=by
   by_cases hik:k≤i
   ·exact hik
   ·have e2':(List.replicate k (none:Option V)++frees js σ)[i]? = some (some v):=e2
    rw[List.getElem?_append_left (by rw[List.length_replicate];omega),List.getElem?_replicate] at e2'
    split at e2' <;> cases e2'
  obtain⟨d,rfl⟩:∃d,i=k+d:=⟨i - k,by omega⟩
  have e2':(List.replicate k (none:Option V)++frees js σ)[k+d]? = some (some v):=e2
  rw[List.getElem?_append_right (by rw[List.length_replicate];omega),List.length_replicate,Nat.add_sub_cancel_left,frees,List.getElem?_map] at e2'
  have ed:(N.drop k)[d]? = some x:=by rw[List.getElem?_drop];exact e1
  cases ej:js[d]? with
  | none=>rw[ej] at e2';cases e2'
  | some j=>
   rw[ej] at e2'
   have ev:σ.getD j none=some v:=Option.some.inj e2'
   have ej2:X.N[j]? = some x:=by
    have q:=congrArg (fun l=>l[d]?) C.at'
    simp only[List.getElem?_map,ej,ed,Option.map_some] at q
    exact Option.some.inj q
   have eσ:σ[j]? = some (some v):=by
    rw[List.getD_eq_getElem?_getD] at ev
    cases z:σ[j]? with
    | none=>rw[z] at ev;cases ev
    | some w=>rw[z] at ev;exact congrArg some ev
   have hfx:scope.names.lookup x=some .free:=C.fn x (List.mem_of_getElem? ed)
   have hX:X.env.scope.names.lookup x=some .cell∨X.env.scope.names.lookup x=some .free:=C.free (x,.free) (yS hfx) rfl
   obtain⟨mX,_,lX⟩:=I.loc
   obtain⟨u,ru,lu⟩:=lX j x v ej2 eσ (hX.elim (fun z=>.inr (.inl z)) fun z=>.inr (.inr z))
   refine⟨u,ru,.inr ⟨?_,?_⟩⟩
   ·rw[relk x,hfx]
    show some (if _ then _ else _)=_∨some (if _ then _ else _)=_
    split
    ·exact .inl rfl
    ·exact .inr rfl
   ·rcases lu with⟨z,_⟩ | ⟨_,c,ec,ic⟩
    ·have z:X.env.scope.names.lookup x=some .local:=z
     rcases hX with q | q <;> rw[q] at z <;> cases z
    ·obtain⟨c',ec'⟩:=hcl2 (x,.free) (yS hfx) rfl
     have:c'=c:=Option.some.inj ((hcl1 x c' ec').symm.trans ec)
     subst this
     obtain⟨o,ho,hd⟩:=ic
     exact⟨c',ec',o,keep _ _ ho,hd⟩
 ·obtain⟨v,o,ho,hd⟩:=I.cell x c (hcl1 x c e)
  exact⟨v,o,keep _ _ ho,hd⟩

theorem qAv {pins:List (Addr×Obj)}{σ:St}{H2:Hp}{s2:Shared}{E:Value→Shared→Prop}{it:Addr}{fp:List Addr}{tn:Nat→Heap→Prop}{J:It}{Q:VK}{RR:Value→Addr→Result→Shared→Prop}
  (hc:X.calm=true) (C:CompOk X.env.scope X.N scope N k js) (hcl1:∀x c,cl.lookup x=some c→X.env.cells.lookup x=some c) (hcl2:∀p∈scope.names,p.2=.free→∃c,cl.lookup p.1=some c)
  (hg:∀fp s H,PG (cxC X scope cl N fp s H) tg g) (ht:∀fp s H,PTs (cxC X scope cl N fp s H) ifs tt) (he:∀fp s H,PE (cxC X scope cl N fp s H) elt te)
  (I:Inv X pins σ H2 s2) (T:Turn X.prog X.w X.K tg J fp it tn) (st:tn 0 s2.heap) (f2:∀b∈fp,FpOk X pins H2 b) (rd:rdC k js g tt te J σ H2 Q)
  (fin:∀D L H' s',Inv X pins σ H' s'→FpOk X pins H' L→(∃m,s'.heap.Ns L m)→Q (.ref D) H'→RR (.ref D) L (.ok .next) s'):
  wpAny (model X.prog X.w) X.A (newList []) (fun acc s₃=>wpAny (model X.prog X.w) X.A (newFunctionEnv scope X.env.globals cl [] X.env.qual none .none (some X.env)) (fun cenv s₄=>
   codeAny (model X.prog X.w) X.A (.compStart (.ListComp elt [⟨tg,iter,ifs,0⟩] scope cpos) 0 (.ref it) acc { cenv with scope:=relabel scope X.env }) (RR acc cenv.locals) s₄) E s₃) E s2:=by
 refine wpAny_newObj_type (wpAny_newFunctionEnv C.cell (by intro y hy;simp at hy) (fun h₁ hns₁ hsb₁=>?_) C.kind)
 dsimp only at hns₁ hsb₁ ⊢
 have hD:H2 s2.heap.objs.size=none:=I.hok.fresh (Nat.le_refl _)
 have Id:Inv X pins σ (upd H2 s2.heap.objs.size (.lst [])) { s2 with heap:=s2.heap.push { cls:=.type "list",dict:=none,data:=.seq ([]:List Value).toArray } }:=
  I.laid (t':=s2.toks) (fun b u e=>Heap.get?_push_of_some _ e) (Nat.le_refl _) ⟨Nat.zero_le _,[],0,.nil,Heap.get?_push_size _ rfl⟩
 have kD:∀b o,s2.heap.get? b=some o→(s2.heap.push { cls:=.type "list",dict:=none,data:=.seq ([]:List Value).toArray }).get? b=some o:=fun b o e=>Heap.get?_push_of_some _ e
 generalize hHd:s2.heap.push { cls:=.type "list",dict:=none,data:=.seq ([]:List Value).toArray }=Hd at hns₁ hsb₁ Id kD ⊢
 have szd:Hd.objs.size=s2.heap.objs.size+1:=by rw[← hHd,Heap.size_push]
 have keep:∀b o,Hd.get? b=some o→h₁.get? b=some o:=fun b o e=>hsb₁.extBut b o (Nat.ne_of_lt (Heap.lt_size e)) (Heap.get?_push_of_some _ e)
 have flt2:∀b∈fp,b<s2.heap.objs.size:=fun b hb=>by
  obtain⟨o,e,_⟩:=T.obj _ _ st b hb
  exact Heap.lt_size e
 have fd:∀b∈fp,FpOk X pins (upd H2 s2.heap.objs.size (.lst [])) b:=fun b hb=>
  ⟨by rw[qA (Nat.ne_of_lt (flt2 b hb))];exact(f2 b hb).1,(f2 b hb).2⟩
 obtain⟨W,⟨m0,w0⟩,turn⟩:=rd _ hD
 generalize hY:cxC X scope cl N fp { s2 with heap:=Hd } (upd H2 s2.heap.objs.size (.lst []))=Y
 have hg:=hg fp { s2 with heap:=Hd } (upd H2 s2.heap.objs.size (.lst []))
 have ht:=ht fp { s2 with heap:=Hd } (upd H2 s2.heap.objs.size (.lst []))
 have he:=he fp { s2 with heap:=Hd } (upd H2 s2.heap.objs.size (.lst []))
 have loop:∀s₃:Shared,s₃={ s2 with heap:=h₁,toks:=s2.toks+([]:List (Str×Value)).length }→
   codeAny (model X.prog X.w) X.A (.compLoop (.ListComp elt [⟨tg,iter,ifs,0⟩] scope cpos) 0 (.ref it) (.ref s2.heap.objs.size) (compEnvC scope cl Hd.objs.size X.env))
    (RR (.ref s2.heap.objs.size) Hd.objs.size) s₃:=by
  rintro s₃ rfl
  have IY:Inv Y [] (stC k js σ) (upd H2 s2.heap.objs.size (.lst [])) { s2 with heap:=h₁,toks:=s2.toks+([]:List (Str×Value)).length }:=by
   rw[← hY]
   exact qEg (t':=s2.toks+([]:List (Str×Value)).length) C hcl1 hcl2 Id fd (fun b hb=>Nat.lt_of_lt_of_le (flt2 b hb) (by show s2.heap.objs.size≤Hd.objs.size;omega)) hns₁ keep
  rw[hY] at hg ht he
  have yprog:Y.prog=X.prog:=by rw[← hY];rfl
  have yw:Y.w=X.w:=by rw[← hY];rfl
  have yK:Y.K=X.K:=by rw[← hY];rfl
  have yA:Y.A=X.A:=by rw[← hY];rfl
  have yc:Y.calm=true:=by rw[← hY];exact hc
  have yenv:Y.env=compEnvC scope cl Hd.objs.size X.env:=by rw[← hY];rfl
  have yxe:Y.xe=fun _ _=>False:=by rw[← hY];rfl
  have ybase:∀{pn σ' H' s'},Inv Y pn σ' H' s'→Un (frs X.stack) fp (upd H2 s2.heap.objs.size (.lst [])) H' Hd s'.heap∧s'.os=s2.os:=fun{pn σ' H' s'} J=>by
   have u:=J.base
   have o:=J.os
   rw[← hY] at u o
   exact⟨u,o⟩
  have statY:∀{H':Hp},(∀b∈fp,H' b=none)→∀b∈fp,FpOk Y [] H' b:=fun{H'} hn b hb=>by
   rw[← hY]
   refine⟨hn b hb,Nat.ne_of_lt (Nat.lt_of_lt_of_le (flt2 b hb) (by show s2.heap.objs.size≤Hd.objs.size;omega)),?_,.inl hb,fun x c e=>(f2 b hb).2.2.2.2.1 x c (hcl1 x c e),fun p hp=>absurd (show p∈([]:List (Addr×Obj)) from hp) (by simp)⟩
   intro z
   rcases List.mem_cons.mp (I.stkSub b z) with q | q
   ·exact(f2 b hb).2.1 q
   ·exact(f2 b hb).2.2.1 q
  have st₁:tn 0 h₁:=T.keep _ _ _ st fun b hb o e=>keep b o (kD b o e)
  refine codeAny_loop rfl (fun n s'=>∃i ys H',Inv Y [] (stC k js σ) H' s'∧tn i s'.heap∧(∀b∈fp,H' b=none)∧W i n ys H') ?_ m0 ⟨0,[],_,IY,st₁,fun b hb=>(fd b hb).1,w0⟩
  rintro n s3 ⟨i,ys,H3,I3,st3,fr3,w3⟩
  show wpAny _ X.A ((compTurn (.ListComp elt [⟨tg,iter,ifs,0⟩] scope cpos) 0 (.ref it) (.ref s2.heap.objs.size) (compEnvC scope cl Hd.objs.size X.env)).onRaise (fun x=>do noteFrame x (compEnvC scope cl Hd.objs.size X.env);theTreesLotGoes x)) _ _ s3
  refine wpAny_noted ?_
  rw[compTurn_list]
  obtain⟨hDs,tr⟩:=turn i n ys H3 w3
  have hPE:∀{α:Type} {t:Sem α} {R R':α→Shared→Prop} {E':Value→Shared→Prop} {s:Shared},wpAny (model Y.prog Y.w) Y.A t R Y.xe s→(∀a s,R a s→R' a s)→wpAny (model X.prog X.w) X.A t R' E' s:=fun{α t R R' E' s} h hQ=>by
   rw[yprog,yw,yA,yxe] at h
   exact wpAny_mono h hQ fun _ _ z=>z.elim
  rcases tr with⟨stop,qn⟩ | ⟨go,step⟩
  ·refine wpAny_bind (wpAny_standAt (wpAny_bind ?_))
   have dn:=T.done Y yprog yw yK yc i [] s3 (stC k js σ) H3 (fun _ _=>False) I3 (statY fr3) st3 stop
   rw[yA] at dn
   refine wpAny_mono dn (fun r s4 ⟨hr,I4⟩=>?_) fun _ _ z=>z.elim
   subst hr
   obtain⟨u4,o4⟩:=ybase I4
   refine wpAny_pure (fin _ _ H3 s4 ?_ ?_ ?_ qn)
   ·refine I.call' (ch:=fp) o4 ((Un.laid (fun b o e=>kD b o e) (Nat.le_refl _) hD).trans u4) (by have:=I4.hok;rw[yprog,yw] at this;exact this) I4.bare fun b hb=>?_
    obtain⟨_,q1,q2,q3,q4,q5⟩:=f2 b hb
    exact⟨q3,q1,q4,q5⟩
   ·refine I.fpOk (by show s2.heap.objs.size≤Hd.objs.size;omega) ?_
    have:=I4.free
    rw[yenv] at this
    exact this
   ·obtain⟨m,hn,_⟩:=I4.loc
    rw[yenv] at hn
    exact⟨m,hn⟩
  ·refine wpAny_bind (wpAny_standAt (wpAny_bind ?_))
   have itm:=T.item Y yprog yw yK yc i [] s3 (stC k js σ) H3 (fun _ _=>False) I3 (statY fr3) st3 go
   rw[yA] at itm
   refine wpAny_mono itm (fun r s4 ⟨u,hr,h4⟩=>?_) fun _ _ z=>z.elim
   subst hr
   refine wpAny_bind (wpAny_mono h4 (fun _ s5 ⟨x,H5,I5,r5,y5,st5,fr5⟩=>?_) fun _ _ z=>z.elim)
   have I5':=I5.pinned (statY fr5) (T.obj _ _ st5)
   have as:=hg _ s5 (stC k js σ) H5 x u _ I5' r5 (step x H5 y5)
   rw[yenv] at as
   refine wpAny_bind (hPE as fun _ s6 ⟨σ6,H6,I6,⟨ow,eow,e6⟩,q6⟩=>?_)
   have again:∀{H7:Hp} {s7:Shared} {zs:List V},Inv Y ([]++pinsAt fp s5.heap) σ6 H7 s7→(∃m',m'<n∧W (i+1) m' zs H7)→
     ∃m,m<n∧∃i ys H',Inv Y [] (stC k js σ) H' s7∧tn i s7.heap∧(∀b∈fp,H' b=none)∧W i m ys H':=fun{H7 s7 zs} I7 ⟨m',hm,w7⟩=>by
    have J7:Inv Y ([]++pinsAt fp s5.heap) (stC k js σ) H7 s7:=by
     refine I7.weak ?_ fun j v e=>?_
     ·rw[e6]
      show(List.replicate k none++frees js σ).length=_
      rw[List.length_append,List.length_append,List.length_replicate,eow]
     ·have e:(List.replicate k (none:Option V)++frees js σ)[j]? = some (some v):=e
      rw[e6]
      by_cases hj:j<k
      ·rw[List.getElem?_append_left (by rw[List.length_replicate];exact hj),List.getElem?_replicate] at e
       split at e <;> cases e
      ·rw[List.getElem?_append_right (by rw[List.length_replicate];omega),List.length_replicate] at e
       rw[List.getElem?_append_right (by omega),eow]
       exact e
    refine⟨m',hm,i+1,zs,H7,J7.unpinned,T.keep _ _ _ st5 fun b hb o e=>(I7.pin (b,o) (List.mem_append_right _ (List.mem_append_right _ (kP hb e)))).1,fun b hb=>?_,w7⟩
    obtain⟨o,e,d⟩:=T.obj _ _ st5 b hb
    exact(I7.pin (b,o) (List.mem_append_right _ (List.mem_append_right _ (kP hb e)))).2.1
   have tst:=ht _ s6 σ6 H6 _ I6 q6
   rw[yenv] at tst
   refine wpAny_bind (hPE tst fun b s7 ⟨H7,I7,q7⟩=>?_)
   cases b with
   | false=>exact wpAny_pure ⟨rfl,again I7 q7⟩
   | true=>
    have ev:=he _ s7 σ6 H7 _ I7 q7
    rw[yenv] at ev
    refine wpAny_bind (wpAny_bind (hPE ev fun v s8 ⟨y,H8,I8,r8,q8,z8,w8⟩=>?_))
    refine wpAny_bind (hPE (xS (X:=Y) _ s8 σ6 H8 (.ref s2.heap.objs.size) [y] (.ref s2.heap.objs.size) [v] (fun _ H9=>H9=upd H8 s2.heap.objs.size (.lst (ys++[y]))) I8 rfl (.cons r8 .nil) ⟨_,ys,y,rfl,rfl,q8,z8,rfl⟩) fun _ s9 ⟨_,H9,I9,_,e9⟩=>?_)
    subst e9
    exact wpAny_pure (wpAny_pure ⟨rfl,again I9 w8⟩)
 exact codeAny_compStart_list (loop _ rfl) (T.self _ 0 _ _ _ (T.keep _ _ _ st fun b hb o e=>keep b o (kD b o e)) (loop _ rfl))

theorem qIo {pins:List (Addr×Obj)}{σ:St}{H:Hp}{s:Shared}(I:Inv X pins σ H s)(C:CompOk X.env.scope X.N scope N k js):∀p∈scope.names,p.2=.free→∃c,X.env.cells.lookup p.1=some c:=
 fun p hp hf=>I.ok.has p.1 (C.free p hp hf)

theorem jW {wi:TI}{sc:Scope}{N0:List Str}(hc:X.calm=true)(C:CompOk sc N0 scope N k js)(hi:PI X tg iter wi)
  (hg:∀cl fp s H,PG (cxC X scope cl N fp s H) tg g) (ht:∀cl fp s H,PTs (cxC X scope cl N fp s H) ifs tt) (he:∀cl fp s H,PE (cxC X scope cl N fp s H) elt te)
  (hs:∀x,foldedSetIterable iter X.env x=pure x:=by intro _;rfl) (hsc:X.env.scope=sc:=by rfl) (hN0:X.N=N0:=by rfl):PE X (.ListComp elt [⟨tg,iter,ifs,0⟩] scope cpos) (tComp k js wi g tt te):=by
 subst hsc hN0
 intro pins s σ H Q I h
 obtain⟨cl,e,h1,h2⟩:=qZj (qIo I C)
 rw[eval_ListComp]
 refine wpAny_comprehension_free (use:=none) rfl hs e C.kind C.names (thn (hi pins s σ H _ I h) fun v s1 q=>thn q fun itv s2 q2=>?_)
 obtain⟨it,fp,tn,J,H2,rfl,I2,T,st,f2,rd⟩:=q2
 refine qAv (RR:=fun acc L=>compPost (model X.prog X.w) X.A X.xe none (EP X pins σ Q) acc L) hc C h1 h2 (hg cl) (ht cl) (he cl) I2 T st f2 rd ?_
 intro D L H' s' I' ⟨f0,f1,_,f3,f4,f5⟩ ⟨m,hn⟩ q
 refine⟨m,hn,fun h' sb=>⟨.ref D,H',?_,rfl,q⟩⟩
 exact I'.turned (t':=s'.toks) (fun b o hb e=>(sb.2 b hb).trans e) f0 f1 f3 f4 f5

theorem yE {wi:TI}{i:Nat}{x:Str}{pos pos':Pos}{sc:Scope}{N0:List Str}(hN:X.N.Nodup)(hi':X.N[i]? = some x)(hx:Loc X.env.scope x)(hc:X.calm=true)(C:CompOk sc N0 scope N k js)(hi:PI X tg iter wi)
  (hg:∀cl fp s H,PG (cxC X scope cl N fp s H) tg g) (ht:∀cl fp s H,PTs (cxC X scope cl N fp s H) ifs tt) (he:∀cl fp s H,PE (cxC X scope cl N fp s H) elt te)
  (hsw:swapsWith (.ListComp elt [⟨tg,iter,ifs,0⟩] scope cpos) (some (.Name x pos')) pos.line X.env=pure true:=by rfl)
  (hs:∀x,foldedSetIterable iter X.env x=pure x:=by intro _;rfl) (hsc:X.env.scope=sc:=by rfl) (hN0:X.N=N0:=by rfl) (hf:X.fn x=true∨X.env.scope.names.lookup x=some .local:=by first | exact .inl rfl | exact .inr rfl | assumption):
  PS X (.Assign [.Name x pos'] (.ListComp elt [⟨tg,iter,ifs,0⟩] scope cpos) pos) (tAsg (tComp k js wi g tt te) (gName i)):=by
 subst hsc hN0
 intro pins s σ H D I h
 obtain⟨cl,e,h1,h2⟩:=qZj (qIo I C)
 rw[exec_Assign_Name_used _ _ _ _ hsw]
 refine wpAny_bind (wpAny_standAt (wpAny_bind ?_))
 show wpAny _ X.A (do let _ ← comprehension (.ListComp elt [⟨tg,iter,ifs,0⟩] scope cpos) scope X.env _ (newList []) false (eval iter X.env) (some (assign (.Name x pos') X.env))) _ _ s
 refine wpAny_bind (wpAny_mono (wpAny_comprehension_free (use:=some (assign (.Name x pos') X.env)) (Q:=fun _ s'=>SP X pins D .next s') rfl hs e C.kind C.names
  (thn (hi pins s σ H _ I h) fun v s1 q=>thn q fun itv s2 q2=>?_)) (fun _ s' hq=>wpAny_pure (wpAny_pure hq)) fun _ _ z=>z)
 obtain⟨it,fp,tn,J,H2,rfl,I2,T,st,f2,rd⟩:=q2
 refine qAv (RR:=fun acc L=>compPost (model X.prog X.w) X.A X.xe (some (assign (.Name x pos') X.env)) (fun _ s'=>SP X pins D .next s') acc L) hc C h1 h2 (hg cl) (ht cl) (he cl) I2 T st f2 rd ?_
 intro A' L H' s' I' ⟨f0,f1,f2',f3,f4,f5⟩ ⟨m,hn⟩ q
 show wpAny _ X.A (assign (.Name x pos') X.env (.ref A')) _ _ s'
 refine wpAny_assign_Name (qJi (v:=V.ref A') I' hN hi' hx rfl (fun s'' I'' ⟨a,sb,ha⟩=>?_) hf)
 have hLa:L≠a:=by
  rcases ha with rfl | ha
  ·exact f1
  ·exact fun z=>f4 x a ha z.symm
 refine⟨m,hn.sameBut sb hLa,fun h' sb'=>⟨σ.set i (some (.ref A')),H',?_,q⟩⟩
 exact I''.turned (t':=s''.toks) (fun b o hb e=>(sb'.2 b hb).trans e) f0 f1 f3 f4 f5
end

noncomputable abbrev turnC (k:Nat)(js:List Nat)(g:TG)(tt:TT)(te:TE)(σ:St)(D:Addr)(x:V)(ys:List V)(H:Hp)(N:List V→Hp→Prop):Prop:=
 g x (stC k js σ) H fun σ4 H4=>(∃ow:St,ow.length=k∧σ4=ow++frees js σ)∧
  tt σ4 H4 fun b H5=>if b=true then te σ4 H5 fun y H6=>H6 D=some (.lst ys)∧ys.length<sizeLine∧N (ys++[y]) (upd H6 D (.lst (ys++[y]))) else N ys H5
section
variable {K:PySem.W.Frag}{a:Addr}{xs:List V}{k:Nat}{js:List Nat}{g:TG}{tt:TT}{te:TE}{σ:St}{H1:Hp}{Q:VK}
theorem zM (Pv:Addr→Nat→List V→Hp→Prop)(h0:∀D,H1 D=none→Pv D 0 [] (upd H1 D (.lst [])))
  (hl:∀D i ys H,i≤xs.length→Pv D i ys H→SqL K H a xs)
  (hs:∀D i x ys H (N:List V→Hp→Prop),H1 D=none→H D=some (.lst ys)→xs[i]? = some x→Pv D i ys H→(∀zs H',H' D=some (.lst zs)→Pv D (i+1) zs H'→N zs H')→turnC k js g tt te σ D x ys H N)
  (hd:∀D ys H,H1 D=none→H D=some (.lst ys)→Pv D xs.length ys H→Q (.ref D) H):rdC k js g tt te (Itl K a) σ H1 Q:=by
 intro D hD
 refine⟨fun i m ys H=>m=xs.length - i∧i≤xs.length∧H D=some (.lst ys)∧Pv D i ys H,⟨xs.length,by simp,Nat.zero_le _,qW,h0 D hD⟩,?_⟩
 rintro i m ys H ⟨rfl,hi,hDy,p⟩
 refine⟨hDy,?_⟩
 have q:=hl D i ys H hi p
 by_cases hlt:i<xs.length
 ·refine .inr ⟨⟨xs,xs[i],q,by simp[hlt]⟩,fun x H' y=>?_⟩
  obtain⟨e,y⟩:=y
  subst e
  exact hs D i x ys _ (fun zs H'=>∃m',m'<xs.length - i∧m'=xs.length - (i+1)∧i+1≤xs.length∧H' D=some (.lst zs)∧Pv D (i+1) zs H') hD hDy (y xs q) p fun zs H' e p'=>⟨xs.length - (i+1),by omega,rfl,hlt,e,p'⟩
 ·have e:i=xs.length:=by omega
  subst e
  exact .inl ⟨⟨xs,q,Nat.le_refl _⟩,hd D ys H hD hDy p⟩
theorem qIa (Pv:Addr→Nat→List V→Hp→Prop)(h0:∀D,H1 D=none→Pv D 0 [] (upd H1 D (.lst [])))
  (hl:∀D i ys H,i≤xs.length→Pv D i ys H→SqT K H a xs)
  (hs:∀D i x ys H (N:List V→Hp→Prop),H1 D=none→H D=some (.lst ys)→xs[i]? = some x→Pv D i ys H→(∀zs H',H' D=some (.lst zs)→Pv D (i+1) zs H'→N zs H')→turnC k js g tt te σ D x ys H N)
  (hd:∀D ys H,H1 D=none→H D=some (.lst ys)→Pv D xs.length ys H→Q (.ref D) H):rdC k js g tt te (Itt K a) σ H1 Q:=by
 intro D hD
 refine⟨fun i m ys H=>m=xs.length - i∧i≤xs.length∧H D=some (.lst ys)∧Pv D i ys H,⟨xs.length,by simp,Nat.zero_le _,qW,h0 D hD⟩,?_⟩
 rintro i m ys H ⟨rfl,hi,hDy,p⟩
 refine⟨hDy,?_⟩
 have q:=hl D i ys H hi p
 by_cases hlt:i<xs.length
 ·refine .inr ⟨⟨xs,xs[i],q,by simp[hlt]⟩,fun x H' y=>?_⟩
  obtain⟨e,y⟩:=y
  subst e
  exact hs D i x ys _ (fun zs H'=>∃m',m'<xs.length - i∧m'=xs.length - (i+1)∧i+1≤xs.length∧H' D=some (.lst zs)∧Pv D (i+1) zs H') hD hDy (y xs q) p fun zs H' e p'=>⟨xs.length - (i+1),by omega,rfl,hlt,e,p'⟩
 ·have e:i=xs.length:=by omega
  subst e
  exact .inl ⟨⟨xs,q,Nat.le_refl _⟩,hd D ys H hD hDy p⟩
theorem qZz {lo:Int}{n:Nat}(Pv:Addr→Nat→List V→Hp→Prop)(h0:∀D,H1 D=none→Pv D 0 [] (upd H1 D (.lst [])))
  (hs:∀D i ys H (N:List V→Hp→Prop),H1 D=none→H D=some (.lst ys)→i<n→Pv D i ys H→(∀zs H',H' D=some (.lst zs)→Pv D (i+1) zs H'→N zs H')→turnC k js g tt te σ D (.int (lo+i)) ys H N)
  (hd:∀D ys H,H1 D=none→H D=some (.lst ys)→Pv D n ys H→Q (.ref D) H):rdC k js g tt te (Itr lo n) σ H1 Q:=by
 intro D hD
 refine⟨fun i m ys H=>m=n - i∧i≤n∧H D=some (.lst ys)∧Pv D i ys H,⟨n,by simp,Nat.zero_le _,qW,h0 D hD⟩,?_⟩
 rintro i m ys H ⟨rfl,hi,hDy,p⟩
 refine⟨hDy,?_⟩
 by_cases hlt:i<n
 ·refine .inr ⟨hlt,fun x H' y=>?_⟩
  obtain⟨e,y⟩:=y
  subst e y
  exact hs D i ys _ (fun zs H'=>∃m',m'<n - i∧m'=n - (i+1)∧i+1≤n∧H' D=some (.lst zs)∧Pv D (i+1) zs H') hD hDy hlt p fun zs H' e p'=>⟨n - (i+1),by omega,rfl,hlt,e,p'⟩
 ·have e:i=n:=by omega
  subst e
  exact .inl ⟨Nat.le_refl _,hd D ys H hD hDy p⟩
end
noncomputable def qKe (e:Expr):Scope:=match e with
 | .ListComp _ _ s _=>s
 | _=>{ kind:=.function,names:=[],isGenerator:=false,isCoroutine:=false }
noncomputable def argOf (e:Expr)(i:Nat):Expr:=match e with
 | .Call _ as _ _=>as.getD i (.Constant .none 0 ⟨0,0,0,0⟩)
 | _=>.Constant .none 0 ⟨0,0,0,0⟩
noncomputable def stAt (l:List Stmt)(i:Nat):Stmt:=l.getD i (.Pass ⟨0,0,0,0⟩)
noncomputable def asgVal (s:Stmt):Expr:=match s with
 | .Assign _ v _=>v
 | .Return (some v) _=>v
 | _=>.Constant .none 0 ⟨0,0,0,0⟩
end L2

namespace L2
open PySem PySem.Spec PyProof.Rows

theorem log2_lt {n k:Nat}(h:n<2 ^ (k+1)):n.log2≤k:=by
 by_cases h0:n=0
 ·subst h0;simp
 ·exact Nat.lt_succ_iff.mp ((Nat.log2_lt h0).mpr h)
theorem qFn {a:Int}(h:a.natAbs<2 ^ 1000):Builtin.Int.intBits a≤2 ^ 20:=by
 unfold Builtin.Int.intBits
 split
 ·exact Nat.zero_le _
 ·have:=log2_lt (n:=a.natAbs) (k:=999) h
  have e:(2:Nat) ^ 20=1048576:=by decide
  omega
theorem mulOk {a b:Int}(ha:a.natAbs<2 ^ 1000)(hb:b.natAbs<2 ^ 1000):IntMulOk a b:=IntMulOk.of_bits (qFn ha) (qFn hb)
section
variable {X:Cx}{a b:Expr}{ta tb:TE}{pos:Pos}
theorem jN:OpR X (binaryOp .Mult) (rI (fun i j=>i.natAbs<2 ^ 1000∧j.natAbs<2 ^ 1000) fun i j=>.int (i * j)):=opI fun _ _ _ _ _ _ _ hc q=>mul_int q (mulOk hc.1 hc.2)
theorem yR:OpR X (binaryOp .FloorDiv) (rI (fun _ j=>0<j∧j.natAbs<2 ^ 1000) fun i j=>.int (i / j)):=opI fun i j _ _ _ _ _ hc q=>by
 have h0:j≠0:=by have:=hc.1;omega
 have e:i.fdiv j=i / j:=Int.fdiv_eq_ediv_of_nonneg _ (by have:=hc.1;omega)
 refine floordiv_int h0 (by rw[e];exact q) (.inl (PyProof.noPylong_of_log2 ?_))
 have:=log2_lt (n:=j.natAbs) (k:=999) hc.2
 omega

theorem qVz:OpR X (binaryOp .Mult) (fun x y H Q=>∃z n,x=.str z∧y=.int n∧-1000≤n∧n≤1000∧z.length≤1000∧Q (.str (Txt.mul z n)) H):=by
 intro pins s σ H x y v u Q I rx ry h
 obtain⟨z,n,rfl,rfl,h0,h1,h2,q⟩:=h
 obtain⟨t,rfl⟩:=rx
 obtain⟨t',rfl⟩:=ry
 refine SB.mul ⟨?_,fun a b=>?_,fun a b=>?_⟩ fun t'' k=>⟨.str (Txt.mul z n),H,I.tok _,⟨_,rfl⟩,q⟩
 ·rw[decide_eq_false (by omega),decide_eq_false (by omega)];rfl
 ·intro c
  have:(2 ^ 63 - 1) / n≥(2 ^ 63 - 1) / 1000:=by
   apply Int.le_ediv_of_mul_le (by omega)
   have:(2 ^ 63 - 1:Int) / 1000 * n≤(2 ^ 63 - 1) / 1000 * 1000:=Int.mul_le_mul_of_nonneg_left h1 (by decide)
   exact Int.le_trans this (by decide)
  have e:((2:Int) ^ 63 - 1) / 1000=9223372036854775:=by decide
  omega
 ·show decide (z.length * n.toNat>sizeLine)=false
  refine decide_eq_false ?_
  have:z.length * n.toNat≤1000 * 1000:=Nat.mul_le_mul h2 (by omega)
  have e:sizeLine=16777216:=by decide
  omega
theorem qYg (x:Array Nat):∀(k:Nat) (acc:Array Nat),((List.replicate k x).foldl (·++·) acc).size=acc.size+k * x.size
 | 0,acc=>by simp
 | k+1,acc=>by
  rw[List.replicate_succ,List.foldl_cons,qYg x k,Array.size_append,Nat.succ_mul]
  omega
theorem qDi (x:Str)(n:Int):(Txt.mul x n).length≤x.length * n.toNat:=by
 unfold Txt.mul
 split
 ·exact Nat.zero_le _
 ·split
  ·rename_i h1 h2
   have:1≤n.toNat:=by omega
   exact Nat.le_mul_of_pos_right _ (by omega)
  ·show((List.replicate n.toNat x.cps).foldl (·++·) #[]).size≤_
   rw[qYg,Nat.mul_comm]
   exact Nat.le_of_eq (by simp[Str.length])

inductive DEq (K:PySem.W.Frag)(H:Hp):Nat→V→V→Prop
 | int {n} (i:Int):DEq K H n (.int i) (.int i)
 | str {n} (x:Str):DEq K H n (.str x) (.str x)
 | bl {n} (b:Bool):DEq K H n (.bl b) (.bl b)
 | non {n}:DEq K H n .non .non
 | same {n} (a:Addr):DEq K H n (.ref a) (.ref a)
 | lst {n} {a b:Addr} {xs ys:List V}:SqL K H a xs→SqL K H b ys→xs.length=ys.length→(∀(j:Nat) x y,xs[j]? = some x→ys[j]? = some y→DEq K H n x y)→DEq K H (n+1) (.ref a) (.ref b)
 | tup {n} {a b:Addr} {xs ys:List V}:SqT K H a xs→SqT K H b ys→xs.length=ys.length→(∀(j:Nat) x y,xs[j]? = some x→ys[j]? = some y→DEq K H n x y)→DEq K H (n+1) (.ref a) (.ref b)
theorem vM (n:Nat):(List.range n).all (fun _=>true)=true:=List.all_eq_true.mpr fun _ _=>rfl
theorem Inv.deq {pins:List (Addr×Obj)}{σ:St}{H:Hp}{s:Shared}(I:Inv X pins σ H s):∀{n:Nat} {x y:V},DEq X.K H n x y→∀{A:Around} {u v:Value},RelV x u→RelV y v→A.units+n<cLine→SeqAt.EqAt A s u v true:=by
 intro n x y d
 induction d with
 | int i=>intro A u v r q _;obtain⟨t,rfl⟩:=r;obtain⟨t',rfl⟩:=q;have:=SeqAt.EqAt.int_int (A:=A) (s:=s) i t i t';rwa [beq_self_eq_true] at this
 | str i=>intro A u v r q _;obtain⟨t,rfl⟩:=r;obtain⟨t',rfl⟩:=q;have:=SeqAt.EqAt.str_str (A:=A) (s:=s) i t i t';rwa [beq_self_eq_true] at this
 | bl i=>intro A u v r q _;cases r;cases q;exact SeqAt.EqAt.same _
 | non=>intro A u v r q _;cases r;cases q;exact SeqAt.EqAt.same _
 | same a=>intro A u v r q _;cases r;cases q;exact SeqAt.EqAt.same _
 | @lst n a b xs ys ha hb hl _ ih=>
  intro A u v r q hu
  cases r;cases q
  obtain⟨its,r1,p1,_⟩:=I.list ha
  obtain⟨its2,r2,p2,_⟩:=I.list hb
  by_cases hab:a=b
  ·subst hab;exact SeqAt.EqAt.same _
  ·refine SeqAt.EqAt.of_refs hab ?_
   have sz:its.toArray.size=its2.toArray.size:=by rw[List.size_toArray,List.size_toArray,← r1.length,← r2.length,hl]
   have:=SeqAt.RcAt.lists (A:=A) (s:=s) (e:=fun _=>true) p1.isList p2.isList sz (by omega) fun j h1 h2=>?_
   ·rwa [vM] at this
   ·have h1':j<xs.length:=by rw[r1.length];simpa using h1
    have h2':j<ys.length:=by rw[← hl];exact h1'
    obtain⟨u1,e1,q1⟩:=r1.get (List.getElem?_eq_getElem h1')
    obtain⟨u2,e2,q2⟩:=r2.get (List.getElem?_eq_getElem h2')
    have g1:its.toArray[j]=u1:=by
     have:its[j]? = some its.toArray[j]:=by simp
     exact Option.some.inj (this.symm.trans e1)
    have g2:its2.toArray[j]=u2:=by
     have:its2[j]? = some its2.toArray[j]:=by simp
     exact Option.some.inj (this.symm.trans e2)
    rw[g1,g2]
    exact ih j _ _ (List.getElem?_eq_getElem h1') (List.getElem?_eq_getElem h2') q1 q2 (by show A.units+1+n<cLine;omega)
 | @tup n a b xs ys ha hb hl _ ih=>
  intro A u v r q hu
  cases r;cases q
  obtain⟨its,r1,p1,_⟩:=I.tuple ha
  obtain⟨its2,r2,p2,_⟩:=I.tuple hb
  by_cases hab:a=b
  ·subst hab;exact SeqAt.EqAt.same _
  ·refine SeqAt.EqAt.of_refs hab ?_
   have sz:its.toArray.size=its2.toArray.size:=by rw[List.size_toArray,List.size_toArray,← r1.length,← r2.length,hl]
   have:=SeqAt.RcAt.tuples (A:=A) (s:=s) (e:=fun _=>true) (show s.heap.IsTuple a its.toArray from p1) (show s.heap.IsTuple b its2.toArray from p2) (by omega) fun j h1 h2=>?_
   ·rw[vM,sz,beq_self_eq_true] at this
    exact this
   ·have h1':j<xs.length:=by rw[r1.length];simpa using h1
    have h2':j<ys.length:=by rw[← hl];exact h1'
    obtain⟨u1,e1,q1⟩:=r1.get (List.getElem?_eq_getElem h1')
    obtain⟨u2,e2,q2⟩:=r2.get (List.getElem?_eq_getElem h2')
    have g1:its.toArray[j]=u1:=by
     have:its[j]? = some its.toArray[j]:=by simp
     exact Option.some.inj (this.symm.trans e1)
    have g2:its2.toArray[j]=u2:=by
     have:its2[j]? = some its2.toArray[j]:=by simp
     exact Option.some.inj (this.symm.trans e2)
    rw[g1,g2]
    exact ih j _ _ (List.getElem?_eq_getElem h1') (List.getElem?_eq_getElem h2') q1 q2 (by show A.units+1+n<cLine;omega)
noncomputable def rEqL (K:PySem.W.Frag)(k:Bool):R2:=fun x y H Q=>∃n a b xs ys,n≤60∧x=.ref a∧y=.ref b∧SqL K H a xs∧SqL K H b ys∧xs.length=ys.length∧(∀(j:Nat) x y,xs[j]? = some x→ys[j]? = some y→DEq K H n x y)∧Q (.bl k) H
theorem qQh {pins:List (Addr×Obj)}{σ:St}{H:Hp}{s:Shared}(I:Inv X pins σ H s){n:Nat}{xs ys:List V}{its its2:List Value}(r1:Vals xs its)(r2:Vals ys its2)(hl:xs.length=ys.length)
  (hd:∀(j:Nat) x y,xs[j]? = some x→ys[j]? = some y→DEq X.K H n x y) {A:Around} (hu:A.units+n<cLine):∀j (h1:j<its.toArray.size) (h2:j<its2.toArray.size),SeqAt.EqAt A s its.toArray[j] its2.toArray[j] true:=by
 intro j h1 h2
 have h1':j<xs.length:=by rw[r1.length];simpa using h1
 have h2':j<ys.length:=by rw[← hl];exact h1'
 obtain⟨u1,e1,q1⟩:=r1.get (List.getElem?_eq_getElem h1')
 obtain⟨u2,e2,q2⟩:=r2.get (List.getElem?_eq_getElem h2')
 have g1:its.toArray[j]=u1:=by
  have:its[j]? = some its.toArray[j]:=by simp
  exact Option.some.inj (this.symm.trans e1)
 have g2:its2.toArray[j]=u2:=by
  have:its2[j]? = some its2.toArray[j]:=by simp
  exact Option.some.inj (this.symm.trans e2)
 rw[g1,g2]
 exact I.deq (hd j _ _ (List.getElem?_eq_getElem h1') (List.getElem?_eq_getElem h2')) q1 q2 hu
theorem qRl (hu:X.A.units+64<cLine):OpR X (compareOp .Eq) (rEqL X.K true):=by
 intro pins s σ H x y v u Q I rx ry h
 obtain⟨n,a,b,xs,ys,hn,rfl,rfl,ha,hb,hl,hd,q⟩:=h
 cases rx;cases ry
 obtain⟨its,r1,p1,_⟩:=I.list ha
 obtain⟨its2,r2,p2,_⟩:=I.list hb
 have sz:its.toArray.size=its2.toArray.size:=by rw[List.size_toArray,List.size_toArray,← r1.length,← r2.length,hl]
 refine SeqAt.RcAt.lists (e:=fun _=>true) p1.isList p2.isList sz (by omega) (qQh I r1 r2 hl hd (by show X.A.units+1+n<cLine;omega)) _ _ _ _ ?_
 rw[vM]
 exact⟨.bl true,H,I,rfl,q⟩
theorem qRg (hu:X.A.units+64<cLine):OpR X (compareOp .NotEq) (rEqL X.K false):=by
 intro pins s σ H x y v u Q I rx ry h
 obtain⟨n,a,b,xs,ys,hn,rfl,rfl,ha,hb,hl,hd,q⟩:=h
 cases rx;cases ry
 obtain⟨its,r1,p1,_⟩:=I.list ha
 obtain⟨its2,r2,p2,_⟩:=I.list hb
 have sz:its.toArray.size=its2.toArray.size:=by rw[List.size_toArray,List.size_toArray,← r1.length,← r2.length,hl]
 refine SeqAt.RcNeAt.lists (e:=fun _=>true) p1.isList p2.isList sz (by omega) (qQh I r1 r2 hl hd (by show X.A.units+1+n<cLine;omega)) _ _ _ _ ?_
 rw[vM]
 exact⟨.bl false,H,I,rfl,q⟩
theorem qRh (hu:X.A.units+64<cLine):OpR X (compareOp .NotEq) (fun x y H Q=>∃a b xs,x=.ref a∧y=.ref b∧SqL X.K H a xs∧SqL X.K H b []∧Q (.bl (!xs.isEmpty)) H):=by
 intro pins s σ H x y v u Q I rx ry h
 obtain⟨a,b,xs,rfl,rfl,ha,hb,q⟩:=h
 cases xs with
 | nil=>exact qRg hu pins s σ H _ _ v u Q I rx ry ⟨0,a,b,[],[],by omega,rfl,rfl,ha,hb,rfl,fun j x y e=>by simp at e,q⟩
 | cons z zs=>
  cases rx;cases ry
  obtain⟨its,r1,p1,_⟩:=I.list ha
  obtain⟨its2,r2,p2,_⟩:=I.list hb
  have l1:=r1.length
  have l2:=r2.length
  refine SeqAt.RcNeAt.lists_lengths p1.isList p2.isList ?_ (by omega) _ _ _ _ ⟨.bl true,H,I,rfl,q⟩
  simp only[List.length_cons,List.length_nil] at l1 l2
  rw[bne_iff_ne,List.size_toArray,List.size_toArray]
  omega
theorem qVg:CallR X (.builtin "isinstance") (fun xs H Q=>∃x T t b,xs=[x,.ty T]∧TyOf X.K H x t∧PySem.W.kitOne X.K t (.type T)=some b∧Q (.bl b) H):=by
 intro pins s σ H xs us Q I r h
 obtain⟨x,T,t,b,rfl,ty,e,q⟩:=h
 obtain⟨u,v,rfl,ru,rv⟩:=vals2 r
 cases rv
 exact qEe I ru ty e fun tk=>⟨.bl b,H,I.tok _,rfl,q⟩
theorem qRb {x:Str}{T:String}{pos:Pos}(hg:Gl X x)(hm:X.mg x=none)(hv:bootBuiltins x=some (.type T))(hn:x ≠ "__name__" := by decide)(hd:(x == ("__debug__" : Str))=false:=by decide):PE X (.Name x pos) (tC (.ty T)):=
 qNb hg hm hv rfl hn hd
end

noncomputable def But (d:Addr)(H H':Hp):Prop:=∀b o,b≠d→H b=some o→H' b=some o
theorem But.refl {d:Addr}(H:Hp):But d H H:=fun _ _ _ h=>h
theorem But.trans {d:Addr}{H H1 H2:Hp}(a:But d H H1)(b:But d H1 H2):But d H H2:=fun c o n h=>b c o n (a c o n h)
theorem Same.but {d:Addr}{H H':Hp}(s:Same H H'):But d H H':=fun b o _ h=>s b o h
theorem But.upd {d:Addr}{H:Hp}{o:HO}:But d H (upd H d o):=fun b u n h=>by rw[qA n];exact h
theorem qV {H:Hp}{p:Addr}(h:H p=none)(o:HO):Same H (upd H p o):=fun b u q=>by rw[qA (qB q h)];exact q
theorem qJw {α:Type}(x:α)(xs:List α):atI (x::xs) 0=some x:=yZ (xs:=x::xs) (j:=0) rfl
theorem kS:bootBuiltins "len" = some (.builtin "len"):=by decide +kernel
theorem qSm:bootBuiltins "min" = some (.builtin "min"):=by decide +kernel
theorem vI:bootBuiltins "isinstance" = some (.builtin "isinstance"):=by decide +kernel
theorem qVi:bootBuiltins "list" = some (.type "list"):=by decide +kernel
theorem qAa:bootBuiltins "int" = some (.type "int"):=by decide +kernel
theorem qOo:bootBuiltins "bool" = some (.type "bool"):=by decide +kernel
theorem qFm:bootBuiltins "dict" = some (.type "dict"):=by decide +kernel
end L2

namespace PySem
namespace FR
end FR
section
variable {prog:Program}{w:World}{A:Around}{E:Value→Shared→Prop}{s:Shared}
end
end PySem
namespace L2
open PySem PySem.Spec PyProof.Rows
section
variable {X:Cx}{tg:Expr}
end
theorem vT {α β:Type}{F:α→β→Prop}:∀{a c:List α} {b d:List β},Paired F a b→Paired F c d→Paired F (a++c) (b++d)
 | _,_,_,_,.nil,q=>q
 | _,_,_,_,.cons f p,q=>.cons f (vT p q)
theorem xK {α β:Type}{F:α→β→Prop}:∀{a:List α} {b:List β} {i:Nat} {x:α} {y:β},Paired F a b→a[i]? = some x→b[i]? = some y→F x y
 | _,_,_,_,_,.nil,e,_=>by simp at e
 | _,_,0,_,_,.cons f _,e1,e2=>by simp at e1 e2;subst e1 e2;exact f
 | _,_,i+1,_,_,.cons _ p,e1,e2=>xK (i:=i) p (by simpa using e1) (by simpa using e2)
end L2

namespace PySem
namespace FD
theorem list_no_keys:typeLookup (.type "list") "keys" = pure none:=by rw[typeLookup_type,builtinLookup_eq_fast];kernel_rfl
theorem zip_no_keys:typeLookup (.type "zip") "keys" = pure none:=by rw[typeLookup_type,builtinLookup_eq_fast];kernel_rfl
theorem zip_no_getattr:typeLookup (.type "zip") "__getattr__" = pure none:=by rw[typeLookup_type,builtinLookup_eq_fast];kernel_rfl
theorem entry_zip_ga:entryFor table "zip.__getattribute__" = some Builtin.«object.__getattribute__»:=
 entryFor_alias (id' := "object.__getattribute__") (by kernel_rfl) (by decide +kernel) (by decide +kernel) (by kernel_rfl)
theorem keys_len:("keys" : Str).length+100≤sizeLine:=by decide +kernel
theorem keys_name:(["__module__","__name__","__qualname__","__doc__","__annotations__"]:List Str).contains "keys" = false:=by decide +kernel
end FD
theorem qVw (z:Addr)(vs:Array Value)(u:Tok):
  Meets (Builtin.«object.__getattribute__» ⟨[.ref z,.str "keys" u],[]⟩) (fun A R s=>s.heap.get? z=some { cls:=.type "zip",dict:=none,data:=.fields vs,slots:=#[] }∧raisesAttr (.ref z) "keys" A R s):=
 Meets.of_wp fun prog w A R s hs=>by
  obtain⟨hp,g,d,tk,os⟩:=s
  obtain⟨hx,hs⟩:=hs
  have hT:(⟨hp,g,d,tk,os⟩:Shared).TypeIs (.ref z) "zip" := ⟨_,hx,rfl⟩
  have f1:=FD.zip_no_keys
  unfold Builtin.«object.__getattribute__»
  repeat (any_goals (first | assumption | wp_step))
  try (simp only[FD.keys_name,Bool.false_eq_true,if_false];repeat (any_goals (first | assumption | wp_step)))
  exact wpAny_raiseAttrError hs.1 hs.2 (attrMsg_fits (by decide +kernel) FD.keys_len)
section
variable {prog:Program}{w:World}{A:Around}{E:Value→Shared→Prop}{s:Shared}
theorem qZo {z:Addr}{vs:Array Value}{Q:Option Value→Shared→Prop}(hx:s.heap.get? z=some { cls:=.type "zip",dict:=none,data:=.fields vs,slots:=#[] })(hA:A.handled=none)
  (h:∀h' tk,(∀b o,s.heap.get? b=some o→h'.get? b=some o)→Q none { s with heap:=h',toks:=tk }):wpAny (model prog w) A (getAttr? (.ref z) "keys") Q E s:=by
 obtain⟨hp,g,d,tk,os⟩:=s
 have hT:∀tk',(⟨hp,g,d,tk',os⟩:Shared).TypeIs (.ref z) "zip" := fun _=>⟨_,hx,rfl⟩
 have f1:=sub_AttributeError
 have f3:=F.slot_zip_getattribute.lookup
 have f4:=F.slot_zip_getattribute.bind (.ref z)
 have f5:=FD.zip_no_getattr
 unfold getAttr? getAttrBy? getAttrBy
 repeat (any_goals (first | assumption | exact hT _ | ((with_reducible show wpAny _ _ (call (Value.builtin "zip.__getattribute__") _ _) _ _ _);refine call_meets F.slot_zip_getattribute (hT _) FD.entry_zip_ga (F.args_zip_getattribute_2 _ _) (qVw z vs _) ⟨hx,hA,fun h' tk' e hx'=>?_⟩) | wp_step))
 obtain⟨t',u',he⟩:=hx'.there
 show wpAny _ _ (getattributeRaised _ _ _ _ _ _ _) _ _ _
 unfold getattributeRaised
 repeat (any_goals (first | assumption | wp_step))
 exact h _ _ hx'.keeps
theorem qXk {a:Addr}{xs:Array Value}{k:Nat}{Q:Option Value→Shared→Prop}(hx:s.heap.get? a=some { cls:=.type "list",data:=.seq xs k })(hA:A.handled=none)
  (h:∀h' tk,(∀b o,s.heap.get? b=some o→h'.get? b=some o)→Q none { s with heap:=h',toks:=tk }):wpAny (model prog w) A (getAttr? (.ref a) "keys") Q E s:=by
 obtain⟨hp,g,d,tk,os⟩:=s
 have hT:∀tk',(⟨hp,g,d,tk',os⟩:Shared).TypeIs (.ref a) "list" := fun _=>⟨_,hx,rfl⟩
 have f1:=sub_AttributeError
 have f3:=F.slot_list_getattribute.lookup
 have f4:=F.slot_list_getattribute.bind (.ref a)
 have f5:=am_list_getattr_none
 unfold getAttr? getAttrBy? getAttrBy
 repeat (any_goals (first | assumption | exact hT _ | ((with_reducible show wpAny _ _ (call (Value.builtin "list.__getattribute__") _ _) _ _ _);refine call_meets F.slot_list_getattribute (hT _) am_entry_list_getattribute (F.args_list_getattribute_2 _ _) (meets_getattribute_miss_list a xs k #[] _ _ FD.list_no_keys FD.keys_name FD.keys_len) ⟨hx,hA,fun h' tk' e hx'=>?_⟩) | wp_step))
 obtain⟨t',u',he⟩:=hx'.there
 show wpAny _ _ (getattributeRaised _ _ _ _ _ _ _) _ _ _
 unfold getattributeRaised
 repeat (any_goals (first | assumption | wp_step))
 exact h _ _ hx'.keeps

theorem wJ {it t:Addr}{i:Nat}{items:Array Value}{x:Value}{Q:Value→Shared→Prop}(hit:s.heap.IsTupleIter it t i)(ht:s.heap.IsTuple t items)(hx:items[i]? = some x)
  (hQ:∀h',h'.IsTupleIter it t (i+1)→Heap.SameBut it s.heap h'→Q x { s with heap:=h' }):wpAny (model prog w) A (Builtin.SmallTypes.nextOf (.ref it)) Q E s:=by
 obtain⟨o,ho,hc,hd⟩:=id hit
 obtain⟨ol,hol,_,nl,hdl⟩:=ht
 unfold Builtin.SmallTypes.nextOf
 refine wpAny_bind (wpAny_callSpecial?_slot (name:=Str.ofString "__next__") hit.typeIs F.slot_tuple_iterator_next (wpAny_call_entry F.slot_tuple_iterator_next hit.typeIs F.entry_tuple_iterator_next ?_ (F.args_tuple_iterator_next_1 _)))
 refine wpAny_bind (m:=field (.ref it) 0) (wpAny_field ho hd (x:=.ref t) rfl ?_)
 show wpAny _ _ (if (Value.ref t == Value.none)=true then _ else _) _ _ s;rw[if_neg (show¬((Value.ref t == Value.none)=true) from Bool.false_ne_true)]
 refine wpAny_bind (m:=field (.ref it) 1) (wpAny_field ho hd (x:=.int i 0) rfl ?_)
 refine wpAny_bind (m:=seqItems? (.ref t)) (wpAny_seqItems hol hdl ?_)
 simp only[Int.toNat_natCast,hx]
 refine wpAny_bind (wpAny_setField ho hd (by simp) (wpAny_pure ⟨x,rfl,wpAny_pure (hQ _ ?_ (Heap.SameBut.update ..))⟩))
 exact⟨_,Heap.get?_update_self _ ho (Obj.isFreed_of_fields (Obj.data_mapFields hd _)),(Obj.cls_mapFields ..).trans hc,by rw[Obj.data_mapFields hd];simp[rawInt]⟩

noncomputable abbrev ZipAt (h:Heap)(z TI TO:Addr)(f0 f1:Value):Prop:=h.get? z=some { cls:=.type "zip",dict:=none,data:=.fields #[f0,f1,.bool false,.ref TI,.ref TO],slots:=#[] }
noncomputable abbrev zH1 (h:Heap)(l:Addr):Heap:=h.push { cls:=.type "list_iterator",data:=.fields #[.ref l,.int 0 0] }
noncomputable abbrev zH2 (h:Heap)(l t:Addr):Heap:=(zH1 h l).push { cls:=.type "tuple_iterator",data:=.fields #[.ref t,.int 0 0] }
noncomputable abbrev zH3 (h:Heap)(l t:Addr):Heap:=(zH2 h l t).push { cls:=.type "tuple",data:=.seq #[.ref h.objs.size,.ref (zH1 h l).objs.size] }
noncomputable abbrev zH4 (h:Heap)(l t:Addr):Heap:=(zH3 h l t).push { cls:=.type "tuple",data:=.seq #[.none,.none] }
noncomputable abbrev zH5 (h:Heap)(l t:Addr):Heap:=(zH4 h l t).push { cls:=.type "zip",data:=.fields #[.none,.bool false,.bool false,.ref (zH2 h l t).objs.size,.ref (zH3 h l t).objs.size] }
theorem qYb (l t:Addr)(xs ys:Array Value):
  Meets (Builtin.«zip.__new__» ⟨[.type "zip",.ref l,.ref t],[]⟩) (fun _ R s=>s.heap.IsList l xs∧s.heap.IsTuple t ys∧R (.ok (.ret (.ref (zH4 s.heap l t).objs.size))) { s with heap:=zH5 s.heap l t }):=
 .of_wp fun prog w A R s h=>by
  obtain⟨hp,g,d,tk,os⟩:=s;obtain⟨hl,ht,h⟩:=h
  have hsub:=sub_zip
  have hL1:Heap.IsList (Shared.heap ⟨hp,g,d,tk,os⟩) l xs:=hl
  have hL2:Heap.IsTuple (Shared.heap ⟨hp.push { cls:=.type "list_iterator",data:=.fields #[.ref l,.int 0 0] },g,d,tk,os⟩) t ys:=by
   obtain⟨o,ho,r⟩:=ht
   exact⟨o,Heap.get?_push_of_some _ ho,r⟩
  wp_walk using wpAny_pyIter_list hL1,wpAny_pyIter_tuple hL2
  exact⟨_,rfl,h⟩
structure ZipSt (h:Heap)(z TI TO i1 i2 l t:Addr)(k:Nat):Prop where
 zip:ZipAt h z TI TO .none (.bool false)∨∃(T:Addr) (f:Bool),ZipAt h z TI TO (rawInt T) (.bool f)∧(∃o,h.get? T=some o)∧T≠z∧T≠TO∧T≠i1∧T≠i2
 its:IsPair h TI (.ref i1) (.ref i2)
 own:∃a b,IsPair h TO a b
 one:h.IsListIter i1 l k
 two:h.IsTupleIter i2 t k
structure ZApart (z TI TO i1 i2:Addr):Prop where
 TIz:TI≠z
 TOz:TO≠z
 i1z:i1≠z
 i2z:i2≠z
 TITO:TI≠TO
 TIi1:TI≠i1
 TIi2:TI≠i2
 TOi1:TO≠i1
 TOi2:TO≠i2
 i12:i1≠i2
theorem qVf {l t:Addr}{xs ys:Array Value}{Q:Value→Shared→Prop}(hl:s.heap.IsList l xs)(ht:s.heap.IsTuple t ys)
  (h:∀h' z TI TO i1 i2,ZApart z TI TO i1 i2→ZipSt h' z TI TO i1 i2 l t 0→s.heap.objs.size≤z→s.heap.objs.size≤TI→s.heap.objs.size≤TO→s.heap.objs.size≤i1→s.heap.objs.size≤i2→
   (∀c o,s.heap.get? c=some o→h'.get? c=some o)→Q (.ref z) { s with heap:=h' }):
  wpAny (model prog w) A (call (.type "zip") [.ref l,.ref t]) Q E s:=by
 refine callType_new F.called_zip (by decide) (F.typeCall_zip_2 _ _) (F.newCall_zip_2 _ _) (fun obj=>F.args_object_init_3 obj _ _) F.entry_zip_new (qYb l t xs ys) ⟨hl,ht,?_⟩
 have z1:(zH1 s.heap l).objs.size=s.heap.objs.size+1:=Heap.size_push ..
 have z2:(zH2 s.heap l t).objs.size=s.heap.objs.size+2:=by rw[Heap.size_push,z1]
 have z3:(zH3 s.heap l t).objs.size=s.heap.objs.size+3:=by rw[Heap.size_push,z2]
 have z4:(zH4 s.heap l t).objs.size=s.heap.objs.size+4:=by rw[Heap.size_push,z3]
 have g5:(zH5 s.heap l t).get? (zH4 s.heap l t).objs.size=some _:=Heap.get?_push_size _ rfl
 have g4:(zH5 s.heap l t).get? (zH3 s.heap l t).objs.size=some _:=Heap.get?_push_of_some _ (Heap.get?_push_size _ rfl)
 have g3:(zH5 s.heap l t).get? (zH2 s.heap l t).objs.size=some _:=Heap.get?_push_of_some _ (Heap.get?_push_of_some _ (Heap.get?_push_size _ rfl))
 have g2:(zH5 s.heap l t).get? (zH1 s.heap l).objs.size=some _:=Heap.get?_push_of_some _ (Heap.get?_push_of_some _ (Heap.get?_push_of_some _ (Heap.get?_push_size _ rfl)))
 have g1:(zH5 s.heap l t).get? s.heap.objs.size=some _:=Heap.get?_push_of_some _ (Heap.get?_push_of_some _ (Heap.get?_push_of_some _ (Heap.get?_push_of_some _ (Heap.get?_push_size _ rfl))))
 refine⟨⟨_,g5,rfl⟩,h _ _ (zH2 s.heap l t).objs.size (zH3 s.heap l t).objs.size s.heap.objs.size (zH1 s.heap l).objs.size ?_ ⟨.inl g5,g3,⟨_,_,g4⟩,⟨_,g1,rfl,rfl⟩,⟨_,g2,rfl,rfl⟩⟩ (by omega) (by omega) (by omega) (Nat.le_refl _) (by omega) ?_⟩
 ·constructor <;> (intro e;have e':@Eq Nat _ _:=e;omega)
 ·exact fun c o e=>Heap.get?_push_of_some _ (Heap.get?_push_of_some _ (Heap.get?_push_of_some _ (Heap.get?_push_of_some _ (Heap.get?_push_of_some _ e))))
end
end PySem

namespace PySem
section
variable {prog:Program}{w:World}{A:Around}{E:Value→Shared→Prop}{s:Shared}
theorem qZw {z TI TO i1 i2 l t:Addr}{k:Nat}{xs ys:Array Value}{x y:Value}{Q:Value→Shared→Prop}(D:ZApart z TI TO i1 i2)(S:ZipSt s.heap z TI TO i1 i2 l t k)
  (hl:s.heap.IsList l xs) (ht:s.heap.IsTuple t ys) (nl:l≠z∧l≠TO∧l≠i1∧l≠i2) (nt:t≠z∧t≠TO∧t≠i1∧t≠i2) (hx:xs[k]? = some x) (hy:ys[k]? = some y)
  (hQ:∀h' T,ZipSt h' z TI TO i1 i2 l t (k+1)→IsPair h' T x y→(∀c o,c≠z→c≠TO→c≠i1→c≠i2→s.heap.get? c=some o→h'.get? c=some o)→Q (.ref T) { s with heap:=h' }):
  wpAny (model prog w) A (Builtin.«zip.__next__» ⟨[.ref z],[]⟩) (fun fin s'=>∃v,fin=.done (.ret v)∧Q v s') E s:=by
 obtain⟨hz,hTI,⟨a,b,hTO⟩,h1,h2⟩:=S
 rcases hz with hz | ⟨T,f,hz,⟨oT,hT⟩,n1,n2,n3,n4⟩
 ·refine wpAny_bind (m:=field (.ref z) 2) (wpAny_field hz rfl (x:=.bool false) rfl ?_)
  refine wpAny_bind (m:=field (.ref z) 3) (wpAny_field hz rfl (x:=.ref TI) rfl ?_)
  refine wpAny_bind (wpAny_seqItems hTI rfl ?_)
  refine wpAny_bind (m:=Builtin.SmallTypes.ownedTupleIsFree (.ref z)) ?_
  unfold Builtin.SmallTypes.ownedTupleIsFree
  refine wpAny_bind (wpAny_field hz rfl (x:=.none) rfl (wpAny_pure ?_))
  simp only[if_true]
  refine wpAny_bind (wpAny_rule (wpAny_bind (wpAny_field hz rfl (x:=.ref TO) rfl (wpAny_bind (wpAny_setField_rec hz (by simp) fun h₁ hz₁ hs₁=>?_)))))
  replace hz₁:ZipAt h₁ z TI TO .ellipsis (.bool false):=hz₁
  refine wpAny_bind ?_
  simp only[List.zipIdx_cons,List.zipIdx_nil,List.forIn_cons,List.forIn_nil]
  refine wpAny_bind (wpAny_bind (wpAny_onRaise ?_))
  refine wpAny_bind (m:=Builtin.SmallTypes.nextOf (.ref i1)) (wpAny_nextOf_list_item (h1.extBut hs₁.extBut D.i1z) (hl.extBut hs₁.extBut nl.1) hx fun h₂ h1₂ hs₂=>wpAny_pure ?_)
  have hTO₂:IsPair h₂ TO a b:=hs₂.extBut _ _ D.TOi1 (hs₁.extBut _ _ D.TOz hTO)
  refine wpAny_bind (wpAny_seqItems hTO₂ rfl (wpAny_bind (wpAny_updateSeq_pair hTO₂ fun h₃ hTO₃ hs₃=>?_)))
  replace hTO₃:IsPair h₃ TO x b:=hTO₃
  refine wpAny_bind (wpAny_letGo (wpAny_pure ?_))
  refine wpAny_bind (wpAny_bind (wpAny_onRaise ?_))
  have ht₃:h₃.IsTuple t ys:=by
   obtain⟨o,ho,r⟩:=ht
   exact⟨o,hs₃.extBut _ _ nt.2.1 (hs₂.extBut _ _ nt.2.2.1 (hs₁.extBut _ _ nt.1 ho)),r⟩
  have h2₃:h₃.IsTupleIter i2 t k:=h2.at fun o e=>hs₃.extBut _ _ (Ne.symm D.TOi2) (hs₂.extBut _ _ (Ne.symm D.i12) (hs₁.extBut _ _ D.i2z e))
  refine wpAny_bind (m:=Builtin.SmallTypes.nextOf (.ref i2)) (wJ h2₃ ht₃ hy fun h₄ h2₄ hs₄=>wpAny_pure ?_)
  have hTO₄:IsPair h₄ TO x b:=hs₄.extBut _ _ D.TOi2 hTO₃
  refine wpAny_bind (wpAny_seqItems hTO₄ rfl (wpAny_bind (wpAny_updateSeq_pair hTO₄ fun h₅ hTO₅ hs₅=>?_)))
  replace hTO₅:IsPair h₅ TO x y:=hTO₅
  refine wpAny_bind (wpAny_letGo (wpAny_pure (wpAny_pure (wpAny_bind (wpAny_seqItems hTO₅ rfl (wpAny_bind (wpAny_newTuple ?_)))))))
  have hz₅:ZipAt h₅ z TI TO .ellipsis (.bool false):=hs₅.extBut _ _ D.TOz.symm (hs₄.extBut _ _ D.i2z.symm (hs₃.extBut _ _ D.TOz.symm (hs₂.extBut _ _ D.i1z.symm hz₁)))
  have hk₅:∀c o,c≠z→c≠TO→c≠i1→c≠i2→s.heap.get? c=some o→h₅.get? c=some o:=fun c o c1 c2 c3 c4 e=>hs₅.extBut _ _ c2 (hs₄.extBut _ _ c4 (hs₃.extBut _ _ c2 (hs₂.extBut _ _ c3 (hs₁.extBut _ _ c1 e))))
  have h1₅:h₅.IsListIter i1 l (k+1):=h1₂.at fun o e=>hs₅.extBut _ _ (Ne.symm D.TOi1) (hs₄.extBut _ _ D.i12 (hs₃.extBut _ _ (Ne.symm D.TOi1) e))
  have h2₅:h₅.IsTupleIter i2 t (k+1):=h2₄.at fun o e=>hs₅.extBut _ _ (Ne.symm D.TOi2) e
  refine wpAny_bind (m:=Builtin.SmallTypes.ownedTupleHandOut (.ref z) (.ref h₅.objs.size)) ?_
  unfold Builtin.SmallTypes.ownedTupleHandOut
  have hz₆:ZipAt (h₅.push { cls:=.type "tuple",data:=.seq #[x,y] }) z TI TO .ellipsis (.bool false):=Heap.get?_push_of_some _ hz₅
  refine wpAny_bind (wpAny_setField_rec hz₆ (by simp) fun h₇ hz₇ hs₇=>?_)
  replace hz₇:ZipAt h₇ z TI TO (rawInt h₅.objs.size) (.bool false):=hz₇
  refine wpAny_setField_rec hz₇ (by simp) fun h₈ hz₈ hs₈=>?_
  replace hz₈:ZipAt h₈ z TI TO (rawInt h₅.objs.size) (.bool false):=hz₈
  have up:∀c o,c≠z→h₅.get? c=some o→h₈.get? c=some o:=fun c o c1 e=>hs₈.extBut _ _ c1 (hs₇.extBut _ _ c1 (Heap.get?_push_of_some _ e))
  have hzlt:z<h₅.objs.size:=Heap.lt_size hz₅
  have hT₈:IsPair h₈ h₅.objs.size x y:=hs₈.extBut _ _ (Nat.ne_of_gt hzlt) (hs₇.extBut _ _ (Nat.ne_of_gt hzlt) (Heap.get?_push_size _ rfl))
  have lt1:i1<h₅.objs.size:=by obtain⟨_,e,_⟩:=h1₅;exact Heap.lt_size e
  have lt2:i2<h₅.objs.size:=by obtain⟨_,e,_⟩:=h2₅;exact Heap.lt_size e
  refine wpAny_pure ⟨_,rfl,hQ h₈ _ ⟨.inr ⟨_,_,hz₈,⟨_,hT₈⟩,Nat.ne_of_gt hzlt,Nat.ne_of_gt (Heap.lt_size hTO₅),Nat.ne_of_gt lt1,Nat.ne_of_gt lt2⟩,up _ _ D.TIz (hk₅ _ _ D.TIz D.TITO D.TIi1 D.TIi2 hTI),⟨_,_,up _ _ D.TOz hTO₅⟩,h1₅.at fun o e=>up _ o D.i1z e,h2₅.at fun o e=>up _ o D.i2z e⟩ hT₈ fun c o c1 c2 c3 c4 e=>up c o c1 (hk₅ c o c1 c2 c3 c4 e)⟩
 ·refine wpAny_bind (m:=field (.ref z) 2) (wpAny_field hz rfl (x:=.bool false) rfl ?_)
  refine wpAny_bind (m:=field (.ref z) 3) (wpAny_field hz rfl (x:=.ref TI) rfl ?_)
  refine wpAny_bind (wpAny_seqItems hTI rfl ?_)
  refine wpAny_bind (m:=Builtin.SmallTypes.ownedTupleIsFree (.ref z)) ?_
  have step:∀{α:Type} (N:Bool→Sem α) (QQ:α→Shared→Prop),(∀h₁,ZipAt h₁ z TI TO (rawInt T) (.bool true)→Heap.SameBut z s.heap h₁→wpAny (model prog w) A (N false) QQ E { s with heap:=h₁ })→
    wpAny (model prog w) A (Builtin.SmallTypes.ownedTupleIsFree (.ref z)) (fun b s'=>wpAny (model prog w) A (N b) QQ E s') E s:=fun N QQ hN=>by
   unfold Builtin.SmallTypes.ownedTupleIsFree
   refine wpAny_bind (wpAny_field hz rfl (x:=rawInt T) rfl ?_)
   show wpAny _ _ (loadIfAlive ((T:Int).toNat) >>= _) _ _ _
   rw[Int.toNat_natCast]
   refine wpAny_bind (W.kdx_alive hT ?_)
   simp only[Option.isNone_some,Bool.false_eq_true,if_false]
   refine wpAny_bind (wpAny_field hz rfl (x:=.bool f) rfl ?_)
   cases f with
   | true=>rw[if_neg (show¬((Value.bool true != Value.bool true)=true) from Bool.false_ne_true)];exact wpAny_pure (hN _ hz (.refl ..))
   | false=>rw[if_pos (show(Value.bool false != Value.bool true)=true from rfl)];exact wpAny_bind (wpAny_setField_rec hz (by simp) fun h₁ hz₁ hs₁=>wpAny_pure (hN h₁ hz₁ hs₁))
  refine step _ _ fun h₁ hz₁ hs₁=>?_
  simp only[Bool.false_eq_true,if_false]
  refine wpAny_bind ?_
  rw[← Array.forIn_toList]
  simp only[List.forIn_cons,List.forIn_nil]
  refine wpAny_bind (wpAny_bind (wpAny_holding ?_))
  refine wpAny_bind (m:=Builtin.SmallTypes.nextOf (.ref i1)) (wpAny_nextOf_list_item (h1.extBut hs₁.extBut D.i1z) (hl.extBut hs₁.extBut nl.1) hx fun h₂ h1₂ hs₂=>wpAny_pure (wpAny_pure ?_))
  refine wpAny_bind (wpAny_bind (wpAny_holding ?_))
  have ht₂:h₂.IsTuple t ys:=by
   obtain⟨o,ho,r⟩:=ht
   exact⟨o,hs₂.extBut _ _ nt.2.2.1 (hs₁.extBut _ _ nt.1 ho),r⟩
  have h2₂:h₂.IsTupleIter i2 t k:=h2.at fun o e=>hs₂.extBut _ _ (Ne.symm D.i12) (hs₁.extBut _ _ D.i2z e)
  refine wpAny_bind (m:=Builtin.SmallTypes.nextOf (.ref i2)) (wJ h2₂ ht₂ hy fun h₃ h2₃ hs₃=>wpAny_pure (wpAny_pure (wpAny_pure ?_)))
  refine wpAny_bind (wpAny_newTuple ?_ (show 2≤sizeLine by decide))
  have k₃:∀c o,c≠z→c≠i1→c≠i2→s.heap.get? c=some o→h₃.get? c=some o:=fun c o c1 c2 c3 e=>hs₃.extBut _ _ c3 (hs₂.extBut _ _ c2 (hs₁.extBut _ _ c1 e))
  have hz₃:ZipAt h₃ z TI TO (rawInt T) (.bool true):=hs₃.extBut _ _ (Ne.symm D.i2z) (hs₂.extBut _ _ (Ne.symm D.i1z) hz₁)
  refine wpAny_pure ⟨_,rfl,hQ _ _ ⟨.inr ⟨T,true,Heap.get?_push_of_some _ hz₃,⟨_,Heap.get?_push_of_some _ (k₃ _ _ n1 n3 n4 hT)⟩,n1,n2,n3,n4⟩,Heap.get?_push_of_some _ (k₃ _ _ D.TIz D.TIi1 D.TIi2 hTI),⟨_,_,Heap.get?_push_of_some _ (k₃ _ _ D.TOz D.TOi1 D.TOi2 hTO)⟩,h1₂.at fun o e=>Heap.get?_push_of_some _ (hs₃.extBut _ _ D.i12 e),h2₃.at fun o e=>Heap.get?_push_of_some _ e⟩ (Heap.get?_push_size _ rfl) fun c o c1 _ c3 c4 e=>Heap.get?_push_of_some _ (k₃ c o c1 c3 c4 e)⟩
theorem qZv {z TI TO i1 i2 l t:Addr}{k:Nat}{xs:Array Value}{Q:Fin→Shared→Prop}(hh:A.handled=none)(D:ZApart z TI TO i1 i2)(S:ZipSt s.heap z TI TO i1 i2 l t k)
  (hl:s.heap.IsList l xs) (nl:l≠z∧l≠TO∧l≠i1∧l≠i2) (hx:xs[k]? = none)
  (hE:∀h' e,(∀c o,c≠z→c≠TO→c≠i1→c≠i2→s.heap.get? c=some o→h'.get? c=some o)→(∃o,h'.get? e=some o∧o.cls=.type "StopIteration")→E (.ref e) { s with heap:=h' }):
  wpAny (model prog w) A (Builtin.«zip.__next__» ⟨[.ref z],[]⟩) Q E s:=by
 obtain⟨hz,hTI,⟨a,b,hTO⟩,h1,h2⟩:=S
 rcases hz with hz | ⟨T,f,hz,⟨oT,hT⟩,n1,n2,n3,n4⟩
 ·refine wpAny_bind (m:=field (.ref z) 2) (wpAny_field hz rfl (x:=.bool false) rfl ?_)
  refine wpAny_bind (m:=field (.ref z) 3) (wpAny_field hz rfl (x:=.ref TI) rfl ?_)
  refine wpAny_bind (wpAny_seqItems hTI rfl ?_)
  refine wpAny_bind (m:=Builtin.SmallTypes.ownedTupleIsFree (.ref z)) ?_
  unfold Builtin.SmallTypes.ownedTupleIsFree
  refine wpAny_bind (wpAny_field hz rfl (x:=.none) rfl (wpAny_pure ?_))
  simp only[if_true]
  refine wpAny_bind (wpAny_rule (wpAny_bind (wpAny_field hz rfl (x:=.ref TO) rfl (wpAny_bind (wpAny_setField_rec hz (by simp) fun h₁ hz₁ hs₁=>?_)))))
  replace hz₁:ZipAt h₁ z TI TO .ellipsis (.bool false):=hz₁
  refine wpAny_bind ?_
  simp only[List.zipIdx_cons,List.zipIdx_nil,List.forIn_cons,List.forIn_nil]
  refine wpAny_bind (wpAny_bind (wpAny_onRaise ?_))
  refine wpAny_bind (m:=Builtin.SmallTypes.nextOf (.ref i1)) (wpAny_nextOf_list_end hh (h1.extBut hs₁.extBut D.i1z) (hl.extBut hs₁.extBut nl.1) hx fun h₂ e hs₂ he=>?_)
  obtain⟨oe,hoe,hce⟩:=he
  have hz₂:ZipAt h₂ z TI TO .ellipsis (.bool false):=hs₂ _ _ D.i1z.symm hz₁
  have hez:e≠z:=fun x=>by subst x;rw[hz₂] at hoe;cases hoe;simp at hce
  exact wpAny_setField_rec hz₂ (by simp) fun h₃ _ hs₃=>hE h₃ e (fun c o c1 _ c3 _ x=>hs₃.extBut _ _ c1 (hs₂ _ _ c3 (hs₁.extBut _ _ c1 x))) ⟨oe,hs₃.extBut _ _ hez hoe,hce⟩
 ·refine wpAny_bind (m:=field (.ref z) 2) (wpAny_field hz rfl (x:=.bool false) rfl ?_)
  refine wpAny_bind (m:=field (.ref z) 3) (wpAny_field hz rfl (x:=.ref TI) rfl ?_)
  refine wpAny_bind (wpAny_seqItems hTI rfl ?_)
  refine wpAny_bind (m:=Builtin.SmallTypes.ownedTupleIsFree (.ref z)) ?_
  have step:∀{α:Type} (N:Bool→Sem α) (QQ:α→Shared→Prop),(∀h₁,ZipAt h₁ z TI TO (rawInt T) (.bool true)→Heap.SameBut z s.heap h₁→wpAny (model prog w) A (N false) QQ E { s with heap:=h₁ })→
    wpAny (model prog w) A (Builtin.SmallTypes.ownedTupleIsFree (.ref z)) (fun b s'=>wpAny (model prog w) A (N b) QQ E s') E s:=fun N QQ hN=>by
   unfold Builtin.SmallTypes.ownedTupleIsFree
   refine wpAny_bind (wpAny_field hz rfl (x:=rawInt T) rfl ?_)
   show wpAny _ _ (loadIfAlive ((T:Int).toNat) >>= _) _ _ _
   rw[Int.toNat_natCast]
   refine wpAny_bind (W.kdx_alive hT ?_)
   simp only[Option.isNone_some,Bool.false_eq_true,if_false]
   refine wpAny_bind (wpAny_field hz rfl (x:=.bool f) rfl ?_)
   cases f with
   | true=>rw[if_neg (show¬((Value.bool true != Value.bool true)=true) from Bool.false_ne_true)];exact wpAny_pure (hN _ hz (.refl ..))
   | false=>rw[if_pos (show(Value.bool false != Value.bool true)=true from rfl)];exact wpAny_bind (wpAny_setField_rec hz (by simp) fun h₁ hz₁ hs₁=>wpAny_pure (hN h₁ hz₁ hs₁))
  refine step _ _ fun h₁ hz₁ hs₁=>?_
  simp only[Bool.false_eq_true,if_false]
  refine wpAny_bind ?_
  rw[← Array.forIn_toList]
  simp only[List.forIn_cons,List.forIn_nil]
  refine wpAny_bind (wpAny_bind (wpAny_holding ?_))
  refine wpAny_bind (m:=Builtin.SmallTypes.nextOf (.ref i1)) (wpAny_nextOf_list_end hh (h1.extBut hs₁.extBut D.i1z) (hl.extBut hs₁.extBut nl.1) hx fun h₂ e hs₂ he=>hE h₂ e (fun c o c1 _ c3 _ x=>hs₂ _ _ c3 (hs₁.extBut _ _ c1 x)) he)
theorem qAm {z TI TO i1 i2 l t:Addr}{k:Nat}{xs ys:Array Value}{x y:Value}{Q:Option Value→Shared→Prop}(D:ZApart z TI TO i1 i2)(S:ZipSt s.heap z TI TO i1 i2 l t k)
  (hl:s.heap.IsList l xs) (ht:s.heap.IsTuple t ys) (nl:l≠z∧l≠TO∧l≠i1∧l≠i2) (nt:t≠z∧t≠TO∧t≠i1∧t≠i2) (hx:xs[k]? = some x) (hy:ys[k]? = some y)
  (hQ:∀h' T,ZipSt h' z TI TO i1 i2 l t (k+1)→IsPair h' T x y→(∀c o,c≠z→c≠TO→c≠i1→c≠i2→s.heap.get? c=some o→h'.get? c=some o)→Q (some (.ref T)) { s with heap:=h' }):
  wpAny (model prog w) A (pyNext (.ref z)) Q E s:=by
 have hT:s.TypeIs (.ref z) "zip" := by
  rcases S.zip with h | ⟨_,_,h,_⟩ <;> exact⟨_,h,rfl⟩
 unfold pyNext
 exact wpAny_bind (wpAny_attempt (wpAny_callSpecial?_slot (name:=Str.ofString "__next__") hT F.slot_zip_next (wpAny_call_entry F.slot_zip_next hT F.entry_zip_next
   (qZw D S hl ht nl nt hx hy fun h' T a1 a2 a3=>wpAny_pure (hQ h' T a1 a2 a3)) (F.args_zip_next_1 _))))
theorem qQx {z TI TO i1 i2 l t:Addr}{k:Nat}{xs:Array Value}{Q:Option Value→Shared→Prop}(hh:A.handled=none)(D:ZApart z TI TO i1 i2)(S:ZipSt s.heap z TI TO i1 i2 l t k)
  (hl:s.heap.IsList l xs) (nl:l≠z∧l≠TO∧l≠i1∧l≠i2) (hx:xs[k]? = none)
  (hQ:∀h',(∀c o,c≠z→c≠TO→c≠i1→c≠i2→s.heap.get? c=some o→h'.get? c=some o)→Q none { s with heap:=h' }):wpAny (model prog w) A (pyNext (.ref z)) Q E s:=by
 have hT:s.TypeIs (.ref z) "zip" := by
  rcases S.zip with h | ⟨_,_,h,_⟩ <;> exact⟨_,h,rfl⟩
 unfold pyNext
 refine wpAny_bind (wpAny_attempt (wpAny_callSpecial?_slot (name:=Str.ofString "__next__") hT F.slot_zip_next (wpAny_call_entry F.slot_zip_next hT F.entry_zip_next (qZv hh D S hl nl hx fun h' e hk he=>?_) (F.args_zip_next_1 _))))
 obtain⟨o,ho,hc⟩:=he
 exact wpAny_bind (wpAny_isInstance (T := "StopIteration") (b:=true) ⟨o,ho,hc⟩ isSubtype_stop (wpAny_pure (hQ _ hk)))
theorem qAn {z TI TO i1 i2 l t:Addr}{k:Nat}{Q:Value→Shared→Prop}(S:ZipSt s.heap z TI TO i1 i2 l t k)(h:Q (.ref z) s):wpAny (model prog w) A (pyIter (.ref z)) Q E s:=by
 have hT:s.TypeIs (.ref z) "zip" := by
  rcases S.zip with h | ⟨_,_,h,_⟩ <;> exact⟨_,h,rfl⟩
 exact wpAny_pyIter_slot hT F.slot_zip_iter (wpAny_call_entry F.slot_zip_iter hT F.entry_zip_iter (wpAny_pure ⟨_,rfl,"zip",_,hT,F.slot_zip_next.lookup,h⟩) (F.args_zip_iter_1 _))
end
end PySem

namespace PySem
namespace FD
theorem entry_upd_loop:entryFor table "dict.update.loop" = some Builtin.«dict.update.loop»:=entryFor_of_tree (by kernel_rfl)
theorem plain_upd_loop:plainId "dict.update.loop" = true:=by decide +kernel
end FD
structure PairIt (prog:Program)(w:World)(A:Around)(d it:Addr)(fp:List Addr)(kvs:List (Value×Value))(St:Nat→Heap→Prop):Prop where
 frame:∀i h h',St i h→Heap.SameBut d h h'→(∃o,h'.get? d=some o)→St i h'
 item:∀(i:Nat) (s:Shared) (Q:Option Value→Shared→Prop) (E:Value→Shared→Prop) (k v:Value),kvs[i]? = some (k,v)→St i s.heap→
  (∀T h' tk n,St (i+1) h'→(∃o,h'.get? T=some o∧o.cls=.type "tuple" ∧ o.data=.seq #[k,v] n)→(∀b o,b∉fp→s.heap.get? b=some o→h'.get? b=some o)→Q (some (.ref T)) { s with heap:=h',toks:=tk })→wpAny (model prog w) A (pyNext (.ref it)) Q E s
 done:∀(s:Shared) (Q:Option Value→Shared→Prop) (E:Value→Shared→Prop),St kvs.length s.heap→
  (∀h' tk,(∀b o,b∉fp→s.heap.get? b=some o→h'.get? b=some o)→Q none { s with heap:=h',toks:=tk })→wpAny (model prog w) A (pyNext (.ref it)) Q E s
section
variable {prog:Program}{w:World}{K:Type}[DecidableEq K]{knd:KeyKind prog w K}{A:Around}
noncomputable abbrev Keyed (knd:KeyKind prog w K):List (K×Value)→List (Value×Value)→Prop:=Paired fun p q=>knd.is p.1 q.1=true∧p.2=q.2
theorem qEk {ks:List (K×Value)}{kvs:List (Value×Value)}(h:Keyed knd ks kvs):∀{i:Nat} {p:K×Value},ks[i]? = some p→∃q,kvs[i]? = some q∧knd.is p.1 q.1=true∧p.2=q.2:=by
 induction h with
 | nil=>intro i p e;simp at e
 | cons f _ ih=>
  intro i p e
  cases i with
  | zero=>simp at e;subst e;exact⟨_,rfl,f⟩
  | succ i=>exact ih (i:=i) (by simpa using e)
theorem qWj {d it:Addr}{fp:List Addr}{kvs:List (Value×Value)}{ks:List (K×Value)}{St:Nat→Heap→Prop}(P:PairIt prog w A.in1 d it fp kvs St)(hk:Keyed knd ks kvs)(hd:d∉fp)(hz:ks.length≤1000){R:Result→Shared→Prop}{s₀:Shared}
  (hR:∀h' tk,(∀b o,b∉fp→b≠d→s₀.heap.get? b=some o→h'.get? b=some o)→h'.DictOf knd d (merged [] ks)→R (.ok (.ret .none)) { s₀ with heap:=h',toks:=tk }):
  ∀(m i:Nat) (h:Heap) (tk:Nat),ks.length - i=m→i≤ks.length→St i h→h.DictOf knd d (merged [] (ks.take i))→(∀b o,b∉fp→b≠d→s₀.heap.get? b=some o→h.get? b=some o)→
   codeAny (model prog w) A (.builtin "dict.update.loop" ⟨[.ref d,.ref it,rawInt i,.none],[]⟩) R { s₀ with heap:=h,toks:=tk }:=by
 intro m
 induction m with
 | zero=>
  intro i h tk hm hi st hD keep
  have e:i=ks.length:=by omega
  subst e
  refine codeAny_builtin FD.entry_upd_loop ?_
  rw[Around.under_plainId FD.plain_upd_loop _]
  rw[hk.length] at st
  refine wpAny_bind (m:=pyNext (.ref it)) (P.done { s₀ with heap:=h,toks:=tk } _ _ st fun h' tk' kp=>?_)
  rw[List.take_length] at hD
  refine wpAny_bind (m:=Builtin.Dict.addKeywords d []) (wpAny_pure (wpAny_pure ?_))
  refine hR h' tk' (fun b o b1 b2 e=>kp b o b1 (keep b o b1 b2 e)) ?_
  obtain⟨o,es,ep,ho,r⟩:=hD
  exact⟨o,es,ep,kp _ _ hd ho,r⟩
 | succ m ih=>
  intro i h tk hm hi st hD keep
  have hlt:i<ks.length:=by omega
  obtain⟨p,ep⟩:∃p,ks[i]? = some p:=⟨_,List.getElem?_eq_getElem hlt⟩
  obtain⟨⟨kv,vv⟩,eq,hkey,hval⟩:=qEk hk ep
  have hval:p.2=vv:=hval
  refine codeAny_builtin FD.entry_upd_loop ?_
  rw[Around.under_plainId FD.plain_upd_loop _]
  refine wpAny_bind (m:=pyNext (.ref it)) (P.item i { s₀ with heap:=h,toks:=tk } _ _ kv vv eq st fun T h' tk' n st' hT kp=>?_)
  obtain⟨oT,hT,hTc,hTd⟩:=hT
  have hTy:Shared.TypeIs { s₀ with heap:=h',toks:=tk' } (.ref T) "tuple" := ⟨_,hT,hTc⟩
  have hD':h'.DictOf knd d (merged [] (ks.take i)):=by
   obtain⟨o,es,ep,ho,r⟩:=hD
   exact⟨o,es,ep,kp _ _ hd ho,r⟩
  refine wpAny_bind (wpAny_holding ?_)
  refine wpAny_bind (wpAny_tryCatch ?_)
  unfold Builtin.Dict.pairItems
  refine wpAny_bind (wpAny_typeOf hTy ?_)
  rw[if_pos (by decide)]
  refine wpAny_bind (wpAny_seqItems hT hTd (wpAny_pure ?_))
  refine wpAny_holding (wpAny_dictSet_pairs hkey hD' (fun h'' hD'' sb=>?_) ?_)
  ·refine wpAny_pure ⟨plainId_quiet FD.plain_upd_loop _,?_⟩
   have e1:merged [] (ks.take (i+1))=stored (merged [] (ks.take i)) p.1 p.2:=merged_take_succ [] ks i p ep
   rw[← hval] at hD''
   have:=ih (i+1) h'' (tk'+1) (by omega) hlt (P.frame _ _ _ st' sb (by obtain⟨o,_,_,ho,_⟩:=hD'';exact⟨o,ho⟩)) (by rw[e1];exact hD'') fun b o b1 b2 e=>(sb.2 b b2).trans (kp b o b1 (keep b o b1 b2 e))
   exact this
  ·have:=merged_length_le ([]:List (K×Value)) (ks.take i)
   rw[List.length_take,List.length_nil] at this
   have e:sizeLine=16777216:=by decide
   omega

theorem vH {E:Value→Shared→Prop}{s:Shared}{a:Addr}{T:String}{Q:Value→Shared→Prop}(hT:s.TypeIs (.ref a) T)(hne:(Value.type T != Value.type "dict")=true)
  (h:∀E':Value→Shared→Prop,wpAny (model prog w) A.in1.in1 (getAttr? (.ref a) "keys") (fun r s2=>r=none∧wpAny (model prog w) A.in1.in1 (pyIter (.ref a)) (fun it s3=>codeAny (model prog w) A.in1 (.builtin "dict.update.loop" ⟨[.ref s.heap.objs.size,it,rawInt 0,.none],[]⟩)
   (wants (fun r s₂=>r=.none∧Q (.ref s.heap.objs.size) s₂) E) s3) E' s2) E' { s with heap:=s.heap.push { cls:=.type "dict",data:=.dict #[] } }):
  wpAny (model prog w) A (call (.type "dict") [.ref a]) Q E s:=by
 refine callType_codes (Q₁:=fun obj s₁=>obj=.ref s.heap.objs.size∧s₁={ s with heap:=s.heap.push { cls:=.type "dict",data:=.dict #[] } }) F.kt_called_dict (F.kt_typeCall_dict_1 _) F.entry_dict_init (kt_code_dict_new _ ⟨rfl,rfl⟩) ?_
 rintro obj s₁ ⟨rfl,rfl⟩
 have gd:(s.heap.push { cls:=.type "dict",data:=.dict #[] }).get? s.heap.objs.size=some { cls:=.type "dict",data:=.dict #[] }:=Heap.get?_push_size _ rfl
 have hnew:Shared.TypeIs { s with heap:=s.heap.push { cls:=.type "dict",data:=.dict #[] } } (.ref s.heap.objs.size) "dict" := ⟨_,gd,rfl⟩
 have hT':Shared.TypeIs { s with heap:=s.heap.push { cls:=.type "dict",data:=.dict #[] } } (.ref a) T:=by
  obtain⟨o,ho,hc⟩:=hT
  exact⟨o,Heap.get?_push_of_some _ ho,hc⟩
 refine⟨hnew,F.args_dict_init_2 _ _,?_⟩
 unfold Builtin.«dict.__init__»
 refine wpAny_bind ?_
 unfold Builtin.Dict.selfAndRest
 refine wpAny_bind (wpAny_notOrdered_dict hnew ?_)
 show wpAny _ _ (pure (s.heap.objs.size,[Value.ref a])) _ _ _
 refine wpAny_pure ?_
 show wpAny _ _ (Builtin.Dict.updateFrom "dict.__init__" s.heap.objs.size (.ref a) [] .none) _ _ _
 unfold Builtin.Dict.updateFrom
 refine wpAny_bind (wpAny_typeOf hT' ?_)
 rw[if_pos hne]
 refine wpAny_bind (wpAny_mono (h _) (fun r s2 hr=>?_) fun _ _ x=>x)
 obtain⟨rfl,hr⟩:=hr
 simp only[Option.isNone_none,if_true]
 refine wpAny_bind (wpAny_rule (wpAny_bind (wpAny_mono hr (fun it s3 hc=>?_) fun _ _ x=>x)))
 exact wpAny_pure ⟨plainId_quiet FD.plain_upd_loop _,hc⟩
end
section
variable {prog:Program}{w:World}{K:Type}[DecidableEq K]{knd:KeyKind prog w K}{A:Around}{E:Value→Shared→Prop}{s:Shared}
theorem qQa (h:Heap):(h.push { cls:=.type "dict",data:=.dict #[] }).DictOf knd h.objs.size []:=Heap.DictOf.new h
theorem qJv {l t:Addr}{xs ys:Array Value}{ks:List (K×Value)}{Q:Value→Shared→Prop}(hh:A.handled=none)(hl:s.heap.IsList l xs)(ht:s.heap.IsTuple t ys)(hsz:xs.size=ys.size)(hk:Keyed knd ks (xs.toList.zip ys.toList))(hz:ks.length≤1000)
  (hQ:∀p h' tk,s.heap.objs.size≤p→(∀b o,s.heap.get? b=some o→h'.get? b=some o)→h'.DictOf knd p (merged [] ks)→Q (.ref p) { s with heap:=h',toks:=tk }):
  wpAny (model prog w) A (call (.type "zip") [.ref l,.ref t]) (fun z s1=>wpAny (model prog w) A (call (.type "dict") [z]) Q E s1) E s:=by
 refine qVf hl ht fun h1 z TI TO i1 i2 D S z1 z2 z3 z4 z5 keep1=>?_
 have hT:Shared.TypeIs { s with heap:=h1 } (.ref z) "zip" := by
  rcases S.zip with h | ⟨_,_,h,_⟩ <;> exact⟨_,h,rfl⟩
 have llt:l<s.heap.objs.size:=by obtain⟨o,e,_⟩:=hl;exact Heap.lt_size e
 have tlt:t<s.heap.objs.size:=by obtain⟨o,e,_⟩:=ht;exact Heap.lt_size e
 have zlt:∀x,x=z∨x=TI∨x=TO∨x=i1∨x=i2→x<h1.objs.size:=fun x hx=>by
  rcases hx with rfl | rfl | rfl | rfl | rfl
  ·rcases S.zip with h | ⟨_,_,h,_⟩ <;> exact Heap.lt_size h
  ·exact Heap.lt_size S.its
  ·obtain⟨_,_,h⟩:=S.own;exact Heap.lt_size h
  ·obtain⟨_,h,_⟩:=S.one;exact Heap.lt_size h
  ·obtain⟨_,h,_⟩:=S.two;exact Heap.lt_size h
 refine vH hT (by decide) fun E'=>?_
 have S2:ZipSt (h1.push { cls:=.type "dict",data:=.dict #[] }) z TI TO i1 i2 l t 0:=by
  refine⟨?_,Heap.get?_push_of_some _ S.its,?_,S.one.at fun o e=>Heap.get?_push_of_some _ e,S.two.at fun o e=>Heap.get?_push_of_some _ e⟩
  ·rcases S.zip with h | ⟨T,f,h,⟨o,e⟩,r⟩
   ·exact .inl (Heap.get?_push_of_some _ h)
   ·exact .inr ⟨T,f,Heap.get?_push_of_some _ h,⟨o,Heap.get?_push_of_some _ e⟩,r⟩
  ·obtain⟨a,b,e⟩:=S.own
   exact⟨a,b,Heap.get?_push_of_some _ e⟩
 have dz:∀x,x=z∨x=TI∨x=TO∨x=i1∨x=i2→h1.objs.size≠x:=fun x hx=>Nat.ne_of_gt (zlt x hx)
 have old:s.heap.objs.size≤h1.objs.size:=Nat.le_of_lt (Nat.lt_of_le_of_lt z1 (zlt z (.inl rfl)))
 obtain⟨vs,hzip⟩:∃vs,(h1.push { cls:=.type "dict",data:=.dict #[] }).get? z=some { cls:=.type "zip",dict:=none,data:=.fields vs,slots:=#[] }:=by
  rcases S2.zip with h | ⟨_,_,h,_⟩ <;> exact⟨_,h⟩
 refine qZo hzip hh fun h2 tk2 kp2=>⟨rfl,?_⟩
 have S3:ZipSt h2 z TI TO i1 i2 l t 0:=by
  refine⟨?_,kp2 _ _ S2.its,?_,S2.one.at fun o e=>kp2 _ _ e,S2.two.at fun o e=>kp2 _ _ e⟩
  ·rcases S2.zip with h | ⟨T,f,h,⟨o,e⟩,r⟩
   ·exact .inl (kp2 _ _ h)
   ·exact .inr ⟨T,f,kp2 _ _ h,⟨o,kp2 _ _ e⟩,r⟩
  ·obtain⟨a,b,e⟩:=S2.own
   exact⟨a,b,kp2 _ _ e⟩
 refine qAn S3 ?_
 have hlen:(xs.toList.zip ys.toList).length=xs.size:=by rw[List.length_zip];simp[hsz]
 have ndl:l≠z∧l≠TO∧l≠i1∧l≠i2:=⟨Nat.ne_of_lt (Nat.lt_of_lt_of_le llt z1),Nat.ne_of_lt (Nat.lt_of_lt_of_le llt z3),Nat.ne_of_lt (Nat.lt_of_lt_of_le llt z4),Nat.ne_of_lt (Nat.lt_of_lt_of_le llt z5)⟩
 have ndt:t≠z∧t≠TO∧t≠i1∧t≠i2:=⟨Nat.ne_of_lt (Nat.lt_of_lt_of_le tlt z1),Nat.ne_of_lt (Nat.lt_of_lt_of_le tlt z3),Nat.ne_of_lt (Nat.lt_of_lt_of_le tlt z4),Nat.ne_of_lt (Nat.lt_of_lt_of_le tlt z5)⟩
 have nl5:l≠h1.objs.size:=Nat.ne_of_lt (Nat.lt_of_lt_of_le llt old)
 have nt5:t≠h1.objs.size:=Nat.ne_of_lt (Nat.lt_of_lt_of_le tlt old)
 have P:PairIt prog w A.in1.in1 h1.objs.size z [z,TO,i1,i2] (xs.toList.zip ys.toList) (fun i h=>ZipSt h z TI TO i1 i2 l t i∧h.IsList l xs∧h.IsTuple t ys):=
  {frame:=fun i h h' ⟨S,hl,ht⟩ sb ⟨od,hod⟩=>by
    have k:∀b o,b≠h1.objs.size→h.get? b=some o→h'.get? b=some o:=fun b o hb e=>(sb.2 b hb).trans e
    refine⟨⟨?_,k _ _ (dz TI (.inr (.inl rfl))).symm S.its,?_,S.one.at fun o e=>k _ _ (dz i1 (by simp)).symm e,S.two.at fun o e=>k _ _ (dz i2 (by simp)).symm e⟩,?_,?_⟩
    ·rcases S.zip with h | ⟨T,f,h,⟨o,e⟩,r⟩
     ·exact .inl (k _ _ (dz z (.inl rfl)).symm h)
     ·refine .inr ⟨T,f,k _ _ (dz z (.inl rfl)).symm h,?_,r⟩
      by_cases hTd:T=h1.objs.size
      ·exact⟨od,by rw[hTd];exact hod⟩
      ·exact⟨o,k _ _ hTd e⟩
    ·obtain⟨a,b,e⟩:=S.own
     exact⟨a,b,k _ _ (dz TO (by simp)).symm e⟩
    ·obtain⟨o,ho,r⟩:=hl;exact⟨o,k _ _ nl5 ho,r⟩
    ·obtain⟨o,ho,r⟩:=ht;exact⟨o,k _ _ nt5 ho,r⟩
   item:=fun i s Q E k v e ⟨S,hl,ht⟩ hQ=>by
    obtain⟨e1,e2⟩:=List.getElem?_zip_eq_some.mp e
    refine qAm D S hl ht ndl ndt (x:=k) (y:=v) (by simpa using e1) (by simpa using e2) fun h' T S' hT kp=>?_
    refine hQ T h' s.toks 0 ⟨S',?_,?_⟩ ⟨_,hT,rfl,rfl⟩ fun b o hb e=>kp b o (fun z=>hb (by simp[z])) (fun z=>hb (by simp[z])) (fun z=>hb (by simp[z])) (fun z=>hb (by simp[z])) e
    ·obtain⟨o,ho,r⟩:=hl;exact⟨o,kp _ _ ndl.1 ndl.2.1 ndl.2.2.1 ndl.2.2.2 ho,r⟩
    ·obtain⟨o,ho,r⟩:=ht;exact⟨o,kp _ _ ndt.1 ndt.2.1 ndt.2.2.1 ndt.2.2.2 ho,r⟩
   done:=fun s Q E ⟨S,hl,ht⟩ hQ=>by
    refine qQx (A:=A.in1.in1) hh D S hl ndl (by rw[hlen];simp) fun h' kp=>?_
    exact hQ h' s.toks fun b o hb e=>kp b o (fun z=>hb (by simp[z])) (fun z=>hb (by simp[z])) (fun z=>hb (by simp[z])) (fun z=>hb (by simp[z])) e }
 have kl:∀b o,s.heap.get? b=some o→h2.get? b=some o:=fun b o e=>kp2 _ _ (Heap.get?_push_of_some _ (keep1 _ _ e))
 have hd0:h2.DictOf knd h1.objs.size (merged [] (ks.take 0)):=by
  obtain⟨o,es,ep,ho,r⟩:=qQa (knd:=knd) h1
  exact⟨o,es,ep,kp2 _ _ ho,r⟩
 refine qWj (A:=A.in1) (s₀:={ s with heap:=h2,toks:=tk2 }) P hk (by simp[dz z,dz TO,dz i1,dz i2]) hz (fun h' tk kp hD=>⟨rfl,?fin⟩) ks.length 0 h2 tk2 (by simp) (Nat.zero_le _) ⟨S3,?sl,?st⟩ hd0 (fun _ _ _ _ e=>e)
 case fin=>
  refine hQ _ h' tk old (fun b o e=>kp b o ?_ ?_ (kl b o e)) hD
  ·have bl:=Heap.lt_size e
   intro hb
   simp only[List.mem_cons,List.not_mem_nil,or_false] at hb
   rcases hb with rfl | rfl | rfl | rfl
   ·exact absurd (Nat.lt_of_lt_of_le bl z1) (Nat.lt_irrefl _)
   ·exact absurd (Nat.lt_of_lt_of_le bl z3) (Nat.lt_irrefl _)
   ·exact absurd (Nat.lt_of_lt_of_le bl z4) (Nat.lt_irrefl _)
   ·exact absurd (Nat.lt_of_lt_of_le bl z5) (Nat.lt_irrefl _)
  ·exact Nat.ne_of_lt (Nat.lt_of_lt_of_le (Heap.lt_size e) old)
 case sl=>obtain⟨o,ho,r⟩:=hl;exact⟨o,kl _ _ ho,r⟩
 case st=>obtain⟨o,ho,r⟩:=ht;exact⟨o,kl _ _ ho,r⟩
theorem qXv {l:Addr}{xs:Array Value}{n:Nat}{kvs:List (Value×Value)}{ks:List (K×Value)}{Q:Value→Shared→Prop}(hh:A.handled=none)(hl:s.heap.get? l=some { cls:=.type "list",data:=.seq xs n })
  (hp:∀(i:Nat) p,kvs[i]? = some p→∃T o m,xs[i]? = some (.ref T)∧s.heap.get? T=some o∧o.cls=.type "tuple" ∧ o.data=.seq #[p.1,p.2] m) (hlen:kvs.length=xs.size) (hk:Keyed knd ks kvs) (hz:ks.length≤1000)
  (hQ:∀p h' tk,s.heap.objs.size≤p→(∀b o,s.heap.get? b=some o→h'.get? b=some o)→h'.DictOf knd p (merged [] ks)→Q (.ref p) { s with heap:=h',toks:=tk }):
  wpAny (model prog w) A (call (.type "dict") [.ref l]) Q E s:=by
 refine vH (T := "list") ⟨_,hl,rfl⟩ (by decide) fun E'=>?_
 have kd:∀b o,s.heap.get? b=some o→(s.heap.push { cls:=.type "dict",data:=.dict #[] }).get? b=some o:=fun b o e=>Heap.get?_push_of_some _ e
 refine qXk (kd _ _ hl) hh fun h2 tk2 kp2=>⟨rfl,?_⟩
 have kl:∀b o,s.heap.get? b=some o→h2.get? b=some o:=fun b o e=>kp2 _ _ (kd _ _ e)
 have L2:h2.IsList l xs:=⟨_,kl _ _ hl,rfl,n,rfl⟩
 refine wpAny_pyIter_list (s:={ s with heap:=h2,toks:=tk2 }) L2 ?_
 have k3:∀b o,h2.get? b=some o→(h2.push { cls:=.type "list_iterator",data:=.fields #[.ref l,.int 0 0] }).get? b=some o:=fun b o e=>Heap.get?_push_of_some _ e
 have dlt:s.heap.objs.size<h2.objs.size:=Heap.lt_size (kp2 _ _ (Heap.get?_push_size _ rfl))
 have P:PairIt prog w A.in1.in1 s.heap.objs.size h2.objs.size [h2.objs.size] kvs (fun i h=>h.IsListIter h2.objs.size l i∧∀b o,s.heap.get? b=some o→h.get? b=some o):=
  {frame:=fun i h h' ⟨S,kp⟩ sb _=>⟨S.at fun o e=>(sb.2 _ (Nat.ne_of_gt dlt)).trans e,fun b o e=>(sb.2 b (Nat.ne_of_lt (Heap.lt_size e))).trans (kp b o e)⟩
   item:=fun i s' Q E k v e ⟨S,kp⟩ hQ=>by
    obtain⟨T,o,m,ex,ho,hc,hd⟩:=hp i (k,v) e
    refine wpAny_pyNext_list_item S ⟨_,kp _ _ hl,rfl,n,rfl⟩ ex fun h' S' sb=>?_
    have nb:∀b o,s.heap.get? b=some o→b≠h2.objs.size:=fun b o e=>Nat.ne_of_lt (Nat.lt_trans (Heap.lt_size e) dlt)
    exact hQ T h' s'.toks m ⟨S',fun b o e=>(sb.2 b (nb b o e)).trans (kp b o e)⟩ ⟨o,(sb.2 T (nb T o ho)).trans (kp _ _ ho),hc,hd⟩ fun b o hb e=>(sb.2 b (fun z=>hb (by simp[z]))).trans e
   done:=fun s' Q E ⟨S,kp⟩ hQ=>by
    refine wpAny_pyNext_list_end (A:=A.in1.in1) hh S ⟨_,kp _ _ hl,rfl,n,rfl⟩ (by rw[hlen];simp) fun h' eb=>?_
    exact hQ h' s'.toks fun b o hb e=>eb b o (fun z=>hb (by simp[z])) e }
 have hd0:(h2.push { cls:=.type "list_iterator",data:=.fields #[.ref l,.int 0 0] }).DictOf knd s.heap.objs.size (merged [] (ks.take 0)):=by
  obtain⟨o,es,ep,ho,r⟩:=qQa (knd:=knd) s.heap
  exact⟨o,es,ep,k3 _ _ (kp2 _ _ ho),r⟩
 refine qWj (A:=A.in1) (s₀:={ s with heap:=h2.push { cls:=.type "list_iterator",data:=.fields #[.ref l,.int 0 0] },toks:=tk2 }) P hk (by simp;exact Nat.ne_of_lt dlt) hz (fun h' tk kp hD=>⟨rfl,?_⟩) ks.length 0 _ tk2 (by simp) (Nat.zero_le _) ⟨⟨_,Heap.get?_push_size _ rfl,rfl,rfl⟩,fun b o e=>k3 _ _ (kl _ _ e)⟩ hd0 (fun _ _ _ _ e=>e)
 refine hQ _ h' tk (Nat.le_refl _) (fun b o e=>kp b o ?_ (Nat.ne_of_lt (Heap.lt_size e)) (k3 _ _ (kl b o e))) hD
 simp only[List.mem_singleton]
 exact Nat.ne_of_lt (Nat.lt_trans (Heap.lt_size e) dlt)
end
end PySem

namespace L2
open PySem PySem.Spec PyProof.Rows
theorem qSi:bootBuiltins "zip" = some (.type "zip"):=by decide +kernel
noncomputable def zipK (ns:List Str)(xs:List V):List (Key×V):=(ns.zip xs).map fun p=>(Sum.inr p.1,p.2)
noncomputable def pairK (kvs:List (Str×V)):List (Key×V):=kvs.map fun p=>(Sum.inr p.1,p.2)
theorem qJc {P:Program}{w:World}:∀{ns:List Str} {xs:List V} {us vs:List Value},Vals (ns.map V.str) us→Vals xs vs→ns.length=xs.length→∃ks:List (Key×Value),Keyed (zY P w) ks (us.zip vs)∧KV (zipK ns xs) ks∧ks.length=ns.length
 | [],[],_,_,.nil,.nil,_=>⟨[],.nil,.nil,rfl⟩
 | n::ns,x::xs,_,_,.cons r1 t1,.cons (b:=v) r2 t2,hl=>by
  obtain⟨ks,h1,h2,h3⟩:=qJc (P:=P) (w:=w) t1 t2 (by simpa using hl)
  obtain⟨t,rfl⟩:=r1
  exact⟨(Sum.inr n,v)::ks,.cons ⟨jA P w n t,rfl⟩ h1,.cons ⟨rfl,r2⟩ h2,by simp[h3]⟩
 | [],_::_,_,_,_,_,hl=>by simp at hl
 | _::_,[],_,_,_,_,hl=>by simp at hl
section
variable {X:Cx}{pins:List (Addr×Obj)}{σ:St}{H:Hp}{s:Shared}
theorem Inv.newDict {Q:VK}{p:Addr}{h':Heap}{tk:Nat}{kvs:List (Key×V)}{ks:List (Key×Value)}(I:Inv X pins σ H s)(hp:s.heap.objs.size≤p)(keep:∀b o,s.heap.get? b=some o→h'.get? b=some o)
  (rel:KV kvs ks) (hk:ks.length≤1000) (hD:h'.DictOf (zY X.prog X.w) p (merged [] ks)) (q:Q (.ref p) (upd H p (.dK (mergeK [] kvs)))):EP X pins σ Q (.ref p) { s with heap:=h',toks:=tk }:=by
 refine⟨.ref p,upd H p (.dK (mergeK [] kvs)),I.laid (o:=.dK (mergeK [] kvs)) keep hp ⟨?_,?_,merged [] ks,KV.merge rel .nil,hD⟩,rfl,q⟩
 ·have l1:=yT kvs []
  have l2:=rel.length
  have e:sizeLine=16777216:=by decide
  rw[List.length_nil] at l1
  omega
 ·have:=I.big
  have ne:p≠sysModules:=Nat.ne_of_gt (Nat.lt_of_lt_of_le this hp)
  exact beq_eq_false_iff_ne.mpr ne
noncomputable def qGa (K:PySem.W.Frag)(ta:TA):TE:=fun σ H Q=>ta σ H fun vs H1=>∃l t ns xs,vs=[.ref l,.ref t]∧SqL K H1 l (ns.map V.str)∧SqT K H1 t xs∧ns.length=xs.length∧ns.length≤1000∧
 ∀p,H1 p=none→Q (.ref p) (upd H1 p (.dK (mergeK [] (zipK ns xs))))
theorem qKn {a b:Expr}{ta:TA}{p p2 pos pos2:Pos}(hc:X.calm=true)(hg:Gl X "dict")(hm:X.mg "dict" = none)(hg2:Gl X "zip")(hm2:X.mg "zip" = none)(ha:PA X [a,b] ta)
  (he:starEach [.Call (.Name "zip" p2) [a,b] [] pos2] X.env=[(false,eval (.Call (.Name "zip" p2) [a,b] [] pos2) X.env)]:=by rfl)
  (he2:starEach [a,b] X.env=[(false,eval a X.env),(false,eval b X.env)]:=by rfl) (he3:starEach [b] X.env=[(false,eval b X.env)]:=by rfl):
  PE X (.Call (.Name "dict" p) [.Call (.Name "zip" p2) [a,b] [] pos2] [] pos) (qGa X.K ta):=by
 intro pins s σ H Q I h
 refine Call_ (qXm I hg hm qFm (PyProof.Rows.callWith_type1 ?_ he rfl))
 rw[he]
 refine Calls.spliced_cons (Call_ (qXm I hg2 hm2 qSi (PyProof.Rows.callWith_type1 (thn (ha pos2 pins s σ H _ I h) fun us s1 ⟨vs,H1,I1,r1,q1⟩=>?_) (by rw[he2,he3]) (by rw[he3];rfl))))
 obtain⟨l,t,ns,xs,rfl,hl,ht,hlen,h1000,q⟩:=q1
 obtain⟨u,v,rfl,ru,rv⟩:=vals2 r1
 cases ru;cases rv
 obtain⟨its,r2,p2',_⟩:=I1.list hl
 obtain⟨its2,r3,p3,_⟩:=I1.tuple ht
 obtain⟨ks,k1,k2,k3⟩:=qJc (P:=X.prog) (w:=X.w) r2 r3 hlen
 have e1:=r2.length
 have e2:=r3.length
 rw[List.length_map] at e1
 refine thn (qJv (knd:=zY X.prog X.w) (ks:=ks) (I1.ok.hd hc) p2'.isList (show s1.heap.IsTuple t its2.toArray from p3) (by simp only[List.size_toArray];omega) (by simpa using k1) (by omega) fun p' h' tk hp keep hD=>?_) fun z s2 hz=>Calls.spliced_nil hz
 exact I1.newDict hp keep k2 (by omega) hD (q p' (I1.hok.fresh hp))
noncomputable def PairIn (H:Hp)(kv:Str×V)(u:V):Prop:=∃a,u=.ref a∧H a=some (.tup [.str kv.1,kv.2])
theorem qVq (I:Inv X pins σ H s):∀{kvs:List (Str×V)} {us:List V} {its:List Value},Paired (PairIn H) kvs us→Vals us its→∃(vv:List (Value×Value)) (ks:List (Key×Value)),
  (∀(i:Nat) p,vv[i]? = some p→∃T o m,its[i]? = some (.ref T)∧s.heap.get? T=some o∧o.cls=.type "tuple" ∧ o.data=.seq #[p.1,p.2] m)∧vv.length=its.length∧Keyed (zY X.prog X.w) ks vv∧KV (pairK kvs) ks∧ks.length=kvs.length:=by
 intro kvs us its hp
 induction hp generalizing its with
 | nil=>
  intro hv
  cases hv
  exact⟨[],[],fun i p e=>by simp at e,rfl,.nil,.nil,rfl⟩
 | @cons kv _ _ _ f t ih=>
  intro hv
  cases hv with
  | cons r t2=>
  obtain⟨n,x⟩:=kv
  obtain⟨vv,ks,h1,h2,h3,h4,h5⟩:=ih t2
  obtain⟨a,rfl,ha⟩:=f
  cases r
  obtain⟨z,its,rv,o,ho,hc,m,hd,_⟩:=I.hok a _ ha
  obtain⟨u,v,rfl,ru,rv'⟩:=vals2 rv
  obtain⟨tk,rfl⟩:=ru
  refine⟨(.str n tk,v)::vv,(Sum.inr n,v)::ks,fun i p e=>?_,by simp[h2],.cons ⟨jA _ _ n tk,rfl⟩ h3,.cons ⟨rfl,rv'⟩ h4,by simp[h5]⟩
  cases i with
  | zero=>
   simp at e
   subst e
   exact⟨a,o,m,rfl,ho,hc,hd⟩
  | succ i=>exact h1 i p (by simpa using e)
theorem qKq (hc:X.calm=true):CallR X (.type "dict") (fun vs H Q=>∃l us kvs,vs=[.ref l]∧H l=some (.lst us)∧Paired (PairIn H) kvs us∧kvs.length≤1000∧∀p,H p=none→Q (.ref p) (upd H p (.dK (mergeK [] (pairK kvs))))):=by
 intro pins s σ H vs us Q I r h
 obtain⟨l,xs,kvs,rfl,hl,hp,h1000,q⟩:=h
 obtain⟨u,rfl,ru⟩:=vals1 r
 cases ru
 obtain⟨z,its,n,rv,hlen,e⟩:=I.lstM hl
 obtain⟨vv,ks,k1,k2,k3,k4,k5⟩:=qVq I hp rv
 refine qXv (knd:=zY X.prog X.w) (ks:=ks) (kvs:=vv) (I.ok.hd hc) e (fun i p ep=>?_) (by simp[k2]) k3 (by omega) fun p h' tk hp' keep hD=>I.newDict hp' keep k4 (by omega) hD (q p (I.hok.fresh hp'))
 obtain⟨T,o,m,a1,a2⟩:=k1 i p ep
 exact⟨T,o,m,by simpa using a1,a2⟩
end
end L2

namespace FP
open PySem L2

inductive Th where
 | num (n:Int) | box (x:Str) | nul (k:Str) | un (k:Str) (a:Th) | bin (k:Str) (a b:Th)
namespace Th
noncomputable def Op (k:Str):Prop:=k ≠ "box" ∧ k ≠ "number"
noncomputable def Ok:Th→Prop
 | num _=>True
 | box _=>True
 | nul k=>Op k
 | un k a=>Op k∧a.Ok
 | bin k a b=>Op k∧a.Ok∧b.Ok
noncomputable def dep:Th→Nat
 | num _=>1
 | box _=>1
 | nul _=>1
 | un _ a=>a.dep+1
 | bin _ a b=>max a.dep b.dep+1
noncomputable def cnt:Th→Nat
 | num _=>1
 | box _=>1
 | nul _=>1
 | un _ a=>a.cnt+1
 | bin _ a b=>a.cnt+b.cnt+1
noncomputable def names:Th→List Str
 | num _=>[]
 | box x=>[x]
 | nul _=>[]
 | un _ a=>a.names
 | bin _ a b=>a.names++b.names
theorem cnt_pos:∀t:Th,1≤t.cnt
 | num _=>Nat.le_refl _
 | box _=>Nat.le_refl _
 | nul _=>Nat.le_refl _
 | un _ a=>by show 1≤a.cnt+1;omega
 | bin _ a b=>by show 1≤a.cnt+b.cnt+1;omega
theorem names_le:∀t:Th,t.names.length≤t.cnt
 | num _=>Nat.zero_le _
 | box _=>Nat.le_refl _
 | nul _=>Nat.zero_le _
 | un _ a=>by have:=names_le a;show a.names.length≤a.cnt+1;omega
 | bin _ a b=>by
  have:=names_le a
  have:=names_le b
  show(a.names++b.names).length≤a.cnt+b.cnt+1
  rw[List.length_append];omega
theorem cnt_le:∀t:Th,t.cnt+1≤2 ^ t.dep
 | num _=>by show 1+1≤2 ^ 1;decide
 | box _=>by show 1+1≤2 ^ 1;decide
 | nul _=>by show 1+1≤2 ^ 1;decide
 | un _ a=>by
  have:=cnt_le a
  have:=cnt_pos a
  show a.cnt+1+1≤2 ^ (a.dep+1)
  rw[Nat.pow_succ];omega
 | bin _ a b=>by
  have ha:=cnt_le a
  have hb:=cnt_le b
  show a.cnt+b.cnt+1+1≤2 ^ (max a.dep b.dep+1)
  have h1:2 ^ a.dep≤2 ^ (max a.dep b.dep):=Nat.pow_le_pow_right (by decide) (Nat.le_max_left _ _)
  have h2:2 ^ b.dep≤2 ^ (max a.dep b.dep):=Nat.pow_le_pow_right (by decide) (Nat.le_max_right _ _)
  rw[Nat.pow_succ];omega
theorem cnt_small {t:Th}(h:t.dep≤12):t.cnt≤4096:=by
 have h1:=cnt_le t
 have h2:2 ^ t.dep≤2 ^ 12:=Nat.pow_le_pow_right (by decide) h
 have e:2 ^ 12=4096:=by decide
 omega
theorem dep_pos:∀t:Th,1≤t.dep
 | num _=>Nat.le_refl _
 | box _=>Nat.le_refl _
 | nul _=>Nat.le_refl _
 | un _ a=>by show 1≤a.dep+1;omega
 | bin _ a b=>by show 1≤max a.dep b.dep+1;omega
noncomputable def At (H:Hp):Th→V→Prop
 | num n,v=>∃a,v=.ref a∧H a=some (.tup [.str "number",.int n])
 | box x,v=>∃a,v=.ref a∧H a=some (.tup [.str "box",.str x])
 | nul k,v=>∃a,v=.ref a∧H a=some (.tup [.str k])
 | un k t,v=>∃a u,v=.ref a∧H a=some (.tup [.str k,u])∧t.At H u
 | bin k t r,v=>∃a u w,v=.ref a∧H a=some (.tup [.str k,u,w])∧t.At H u∧r.At H w
noncomputable def _root_.FP.Tups (H H':Hp):Prop:=∀b xs,H b=some (.tup xs)→H' b=some (.tup xs)
theorem At.mono {H H':Hp}(h:Tups H H'):∀{t:Th} {v:V},t.At H v→t.At H' v
 | num _,_,⟨a,e,q⟩=>⟨a,e,h _ _ q⟩
 | box _,_,⟨a,e,q⟩=>⟨a,e,h _ _ q⟩
 | nul _,_,⟨a,e,q⟩=>⟨a,e,h _ _ q⟩
 | un _ t,_,⟨a,u,e,q,r⟩=>⟨a,u,e,h _ _ q,At.mono h r⟩
 | bin _ t r,_,⟨a,u,w,e,q,r1,r2⟩=>⟨a,u,w,e,h _ _ q,At.mono h r1,At.mono h r2⟩
end Th
theorem qC {H H':Hp}(s:Same H H'):Tups H H':=fun b xs h=>s b _ h
theorem yY {d:Addr}{H H':Hp}{xs:List V}(s:But d H H')(h:H d=some (.lst xs)):Tups H H':=fun b ys q=>s b _ (vJ q h (by intro z;cases z)) q
theorem Tups.trans {H H1 H2:Hp}(a:Tups H H1)(b:Tups H1 H2):Tups H H2:=fun c xs h=>b c xs (a c xs h)

inductive View (H:Hp)(t:Th)(v:V):Prop
 | box (a:Addr) (x:Str):t=.box x→v=.ref a→H a=some (.tup [.str "box",.str x])→View H t v
 | num (a:Addr) (n:Int):t=.num n→v=.ref a→H a=some (.tup [.str "number",.int n])→View H t v
 | op (a:Addr) (k:Str) (us:List V) (ts:List Th):v=.ref a→H a=some (.tup (.str k::us))→Th.Op k→us.length=ts.length→us.length≤2→
   (∀(i:Nat) u r,us[i]? = some u→ts[i]? = some r→r.At H u∧r.Ok∧r.dep+1≤t.dep)→t.names=ts.flatMap Th.names→(ts.map Th.cnt).sum+1=t.cnt→View H t v
theorem view {H:Hp}:∀{t:Th} {v:V},t.At H v→t.Ok→View H t v
 | .num n,_,⟨a,e,q⟩,_=>.num a n rfl e q
 | .box x,_,⟨a,e,q⟩,_=>.box a x rfl e q
 | .nul k,_,⟨a,e,q⟩,ok=>.op a k [] [] e q ok rfl (by decide) (fun i u r h=>by simp at h) rfl rfl
 | .un k t,_,⟨a,u,e,q,r⟩,ok=>by
  refine .op a k [u] [t] e q ok.1 rfl (by show 1≤2;decide) (fun i u' r' h1 h2=>?_) (by simp[Th.names]) (by simp[Th.cnt])
  match i,h1,h2 with
  | 0,h1,h2=>
   cases h1;cases h2
   exact⟨r,ok.2,Nat.le_refl _⟩
  | i+1,h1,_=>simp at h1
 | .bin k t s,_,⟨a,u,w,e,q,r1,r2⟩,ok=>by
  refine .op a k [u,w] [t,s] e q ok.1 rfl (by show 2≤2;decide) (fun i u' r' h1 h2=>?_) (by simp[Th.names]) (by simp[Th.cnt])
  match i,h1,h2 with
  | 0,h1,h2=>
   cases h1;cases h2
   exact⟨r1,ok.2.1,by show t.dep+1≤max t.dep s.dep+1;omega⟩
  | 1,h1,h2=>
   cases h1;cases h2
   exact⟨r2,ok.2.2,by show s.dep+1≤max t.dep s.dep+1;omega⟩
  | i+2,h1,_=>simp at h1
theorem qJh {ts:List Th}{i:Nat}{t:Th}(h:ts[i]? = some t):(ts.take (i+1)).flatMap Th.names=(ts.take i).flatMap Th.names++t.names:=by
 rw[List.take_add_one,h,List.flatMap_append]
 simp
theorem qGw {ts:List Th}(i:Nat):((ts.take i).flatMap Th.names).length≤(ts.flatMap Th.names).length:=by
 have e:ts.flatMap Th.names=(ts.take i).flatMap Th.names++(ts.drop i).flatMap Th.names:=by rw[← List.flatMap_append,List.take_append_drop]
 rw[e,List.length_append];omega
theorem cut1 (k:V)(us:List V):cutV (k::us) (some 1) none=us:=by
 unfold cutV
 have e1:HT.sIx (k::us).length 0 (some (1:Int))=1:=by
  have:=HT.sIx_nat (k::us).length 0 1
  rw[List.length_cons] at this ⊢
  have e:min 1 (us.length+1)=1:=by omega
  rw[e] at this
  exact this
 rw[e1,HT.sIx_none,List.drop_one,List.tail_cons,List.length_cons,Nat.add_sub_cancel,List.take_length]
theorem notwhole (k:V)(us:List V):¬(HT.sIx (k::us).length 0 (some 1)=0∧HT.sIx (k::us).length (k::us).length none=(k::us).length):=by
 intro z
 have:=HT.sIx_nat (k::us).length 0 1
 rw[List.length_cons] at this
 have e:min 1 (us.length+1)=1:=by omega
 rw[e] at this
 have z1:=z.1
 rw[List.length_cons] at z1
 exact absurd (this.symm.trans z1) (by decide)
theorem small {n:Nat}(h:n≤10000):n<sizeLine:=Nat.lt_of_le_of_lt h (by decide)
theorem smallE {n:Nat}(h:n≤10000):n≤sizeLine:=Nat.le_of_lt (small h)
theorem qOj:("number" : Str) ≠ "box" := by decide +kernel
theorem xV {a b:Str}(h:a≠b):decide (V.str a=V.str b)=false:=decide_eq_false (by intro z;cases z;exact h rfl)
theorem zN (a:Str):decide (V.str a=V.str a)=true:=decide_eq_true rfl

noncomputable abbrev strsV (ws:List Str):List V:=ws.map V.str
theorem xW (ws:List Str):(strsV ws).length=ws.length:=List.length_map _

theorem xR (a b:List Str):strsV (a++b)=strsV a++strsV b:=List.map_append
theorem qAh (a:List Str)(x:Str):strsV (a++[x])=strsV a++[.str x]:=List.map_append
noncomputable abbrev intsV (ns:List Int):List V:=ns.map V.int
theorem qXn (a:List Int)(x:Int):intsV (a++[x])=intsV a++[.int x]:=List.map_append
theorem yG (ws:List Int):(intsV ws).length=ws.length:=List.length_map _

end FP

namespace L2
open PySem PySem.Spec PyProof.Rows

section
variable {X:Cx}{K:PySem.W.Frag}
theorem qT (hK:X.K=K:=by rfl):IxR X (rIxL K):=by subst hK;exact qEc
theorem qS (hK:X.K=K:=by rfl):IxR X (rIxT K):=by subst hK;exact qEb
theorem kM (hK:X.K=K:=by rfl):SlR X (rSlL K):=by subst hK;exact qMm
theorem qCe (hK:X.K=K:=by rfl):SlR X (rSlT K):=by subst hK;exact qRq
noncomputable def rLen (K:PySem.W.Frag):List V→Hp→VK→Prop:=fun xs H Q=>∃p ys,xs=[.ref p]∧(SqL K H p ys∨SqT K H p ys)∧Q (.int ys.length) H
theorem jI (hK:X.K=K:=by rfl):CallR X (.builtin "len") (rLen K):=by subst hK;exact wW
noncomputable def qNq (K:PySem.W.Frag):List V→Hp→VK→Prop:=fun xs H Q=>∃p ys,xs=[.ref p]∧(SqL K H p ys∨SqT K H p ys)∧∀l,H l=none→Q (.ref l) (upd H l (.lst ys))
theorem wX (hK:X.K=K:=by rfl):CallR X (.type "list") (qNq K):=by subst hK;exact qYo
noncomputable def rIsIn (K:PySem.W.Frag):List V→Hp→VK→Prop:=fun xs H Q=>∃x T t b,xs=[x,.ty T]∧TyOf K H x t∧PySem.W.kitOne K t (.type T)=some b∧Q (.bl b) H
theorem wA (hK:X.K=K:=by rfl):CallR X (.builtin "isinstance") (rIsIn K):=by subst hK;exact qVg
theorem qWi (hK:X.K=K:=by rfl):OpR X (compareOp .In) (rIn K false):=by subst hK;exact qDx
theorem qDq (hK:X.K=K:=by rfl):OpR X (compareOp .NotIn) (rIn K true):=by subst hK;exact qYz
noncomputable def rNeE (K:PySem.W.Frag):R2:=fun x y H Q=>∃a b xs,x=.ref a∧y=.ref b∧SqL K H a xs∧SqL K H b []∧Q (.bl (!xs.isEmpty)) H
theorem qNf (hu:X.A.units+64<cLine)(hK:X.K=K:=by rfl):OpR X (compareOp .NotEq) (rNeE K):=by subst hK;exact qRh hu
noncomputable def rEqE (K:PySem.W.Frag):R2:=fun x y H Q=>∃a b xs,x=.ref a∧y=.ref b∧SqL K H a xs∧SqL K H b []∧Q (.bl xs.isEmpty) H
theorem qNi (hu:X.A.units+64<cLine)(hK:X.K=K:=by rfl):OpR X (compareOp .Eq) (rEqE K):=by
 subst hK
 intro pins s σ H x y v u Q I rx ry h
 obtain⟨a,b,xs,rfl,rfl,ha,hb,q⟩:=h
 cases xs with
 | nil=>exact qRl hu pins s σ H _ _ v u Q I rx ry ⟨0,a,b,[],[],by omega,rfl,rfl,ha,hb,rfl,fun j x y e=>by simp at e,q⟩
 | cons z zs=>
  cases rx;cases ry
  obtain⟨its,r1,p1,_⟩:=I.list ha
  obtain⟨its2,r2,p2,_⟩:=I.list hb
  have l1:=r1.length
  have l2:=r2.length
  refine SeqAt.RcAt.lists_lengths p1.isList p2.isList ?_ (by omega) _ _ _ _ ⟨.bl false,H,I,rfl,q⟩
  simp only[List.length_cons,List.length_nil] at l1 l2
  rw[bne_iff_ne,List.size_toArray,List.size_toArray]
  omega
variable {tg l o e:Expr}{es:List Expr}{tl to:TE}{t:TA}{name:Str}{pos apos cpos:Pos}{T id:String}{r:V→List V→Hp→VK→Prop}
theorem qU (hl:PE X l tl)(hK:X.K=K:=by rfl):PI X tg l (iList K tl):=by subst hK;exact qCl hl
theorem qKi (hl:PE X l tl)(hK:X.K=K:=by rfl):PI X tg l (iTup K tl):=by subst hK;exact qRv hl
theorem zH {es:List Expr}{k:Nat}{t:TGs}{n:Nat}(hc:X.calm=true)(h:PGs X es t)
  (hn:(assignEach es X.env).length=n:=by rfl) (hst:(assignEach es X.env).findIdx? (·.1)=none:=by rfl) (hK:X.K=K:=by rfl):PG X (.Tuple es k pos) (gTup K n t):=by subst hK;exact qIg hc h hn hst
theorem qCn (pa:PlainAttrs T)(slot:Slot T name id)(hty:typeOf (.builtin id)=pure (.type "method_descriptor"))(hm:MtR X id r)(ho:PE X o to)
  (hbase:attributeBase o name X.env (eval o X.env)=eval o X.env:=by rfl) (hline:(apos.endLine == cpos.line)=true:=by rfl) (hK:X.K=K:=by rfl):PE X (.Call (.Attribute o name apos) [] [] cpos) (tBM0 K T r to):=by
 subst hK;exact qRc pa slot hty hm ho hbase hline
theorem zC (pa:PlainAttrs T)(slot:Slot T name id)(hty:typeOf (.builtin id)=pure (.type "method_descriptor"))(hm:MtR X id r)(ho:PE X o to)(ha:PA X (e::es) t)
  (hbase:attributeBase o name X.env (eval o X.env)=eval o X.env:=by rfl)
  (hfew:((backTo cpos (starEach (e::es) X.env)).all (fun x=>!x.1) && (backToKw cpos (keywordEach [] X.env)).all (fun x=>x.1.isSome)
   && decide ((e::es).length+([]:List Keyword).length+(if ([]:List Keyword).isEmpty then 0 else 1)<30))=true:=by rfl)
  (hline:(apos.endLine == cpos.line)=true:=by rfl) (hs:starEach (e::es) X.env=(false,eval e X.env)::starEach es X.env:=by rfl) (hplain:(backTo cpos (starEach es X.env)).any (·.1)=false:=by rfl) (hK:X.K=K:=by rfl):
  PE X (.Call (.Attribute o name apos) (e::es) [] cpos) (tBM K T r to t):=by
 subst hK;exact qTi pa slot hty hm ho ha hbase hfew hline hs hplain
end

structure Dn (P:Program)(w:World)(K:PySem.W.Frag)(mg:Str→Option Value)(base:Heap)(x:Str)(k:Nat)(ps:List Str)(sp:Sp):Prop where
 ex:∃f fd,FnOk P w K mg base CX0 k f fd ps sp∧mg x=some (.ref f)∧PySem.W.keepIn K (.ref f)=true∧Binds K fd ps []
section
variable {P:Program}{w:World}{K:PySem.W.Frag}{mg:Str→Option Value}{base:Heap}{x:Str}{j k:Nat}{ps:List Str}{sp sp':Sp}
end
section
variable {X:Cx}{P:Program}{w:World}{K:PySem.W.Frag}{mg:Str→Option Value}{base:Heap}{j k:Nat}{ps:List Str}{sp:Sp}{x:Str}{p pos:Pos}{e:Expr}{es:List Expr}{t:TA}
theorem qD (D:Dn P w K mg base x j ps sp)(hr:Room k X.A)(ha:PA X (e::es) t)(hjk:j≤k:=by first | decide | omega)(hg:Gl X x:=by rfl)
  (h1:X.prog=P:=by rfl) (h2:X.w=w:=by rfl) (h3:X.K=K:=by rfl) (h4:X.mg=mg:=by rfl) (h5:X.base=base:=by rfl)
  (hdb:(x == ("__debug__" : Str))=false:=by decide) (he:starEach (e::es) X.env=(false,eval e X.env)::starEach es X.env:=by rfl) (hpl:(backTo pos (starEach es X.env)).any (·.1)=false:=by rfl):
  PE X (.Call (.Name x p) (e::es) [] pos) (tCall sp [] E0 t):=by
 subst h1 h2 h3 h4 h5
 obtain⟨f,fd,F,a,b,c⟩:=D.ex
 exact zF (F.mono hjk) hr hg a b c .nil pass0 ha hdb he hpl
end

noncomputable def kidsE:Expr→List Expr
 | .BoolOp _ vs _=>vs
 | .BinOp l _ r _=>[l,r]
 | .UnaryOp _ a _=>[a]
 | .IfExp a b c _=>[a,b,c]
 | .ListComp e gs _ _=>e::gs.flatMap fun g=>g.iter::g.ifs
 | .Compare l _ cs _=>l::cs
 | .Call f as _ _=>f::as
 | .Attribute v _ _=>[v]
 | .Subscript a b _=>[a,b]
 | .List es _=>es
 | .Tuple es _ _=>es
 | .Slice a b c _=>a.toList++b.toList++c.toList
 | _=>[]
noncomputable def downE (e:Expr):List Nat→Expr
 | []=>e
 | i::p=>downE ((kidsE e).getD i (.Constant .none 0 ⟨0,0,0,0⟩)) p
noncomputable def exprS:Stmt→Expr
 | .Assign _ v _=>v
 | .Return (some v) _=>v
 | .Expr v _=>v
 | .If t _ _ _=>t
 | .While t _ _ _=>t
 | .For _ it _ _ _=>it
 | _=>.Constant .none 0 ⟨0,0,0,0⟩
noncomputable def blockS:Stmt→List Stmt
 | .If _ a b _=>a++b
 | .For _ _ b _ _=>b
 | .While _ b _ _=>b
 | _=>[]
noncomputable def stmtAt (body:List Stmt):List Nat→Stmt
 | []=>.Pass ⟨0,0,0,0⟩
 | [i]=>body.getD i (.Pass ⟨0,0,0,0⟩)
 | i::j::p=>stmtAt (blockS (body.getD i (.Pass ⟨0,0,0,0⟩))) (j::p)
noncomputable abbrev scAt (body:List Stmt)(p q:List Nat):Scope:=qKe (downE (exprS (stmtAt body p)) q)
noncomputable def tCut (t u:TS):TS:=fun D σ H=>∃Pv:St→Hp→Prop,t { D with nx:=Pv } σ H∧∀σ' H',Pv σ' H'→u D σ' H'
theorem qK {X:Cx}{st:Stmt}{rest:List Stmt}{t u:TS}(h1:PS X st t)(h2:PSs X rest u):PSs X (st::rest) (tCut t u):=by
 intro pins s σ H D I h
 obtain⟨Pv,q1,q2⟩:=h
 refine wpAny_execs_cons (thn (h1 pins s σ H { D with nx:=Pv } I q1) fun f s1 q=>?_)
 cases f with
 | next=>
  obtain⟨σ',H',I',q⟩:=q
  exact h2 pins s1 σ' H' D I' (q2 σ' H' q)
 | ret v=>exact q
 | brk=>exact q
 | cont=>exact q

section
variable {σ:St}{H:Hp}{Q:VK}{R:Bool→Hp→Prop}{S:St→Hp→Prop}{L:List V→Hp→Prop}{O:Option Int→Hp→Prop}{D:Ends}{ta tb tc:TE}{t u:TT}{a b:TS}{x y v:V}{i j:Int}{c:Bool}{K:PySem.W.Frag}
theorem w_var {k:Nat}(h:σ[k]? = some (some v))(q:Q v H):tVar k σ H Q:=⟨v,h,q⟩
theorem w_c (q:Q v H):tC v σ H Q:=q
theorem w_op {r:R2}(q:ta σ H fun x H1=>tb σ H1 fun y H2=>r x y H2 Q):tOp r ta tb σ H Q:=q
theorem w_I0 {g:Int→Int→V}(q:Q (g i j) H):rI0 g (.int i) (.int j) H Q:=⟨i,j,rfl,rfl,q⟩
theorem w_I {C:Int→Int→Prop}{g:Int→Int→V}(h:C i j)(q:Q (g i j) H):rI C g (.int i) (.int j) H Q:=⟨i,j,rfl,rfl,h,q⟩
theorem w_eq (h:scal x y=true)(q:Q (.bl (decide (x=y))) H):rEq x y H Q:=⟨h,q⟩
theorem w_ne (h:scal x y=true)(q:Q (.bl (!decide (x=y))) H):rNe x y H Q:=⟨h,q⟩
theorem qTb {p:Addr}{xs:List V}(h:SqL K H p xs)(e:atI xs i=some v)(q:Q v H):rIxL K (.ref p) (.int i) H Q:=⟨p,xs,i,v,rfl,rfl,h,e,q⟩
theorem qTa {p:Addr}{xs:List V}(h:SqT K H p xs)(e:atI xs i=some v)(q:Q v H):rIxT K (.ref p) (.int i) H Q:=⟨p,xs,i,v,rfl,rfl,h,e,q⟩
theorem qPk (q:ta σ H fun x H'=>∃k,x=.bl k∧R k H'):tTest ta σ H R:=q
theorem w_B (q:ta σ H fun x H'=>∃k,x=.bl k∧R k H'):tB ta σ H R:=q
theorem w_bl {F:Bool→Prop}(q:F c):∃k,V.bl c=.bl k∧F k:=⟨c,rfl,q⟩
theorem w_not (q:t σ H fun c H1=>R (!c) H1):tNot t σ H R:=q
theorem w_or (q:t σ H fun c H1=>if c=true then R true H1 else u σ H1 R):tOr t u σ H R:=q
theorem qPn (q:ta σ H fun x H1=>∃c,x=.bl c∧if c=true then tb σ H1 Q else Q (.bl false) H1):tAndV ta tb σ H Q:=q
theorem qPa (q:ta σ H fun x H1=>∃c,x=.bl c∧Q (.bl (!c)) H1):tNotV ta σ H Q:=q
theorem w_if (q:t σ H fun c H1=>if c=true then ta σ H1 Q else tb σ H1 Q):tIf t ta tb σ H Q:=q
theorem qPb (q:D.nx σ H):tNext D σ H:=q
theorem qTj (q:a { D with nx:=b D } σ H):tSeq a b D σ H:=q
theorem qPh (q:ta σ H fun _ H1=>D.nx σ H1):tDrop ta D σ H:=q
theorem qTk (q:ta σ H D.rt):tRet ta D σ H:=q
theorem qTc (q:t σ H fun c H1=>if c=true then a D σ H1 else b D σ H1):tIfS t a b D σ H:=q
theorem qTg {g:TG}(q:ta σ H fun x H1=>g x σ H1 D.nx):tAsg ta g D σ H:=q
theorem qPc {k:Nat}(q:S (σ.set k (some v)) H):gName k v σ H S:=q
theorem qPf (q:S σ H):gNil [] σ H S:=⟨rfl,q⟩
theorem qMf {g:TG}{gs:TGs}{vs:List V}(q:g v σ H fun σ' H'=>gs vs σ' H' S):gCons g gs (v::vs) σ H S:=⟨v,vs,rfl,q⟩
theorem qPe {n:Nat}{gs:TGs}{p:Addr}{xs:List V}(h:SqT K H p xs)(e:xs.length=n)(q:gs xs σ H S):gTup K n gs (.ref p) σ H S:=⟨p,xs,rfl,h,e,q⟩
theorem qTv (q:L [] H):tNil σ H L:=q
theorem qPl {ts:TA}(q:ta σ H fun x H1=>ts σ H1 fun xs H2=>L (x::xs) H2):tCons ta ts σ H L:=q
theorem qTz {ts:TA}(q:ts σ H fun xs H1=>xs.length≤sizeLine∧∀p,H1 p=none→Q (.ref p) (upd H1 p (.tup xs))):tTup ts σ H Q:=q
theorem qTw {ts:TA}(q:ts σ H fun xs H1=>xs.length≤sizeLine∧∀p,H1 p=none→Q (.ref p) (upd H1 p (.lst xs))):tLst ts σ H Q:=q
theorem qPm {sp:Sp}{dvs:List V}{E:XK}{ts:TA}(q:ts σ H fun vs H1=>sp (vs++dvs) H1 Q E):tCall sp dvs E ts σ H Q:=q
theorem w_cb {r:List V→Hp→VK→Prop}{ts:TA}(q:ts σ H fun vs H1=>r vs H1 Q):tCB r ts σ H Q:=q
theorem qTf {T:String}{r:V→List V→Hp→VK→Prop}(q:ta σ H fun x H1=>tyV K T x H1∧r x [] H1 Q):tBM0 K T r ta σ H Q:=q
theorem w_bm {T:String}{r:V→List V→Hp→VK→Prop}{ts:TA}(q:ta σ H fun x H1=>tyV K T x H1∧ts σ H1 fun xs H2=>r x xs H2 Q):tBM K T r ta ts σ H Q:=q
theorem wB {p:Addr}{xs:List V}{A:Prop}(h:SqL K H p xs)(q:A):tyV K "list" (.ref p) H∧A:=⟨.inl ⟨rfl,xs,h⟩,q⟩
theorem qGk (q:O none H):qCj σ H O:=q
theorem qPw (q:ta σ H fun x H1=>∃i,x=.int i∧O (some i) H1):tPart ta σ H O:=q
theorem qTe {F:Int→Prop}(q:F i):∃k,V.int i=.int k∧F k:=⟨i,rfl,q⟩
theorem w_sl {r:V→Option Int→Option Int→Hp→VK→Prop}{tl th:TO}(q:ta σ H fun x H1=>tl σ H1 fun l H2=>th σ H2 fun u H3=>r x l u H3 Q):tSl r ta tl th σ H Q:=q
theorem w_len {p:Addr}{xs:List V}(h:SqL K H p xs∨SqT K H p xs)(q:Q (.int xs.length) H):rLen K [.ref p] H Q:=⟨p,xs,rfl,h,q⟩
theorem qPi {td ty:TE}(q:td σ H fun x H1=>ty σ H1 fun y H2=>∃a v,x=.ref a∧DGet H2 a y (some v)∧Q v H2):tDGet td ty σ H Q:=q
theorem yJ {p:Addr}{xs:List V}(h:H p=some (.lst xs))(e:xs.length<sizeLine)(q:Q .non (upd H p (.lst (xs++[y])))):qKh (.ref p) [y] H Q:=⟨p,xs,y,rfl,rfl,h,e,q⟩
theorem qMe {W:It→Hp→Prop}(q:ta σ H fun x H1=>∃a,x=.ref a∧(∃xs,SqL K H1 a xs)∧W (Itl K a) H1):iList K ta σ H W:=q
theorem qPd {W:It→Hp→Prop}(q:ta σ H fun x H1=>∃a,x=.ref a∧(∃xs,SqT K H1 a xs)∧W (Itt K a) H1):iTup K ta σ H W:=q
theorem qPv {W:It→Hp→Prop}{ts:TA}(q:ts σ H fun vs H1=>∃j:Int,vs=[.int j]∧-(2 ^ 62)≤j∧j<2 ^ 62∧W (Itr 0 j.toNat) H1):iRng1 ts σ H W:=q
theorem qJe {A B:Prop}(h:c=true)(q:A):if c=true then A else B:=by rw[if_pos h];exact q
theorem jP {A B:Prop}(h:c=false)(q:B):if c=true then A else B:=by rw[h];exact iteF q
noncomputable def forK (g:TG)(tb:TS)(D:Ends)(σ:St):It→Hp→Prop:=fun J H1=>∃W:Nat→Nat→St→Hp→Prop,(∃m,W 0 m σ H1)∧∀i m σ H,W i m σ H→
 (J.stop i H∧D.nx σ H)∨(J.go i H∧∃N:St→Hp→Prop,(∀σ' H',N σ' H'→∃m',m'<m∧W (i+1) m' σ' H')∧∀x H',J.yld i H x H'→g x σ H' fun σ2 H2=>tb { D with nx:=N,ct:=N,bk:=D.nx } σ2 H2)
theorem qTd {wi:TI}{g:TG}(q:wi σ H (forK g a D σ)):tFor wi g a D σ H:=q
theorem qBn {k:Nat}{js:List Nat}{wi:TI}{g:TG}(q:wi σ H fun J H1=>rdC k js g t ta J σ H1 Q):tComp k js wi g t ta σ H Q:=q
theorem iteNT {A B:Prop}(q:B):if (!true)=true then A else B:=iteF q
theorem qSz {T:String}:PySem.W.kitOne K (.type T) (.type T)=some true:=by simp[PySem.W.kitOne]
end
theorem Same.tup {K:PySem.W.Frag}{H H':Hp}{a:Addr}{xs:List V}(e:Same H H')(h:SqT K H a xs):SqT K H' a xs:=by
 rcases h with(h | ⟨o,h⟩) | h
 ·exact .inl (.inl (e _ _ h))
 ·exact .inl (.inr ⟨o,e _ _ h⟩)
 ·exact .inr h

noncomputable def eqAll (xs ys:List V):Bool:=xs.length == ys.length && (List.range xs.length).all fun j=>eqV (xs.getD j .non) (ys.getD j .non)
noncomputable def rEqF (K:PySem.W.Frag)(neg:Bool):R2:=fun x y H Q=>∃a b xs ys,x=.ref a∧y=.ref b∧SqL K H a xs∧SqL K H b ys∧xs.all flatV=true∧ys.all flatV=true∧xs.length=ys.length∧Q (.bl (if neg then !eqAll xs ys else eqAll xs ys)) H
section
variable {X:Cx}{K:PySem.W.Frag}
theorem qNh (hu:X.A.units+64<cLine)(hK:X.K=K:=by rfl):OpR X (compareOp .Eq) (rEqF K false):=by
 subst hK
 intro pins s σ H x y v u Q I rx ry h
 obtain⟨a,b,xs,ys,rfl,rfl,ha,hb,fx,fy,hl,q⟩:=h
 cases rx;cases ry
 obtain⟨its,r1,p1,_⟩:=I.list ha
 obtain⟨its2,r2,p2,_⟩:=I.list hb
 have l1:=r1.length
 have l2:=r2.length
 have sz:its.toArray.size=its2.toArray.size:=by rw[List.size_toArray,List.size_toArray,← l1,← l2,hl]
 refine SeqAt.RcAt.lists (e:=fun j=>eqV (xs.getD j .non) (ys.getD j .non)) p1.isList p2.isList sz (by omega) (fun j h1 h2=>?_) _ _ _ _ ?_
 ·have h1':j<xs.length:=by rw[l1];simpa using h1
  have h2':j<ys.length:=by rw[← hl];exact h1'
  obtain⟨u1,e1,q1⟩:=r1.get (List.getElem?_eq_getElem h1')
  obtain⟨u2,e2,q2⟩:=r2.get (List.getElem?_eq_getElem h2')
  have g1:its.toArray[j]=u1:=by
   have:its[j]? = some its.toArray[j]:=by simp
   exact Option.some.inj (this.symm.trans e1)
  have g2:its2.toArray[j]=u2:=by
   have:its2[j]? = some its2.toArray[j]:=by simp
   exact Option.some.inj (this.symm.trans e2)
  have d1:xs.getD j .non=xs[j]:=by rw[List.getD_eq_getElem?_getD,List.getElem?_eq_getElem h1'];rfl
  have d2:ys.getD j .non=ys[j]:=by rw[List.getD_eq_getElem?_getD,List.getElem?_eq_getElem h2'];rfl
  rw[g1,g2]
  show SeqAt.EqAt _ _ _ _ (eqV (xs.getD j .non) (ys.getD j .non))
  rw[d1,d2]
  exact qMv q1 q2 (List.all_eq_true.mp fx _ (List.getElem_mem h1')) (List.all_eq_true.mp fy _ (List.getElem_mem h2'))
 ·have e:eqAll xs ys=(List.range its.toArray.size).all fun j=>eqV (xs.getD j .non) (ys.getD j .non):=by
   unfold eqAll
   rw[hl,beq_self_eq_true,Bool.true_and,List.size_toArray,← l1,hl]
  rw[← e]
  exact⟨.bl _,H,I,rfl,q⟩
end

structure Fd (K:PySem.W.Frag)(mg:Str→Option Value)(x:Str)(st:Stmt)(ps:List Str):Prop where
 ex:∃f fd,Fun K x x st f fd∧mg x=some (.ref f)∧PySem.W.keepIn K (.ref f)=true∧Binds K fd ps []
section
variable {P:Program}{w:World}{K:PySem.W.Frag}{mg:Str→Option Value}{base:Heap}{x:Str}{st:Stmt}{k:Nat}{N ps:List Str}{sp:Sp}
theorem Fd.ok (F:Fd K mg x st ps)(S:xI N ps (xA st))(len:∀vs H Q E,sp vs H Q E→vs.length=ps.length)
  (hbody:∀(f:Addr) (cdv:Value) (A:Around) (outer:List Env) (s:Shared) (H:Hp) (vs:List V) (Q:VK) (E:XK),Room k (A.deeper (envOfC x (xA st) s.heap.objs.size f cdv))→sp vs H Q E→
   ∃t,PSs (cxOf CX0 P w K mg base N x (xA st) f cdv A outer s H E).nox (xB st) t∧t { nx:=fun _ H'=>Q .non H',rt:=Q } (start N vs) H):Dn P w K mg base x (k+1) ps sp:=
 let ⟨f,fd,F,a,b,c⟩:=F.ex
 ⟨f,fd,F.ok S len (hbody f),a,b,c⟩
theorem Fd.never (F:Fd K mg x st ps)(no:∀vs H Q E,¬sp vs H Q E):Dn P w K mg base x k ps sp:=
 let ⟨f,fd,F,a,b,c⟩:=F.ex
 ⟨f,fd,⟨fun vs H Q E h=>absurd h (no vs H Q E),fun A outer s H args us vs Q E _ _ _ _ h=>absurd h (no vs H Q E)⟩,a,b,c⟩
end
end L2

namespace PySem
section
variable {prog:Program}{w:World}{κ:Type}[DecidableEq κ]{knd:KeyKind prog w κ}
theorem qWb {h:Heap}{a:Addr}{S S':κ→Bool}{n n':Nat}(x:h.SetOf knd a S n)(e:∀k,S k=S' k)(en:n=n'):h.SetOf knd a S' n':=by
 obtain rfl:S=S':=funext e
 subst en
 exact x
noncomputable def metBy (key:Nat→κ)(i:Nat)(x:κ):Bool:=(List.range i).any fun j=>decide (key j=x)
theorem qBw (key:Nat→κ)(i:Nat)(x:κ):metBy key (i+1) x=(metBy key i x || decide (x=key i)):=by
 unfold metBy
 rw[List.range_succ,List.any_append]
 congr 1
 simp only[List.any_cons,List.any_nil,Bool.or_false]
 exact decide_eq_decide.mpr ⟨Eq.symm,Eq.symm⟩
theorem qDl {key:Nat→κ}{n i:Nat}(hd:∀a b,a<n→b<n→key a=key b→a=b)(hi:i<n):metBy key i (key i)=false:=by
 unfold metBy
 refine Bool.eq_false_iff.mpr fun z=>?_
 obtain⟨j,hj,e⟩:=List.any_eq_true.mp z
 have hj':=List.mem_range.mp hj
 have:=hd j i (by omega) hi (of_decide_eq_true e)
 omega
variable {A:Around}{R:Result→Shared→Prop}{I:Addr}{fp wr:List Addr}{G:Array GenState→Array GenState→Prop}{n:Nat}{P:Nat→Value→Prop}{St:Nat→Shared→Prop}
theorem qGh (W:WalksS prog w A.in1 I fp wr G n P St)(T:Addr)(hT:T∉fp)(key:Nat→κ)(hkey:∀i v,P i v→knd.is (key i) v=true∧v.scannable=true)(hd:∀a b,a<n→b<n→key a=key b→a=b)(hb:n+1<scanBound):
  ∀(k i:Nat) (s:Shared),n - i=k→i≤n→St i s→s.heap.SetOf knd T (metBy key i) i→(∀s',Moved (T::wr) G s s'→s'.heap.SetOf knd T (metBy key n) n→R (.ok (.ret .none)) s')→
   codeAny (model prog w) A (.builtin "set.update.loop" ⟨[.ref T,.ref I],[]⟩) R s:=by
 have hTw:T∉wr:=fun z=>hT (W.sub _ z)
 have up:∀b∈wr,b∈T::wr:=fun b z=>List.mem_cons_of_mem _ z
 have carry:∀{s s':Shared} {S:κ→Bool} {m:Nat},Moved wr G s s'→s.heap.SetOf knd T S m→s'.heap.SetOf knd T S m:=fun mv ⟨o,es,ep,t,e,r⟩=>⟨o,es,ep,t,mv.heap T _ hTw e,r⟩
 intro k
 induction k with
 | zero=>
  intro i s hk hi st hS hR
  obtain rfl:i=n:=by omega
  refine codeAny_builtin PyProof.Rows.F.entry_set_update_loop ?_
  rw[Around.under_plainId PyProof.Rows.F.plain_set_update_loop _]
  refine wpAny_bind (m:=pyNext (.ref I)) (W.done s _ _ st fun s' mv=>?_)
  exact wpAny_pure (hR s' (mv.mono up) (carry mv hS))
 | succ k ih=>
  intro i s hk hi st hS hR
  have lt:i<n:=by omega
  refine codeAny_builtin PyProof.Rows.F.entry_set_update_loop ?_
  rw[Around.under_plainId PyProof.Rows.F.plain_set_update_loop _]
  refine wpAny_bind (m:=pyNext (.ref I)) (W.item i s _ _ lt st fun v s' hP st' mv=>?_)
  obtain⟨hv,sc⟩:=hkey i v hP
  have hS1:=carry mv hS
  refine wpAny_bind (m:=holding [v] (setAdd T v)) (wpAny_holding ?_)
  unfold setAdd
  refine wpAny_holding (wpAny_bind (knd.pyHash (k:=key i) hv ?_))
  refine wpAny_setAddHashed_of (knd:=knd) (s:={ s' with toks:=s'.toks+1 }) hv sc hS1 (by omega) fun h' sb hS2=>?_
  have hS3:h'.SetOf knd T (metBy key (i+1)) (i+1):=by
   refine qWb hS2 (fun x=>(qBw key i x).symm) ?_
   rw[qDl hd lt]
   rfl
  refine wpAny_pure ⟨plainId_quiet PyProof.Rows.F.plain_set_update_loop _,ih (i+1) _ (by omega) lt (W.frame _ s' _ _ st' (Nat.le_succ _) fun b hb' o e=>?_) hS3 fun s'' mv2 hS4=>?_⟩
  ·rw[sb.2 b (fun z=>hT (z▸hb'))];exact e
  ·refine hR s'' (Moved.trans W.gtrans ((mv.mono up).then_heap (Nat.le_succ _) fun b o hb' e=>?_) mv2) hS4
   rw[sb.2 b (fun z=>hb' (z▸List.mem_cons_self))];exact e
end
section
variable {prog:Program}{w:World}{κ:Type}[DecidableEq κ]{knd:KeyKind prog w κ}{A:Around}{E:Value→Shared→Prop}{s:Shared}
noncomputable abbrev setObj (led:Bool):Obj:={ cls:=.type "set",dict:=none,data:=.set #[] 0 (.fresh 0 0 led) }
theorem qJk {l:Addr}{items:Array Value}{key:Nat→κ}{Q:Value→Shared→Prop}(hh:A.handled=none)(hl:s.heap.IsList l items)(hkey:∀(i:Nat) v,items[i]? = some v→knd.is (key i) v=true∧v.scannable=true)
  (hd:∀a b,a<items.size→b<items.size→key a=key b→a=b) (hb:items.size+1<scanBound)
  (fin:∀(h':Heap) (tk:Nat),h'.SetOf knd s.heap.objs.size (metBy key items.size) items.size→(∀b o,s.heap.get? b=some o→h'.get? b=some o)→Q (.ref s.heap.objs.size) { s with heap:=h',toks:=tk }):
  wpAny (model prog w) A (call (.type "set") [.ref l]) Q E s:=by
 obtain⟨c0,tl0,m0⟩:=F.called_set.mro
 have m1:=F.called_set.made
 have m2:=F.called_set.sub
 refine wpAny_call (codeAny_of_tree ?_)
 show wpAny _ _ (callAny (.type "set") _) _ _ _
 refine wpAny_pure ⟨Code.quiet_builtin _ (by decide +kernel),codeAny_builtin F.entry_type_call ?_⟩
 rw[Around.under_plain (weight_type_call_type "set" [.ref l] []) rfl]
 have m3:=F.called_set.notType
 have m4:=F.called_set.canCreate
 have m5:=F.typeCall_set_1 (.ref l)
 repeat (any_goals (first | assumption | wp_step))
 refine codeAny_mono (code_set_new_1 (.ref l) (E:=E) (Q₁:=fun obj s₁=>∃led:Bool,obj=.ref s.heap.objs.size∧s₁={ s with heap:=s.heap.push (setObj led) }) fun led=>⟨led,rfl,rfl⟩) fun r s₁ hr=>?_
 cases r with
 | error e=>exact hr
 | ok fl=>
 cases fl with
 | ret obj=>
  obtain⟨led,rfl,rfl⟩:=hr
  have at0:(s.heap.push (setObj led)).get? s.heap.objs.size=some (setObj led):=Heap.get?_push_size _ rfl
  have ty0:Shared.TypeIs { s with heap:=s.heap.push (setObj led) } (.ref s.heap.objs.size) "set" := ⟨_,at0,rfl⟩
  have m6:=F.called_set.init.lookup
  have m7:=F.called_set.init.bind (.ref s.heap.objs.size)
  repeat (any_goals (first | assumption | wp_step))
  refine codeAny_mono (codeAny_call_builtin (R:=wants (fun r s₂=>r=.none∧∃h' tk,s₂={ s with heap:=h',toks:=tk }∧h'.SetOf knd s.heap.objs.size (metBy key items.size) items.size∧(∀b o,s.heap.get? b=some o→h'.get? b=some o)) E)
   F.called_set.init.plain F.entry_set_init (check_set_init_1 ty0 ?_)) fun r₂ s₂ hr₂=>?_
  ·obtain⟨⟨oc,od,oda,osl⟩,g,kc,nl,kd⟩:=hl
   simp only at kc kd
   subst kc kd
   have g1:(s.heap.push (setObj led)).get? l=some { cls:=.type "list",dict:=od,data:=.seq items nl,slots:=osl }:=Heap.get?_push_of_some _ g
   have n1:=F.sub_list_set
   have n2:=F.sub_list_frozenset
   have n3:(Value.type "list" == Value.type "dict")=false:=by decide
   have l1:(s.heap.push (setObj led)).IsList l items:=⟨_,g1,rfl,nl,rfl⟩
   unfold Builtin.«set.__init__» noKeywords Builtin.Frozenset.updateFrom
   generalize hPI:pyIter=PI
   wp_walk
   subst hPI
   refine wpAny_pyIter_list l1 (wpAny_bind (wpAny_runValue ?_))
   have lt:l<s.heap.objs.size:=Heap.lt_size g
   have sz:(s.heap.push (setObj led)).objs.size=s.heap.objs.size+1:=Heap.size_push _ _
   have ne1:l≠(s.heap.push (setObj led)).objs.size:=by rw[sz];exact Nat.ne_of_lt (Nat.lt_succ_of_lt lt)
   have out:s.heap.objs.size∉[(s.heap.push (setObj led)).objs.size,l]:=by
    rw[sz]
    intro z
    simp only[List.mem_cons,List.not_mem_nil,or_false] at z
    rcases z with z | z
    ·exact absurd z (Nat.ne_of_lt (Nat.lt_succ_self _))
    ·exact absurd z (Nat.ne_of_gt lt)
   refine qGh ((Walks.list (by simp[hh]) _ l ne1 items).toS) s.heap.objs.size out key hkey hd hb (items.size - 0) 0 _ (by omega) (Nat.zero_le _) ⟨⟨_,Heap.get?_push_size _ rfl,rfl,rfl⟩,(l1.push _)⟩ ?start ?done
   case start=>
    refine qWb ((PyProof.Rows.setObjOf_fresh (knd:=knd) led).setOf (Heap.get?_push_of_some _ at0) (by unfold scanBound;omega)) (fun _=>rfl) rfl
   case done=>
    intro s' mv hS'
    obtain⟨h',g',d',tk',os'⟩:=s'
    obtain rfl:g'=s.gens:=mv.gens
    obtain rfl:d'=s.drawn:=mv.drawn
    obtain rfl:os'=s.os:=mv.os
    refine wpAny_pure ?_
    refine wpAny_pure ⟨rfl,h',tk',rfl,hS',fun b o e=>?_⟩
    have lb:=Heap.lt_size e
    refine mv.heap b o (fun z=>?_) (Heap.get?_push_of_some _ (Heap.get?_push_of_some _ e))
    simp only[List.mem_cons,List.not_mem_nil,or_false] at z
    rcases z with z | z
    ·exact absurd z (Nat.ne_of_lt lb)
    ·exact absurd z (by rw[sz];exact Nat.ne_of_lt (Nat.lt_succ_of_lt lb))
  ·cases r₂ with
   | error e=>exact hr₂
   | ok fl₂=>
   cases fl₂ with
   | ret r=>
    obtain⟨rfl,h',tk,rfl,hS',keep⟩:=hr₂
    repeat (any_goals (first | assumption | wp_step))
    exact fin _ _ hS' keep
   | _=>exact hr₂.elim
 | _=>exact hr.elim
end
end PySem

namespace L2
open PySem PySem.Spec PyProof.Rows

noncomputable def rCatN (K:PySem.W.Frag):R2:=fun x y H Q=>∃a b xs ys,x=.ref a∧y=.ref b∧SqT K H a xs∧SqT K H b ys∧ys≠[]∧xs.length+ys.length≤sizeLine∧
 (xs=[]→Q (.ref b) H)∧(xs≠[]→∀p,H p=none→Q (.ref p) (upd H p (.tup (xs++ys))))
section
variable {X:Cx}{K:PySem.W.Frag}
theorem qWl (hK:X.K=K:=by rfl):OpR X (binaryOp .Add) (rCatN K):=by
 subst hK
 intro pins s σ H x y v u Q I rx ry h
 obtain⟨a,b,xs,ys,rfl,rfl,ha,hb,hy,hz,q0,q1⟩:=h
 by_cases hx:xs=[]
 ·subst hx
  cases rx;cases ry
  obtain⟨i1,r1,⟨⟨c1,d1,t1,l1⟩,g1,k1,n1,e1⟩,_⟩:=I.tuple ha
  obtain⟨i2,r2,⟨⟨c2,d2,t2,l2⟩,g2,k2,n2,e2⟩,_⟩:=I.tuple hb
  cases r1
  simp only at k1 e1 k2 e2
  subst k1 e1 k2 e2
  exact concat_meets ⟨_,g1,rfl⟩ ⟨_,g2,rfl⟩ noFill_tuple_add seq_tuple_add PySem.F.slot_tuple_add PySem.F.entry_tuple_add (PySem.F.args_tuple_add_2 _ _) (tuple_addW0 a b _ _ n1 n2 d1 d2 l1 l2 (by simp)) ⟨g1,g2,⟨.ref b,H,I,rfl,q0 rfl⟩⟩
 ·exact qNl pins s σ H _ _ v u Q I rx ry ⟨a,b,xs,ys,rfl,rfl,ha,hb,hx,hz,fun z=>absurd z hy,fun _=>q1 hx⟩
end

noncomputable def SetN (P:Program)(w:World)(a:Addr)(n:Nat):HO:=.ext fun h=>∃S,h.SetOf (zY P w) a S n
noncomputable def rSetOf (P:Program)(w:World)(K:PySem.W.Frag):List V→Hp→VK→Prop:=fun xs H Q=>∃(l:Addr) (ws:List Str),xs=[.ref l]∧SqL K H l (ws.map V.str)∧ws.Nodup∧ws.length≤1000∧∀p,H p=none→Q (.ref p) (upd H p (SetN P w p ws.length))
noncomputable def rLenS (P:Program)(w:World):List V→Hp→VK→Prop:=fun xs H Q=>∃p n,xs=[.ref p]∧H p=some (SetN P w p n)∧n≤1000∧Q (.int n) H
theorem qSl:bootBuiltins "set" = some (.type "set"):=by decide +kernel
section
variable {X:Cx}{P:Program}{w:World}{K:PySem.W.Frag}
theorem qFg (hc:X.calm=true)(hP:X.prog=P:=by rfl)(hw:X.w=w:=by rfl)(hK:X.K=K:=by rfl):CallR X (.type "set") (rSetOf P w K):=by
 subst hK hP hw
 intro pins s σ H xs us Q I r h
 obtain⟨l,ws,rfl,hl,nd,hz,q⟩:=h
 obtain⟨u,rfl,ru⟩:=vals1 r
 cases ru
 obtain⟨its,r1,p1,_⟩:=I.list hl
 have len:=r1.length
 rw[List.length_map] at len
 have l1:its.toArray.size=ws.length:=by simp[len]
 have sc:scanBound=4096:=rfl
 refine qJk (knd:=zY X.prog X.w) (key:=fun i=>Sum.inr (ws.getD i "")) (I.ok.hd hc) p1.isList (fun i v e=>?_) (fun a b ha hb e=>?_) (by omega) fun h' tk hS keep=>?_
 ·have hi:i<ws.length:=by
   have:=(Array.getElem?_eq_some_iff.mp e).1
   omega
  have e0:(ws.map V.str)[i]? = some (.str ws[i]):=by rw[List.getElem?_map,List.getElem?_eq_getElem hi];rfl
  obtain⟨u,e1,q1⟩:=r1.get e0
  have:its.toArray[i]? = some u:=by simpa using e1
  rw[this] at e
  cases e
  obtain⟨t,rfl⟩:=q1
  have d:ws.getD i "" = ws[i]:=by rw[List.getD_eq_getElem?_getD,List.getElem?_eq_getElem hi];rfl
  rw[d]
  exact⟨jA _ _ _ t,rfl⟩
 ·have ha:a<ws.length:=by omega
  have hb:b<ws.length:=by omega
  have e':=Sum.inr.inj e
  rw[List.getD_eq_getElem?_getD,List.getD_eq_getElem?_getD,List.getElem?_eq_getElem ha,List.getElem?_eq_getElem hb] at e'
  exact(List.getElem_inj nd).mp e'
 ·rw[l1] at hS
  refine⟨.ref s.heap.objs.size,_,I.laid (t':=tk) (o:=SetN X.prog X.w s.heap.objs.size ws.length) keep (Nat.le_refl _) ⟨⟨_,hS⟩,?_,?_⟩,rfl,q _ (I.hok.fresh (Nat.le_refl _))⟩
  ·obtain⟨o,_,_,_,e,_⟩:=hS
   exact⟨o,e⟩
  ·rintro h1 h2 ⟨S,o,es,ep,t,e,r⟩ k
   exact⟨S,o,es,ep,t,k o e,r⟩
theorem qFi (hP:X.prog=P:=by rfl)(hw:X.w=w:=by rfl):CallR X (.builtin "len") (rLenS P w):=by
 subst hP hw
 intro pins s σ H xs us Q I r h
 obtain⟨p,n,rfl,hp,hn,q⟩:=h
 obtain⟨u,rfl,ru⟩:=vals1 r
 cases ru
 obtain⟨⟨S,o,es,ep,t,e,ex,ed,_,_,_,ef,en⟩,_⟩:=I.hok p _ hp
 subst en
 exact call_len_set e ex ed ef (by omega) ⟨.int _,H,I.tok _,⟨_,rfl⟩,q⟩
end

structure Gi (mg:Str→Option Value)(x:Str)(i:Int):Prop where
 ex:∃t,mg x=some (.int i t)
structure Gs (K:PySem.W.Frag)(mg:Str→Option Value)(x:Str)(ws:List Str):Prop where
 ex:∃p,mg x=some (.ref p)∧∀H,SqT K H p (ws.map V.str)
section
variable {X:Cx}{mg:Str→Option Value}{K:PySem.W.Frag}{x:Str}{i:Int}{ws:List Str}{pos:Pos}
theorem qGo (g:Gi mg x i)(hg:Gl X x:=by rfl)(hm:X.mg=mg:=by rfl)(hd:(x == ("__debug__" : Str))=false:=by decide):PE X (.Name x pos) (tC (.int i)):=by
 subst hm
 obtain⟨t,e⟩:=g.ex
 exact qKl hg e ⟨t,rfl⟩ hd
noncomputable def tGs (K:PySem.W.Frag)(ws:List Str):TE:=fun _ H Q=>∀p,SqT K H p (ws.map V.str)→Q (.ref p) H
theorem qNv (g:Gs K mg x ws)(hg:Gl X x:=by rfl)(hm:X.mg=mg:=by rfl)(hd:(x == ("__debug__" : Str))=false:=by decide):PE X (.Name x pos) (tGs K ws):=by
 subst hm
 obtain⟨p,e,sq⟩:=g.ex
 intro pins s σ H Q I h
 exact qKl (v:=.ref p) hg e rfl hd pins s σ H Q I (h p (sq H))
end
end L2

namespace L2
open PySem PySem.Spec PyProof.Rows
section
variable {X:Cx}{K:PySem.W.Frag}
end
section
variable {α:Type}
end
end L2

namespace PySem
section
variable {prog:Program}{w:World}{A:Around}{E:Value→Shared→Prop}{s:Shared}
end
end PySem
namespace L2
open PySem PySem.Spec PyProof.Rows
section
variable {X:Cx}{K:PySem.W.Frag}
end
section
variable {X:Cx}{K:PySem.W.Frag}
end
end L2

namespace PySem
section
variable {prog:Program}{w:World}{A:Around}{E:Value→Shared→Prop}{s:Shared}
end
end PySem
namespace L2
open PySem PySem.Spec PyProof.Rows
section
variable {X:Cx}{K:PySem.W.Frag}
end
end L2

namespace L2
open PySem PySem.Spec PyProof.Rows
theorem qSn:bootBuiltins "abs" = some (.builtin "abs"):=by decide +kernel
section
variable {X:Cx}{K:PySem.W.Frag}
end
section
variable {X:Cx}{K:PySem.W.Frag}{e st:Expr}{te ts:TE}{lo hi:Option Expr}{tl th:TO}{pos p2:Pos}
end
open FP
open Classical in
open Classical in
section
variable {X:Cx}{es rest:List Expr}{kw:List Keyword}{f a b:Expr}{k:Nat}{pos:Pos}{env:Env}{te:TE}{t:TA}
end
end L2

namespace L2
open PySem PySem.Spec PyProof.Rows
noncomputable def rNeT (K:PySem.W.Frag):R2:=fun x y H Q=>∃n a b xs ys,n≤60∧x=.ref a∧y=.ref b∧SqT K H a xs∧SqT K H b ys∧xs.length=ys.length∧(∀(j:Nat) x y,xs[j]? = some x→ys[j]? = some y→DEq K H n x y)∧Q (.bl false) H
theorem qNe {X:Cx}{K:PySem.W.Frag}(hu:X.A.units+64<cLine)(hK:X.K=K:=by rfl):OpR X (compareOp .NotEq) (rNeT K):=by
 subst hK
 intro pins s σ H x y v u Q I rx ry h
 obtain⟨n,a,b,xs,ys,hn,rfl,rfl,ha,hb,hl,hd,q⟩:=h
 cases rx;cases ry
 obtain⟨its,r1,p1,_⟩:=I.tuple ha
 obtain⟨its2,r2,p2,_⟩:=I.tuple hb
 have sz:its.toArray.size=its2.toArray.size:=by rw[List.size_toArray,List.size_toArray,← r1.length,← r2.length,hl]
 refine SeqAt.RcNeAt.tuples (e:=fun _=>true) p1 p2 (by omega) (qQh I r1 r2 hl hd (by show X.A.units+1+n<cLine;omega)) _ _ _ _ ?_
 rw[vM,sz,Bool.true_and,beq_self_eq_true]
 exact⟨.bl false,H,I,rfl,q⟩
end L2

namespace L2
open PySem PySem.Spec PyProof.Rows
section
variable {M:Model}{A:Around}{E:Value→Shared→Prop}{s:Shared}
end
end L2

namespace L2
open PySem PySem.Spec PyProof.Rows
section
variable {P:Program}{w:World}{K:PySem.W.Frag}{mg:Str→Option Value}{base:Heap}{N:List Str}{qual:Str}{scope:Scope}{f:Addr}{cd:Value}{A:Around}{outer:List Env}{s₀:Shared}{H₀:Hp}{E:XK}
end
section
variable {X:Cx}{x:Str}{C:Addr}{B newId initId:String}{bm:List Value}{np cpos pos:Pos}{e₀:Expr}{rest:List Expr}{t:TA}{E:XK}
end
section
variable {X:Cx}{pos:Pos}{e:Expr}{te:TE}
noncomputable def tFmt (te:TE):TE:=fun σ H Q=>te σ H fun v H1=>∃y,v=.str y∧y.length≤sizeLine∧Q (.str y) H1
theorem qWh (he:PE X e te):PE X (.FormattedValue e (-1) none pos) (tFmt te):=by
 intro pins s σ H Q I h
 refine wpAny_FormattedValue_plain (thn (he pins s σ H _ I h) fun u s1 ⟨v,H1,I1,r,y,ev,hy,q⟩=>?_)
 subst ev
 obtain⟨t,rfl⟩:=r
 exact wpAny_formatField_str ⟨.str y,H1,I1,⟨t,rfl⟩,q⟩ ⟨.str y,H1,I1.tok _,⟨_,rfl⟩,q⟩ hy
noncomputable def tJoin:List TE→Str→TE
 | [],acc=>fun _ H Q=>acc.length≤sizeLine∧Q (.str acc) H
 | t::ts,acc=>fun σ H Q=>t σ H fun v H1=>∃y,v=.str y∧(acc++y).length≤sizeLine∧tJoin ts (acc++y) σ H1 Q
theorem qHi {es:List Expr}{ts:List TE}(h:Paired (PE X) es ts):∀{acc:Str} {pins:List (Addr×Obj)} {s:Shared} {σ:St} {H:Hp} {Q:VK},Inv X pins σ H s→tJoin ts acc σ H Q→
  Joins (model X.prog X.w) X.A X.xe (evalEach es X.env) acc (fun out s1=>out.length≤sizeLine∧EP X pins σ Q (.str out s1.toks) { s1 with toks:=s1.toks+1 }) s:=by
 induction h with
 | nil=>exact fun{acc _ _ _ _ _} I q=>⟨q.1,.str acc,_,I.tok _,⟨_,rfl⟩,q.2⟩
 | cons h1 _ ih=>
  intro acc pins s σ H Q I q
  refine thn (h1 pins s σ H _ I q) fun u s1 ⟨v,H1,I1,r,y,ev,hy,q1⟩=>?_
  subst ev
  obtain⟨t,rfl⟩:=r
  exact⟨y,t,rfl,hy,ih I1 q1⟩
theorem vW {v1 v2:Expr}{vs:List Expr}{ts:List TE}(h:Paired (PE X) (v1::v2::vs) ts):PE X (.JoinedStr (v1::v2::vs) pos) (tJoin ts Str.empty):=by
 intro pins s σ H Q I q
 exact wpAny_JoinedStr (qHi h I q)
end
section
variable {P:Program}{w:World}{K:PySem.W.Frag}{mg:Str→Option Value}{base:Heap}{qual x:Str}{st:Stmt}{f:Addr}{fd:FuncData}{N ps:List Str}{k:Nat}{sp:Sp}
end
end L2

namespace L2
open PySem PySem.Spec PyProof.Rows
section
variable {X:Cx}{pins:List (Addr×Obj)}{σ:St}{H H':Hp}{s:Shared}{h':Heap}
end
section
variable {M:Model}{A:Around}{E:Value→Shared→Prop}{s:Shared}{env:Env}
end
section
variable {X:Cx}{k:Nat}{f:Addr}{fd:FuncData}{ps:List Str}{sp:Sp}{dvs:List V}{ds:List Value}{x:Str}{p pos pos':Pos}{e:Expr}{es:List Expr}{t:TA}
end
end L2

namespace L2
open PySem PySem.Spec PyProof.Rows
section
variable {M:Model}{A:Around}{E:Value→Shared→Prop}
end
section
variable {X:Cx}{pins:List (Addr×Obj)}{σ:St}{H:Hp}{s:Shared}{h':Heap}{n:Str}{i:Nat}
end
section
variable {X:Cx}{pins:List (Addr×Obj)}{σ:St}{H:Hp}{s:Shared}{e:Value}
end
end L2

namespace L2
open PySem PySem.Spec PySem.W
section
variable {prog:Program}{w:World}{A:Around}{E:Value→Shared→Prop}{h:Heap}{g:Array GenState}{d:Drawn}{t:Nat}{os:OsState}{a C:Addr}{o:Obj}{bm:List Value}
end
end L2
namespace L2
open PySem PySem.Spec PySem.W
section
variable {X:Cx}
end
end L2

namespace L2
open PySem PySem.Spec PySem.W PyProof.Rows
end L2

namespace L2
open PySem PySem.Spec PySem.W PyProof.Rows
section
variable {P:Program}{w:World}{K:Frag}{mg:Str→Option Value}{base:Heap}{x:Str}{st:Stmt}{j k:Nat}{N ps:List Str}{sp sp':Sp}
end
section
variable {P:Program}{w:World}{K:Frag}{mg:Str→Option Value}{base:Heap}{N:List Str}{qual:Str}{scope:Scope}{f:Addr}{cd:Value}{A:Around}{outer:List Env}{s₀:Shared}{H₀:Hp}{E:XK}{j k:Nat}{ps:List Str}{sp:Sp}{x:Str}{p pos:Pos}{e:Expr}{es:List Expr}{t:TA}
end
section
variable {X:Cx}{pos:Pos}{e:Expr}{te:TE}
noncomputable def tFmtN (te:TE):TE:=fun σ H Q=>te σ H fun v H1=>∃n:Int,v=.int n∧n.natAbs.log2<1920∧Q (.str (Str.ofString (toString n))) H1
end
section
variable {X:Cx}{P:Program}{w:World}{K:Frag}{mg:Str→Option Value}{base:Heap}{j k:Nat}{ps:List Str}{sp:Sp}{x:Str}{p pos:Pos}{e:Expr}{es:List Expr}{t:TA}
end
section
variable {X:Cx}{K:Frag}
end
end L2

namespace L2
open PySem PySem.Spec PyProof.Rows
theorem qBo {ws:List Str}:∀{its:List Value},Vals (ws.map V.str) its→∃l:List (Str×Tok),its=strValues l∧l.map (·.1)=ws:=by
 induction ws with
 | nil=>intro its h;cases h;exact⟨[],rfl,rfl⟩
 | cons x ws ih=>
  intro its h
  cases h with
  | cons r t=>
   obtain⟨tk,rfl⟩:=r
   obtain⟨l,rfl,e⟩:=ih t
   exact⟨(x,tk)::l,rfl,by rw[List.map_cons,e]⟩
section
variable {X:Cx}
noncomputable def rJoin:V→List V→Hp→VK→Prop:=fun x vs H Q=>∃(sep:Str) (l:Addr) (ws:List Str),x=.str sep∧vs=[.ref l]∧H l=some (.lst (ws.map V.str))∧(ws.map (·.length)).sum+ws.length * sep.length≤1000000∧Q (.str (Txt.join sep ws)) H
theorem qQc:MtM X "str.join" rJoin:=by
 intro pins s σ H x vs v us Q I rx rv h
 obtain⟨sep,l,ws,rfl,rfl,hl,hz,q⟩:=h
 obtain⟨t,rfl⟩:=rx
 obtain⟨u,rfl,ru⟩:=rv.one
 cases ru
 obtain⟨z,its,n,r,hlen,e⟩:=I.lstM hl
 obtain⟨ps,rfl,rfl⟩:=qBo r
 have sz:sizeLine=16777216:=sizeLine_eq
 have ok:Builtin.Str.tooLong ((ps.map (·.1)).toArray.foldl (fun a p=>a+p.length+sep.length) 0)=false:=by
  unfold Builtin.Str.tooLong
  rw[StrLaws.joinTotal]
  exact decide_eq_false (by omega)
 exact call_meets F.slot_str_join (typeIs_str _ _ _) F.entry_str_join (F.args_str_join_2 _ _) (meets_str_join_list sep t l ps ok) ⟨⟨_,e,rfl,_,rfl⟩,post_join ps ⟨joinFit_length ok,fun t' k=>⟨.str _,H,I.tok _,⟨_,rfl⟩,q⟩⟩⟩
noncomputable def txV:V→Str
 | .int i=>Str.ofString (toString i)
 | .str z=>z
 | _=>Str.empty
noncomputable def rStrA:List V→Hp→VK→Prop:=fun xs H Q=>∃x,xs=[x]∧((∃i,x=.int i∧i.natAbs.log2<1920)∨∃z,x=.str z)∧Q (.str (txV x)) H
theorem kI:CallR X (.type "str") rStrA:=by
 intro pins s σ H xs us Q I r h
 obtain⟨x,rfl,(⟨i,rfl,hi⟩ | ⟨z,rfl⟩),q⟩:=h
 ·exact qYn pins s σ H _ us Q I r ⟨i,rfl,hi,q⟩
 ·obtain⟨u,rfl,t,rfl⟩:=vals1 r
  exact P.str_of_str ⟨.str z,H,I,⟨_,rfl⟩,q⟩
theorem qKx:bootBuiltins "str" = some (.type "str"):=by decide +kernel
end
end L2

namespace L2
open PySem PySem.Spec PyProof.Rows
section
variable {X:Cx}{tg:Expr}
end
section
variable {k:Nat}{js:List Nat}{g:TG}{tt:TT}{te:TE}{σ:St}{H1:Hp}{Q:VK}
end
end L2
namespace HT
open PySem PySem.Spec PyProof.Rows
section
variable {prog:Program}{w:World}{A:Around}{E:Value→Shared→Prop}{s:Shared}
end
end HT
namespace L2
open PySem PySem.Spec PyProof.Rows
end L2

namespace L2
open PySem PySem.Spec PyProof.Rows
theorem jM {a b:Str}(h:a.cps.toList=b.cps.toList):a=b:=by
 cases a;cases b
 exact congrArg Str.mk (Array.toList_inj.mp h)
theorem zV (a b:Str):(a++b).cps.toList=a.cps.toList++b.cps.toList:=by
 show(a.cps++b.cps).toList=_
 rw[Array.toList_append]
theorem qEz (a:Str):a.length=a.cps.toList.length:=by show a.cps.size=_;rw[Array.length_toList]
theorem jB (c:Nat)(a b:Str)(l:List Str):(Str.join ⟨#[c]⟩ (a::b::l)).cps.toList=a.cps.toList++c::(Str.join ⟨#[c]⟩ (b::l)).cps.toList:=by
 show(a++⟨#[c]⟩++Str.join ⟨#[c]⟩ (b::l)).cps.toList=_
 rw[zV,zV,List.append_assoc]
 rfl
theorem tjoin (sep:Str)(ws:List Str):Txt.join sep ws=Str.join sep ws:=StrLaws.glued_eq_join sep ws
theorem qEa (sep w:Str):∀{l:List Str},l≠[]→Txt.join sep (l++[w])=Txt.join sep l++sep++w:=by
 intro l
 rw[tjoin,tjoin]
 induction l with
 | nil=>intro h;exact absurd rfl h
 | cons a l ih=>
  intro _
  cases l with
  | nil=>rfl
  | cons b l=>
   show a++sep++Str.join sep ((b::l)++[w])=a++sep++Str.join sep (b::l)++sep++w
   rw[ih (List.cons_ne_nil _ _)]
   apply jM
   simp only[zV,List.append_assoc]
theorem qJx (sep:Str)(ws:List Str):(Txt.join sep ws).length≤(ws.map (·.length)).sum+ws.length * sep.length:=by rw[tjoin];exact StrLaws.join_length_le sep ws
theorem qIe {ws:List Str}{m:Nat}(h:∀w∈ws,w.length≤m):(ws.map (·.length)).sum≤ws.length * m:=by
 induction ws with
 | nil=>exact Nat.zero_le _
 | cons a l ih=>
  have h1:=h a List.mem_cons_self
  have h2:=ih fun w hw=>h w (List.mem_cons_of_mem _ hw)
  rw[List.map_cons,List.sum_cons,List.length_cons,Nat.succ_mul]
  omega
noncomputable def dec (n:Nat):Str:=⟨((Nat.toDigits 10 n).map Char.toNat).toArray⟩
theorem wI (n:Nat):Str.ofString (toString (n:Int))=dec n:=text_ofNat n
noncomputable def numS (i:Int):Str:=if i<0 then ⟨#[45]⟩++dec i.natAbs else dec i.natAbs
theorem qYv (a b:String):Str.ofString (a++b)=Str.ofString a++Str.ofString b:=by
 apply jM
 rw[zV,Str.ofString_eq_toList,Str.ofString_eq_toList,Str.ofString_eq_toList]
 simp
theorem qHb (i:Int):Str.ofString (toString i)=numS i:=by
 unfold numS
 split
 ·rename_i h
  rw[toString_neg h,qYv]
  have e:(0 - i)=((i.natAbs:Nat):Int):=by omega
  rw[e,wI]
  rfl
 ·have e:i=((i.natAbs:Nat):Int):=by omega
  conv=>lhs;rw[e]
  rw[wI]
noncomputable def decOk (n:Nat):Bool:=let d:=dec n
 d.cps.toList.all (fun c=>48≤c && c≤57) && (1≤d.length && d.length≤3) && (d.cps.toList == [48] || d.cps.toList.head? != some 48) && decide (PySem.intText? (⟨#[48]⟩++d)=some (n:Int))
theorem qSh:∀n:Fin 200,decOk n.val=true:=by decide +kernel
structure Figs (n:Nat):Prop where
 fig:∀c∈(dec n).cps.toList,48≤c∧c≤57
 lo:1≤(dec n).length
 hi:(dec n).length≤3
 zero:(dec n).cps.toList=[48]∨(dec n).cps.toList.head? ≠ some 48
 reads:PySem.intText? (⟨#[48]⟩++dec n)=some (n:Int)
theorem figs {n:Nat}(h:n<200):Figs n:=by
 have z:=qSh ⟨n,h⟩
 unfold decOk at z
 simp only[Bool.and_eq_true,Bool.or_eq_true,List.all_eq_true,decide_eq_true_eq,beq_iff_eq,bne_iff_ne] at z
 obtain⟨⟨⟨a,b,c⟩,d⟩,e⟩:=z
 exact⟨fun x hx=>a x hx,b,c,d,e⟩
theorem qWq {c:TT}{tb:TS}{D:Ends}{σ:St}{H:Hp}(h:∀R:Bool→Hp→Prop,R false H→c σ H R)(q:D.nx σ H):tWhile c tb D σ H:=
 ⟨fun _ σ' H'=>σ'=σ∧H'=H,⟨0,rfl,rfl⟩,fun m σ' H' e=>by
  obtain⟨rfl,rfl⟩:=e
  exact h _ (iteF q)⟩
theorem Same.set {H H1:Hp}{r:Addr}{o:HO}(S:Same H H1)(n:H r=none):Same H (upd H1 r o):=fun b u e=>by rw[qA (qB e n)];exact S _ _ e
theorem qTx {K:PySem.W.Frag}{H:Hp}{x:Str}{A:Prop}(q:A):tyV K "str" (.str x) H∧A:=⟨rfl,q⟩
theorem qTq {σ:St}{H:Hp}{R:Bool→Hp→Prop}(q:R true H):tYes σ H R:=q
theorem qMc:Str.ofString "-" = ⟨#[45]⟩:=by decide +kernel
theorem qVh:Str.ofString " " = ⟨#[32]⟩:=by decide +kernel
theorem qFl:Str.ofString "" = ⟨#[]⟩:=by decide +kernel
theorem qHd (x:Str):Str.ofString "" ++ x=x:=by
 apply jM
 rw[zV,qFl]
 rfl
end L2

namespace L2
open PySem PySem.Spec PyProof.Rows
end L2

namespace L2
open PySem PySem.Spec PyProof.Rows
section
variable {X:Cx}{K:PySem.W.Frag}
theorem qXw {pins:List (Addr×Obj)}{σ:St}{H:Hp}{s:Shared}{k z:Str}{us:List V}{its its2:List Value}(r1:Vals (.str k::us) its)(r2:Vals [.str z] its2)(A:Around):
  ∀j (h1:j<its.toArray.size) (h2:j<its2.toArray.size),SeqAt.EqAt A s its.toArray[j] its2.toArray[j] (k == z):=by
 intro j h1 h2
 cases r1 with
 | cons a t=>
  cases r2 with
  | cons b t2=>
   cases t2
   obtain⟨ta,rfl⟩:=a
   obtain⟨tb,rfl⟩:=b
   have j0:j=0:=by simpa using h2
   subst j0
   exact SeqAt.EqAt.str_str k ta z tb
theorem qVm {k z:Str}{us:List V}{its its2:List Value}(r1:Vals (.str k::us) its)(r2:Vals [.str z] its2):
  ((List.range (min its.toArray.size its2.toArray.size)).all (fun _=>k == z) && its.toArray.size == its2.toArray.size)=(decide (k=z) && us.isEmpty):=by
 have l1:=r1.length
 have l2:=r2.length
 rw[List.size_toArray,List.size_toArray,← l1,← l2]
 have e:min (V.str k::us).length [V.str z].length=1:=by rw[List.length_cons,List.length_singleton];omega
 rw[e]
 have e2:((List.range 1).all fun _=>k == z)=decide (k=z):=by
  show((k == z) && true)=_
  rw[Bool.and_true]
  by_cases h:k=z
  ·rw[decide_eq_true h,h];exact beq_self_eq_true z
  ·rw[decide_eq_false h];exact beq_false_of_ne h
 rw[e2]
 congr 1
 cases us with
 | nil=>rfl
 | cons a b=>rfl
noncomputable def rEqW (K:PySem.W.Frag):R2:=fun x y H Q=>∃a b k us z,x=.ref a∧y=.ref b∧SqT K H a (.str k::us)∧SqT K H b [.str z]∧Q (.bl (decide (k=z) && us.isEmpty)) H
theorem qDz (hu:X.A.units+64<cLine)(hK:X.K=K:=by rfl):OpR X (compareOp .Eq) (rEqW K):=by
 subst hK
 intro pins s σ H x y v u Q I rx ry h
 obtain⟨a,b,k,us,z,rfl,rfl,ha,hb,q⟩:=h
 cases rx;cases ry
 obtain⟨its,r1,p1,_⟩:=I.tuple ha
 obtain⟨its2,r2,p2,_⟩:=I.tuple hb
 refine SeqAt.RcAt.tuples (e:=fun _=>k == z) (show s.heap.IsTuple a its.toArray from p1) (show s.heap.IsTuple b its2.toArray from p2) (by omega) (qXw (pins:=pins) (σ:=σ) (H:=H) r1 r2 _) _ _ _ _ ?_
 rw[qVm r1 r2]
 exact⟨.bl _,H,I,rfl,q⟩
noncomputable def rNeW (K:PySem.W.Frag):R2:=fun x y H Q=>∃a b k us z,x=.ref a∧y=.ref b∧SqT K H a (.str k::us)∧SqT K H b [.str z]∧Q (.bl (!(decide (k=z) && us.isEmpty))) H
theorem qNd (hu:X.A.units+64<cLine)(hK:X.K=K:=by rfl):OpR X (compareOp .NotEq) (rNeW K):=by
 subst hK
 intro pins s σ H x y v u Q I rx ry h
 obtain⟨a,b,k,us,z,rfl,rfl,ha,hb,q⟩:=h
 cases rx;cases ry
 obtain⟨its,r1,p1,_⟩:=I.tuple ha
 obtain⟨its2,r2,p2,_⟩:=I.tuple hb
 refine SeqAt.RcNeAt.tuples (e:=fun _=>k == z) p1 p2 (by omega) (qXw (pins:=pins) (σ:=σ) (H:=H) r1 r2 _) _ _ _ _ ?_
 rw[qVm r1 r2]
 exact⟨.bl _,H,I,rfl,q⟩
end
section
variable {X:Cx}{pos:Pos}{e:Expr}{te:TE}
theorem qKm (he:PE X e te):PE X (.FormattedValue e (-1) none pos) (tFmtN te):=by
 intro pins s σ H Q I h
 refine wpAny_FormattedValue_plain (thn (he pins s σ H _ I h) fun u s1 ⟨v,H1,I1,r,n,ev,hn,q⟩=>?_)
 subst ev
 obtain⟨t,rfl⟩:=r
 exact wpAny_formatField_int hn ⟨.str _,H1,(I1.tok _).tok _,⟨_,rfl⟩,q⟩
end
structure Fe where
 k:Str
 t:Tok
 a:Addr
 c:Str
 b:Addr
 ws:List Str
noncomputable def Fe.entry (w:World)(e:Fe):DictEntry:=⟨PyData.keyHash w.params e.k,.str e.k e.t,.ref e.a⟩
structure Gf (w:World)(K:PySem.W.Frag)(mg:Str→Option Value)(x:Str)(fs:List (Str×List Str)):Prop where
 ex:∃(p:Addr) (o:Obj) (es:List Fe) (ep:Nat),mg x=some (.ref p)∧K.lookup p=some o∧o.ExactDict∧o.data=.dict (es.map (Fe.entry w)).toArray ep∧
  es.map (fun e=>(e.k,e.ws))=fs∧(fs.map (·.1)).Nodup∧∀e∈es,(∀H,SqT K H e.a [.str e.c,.ref e.b])∧∀H,SqT K H e.b (e.ws.map V.str)
noncomputable def tForm (K:PySem.W.Frag)(fs:List (Str×List Str))(ty:TE):TE:=fun σ H Q=>ty σ H fun y H1=>∃k ws,y=.str k∧(k,ws)∈fs∧∀(a b:Addr) (c:Str),SqT K H1 a [.str c,.ref b]→(∀H,SqT K H b (ws.map V.str))→Q (.ref a) H1
section
variable {X:Cx}{P:Program}{w:World}{K:PySem.W.Frag}{mg:Str→Option Value}{x:Str}{fs:List (Str×List Str)}{i:Expr}{pos pos':Pos}{ty:TE}
theorem qAx (P:Program)(w:World):∀es:List Fe,PySem.Pairs (zY P w) (es.map (Fe.entry w)) (es.map fun e=>(Sum.inr e.k,Value.ref e.a))
 | []=>.nil
 | e::es=>.cons (jA P w e.k e.t) rfl (qAx P w es)
theorem qTo {es:List Fe}(nd:(es.map (·.k)).Nodup){e:Fe}(he:e∈es):PySem.valueAt (es.map fun e=>((Sum.inr e.k:Key),Value.ref e.a)) (.inr e.k)=some (.ref e.a):=by
 induction es with
 | nil=>cases he
 | cons f es ih=>
  rw[List.map_cons] at nd
  have nd':=List.nodup_cons.mp nd
  unfold PySem.valueAt
  rw[List.map_cons,List.find?_cons]
  rcases List.mem_cons.mp he with rfl | he
  ·rw[decide_eq_true rfl];rfl
  ·have ne:¬((Sum.inr f.k:Key)=Sum.inr e.k):=fun z=>nd'.1 (by
    have:f.k=e.k:=Sum.inr.inj z
    rw[this];exact List.mem_map.mpr ⟨e,he,rfl⟩)
   rw[decide_eq_false ne]
   exact ih nd'.2 he
theorem qNw (g:Gf w K mg x fs)(hi:PE X i ty)(hs:NoSl i)(hw:X.w=w:=by rfl)(hK:X.K=K:=by rfl)(hg:Gl X x:=by rfl)(hm:X.mg=mg:=by rfl)(hd:(x == ("__debug__" : Str))=false:=by decide):
  PE X (.Subscript (.Name x pos') i pos) (tForm K fs ty):=by
 subst hw;subst hK;subst hm
 obtain⟨p,o,es,ep,e,lk,ed,od,efs,nd,tb⟩:=g.ex
 intro pins s σ H Q I h
 have dict:∀{s':Shared} {H':Hp},Inv X pins σ H' s'→s'.heap.DictOf (zY X.prog X.w) p (es.map fun e=>(Sum.inr e.k,Value.ref e.a)):=fun{s' H'} I'=>by
  refine⟨o,_,ep,I'.kIn p o lk,ed,od,fun en hen=>?_,?_,?_⟩
  ·obtain⟨f,hf,rfl⟩:=List.mem_map.mp (List.mem_toArray.mp hen)
   exact⟨.inr f.k,jA _ _ _ _,rfl⟩
  ·exact qAx X.prog X.w es
  ·rw[List.map_map]
   rw[← efs,List.map_map] at nd
   have e2:(Prod.fst∘fun e:Fe=>((Sum.inr e.k:Key),Value.ref e.a))=(Sum.inr∘fun e:Fe=>e.k):=rfl
   rw[e2,← List.map_map]
   exact List.pairwise_map.mpr (List.Pairwise.imp (fun h z=>h (Sum.inr.inj z)) nd)
 refine qCk PySem.F.slot_dict_getitem.lookup hs (thn (qKl (v:=.ref p) hg e rfl hd pins s σ H (fun v H1=>v=.ref p∧ty σ H1 _) I ⟨rfl,h⟩) fun u s1 ⟨v,H1,I1,rx,ev,q1⟩=>?_)
 subst ev
 obtain rfl:u=Value.ref p:=rx
 refine thn (hi pins s1 σ H1 _ I1 q1) fun iv s2 ⟨y,H2,I2,ry,k,ws,ey,hmem,q2⟩=>?_
 subst ey
 have dd:=dict I2
 rw[← efs] at hmem
 obtain⟨f,hf,ef⟩:=List.mem_map.mp hmem
 obtain⟨rfl,rfl⟩:=Prod.mk.inj ef
 have nd2:(es.map (·.k)).Nodup:=by rw[← efs,List.map_map] at nd;exact nd
 refine⟨dd.typeIs,wpAny_getItem_of (qHh (k:=.inr f.k) ry) dd.mapOf (qTo nd2 hf) ⟨.ref f.a,H2,I2.tok _,rfl,q2 _ _ _ ((tb f hf).1 H2) (tb f hf).2⟩⟩
end
end L2

local macro_rules | `(tactic| wtm_at "zh")=>`(tactic| first | assumption | exact L2.qW | (refine L2.qV (by assumption) _ _ _ ?_;wtm_at "zh") | (refine(show L2.Same _ _ by assumption) _ _ ?_;wtm_at "zh"))
local macro_rules | `(tactic| wtm_at "zs")=>`(tactic| first | assumption | exact L2.SqT.of (by wtm_at "zh") | exact L2.SqL.of (by wtm_at "zh") | (refine L2.Same.seq (by assumption) ?_;wtm_at "zs"))
local macro_rules | `(tactic| wtm_at "zo")=>`(tactic| first | exact Or.inl rfl | exact Or.inr rfl)
local macro_rules | `(tactic| wtm_at "zat")=>`(tactic| first | rfl | assumption | exact L2.qJw _ _ | exact FP.qAc (by assumption) | exact L2.yZ (by assumption))
local macro_rules | `(tactic| wtm_at "zw")=>`(tactic| repeat first
 | (with_reducible first | apply L2.qTj | apply L2.qTg | apply L2.w_c | apply L2.qPc | apply L2.w_op | apply L2.w_I0 | apply L2.qPk | apply L2.w_B | apply L2.w_bl | apply L2.qTe | apply L2.w_not | apply L2.w_or | apply L2.qPn | apply L2.qPa | apply L2.w_if | apply L2.qTc | apply L2.qPh | apply L2.qTk | apply L2.qPb | apply L2.qPl | apply L2.qTv | apply L2.qPm | apply L2.w_cb | apply L2.qTz | apply L2.qTw | apply L2.qTf | apply L2.w_bm | apply L2.w_sl | apply L2.qGk | apply L2.qPw | apply L2.qPf | apply L2.qMf | apply L2.qMe | apply L2.qPd | apply L2.qPv | apply L2.qTx | apply L2.qTq | apply L2.qPi)
 | ((with_reducible show L2.tVar _ _ _ _);refine L2.w_var rfl ?_)
 | ((with_reducible show L2.rEq _ _ _ _);refine L2.w_eq rfl ?_)
 | ((with_reducible show L2.rNe _ _ _ _);refine L2.w_ne rfl ?_)
 | ((with_reducible show L2.rIxT _ _ _ _ _);refine L2.qTa (by wtm_at "zs") (by wtm_at "zat") ?_)
 | ((with_reducible show L2.rIxL _ _ _ _ _);refine L2.qTb (by wtm_at "zs") (by wtm_at "zat") ?_)
 | ((with_reducible show L2.gTup _ _ _ _ _ _ _);refine L2.qPe (by wtm_at "zs") rfl ?_)
 | ((with_reducible show L2.rLen _ _ _ _);refine L2.w_len (by first | exact .inl (by wtm_at "zs") | exact .inr (by wtm_at "zs")) ?_)
 | apply L2.qJe (FP.zN _)
 | refine L2.jP (FP.xV (by assumption)) ?_
 | refine L2.jP (FP.xV (by decide +kernel)) ?_
 | (with_reducible first | apply L2.iteT | apply L2.iteF | apply L2.iteNT))
local macro_rules | `(tactic| wtm_at "zf")=>`(tactic| wtm_at "zw";(with_reducible first | apply L2.qTd | apply L2.qBn);wtm_at "zw")
set_option tactic.hygienic false
namespace FP
open PySem L2
structure Bl (mg:Str→Option Value):Prop where
 len':mg "len" = none
 range':mg "range" = none
 min':mg "min" = none
 isinstance':mg "isinstance" = none
 list':mg "list" = none
 reversed':mg "reversed" = none
 tuple':mg "tuple" = none
 int':mg "int" = none
 bool':mg "bool" = none
 dict':mg "dict" = none
 zip':mg "zip" = none
structure FunE (K:PySem.W.Frag)(mg:Str→Option Value)(x:Str)(f:Addr)(fd:FuncData)(ps:List Str):Prop where
 mg:mg x=some (.ref f)
 kp:PySem.W.keepIn K (.ref f)=true
 bd:Binds K fd ps []
section
seal L2.PE L2.PA L2.PS L2.PSs
variable {P:Program}{w:World}{K:PySem.W.Frag}{mg:Str→Option Value}{base:Heap}

theorem qSq {n:Int}{B:Nat}(h0:0≤n)(h:n<(B:Int)):n.natAbs<B:=by omega
theorem big (n:Int)(h0:0≤n)(h:n<10 ^ 200):n.natAbs<2 ^ 1000:=qSq h0 (Int.lt_of_lt_of_le h (by decide +kernel))
theorem qXf {a b c d:Int}(ha:0≤a)(hb:0≤b)(h1:a≤c)(h2:b≤d):0≤a * b∧a * b≤c * d:=
 ⟨Int.mul_nonneg ha hb,Int.mul_le_mul h1 h2 hb (Int.le_trans ha h1)⟩

theorem qCo {t u:TT}{σ:St}{H:Hp}{b1 b2:Bool}(h1:∀K:Bool→Hp→Prop,K b1 H→t σ H K)(h2:∀K:Bool→Hp→Prop,K b2 H→u σ H K):∀K:Bool→Hp→Prop,K (b1 || b2) H→tOr t u σ H K:=fun K h=>by
 refine h1 _ ?_
 cases b1 with
 | true=>rw[if_pos rfl];rw[Bool.true_or] at h;exact h
 | false=>rw[if_neg Bool.false_ne_true];rw[Bool.false_or] at h;exact h2 _ h

theorem wU:xI ["deck","many","taken"] ["deck","many"] (xA (top 40)):=⟨rfl,rfl,rfl,by decide +kernel,rfl,by decide +kernel,by decide +kernel⟩
noncomputable def spTake:Sp:=fun vs H Q _=>∃(dk:Addr) (m de:Int),vs=[.ref dk,.int m]∧H dk=some (.lst [.int de])∧0<m∧m.natAbs<2 ^ 1000∧∀x d':Int,0≤x→x<m→Q (.int x) (upd H dk (.lst [.int d']))
theorem qNn {f:Addr}{fd:FuncData}(F:Fun K "_law_take" "_law_take" (top 40) f fd):FnOk P w K mg base CX0 1 f fd ["deck","many"] spTake:=by
 refine F.ok wU (fun vs H Q E h=>?_) (fun cdv A outer s H vs Q E hr h=>?_)
 ·obtain⟨dk,m,de,rfl,_⟩:=h
  rfl
 obtain⟨dk,m,de,rfl,hd,h0,h1,q⟩:=h
 refine⟨_,(qZ (qM (i:=2) wU.nd rfl (by wtm_at "zo") (xQ yW (xH (qT (K:=K)) (pv 0) qE (fun _ _=>rfl)) (pv 1)))
  (qZ (qO (xQ yR (xH (qT (K:=K)) (pv 0) qE (fun _ _=>rfl)) (pv 1)) (qRw (pv 0) qE qGg))
  (qJ (qN (pv 2))))),?_⟩
 refine⟨_,rfl,dk,_,0,.int de,rfl,rfl,SqL.of hd,rfl,_,rfl,de,m,rfl,rfl,h0,?_⟩
 refine⟨_,rfl,dk,_,0,.int de,rfl,rfl,SqL.of hd,rfl,_,rfl,de,m,rfl,rfl,⟨h0,h1⟩,?_⟩
 refine⟨_,rfl,dk,[.int de],0,0,rfl,rfl,hd,rfl,?_⟩
 exact⟨_,rfl,q _ _ (Int.emod_nonneg _ (by omega)) (Int.emod_lt_of_pos _ h0)⟩

theorem qXz:xI ["script","k"] ["script","k"] (xA (top 36)):=⟨rfl,rfl,rfl,by decide +kernel,rfl,by decide +kernel,by decide +kernel⟩
noncomputable def spCell (K:PySem.W.Frag):Sp:=fun vs H Q _=>∃(a:Addr) (ns:List Int) (k:Int),vs=[.ref a,.int k]∧SqL K H a (ns.map V.int)∧0≤k∧∀c:Int,Q (.int c) H
theorem qOx {f:Addr}{fd:FuncData}(F:Fun K "_law_cell_at" "_law_cell_at" (top 36) f fd)(B:Bl mg):FnOk P w K mg base CX0 1 f fd ["script","k"] (spCell K):=by
 refine F.ok qXz (fun vs H Q E h=>?_) (fun cdv A outer s H vs Q E hr h=>?_)
 ·obtain⟨a,ns,k,rfl,_⟩:=h
  rfl
 obtain⟨a,ns,k,rfl,hS,h0,q⟩:=h
 refine⟨_,(qZ (zB (qR qZn (pv 1) (xZ (jI (K:=K)) rfl B.len' kS (qQ (pv 0) qX)) (xD _)) (qJ (qN (xH (qT (K:=K)) (pv 0) (pv 1) (fun _ _=>rfl)))) qY)
  (qJ (qN qE))),?_⟩
 refine⟨_,rfl,_,rfl,a,_,rfl,.inl hS,_,_,rfl,rfl,_,rfl,?_⟩
 refine ite2 (fun c=>?_) (fun c=>?_)
 ·have c':k<(((ns.map V.int).length:Nat):Int):=of_decide_eq_true c
  rw[List.length_map] at c'
  have hk:k.toNat<ns.length:=by omega
  have e:k=((k.toNat:Nat):Int):=by omega
  have z:atI (ns.map V.int) ((k.toNat:Nat):Int)=some (.int ns[k.toNat]):=yZ (by rw[List.getElem?_map,List.getElem?_eq_getElem hk] <;> rfl)
  rw[← e] at z
  exact⟨_,rfl,_,rfl,a,_,k,_,rfl,rfl,hS,z,q _⟩
 ·exact q 0

theorem vX:xI ["cell","k","number"] ["cell","k"] (xA (top 37)):=⟨rfl,rfl,rfl,by decide +kernel,rfl,by decide +kernel,by decide +kernel⟩
noncomputable def spStir:Sp:=fun vs H Q _=>∃c k:Int,vs=[.int c,.int k]∧0≤k∧k≤1000∧∀x:Int,0≤x→x<10 ^ 61→Q (.int x) H
theorem stir1 {c k:Int}(h0:0≤k)(h1:k≤1000):0≤c % 10 ^ 40 * 48271+3 ^ 60 * (k+1) * (k+1)+k∧c % 10 ^ 40 * 48271+3 ^ 60 * (k+1) * (k+1)+k<10 ^ 46:=by
 have a1:0≤c % 10 ^ 40:=Int.emod_nonneg _ (by decide +kernel)
 have a2:c % 10 ^ 40<10 ^ 40:=Int.emod_lt_of_pos _ (by decide +kernel)
 have b1:=qXf (a:=3 ^ 60) (b:=k+1) (c:=3 ^ 60) (d:=1001) (by decide +kernel) (by omega) (Int.le_refl _) (by omega)
 have b2:=qXf (a:=3 ^ 60 * (k+1)) (b:=k+1) (c:=3 ^ 60 * 1001) (d:=1001) b1.1 (by omega) b1.2 (by omega)
 have e1:(3:Int) ^ 60 * 1001 * 1001≤10 ^ 40:=by decide +kernel
 have e2:(10:Int) ^ 40 * 48271+10 ^ 40+1000<10 ^ 46:=by decide +kernel
 generalize c % 10 ^ 40=a at *
 generalize 3 ^ 60 * (k+1) * (k+1)=b at *
 have m:a * 48271≤10 ^ 40 * 48271:=Int.mul_le_mul_of_nonneg_right (Int.le_of_lt a2) (by decide)
 have n0:0≤a * 48271:=Int.mul_nonneg a1 (by decide)
 generalize a * 48271=z at *
 generalize (10:Int) ^ 40 * 48271=y at *
 generalize (3:Int) ^ 60 * 1001 * 1001=x at *
 generalize (10:Int) ^ 40=u at *
 generalize (10:Int) ^ 46=v at *
 omega
theorem stir2 {n:Int}(h0:0≤n)(h1:n<10 ^ 46):0≤n * n+69621 * n∧n * n+69621 * n<10 ^ 93:=by
 have b:=qXf h0 h0 (Int.le_of_lt h1) (Int.le_of_lt h1)
 have b2:=qXf (a:=69621) (b:=n) (c:=69621) (d:=10 ^ 46) (by decide) h0 (Int.le_refl _) (Int.le_of_lt h1)
 have e:(10:Int) ^ 46 * 10 ^ 46+69621 * 10 ^ 46<10 ^ 93:=by decide +kernel
 generalize n * n=x at *
 generalize 69621 * n=y at *
 generalize (10:Int) ^ 46 * 10 ^ 46=u at *
 generalize 69621 * (10:Int) ^ 46=v at *
 generalize (10:Int) ^ 93=z at *
 omega
theorem lt200 {n:Int}{k:Nat}(h:n<10 ^ k)(hk:(10:Int) ^ k≤10 ^ 200:=by decide +kernel):n<10 ^ 200:=Int.lt_of_lt_of_le h hk
theorem qNo {f:Addr}{fd:FuncData}(F:Fun K "_law_stir" "_law_stir" (top 37) f fd):FnOk P w K mg base CX0 1 f fd ["cell","k"] spStir:=by
 refine F.ok vX (fun vs H Q E h=>?_) (fun cdv A outer s H vs Q E hr h=>?_)
 ·obtain⟨c,k,rfl,_⟩:=h
  rfl
 obtain⟨c,k,rfl,h0,h1,q⟩:=h
 have a1:0≤c % 10 ^ 40:=Int.emod_nonneg _ (by decide +kernel)
 have a2:c % 10 ^ 40<10 ^ 40:=Int.emod_lt_of_pos _ (by decide +kernel)
 have b1:=qXf (a:=3 ^ 60) (b:=k+1) (c:=3 ^ 60) (d:=1001) (by decide +kernel) (by omega) (Int.le_refl _) (by omega)
 have s1:=stir1 (c:=c) h0 h1
 have s2:=stir2 s1.1 s1.2
 have pw:∀i j:Int,0≤j→j≤1000→i.natAbs<2 ^ 64→CPow i j:=fun i j x y z=>⟨x,by omega,z⟩
 refine⟨_,(qZ (qM (i:=2) vX.nd rfl (by wtm_at "zo") (xQ zO (xQ zO (xQ jN (xQ yW (pv 0) (xQ yF qE qE)) qE) (xQ jN (xQ jN (xQ yF qE qE) (xQ zO (pv 1) qE)) (xQ zO (pv 1) qE))) (pv 1)))
  (qZ (qM (i:=2) vX.nd rfl (by wtm_at "zo") (xQ zO (xQ jN (pv 2) (pv 2)) (xQ jN qE (pv 2))))
  (qJ (qN (xQ yR (xQ yW (xQ jN (pv 2) (pv 2)) (xQ zO (xQ yF qE qE) qE)) qE))))),?_⟩
 refine⟨_,rfl,10,40,rfl,rfl,pw 10 40 (by decide) (by decide) (by decide),c,_,rfl,rfl,(by decide +kernel:(0:Int)<10 ^ 40),_,_,rfl,rfl,
  ⟨big _ a1 (lt200 a2),by decide +kernel⟩,3,60,rfl,rfl,pw 3 60 (by decide) (by decide) (by decide),_,rfl,_,_,rfl,rfl,_,_,rfl,rfl,
  ⟨by decide +kernel,big _ (by omega) (Int.lt_of_le_of_lt (b:=1001) (by omega) (by decide +kernel))⟩,_,rfl,_,_,rfl,rfl,_,_,rfl,rfl,
  ⟨big _ b1.1 (Int.lt_of_le_of_lt b1.2 (by decide +kernel)),big _ (by omega) (Int.lt_of_le_of_lt (b:=1001) (by omega) (by decide +kernel))⟩,_,_,rfl,rfl,_,rfl,_,_,rfl,rfl,?_⟩
 obtain⟨n,hn⟩:∃n,n=c % 10 ^ 40 * 48271+3 ^ 60 * (k+1) * (k+1)+k:=⟨_,rfl⟩
 rw[← hn] at s1 s2
 refine⟨_,rfl,_,rfl,n,n,(by subst hn;rfl),(by subst hn;rfl),⟨big _ s1.1 (lt200 s1.2),big _ s1.1 (lt200 s1.2)⟩,_,rfl,69621,n,rfl,(by subst hn;rfl),⟨by decide +kernel,big _ s1.1 (lt200 s1.2)⟩,_,_,rfl,rfl,?_⟩
 obtain⟨m,hm⟩:∃m,m=n * n+69621 * n:=⟨_,rfl⟩
 rw[← hm] at s2
 refine⟨_,rfl,_,rfl,m,m,(by subst hm;rfl),(by subst hm;rfl),⟨big _ s2.1 (lt200 s2.2),big _ s2.1 (lt200 s2.2)⟩,10,61,rfl,rfl,pw 10 61 (by decide) (by decide) (by decide),_,7,rfl,rfl,m * m,10 ^ 61+7,rfl,rfl,(show(0:Int)<10 ^ 61+7 by decide +kernel),_,8,rfl,rfl,⟨by decide,by decide +kernel⟩,?_⟩
 have r1:0≤m * m % (10 ^ 61+7):=Int.emod_nonneg _ (by decide +kernel)
 have r2:m * m % (10 ^ 61+7)<10 ^ 61+7:=Int.emod_lt_of_pos _ (by decide +kernel)
 have e:(10:Int) ^ 61≥100:=by decide +kernel
 refine q _ ?_ ?_
 ·generalize m * m % (10 ^ 61+7)=z at r1
  omega
 ·generalize m * m % (10 ^ 61+7)=z at r1 r2 ⊢
  generalize (10:Int) ^ 61=y at *
  omega

theorem qKf:xI ["cell"] ["cell"] (xA (top 39)):=⟨rfl,rfl,rfl,by decide +kernel,rfl,by decide +kernel,by decide +kernel⟩
noncomputable def spDeck:Sp:=fun vs H Q _=>∃c:Int,vs=[.int c]∧∀(r:Addr) (d:Int),H r=none→Q (.ref r) (upd H r (.lst [.int d]))
theorem qOq {f g:Addr}{fd gd:FuncData}(F:Fun K "_law_deck" "_law_deck" (top 39) f fd)(G_law_stir:FnOk P w K mg base CX0 1 g gd ["cell","k"] spStir)(E_law_stir:FunE K mg "_law_stir" g gd ["cell","k"]):
  FnOk P w K mg base CX0 2 f fd ["cell"] spDeck:=by
 refine F.ok qKf (fun vs H Q E h=>?_) (fun cdv A outer s H vs Q E hr h=>?_)
 ·obtain⟨c,rfl,_⟩:=h
  rfl
 obtain⟨c,rfl,q⟩:=h
 have pw:∀i j:Int,0≤j→j≤1000→i.natAbs<2 ^ 64→CPow i j:=fun i j x y z=>⟨x,by omega,z⟩
 have t60:((10:Int) ^ (60:Int).toNat).natAbs<2 ^ 1000:=by decide +kernel
 refine⟨_,(qZ (zB (qR qNg (pv 0) (xQ yF qE qE) (xD _)) (qJ (qN (zX (qQ (xQ kB (pv 0) (xQ yF qE qE)) qX)))) qY)
  (qJ (qN (zX (qQ (xQ zO (xQ jN (xQ zO (xQ jN (zF G_law_stir hr rfl E_law_stir.mg E_law_stir.kp E_law_stir.bd .nil pass0 (qQ (pv 0) (qQ qE qX))) (xQ yF qE qE)) (zF G_law_stir hr rfl E_law_stir.mg E_law_stir.kp E_law_stir.bd .nil pass0 (qQ (pv 0) (qQ qE qX)))) (xQ yF qE qE)) (zF G_law_stir hr rfl E_law_stir.mg E_law_stir.kp E_law_stir.bd .nil pass0 (qQ (pv 0) (qQ qE qX)))) qX))))),?_⟩
 refine⟨_,rfl,10,18,rfl,rfl,pw 10 18 (by decide) (by decide) (by decide),_,_,rfl,rfl,_,rfl,?_⟩
 refine ite2 (fun c=>?_) (fun c=>?_)
 ·exact⟨_,rfl,10,18,rfl,rfl,pw 10 18 (by decide) (by decide) (by decide),_,_,rfl,rfl,(by show 1≤sizeLine;decide),fun r hr'=>q r _ hr'⟩
 ·refine⟨_,rfl,_,1,rfl,by decide,by decide,fun x hx0 hx1=>?_⟩
  have e1:x.natAbs<2 ^ 1000:=big _ hx0 (lt200 hx1)
  refine⟨10,60,rfl,rfl,pw 10 60 (by decide) (by decide) (by decide),_,_,rfl,rfl,⟨e1,t60⟩,_,rfl,_,2,rfl,by decide,by decide,fun y hy0 hy1=>?_⟩
  refine⟨_,_,rfl,rfl,10,60,rfl,rfl,pw 10 60 (by decide) (by decide) (by decide),_,_,rfl,rfl,⟨?_,t60⟩,_,rfl,_,3,rfl,by decide,by decide,fun z hz0 hz1=>?_⟩
  ·have b:=qXf (a:=x) (b:=10 ^ 60) (c:=10 ^ 61) (d:=10 ^ 60) hx0 (by decide +kernel) (Int.le_of_lt hx1) (Int.le_refl _)
   have e:(10:Int) ^ 61 * 10 ^ 60+10 ^ 61<10 ^ 200:=by decide +kernel
   refine big _ ?_ ?_
   ·show 0≤x * 10 ^ 60+y
    generalize x * 10 ^ 60=u at *
    omega
   ·show x * 10 ^ 60+y<10 ^ 200
    generalize x * 10 ^ 60=u at *
    generalize (10:Int) ^ 61 * 10 ^ 60=v at *
    generalize (10:Int) ^ 61=v2 at *
    generalize (10:Int) ^ 200=v3 at *
    omega
  ·exact⟨_,_,rfl,rfl,(by show 1≤sizeLine;decide),fun r hr'=>q r _ hr'⟩

theorem jH:xI ["cell","sizes","found","rest","k"] ["cell","sizes"] (xA (top 38)):=⟨rfl,rfl,rfl,by decide +kernel,rfl,by decide +kernel,by decide +kernel⟩
noncomputable def Below (xs szs:List Int):Prop:=∀(i:Nat) (x z:Int),xs[i]? = some x→szs[i]? = some z→0≤x∧x<z
noncomputable def qKd:Sp:=fun vs H Q _=>∃(c:Int) (a:Addr) (szs:List Int),vs=[.int c,.ref a]∧H a=some (.lst (intsV szs))∧szs.length≤100∧(∀z∈szs,0<z∧z<2 ^ 64)∧
 ∀(r:Addr) (xs:List Int),H r=none→xs.length=szs.length→Below xs szs→Q (.ref r) (upd H r (.lst (intsV xs)))
theorem qBi {xs szs:List Int}{x z:Int}(h:Below xs szs)(hz:szs[xs.length]? = some z)(h0:0≤x)(h1:x<z):Below (xs++[x]) szs:=fun i y u e1 e2=>by
 by_cases hi:i<xs.length
 ·rw[List.getElem?_append_left hi] at e1
  exact h i y u e1 e2
 ·by_cases he:i=xs.length
  ·subst he
   rw[List.getElem?_append_right (Nat.le_refl _),Nat.sub_self] at e1
   have e1:some x=some y:=e1
   cases e1
   rw[hz] at e2
   cases e2
   exact⟨h0,h1⟩
  ·rw[List.getElem?_append_right (by omega)] at e1
   have:i - xs.length=(i - xs.length - 1)+1:=by omega
   rw[this] at e1
   simp at e1
theorem qAc {ns:List Int}{k:Nat}{z:Int}(h:ns[k]? = some z):atI (intsV ns) (k:Int)=some (.int z):=yZ (by rw[List.getElem?_map,h];rfl)
theorem qHk {f g:Addr}{fd gd:FuncData}(F:Fun K "_law_drawn" "_law_drawn" (top 38) f fd)(B:Bl mg)(G_law_stir:FnOk P w K mg base CX0 1 g gd ["cell","k"] spStir)(E_law_stir:FunE K mg "_law_stir" g gd ["cell","k"]):
  FnOk P w K mg base CX0 2 f fd ["cell","sizes"] qKd:=by
 refine F.ok jH (fun vs H Q E h=>?_) (fun cdv A outer s H vs Q E hr h=>?_)
 ·obtain⟨c,a,szs,rfl,_⟩:=h
  rfl
 obtain⟨c,a,szs,rfl,ha,hl,hz,q⟩:=h
 have pw:∀i j:Int,0≤j→j≤1000→i.natAbs<2 ^ 64→CPow i j:=fun i j x y z=>⟨x,by omega,z⟩
 have hlen:(intsV szs).length=szs.length:=List.length_map _
 refine⟨_,(qZ (qM (i:=2) jH.nd rfl (by wtm_at "zo") (zX qX))
  (qZ (qM (i:=3) jH.nd rfl (by wtm_at "zo") (xQ kB (pv 0) (xQ yF qE qE)))
  (qZ (zE PassesOwn.never rfl (zT rfl B.range' (qQ (xZ (jI (K:=K)) rfl B.len' kS (qQ (pv 1) qX)) qX)) (qG (i:=4) jH.nd rfl (by wtm_at "zo")) (qJ (zB (qR qNg (pv 0) (xQ yF qE qE) (xD _)) (qZ (qP (zC (K:=K) PySem.F.plainAttrs_list PySem.F.slot_list_append PySem.F.type_list_append xS (pv 2) (qQ (xQ yW (pv 3) (xH (qT (K:=K)) (pv 1) (pv 4) (fun _ _=>rfl))) qX)))
  (qJ (qM (i:=3) jH.nd rfl (by wtm_at "zo") (xQ yR (pv 3) (xH (qT (K:=K)) (pv 1) (pv 4) (fun _ _=>rfl)))))) (qJ (qP (zC (K:=K) PySem.F.plainAttrs_list PySem.F.slot_list_append PySem.F.type_list_append xS (pv 2) (qQ (xQ yW (zF G_law_stir hr rfl E_law_stir.mg E_law_stir.kp E_law_stir.bd .nil pass0 (qQ (pv 0) (qQ (pv 4) qX))) (xH (qT (K:=K)) (pv 1) (pv 4) (fun _ _=>rfl))) qX)))))))
  (qJ (qN (pv 2)))))),?_⟩
 refine⟨(by show 0≤sizeLine;decide),fun r hr'=>?_⟩
 have har:a≠r:=qB ha hr'
 refine⟨_,rfl,10,18,rfl,rfl,pw 10 18 (by decide) (by decide) (by decide),_,_,rfl,rfl,?_⟩
 have e1:upd H r (.lst []) a=some (.lst (intsV szs)):=by rw[qA har];exact ha
 refine⟨_,rfl,a,_,rfl,.inl (SqL.of e1),_,rfl,by omega,by omega,?_⟩
 refine qYe (fun i σ' H'=>∃(xs:List Int) (re:Int) (z:Option V),σ'=[some (.int c),some (.ref a),some (.ref r),some (.int re),z]∧H'=upd H r (.lst (intsV xs))∧xs.length=i∧Below xs szs)
  ⟨[],_,none,rfl,rfl,rfl,fun i x z e=>by simp at e⟩ ?_ ?_
 ·rintro i σ' H' hi ⟨xs,re,zz,rfl,rfl,hxi,hb⟩
  have hi:i<szs.length:=by
   have:(((intsV szs).length:Nat):Int).toNat=szs.length:=by rw[hlen];omega
   rw[this] at hi
   exact hi
  subst hxi
  obtain⟨z,ez⟩:∃z,szs[xs.length]? = some z:=⟨_,List.getElem?_eq_getElem hi⟩
  have hz':=hz z (List.mem_of_getElem? ez)
  have hz1:z.natAbs<2 ^ 1000:=big _ (by omega) (Int.lt_trans hz'.2 (by decide +kernel))
  have e0:(0:Int)+(xs.length:Int)=(xs.length:Int):=Int.zero_add _
  have ea:upd H r (.lst (intsV xs)) a=some (.lst (intsV szs)):=by rw[qA har];exact ha
  have at0:atI (intsV szs) (0+(xs.length:Int))=some (.int z):=by rw[e0];exact qAc ez
  have fin:∀x:Int,0≤x→x<z→∀re':Int,∃(ys:List Int) (re:Int) (zz:Option V),[some (V.int c),some (.ref a),some (.ref r),some (.int re'),some (.int (0+(xs.length:Int)))]=[some (V.int c),some (.ref a),some (.ref r),some (.int re),zz]∧
    upd (upd H r (.lst (intsV xs))) r (.lst (intsV xs++[.int x]))=upd H r (.lst (intsV ys))∧ys.length=xs.length+1∧Below ys szs:=fun x h0 h1 re'=>
   ⟨xs++[x],re',_,rfl,by rw[qKa,qXn],by simp,qBi hb ez h0 h1⟩
  have hsz:(intsV xs).length<sizeLine:=by rw[yG];exact small (by omega)
  refine⟨_,rfl,10,18,rfl,rfl,pw 10 18 (by decide) (by decide) (by decide),_,_,rfl,rfl,_,rfl,?_⟩
  refine ite2 (fun _=>?_) (fun _=>?_)
  ·refine⟨_,rfl,.inl ⟨rfl,_,SqL.of qW⟩,_,rfl,_,rfl,_,rfl,a,_,_,_,rfl,rfl,SqL.of ea,at0,_,_,rfl,rfl,hz'.1,r,_,_,rfl,rfl,qW,hsz,?_⟩
   have ea2:upd (upd H r (.lst (intsV xs))) r (.lst (intsV xs++[.int (re % z)])) a=some (.lst (intsV szs)):=by rw[qA har,qA har];exact ha
   refine⟨_,rfl,_,rfl,_,rfl,a,_,_,_,rfl,rfl,SqL.of ea2,at0,_,_,rfl,rfl,⟨hz'.1,hz1⟩,?_⟩
   exact fin _ (Int.emod_nonneg _ (by omega)) (Int.emod_lt_of_pos _ hz'.1) _
  ·refine⟨_,rfl,.inl ⟨rfl,_,SqL.of qW⟩,_,rfl,_,rfl,c,0+(xs.length:Int),rfl,by omega,by omega,fun x hx0 hx1=>?_⟩
   refine⟨_,rfl,_,rfl,a,_,_,_,rfl,rfl,SqL.of ea,at0,_,_,rfl,rfl,hz'.1,r,_,_,rfl,rfl,qW,hsz,?_⟩
   exact fin _ (Int.emod_nonneg _ (by omega)) (Int.emod_lt_of_pos _ hz'.1) _
 ·rintro σ' H' ⟨xs,re,zz,rfl,rfl,hxi,hb⟩
  have:(((intsV szs).length:Nat):Int).toNat=szs.length:=by rw[hlen];omega
  rw[this] at hxi
  exact⟨_,rfl,q r xs hr' hxi hb⟩
theorem zK {K:PySem.W.Frag}{a:Addr}{xs:List V}{g:TG}{tb:TS}{D:Ends}{σ:St}{H:Hp}(Pv:Nat→St→Hp→Prop)(h0:Pv 0 σ H)(hl:∀i σ H,i≤xs.length→Pv i σ H→SqL K H a xs)
  (hs:∀(N:St→Hp→Prop) (rt:VK) (bk:St→Hp→Prop) i x σ H,xs[i]? = some x→Pv i σ H→(∀σ H,Pv (i+1) σ H→N σ H)→g x σ H fun σ2 H2=>tb ⟨N,rt,bk,N⟩ σ2 H2) (hd:∀σ H,Pv xs.length σ H→D.nx σ H):
  ∃W:Nat→Nat→St→Hp→Prop,(∃m,W 0 m σ H)∧∀i m σ H,W i m σ H→
   ((Itl K a).stop i H∧D.nx σ H)∨((Itl K a).go i H∧∃N:St→Hp→Prop,(∀σ' H',N σ' H'→∃m',m'<m∧W (i+1) m' σ' H')∧∀x H',(Itl K a).yld i H x H'→g x σ H' fun σ2 H2=>tb { D with nx:=N,ct:=N,bk:=D.nx } σ2 H2):=
 qJj Pv h0 hl (fun i x σ H e p=>hs _ _ _ i x σ H e p fun _ _ z=>z) hd
theorem jC {lo:Int}{n:Nat}{g:TG}{tb:TS}{D:Ends}{σ:St}{H:Hp}(Pv:Nat→St→Hp→Prop)(h0:Pv 0 σ H)
  (hs:∀(N:St→Hp→Prop) (rt:VK) (bk:St→Hp→Prop) i σ H,i<n→Pv i σ H→(∀σ H,Pv (i+1) σ H→N σ H)→g (.int (lo+i)) σ H fun σ2 H2=>tb ⟨N,rt,bk,N⟩ σ2 H2) (hd:∀σ H,Pv n σ H→D.nx σ H):
  ∃W:Nat→Nat→St→Hp→Prop,(∃m,W 0 m σ H)∧∀i m σ H,W i m σ H→
   ((Itr lo n).stop i H∧D.nx σ H)∨((Itr lo n).go i H∧∃N:St→Hp→Prop,(∀σ' H',N σ' H'→∃m',m'<m∧W (i+1) m' σ' H')∧∀x H',(Itr lo n).yld i H x H'→g x σ H' fun σ2 H2=>tb { D with nx:=N,ct:=N,bk:=D.nx } σ2 H2):=
 qYe Pv h0 (fun i σ H e p=>hs _ _ _ i σ H e p fun _ _ z=>z) hd

theorem zZ:xI ["number","many","letters","pad","size","at","first","found","k","sign"] ["number","many"] (xA (top 41)):=⟨rfl,rfl,rfl,by decide +kernel,rfl,by decide +kernel,by decide +kernel⟩
noncomputable def abc:List Nat:=("abcdefghijklmnopqrstuvwxyz" : Str).cps.toList
noncomputable def letter (i:Int):Nat:=abc.getD i.toNat 0
theorem qPx:abc.length=26:=by decide +kernel
theorem qPz:∀i j:Fin 26,abc.getD i.val 0=abc.getD j.val 0→i=j:=by decide +kernel
theorem qBb {i j:Int}(i0:0≤i)(i1:i<26)(j0:0≤j)(j1:j<26)(h:letter i=letter j):i=j:=by
 have:=qPz ⟨i.toNat,by omega⟩ ⟨j.toNat,by omega⟩ h
 have:=congrArg Fin.val this
 have:i.toNat=j.toNat:=this
 omega
theorem qXl {i:Int}(h0:0≤i)(h1:i<26):atI ("abcdefghijklmnopqrstuvwxyz" : Str).cps.toList i=some (letter i):=by
 have e:i=((i.toNat:Nat):Int):=by omega
 have hk:i.toNat<abc.length:=by rw[qPx];omega
 have z:atI abc ((i.toNat:Nat):Int)=some (letter i):=yZ (by unfold letter;rw[List.getD_eq_getElem?_getD,List.getElem?_eq_getElem hk];rfl)
 rw[← e] at z
 exact z
noncomputable def wordOf (c:Nat)(a r:Int)(k:Nat):Str:=Txt.mul ⟨#[c]⟩ a++⟨#[k]⟩++Txt.mul ⟨#[c]⟩ r
theorem qZq (c:Nat):∀(k:Nat) (acc:Array Nat),((List.replicate k #[c]).foldl (·++·) acc).toList=acc.toList++List.replicate k c
 | 0,acc=>by simp
 | k+1,acc=>by
  rw[List.replicate_succ,List.foldl_cons,qZq c k,Array.toList_append,List.append_assoc,List.replicate_succ]
  rfl
theorem qYw (c:Nat)(n:Int):(Txt.mul ⟨#[c]⟩ n).cps.toList=List.replicate n.toNat c:=by
 unfold Txt.mul
 split
 ·have:n.toNat=0:=by omega
  rw[this];rfl
 ·split
  ·rename_i h1 h2
   have h3:(n == 1)=true:=by
    rw[Bool.or_eq_true] at h2
    rcases h2 with h | h
    ·exact h
    ·exact absurd (show((1:Nat) == 0)=true from h) (by decide)
   have:n=1:=eq_of_beq h3
   subst this;rfl
  ·rw[qZq];rfl
theorem vN (c:Nat)(a r:Int)(k:Nat):(wordOf c a r k).cps.toList=List.replicate a.toNat c++k::List.replicate r.toNat c:=by
 show((Txt.mul ⟨#[c]⟩ a).cps++#[k]++(Txt.mul ⟨#[c]⟩ r).cps).toList=_
 rw[Array.toList_append,Array.toList_append,qYw,qYw]
 simp
theorem qGz {c:Nat}{a r:Int}{k k':Nat}(h:wordOf c a r k=wordOf c a r k'):k=k':=by
 have e:=congrArg (fun x:Str=>x.cps.toList) h
 simp only[vN] at e
 have:=List.append_cancel_left e
 injection this
theorem kO {c k a r p q s:Nat}(h:List.replicate a c++k::List.replicate r c=[p,q,s])(pq:p≠q)(ps:p≠s)(qs:q≠s):False:=by
 have hl:=congrArg List.length h
 simp only[List.length_append,List.length_cons,List.length_replicate,List.length_nil] at hl
 have:a=0∧r=2∨a=1∧r=1∨a=2∧r=0:=by omega
 rcases this with⟨rfl,rfl⟩ | ⟨rfl,rfl⟩ | ⟨rfl,rfl⟩
 ·simp[List.replicate] at h;omega
 ·simp[List.replicate] at h;omega
 ·simp[List.replicate] at h;omega
noncomputable def odd3:List Str:=["not","and","yes","way","end","one"]
noncomputable def cwords:List Str:=["not","and","yes"]
theorem qAe (c:Nat)(a r:Int)(k:Nat):wordOf c a r k∉odd3:=by
 intro h
 have e:=vN c a r k
 simp only[odd3,List.mem_cons,List.not_mem_nil,or_false] at h
 rcases h with h | h | h | h | h | h <;> rw[h] at e
 ·exact kO (p:=110) (q:=111) (s:=116) (e.symm.trans (by decide +kernel)) (by decide) (by decide) (by decide)
 ·exact kO (p:=97) (q:=110) (s:=100) (e.symm.trans (by decide +kernel)) (by decide) (by decide) (by decide)
 ·exact kO (p:=121) (q:=101) (s:=115) (e.symm.trans (by decide +kernel)) (by decide) (by decide) (by decide)
 ·exact kO (p:=119) (q:=97) (s:=121) (e.symm.trans (by decide +kernel)) (by decide) (by decide) (by decide)
 ·exact kO (p:=101) (q:=110) (s:=100) (e.symm.trans (by decide +kernel)) (by decide) (by decide) (by decide)
 ·exact kO (p:=111) (q:=110) (s:=101) (e.symm.trans (by decide +kernel)) (by decide) (by decide) (by decide)
noncomputable def Low (c:Nat):Prop:=(Builtin.Str.reprChar 34 c).length≤1∧(Builtin.Str.reprChar 39 c).length≤1
theorem qOv:∀i:Fin 26,(Builtin.Str.reprChar 34 (abc.getD i.val 0)).length≤1∧(Builtin.Str.reprChar 39 (abc.getD i.val 0)).length≤1:=by decide +kernel
theorem qXh {i:Int}(h0:0≤i)(h1:i<26):Low (letter i):=qOv ⟨i.toNat,by omega⟩
theorem qGx {c k:Nat}(h1:Low c)(h2:Low k)(a r:Int):∀d∈(wordOf c a r k).cps.toList,Low d:=fun d hd=>by
 rw[vN] at hd
 rcases List.mem_append.mp hd with h | h
 ·rw[(List.mem_replicate.mp h).2];exact h1
 ·rcases List.mem_cons.mp h with h | h
  ·rw[h];exact h2
  ·rw[(List.mem_replicate.mp h).2];exact h1
noncomputable def Lw (x:Str):Prop:=x.length≤100∧∀c∈x.cps.toList,Low c
structure Plain (ws:List Str):Prop where
 nd:ws.Nodup
 no:∀x∈ws,x∉odd3
 le:∀x∈ws,x.length≤100
 low:∀x∈ws,∀c∈x.cps.toList,Low c
noncomputable def qZe:Sp:=fun vs H Q _=>∃n m:Int,vs=[.int n,.int m]∧0≤n∧0≤m∧m≤26∧
 ∀(r:Addr) (ws:List Str),H r=none→ws.length=m.toNat→Plain ws→Q (.ref r) (upd H r (.lst (strsV ws)))
theorem qQg:("abcdefghijklmnopqrstuvwxyz" : Str).length≤sizeLine:=by decide +kernel
theorem xF (x y:Str):(x++y).length=x.length+y.length:=by
 show(x.cps++y.cps).size=_
 rw[Array.size_append];rfl
theorem qDk {f:Addr}{fd:FuncData}(F:Fun K "_law_unlike" "_law_unlike" (top 41) f fd)(B:Bl mg):FnOk P w K mg base CX0 1 f fd ["number","many"] qZe:=by
 refine F.ok zZ (fun vs H Q E h=>?_) (fun cdv A outer s H vs Q E hr h=>?_)
 ·obtain⟨n,m,rfl,_⟩:=h
  rfl
 obtain⟨n,m,rfl,hn,hm0,hm1,q⟩:=h
 have z26:(0:Int)<26:=by decide
 obtain⟨c1,ec1,lc1⟩:∃c,atI ("abcdefghijklmnopqrstuvwxyz" : Str).cps.toList (n % 26)=some c∧Low c:=⟨_,qXl (Int.emod_nonneg n (by decide)) (Int.emod_lt_of_pos n z26),qXh (Int.emod_nonneg n (by decide)) (Int.emod_lt_of_pos n z26)⟩
 have d26:0≤n / 26:=Int.ediv_nonneg hn (by decide)
 have s0:=Int.emod_nonneg (n / 26) (b:=8) (by decide)
 have s1:=Int.emod_lt_of_pos (n / 26) (b:=8) (by decide)
 refine⟨_,(qZ (qM (i:=2) zZ.nd rfl (by wtm_at "zo") qF)
  (qZ (qM (i:=3) zZ.nd rfl (by wtm_at "zo") (xH qIn (pv 2) (xQ yW (pv 0) qE) (fun _ _=>rfl)))
  (qZ (qM (i:=4) zZ.nd rfl (by wtm_at "zo") (xQ zO qE (xQ yW (xQ yR (pv 0) qE) qE)))
  (qZ (qM (i:=5) zZ.nd rfl (by wtm_at "zo") (xQ yW (xQ yR (pv 0) qE) (pv 4)))
  (qZ (qM (i:=6) zZ.nd rfl (by wtm_at "zo") (xQ yW (xQ yR (pv 0) qE) qE))
  (qZ (qM (i:=7) zZ.nd rfl (by wtm_at "zo") (zX qX))
  (qZ (zE PassesOwn.never rfl (zT rfl B.range' (qQ (pv 1) qX)) (qG (i:=8) zZ.nd rfl (by wtm_at "zo")) (qZ (qM (i:=9) zZ.nd rfl (by wtm_at "zo") (xH qIn (pv 2) (xQ yW (xQ zO (pv 6) (xQ jN qE (pv 8))) qE) (fun _ _=>rfl)))
  (qJ (qP (zC (K:=K) PySem.F.plainAttrs_list PySem.F.slot_list_append PySem.F.type_list_append xS (pv 7) (qQ (xQ xG (xQ xG (xQ qVz (pv 3) (pv 5)) (pv 9)) (xQ qVz (pv 3) (xQ kB (xQ kB (pv 4) (pv 5)) qE))) qX))))))
  (qJ (qN (pv 7)))))))))),?_⟩
 refine⟨_,rfl,_,rfl,_,26,rfl,rfl,z26,_,_,c1,rfl,rfl,qQg,ec1,?_⟩
 refine⟨_,rfl,_,26,rfl,rfl,⟨z26,by decide +kernel⟩,_,8,rfl,rfl,(by decide:(0:Int)<8),1,_,rfl,rfl,?_⟩
 obtain⟨sz,hsz⟩:∃sz,sz=n / 26 % 8:=⟨_,rfl⟩
 rw[← hsz] at s0 s1
 have t0:0<1+sz:=by omega
 refine⟨_,rfl,_,208,rfl,rfl,⟨by decide,by decide +kernel⟩,_,rfl,_,1+sz,rfl,(by subst hsz;rfl),t0,?_⟩
 obtain⟨at',hat⟩:∃a,a=n / 208 % (1+sz):=⟨_,rfl⟩
 have a0:0≤at':=by rw[hat];exact Int.emod_nonneg _ (by omega)
 have a1:at'<1+sz:=by rw[hat];exact Int.emod_lt_of_pos _ t0
 refine⟨_,rfl,_,1664,rfl,rfl,⟨by decide,by decide +kernel⟩,_,26,rfl,rfl,z26,?_⟩
 obtain⟨fi,hfi⟩:∃a,a=n / 1664 % 26:=⟨_,rfl⟩
 have f0:0≤fi:=by rw[hfi];exact Int.emod_nonneg _ (by decide)
 have f1:fi<26:=by rw[hfi];exact Int.emod_lt_of_pos _ z26
 refine⟨(by show 0≤sizeLine;decide),fun r hr'=>?_⟩
 refine⟨_,rfl,m,rfl,by omega,by omega,?_⟩
 refine jC (fun i σ' H'=>∃(ws:List Str) (z1 z2:Option V),σ'=[some (.int n),some (.int m),some (.str "abcdefghijklmnopqrstuvwxyz"),some (.str ⟨#[c1]⟩),some (.int (1+sz)),some (.int at'),some (.int fi),some (.ref r),z1,z2]∧H'=upd H r (.lst (strsV ws))∧ws=(List.range i).map (fun(j:Nat)=>wordOf c1 at' (1+sz - at' - 1) (letter ((fi+3 * (0+(j:Int))) % 26)))∧ws.length=i∧Plain ws)
  ⟨[],none,none,(by subst hfi hat hsz;rfl),rfl,rfl,rfl,⟨List.nodup_nil,(fun x hx=>by cases hx),(fun x hx=>by cases hx),fun x hx=>by cases hx⟩⟩ ?_ ?_
 ·rintro N rt bk i σ' H' hi ⟨ws,z1,z2,rfl,rfl,hme,hw,hx⟩ hN
  have i100:i<26:=by omega
  have m0:=fun j:Nat=>Int.emod_nonneg (fi+3 * (0+(j:Int))) (b:=26) (by decide)
  have m1:=fun j:Nat=>Int.emod_lt_of_pos (fi+3 * (0+(j:Int))) z26
  obtain⟨c2,hc2⟩:∃c,c=letter ((fi+3 * (0+(i:Int))) % 26):=⟨_,rfl⟩
  have ec2:=qXl (m0 i) (m1 i)
  rw[← hc2] at ec2
  have lc2:Low c2:=by rw[hc2];exact qXh (m0 i) (m1 i)
  have hnew:wordOf c1 at' (1+sz - at' - 1) c2∉ws:=fun hmem=>by
   rw[hme] at hmem
   obtain⟨j,hj,ej⟩:=List.mem_map.mp hmem
   have hj:=List.mem_range.mp hj
   have e:=qBb (m0 j) (m1 j) (m0 i) (m1 i) ((qGz ej).trans hc2)
   omega
  refine⟨_,rfl,_,rfl,_,rfl,3,_,rfl,rfl,⟨by decide +kernel,big _ (by omega) (Int.lt_of_le_of_lt (b:=100) (by omega) (by decide +kernel))⟩,_,_,rfl,rfl,_,26,rfl,rfl,z26,_,_,c2,rfl,rfl,qQg,ec2,?_⟩
  have l1:(⟨#[c1]⟩:Str).length=1:=rfl
  have l2:(⟨#[c2]⟩:Str).length=1:=rfl
  have m1:=qDi ⟨#[c1]⟩ at'
  have m2:=qDi ⟨#[c1]⟩ (1+sz - at' - 1)
  rw[l1] at m1 m2
  have k1:(Txt.mul ⟨#[c1]⟩ at').length≤8:=by omega
  have k2:(Txt.mul ⟨#[c1]⟩ (1+sz - at' - 1)).length≤8:=by omega
  refine⟨_,rfl,.inl ⟨rfl,_,SqL.of qW⟩,_,rfl,_,rfl,_,_,rfl,rfl,by omega,by omega,by rw[l1];decide,_,rfl,_,_,rfl,rfl,by rw[l2];exact smallE (by omega),_,rfl,_,rfl,_,rfl,_,_,rfl,rfl,_,1,rfl,rfl,_,_,rfl,rfl,by omega,by omega,by rw[l1];decide,_,_,rfl,rfl,?_,?_⟩
  ·rw[xF,l2];exact smallE (by omega)
  ·refine⟨r,_,_,rfl,rfl,qW,by rw[xW];exact small (by omega),?_⟩
   refine hN _ _ ⟨ws++[wordOf c1 at' (1+sz - at' - 1) c2],_,_,rfl,by rw[qKa,qAh];rfl,by rw[List.range_succ,List.map_append,← hme,hc2];rfl,by simp[hw],⟨qDg hx.nd hnew,fun x hx'=>?_,fun x hx'=>?_,fun x hx'=>?_⟩⟩
   ·rcases List.mem_append.mp hx' with h | h
    ·exact hx.no x h
    ·rw[List.mem_singleton.mp h];exact qAe _ _ _ _
   ·rcases List.mem_append.mp hx' with h | h
    ·exact hx.le x h
    ·rw[List.mem_singleton.mp h]
     show(Txt.mul ⟨#[c1]⟩ at'++⟨#[c2]⟩++Txt.mul ⟨#[c1]⟩ (1+sz - at' - 1)).length≤100
     rw[xF,xF,l2];omega
   ·rcases List.mem_append.mp hx' with h | h
    ·exact hx.low x h
    ·rw[List.mem_singleton.mp h];exact qGx lc1 lc2 _ _
 ·rintro σ' H' ⟨ws,z1,z2,rfl,rfl,hme,hw,hx⟩
  exact⟨_,rfl,q r ws hr' hw hx⟩

theorem yB {n:Nat}{xs:List Int}(h:xs.length=n+1):∃x r,xs=x::r∧r.length=n:=by
 cases xs with
 | nil=>cases h
 | cons x r=>exact⟨x,r,rfl,Nat.succ.inj h⟩
theorem eight {xs:List Int}(h0:xs.length=8):∃x0 x1 y0 y1 y2 y3 y4 y5,xs=[x0,x1,y0,y1,y2,y3,y4,y5]:=by
 obtain⟨x0,r0,e0,h1⟩:=yB h0
 obtain⟨x1,r1,e1,h2⟩:=yB h1
 obtain⟨y0,r2,e2,h3⟩:=yB h2
 obtain⟨y1,r3,e3,h4⟩:=yB h3
 obtain⟨y2,r4,e4,h5⟩:=yB h4
 obtain⟨y3,r5,e5,h6⟩:=yB h5
 obtain⟨y4,r6,e6,h7⟩:=yB h6
 obtain⟨y5,r7,e7,h8⟩:=yB h7
 cases List.length_eq_zero_iff.mp h8
 subst e7 e6 e5 e4 e3 e2 e1 e0
 exact⟨_,_,_,_,_,_,_,_,rfl⟩
theorem zA:xI ["cell","drawn","words","boxes","room","k","size"] ["cell"] (xA (top 42)):=⟨rfl,rfl,rfl,by decide +kernel,rfl,by decide +kernel,by decide +kernel⟩
noncomputable def BoxIn (H:Hp)(b:Str×Int)(u:V):Prop:=∃a,u=.ref a∧H a=some (.tup [.str b.1,.int b.2])
structure Named (ws:List Str):Prop where
 nd:ws.Nodup
 no:∀x∈ws,x∉cwords
 sh:∀x∈ws,Lw x
theorem Plain.named {ws:List Str}(p:Plain ws):Named ws:=⟨p.nd,fun x hx hc=>p.no x hx (by
 simp only[cwords,List.mem_cons,List.not_mem_nil,or_false] at hc
 simp only[odd3,List.mem_cons,List.not_mem_nil,or_false]
 rcases hc with h | h | h
 ·exact .inl h
 ·exact .inr (.inl h)
 ·exact .inr (.inr (.inl h))),fun x hx=>⟨p.le x hx,p.low x hx⟩⟩
theorem qMn:∀x∈(["way","goal","begin","end","deed","look"]:List Str),x.length≤100∧∀c∈x.cps.toList,(Builtin.Str.reprChar 34 c).length≤1∧(Builtin.Str.reprChar 39 c).length≤1:=by decide +kernel
theorem qDh:Named ["way","goal","begin","end","deed","look"]:=⟨by decide +kernel,by decide +kernel,qMn⟩
theorem Named.sub {ws xs:List Str}(n:Named ws)(s:List.Sublist xs ws):Named xs:=⟨s.nodup n.nd,fun x hx=>n.no x (s.subset hx),fun x hx=>n.sh x (s.subset hx)⟩
noncomputable def qCb:Sp:=fun vs H Q _=>∃c:Int,vs=[.int c]∧∀(r:Addr) (bs:List (Str×Int)) (us:List V) (H':Hp),H r=none→Same H H'→H' r=some (.lst us)→Paired (BoxIn H') bs us→1≤bs.length→bs.length≤6→
 (∀b∈bs,2≤b.2∧b.2≤5)→(bs.map (·.2)).foldl (· * ·) 1≤200→Named (bs.map (·.1))→Q (.ref r) H'
theorem BoxIn.mono {H H':Hp}(h:Tups H H'){b:Str×Int}{u:V}(x:BoxIn H b u):BoxIn H' b u:=let ⟨a,e,q⟩:=x;⟨a,e,h _ _ q⟩
theorem xY {H H':Hp}(h:Tups H H'){bs:List (Str×Int)}{us:List V}(p:Paired (BoxIn H) bs us):Paired (BoxIn H') bs us:=Paired.mapP p fun _ _ x=>x.mono h
theorem qXo (l:List Int)(x a:Int):(l++[x]).foldl (· * ·) a=l.foldl (· * ·) a * x:=by rw[List.foldl_append];rfl
theorem qCf:∀j:Fin 6,([10 ^ 9,6,4,4,4,4,4,4]:List Int)[j.val+2]? = some 4:=by decide +kernel
theorem qHa {f g h:Addr}{fd gd hd:FuncData}(F:Fun K "_law_boxes" "_law_boxes" (top 42) f fd)(B:Bl mg)(G_law_drawn:FnOk P w K mg base CX0 2 g gd ["cell","sizes"] qKd)(E_law_drawn:FunE K mg "_law_drawn" g gd ["cell","sizes"])
  (G_law_unlike:FnOk P w K mg base CX0 2 h hd ["number","many"] qZe) (E_law_unlike:FunE K mg "_law_unlike" h hd ["number","many"]):FnOk P w K mg base CX0 3 f fd ["cell"] qCb:=by
 refine F.ok zA (fun vs H Q E h=>?_) (fun cdv A outer s H vs Q E hr h=>?_)
 ·obtain⟨c,rfl,_⟩:=h
  rfl
 obtain⟨c,rfl,q⟩:=h
 have pw:∀i j:Int,0≤j→j≤1000→i.natAbs<2 ^ 64→CPow i j:=fun i j x y z=>⟨x,by omega,z⟩
 have rest:∃u,PSs (cxOf CX0 P w K mg base ["cell","drawn","words","boxes","room","k","size"] "_law_boxes" (xA (top 42)) f cdv A outer s H E).nox ((xB (top 42)).drop 3) u∧
   ∀(dr:Addr) (x0 x1 y0 y1 y2 y3 y4 y5:Int),0≤x1→x1<6→(∀(j:Nat) (y:Int),[y0,y1,y2,y3,y4,y5][j]? = some y→0≤y∧y<4)→
    ∀(wd:Addr) (ws:List Str) (H7:Hp),Same H H7→H7 dr=some (.lst (intsV [x0,x1,y0,y1,y2,y3,y4,y5]))→H7 wd=some (.lst (strsV ws))→ws.length=6→Named ws→
     u { nx:=fun _ H'=>Q .non H',rt:=Q } [some (.int c),some (.ref dr),some (.ref wd),none,none,none,none] H7:=by
  refine⟨_,(qZ (qM (i:=3) zA.nd rfl (by wtm_at "zo") (zX qX))
  (qZ (qM (i:=4) zA.nd rfl (by wtm_at "zo") qE)
  (qZ (zE PassesOwn.never rfl (zT rfl B.range' (qQ (xQ zO qE (xH (qT (K:=K)) (pv 1) qE (fun _ _=>rfl))) qX)) (qG (i:=5) zA.nd rfl (by wtm_at "zo")) (qZ (qM (i:=6) zA.nd rfl (by wtm_at "zo") (xZ (qFh rfl) rfl B.min' qSm (qQ (xQ zO qE (xH (qT (K:=K)) (pv 1) (xQ zO qE (pv 5)) (fun _ _=>rfl))) (qQ (pv 4) qX))))
  (qJ (zB (qR qHx (pv 6) qE (xD _)) (qZ (qP (zC (K:=K) PySem.F.plainAttrs_list PySem.F.slot_list_append PySem.F.type_list_append xS (pv 3) (qQ (zJ (qQ (xH (qT (K:=K)) (pv 2) (pv 5) (fun _ _=>rfl)) (qQ (pv 6) qX))) qX)))
  (qJ (qM (i:=4) zA.nd rfl (by wtm_at "zo") (xQ yR (pv 4) (pv 6))))) qY))))
  (qJ (qN (pv 3)))))),?_⟩
  intro dr x0 x1 y0 y1 y2 y3 y4 y5 hx0 hx6 hy wd ws H7 S7 eD7 eW7 hw6 nmd
  refine⟨(by show 0≤sizeLine;decide),fun r hr'=>?_⟩
  have rH:H r=none:=S7.free hr'
  have rd:dr≠r:=qB eD7 hr'
  have rw':wd≠r:=qB eW7 hr'
  have eD8:upd H7 r (.lst []) dr=some (.lst (intsV [x0,x1,y0,y1,y2,y3,y4,y5])):=by rw[qA rd];exact eD7
  refine⟨_,rfl,dr,_,1,.int x1,rfl,rfl,SqL.of eD8,rfl,1,x1,rfl,rfl,_,rfl,by omega,by omega,?_⟩
  refine jC (fun i σ' H'=>∃(bs:List (Str×Int)) (us:List V) (ro:Int) (z1 z2:Option V),σ'=[some (.int c),some (.ref dr),some (.ref wd),some (.ref r),some (.int ro),z1,z2]∧But r H7 H'∧H' r=some (.lst us)∧Paired (BoxIn H') bs us∧bs.length≤i∧
    (0<i→1≤bs.length)∧(∀b∈bs,2≤b.2∧b.2≤5)∧1≤ro∧(i=0→ro=200)∧1≤(bs.map (·.2)).foldl (· * ·) 1∧(bs.map (·.2)).foldl (· * ·) 1 * ro≤200∧List.Sublist (bs.map (·.1)) (ws.take i))
   ⟨[],[],200,none,none,rfl,But.upd,qW,.nil,Nat.le_refl _,fun z=>absurd z (by decide),(fun b hb=>by cases hb),by decide,fun _=>rfl,by decide,by decide,List.nil_sublist _⟩ ?_ ?_
  ·rintro N rt bk i σ' H' hi ⟨bs,us,ro,z1,z2,rfl,hbut,hru,hp,hbl,hb1,hb25,hro,hr0,hf1,hf2,hsub⟩ hN
   have hi6:i<6:=by omega
   have eD9:H' dr=some (.lst (intsV [x0,x1,y0,y1,y2,y3,y4,y5])):=hbut _ _ rd eD7
   have eW9:H' wd=some (.lst (strsV ws)):=hbut _ _ rw' eW7
   obtain⟨y,ey⟩:∃y,[y0,y1,y2,y3,y4,y5][i]? = some y:=⟨_,List.getElem?_eq_getElem (by simpa using hi6)⟩
   have by':=hy i y ey
   have aty:atI (intsV [x0,x1,y0,y1,y2,y3,y4,y5]) (2+(0+(i:Int)))=some (.int y):=by
    have e:(2:Int)+(0+(i:Int))=((i+2:Nat):Int):=by omega
    rw[e]
    exact qAc (by simpa using ey)
   obtain⟨wi,ewi⟩:∃x,ws[i]? = some x:=⟨_,List.getElem?_eq_getElem (by omega)⟩
   have atw:atI (strsV ws) (0+(i:Int))=some (.str wi):=by
    rw[Int.zero_add]
    exact yZ (by rw[List.getElem?_map,ewi];rfl)
   refine⟨_,rfl,_,rfl,2,_,rfl,rfl,dr,_,_,.int y,rfl,rfl,SqL.of eD9,aty,2,y,rfl,rfl,_,rfl,_,_,rfl,?_⟩
   generalize hsz:(if ro<2+y then ro else 2+y)=sz
   refine⟨_,rfl,sz,1,rfl,rfl,_,rfl,?_⟩
   have szle:sz≤5∧sz≤ro∧(sz≤1→ro≤1):=by
    rw[← hsz]
    by_cases hlt:ro<2+y
    ·rw[if_pos hlt];omega
    ·rw[if_neg hlt];omega
   refine ite2 (fun c=>?_) (fun c=>?_)
   ·have c':1<sz:=of_decide_eq_true c
    refine⟨_,rfl,.inl ⟨rfl,_,SqL.of hru⟩,_,rfl,_,rfl,wd,_,_,.str wi,rfl,rfl,SqL.of eW9,atw,_,rfl,(by show 2≤sizeLine;decide),fun t ht=>?_⟩
    have tr:r≠t:=qB hru ht
    have hl:=hp.length
    refine⟨r,us,.ref t,rfl,rfl,by rw[qA tr];exact hru,by rw[← hl];exact small (by omega),?_⟩
    refine⟨_,rfl,_,rfl,ro,sz,rfl,rfl,⟨by omega,big _ (by omega) (Int.lt_of_le_of_lt (b:=10) (by omega) (by decide +kernel))⟩,?_⟩
    have T1:Tups H' (upd (upd H' t (.tup [.str wi,.int sz])) r (.lst (us++[.ref t]))):=fun b ys e=>by
     rw[qA (vJ e hru (by intro z;cases z)),qA (qB e ht)];exact e
    have dv:ro / sz * sz≤ro:=Int.ediv_mul_le _ (by omega)
    have d1:1≤ro / sz:=by
     apply Int.le_ediv_of_mul_le (by omega)
     omega
    refine hN _ _ ⟨bs++[(wi,sz)],us++[.ref t],ro / sz,_,_,rfl,fun b o hb e=>?_,qW,Paired.snoc (xY T1 hp) ⟨t,rfl,by rw[qA (Ne.symm tr)];exact qW⟩,by simp;omega,fun _=>by simp,fun b hb=>?_,d1,fun z=>by omega,?_,?_,?_⟩
    ·rw[qA hb,qA (qB (hbut _ _ hb e) ht)];exact hbut _ _ hb e
    ·rcases List.mem_append.mp hb with h | h
     ·exact hb25 b h
     ·rw[List.mem_singleton.mp h];exact⟨by show 2≤sz;omega,szle.1⟩
    ·rw[List.map_append]
     show 1≤((bs.map (·.2))++[sz]).foldl (· * ·) 1
     rw[qXo]
     have:=Int.mul_le_mul hf1 (show(1:Int)≤sz by omega) (by decide) (by omega)
     omega
    ·rw[List.map_append]
     show((bs.map (·.2))++[sz]).foldl (· * ·) 1 * (ro / sz)≤200
     rw[qXo,Int.mul_assoc,Int.mul_comm sz]
     have:=Int.mul_le_mul_of_nonneg_left dv (show 0≤(bs.map (·.2)).foldl (· * ·) 1 by omega)
     omega
    ·rw[List.map_append,List.take_add_one,ewi]
     exact List.Sublist.append hsub (List.Sublist.refl _)
   ·have c':¬1<sz:=of_decide_eq_false (Bool.eq_false_iff.mpr c)
    refine hN _ _ ⟨bs,us,ro,_,_,rfl,hbut,hru,hp,by omega,fun _=>?_,hb25,hro,fun z=>by omega,hf1,hf2,hsub.trans (by rw[List.take_add_one];exact List.sublist_append_left _ _)⟩
    by_cases h0:i=0
    ·have:=hr0 h0;omega
    ·exact hb1 (by omega)
  ·rintro σ' H' ⟨bs,us,ro,z1,z2,rfl,hbut,hru,hp,hbl,hb1,hb25,hro,hr0,hf1,hf2,hsub⟩
   refine⟨_,rfl,q r bs us H' rH (fun b o e=>hbut _ _ (qB e rH) (S7 _ _ e)) hru hp (hb1 (by omega)) (by omega) hb25 ?_ (nmd.sub (hsub.trans (List.take_sublist _ _)))⟩
   have:=Int.mul_le_mul_of_nonneg_left hro (show 0≤(bs.map (·.2)).foldl (· * ·) 1 by omega)
   omega
 obtain⟨u,hu,go⟩:=rest
 refine⟨_,qZ (qM (i:=1) zA.nd rfl (by wtm_at "zo") (zF G_law_drawn hr rfl E_law_drawn.mg E_law_drawn.kp E_law_drawn.bd .nil pass0 (qQ (pv 0) (qQ (xQ qQv (zX (qQ (xQ yF qE qE) (qQ qE qX))) (xQ qRe (zX (qQ qE qX)) qE)) qX)))) (qZ (qM (i:=2) zA.nd rfl (by wtm_at "zo") (zF G_law_unlike hr rfl E_law_unlike.mg E_law_unlike.kp E_law_unlike.bd .nil pass0 (qQ (xH (qT (K:=K)) (pv 1) qE (fun _ _=>rfl)) (qQ qE qX)))) (qZ (zB (qR jQ (xQ yW (xH (qT (K:=K)) (pv 1) qE (fun _ _=>rfl)) qE) qE (xD _)) (qJ (qM (i:=2) zA.nd rfl (by wtm_at "zo") (zX (qQ qF (qQ qF (qQ qF (qQ qF (qQ qF (qQ qF qX))))))))) qY) hu)),?_⟩
 refine⟨_,rfl,10,9,rfl,rfl,pw 10 9 (by decide) (by decide) (by decide),(by show 2≤sizeLine;decide),fun l1 hl1=>?_⟩
 refine⟨(by show 1≤sizeLine;decide),fun l2 hl2=>?_⟩
 have n12:l1≠l2:=qB qW hl2
 refine⟨l2,6,_,rfl,rfl,qW,by decide,by decide,(by show 1 * 6≤sizeLine;decide),fun l3 hl3=>?_⟩
 have x1:upd (upd (upd H l1 (.lst [.int (10 ^ (9:Int).toNat),.int 6])) l2 (.lst [.int 4])) l3 (.lst (List.replicate (6:Int).toNat [V.int 4]).flatten) l1=some (.lst [.int (10 ^ (9:Int).toNat),.int 6]):=by
  rw[qA (qB (by rw[qA n12];exact qW) hl3),qA n12];exact qW
 refine⟨l1,l3,_,_,rfl,rfl,x1,qW,(by show 2+6≤sizeLine;decide),fun l4 hl4=>?_⟩
 refine⟨c,l4,[10 ^ 9,6,4,4,4,4,4,4],rfl,qW,by decide,by decide,fun dr xs hdr hxl hxb=>?_⟩
 have S4:Same H (upd (upd (upd (upd H l1 (.lst [.int (10 ^ (9:Int).toNat),.int 6])) l2 (.lst [.int 4])) l3 (.lst (List.replicate (6:Int).toNat [V.int 4]).flatten)) l4 (.lst ([.int (10 ^ (9:Int).toNat),.int 6]++(List.replicate (6:Int).toNat [V.int 4]).flatten))):=
  (qV hl1 _).trans ((qV hl2 _).trans ((qV hl3 _).trans (qV hl4 _)))
 generalize upd (upd (upd (upd H l1 (.lst [.int (10 ^ (9:Int).toNat),.int 6])) l2 (.lst [.int 4])) l3 (.lst (List.replicate (6:Int).toNat [V.int 4]).flatten)) l4 (.lst ([.int (10 ^ (9:Int).toNat),.int 6]++(List.replicate (6:Int).toNat [V.int 4]).flatten))=H4 at hdr S4
 obtain⟨x0,x1,y0,y1,y2,y3,y4,y5,rfl⟩:=eight hxl
 have b0:=hxb 0 x0 (10 ^ 9) rfl rfl
 have b1:=hxb 1 x1 6 rfl rfl
 have hy:∀(j:Nat) (y:Int),[y0,y1,y2,y3,y4,y5][j]? = some y→0≤y∧y<4:=fun j y e=>by
  have hj:j<6:=(List.getElem?_eq_some_iff.mp e).1
  refine hxb (j+2) y 4 (by simpa using e) ?_
  exact qCf ⟨j,hj⟩
 have S5:Same H (upd H4 dr (.lst (intsV [x0,x1,y0,y1,y2,y3,y4,y5]))):=S4.trans (qV hdr _)
 have eD:upd H4 dr (.lst (intsV [x0,x1,y0,y1,y2,y3,y4,y5])) dr=some (.lst (intsV [x0,x1,y0,y1,y2,y3,y4,y5])):=qW
 generalize upd H4 dr (.lst (intsV [x0,x1,y0,y1,y2,y3,y4,y5]))=H5 at S5 eD
 refine⟨_,rfl,dr,_,0,.int x0,rfl,rfl,SqL.of eD,rfl,x0,6,rfl,b0.1,by decide,by decide,fun wd ws hwd hwl hwp=>?_⟩
 have S6:Same H (upd H5 wd (.lst (strsV ws))):=S5.trans (qV hwd _)
 have eD6:upd H5 wd (.lst (strsV ws)) dr=some (.lst (intsV [x0,x1,y0,y1,y2,y3,y4,y5])):=by rw[qA (qB eD hwd)];exact eD
 have eW6:upd H5 wd (.lst (strsV ws)) wd=some (.lst (strsV ws)):=qW
 generalize upd H5 wd (.lst (strsV ws))=H6 at S6 eD6 eW6
 refine⟨_,rfl,dr,_,0,.int x0,rfl,rfl,SqL.of eD6,rfl,x0,8,rfl,rfl,(by decide:(0:Int)<8),rfl,_,rfl,?_⟩
 refine ite2 (fun _=>?_) (fun _=>?_)
 ·refine⟨(by show 6≤sizeLine;decide),fun p hp=>?_⟩
  exact go dr x0 x1 y0 y1 y2 y3 y4 y5 b1.1 b1.2 hy p ["way","goal","begin","end","deed","look"] _ (S6.trans (qV hp _)) (by rw[qA (qB eD6 hp)];exact eD6) qW rfl qDh
 ·exact go dr x0 x1 y0 y1 y2 y3 y4 y5 b1.1 b1.2 hy wd ws H6 S6 eD6 eW6 hwl hwp.named

theorem vZ:xI ["deck","words","deep","kind","one"] ["deck","words","deep"] (xA (top 43)):=⟨rfl,rfl,rfl,by decide +kernel,rfl,by decide +kernel,by decide +kernel⟩
noncomputable def Expr' (ws:List Str):Th→Prop
 | .num n=>0≤n∧n<10
 | .box x=>x∈ws
 | .nul _=>False
 | .un _ _=>False
 | .bin k a b=>(k = "plus" ∨ k = "less")∧Expr' ws a∧Expr' ws b
theorem qQj:Th.Op "plus" := ⟨by decide +kernel,by decide +kernel⟩
theorem qQk:Th.Op "less" := ⟨by decide +kernel,by decide +kernel⟩
theorem Expr'.ok {ws:List Str}:∀{t:Th},Expr' ws t→t.Ok
 | .num _,_=>trivial
 | .box _,_=>trivial
 | .nul _,h=>h.elim
 | .un _ _,h=>h.elim
 | .bin k a b,⟨h,ha,hb⟩=>⟨by rcases h with rfl | rfl;exact qQj;exact qQk,Expr'.ok ha,Expr'.ok hb⟩
structure Dk (H:Hp)(dk wd:Addr)(ws:List Str):Prop where
 deck:∃d:Int,H dk=some (.lst [.int d])
 words:H wd=some (.lst (strsV ws))
 ne:ws≠[]
 le:ws.length≤100
 ap:wd≠dk
theorem Dk.but {H H':Hp}{dk wd:Addr}{ws:List Str}(D:Dk H dk wd ws)(b:But dk H H'){d:Int}(h:H' dk=some (.lst [.int d])):Dk H' dk wd ws:=⟨⟨d,h⟩,b _ _ D.ap D.words,D.ne,D.le,D.ap⟩
noncomputable def spExpr (n:Nat):Sp:=fun vs H Q _=>∃(dk wd:Addr) (ws:List Str) (dp:Int),vs=[.ref dk,.ref wd,.int dp]∧Dk H dk wd ws∧0≤dp∧dp<n∧
 ∀(t:Th) (v:V) (H':Hp),But dk H H'→Dk H' dk wd ws→t.At H' v→Expr' ws t→t.dep≤dp.toNat+1→Q v H'
theorem qHj {f:Addr}{fd:FuncData}:FnOk P w K mg base CX0 1 f fd ["deck","words","deep"] (spExpr 0):=by
 have no:∀vs H Q E,¬spExpr 0 vs H Q E:=fun vs H Q E h=>by
  obtain⟨_,_,_,dp,_,_,h1,h2,_⟩:=h
  omega
 exact⟨fun vs H Q E h=>absurd h (no vs H Q E),fun A outer s H args us vs Q E _ _ _ _ h=>absurd h (no vs H Q E)⟩
theorem qGq {ws:List Str}{i:Int}(h0:0≤i)(h1:i<ws.length):∃x,x∈ws∧atI (strsV ws) i=some (.str x):=by
 have e:i=((i.toNat:Nat):Int):=by omega
 have hk:i.toNat<ws.length:=by omega
 have z:atI (strsV ws) ((i.toNat:Nat):Int)=some (.str ws[i.toNat]):=yZ (by rw[List.getElem?_map,List.getElem?_eq_getElem hk];rfl)
 rw[← e] at z
 exact⟨_,List.getElem_mem hk,z⟩
theorem qHz {n:Nat}{f g:Addr}{fd gd:FuncData}(F:Fun K "_law_expr" "_law_expr" (top 43) f fd)(B:Bl mg)(G_law_expr:FnOk P w K mg base CX0 (n+1) f fd ["deck","words","deep"] (spExpr n))(E_law_expr:FunE K mg "_law_expr" f fd ["deck","words","deep"])
  (G_law_take:FnOk P w K mg base CX0 (n+1) g gd ["deck","many"] spTake) (E_law_take:FunE K mg "_law_take" g gd ["deck","many"]):FnOk P w K mg base CX0 (n+2) f fd ["deck","words","deep"] (spExpr (n+1)):=by
 refine F.ok vZ (fun vs H Q E h=>?_) (fun cdv A outer s H vs Q E hr h=>?_)
 ·obtain⟨_,_,_,_,rfl,_⟩:=h
  rfl
 obtain⟨dk,wd,ws,dp,rfl,D,h0,h1,q⟩:=h
 obtain⟨de,hde⟩:=D.deck
 refine⟨_,(qZ (qM (i:=3) vZ.nd rfl (by wtm_at "zo") (zF G_law_take hr rfl E_law_take.mg E_law_take.kp E_law_take.bd .nil pass0 (qQ (pv 0) (qQ qE qX))))
  (qZ (zB (PW.pt (qAo (qR jQ (pv 2) qE (xD _)) (qYq (qR qZn (pv 3) qE (xD _))))) (qZ (zB (qR jQ (xQ yW (pv 3) qE) qE (xD _)) (qJ (qN (zJ (qQ qF (qQ (zF G_law_take hr rfl E_law_take.mg E_law_take.kp E_law_take.bd .nil pass0 (qQ (pv 0) (qQ qE qX))) qX))))) qY)
  (qJ (qN (zJ (qQ qF (qQ (xH (qT (K:=K)) (pv 1) (zF G_law_take hr rfl E_law_take.mg E_law_take.kp E_law_take.bd .nil pass0 (qQ (pv 0) (qQ (xZ (jI (K:=K)) rfl B.len' kS (qQ (pv 1) qX)) qX))) (fun _ _=>rfl)) qX)))))) qY)
  (qZ (qM (i:=4) vZ.nd rfl (by wtm_at "zo") (zF G_law_expr hr rfl E_law_expr.mg E_law_expr.kp E_law_expr.bd .nil pass0 (qQ (pv 0) (qQ (pv 1) (qQ (xQ kB (pv 2) qE) qX)))))
  (qJ (qN (zJ (qQ (xH (qT (K:=K)) (zX (qQ qF (qQ qF qX))) (xQ kB (pv 3) qE) (fun _ _=>rfl)) (qQ (pv 4) (qQ (zF G_law_expr hr rfl E_law_expr.mg E_law_expr.kp E_law_expr.bd .nil pass0 (qQ (pv 0) (qQ (pv 1) (qQ (xQ kB (pv 2) qE) qX)))) qX))))))))),?_⟩
 refine⟨_,rfl,dk,5,de,rfl,hde,by decide,by decide +kernel,fun k d1 hk0 hk5=>?_⟩
 have B1:But dk H (upd H dk (.lst [.int d1])):=But.upd
 have D1:Dk (upd H dk (.lst [.int d1])) dk wd ws:=D.but B1 qW
 generalize upd H dk (.lst [.int d1])=H1 at B1 D1
 show tOr (tTest (tOp rEq (tVar 2) (tC (.int 0)))) (tTest (tOp (rI0 fun i j=>.bl (decide (i<j))) (tVar 3) (tC (.int 3)))) _ _ _
 refine qCo (b1:=decide (V.int dp=V.int 0)) (b2:=decide (k<3)) (fun K h=>⟨_,rfl,rfl,_,rfl,h⟩) (fun K h=>⟨_,rfl,_,_,rfl,rfl,_,rfl,h⟩) _ ?_
 refine ite2 (fun _=>?_) (fun c=>?_)
 ·-- a leaf
  refine⟨_,rfl,k,3,rfl,rfl,(by decide:(0:Int)<3),rfl,_,rfl,?_⟩
  obtain⟨d1',hd1⟩:=D1.deck
  refine ite2 (fun _=>?_) (fun _=>?_)
  ·refine⟨_,rfl,dk,10,d1',rfl,hd1,by decide,by decide +kernel,fun x d2 hx0 hx1=>?_⟩
   refine⟨(by show 2≤sizeLine;decide),fun t ht=>?_⟩
   have B2:But dk H1 (upd (upd H1 dk (.lst [.int d2])) t (.tup [.str "number",.int x])):=But.upd.trans (qV ht _).but
   refine q (.num x) (.ref t) _ (B1.trans B2) (D1.but B2 (d:=d2) ?_) ⟨t,rfl,qW⟩ ⟨hx0,hx1⟩ (by show 1≤_;omega)
   rw[qA (qB qW ht)]
   exact qW
  ·refine⟨_,rfl,_,rfl,_,rfl,wd,_,rfl,.inl (SqL.of D1.words),dk,_,d1',rfl,hd1,?_,?_,fun x d2 hx0 hx1=>?_⟩
   ·rw[xW]
    have:=List.length_pos_iff.mpr D1.ne
    omega
   ·rw[xW]
    have:=D1.le
    exact big _ (by omega) (Int.lt_of_le_of_lt (b:=100) (by omega) (by decide +kernel))
   ·rw[xW] at hx1
    obtain⟨x',hm,ex⟩:=qGq hx0 hx1
    have w2:upd H1 dk (.lst [.int d2]) wd=some (.lst (strsV ws)):=by rw[qA D1.ap];exact D1.words
    refine⟨wd,_,x,.str x',rfl,rfl,SqL.of w2,ex,(by show 2≤sizeLine;decide),fun t ht=>?_⟩
    have B2:But dk H1 (upd (upd H1 dk (.lst [.int d2])) t (.tup [.str "box",.str x'])):=But.upd.trans (qV ht _).but
    refine q (.box x') (.ref t) _ (B1.trans B2) (D1.but B2 (d:=d2) ?_) ⟨t,rfl,qW⟩ hm (by show 1≤_;omega)
    rw[qA (qB qW ht)]
    exact qW
 have c1:¬(V.int dp=V.int 0):=fun z=>c (by rw[decide_eq_true z];rfl)
 have c2:¬k<3:=fun z=>c (by rw[decide_eq_true z,Bool.or_true])
 have dp1:dp≠0:=fun z=>c1 (by rw[z])
 refine⟨_,rfl,_,rfl,_,rfl,_,1,rfl,rfl,dk,wd,ws,dp - 1,rfl,D1,by omega,by omega,fun t1 v1 H2 B2 D2 a1 x1 d1=>?_⟩
 refine⟨(by show 2≤sizeLine;decide),fun l hl=>?_⟩
 have key:∃op:Str,(op = "plus" ∨ op = "less")∧atI [V.str "plus",V.str "less"] (k - 3)=some (.str op):=by
  have:k - 3=0∨k - 3=1:=by omega
  rcases this with e | e
  ·exact⟨"plus",.inl rfl,by rw[e];rfl⟩
  ·exact⟨"less",.inr rfl,by rw[e];rfl⟩
 obtain⟨op,hop,eop⟩:=key
 refine⟨_,rfl,k,3,rfl,rfl,l,_,k - 3,.str op,rfl,rfl,SqL.of qW,eop,_,rfl,_,rfl,_,rfl,_,rfl,_,1,rfl,rfl,dk,wd,ws,dp - 1,rfl,?_,by omega,by omega,fun t2 v2 H3 B3 D3 a2 x2 d2=>?_⟩
 ·obtain⟨d2',hd2⟩:=D2.deck
  exact D2.but (qV hl _).but (d:=d2') (by rw[qA (qB hd2 hl)];exact hd2)
 ·refine⟨(by show 3≤sizeLine;decide),fun t ht=>?_⟩
  have B4:But dk H (upd H3 t (.tup [.str op,v1,v2])):=B1.trans (B2.trans ((qV hl _).but.trans (B3.trans (qV ht _).but)))
  obtain⟨d3',hd3⟩:=D3.deck
  obtain⟨d2',hd2⟩:=D2.deck
  have T2:Tups H2 (upd H3 t (.tup [.str op,v1,v2])):=(qC (qV hl _)).trans ((yY B3 (by rw[qA (qB hd2 hl)];exact hd2)).trans (qC (qV ht _)))
  refine q (.bin op t1 t2) (.ref t) _ B4 (D.but B4 (d:=d3') (by rw[qA (qB hd3 ht)];exact hd3)) ⟨t,v1,v2,rfl,qW,a1.mono T2,a2.mono (qC (qV ht _))⟩ ⟨hop,x1,x2⟩ ?_
  show max t1.dep t2.dep+1≤_
  omega
theorem qDb {f g:Addr}{fd gd:FuncData}(F:Fun K "_law_expr" "_law_expr" (top 43) f fd)(B:Bl mg)(E_law_expr:FunE K mg "_law_expr" f fd ["deck","words","deep"])
  (G:FnOk P w K mg base CX0 1 g gd ["deck","many"] spTake) (E_law_take:FunE K mg "_law_take" g gd ["deck","many"]):∀n:Nat,FnOk P w K mg base CX0 (n+1) f fd ["deck","words","deep"] (spExpr n)
 | 0=>qHj
 | n+1=>qHz F B (qDb F B E_law_expr G E_law_take n) E_law_expr (G.mono (by omega)) E_law_take

theorem yO:xI ["deck","words","deep","kind","one"] ["deck","words","deep"] (xA (top 44)):=⟨rfl,rfl,rfl,by decide +kernel,rfl,by decide +kernel,by decide +kernel⟩
noncomputable def Cond' (ws:List Str):Th→Prop
 | .num _=>False
 | .box _=>False
 | .nul k=>k = "yes"
 | .un k a=>k = "not" ∧ Cond' ws a
 | .bin k a b=>((k = "same" ∨ k = "under")∧Expr' ws a∧Expr' ws b)∨(k = "both" ∧ Cond' ws a∧Cond' ws b)
theorem qNc:Th.Op "same" := ⟨by decide +kernel,by decide +kernel⟩
theorem qHq:Th.Op "under" := ⟨by decide +kernel,by decide +kernel⟩
theorem qNm:Th.Op "both" := ⟨by decide +kernel,by decide +kernel⟩
theorem qRf:Th.Op "not" := ⟨by decide +kernel,by decide +kernel⟩
theorem qRd:Th.Op "yes" := ⟨by decide +kernel,by decide +kernel⟩
theorem Cond'.ok {ws:List Str}:∀{t:Th},Cond' ws t→t.Ok
 | .num _,h=>h.elim
 | .box _,h=>h.elim
 | .nul k,h=>by cases(show k = "yes" from h);exact qRd
 | .un k a,⟨h,ha⟩=>⟨by cases h;exact qRf,Cond'.ok ha⟩
 | .bin k a b,h=>by
  rcases h with⟨h,ha,hb⟩ | ⟨h,ha,hb⟩
  ·exact⟨by rcases h with rfl | rfl;exact qNc;exact qHq,ha.ok,hb.ok⟩
  ·exact⟨by cases h;exact qNm,Cond'.ok ha,Cond'.ok hb⟩
noncomputable def spCond (n:Nat):Sp:=fun vs H Q _=>∃(dk wd:Addr) (ws:List Str) (dp:Int),vs=[.ref dk,.ref wd,.int dp]∧Dk H dk wd ws∧0≤dp∧dp<n∧
 ∀(t:Th) (v:V) (H':Hp),But dk H H'→Dk H' dk wd ws→t.At H' v→Cond' ws t→t.dep≤dp.toNat+4→Q v H'
theorem qHw {f:Addr}{fd:FuncData}:FnOk P w K mg base CX0 1 f fd ["deck","words","deep"] (spCond 0):=by
 have no:∀vs H Q E,¬spCond 0 vs H Q E:=fun vs H Q E h=>by
  obtain⟨_,_,_,dp,_,_,h1,h2,_⟩:=h
  omega
 exact⟨fun vs H Q E h=>absurd h (no vs H Q E),fun A outer s H args us vs Q E _ _ _ _ h=>absurd h (no vs H Q E)⟩
theorem Dk.new {H:Hp}{dk wd p:Addr}{ws:List Str}{o:HO}(D:Dk H dk wd ws)(hp:H p=none):Dk (upd H p o) dk wd ws:=by
 obtain⟨d,hd⟩:=D.deck
 exact D.but (qV hp _).but (d:=d) (by rw[qA (qB hd hp)];exact hd)
theorem qHv {n:Nat}{f g e:Addr}{fd gd ed:FuncData}(F:Fun K "_law_cond" "_law_cond" (top 44) f fd)(B:Bl mg)(G_law_cond:FnOk P w K mg base CX0 (n+5) f fd ["deck","words","deep"] (spCond n))(E_law_cond:FunE K mg "_law_cond" f fd ["deck","words","deep"])
  (G_law_expr:FnOk P w K mg base CX0 (n+5) e ed ["deck","words","deep"] (spExpr 3)) (E_law_expr:FunE K mg "_law_expr" e ed ["deck","words","deep"])
  (G_law_take:FnOk P w K mg base CX0 (n+5) g gd ["deck","many"] spTake) (E_law_take:FunE K mg "_law_take" g gd ["deck","many"]):FnOk P w K mg base CX0 (n+6) f fd ["deck","words","deep"] (spCond (n+1)):=by
 refine F.ok yO (fun vs H Q E h=>?_) (fun cdv A outer s H vs Q E hr h=>?_)
 ·obtain⟨_,_,_,_,rfl,_⟩:=h
  rfl
 obtain⟨dk,wd,ws,dp,rfl,D,h0,h1,q⟩:=h
 obtain⟨de,hde⟩:=D.deck
 refine⟨_,(qZ (qM (i:=3) yO.nd rfl (by wtm_at "zo") (zF G_law_take hr rfl E_law_take.mg E_law_take.kp E_law_take.bd .nil pass0 (qQ (pv 0) (qQ qE qX))))
  (qZ (zB (PW.pt (qAo (qR jQ (pv 2) qE (xD _)) (qYq (qR qZn (pv 3) qE (xD _))))) (qZ (zB (qR jQ (pv 3) qE (xD _)) (qJ (qN (zJ (qQ qF qX)))) qY)
  (qZ (qM (i:=4) yO.nd rfl (by wtm_at "zo") (zF G_law_expr hr rfl E_law_expr.mg E_law_expr.kp E_law_expr.bd .nil pass0 (qQ (pv 0) (qQ (pv 1) (qQ qE qX)))))
  (qJ (qN (zJ (qQ (xH (qT (K:=K)) (zX (qQ qF (qQ qF qX))) (xQ yW (pv 3) qE) (fun _ _=>rfl)) (qQ (pv 4) (qQ (zF G_law_expr hr rfl E_law_expr.mg E_law_expr.kp E_law_expr.bd .nil pass0 (qQ (pv 0) (qQ (pv 1) (qQ qE qX)))) qX)))))))) qY)
  (qZ (qM (i:=4) yO.nd rfl (by wtm_at "zo") (zF G_law_cond hr rfl E_law_cond.mg E_law_cond.kp E_law_cond.bd .nil pass0 (qQ (pv 0) (qQ (pv 1) (qQ (xQ kB (pv 2) qE) qX)))))
  (qZ (zB (qR qZn (pv 3) qE (xD _)) (qJ (qN (zJ (qQ qF (qQ (pv 4) qX))))) qY)
  (qJ (qN (zJ (qQ qF (qQ (pv 4) (qQ (zF G_law_cond hr rfl E_law_cond.mg E_law_cond.kp E_law_cond.bd .nil pass0 (qQ (pv 0) (qQ (pv 1) (qQ (xQ kB (pv 2) qE) qX)))) qX)))))))))),?_⟩
 refine⟨_,rfl,dk,7,de,rfl,hde,by decide,by decide +kernel,fun k d1 hk0 hk5=>?_⟩
 have B1:But dk H (upd H dk (.lst [.int d1])):=But.upd
 have D1:Dk (upd H dk (.lst [.int d1])) dk wd ws:=D.but B1 qW
 generalize upd H dk (.lst [.int d1])=H1 at B1 D1
 show tOr (tTest (tOp rEq (tVar 2) (tC (.int 0)))) (tTest (tOp (rI0 fun i j=>.bl (decide (i<j))) (tVar 3) (tC (.int 3)))) _ _ _
 refine qCo (b1:=decide (V.int dp=V.int 0)) (b2:=decide (k<3)) (fun K h=>⟨_,rfl,rfl,_,rfl,h⟩) (fun K h=>⟨_,rfl,_,_,rfl,rfl,_,rfl,h⟩) _ ?_
 refine ite2 (fun _=>?_) (fun c=>?_)
 ·refine⟨_,rfl,rfl,_,rfl,?_⟩
  refine ite2 (fun _=>?_) (fun _=>?_)
  ·refine⟨(by show 1≤sizeLine;decide),fun t ht=>?_⟩
   exact q (.nul "yes") (.ref t) _ (B1.trans (qV ht _).but) (D1.new ht) ⟨t,rfl,qW⟩ rfl (by show 1≤_;omega)
  ·refine⟨_,rfl,_,rfl,dk,wd,ws,2,rfl,D1,by decide,by decide,fun t1 v1 H2 B2 D2 a1 x1 d1=>?_⟩
   refine⟨(by show 2≤sizeLine;decide),fun l hl=>?_⟩
   have key:∃op:Str,(op = "same" ∨ op = "under")∧atI [V.str "same",V.str "under"] (k % 2)=some (.str op):=by
    have:k % 2=0∨k % 2=1:=by omega
    rcases this with e | e
    ·exact⟨"same",.inl rfl,by rw[e];rfl⟩
    ·exact⟨"under",.inr rfl,by rw[e];rfl⟩
   obtain⟨op,hop,eop⟩:=key
   refine⟨_,rfl,k,2,rfl,rfl,(by decide:(0:Int)<2),l,_,k % 2,.str op,rfl,rfl,SqL.of qW,eop,_,rfl,_,rfl,_,rfl,dk,wd,ws,2,rfl,D2.new hl,by decide,by decide,fun t2 v2 H3 B3 D3 a2 x2 d2=>?_⟩
   refine⟨(by show 3≤sizeLine;decide),fun t ht=>?_⟩
   obtain⟨d2',hd2⟩:=D2.deck
   have T2:Tups H2 (upd H3 t (.tup [.str op,v1,v2])):=(qC (qV hl _)).trans ((yY B3 (by rw[qA (qB hd2 hl)];exact hd2)).trans (qC (qV ht _)))
   refine q (.bin op t1 t2) (.ref t) _ (B1.trans (B2.trans ((qV hl _).but.trans (B3.trans (qV ht _).but)))) (D3.new ht) ⟨t,v1,v2,rfl,qW,a1.mono T2,a2.mono (qC (qV ht _))⟩ (.inl ⟨hop,x1,x2⟩) ?_
   have e3:(2:Int).toNat+1=3:=rfl
   rw[e3] at d1 d2
   show max t1.dep t2.dep+1≤_
   omega
 have c1:¬(V.int dp=V.int 0):=fun z=>c (by rw[decide_eq_true z];rfl)
 have dp1:dp≠0:=fun z=>c1 (by rw[z])
 refine⟨_,rfl,_,rfl,_,rfl,_,1,rfl,rfl,dk,wd,ws,dp - 1,rfl,D1,by omega,by omega,fun t1 v1 H2 B2 D2 a1 x1 d1=>?_⟩
 refine⟨_,rfl,_,_,rfl,rfl,_,rfl,?_⟩
 refine ite2 (fun _=>?_) (fun _=>?_)
 ·refine⟨_,rfl,(by show 2≤sizeLine;decide),fun t ht=>?_⟩
  refine q (.un "not" t1) (.ref t) _ (B1.trans (B2.trans (qV ht _).but)) (D2.new ht) ⟨t,v1,rfl,qW,a1.mono (qC (qV ht _))⟩ ⟨rfl,x1⟩ ?_
  show t1.dep+1≤_
  omega
 ·refine⟨_,rfl,_,rfl,_,rfl,_,rfl,_,1,rfl,rfl,dk,wd,ws,dp - 1,rfl,D2,by omega,by omega,fun t2 v2 H3 B3 D3 a2 x2 d2=>?_⟩
  refine⟨(by show 3≤sizeLine;decide),fun t ht=>?_⟩
  obtain⟨d2',hd2⟩:=D2.deck
  have T2:Tups H2 (upd H3 t (.tup [.str "both",v1,v2])):=(yY B3 hd2).trans (qC (qV ht _))
  refine q (.bin "both" t1 t2) (.ref t) _ (B1.trans (B2.trans (B3.trans (qV ht _).but))) (D3.new ht) ⟨t,v1,v2,rfl,qW,a1.mono T2,a2.mono (qC (qV ht _))⟩ (.inr ⟨rfl,x1,x2⟩) ?_
  show max t1.dep t2.dep+1≤_
  omega
theorem qDc {f g e:Addr}{fd gd ed:FuncData}(F:Fun K "_law_cond" "_law_cond" (top 44) f fd)(B:Bl mg)(E_law_cond:FunE K mg "_law_cond" f fd ["deck","words","deep"])
  (GE:FnOk P w K mg base CX0 4 e ed ["deck","words","deep"] (spExpr 3)) (E_law_expr:FunE K mg "_law_expr" e ed ["deck","words","deep"])
  (G:FnOk P w K mg base CX0 1 g gd ["deck","many"] spTake) (E_law_take:FunE K mg "_law_take" g gd ["deck","many"]):∀n:Nat,FnOk P w K mg base CX0 (n+5) f fd ["deck","words","deep"] (spCond n)
 | 0=>qHw.mono (by omega)
 | n+1=>qHv F B (qDc F B E_law_cond GE E_law_expr G E_law_take n) E_law_cond (GE.mono (by omega)) E_law_expr (G.mono (by omega)) E_law_take

noncomputable def Th.worth (ρ:Str→Int):Th→Int
 | .num n=>n
 | .box x=>ρ x
 | .nul _=>0
 | .un _ _=>0
 | .bin k a b=>if k = "plus" then a.worth ρ+b.worth ρ else a.worth ρ - b.worth ρ
theorem qRo:("less" : Str) ≠ "plus" := by decide +kernel
noncomputable def Env' (kvs:List (Key×V))(ws:List Str)(ρ:Str→Int):Prop:=∀x∈ws,valV kvs (Sum.inr x)=some (.int (ρ x))∧0≤ρ x∧ρ x<10

theorem yN:xI ["expression","values","kind","one","other"] ["expression","values"] (xA (top 7)):=⟨rfl,rfl,rfl,by decide +kernel,rfl,by decide +kernel,by decide +kernel⟩
noncomputable def jT (n:Nat):Sp:=fun vs H Q _=>∃(t:Th) (v:V) (d:Addr) (kvs:List (Key×V)) (ws:List Str) (ρ:Str→Int),vs=[v,.ref d]∧t.At H v∧Expr' ws t∧t.dep≤n∧H d=some (.dK kvs)∧Env' kvs ws ρ∧Q (.int (t.worth ρ)) H
theorem qYk {f:Addr}{fd:FuncData}:FnOk P w K mg base CX0 1 f fd ["expression","values"] (jT 0):=by
 have no:∀vs H Q E,¬jT 0 vs H Q E:=fun vs H Q E h=>by
  obtain⟨t,_,_,_,_,_,_,_,_,h1,_⟩:=h
  have:=t.dep_pos
  omega
 exact⟨fun vs H Q E h=>absurd h (no vs H Q E),fun A outer s H args us vs Q E _ _ _ _ h=>absurd h (no vs H Q E)⟩
theorem qYj {n:Nat}{f:Addr}{fd:FuncData}(F:Fun K "worth_by" "worth_by" (top 7) f fd)(G_worth_by:FnOk P w K mg base CX0 (n+1) f fd ["expression","values"] (jT n))(E_worth_by:FunE K mg "worth_by" f fd ["expression","values"]):
  FnOk P w K mg base CX0 (n+2) f fd ["expression","values"] (jT (n+1)):=by
 refine F.ok yN (fun vs H Q E h=>?_) (fun cdv A outer s H vs Q E hr h=>?_)
 ·obtain⟨_,_,_,_,_,_,rfl,_⟩:=h
  rfl
 obtain⟨t,v,d,kvs,ws,ρ,rfl,at',ex,hn,hd,env,q⟩:=h
 have hu:=qOb hr
 refine⟨_,(qZ (qM (i:=2) yN.nd rfl (by wtm_at "zo") (xH (qS (K:=K)) (pv 0) qE (fun _ _=>rfl)))
  (qZ (zB (qR jQ (pv 2) qF (xD _)) (qJ (qN (xH (qS (K:=K)) (pv 0) qE (fun _ _=>rfl)))) qY)
  (qZ (zB (qR jQ (pv 2) qF (xD _)) (qJ (qN (qKo hu (pv 1) (xH (qS (K:=K)) (pv 0) qE (fun _ _=>rfl)) (fun _ _=>rfl)))) qY)
  (qZ (qM (i:=3) yN.nd rfl (by wtm_at "zo") (zF G_worth_by hr rfl E_worth_by.mg E_worth_by.kp E_worth_by.bd .nil pass0 (qQ (xH (qS (K:=K)) (pv 0) qE (fun _ _=>rfl)) (qQ (pv 1) qX))))
  (qZ (qM (i:=4) yN.nd rfl (by wtm_at "zo") (zF G_worth_by hr rfl E_worth_by.mg E_worth_by.kp E_worth_by.bd .nil pass0 (qQ (xH (qS (K:=K)) (pv 0) qE (fun _ _=>rfl)) (qQ (pv 1) qX))))
  (qJ (qN (vA (qR jQ (pv 2) qF (xD _)) (xQ zO (pv 3) (pv 4)) (xQ kB (pv 3) (pv 4)))))))))),?_⟩
 cases t with
 | nul _=>exact False.elim ex
 | un _ _=>exact False.elim ex
 | num n=>
  obtain⟨a,ev,ea⟩:=at'
  subst ev
  refine⟨_,rfl,a,_,0,.str "number",rfl,rfl,SqT.of ea,rfl,?_⟩
  refine⟨_,rfl,rfl,_,rfl,?_⟩
  rw[zN]
  refine iteT ?_
  exact⟨_,rfl,a,_,1,.int n,rfl,rfl,SqT.of ea,rfl,q⟩
 | box x=>
  obtain⟨a,ev,ea⟩:=at'
  subst ev
  refine⟨_,rfl,a,_,0,.str "box",rfl,rfl,SqT.of ea,rfl,?_⟩
  refine⟨_,rfl,rfl,_,rfl,?_⟩
  rw[xV (Ne.symm qOj)]
  refine iteF ?_
  refine⟨_,rfl,rfl,_,rfl,?_⟩
  rw[zN]
  refine iteT ?_
  refine⟨_,rfl,_,rfl,a,_,1,.str x,rfl,rfl,SqT.of ea,rfl,d,.int (ρ x),rfl,?_,q⟩
  rw[← (env x ex).1]
  exact DGet.k (k:=Sum.inr x) hd
 | bin k t1 t2=>
  obtain⟨a,u1,u2,ev,ea,a1,a2⟩:=at'
  obtain⟨hk,x1,x2⟩:=ex
  subst ev
  have hn':max t1.dep t2.dep+1≤n+1:=hn
  have k1:k ≠ "number" := by rcases hk with rfl | rfl;exact qQj.2;exact qQk.2
  have k2:k ≠ "box" := by rcases hk with rfl | rfl;exact qQj.1;exact qQk.1
  refine⟨_,rfl,a,_,0,.str k,rfl,rfl,SqT.of ea,rfl,?_⟩
  refine⟨_,rfl,rfl,_,rfl,?_⟩
  rw[xV k1]
  refine iteF ?_
  refine⟨_,rfl,rfl,_,rfl,?_⟩
  rw[xV k2]
  refine iteF ?_
  refine⟨_,rfl,a,_,1,u1,rfl,rfl,SqT.of ea,rfl,_,rfl,t1,u1,d,kvs,ws,ρ,rfl,a1,x1,by omega,hd,env,?_⟩
  refine⟨_,rfl,a,_,2,u2,rfl,rfl,SqT.of ea,rfl,_,rfl,t2,u2,d,kvs,ws,ρ,rfl,a2,x2,by omega,hd,env,?_⟩
  refine⟨_,rfl,rfl,_,rfl,?_⟩
  have q':Q (.int (if k = "plus" then t1.worth ρ+t2.worth ρ else t1.worth ρ - t2.worth ρ)) H:=q
  refine ite2 (fun c=>?_) (fun c=>?_)
  ·have c':k = "plus" := by
    have z:=of_decide_eq_true c
    cases z
    rfl
   rw[if_pos c'] at q'
   exact⟨_,rfl,_,rfl,_,_,rfl,rfl,q'⟩
  ·have c':k ≠ "plus" := fun z=>c (by rw[z,zN])
   rw[if_neg c'] at q'
   exact⟨_,rfl,_,rfl,_,_,rfl,rfl,q'⟩
theorem qQw {f:Addr}{fd:FuncData}(F:Fun K "worth_by" "worth_by" (top 7) f fd)(E_worth_by:FunE K mg "worth_by" f fd ["expression","values"]):∀n:Nat,FnOk P w K mg base CX0 (n+1) f fd ["expression","values"] (jT n)
 | 0=>qYk
 | n+1=>qYj F (qQw F E_worth_by n) E_worth_by

theorem qXg {x:Str}:∀(kvs:List (Str×V)) (acc:List (Key×V)),((valV acc (Sum.inr x)).isSome=true∨x∈kvs.map (·.1))→(valV (mergeK acc (pairK kvs)) (Sum.inr x)).isSome=true
 | [],acc,h=>by rcases h with h | h;exact h;cases h
 | (n,v)::kvs,acc,h=>by
  show(valV (mergeK (putK acc (Sum.inr n) v) (pairK kvs)) (Sum.inr x)).isSome=true
  refine qXg kvs _ ?_
  rw[qWx]
  by_cases e:x=n
  ·left;subst e;rw[if_pos rfl];rfl
  ·rw[if_neg (fun z=>e (Sum.inr.inj z))]
   rcases h with h | h
   ·exact .inl h
   ·rcases List.mem_cons.mp h with h | h
    ·exact absurd h e
    ·exact .inr h
theorem qYa {Pr:V→Prop}:∀(kvs:List (Str×V)) (acc:List (Key×V)),(∀kv∈kvs,Pr kv.2)→(∀k v,valV acc k=some v→Pr v)→∀k v,valV (mergeK acc (pairK kvs)) k=some v→Pr v
 | [],acc,_,h=>h
 | (n,v)::kvs,acc,hk,h=>by
  show∀k v',valV (mergeK (putK acc (Sum.inr n) v) (pairK kvs)) k=some v'→Pr v'
  refine qYa kvs _ (fun kv hkv=>hk kv (List.mem_cons_of_mem _ hkv)) fun k v' e=>?_
  rw[qWx] at e
  by_cases c:k=Sum.inr n
  ·rw[if_pos c] at e;cases e;exact hk (n,v) List.mem_cons_self
  ·rw[if_neg c] at e;exact h k v' e
noncomputable def envOf (kvs:List (Key×V))(x:Str):Int:=match valV kvs (Sum.inr x) with
 | some (.int i)=>i
 | _=>0
noncomputable abbrev kvsOf (bs:List (Str×Int))(vals:List Int):List (Key×V):=mergeK [] (zipK (bs.map (·.1)) (intsV vals))
noncomputable def Stands (bs:List (Str×Int))(vals:List Int):Prop:=vals.length=bs.length∧∀v∈vals,0≤v∧v<10
theorem qMw {bs:List (Str×Int)}{vals:List Int}(h:Stands bs vals):Env' (kvsOf bs vals) (bs.map (·.1)) (envOf (kvsOf bs vals)):=fun x hx=>by
 have s1:(valV (kvsOf bs vals) (Sum.inr x)).isSome=true:=qXg (x:=x) ((bs.map (fun b:Str×Int=>b.1)).zip (intsV vals)) [] (.inr (by
  rw[List.map_fst_zip]
  ·exact hx
  ·rw[List.length_map,yG,h.1];exact Nat.le_refl _))
 have s2:=qYa (Pr:=fun v=>∃i:Int,v=.int i∧0≤i∧i<10) ((bs.map (fun b:Str×Int=>b.1)).zip (intsV vals)) [] (fun kv hkv=>by
  obtain⟨a,b⟩:=kv
  obtain⟨i,hi,e⟩:=List.mem_map.mp (List.of_mem_zip hkv).2
  exact⟨i,e.symm,h.2 i hi⟩) (fun k v e=>by cases e) (Sum.inr x)
 cases e:valV (kvsOf bs vals) (Sum.inr x) with
 | none=>rw[e] at s1;cases s1
 | some v=>
  obtain⟨i,rfl,h0,h1⟩:=s2 v e
  have e2:envOf (kvsOf bs vals) x=i:=by unfold envOf;rw[e]
  rw[e2]
  exact⟨rfl,h0,h1⟩

theorem vS:xI ["boxes","standing"] ["boxes","standing"] (xA (top 6)):=⟨rfl,rfl,rfl,by decide +kernel,rfl,by decide +kernel,by decide +kernel⟩
theorem jD:CompOk (xA (top 6)) ["boxes","standing"] (qKe (argOf (argOf (asgVal (stAt (xB (top 6)) 0)) 0) 0)) ["name","size"] 2 []:=
 ⟨by decide +kernel,by decide +kernel,by decide +kernel,by decide +kernel,by decide +kernel,by decide +kernel,by decide +kernel,by decide +kernel⟩
structure World' (H:Hp)(bx st:Addr)(bs:List (Str×Int))(vals:List Int):Prop where
 boxes:∃us,H bx=some (.lst us)∧Paired (BoxIn H) bs us
 stand:H st=some (.tup (intsV vals))
 ok:Stands bs vals
 le:bs.length≤100
noncomputable def wD:Sp:=fun vs H Q _=>∃(bx st:Addr) (bs:List (Str×Int)) (vals:List Int),vs=[.ref bx,.ref st]∧World' H bx st bs vals∧
 ∀(p:Addr) (H':Hp),Same H H'→H' p=some (.dK (kvsOf bs vals))→Q (.ref p) H'
theorem qDj {f:Addr}{fd:FuncData}(F:Fun K "values_by_name" "values_by_name" (top 6) f fd)(B:Bl mg):FnOk P w K mg base CX0 1 f fd ["boxes","standing"] wD:=by
 refine F.ok vS (fun vs H Q E h=>?_) (fun cdv A outer s H vs Q E hr h=>?_)
 ·obtain⟨_,_,_,_,rfl,_⟩:=h
  rfl
 obtain⟨bx,st,bs,vals,rfl,W,q⟩:=h
 obtain⟨us,e1,p1⟩:=W.boxes
 refine⟨_,qJ (qN (qKn rfl rfl B.dict' rfl B.zip' (qQ (jW rfl jD (qCl (pv 0))
  (fun cl fp s H=>show PG _ _ (gTup K 2 (gCons (gName 0) (gCons (gName 1) gNil))) from qIg rfl (qH (qG (i:=0) jD.nd rfl (Or.inl rfl) (.inr rfl)) (qH (qG (i:=1) jD.nd rfl (Or.inl rfl) (.inr rfl)) qI)))
  (fun cl fp s H=>zS) (fun cl fp s H=>pv 0)) (qQ (pv 1) qX)))),?_⟩
 refine⟨_,rfl,bx,rfl,⟨us,SqL.of e1⟩,?_⟩
 refine zM (xs:=us) (fun D i ys H'=>ys=strsV ((bs.take i).map (·.1))∧∀b o,H b=some o→H' b=some o) (fun D hD=>⟨rfl,qV hD _⟩)
  (fun D i ys H' _ hP=>(show Same H H' from hP.2).seq (SqL.of e1)) (fun D i x ys H' N hD hDy ex hP hN=>?_) (fun D ys H2 hD hDy hP=>?_)
 ·obtain⟨rfl,hk⟩:=hP
  obtain⟨b,eb⟩:∃b,bs[i]? = some b:=⟨_,List.getElem?_eq_getElem (by rw[p1.length];exact(List.getElem?_eq_some_iff.mp ex).1)⟩
  obtain⟨ba,rfl,hba⟩:=xK p1 eb ex
  refine⟨ba,_,rfl,SqT.of (hk _ _ hba),rfl,_,_,rfl,_,_,rfl,rfl,⟨[some (.str b.1),some (.int b.2)],rfl,rfl⟩,?_⟩
  have wle:=W.le
  refine⟨_,rfl,hDy,?_,hN _ _ qW ⟨?_,fun b o e=>?_⟩⟩
  ·rw[xW,List.length_map,List.length_take];exact small (by omega)
  ·rw[List.take_add_one,eb,List.map_append,xR];rfl
  ·rw[qA (qB e hD)];exact hk _ _ e
 obtain⟨rfl,hk2⟩:=hP
 have lb:us.length=bs.length:=p1.length.symm
 rw[lb,List.take_length] at hDy
 have wle:=W.le
 refine⟨_,rfl,D,st,bs.map (·.1),intsV vals,rfl,SqL.of hDy,SqT.of (hk2 _ _ W.stand),?_,?_,fun p hp=>?_⟩
 ·rw[List.length_map,yG,W.ok.1]
 ·rw[List.length_map];omega
 ·exact q p _ ((show Same H H2 from hk2).trans (qV hp _)) qW

theorem qZm:xI ["boxes","standing"] ["boxes","standing"] (xA (top 47)):=⟨rfl,rfl,rfl,by decide +kernel,rfl,by decide +kernel,by decide +kernel⟩
theorem vG:CompOk (xA (top 47)) ["boxes","standing"] (qKe (argOf (asgVal (stAt (xB (top 47)) 0)) 0)) ["k","boxes","standing"] 1 [0,1]:=
 ⟨by decide +kernel,by decide +kernel,by decide +kernel,by decide +kernel,by decide +kernel,by decide +kernel,by decide +kernel,by decide +kernel⟩
theorem qBj {H H':Hp}(h:Tups H H'){kvs:List (Str×V)}{us:List V}(p:Paired (PairIn H) kvs us):Paired (PairIn H') kvs us:=Paired.mapP p fun _ _ x=>let ⟨a,e,q⟩:=x;⟨a,e,h _ _ q⟩
theorem qBk {f:Addr}{fd:FuncData}(F:Fun K "_law_values" "_law_values" (top 47) f fd)(B:Bl mg):FnOk P w K mg base CX0 1 f fd ["boxes","standing"] wD:=by
 refine F.ok qZm (fun vs H Q E h=>?_) (fun cdv A outer s H vs Q E hr h=>?_)
 ·obtain⟨_,_,_,_,rfl,_⟩:=h
  rfl
 obtain⟨bx,st,bs,vals,rfl,W,q⟩:=h
 obtain⟨us,e1,p1⟩:=W.boxes
 have wle:=W.le
 have lb:us.length=bs.length:=p1.length.symm
 have lv:=W.ok.1
 refine⟨_,qJ (qN (xX (qKq rfl) rfl B.dict' qFm (qQ (jW rfl vG (zT rfl B.range' (qQ (xZ wW rfl B.len' kS (qQ (pv 0) qX)) qX))
  (fun cl fp s H=>qG (i:=0) vG.nd rfl (Or.inl rfl) (.inr rfl)) (fun cl fp s H=>zS)
  (fun cl fp s H=>zJ (qQ (xH (r:=rIxT K) qEb (xH (r:=rIxL K) qEc (pv 1) (pv 0) (fun _ _=>rfl)) qE (fun _ _=>rfl)) (qQ (xH (r:=rIxT K) qEb (pv 2) (pv 0) (fun _ _=>rfl)) qX)))) qX))),?_⟩
 refine⟨_,rfl,bx,_,rfl,.inl (SqL.of e1),_,rfl,by omega,by omega,?_⟩
 have e0:((us.length:Nat):Int).toNat=us.length:=by omega
 rw[e0]
 refine qZz (fun D i ys H'=>Paired (PairIn H') (((bs.map (·.1)).zip (intsV vals)).take i) ys∧∀b o,H b=some o→H' b=some o) (fun D hD=>⟨.nil,qV hD _⟩)
  (fun D i ys H' N hD hDy hi hP hN=>?_) (fun D ys H2 hD hDy hP=>?_)
 ·obtain⟨hp,hk⟩:=hP
  obtain⟨b,eb⟩:∃b,bs[i]? = some b:=⟨_,List.getElem?_eq_getElem (by omega)⟩
  obtain⟨u,eu⟩:∃u,us[i]? = some u:=⟨_,List.getElem?_eq_getElem hi⟩
  obtain⟨v,ev⟩:∃v,vals[i]? = some v:=⟨_,List.getElem?_eq_getElem (by omega)⟩
  obtain⟨ba,rfl,hba⟩:=xK p1 eb eu
  have lp:=hp.length
  rw[List.length_take,List.length_zip,List.length_map,yG] at lp
  refine⟨⟨[some (.int (0+(i:Int)))],rfl,rfl⟩,?_⟩
  have at1:atI us (0+(i:Int))=some (.ref ba):=by rw[Int.zero_add];exact yZ eu
  have at2:atI (intsV vals) (0+(i:Int))=some (.int v):=by rw[Int.zero_add];exact qAc ev
  refine⟨_,rfl,_,rfl,bx,us,_,.ref ba,rfl,rfl,SqL.of (hk _ _ e1),at1,ba,_,0,.str b.1,rfl,rfl,SqT.of (hk _ _ hba),rfl,_,rfl,_,rfl,st,_,_,.int v,rfl,rfl,SqT.of (hk _ _ W.stand),at2,(by show 2≤sizeLine;decide),fun t ht=>?_⟩
  have Dt:D≠t:=qB hDy ht
  refine⟨by rw[qA Dt];exact hDy,by exact small (by omega),hN _ _ qW ⟨?_,fun b o e=>?_⟩⟩
  ·have T1:Tups H' (upd (upd H' t (.tup [.str b.1,.int v])) D (.lst (ys++[.ref t]))):=fun b xs e=>by rw[qA (vJ e hDy (by intro z;cases z)),qA (qB e ht)];exact e
   have ez:((bs.map (·.1)).zip (intsV vals))[i]? = some (b.1,.int v):=List.getElem?_zip_eq_some.mpr ⟨by rw[List.getElem?_map,eb];rfl,by rw[List.getElem?_map,ev];rfl⟩
   rw[List.take_add_one,ez]
   exact Paired.snoc (qBj T1 hp) ⟨t,rfl,by rw[qA (Ne.symm Dt)];exact qW⟩
  ·rw[qA (qB e hD),qA (qB (hk _ _ e) ht)];exact hk _ _ e
 obtain⟨hp,hk⟩:=hP
 have lz:((bs.map (·.1)).zip (intsV vals)).length=us.length:=by rw[List.length_zip,List.length_map,yG];omega
 rw[← lz,List.take_length] at hp
 refine⟨D,ys,_,rfl,hDy,hp,by omega,fun p hp'=>?_⟩
 exact q p _ ((show Same H H2 from hk).trans (qV hp' _)) qW

theorem zP:xI ["part","values","total","pile","one","sign"] ["part","values"] (xA (top 45)):=⟨rfl,rfl,rfl,by decide +kernel,rfl,by decide +kernel,by decide +kernel⟩
noncomputable def qZg:Sp:=fun vs H Q _=>∃(t:Th) (v:V) (d:Addr) (kvs:List (Key×V)) (ws:List Str) (ρ:Str→Int),vs=[v,.ref d]∧t.At H v∧Expr' ws t∧t.dep≤12∧H d=some (.dK kvs)∧Env' kvs ws ρ∧∀H',Same H H'→Q (.int (t.worth ρ)) H'
noncomputable def Sig (H:Hp)(ws:List Str)(p:Th×Int)(u:V):Prop:=∃a v,u=.ref a∧H a=some (.tup [v,.int p.2])∧p.1.At H v∧Expr' ws p.1∧(p.2=1∨p.2 = -1)
theorem wG {H H':Hp}{ws:List Str}(h:Tups H H'){ps:List (Th×Int)}{us:List V}(p:Paired (Sig H ws) ps us):Paired (Sig H' ws) ps us:=Paired.mapP p fun _ _ x=>let ⟨a,v,e,q,r,s⟩:=x;⟨a,v,e,h _ _ q,r.mono h,s⟩
noncomputable def sumAll (ρ:Str→Int)(ps:List (Th×Int)):Int:=(ps.map fun p=>p.2 * p.1.worth ρ).sum
noncomputable def cntS (ps:List (Th×Int)):Nat:=(ps.map fun p=>p.1.cnt).sum
theorem kU (ρ:Str→Int)(ps:List (Th×Int))(p:Th×Int):sumAll ρ (ps++[p])=sumAll ρ ps+p.2 * p.1.worth ρ:=by simp[sumAll]
theorem yI (ps:List (Th×Int))(p:Th×Int):cntS (ps++[p])=cntS ps+p.1.cnt:=by simp[cntS]
theorem qAq:∀ps:List (Th×Int),ps.length≤cntS ps
 | []=>Nat.le_refl _
 | p::r=>by
  have:=qAq r
  have:=p.1.cnt_pos
  show r.length+1≤p.1.cnt+cntS r
  omega
theorem qGb {F:Th×Int→V→Prop}{ts:List (Th×Int)}{us:List V}(p:Paired F ts us)(h:us≠[]):∃ts' t us' u,ts=ts'++[t]∧us=us'++[u]∧Paired F ts' us'∧F t u:=by
 induction p with
 | nil=>exact absurd rfl h
 | @cons a b l₁ l₂ f p ih=>
  cases l₂ with
  | nil=>
   cases p
   exact⟨[],a,[],b,rfl,rfl,.nil,f⟩
  | cons c l₂=>
   obtain⟨ts',t,us',u,e1,e2,p',f'⟩:=ih (by simp)
   exact⟨a::ts',t,b::us',u,by rw[e1];rfl,by rw[e2];rfl,.cons f p',f'⟩
theorem qGf {g:Int}(h:g=1∨g = -1):g.natAbs<2 ^ 1000:=by rcases h with rfl | rfl <;> decide +kernel
noncomputable abbrev PileI (v0:V)(d p:Addr)(ws:List Str)(ρ:Str→Int)(t0:Th)(H:Hp)(m:Nat)(σ':St)(H':Hp):Prop:=∃(tt:Int) (ps:List (Th×Int)) (us:List V) (z1 z2:Option V),σ'=[some v0,some (.ref d),some (.int tt),some (.ref p),z1,z2]∧m=cntS ps∧(∀b o,b≠p→H b=some o→H' b=some o)∧H' p=some (.lst us)∧
   Paired (Sig H' ws) ps us∧tt+sumAll ρ ps=t0.worth ρ∧cntS ps≤t0.cnt
theorem qDa {f:Addr}{fd:FuncData}(F:Fun K "_law_worth" "_law_worth" (top 45) f fd)(B:Bl mg):FnOk P w K mg base CX0 1 f fd ["part","values"] qZg:=by
 refine F.ok zP (fun vs H Q E h=>?_) (fun cdv A outer s H vs Q E hr h=>?_)
 ·obtain⟨_,_,_,_,_,_,rfl,_⟩:=h
  rfl
 obtain⟨t0,v0,d,kvs,ws,ρ,rfl,at0,ex0,h12,hd,env,q⟩:=h
 have hu:=qOb hr
 have cs:=t0.cnt_small h12
 refine⟨_,(qZ (qM (i:=2) zP.nd rfl (by wtm_at "zo") qE)
  (qZ (qM (i:=3) zP.nd rfl (by wtm_at "zo") (zX (qQ (zJ (qQ (pv 0) (qQ qE qX))) qX)))
  (qZ (qWg PassesOwn.never (qR (qNf (K:=K) hr.units) (pv 3) (zX qX) (xD _)) (qZ (qO (qCn (K:=K) PySem.F.plainAttrs_list PySem.F.slot_list_pop PySem.F.type_list_pop qSx (pv 3)) (zH (K:=K) (n:=2) rfl (qH (qG (i:=4) zP.nd rfl (by wtm_at "zo")) (qH (qG (i:=5) zP.nd rfl (by wtm_at "zo")) qI))))
  (qJ (zB (qR jQ (xH (qS (K:=K)) (pv 4) qE (fun _ _=>rfl)) qF (xD _)) (qJ (qM (i:=2) zP.nd rfl (by wtm_at "zo") (xQ zO (pv 2) (xQ jN (pv 5) (xH (qS (K:=K)) (pv 4) qE (fun _ _=>rfl)))))) (qJ (zB (qR jQ (xH (qS (K:=K)) (pv 4) qE (fun _ _=>rfl)) qF (xD _)) (qJ (qM (i:=2) zP.nd rfl (by wtm_at "zo") (xQ zO (pv 2) (xQ jN (pv 5) (qKo hu (pv 1) (xH (qS (K:=K)) (pv 4) qE (fun _ _=>rfl)) (fun _ _=>rfl)))))) (qZ (qP (zC (K:=K) PySem.F.plainAttrs_list PySem.F.slot_list_append PySem.F.type_list_append xS (pv 3) (qQ (zJ (qQ (xH (qS (K:=K)) (pv 4) qE (fun _ _=>rfl)) (qQ (pv 5) qX))) qX)))
  (qJ (qP (zC (K:=K) PySem.F.plainAttrs_list PySem.F.slot_list_append PySem.F.type_list_append xS (pv 3) (qQ (zJ (qQ (xH (qS (K:=K)) (pv 4) qE (fun _ _=>rfl)) (qQ (xH (qT (K:=K)) (zX (qQ (qTh qPo (pv 5)) (qQ (pv 5) qX))) (xX qXq rfl B.int' qAa (qQ (kA jQ (xH (qS (K:=K)) (pv 4) qE (fun _ _=>rfl)) qF (xD _)) qX)) (fun _ _=>rfl)) qX))) qX)))))))))))
  (qJ (qN (pv 2)))))),?_⟩
 refine⟨_,rfl,(by show 2≤sizeLine;decide),fun a1 ha1=>?_⟩
 refine⟨(by show 1≤sizeLine;decide),fun p hp=>?_⟩
 have hpH:H p=none:=(qV ha1 _).free hp
 have T0:Tups H (upd (upd H a1 (.tup [v0,.int 1])) p (.lst [.ref a1])):=(qC (qV ha1 _)).trans (qC (qV hp _))
 refine⟨fun m σ' H'=>PileI v0 d p ws ρ t0 H m σ' H',
  ⟨_,0,[(t0,1)],[.ref a1],none,none,rfl,rfl,fun b o h1 e=>by rw[qA h1,qA (qB e ha1)];exact e,qW,.cons ⟨a1,v0,rfl,qV hp _ _ _ qW,at0.mono T0,ex0,.inl rfl⟩ .nil,by simp[sumAll],by simp[cntS]⟩,?_⟩
 rintro m σ' H' ⟨tt,ps,us,z1,z2,rfl,rfl,hk,hpu,hpile,hsum,hcnt⟩
 refine⟨_,rfl,(by show 0≤sizeLine;decide),fun e0 he0=>?_⟩
 have n2:p≠e0:=qB hpu he0
 have hpu1:upd H' e0 (.lst []) p=some (.lst us):=by rw[qA n2];exact hpu
 have hk1:∀b o,b≠p→H b=some o→upd H' e0 (.lst []) b=some o:=fun b o h1 e=>by rw[qA (qB (hk b o h1 e) he0)];exact hk b o h1 e
 have hpile1:=wG (qC (qV he0 (.lst []))) hpile
 have he1:upd H' e0 (.lst []) e0=some (.lst []):=qW
 generalize upd H' e0 (.lst [])=H1 at hpu1 hk1 hpile1 he1
 refine⟨p,e0,us,rfl,rfl,SqL.of hpu1,SqL.of he1,_,rfl,?_⟩
 cases hus:us with
 | nil=>
  subst hus
  cases hpile1
  refine iteF ?_
  have:tt=t0.worth ρ:=by simpa [sumAll] using hsum
  subst this
  exact⟨_,rfl,q H1 fun b o e=>hk1 b o (qB e hpH) e⟩
 | cons u0 ur=>
  obtain⟨ps',⟨t,g⟩,us',u,rfl,eu,hp',⟨a,v,rfl,ha,ata,exa,hg⟩⟩:=qGb hpile1 (by rw[hus];simp)
  rw[hus] at eu
  refine iteT ?_
  have ha:H1 a=some (.tup [v,.int g]):=ha
  have ata:t.At H1 v:=ata
  have exa:Expr' ws t:=exa
  have hg:g=1∨g = -1:=hg
  rw[yI] at hcnt
  rw[kU] at hsum
  have hsum:tt+(sumAll ρ ps'+g * t.worth ρ)=t0.worth ρ:=hsum
  have hcnt:cntS ps'+t.cnt≤t0.cnt:=hcnt
  have lp:=hp'.length
  have lc:=qAq ps'
  have tc:=t.cnt_pos
  have gs:=qGf hg
  obtain⟨N,hN,hN'⟩:∃N:St→Hp→Prop,(∀σ' H',N σ' H'→∃m',m'<cntS (ps'++[(t,g)])∧PileI v0 d p ws ρ t0 H m' σ' H')∧∀σ' H',(∃m',m'<cntS ps'+t.cnt∧PileI v0 d p ws ρ t0 H m' σ' H')→N σ' H':=⟨_,fun _ _ h=>h,fun _ _ h=>by rw[yI];exact h⟩
  refine⟨N,hN,?_⟩
  have hpu2:H1 p=some (.lst (us'++[.ref a])):=by rw[hpu1,hus,eu]
  have T1:Tups H1 (upd H1 p (.lst us')):=fun b xs e=>by rw[qA (vJ e hpu2 (by intro z;cases z))];exact e
  refine⟨_,rfl,.inl ⟨rfl,_,SqL.of hpu2⟩,p,_,.ref a,rfl,rfl,hpu2,by simp,?_⟩
  rw[List.dropLast_concat]
  have ha2:=T1 _ _ ha
  have hpu3:upd H1 p (.lst us') p=some (.lst us'):=qW
  have hk2:∀b o,b≠p→H b=some o→upd H1 p (.lst us') b=some o:=fun b o h1 e=>by rw[qA h1];exact hk1 b o h1 e
  have hp2:=wG T1 hp'
  have ata2:=ata.mono T1
  generalize upd H1 p (.lst us')=H2 at ha2 hpu3 hk2 hp2 ata2
  refine⟨a,_,rfl,SqT.of ha2,rfl,_,_,rfl,_,_,rfl,rfl,?_⟩
  have pd:d≠p:=qB hd hpH
  cases t with
  | nul _=>exact False.elim exa
  | un _ _=>exact False.elim exa
  | num n=>
   obtain⟨b,ev,eb⟩:=ata2
   obtain⟨hn0,hn1⟩:=exa
   subst ev
   refine⟨_,rfl,b,_,0,.str "number",rfl,rfl,SqT.of eb,rfl,rfl,_,rfl,?_⟩
   rw[zN]
   refine iteT ?_
   refine⟨_,rfl,_,rfl,_,rfl,b,_,1,.int n,rfl,rfl,SqT.of eb,rfl,g,n,rfl,rfl,⟨gs,big _ hn0 (Int.lt_trans hn1 (by decide +kernel))⟩,_,_,rfl,rfl,?_⟩
   refine hN' _ _ ⟨_,?_,tt+g * n,ps',us',_,_,rfl,rfl,hk2,hpu3,hp2,?_,?_⟩
   ·have:(Th.num n).cnt=1:=rfl
    show cntS ps'<cntS ps'+1
    omega
   ·have:(Th.num n).worth ρ=n:=rfl
    rw[this] at hsum
    omega
   ·omega
  | box x=>
   obtain⟨b,ev,eb⟩:=ata2
   subst ev
   have ex:x∈ws:=exa
   refine⟨_,rfl,b,_,0,.str "box",rfl,rfl,SqT.of eb,rfl,rfl,_,rfl,?_⟩
   rw[xV (Ne.symm qOj)]
   refine iteF ?_
   refine⟨_,rfl,b,_,0,.str "box",rfl,rfl,SqT.of eb,rfl,rfl,_,rfl,?_⟩
   rw[zN]
   refine iteT ?_
   obtain⟨ev,h0,h1⟩:=env x ex
   refine⟨_,rfl,_,rfl,_,rfl,_,rfl,b,_,1,.str x,rfl,rfl,SqT.of eb,rfl,d,.int (ρ x),rfl,?_,g,ρ x,rfl,rfl,⟨gs,big _ h0 (Int.lt_trans h1 (by decide +kernel))⟩,_,_,rfl,rfl,?_⟩
   ·rw[← ev]
    exact DGet.k (k:=Sum.inr x) (hk2 _ _ pd hd)
   refine hN' _ _ ⟨_,?_,tt+g * ρ x,ps',us',_,_,rfl,rfl,hk2,hpu3,hp2,?_,?_⟩
   ·show cntS ps'<cntS ps'+1
    omega
   ·have:(Th.box x).worth ρ=ρ x:=rfl
    rw[this] at hsum
    omega
   ·omega
  | bin k t1 t2=>
   obtain⟨b,u1,u2,ev,eb,b1,b2⟩:=ata2
   obtain⟨hk',x1,x2⟩:=exa
   subst ev
   have k1:k ≠ "number" := by rcases hk' with rfl | rfl;exact qQj.2;exact qQk.2
   have k2:k ≠ "box" := by rcases hk' with rfl | rfl;exact qQj.1;exact qQk.1
   have hcnt:cntS ps'+(t1.cnt+t2.cnt+1)≤t0.cnt:=hcnt
   refine⟨_,rfl,b,_,0,.str k,rfl,rfl,SqT.of eb,rfl,rfl,_,rfl,?_⟩
   rw[xV k1]
   refine iteF ?_
   refine⟨_,rfl,b,_,0,.str k,rfl,rfl,SqT.of eb,rfl,rfl,_,rfl,?_⟩
   rw[xV k2]
   refine iteF ?_
   refine⟨_,rfl,.inl ⟨rfl,_,SqL.of hpu3⟩,_,rfl,b,_,1,u1,rfl,rfl,SqT.of eb,rfl,_,rfl,(by show 2≤sizeLine;decide),fun c1 hc1=>?_⟩
   have pc1:p≠c1:=qB hpu3 hc1
   refine⟨p,us',.ref c1,rfl,rfl,by rw[qA pc1];exact hpu3,by rw[← lp];exact small (by omega),?_⟩
   have T3:Tups H2 (upd (upd H2 c1 (.tup [u1,.int g])) p (.lst (us'++[.ref c1]))):=fun b xs e=>by rw[qA (vJ e hpu3 (by intro z;cases z)),qA (qB e hc1)];exact e
   have ec1:upd (upd H2 c1 (.tup [u1,.int g])) p (.lst (us'++[.ref c1])) c1=some (.tup [u1,.int g]):=by rw[qA (Ne.symm pc1)];exact qW
   have hpu4:upd (upd H2 c1 (.tup [u1,.int g])) p (.lst (us'++[.ref c1])) p=some (.lst (us'++[.ref c1])):=qW
   have hk3:∀b o,b≠p→H b=some o→upd (upd H2 c1 (.tup [u1,.int g])) p (.lst (us'++[.ref c1])) b=some o:=fun b o h1 e=>by rw[qA h1,qA (qB (hk2 b o h1 e) hc1)];exact hk2 b o h1 e
   have hp3:Paired (Sig (upd (upd H2 c1 (.tup [u1,.int g])) p (.lst (us'++[.ref c1]))) ws) (ps'++[(t1,g)]) (us'++[.ref c1]):=Paired.snoc (wG T3 hp2) ⟨c1,u1,rfl,ec1,b1.mono T3,x1,hg⟩
   have eb3:=T3 _ _ eb
   have b23:=b2.mono T3
   generalize upd (upd H2 c1 (.tup [u1,.int g])) p (.lst (us'++[.ref c1]))=H3 at hpu4 hk3 hp3 eb3 b23
   obtain⟨g2,hg2,eg2,wg2⟩:∃g2:Int,(g2=1∨g2 = -1)∧atI [V.int (-g),V.int g] (if decide (V.str k=V.str "plus")=true then 1 else 0)=some (.int g2)∧g * (Th.bin k t1 t2).worth ρ=g * t1.worth ρ+g2 * t2.worth ρ:=by
    rcases hk' with rfl | rfl
    ·refine⟨g,hg,by rw[zN,if_pos rfl];rfl,?_⟩
     show g * (if ("plus" : Str) = "plus" then t1.worth ρ+t2.worth ρ else t1.worth ρ - t2.worth ρ)=_
     rw[if_pos rfl,Int.mul_add]
    ·refine⟨-g,by rcases hg with rfl | rfl;exact .inr rfl;exact .inl rfl,by rw[xV qRo,if_neg Bool.false_ne_true];rfl,?_⟩
     show g * (if ("less" : Str) = "plus" then t1.worth ρ+t2.worth ρ else t1.worth ρ - t2.worth ρ)=_
     rw[if_neg qRo,Int.mul_sub,Int.neg_mul]
     omega
   refine⟨_,rfl,.inl ⟨rfl,_,SqL.of hpu4⟩,_,rfl,b,_,2,u2,rfl,rfl,SqT.of eb3,rfl,_,rfl,_,rfl,_,rfl,(by show 2≤sizeLine;decide),fun l hl=>?_⟩
   have eb4:upd H3 l (.lst [.int (-g),.int g]) b=some (.tup [.str k,u1,u2]):=by rw[qA (qB eb3 hl)];exact eb3
   refine⟨_,rfl,b,_,0,.str k,rfl,rfl,SqT.of eb4,rfl,rfl,.inr ⟨_,rfl,?_⟩⟩
   have pl:p≠l:=qB hpu4 hl
   refine⟨l,_,_,.int g2,rfl,rfl,SqL.of qW,eg2,(by show 2≤sizeLine;decide),fun c2 hc2=>?_⟩
   have hpu5:upd H3 l (.lst [.int (-g),.int g]) p=some (.lst (us'++[.ref c1])):=by rw[qA pl];exact hpu4
   have pc2:p≠c2:=qB hpu5 hc2
   refine⟨p,_,.ref c2,rfl,rfl,by rw[qA pc2];exact hpu5,?_,?_⟩
   ·rw[List.length_append,List.length_singleton,← lp];exact small (by omega)
   have T4:Tups H3 (upd (upd (upd H3 l (.lst [.int (-g),.int g])) c2 (.tup [u2,.int g2])) p (.lst (us'++[.ref c1]++[.ref c2]))):=fun b xs e=>by
    rw[qA (vJ e hpu4 (by intro z;cases z)),qA (qB (qV hl _ _ _ e) hc2),qA (qB e hl)];exact e
   refine hN' _ _ ⟨_,?_,tt,ps'++[(t1,g)]++[(t2,g2)],us'++[.ref c1]++[.ref c2],_,_,rfl,rfl,fun b o h1 e=>?_,qW,Paired.snoc (wG T4 hp3) ⟨c2,u2,rfl,by rw[qA (Ne.symm pc2)];exact qW,b23.mono T4,x2,hg2⟩,?_,?_⟩
   ·rw[yI,yI]
    show cntS ps'+t1.cnt+t2.cnt<cntS ps'+(t1.cnt+t2.cnt+1)
    omega
   ·rw[qA h1,qA (qB (qV hl _ _ _ (hk3 b o h1 e)) hc2),qA (qB (hk3 b o h1 e) hl)];exact hk3 b o h1 e
   ·rw[kU,kU]
    show tt+(sumAll ρ ps'+g * t1.worth ρ+g2 * t2.worth ρ)=t0.worth ρ
    omega
   ·rw[yI,yI]
    show cntS ps'+t1.cnt+t2.cnt≤t0.cnt
    omega

noncomputable def Th.truth (ρ:Str→Int):Th→Bool
 | .num _=>false
 | .box _=>false
 | .nul _=>true
 | .un _ a=>!a.truth ρ
 | .bin k a b=>if k = "both" then a.truth ρ && b.truth ρ else if k = "same" then decide (a.worth ρ=b.worth ρ) else decide (a.worth ρ<b.worth ρ)
theorem qXb {ρ:Str→Int}{a b:Th}:(Th.bin "both" a b).truth ρ=(a.truth ρ && b.truth ρ):=by
 show(if ("both" : Str) = "both" then _ else _)=_
 rw[if_pos rfl]
theorem qTm:("same" : Str) ≠ "both" := by decide +kernel
theorem qTl:("under" : Str) ≠ "both" := by decide +kernel
theorem qRn:("under" : Str) ≠ "same" := by decide +kernel
theorem qXa {ρ:Str→Int}{a b:Th}:(Th.bin "same" a b).truth ρ=decide (a.worth ρ=b.worth ρ):=by
 show(if ("same" : Str) = "both" then _ else if ("same" : Str) = "same" then _ else _)=_
 rw[if_neg qTm,if_pos rfl]
theorem wN {ρ:Str→Int}{a b:Th}:(Th.bin "under" a b).truth ρ=decide (a.worth ρ<b.worth ρ):=by
 show(if ("under" : Str) = "both" then _ else if ("under" : Str) = "same" then _ else _)=_
 rw[if_neg qTl,if_neg qRn]

theorem yP:xI ["condition","values","kind","one","other"] ["condition","values"] (xA (top 8)):=⟨rfl,rfl,rfl,by decide +kernel,rfl,by decide +kernel,by decide +kernel⟩
noncomputable def vY (n:Nat):Sp:=fun vs H Q _=>∃(t:Th) (v:V) (d:Addr) (kvs:List (Key×V)) (ws:List Str) (ρ:Str→Int),vs=[v,.ref d]∧t.At H v∧Cond' ws t∧t.dep≤n∧t.dep≤12∧H d=some (.dK kvs)∧Env' kvs ws ρ∧Q (.bl (t.truth ρ)) H
theorem qYl {n:Nat}(F:Fd K mg "holds_by" (top 8) ["condition","values"])(D_holds_by:Dn P w K mg base "holds_by" (n+13) ["condition","values"] (vY n))(D_worth_by:Dn P w K mg base "worth_by" 13 ["expression","values"] (jT 12)):
  Dn P w K mg base "holds_by" (n+14) ["condition","values"] (vY (n+1)):=by
 refine F.ok yP (fun vs H Q E h=>?_) (fun f cdv A outer s H vs Q E hr h=>?_)
 ·obtain⟨_,_,_,_,_,_,rfl,_⟩:=h
  rfl
 obtain⟨t,v,d,kvs,ws,ρ,rfl,at',cx,hn,h12,hd,env,q⟩:=h
 refine⟨_,(qZ (qM (i:=2) yP.nd rfl (by wtm_at "zo") (xH (qS (K:=K)) (pv 0) qE (fun _ _=>rfl)))
  (qZ (zB (qR jQ (pv 2) qF (xD _)) (qJ (qN qBz)) qY)
  (qZ (zB (qR jQ (pv 2) qF (xD _)) (qJ (qN (qCm (qD D_holds_by hr (qQ (xH (qS (K:=K)) (pv 0) qE (fun _ _=>rfl)) (qQ (pv 1) qX)))))) qY)
  (qZ (zB (qR jQ (pv 2) qF (xD _)) (qJ (qN (qIi (qD D_holds_by hr (qQ (xH (qS (K:=K)) (pv 0) qE (fun _ _=>rfl)) (qQ (pv 1) qX))) (qIh (qD D_holds_by hr (qQ (xH (qS (K:=K)) (pv 0) qE (fun _ _=>rfl)) (qQ (pv 1) qX))))))) qY)
  (qZ (qM (i:=3) yP.nd rfl (by wtm_at "zo") (qD D_worth_by hr (qQ (xH (qS (K:=K)) (pv 0) qE (fun _ _=>rfl)) (qQ (pv 1) qX))))
  (qZ (qM (i:=4) yP.nd rfl (by wtm_at "zo") (qD D_worth_by hr (qQ (xH (qS (K:=K)) (pv 0) qE (fun _ _=>rfl)) (qQ (pv 1) qX))))
  (qJ (qN (vA (qR jQ (pv 2) qF (xD _)) (kA jQ (pv 3) (pv 4) (xD _)) (kA qZn (pv 3) (pv 4) (xD _))))))))))),?_⟩
 match t,at',cx,hn,h12,q with
 | .nul k,⟨a,ev,ea⟩,cx,hn,h12,q=>
  cases(show k = "yes" from cx)
  subst ev
  wtm_at "zw"
  exact q
 | .un k t1,⟨a,u,ev,ea,a1⟩,⟨hk,c1⟩,hn,h12,q=>
  cases hk
  subst ev
  have hn':t1.dep+1≤n+1:=hn
  have h12':t1.dep+1≤12:=h12
  wtm_at "zw"
  refine⟨t1,u,d,kvs,ws,ρ,rfl,a1,c1,by omega,by omega,hd,env,?_⟩
  wtm_at "zw"
  exact q
 | .bin k t1 t2,⟨a,u1,u2,ev,ea,a1,a2⟩,cx,hn,h12,q=>
  subst ev
  have hn':max t1.dep t2.dep+1≤n+1:=hn
  have h12':max t1.dep t2.dep+1≤12:=h12
  rcases cx with⟨hk,x1,x2⟩ | ⟨hk,c1,c2⟩
  ·have n1:k ≠ "yes" := by rcases hk with rfl | rfl <;> decide +kernel
   have n2:k ≠ "not" := by rcases hk with rfl | rfl <;> decide +kernel
   have n3:k ≠ "both" := by rcases hk with rfl | rfl <;> decide +kernel
   wtm_at "zw"
   refine⟨t1,u1,d,kvs,ws,ρ,rfl,a1,x1,by omega,hd,env,?_⟩
   wtm_at "zw"
   refine⟨t2,u2,d,kvs,ws,ρ,rfl,a2,x2,by omega,hd,env,?_⟩
   rcases hk with rfl | rfl
   ·rw[qXa] at q
    wtm_at "zw"
    have e:decide (V.int (t1.worth ρ)=V.int (t2.worth ρ))=decide (t1.worth ρ=t2.worth ρ):=decide_eq_decide.mpr ⟨fun z=>by injection z,fun z=>by rw[z]⟩
    rw[e]
    exact q
   ·rw[wN] at q
    wtm_at "zw"
    exact q
  ·cases hk
   rw[qXb] at q
   wtm_at "zw"
   refine⟨t1,u1,d,kvs,ws,ρ,rfl,a1,c1,by omega,by omega,hd,env,?_⟩
   wtm_at "zw"
   cases e1:t1.truth ρ with
   | false=>
    rw[e1,Bool.false_and] at q
    refine iteF ?_
    exact q
   | true=>
    rw[e1,Bool.true_and] at q
    refine iteT ?_
    wtm_at "zw"
    exact⟨t2,u2,d,kvs,ws,ρ,rfl,a2,c2,by omega,by omega,hd,env,q⟩
theorem qQm (F:Fd K mg "holds_by" (top 8) ["condition","values"])(D_worth_by:Dn P w K mg base "worth_by" 13 ["expression","values"] (jT 12)):∀n:Nat,Dn P w K mg base "holds_by" (n+13) ["condition","values"] (vY n)
 | 0=>F.never fun vs H Q E h=>by
  obtain⟨t,_,_,_,_,_,_,_,_,h1,_⟩:=h
  have:=t.dep_pos
  omega
 | n+1=>qYl F (qQm F D_worth_by n) D_worth_by

theorem qGi:xI ["condition","boxes","standing"] ["condition","boxes","standing"] (xA (top 4)):=⟨rfl,rfl,rfl,by decide +kernel,rfl,by decide +kernel,by decide +kernel⟩
noncomputable def qCa:Sp:=fun vs H Q _=>∃(t:Th) (v:V) (bx st:Addr) (bs:List (Str×Int)) (vals:List Int),vs=[v,.ref bx,.ref st]∧t.At H v∧Cond' (bs.map (·.1)) t∧t.dep≤12∧World' H bx st bs vals∧
 ∀H',Same H H'→Q (.bl (t.truth (envOf (kvsOf bs vals)))) H'
theorem qIx (F:Fd K mg "holds" (top 4) ["condition","boxes","standing"])(D_holds_by:Dn P w K mg base "holds_by" 25 ["condition","values"] (vY 12))(D_values_by_name:Dn P w K mg base "values_by_name" 1 ["boxes","standing"] wD):
  Dn P w K mg base "holds" 26 ["condition","boxes","standing"] qCa:=by
 refine F.ok qGi (fun vs H Q E h=>?_) (fun f cdv A outer s H vs Q E hr h=>?_)
 ·obtain⟨_,_,_,_,_,_,rfl,_⟩:=h
  rfl
 obtain⟨t,v,bx,st,bs,vals,rfl,at',cx,dp,W,q⟩:=h
 refine⟨_,(qJ (qN (qD D_holds_by hr (qQ (pv 0) (qQ (qD D_values_by_name hr (qQ (pv 1) (qQ (pv 2) qX))) qX))))),?_⟩
 wtm_at "zw"
 refine⟨bx,st,bs,vals,rfl,W,fun p H' S e=>?_⟩
 wtm_at "zw"
 exact⟨t,v,p,_,_,_,rfl,at'.mono (qC S),cx,dp,dp,e,qMw W.ok,q H' S⟩

theorem wZ:xI ["cond","values","apart"] ["cond","values"] (xA (top 46)):=⟨rfl,rfl,rfl,by decide +kernel,rfl,by decide +kernel,by decide +kernel⟩
noncomputable def wF (n:Nat):Sp:=fun vs H Q _=>∃(t:Th) (v:V) (d:Addr) (kvs:List (Key×V)) (ws:List Str) (ρ:Str→Int),vs=[v,.ref d]∧t.At H v∧Cond' ws t∧t.dep≤n∧t.dep≤12∧H d=some (.dK kvs)∧Env' kvs ws ρ∧∀H',Same H H'→Q (.bl (t.truth ρ)) H'
theorem eqAll2 (a b:Bool):eqAll [V.bl a,V.bl b] [V.bl true,V.bl true]=(a && b):=by cases a <;> cases b <;> rfl
theorem qBf {n:Nat}(F:Fd K mg "_law_holds" (top 46) ["cond","values"])(B:Bl mg)(D_law_holds:Dn P w K mg base "_law_holds" (n+1) ["cond","values"] (wF n))(D_law_worth:Dn P w K mg base "_law_worth" 1 ["part","values"] qZg):
  Dn P w K mg base "_law_holds" (n+2) ["cond","values"] (wF (n+1)):=by
 refine F.ok wZ (fun vs H Q E h=>?_) (fun f cdv A outer s H vs Q E hr h=>?_)
 ·obtain⟨_,_,_,_,_,_,rfl,_⟩:=h
  rfl
 obtain⟨t,v,d,kvs,ws,ρ,rfl,at',cx,hn,h12,hd,env,q⟩:=h
 refine⟨_,(qZ (zB (qR jQ (xH (qS (K:=K)) (pv 0) qE (fun _ _=>rfl)) qF (xD _)) (qJ (qN qBz)) qY)
  (qZ (zB (qR jQ (xH (qS (K:=K)) (pv 0) qE (fun _ _=>rfl)) qF (xD _)) (qJ (qN (qCm (qD D_law_holds hr (qQ (xH (qS (K:=K)) (pv 0) qE (fun _ _=>rfl)) (qQ (pv 1) qX)))))) qY)
  (qZ (zB (qR jQ (xH (qS (K:=K)) (pv 0) qE (fun _ _=>rfl)) qF (xD _)) (qJ (qN (kA (qNh (K:=K) hr.units) (zX (qQ (qD D_law_holds hr (qQ (xH (qS (K:=K)) (pv 0) qE (fun _ _=>rfl)) (qQ (pv 1) qX))) (qQ (qD D_law_holds hr (qQ (xH (qS (K:=K)) (pv 0) qE (fun _ _=>rfl)) (qQ (pv 1) qX))) qX))) (zX (qQ qBz (qQ qBz qX))) (xD _)))) qY)
  (qZ (qM (i:=2) wZ.nd rfl (by wtm_at "zo") (xQ kB (qD D_law_worth hr (qQ (xH (qS (K:=K)) (pv 0) qE (fun _ _=>rfl)) (qQ (pv 1) qX))) (qD D_law_worth hr (qQ (xH (qS (K:=K)) (pv 0) qE (fun _ _=>rfl)) (qQ (pv 1) qX)))))
  (qJ (qN (xH (qT (K:=K)) (zX (qQ (kA qHx (pv 2) qE (xD _)) (qQ (kA jQ (pv 2) qE (xD _)) qX))) (xX qXq rfl B.int' qAa (qQ (kA jQ (xH (qS (K:=K)) (pv 0) qE (fun _ _=>rfl)) qF (xD _)) qX)) (fun _ _=>rfl)))))))),?_⟩
 match t,at',cx,hn,h12,q with
 | .nul k,⟨a,ev,ea⟩,cx,hn,h12,q=>
  cases(show k = "yes" from cx)
  subst ev
  wtm_at "zw"
  exact q H (Same.refl _)
 | .un k t1,⟨a,u,ev,ea,a1⟩,⟨hk,c1⟩,hn,h12,q=>
  cases hk
  subst ev
  have hn':t1.dep+1≤n+1:=hn
  have h12':t1.dep+1≤12:=h12
  wtm_at "zw"
  refine⟨t1,u,d,kvs,ws,ρ,rfl,a1,c1,by omega,by omega,hd,env,fun H1 S1=>?_⟩
  wtm_at "zw"
  exact q H1 S1
 | .bin k t1 t2,⟨a,u1,u2,ev,ea,a1,a2⟩,cx,hn,h12,q=>
  subst ev
  have hn':max t1.dep t2.dep+1≤n+1:=hn
  have h12':max t1.dep t2.dep+1≤12:=h12
  rcases cx with⟨hk,x1,x2⟩ | ⟨hk,c1,c2⟩
  ·have n1:k ≠ "yes" := by rcases hk with rfl | rfl <;> decide +kernel
   have n2:k ≠ "not" := by rcases hk with rfl | rfl <;> decide +kernel
   have n3:k ≠ "both" := by rcases hk with rfl | rfl <;> decide +kernel
   wtm_at "zw"
   refine⟨t2,u2,d,kvs,ws,ρ,rfl,a2,x2,by omega,hd,env,fun H1 S1=>?_⟩
   wtm_at "zw"
   refine⟨t1,u1,d,kvs,ws,ρ,rfl,a1.mono (qC S1),x1,by omega,S1 _ _ hd,env,fun H2 S2=>?_⟩
   wtm_at "zw"
   refine⟨(by show 2≤sizeLine;decide),fun l hl=>?_⟩
   wtm_at "zw"
   refine .inr ⟨_,rfl,?_⟩
   have S3:Same H (upd H2 l (.lst [.bl (decide (0<t2.worth ρ - t1.worth ρ)),.bl (decide (V.int (t2.worth ρ - t1.worth ρ)=V.int 0))])):=S1.trans (S2.trans (qV hl _))
   rcases hk with rfl | rfl
   ·rw[qXa] at q
    rw[zN]
    wtm_at "zw"
    have e:decide (V.int (t2.worth ρ - t1.worth ρ)=V.int 0)=decide (t1.worth ρ=t2.worth ρ):=decide_eq_decide.mpr ⟨fun z=>by injection z with z;omega,fun z=>by rw[z,Int.sub_self]⟩
    rw[← e] at q
    exact q _ S3
   ·rw[wN] at q
    rw[xV qRn]
    wtm_at "zw"
    have e:decide (0<t2.worth ρ - t1.worth ρ)=decide (t1.worth ρ<t2.worth ρ):=decide_eq_decide.mpr ⟨fun z=>by omega,fun z=>by omega⟩
    rw[← e] at q
    exact q _ S3
  ·cases hk
   rw[qXb] at q
   wtm_at "zw"
   refine⟨t1,u1,d,kvs,ws,ρ,rfl,a1,c1,by omega,by omega,hd,env,fun H1 S1=>?_⟩
   wtm_at "zw"
   refine⟨t2,u2,d,kvs,ws,ρ,rfl,a2.mono (qC S1),c2,by omega,by omega,S1 _ _ hd,env,fun H2 S2=>?_⟩
   wtm_at "zw"
   refine⟨(by show 2≤sizeLine;decide),fun l hl=>?_⟩
   wtm_at "zw"
   refine⟨(by show 2≤sizeLine;decide),fun l2 hl2=>?_⟩
   refine⟨l,l2,_,_,rfl,rfl,SqL.of (qV hl2 _ _ _ qW),SqL.of qW,rfl,rfl,rfl,?_⟩
   rw[if_neg Bool.false_ne_true,eqAll2]
   exact q _ (S1.trans (S2.trans ((qV hl _).trans (qV hl2 _))))
theorem qYi (F:Fd K mg "_law_holds" (top 46) ["cond","values"])(B:Bl mg)(D_law_worth:Dn P w K mg base "_law_worth" 1 ["part","values"] qZg):∀n:Nat,Dn P w K mg base "_law_holds" (n+1) ["cond","values"] (wF n)
 | 0=>F.never fun vs H Q E h=>by
  obtain⟨t,_,_,_,_,_,_,_,_,h1,_⟩:=h
  have:=t.dep_pos
  omega
 | n+1=>qBf F B (qYi F B D_law_worth n) D_law_worth

theorem vQ:xI ["thing","names","part"] ["thing"] (xA (top 5)):=⟨rfl,rfl,rfl,by decide +kernel,rfl,by decide +kernel,by decide +kernel⟩
noncomputable def vR (n:Nat):Sp:=fun vs H Q _=>∃(t:Th) (v:V),vs=[v]∧t.At H v∧t.Ok∧t.dep≤n∧t.dep≤12∧
 ∀(r:Addr) (H':Hp),H r=none→Same H H'→H' r=some (.lst (strsV t.names))→Q (.ref r) H'
theorem qDw {f:Addr}{fd:FuncData}:FnOk P w K mg base CX0 1 f fd ["thing"] (vR 0):=by
 have no:∀vs H Q E,¬vR 0 vs H Q E:=fun vs H Q E h=>by
  obtain⟨t,v,_,_,_,h1,_⟩:=h
  have:=t.dep_pos
  omega
 exact⟨fun vs H Q E h=>absurd h (no vs H Q E),fun A outer s H args us vs Q E _ _ _ _ h=>absurd h (no vs H Q E)⟩
theorem qDv {n:Nat}{f:Addr}{fd:FuncData}(F:Fun K "names_in" "names_in" (top 5) f fd)(G_names_in:FnOk P w K mg base CX0 (n+1) f fd ["thing"] (vR n))(E_names_in:FunE K mg "names_in" f fd ["thing"]):
  FnOk P w K mg base CX0 (n+2) f fd ["thing"] (vR (n+1)):=by
 refine F.ok vQ (fun vs H Q E h=>?_) (fun cdv A outer s H vs Q E hr h=>?_)
 ·obtain⟨_,_,rfl,_⟩:=h
  rfl
 obtain⟨t,v,rfl,at',ok,hn,h12,q⟩:=h
 refine⟨_,(qZ (zB (qR jQ (xH (qS (K:=K)) (pv 0) qE (fun _ _=>rfl)) qF (xD _)) (qJ (qN (zX (qQ (xH (qS (K:=K)) (pv 0) qE (fun _ _=>rfl)) qX)))) qY)
  (qZ (qM (i:=1) vQ.nd rfl (by wtm_at "zo") (zX qX))
  (qZ (zB (qR qRi (xH (qS (K:=K)) (pv 0) qE (fun _ _=>rfl)) qF (xD _)) (qJ (zE PassesOwn.never rfl (qKi (K:=K) (yV (qCe (K:=K)) (pv 0) (kK qE) kW)) (qG (i:=2) vQ.nd rfl (by wtm_at "zo")) (qJ (qP (zC (K:=K) PySem.F.plainAttrs_list PySem.F.slot_list_extend PySem.F.type_list_extend qQd (pv 1) (qQ (zF G_names_in hr rfl E_names_in.mg E_names_in.kp E_names_in.bd .nil pass0 (qQ (pv 2) qX)) qX)))))) qY)
  (qJ (qN (pv 1)))))),?_⟩
 cases view at' ok with
 | box a x et ev ea=>
  subst et ev
  refine⟨_,rfl,a,_,0,.str "box",rfl,rfl,SqT.of ea,rfl,rfl,_,rfl,?_⟩
  rw[zN]
  refine iteT ?_
  refine⟨_,rfl,a,_,1,.str x,rfl,rfl,SqT.of ea,rfl,(by show 1≤sizeLine;decide),fun r hr'=>?_⟩
  exact q r _ hr' (qV hr' _) qW
 | num a x et ev ea=>
  subst et ev
  refine⟨_,rfl,a,_,0,.str "number",rfl,rfl,SqT.of ea,rfl,rfl,_,rfl,?_⟩
  rw[xV qOj]
  refine iteF ?_
  refine⟨(by show 0≤sizeLine;decide),fun r hr'=>?_⟩
  have ea':upd H r (.lst []) a=some (.tup [.str "number",.int x]):=by rw[qA (qB ea hr')];exact ea
  refine⟨_,rfl,a,_,0,.str "number",rfl,rfl,SqT.of ea',rfl,rfl,_,rfl,?_⟩
  rw[zN]
  refine iteF ?_
  exact⟨_,rfl,q r _ hr' (qV hr' _) qW⟩
 | op a k us ts ev ea hk hl hl2 kids en ec=>
  subst ev
  refine⟨_,rfl,a,_,0,.str k,rfl,rfl,SqT.of ea,qJw _ _,rfl,_,rfl,?_⟩
  rw[xV hk.1]
  refine iteF ?_
  refine⟨(by show 0≤sizeLine;decide),fun r hr'=>?_⟩
  have ea':upd H r (.lst []) a=some (.tup (.str k::us)):=by rw[qA (qB ea hr')];exact ea
  refine⟨_,rfl,a,_,0,.str k,rfl,rfl,SqT.of ea',qJw _ _,rfl,_,rfl,?_⟩
  rw[xV hk.2]
  refine iteT ?_
  refine⟨_,rfl,1,rfl,a,_,rfl,SqT.of ea',notwhole _ _,fun p hp=>?_⟩
  rw[cut1]
  have pr:p≠r:=fun z=>by subst z;rw[qW] at hp;cases hp
  have S2:But r H (upd (upd H r (.lst [])) p (.tup us)):=But.upd.trans (qV hp _).but
  have er2:upd (upd H r (.lst [])) p (.tup us) r=some (.lst []):=by rw[qA (Ne.symm pr)];exact qW
  have ep2:upd (upd H r (.lst [])) p (.tup us) p=some (.tup us):=qW
  generalize upd (upd H r (.lst [])) p (.tup us)=H2 at S2 er2 ep2
  have cs:=t.cnt_small h12
  have nl:=t.names_le
  refine⟨p,rfl,⟨us,SqT.of ep2⟩,?_⟩
  refine qEl (xs:=us) (fun i σ' H'=>∃z:Option V,σ'=[some (.ref a),some (.ref r),z]∧But r H2 H'∧H' r=some (.lst (strsV ((ts.take i).flatMap Th.names))))
   ⟨none,rfl,But.refl _,er2⟩ (fun i σ' H' _ hP=>?_) (fun i x σ' H' ex hP=>?_) (fun σ' H' hP=>?_)
  ·obtain⟨z,rfl,hb,_⟩:=hP
   exact SqT.of (hb _ _ pr ep2)
  ·obtain⟨z,rfl,hb,hrr⟩:=hP
   obtain⟨c,ecx⟩:∃c,ts[i]? = some c:=⟨_,List.getElem?_eq_getElem (by rw[← hl];exact(List.getElem?_eq_some_iff.mp ex).1)⟩
   obtain⟨ka,ko,kd⟩:=kids i x c ex ecx
   have T2:Tups H H':=fun b xs e=>hb _ _ (qB e hr') (S2 _ _ (qB e hr') e)
   refine⟨_,rfl,.inl ⟨rfl,_,SqL.of hrr⟩,_,rfl,c,x,rfl,ka.mono T2,ko,by omega,by omega,fun r2 H3 hr2 S3 e3=>?_⟩
   have e3r:=S3 _ _ hrr
   refine⟨r,r2,_,_,rfl,rfl,e3r,e3,?_,?_⟩
   ·have z1:=qJh ecx
    have z2:=qGw (ts:=ts) (i+1)
    rw[z1,← en,List.length_append] at z2
    rw[xW,xW]
    exact smallE (by omega)
   ·refine⟨_,rfl,hb.trans (S3.but.trans But.upd),?_⟩
    rw[qW,qJh ecx,xR]
  ·obtain⟨z,rfl,hb,hrr⟩:=hP
   refine⟨_,rfl,q r H' hr' (fun b o e=>hb _ _ (qB e hr') (S2 _ _ (qB e hr') e)) ?_⟩
   rw[hrr,hl,List.take_length,en]
theorem qWm {f:Addr}{fd:FuncData}(F:Fun K "names_in" "names_in" (top 5) f fd)(E_names_in:FunE K mg "names_in" f fd ["thing"]):∀n:Nat,FnOk P w K mg base CX0 (n+1) f fd ["thing"] (vR n)
 | 0=>qDw
 | n+1=>qDv F (qWm F E_names_in n) E_names_in

theorem qAd {σ:St}{H:Hp}{Q:VK}{bx:Addr}{us:List V}{bs:List (Str×Int)}(e1:H bx=some (.lst us))(p1:Paired (BoxIn H) bs us)(hl:bs.length≤1000)
  (q:∀(D:Addr) (H':Hp),Same H H'→H' D=some (.lst (strsV (bs.map (·.1))))→Q (.ref D) H'):
  rdC 1 [] (gName 0) tYes (tOp (rIxT K) (tVar 0) (tC (.int 0))) (Itl K bx) σ H Q:=by
 have lb:us.length=bs.length:=p1.length.symm
 refine zM (xs:=us) (fun D i ys H'=>ys=strsV ((bs.take i).map (·.1))∧∀b o,H b=some o→H' b=some o) (fun D hD=>⟨rfl,qV hD _⟩)
  (fun D i ys H' _ hP=>(show Same H H' from hP.2).seq (SqL.of e1)) (fun D i x ys H' N hD hDy ex hP hN=>?_) (fun wd ys H2 hD hDy hP=>?_)
 ·obtain⟨rfl,hk⟩:=hP
  obtain⟨b,eb⟩:∃b,bs[i]? = some b:=⟨_,List.getElem?_eq_getElem (by rw[← lb];exact(List.getElem?_eq_some_iff.mp ex).1)⟩
  obtain⟨ba,rfl,hba⟩:=xK p1 eb ex
  refine⟨⟨[some (.ref ba)],rfl,rfl⟩,?_⟩
  refine⟨_,rfl,ba,_,0,.str b.1,rfl,rfl,SqT.of (hk _ _ hba),rfl,hDy,?_,hN _ _ qW ⟨?_,fun b o e=>?_⟩⟩
  ·rw[xW,List.length_map,List.length_take];exact small (by omega)
  ·rw[List.take_add_one,eb,List.map_append,xR];rfl
  ·rw[qA (qB e hD)];exact hk _ _ e
 obtain⟨rfl,hk2⟩:=hP
 rw[lb,List.take_length] at hDy
 exact q wd H2 hk2 hDy
theorem qXe {σ:St}{H:Hp}{Q:VK}{bx:Addr}{us:List V}{bs:List (Str×Int)}(e1:H bx=some (.lst us))(p1:Paired (BoxIn H) bs us)(hl:bs.length≤1000)
  (q:∀(D:Addr) (H':Hp),Same H H'→H' D=some (.lst (strsV (bs.map (·.1))))→Q (.ref D) H'):
  rdC 2 [] (gTup K 2 (gCons (gName 0) (gCons (gName 1) gNil))) tYes (tVar 0) (Itl K bx) σ H Q:=by
 have lb:us.length=bs.length:=p1.length.symm
 refine zM (xs:=us) (fun D i ys H'=>ys=strsV ((bs.take i).map (·.1))∧∀b o,H b=some o→H' b=some o) (fun D hD=>⟨rfl,qV hD _⟩)
  (fun D i ys H' _ hP=>(show Same H H' from hP.2).seq (SqL.of e1)) (fun D i x ys H' N hD hDy ex hP hN=>?_) (fun wd ys H2 hD hDy hP=>?_)
 ·obtain⟨rfl,hk⟩:=hP
  obtain⟨b,eb⟩:∃b,bs[i]? = some b:=⟨_,List.getElem?_eq_getElem (by rw[← lb];exact(List.getElem?_eq_some_iff.mp ex).1)⟩
  obtain⟨ba,rfl,hba⟩:=xK p1 eb ex
  refine⟨ba,_,rfl,SqT.of (hk _ _ hba),rfl,_,_,rfl,_,_,rfl,rfl,⟨[some (.str b.1),some (.int b.2)],rfl,rfl⟩,?_⟩
  refine⟨_,rfl,hDy,?_,hN _ _ qW ⟨?_,fun b o e=>?_⟩⟩
  ·rw[xW,List.length_map,List.length_take];exact small (by omega)
  ·rw[List.take_add_one,eb,List.map_append,xR];rfl
  ·rw[qA (qB e hD)];exact hk _ _ e
 obtain⟨rfl,hk2⟩:=hP
 rw[lb,List.take_length] at hDy
 exact q wd H2 hk2 hDy
noncomputable def Fits (bs:List (Str×Int))(vals:List Int):Prop:=vals.length=bs.length∧∀(i:Nat) b v,bs[i]? = some b→vals[i]? = some v→0≤v∧v<b.2
theorem Fits.stands {bs:List (Str×Int)}{vals:List Int}(f:Fits bs vals)(h25:∀b∈bs,2≤b.2∧b.2≤5):Stands bs vals:=⟨f.1,fun v hv=>by
 obtain⟨i,hi⟩:=List.mem_iff_getElem?.mp hv
 have hl:i<bs.length:=by rw[← f.1];exact(List.getElem?_eq_some_iff.mp hi).1
 have:=f.2 i _ v (List.getElem?_eq_getElem hl) hi
 have:=h25 _ (List.getElem_mem hl)
 omega⟩
theorem qMo {H:Hp}{bs:List (Str×Int)}{us:List V}(p1:Paired (BoxIn H) bs us):∀(j:Nat) x,us[j]? = some x→∃y,x=.ref y:=fun j x ex=>by
 obtain⟨b,eb⟩:∃b,bs[j]? = some b:=⟨_,List.getElem?_eq_getElem (by rw[p1.length];exact(List.getElem?_eq_some_iff.mp ex).1)⟩
 obtain⟨y,ey,_⟩:=xK p1 eb ex
 exact⟨y,ey⟩
theorem small2 {n:Nat}(h:n≤100000):n<sizeLine:=Nat.lt_of_le_of_lt h (by decide)
theorem qCd {n:Nat}(h:n≤100000):n≤sizeLine:=Nat.le_of_lt (small2 h)
noncomputable def rowsBy (acc:List (List Int))(n:Nat):List (List Int):=acc.flatMap fun r=>(List.range n).map fun v=>r++[((v:Nat):Int)]
noncomputable def allV (bs:List (Str×Int)):List (List Int):=(bs.map fun b=>b.2.toNat).foldl rowsBy [[]]
theorem yM {bs:List (Str×Int)}{i:Nat}{b:Str×Int}(h:bs[i]? = some b):allV (bs.take (i+1))=rowsBy (allV (bs.take i)) b.2.toNat:=by
 unfold allV
 rw[List.take_add_one,h,List.map_append,List.foldl_append]
 rfl
theorem qQq {acc:List (List Int)}{n j:Nat}{r:List Int}(h:acc[j]? = some r):rowsBy (acc.take (j+1)) n=rowsBy (acc.take j) n++(List.range n).map fun v=>r++[((v:Nat):Int)]:=by
 unfold rowsBy
 rw[List.take_add_one,h,List.flatMap_append]
 simp
theorem kN (n:Nat):∀acc:List (List Int),(rowsBy acc n).length=acc.length * n
 | []=>by simp[rowsBy]
 | r::acc=>by
  have:=kN n acc
  unfold rowsBy at this ⊢
  rw[List.flatMap_cons,List.length_append,this,List.length_map,List.length_range,List.length_cons,Nat.succ_mul]
  omega
theorem kY (acc:List (List Int))(n j:Nat):(rowsBy (acc.take j) n).length≤acc.length * n:=by
 rw[kN,List.length_take]
 exact Nat.mul_le_mul_right _ (Nat.min_le_right _ _)
theorem wM {bs:List (Str×Int)}(h:∀b∈bs,2≤b.2∧b.2≤5):∀i:Nat,i≤bs.length→(allV (bs.take i)).length≤5 ^ i
 | 0,_=>by simp[allV]
 | i+1,hi=>by
  have hb:bs[i]? = some (bs[i]'(by omega)):=List.getElem?_eq_getElem (by omega)
  rw[yM hb,kN,Nat.pow_succ]
  have:=h _ (List.getElem_mem (h:=(by omega:i<bs.length)))
  exact Nat.mul_le_mul (wM h i (by omega)) (by omega)
theorem qAl {n k:Nat}{acc:List (List Int)}(h:∀r∈acc,r.length=k):∀r∈rowsBy acc n,r.length=k+1:=fun r hr=>by
 obtain⟨x,hx,hr⟩:=List.mem_flatMap.mp hr
 obtain⟨v,_,rfl⟩:=List.mem_map.mp hr
 rw[List.length_append,h x hx];rfl
theorem qJb (bs:List (Str×Int)):∀i:Nat,i≤bs.length→∀r∈allV (bs.take i),r.length=i
 | 0,_=>fun r hr=>by simp[allV] at hr;subst hr;rfl
 | i+1,hi=>by
  have hb:bs[i]? = some (bs[i]'(by omega)):=List.getElem?_eq_getElem (by omega)
  rw[yM hb]
  exact qAl (qJb bs i (by omega))
theorem pow56 {i:Nat}(h:i≤6):5 ^ i≤15625:=Nat.le_trans (Nat.pow_le_pow_right (by decide) h) (by decide)
theorem qEm {bs:List (Str×Int)}{i:Nat}{b:Str×Int}{r:List Int}{v:Nat}(hb:bs[i]? = some b)(h:Fits (bs.take i) r)(hv:(v:Int)<b.2):Fits (bs.take (i+1)) (r++[((v:Nat):Int)]):=by
 have hl:=h.1
 have hib:i<bs.length:=(List.getElem?_eq_some_iff.mp hb).1
 have lt:(bs.take i).length=i:=by rw[List.length_take];omega
 refine⟨by rw[List.take_add_one,hb,List.length_append,List.length_append,hl];rfl,fun j c x ec ex=>?_⟩
 rw[List.take_add_one,hb] at ec
 by_cases hj:j<i
 ·rw[List.getElem?_append_left (by omega)] at ec ex
  exact h.2 j c x ec ex
 ·have hj':j=i:=by
   have:=(List.getElem?_eq_some_iff.mp ex).1
   rw[List.length_append,List.length_singleton] at this
   omega
  subst hj'
  rw[List.getElem?_append_right (by omega)] at ec ex
  have e1:j - (bs.take j).length=0:=by omega
  have e2:j - r.length=0:=by omega
  rw[e1] at ec
  rw[e2] at ex
  cases ec;cases ex
  exact⟨by omega,hv⟩
theorem qKw {bs:List (Str×Int)}:∀i:Nat,i≤bs.length→∀r∈allV (bs.take i),Fits (bs.take i) r
 | 0,_=>fun r hr=>by
  simp[allV] at hr
  subst hr
  exact⟨rfl,fun j b v e=>by simp at e⟩
 | i+1,hi=>fun r hr=>by
  have hb:bs[i]? = some (bs[i]'(by omega)):=List.getElem?_eq_getElem (by omega)
  rw[yM hb] at hr
  obtain⟨x,hx,hr⟩:=List.mem_flatMap.mp hr
  obtain⟨v,hv,rfl⟩:=List.mem_map.mp hr
  have hv:=List.mem_range.mp hv
  exact qEm hb (qKw i (by omega) x hx) (by omega)
theorem qFo {bs:List (Str×Int)}{r:List Int}(h:r∈allV bs):Fits bs r:=by
 have:=qKw (bs:=bs) bs.length (Nat.le_refl _) r
 rw[List.take_length] at this
 exact this h
noncomputable def TupIn (H:Hp)(vals:List Int)(u:V):Prop:=∃a,u=.ref a∧H a=some (.tup (intsV vals))
theorem xJ {H H':Hp}(h:Tups H H'){rs:List (List Int)}{us:List V}(p:Paired (TupIn H) rs us):Paired (TupIn H') rs us:=Paired.mapP p fun _ _ x=>let ⟨a,e,q⟩:=x;⟨a,e,h _ _ q⟩
theorem qWd {σ:St}{H:Hp}{Q:VK}{j:Nat}{ra:Addr}{r:List Int}{n:Nat}(era:H ra=some (.tup (intsV r)))(hj:σ.getD j none=some (.ref ra))(hr:r.length≤100)(hn:n≤1000)
  (q:∀(D:Addr) (us:List V) (H':Hp),H D=none→Same H H'→H' D=some (.lst us)→Paired (TupIn H') ((List.range n).map fun v=>r++[((v:Nat):Int)]) us→Q (.ref D) H'):
  rdC 1 [j] (gName 0) tYes (tOp (rCatN K) (tVar 1) (tTup (tCons (tVar 0) tNil))) (Itr 0 n) σ H Q:=by
 have fr:frees [j] σ=[some (.ref ra)]:=by show [σ.getD j none]=_;rw[hj]
 refine qZz (fun D i ys H'=>Paired (TupIn H') ((List.range i).map fun v=>r++[((v:Nat):Int)]) ys∧Same H H') (fun D hD=>⟨.nil,qV hD _⟩) (fun D i ys H' N hD hDy hi hP hN=>?_) (fun D ys H2 hD hDy hP=>?_)
 ·obtain⟨hp,hk⟩:=hP
  have lp:=hp.length
  rw[List.length_map,List.length_range] at lp
  have e0:(0:Int)+(i:Int)=(i:Int):=Int.zero_add _
  rw[e0]
  refine⟨⟨[some (.int (i:Int))],rfl,rfl⟩,?_⟩
  refine⟨.ref ra,(by show(([some (V.int (i:Int))]:St)++frees [j] σ)[1]? = _;rw[fr];rfl),_,rfl,(by show 1≤sizeLine;decide),fun t ht=>?_⟩
  have Dt:D≠t:=qB hDy ht
  have fin:∀(a:Addr) (H3:Hp),Same H' H3→H3 a=some (.tup (intsV (r++[((i:Nat):Int)])))→H3 D=some (.lst ys)∧ys.length<sizeLine∧N (ys++[.ref a]) (upd H3 D (.lst (ys++[.ref a]))):=fun a H3 S3 ea=>by
   have eD:=S3 _ _ hDy
   refine⟨eD,small (by omega),hN _ _ qW ⟨?_,fun b o e=>?_⟩⟩
   ·have T1:Tups H' (upd H3 D (.lst (ys++[.ref a]))):=fun b xs e=>by rw[qA (vJ e hDy (by intro z;cases z))];exact S3 _ _ e
    rw[List.range_succ,List.map_append]
    exact Paired.snoc (xJ T1 hp) ⟨a,rfl,by rw[qA (vJ ea eD (by intro z;cases z))];exact ea⟩
   ·rw[qA (qB e hD)];exact S3 _ _ (hk _ _ e)
  refine⟨ra,t,_,_,rfl,rfl,SqT.of (qV ht _ _ _ (hk _ _ era)),SqT.of qW,by simp,?_,fun z=>?_,fun z p hp'=>?_⟩
  ·rw[yG];exact smallE (by show r.length+1≤_;omega)
  ·have z':r=[]:=List.map_eq_nil_iff.mp z
   subst z'
   exact fin t _ (qV ht _) qW
  ·refine fin p _ ((qV ht _).trans (qV hp' _)) ?_
   rw[qXn];exact qW
 ·exact q D ys H2 hD hP.2 hDy hP.1
noncomputable def wE:Sp:=fun vs H Q _=>∃(bx:Addr) (bs:List (Str×Int)) (us:List V),vs=[.ref bx]∧H bx=some (.lst us)∧Paired (BoxIn H) bs us∧bs.length≤6∧(∀b∈bs,2≤b.2∧b.2≤5)∧
 ∀(r:Addr) (ss:List V) (H':Hp),H r=none→Same H H'→H' r=some (.lst ss)→Paired (TupIn H') (allV bs) ss→Q (.ref r) H'

theorem xO:xI ["boxes","rows","name","size","longer","row"] ["boxes"] (xA (top 15)):=⟨rfl,rfl,rfl,by decide +kernel,rfl,by decide +kernel,by decide +kernel⟩
theorem jV:CompOk (xA (top 15)) ["boxes","rows","name","size","longer","row"] (scAt (xB (top 15)) [1,1,0] [1]) ["value","row"] 1 [5]:=
 ⟨by decide +kernel,by decide +kernel,by decide +kernel,by decide +kernel,by decide +kernel,by decide +kernel,by decide +kernel,by decide +kernel⟩
theorem qSe (F:Fd K mg "standings_of_boxes" (top 15) ["boxes"])(B:Bl mg):Dn P w K mg base "standings_of_boxes" 1 ["boxes"] wE:=by
 refine F.ok xO (fun vs H Q E h=>?_) (fun f cdv A outer s H vs Q E hr h=>?_)
 ·obtain⟨_,_,_,rfl,_⟩:=h
  rfl
 obtain⟨bx,bs,us,rfl,ebx,pb,h6,h25,q⟩:=h
 have lb:us.length=bs.length:=pb.length.symm
 refine⟨_,(qZ (qM (i:=1) xO.nd rfl (by wtm_at "zo") (zX (qQ (zJ qX) qX)))
  (qZ (zE PassesOwn.never rfl (qU (K:=K) (pv 0)) (zH (K:=K) (n:=2) rfl (qH (qG (i:=2) xO.nd rfl (by wtm_at "zo")) (qH (qG (i:=3) xO.nd rfl (by wtm_at "zo")) qI))) (qZ (qM (i:=4) xO.nd rfl (by wtm_at "zo") (zX qX))
  (qZ (zE PassesOwn.never rfl (qU (K:=K) (pv 1)) (qG (i:=5) xO.nd rfl (by wtm_at "zo")) (qJ (qP (zC (K:=K) PySem.F.plainAttrs_list PySem.F.slot_list_extend PySem.F.type_list_extend qQd (pv 4) (qQ (jW rfl jV (zT rfl B.range' (qQ (pv 3) qX)) (fun cl fp s H=>(qG (i:=0) jV.nd rfl (Or.inl rfl) (.inr rfl))) (fun cl fp s H=>zS) (fun cl fp s H=>(xQ (qWl (K:=K)) (pv 1) (zJ (qQ (pv 0) qX))))) qX)))))
  (qJ (qM (i:=1) xO.nd rfl (by wtm_at "zo") (pv 4))))))
  (qJ (qN (pv 1))))),?_⟩
 wtm_at "zw"
 refine⟨(by show 0≤sizeLine;decide),fun t0 ht0=>?_⟩
 wtm_at "zw"
 refine⟨(by show 1≤sizeLine;decide),fun r0 hr0=>?_⟩
 wtm_at "zw"
 have S0:Same H (upd (upd H t0 (.tup [])) r0 (.lst [.ref t0])):=(qV ht0 _).trans (qV hr0 _)
 refine⟨_,rfl,bx,rfl,⟨us,SqL.of (S0 _ _ ebx)⟩,?_⟩
 refine zK (xs:=us) (fun i σ' H'=>∃(ro:Addr) (ss:List V) (z2 z3 z4 z5:Option V),σ'=[some (.ref bx),some (.ref ro),z2,z3,z4,z5]∧Same H H'∧H ro=none∧H' ro=some (.lst ss)∧Paired (TupIn H') (allV (bs.take i)) ss)
  ⟨r0,[.ref t0],none,none,none,none,rfl,S0,(qV ht0 _).free hr0,qW,.cons ⟨t0,rfl,qV hr0 _ _ _ qW⟩ .nil⟩
  (fun i σ' H' _ hP=>?_) (fun N rt bk i x σ' H' ex hP hN=>?_) (fun σ' H' hP=>?_)
 ·obtain⟨ro,ss,z2,z3,z4,z5,rfl,S1,_⟩:=hP
  exact SqL.of (S1 _ _ ebx)
 ·obtain⟨ro,ss,z2,z3,z4,z5,rfl,S1,nro,ero,prs⟩:=hP
  have hi:i<bs.length:=by rw[← lb];exact(List.getElem?_eq_some_iff.mp ex).1
  obtain⟨b,eb⟩:∃b,bs[i]? = some b:=⟨_,List.getElem?_eq_getElem hi⟩
  obtain⟨ba,rfl,hba⟩:=xK pb eb ex
  have hb25:=h25 b (List.mem_of_getElem? eb)
  have rl:=wM h25 i (by omega)
  have p5:=pow56 (i:=i) (by omega)
  refine⟨ba,_,rfl,SqT.of (S1 _ _ hba),rfl,_,_,rfl,_,_,rfl,rfl,?_⟩
  wtm_at "zw"
  refine⟨(by show 0≤sizeLine;decide),fun lo hlo=>?_⟩
  wtm_at "zw"
  have lr:=prs.length
  refine⟨_,rfl,ro,rfl,⟨ss,SqL.of (qV hlo _ _ _ ero)⟩,?_⟩
  refine zK (xs:=ss) (fun j σ'' H''=>∃(ls:List V) (z5:Option V),σ''=[some (.ref bx),some (.ref ro),some (.str b.1),some (.int b.2),some (.ref lo),z5]∧(∀c o,H' c=some o→H'' c=some o)∧H'' lo=some (.lst ls)∧Paired (TupIn H'') (rowsBy ((allV (bs.take i)).take j) b.2.toNat) ls)
   ⟨[],z5,rfl,qV hlo _,qW,.nil⟩ (fun j σ'' H'' _ hP=>?_) (fun N2 rt2 bk2 j x σ'' H'' ex2 hP hN2=>?_) (fun σ'' H'' hP=>?_)
  ·obtain⟨ls,z5,rfl,k2,_⟩:=hP
   exact SqL.of (k2 _ _ ero)
  ·obtain⟨ls,z5,rfl,k2,elo,pls⟩:=hP
   have hj:j<(allV (bs.take i)).length:=by rw[lr];exact(List.getElem?_eq_some_iff.mp ex2).1
   obtain⟨row,erow⟩:∃row,(allV (bs.take i))[j]? = some row:=⟨_,List.getElem?_eq_getElem hj⟩
   obtain⟨ra,rfl,hra⟩:=xK prs erow ex2
   have hrl:=qJb bs i (by omega) row (List.mem_of_getElem? erow)
   have ll:=pls.length
   have lm:=kY (allV (bs.take i)) b.2.toNat j
   have l5:(allV (bs.take i)).length * b.2.toNat≤15625 * 5:=Nat.mul_le_mul (by omega) (by omega)
   wtm_at "zw"
   refine⟨.inl ⟨rfl,_,SqL.of elo⟩,?_⟩
   wtm_at "zw"
   refine⟨_,rfl,b.2,rfl,by omega,by omega,qWd (k2 _ _ hra) rfl (by omega) (by omega) fun D zs H3 nD S3 eD pz=>?_⟩
   have lz:=pz.length
   rw[List.length_map,List.length_range] at lz
   have elo3:=S3 _ _ elo
   refine⟨lo,D,ls,zs,rfl,rfl,elo3,eD,by rw[← ll,← lz];exact qCd (by omega),?_⟩
   have T3:Tups H3 (upd H3 lo (.lst (ls++zs))):=fun c xs e=>by rw[qA (vJ e elo3 (by intro z;cases z))];exact e
   refine hN2 _ _ ⟨ls++zs,_,rfl,fun c o e=>?_,qW,?_⟩
   ·rw[qA (qB e hlo)];exact S3 _ _ (k2 _ _ e)
   ·rw[qQq erow]
    exact vT (xJ T3 (xJ (qC S3) pls)) (xJ T3 pz)
  ·obtain⟨ls,z5,rfl,k2,elo,pls⟩:=hP
   rw[← lr,List.take_length,← yM eb] at pls
   wtm_at "zw"
   exact hN _ _ ⟨lo,ls,_,_,_,_,rfl,S1.trans k2,S1.free hlo,elo,pls⟩
 ·obtain⟨ro,ss,z2,z3,z4,z5,rfl,S1,nro,ero,prs⟩:=hP
  rw[lb,List.take_length] at prs
  wtm_at "zw"
  exact q ro ss H' nro S1 ero prs

theorem xU:xI ["boxes","found","name","size","longer","one"] ["boxes"] (xA (top 48)):=⟨rfl,rfl,rfl,by decide +kernel,rfl,by decide +kernel,by decide +kernel⟩
theorem yH:CompOk (xA (top 48)) ["boxes","found","name","size","longer","one"] (scAt (xB (top 48)) [1,1,0] [1]) ["value","one"] 1 [5]:=
 ⟨by decide +kernel,by decide +kernel,by decide +kernel,by decide +kernel,by decide +kernel,by decide +kernel,by decide +kernel,by decide +kernel⟩
theorem qFj (F:Fd K mg "_law_standings" (top 48) ["boxes"])(B:Bl mg):Dn P w K mg base "_law_standings" 1 ["boxes"] wE:=by
 refine F.ok xU (fun vs H Q E h=>?_) (fun f cdv A outer s H vs Q E hr h=>?_)
 ·obtain⟨_,_,_,rfl,_⟩:=h
  rfl
 obtain⟨bx,bs,us,rfl,ebx,pb,h6,h25,q⟩:=h
 have lb:us.length=bs.length:=pb.length.symm
 refine⟨_,(qZ (qM (i:=1) xU.nd rfl (by wtm_at "zo") (zX (qQ (zJ qX) qX)))
  (qZ (zE PassesOwn.never rfl (qU (K:=K) (pv 0)) (zH (K:=K) (n:=2) rfl (qH (qG (i:=2) xU.nd rfl (by wtm_at "zo")) (qH (qG (i:=3) xU.nd rfl (by wtm_at "zo")) qI))) (qZ (qM (i:=4) xU.nd rfl (by wtm_at "zo") (zX qX))
  (qZ (zE PassesOwn.never rfl (qU (K:=K) (pv 1)) (qG (i:=5) xU.nd rfl (by wtm_at "zo")) (qJ (qM (i:=4) xU.nd rfl (by wtm_at "zo") (xQ qQv (pv 4) (jW rfl yH (zT rfl B.range' (qQ (pv 3) qX)) (fun cl fp s H=>(qG (i:=0) yH.nd rfl (Or.inl rfl) (.inr rfl))) (fun cl fp s H=>zS) (fun cl fp s H=>(xQ (qWl (K:=K)) (pv 1) (zJ (qQ (pv 0) qX)))))))))
  (qJ (qM (i:=1) xU.nd rfl (by wtm_at "zo") (pv 4))))))
  (qJ (qN (pv 1))))),?_⟩
 wtm_at "zw"
 refine⟨(by show 0≤sizeLine;decide),fun t0 ht0=>?_⟩
 wtm_at "zw"
 refine⟨(by show 1≤sizeLine;decide),fun r0 hr0=>?_⟩
 wtm_at "zw"
 have S0:Same H (upd (upd H t0 (.tup [])) r0 (.lst [.ref t0])):=(qV ht0 _).trans (qV hr0 _)
 refine⟨_,rfl,bx,rfl,⟨us,SqL.of (S0 _ _ ebx)⟩,?_⟩
 refine zK (xs:=us) (fun i σ' H'=>∃(ro:Addr) (ss:List V) (z2 z3 z4 z5:Option V),σ'=[some (.ref bx),some (.ref ro),z2,z3,z4,z5]∧Same H H'∧H ro=none∧H' ro=some (.lst ss)∧Paired (TupIn H') (allV (bs.take i)) ss)
  ⟨r0,[.ref t0],none,none,none,none,rfl,S0,(qV ht0 _).free hr0,qW,.cons ⟨t0,rfl,qV hr0 _ _ _ qW⟩ .nil⟩
  (fun i σ' H' _ hP=>?_) (fun N rt bk i x σ' H' ex hP hN=>?_) (fun σ' H' hP=>?_)
 ·obtain⟨ro,ss,z2,z3,z4,z5,rfl,S1,_⟩:=hP
  exact SqL.of (S1 _ _ ebx)
 ·obtain⟨ro,ss,z2,z3,z4,z5,rfl,S1,nro,ero,prs⟩:=hP
  have hi:i<bs.length:=by rw[← lb];exact(List.getElem?_eq_some_iff.mp ex).1
  obtain⟨b,eb⟩:∃b,bs[i]? = some b:=⟨_,List.getElem?_eq_getElem hi⟩
  obtain⟨ba,rfl,hba⟩:=xK pb eb ex
  have hb25:=h25 b (List.mem_of_getElem? eb)
  have rl:=wM h25 i (by omega)
  have p5:=pow56 (i:=i) (by omega)
  refine⟨ba,_,rfl,SqT.of (S1 _ _ hba),rfl,_,_,rfl,_,_,rfl,rfl,?_⟩
  wtm_at "zw"
  refine⟨(by show 0≤sizeLine;decide),fun lo0 hlo0=>?_⟩
  wtm_at "zw"
  have lr:=prs.length
  refine⟨_,rfl,ro,rfl,⟨ss,SqL.of (qV hlo0 _ _ _ ero)⟩,?_⟩
  refine zK (xs:=ss) (fun j σ'' H''=>∃(lo:Addr) (ls:List V) (z5:Option V),σ''=[some (.ref bx),some (.ref ro),some (.str b.1),some (.int b.2),some (.ref lo),z5]∧Same H' H''∧H' lo=none∧H'' lo=some (.lst ls)∧Paired (TupIn H'') (rowsBy ((allV (bs.take i)).take j) b.2.toNat) ls)
   ⟨lo0,[],z5,rfl,qV hlo0 _,hlo0,qW,.nil⟩ (fun j σ'' H'' _ hP=>?_) (fun N2 rt2 bk2 j x σ'' H'' ex2 hP hN2=>?_) (fun σ'' H'' hP=>?_)
  ·obtain⟨lo,ls,z5,rfl,k2,_⟩:=hP
   exact SqL.of (k2 _ _ ero)
  ·obtain⟨lo,ls,z5,rfl,k2,nlo,elo,pls⟩:=hP
   have hj:j<(allV (bs.take i)).length:=by rw[lr];exact(List.getElem?_eq_some_iff.mp ex2).1
   obtain⟨row,erow⟩:∃row,(allV (bs.take i))[j]? = some row:=⟨_,List.getElem?_eq_getElem hj⟩
   obtain⟨ra,rfl,hra⟩:=xK prs erow ex2
   have hrl:=qJb bs i (by omega) row (List.mem_of_getElem? erow)
   have ll:=pls.length
   have lm:=kY (allV (bs.take i)) b.2.toNat j
   have l5:(allV (bs.take i)).length * b.2.toNat≤15625 * 5:=Nat.mul_le_mul (by omega) (by omega)
   wtm_at "zw"
   refine⟨_,rfl,b.2,rfl,by omega,by omega,qWd (k2 _ _ hra) rfl (by omega) (by omega) fun D zs H3 nD S3 eD pz=>?_⟩
   have lz:=pz.length
   rw[List.length_map,List.length_range] at lz
   refine⟨lo,D,ls,zs,rfl,rfl,S3 _ _ elo,eD,by rw[← ll,← lz];exact qCd (by omega),fun p hp=>?_⟩
   have S4:Same H3 (upd H3 p (.lst (ls++zs))):=qV hp _
   refine hN2 _ _ ⟨p,ls++zs,_,rfl,k2.trans (S3.trans S4),k2.free (S3.free hp),qW,?_⟩
   rw[qQq erow]
   exact vT (xJ (qC (S3.trans S4)) pls) (xJ (qC S4) pz)
  ·obtain⟨lo,ls,z5,rfl,k2,nlo,elo,pls⟩:=hP
   rw[← lr,List.take_length,← yM eb] at pls
   wtm_at "zw"
   exact hN _ _ ⟨lo,ls,_,_,_,_,rfl,S1.trans k2,S1.free nlo,elo,pls⟩
 ·obtain⟨ro,ss,z2,z3,z4,z5,rfl,S1,nro,ero,prs⟩:=hP
  rw[lb,List.take_length] at prs
  wtm_at "zw"
  exact q ro ss H' nro S1 ero prs

noncomputable def zD (H:Hp)(c:Str×Th)(u:V):Prop:=∃a v,u=.ref a∧H a=some (.tup [.str c.1,v])∧c.2.At H v
noncomputable def WayIn (H:Hp)(wy:List (Str×Th))(u:V):Prop:=∃a us,u=.ref a∧H a=some (.lst us)∧Paired (zD H) wy us
structure Deed where
 name:Str
 price:Int
 need:Th
 ways:List (List (Str×Th))
noncomputable def DeedIn (H:Hp)(d:Deed)(u:V):Prop:=∃a nv wa us,u=.ref a∧H a=some (.tup [.str d.name,.int d.price,nv,.ref wa])∧d.need.At H nv∧H wa=some (.lst us)∧Paired (WayIn H) d.ways us
structure Look where
 name:Str
 price:Int
 part:Th
noncomputable def LookIn (H:Hp)(l:Look)(u:V):Prop:=∃a v,u=.ref a∧H a=some (.tup [.str l.name,.int l.price,v])∧l.part.At H v
structure WayOk (ws:List Str)(wy:List (Str×Th)):Prop where
 nd:(wy.map (·.1)).Nodup
 le:wy.length≤100
 ok:∀c∈wy,c.1∈ws∧Expr' ws c.2∧c.2.dep≤12
 sm:∀c∈wy,c.2.dep≤3
structure DeedOk (ws:List Str)(d:Deed):Prop where
 price:1≤d.price
 need:Cond' ws d.need
 dep:d.need.dep≤12
 ne:d.ways≠[]
 le:d.ways.length≤100
 ways:∀wy∈d.ways,WayOk ws wy
 hi:d.price<2 ^ 1100
 sm:d.need.dep≤6
 w4:d.ways.length≤4
structure LookOk (ws:List Str)(l:Look):Prop where
 price:1≤l.price
 part:Expr' ws l.part
 dep:l.part.dep≤12
 hi:l.price<2 ^ 1100
 sm:l.part.dep≤3
section
variable {H H':Hp}
theorem zD.same (s:Same H H'){c:Str×Th}{u:V}(x:zD H c u):zD H' c u:=let ⟨a,v,e,q,r⟩:=x;⟨a,v,e,s _ _ q,r.mono (qC s)⟩
theorem WayIn.same (s:Same H H'){c:List (Str×Th)}{u:V}(x:WayIn H c u):WayIn H' c u:=let ⟨a,us,e,q,r⟩:=x;⟨a,us,e,s _ _ q,Paired.mapP r fun _ _ y=>y.same s⟩
theorem DeedIn.same (s:Same H H'){c:Deed}{u:V}(x:DeedIn H c u):DeedIn H' c u:=let ⟨a,nv,wa,us,e,q,r,q2,p⟩:=x;⟨a,nv,wa,us,e,s _ _ q,r.mono (qC s),s _ _ q2,Paired.mapP p fun _ _ y=>y.same s⟩
theorem LookIn.same (s:Same H H'){c:Look}{u:V}(x:LookIn H c u):LookIn H' c u:=let ⟨a,v,e,q,r⟩:=x;⟨a,v,e,s _ _ q,r.mono (qC s)⟩
end
structure Wd where
 bs:List (Str×Int)
 ds:List Deed
 ls:List Look
 bt:Th
 gt:Th
noncomputable abbrev Wd.ws (W:Wd):List Str:=W.bs.map (·.1)
structure WAt (H:Hp)(W:Wd)(bx dx lx:Addr)(bv gv:V):Prop where
 boxes:∃us,H bx=some (.lst us)∧Paired (BoxIn H) W.bs us
 deeds:∃us,H dx=some (.lst us)∧Paired (DeedIn H) W.ds us
 looks:∃us,H lx=some (.lst us)∧Paired (LookIn H) W.ls us
 beg:W.bt.At H bv
 goal:W.gt.At H gv
structure WOk (W:Wd):Prop where
 b1:1≤W.bs.length
 b6:W.bs.length≤6
 b25:∀b∈W.bs,2≤b.2∧b.2≤5
 b200:(W.bs.map (·.2)).foldl (· * ·) 1≤200
 named:Named W.ws
 dl:W.ds.length≤100
 ll:W.ls.length≤100
 nd:(W.ds.map Deed.name++W.ls.map Look.name).Nodup
 deeds:∀d∈W.ds,DeedOk W.ws d
 looks:∀l∈W.ls,LookOk W.ws l
 beg:Cond' W.ws W.bt
 begd:W.bt.dep≤12
 goal:Cond' W.ws W.gt
 goald:W.gt.dep≤12
 some':∃vals∈allV W.bs,W.bt.truth (envOf (kvsOf W.bs vals))=true
 sh:∀x∈W.ds.map Deed.name++W.ls.map Look.name,Lw x
 bsm:W.bt.dep≤6
 gsm:W.gt.dep≤6
theorem WAt.same {H H':Hp}{W:Wd}{bx dx lx:Addr}{bv gv:V}(s:Same H H')(x:WAt H W bx dx lx bv gv):WAt H' W bx dx lx bv gv:=by
 obtain⟨u1,e1,p1⟩:=x.boxes
 obtain⟨u2,e2,p2⟩:=x.deeds
 obtain⟨u3,e3,p3⟩:=x.looks
 exact⟨⟨u1,s _ _ e1,xY (qC s) p1⟩,⟨u2,s _ _ e2,Paired.mapP p2 fun _ _ y=>y.same s⟩,⟨u3,s _ _ e3,Paired.mapP p3 fun _ _ y=>y.same s⟩,x.beg.mono (qC s),x.goal.mono (qC s)⟩
theorem Expr'.in {ws:List Str}:∀{t:Th},Expr' ws t→∀x∈t.names,x∈ws
 | .num _,_,x,h=>by cases h
 | .box y,h,x,hx=>by
  have hx:x∈[y]:=hx
  rw[List.mem_singleton.mp hx];exact h
 | .nul _,h,_,_=>h.elim
 | .un _ _,h,_,_=>h.elim
 | .bin k a b,⟨_,ha,hb⟩,x,hx=>by
  have hx:x∈a.names++b.names:=hx
  rcases List.mem_append.mp hx with h | h
  ·exact Expr'.in ha x h
  ·exact Expr'.in hb x h
theorem Cond'.in {ws:List Str}:∀{t:Th},Cond' ws t→∀x∈t.names,x∈ws
 | .num _,h,_,_=>h.elim
 | .box _,h,_,_=>h.elim
 | .nul _,_,x,h=>by cases h
 | .un k a,⟨_,ha⟩,x,hx=>Cond'.in ha x hx
 | .bin k a b,h,x,hx=>by
  have hx:x∈a.names++b.names:=hx
  rcases h with⟨_,ha,hb⟩ | ⟨_,ha,hb⟩
  ·rcases List.mem_append.mp hx with h | h
   ·exact ha.in x h
   ·exact hb.in x h
  ·rcases List.mem_append.mp hx with h | h
   ·exact Cond'.in ha x h
   ·exact Cond'.in hb x h
theorem qYh (ws:List Str):(strsV ws).all flatV=true:=List.all_eq_true.mpr fun x hx=>by
 obtain⟨y,_,rfl⟩:=List.mem_map.mp hx
 rfl
theorem wH (x:Str)(ws:List Str):inV (.str x) (strsV ws)=decide (x∈ws):=by
 unfold inV
 rw[List.any_map]
 by_cases h:x∈ws
 ·rw[decide_eq_true h]
  refine List.any_eq_true.mpr ⟨x,h,?_⟩
  show(x == x)=true
  exact beq_self_eq_true x
 ·rw[decide_eq_false h]
  refine Bool.eq_false_iff.mpr fun z=>?_
  obtain⟨y,hy,e⟩:=List.any_eq_true.mp z
  have e:(y == x)=true:=e
  exact h (eq_of_beq e▸hy)

theorem qKg:xI ["thing"] ["thing"] (xA (top 17)):=⟨rfl,rfl,rfl,by decide +kernel,rfl,by decide +kernel,by decide +kernel⟩
noncomputable def qKc:Sp:=fun vs H Q _=>∃i:Int,vs=[.int i]∧Q (.bl true) H
theorem qSj:PySem.W.kitOne K (.type "int") (.type "bool")=some false:=by with_unfolding_all rfl
theorem qHm (F:Fd K mg "is_whole" (top 17) ["thing"])(B:Bl mg):Dn P w K mg base "is_whole" 1 ["thing"] qKc:=by
 refine F.ok qKg (fun vs H Q E h=>?_) (fun f cdv A outer s H vs Q E hr h=>?_)
 ·obtain⟨_,rfl,_⟩:=h
  rfl
 obtain⟨i,rfl,q⟩:=h
 refine⟨_,(qJ (qN (qIi (xZ (wA (K:=K)) rfl B.isinstance' vI (qQ (pv 0) (qQ (qRb rfl B.int' qAa) qX))) (qIh (qCm (xZ (wA (K:=K)) rfl B.isinstance' vI (qQ (pv 0) (qQ (qRb rfl B.bool' qOo) qX)))))))),?_⟩
 wtm_at "zw"
 refine⟨.int i,"int",_,true,rfl,.int i,qSz,?_⟩
 wtm_at "zw"
 refine⟨.int i,"bool",_,false,rfl,.int i,qSj,?_⟩
 wtm_at "zw"
 exact q
theorem wT:xI ["name","price"] ["name","price"] (xA (top 20)):=⟨rfl,rfl,rfl,by decide +kernel,rfl,by decide +kernel,by decide +kernel⟩
noncomputable def qCw:Sp:=fun vs H Q _=>∃(x:V) (p:Int),vs=[x,.int p]∧1≤p∧Q .non H
theorem qIq (F:Fd K mg "refuse_price" (top 20) ["name","price"])(D_is_whole:Dn P w K mg base "is_whole" 1 ["thing"] qKc)(GL_LEAST_PRICE:Gi mg "LEAST_PRICE" 1):Dn P w K mg base "refuse_price" 2 ["name","price"] qCw:=by
 refine F.ok wT (fun vs H Q E h=>?_) (fun f cdv A outer s H vs Q E hr h=>?_)
 ·obtain⟨_,_,rfl,_⟩:=h
  rfl
 obtain⟨x,p,rfl,hp,q⟩:=h
 refine⟨_,(qJ (zB (PW.pt (qAo (qIf (qWf (qD D_is_whole hr (qQ (pv 1) qX)))) (qYq (qR qZn (pv 1) (qGo GL_LEAST_PRICE) (xD _))))) (qJ jG) qY)),?_⟩
 wtm_at "zw"
 refine⟨p,rfl,?_⟩
 wtm_at "zw"
 refine jP (decide_eq_false (by omega)) ?_
 wtm_at "zw"
 exact q
theorem kX:xI ["name","names"] ["name","names"] (xA (top 22)):=⟨rfl,rfl,rfl,by decide +kernel,rfl,by decide +kernel,by decide +kernel⟩
noncomputable def vP:Sp:=fun vs H Q _=>∃(x:Str) (nl:Addr) (ws:List Str),vs=[.str x,.ref nl]∧H nl=some (.lst (strsV ws))∧x∈ws∧Q .non H
theorem qVb (F:Fd K mg "refuse_strange_name" (top 22) ["name","names"]):Dn P w K mg base "refuse_strange_name" 1 ["name","names"] vP:=by
 refine F.ok kX (fun vs H Q E h=>?_) (fun f cdv A outer s H vs Q E hr h=>?_)
 ·obtain⟨_,_,_,rfl,_⟩:=h
  rfl
 obtain⟨x,nl,ws,rfl,hn,hx,q⟩:=h
 refine⟨_,(qJ (zB (qR (qDq (K:=K)) (pv 0) (pv 1) (by with_unfolding_all rfl)) (qJ jG) qY)),?_⟩
 wtm_at "zw"
 refine⟨nl,_,rfl,.inl (SqL.of hn),rfl,qYh ws,?_⟩
 wtm_at "zw"
 rw[if_pos rfl,wH,decide_eq_true hx]
 refine iteF ?_
 wtm_at "zw"
 exact q
theorem jY:xI ["thing","names","name"] ["thing","names"] (xA (top 23)):=⟨rfl,rfl,rfl,by decide +kernel,rfl,by decide +kernel,by decide +kernel⟩
noncomputable def wR:Sp:=fun vs H Q _=>∃(t:Th) (v:V) (nl:Addr) (ws:List Str),vs=[v,.ref nl]∧t.At H v∧t.Ok∧t.dep≤12∧H nl=some (.lst (strsV ws))∧(∀x∈t.names,x∈ws)∧∀H',Same H H'→Q .non H'
theorem qBe (F:Fd K mg "refuse_strange_names" (top 23) ["thing","names"])(D_refuse_strange_name:Dn P w K mg base "refuse_strange_name" 1 ["name","names"] vP)
  (D_names_in:Dn P w K mg base "names_in" 13 ["thing"] (vR 12)):Dn P w K mg base "refuse_strange_names" 14 ["thing","names"] wR:=by
 refine F.ok jY (fun vs H Q E h=>?_) (fun f cdv A outer s H vs Q E hr h=>?_)
 ·obtain⟨_,_,_,_,rfl,_⟩:=h
  rfl
 obtain⟨t,v,nl,ws,rfl,at',ok,dp,hn,hin,q⟩:=h
 refine⟨_,(qJ (zE PassesOwn.never rfl (qU (K:=K) (qD D_names_in hr (qQ (pv 0) qX))) (qG (i:=2) jY.nd rfl (by wtm_at "zo")) (qJ (qP (qD D_refuse_strange_name hr (qQ (pv 2) (qQ (pv 1) qX))))))),?_⟩
 wtm_at "zf"
 refine⟨t,v,rfl,at',ok,dp,dp,fun r H1 hr1 S1 er=>?_⟩
 refine⟨r,rfl,⟨_,SqL.of er⟩,?_⟩
 refine qJj (xs:=strsV t.names) (fun i σ' H'=>∃z:Option V,σ'=[some v,some (.ref nl),z]∧H'=H1) ⟨none,rfl,rfl⟩ (fun i σ' H' _ hP=>?_) (fun i x σ' H' ex hP=>?_) (fun σ' H' hP=>?_)
 ·obtain⟨z,rfl,rfl⟩:=hP
  exact SqL.of er
 ·obtain⟨z,rfl,rfl⟩:=hP
  obtain⟨y,hy,rfl⟩:=List.mem_map.mp (List.mem_of_getElem? ex)
  wtm_at "zw"
  refine⟨y,nl,ws,rfl,S1 _ _ hn,hin y hy,?_⟩
  exact⟨_,rfl,rfl⟩
 ·obtain⟨z,rfl,rfl⟩:=hP
  exact q _ S1
theorem wS:xI ["names","kind"] ["names","kind"] (xA (top 19)):=⟨rfl,rfl,rfl,by decide +kernel,rfl,by decide +kernel,by decide +kernel⟩
noncomputable def qZf:Sp:=fun vs H Q _=>∃(nl:Addr) (ws:List Str) (x:V),vs=[.ref nl,x]∧H nl=some (.lst (strsV ws))∧ws.Nodup∧ws.length≤1000∧∀H',Same H H'→Q .non H'
theorem qHn (F:Fd K mg "refuse_twice" (top 19) ["names","kind"])(B:Bl mg)(B_set:mg "set" = none):Dn P w K mg base "refuse_twice" 1 ["names","kind"] qZf:=by
 refine F.ok wS (fun vs H Q E h=>?_) (fun f cdv A outer s H vs Q E hr h=>?_)
 ·obtain⟨_,_,_,rfl,_⟩:=h
  rfl
 obtain⟨nl,ws,x,rfl,hn,nd,hl,q⟩:=h
 refine⟨_,(qJ (zB (qR qZn (xZ (qFi (P:=P) (w:=w)) rfl B.len' kS (qQ (xX (qFg (P:=P) (w:=w) (K:=K) rfl) rfl B_set qSl (qQ (pv 0) qX)) qX)) (xZ (jI (K:=K)) rfl B.len' kS (qQ (pv 0) qX)) (xD _)) (qJ jG) qY)),?_⟩
 wtm_at "zw"
 refine⟨nl,ws,rfl,SqL.of hn,nd,hl,fun p hp=>?_⟩
 wtm_at "zw"
 refine⟨p,ws.length,rfl,qW,hl,?_⟩
 wtm_at "zw"
 refine jP (decide_eq_false (by rw[xW];omega)) ?_
 wtm_at "zw"
 exact q _ (qV hp _)
theorem jU:xI ["boxes","name","size"] ["boxes"] (xA (top 18)):=⟨rfl,rfl,rfl,by decide +kernel,rfl,by decide +kernel,by decide +kernel⟩
theorem jO:CompOk (xA (top 18)) ["boxes","name","size"] (scAt (xB (top 18)) [1] [1]) ["name","size"] 2 []:=
 ⟨by decide +kernel,by decide +kernel,by decide +kernel,by decide +kernel,by decide +kernel,by decide +kernel,by decide +kernel,by decide +kernel⟩
noncomputable def qWw:Sp:=fun vs H Q _=>∃(bx:Addr) (bs:List (Str×Int)) (us:List V),vs=[.ref bx]∧H bx=some (.lst us)∧Paired (BoxIn H) bs us∧1≤bs.length∧bs.length≤1000∧(∀b∈bs,2≤b.2∧b.2≤5)∧Named (bs.map (·.1))∧∀H',Same H H'→Q .non H'
theorem qFx (F:Fd K mg "refuse_boxes" (top 18) ["boxes"])(B:Bl mg)(D_refuse_twice:Dn P w K mg base "refuse_twice" 1 ["names","kind"] qZf)(D_is_whole:Dn P w K mg base "is_whole" 1 ["thing"] qKc)
  (GL_LEAST_SIZE:Gi mg "LEAST_SIZE" 2) (GL_GREATEST_SIZE:Gi mg "GREATEST_SIZE" 5) (GL_WORDS_OF_CONDITIONS:Gs K mg "WORDS_OF_CONDITIONS" ["not","and","yes"]):Dn P w K mg base "refuse_boxes" 2 ["boxes"] qWw:=by
 refine F.ok jU (fun vs H Q E h=>?_) (fun f cdv A outer s H vs Q E hr h=>?_)
 ·obtain⟨_,_,_,rfl,_⟩:=h
  rfl
 obtain⟨bx,bs,us,rfl,ebx,pb,h1,h1000,h25,nmd,q⟩:=h
 have lb:us.length=bs.length:=pb.length.symm
 refine⟨_,(qZ (zB (qR jQ (xZ (jI (K:=K)) rfl B.len' kS (qQ (pv 0) qX)) qE (xD _)) (qJ jG) qY)
  (qZ (qP (qD D_refuse_twice hr (qQ (jW rfl jO (qU (K:=K) (pv 0)) (fun cl fp s H=>(zH (K:=K) (n:=2) rfl (qH (qG (i:=0) jO.nd rfl (Or.inl rfl) (.inr rfl)) (qH (qG (i:=1) jO.nd rfl (Or.inl rfl) (.inr rfl)) qI)))) (fun cl fp s H=>zS) (fun cl fp s H=>(pv 0))) (qQ qF qX))))
  (qJ (zE PassesOwn.never rfl (qU (K:=K) (pv 0)) (zH (K:=K) (n:=2) rfl (qH (qG (i:=1) jU.nd rfl (by wtm_at "zo")) (qH (qG (i:=2) jU.nd rfl (by wtm_at "zo")) qI))) (qZ (zB (qR (qWi (K:=K)) (pv 1) (qNv GL_WORDS_OF_CONDITIONS) (by with_unfolding_all rfl)) (qJ jG) qY)
  (qJ (zB (PW.pt (qAo (qIf (qWf (qD D_is_whole hr (qQ (pv 2) qX)))) (qAo (qR qZn (pv 2) (qGo GL_LEAST_SIZE) (xD _)) (qYq (qR qHx (pv 2) (qGo GL_GREATEST_SIZE) (xD _)))))) (qJ jG) qY))))))),?_⟩
 wtm_at "zw"
 refine jP (decide_eq_false (by intro z;injection z with z;omega)) ?_
 wtm_at "zw"
 refine⟨_,rfl,bx,rfl,⟨us,SqL.of ebx⟩,qXe ebx pb h1000 fun D H1 S1 eD=>?_⟩
 wtm_at "zw"
 refine⟨D,_,_,rfl,eD,nmd.nd,by rw[List.length_map];omega,fun H2 S2=>?_⟩
 have S12:=S1.trans S2
 wtm_at "zw"
 refine⟨_,rfl,bx,rfl,⟨us,SqL.of (S12 _ _ ebx)⟩,?_⟩
 refine zK (xs:=us) (fun i σ' H'=>∃z1 z2:Option V,σ'=[some (.ref bx),z1,z2]∧H'=H2) ⟨none,none,rfl,rfl⟩ (fun i σ' H' _ hP=>?_) (fun N rt bk i x σ' H' ex hP hN=>?_) (fun σ' H' hP=>?_)
 ·obtain⟨z1,z2,rfl,rfl⟩:=hP
  exact SqL.of (S12 _ _ ebx)
 ·obtain⟨z1,z2,rfl,rfl⟩:=hP
  obtain⟨b,eb⟩:∃b,bs[i]? = some b:=⟨_,List.getElem?_eq_getElem (by rw[← lb];exact(List.getElem?_eq_some_iff.mp ex).1)⟩
  obtain⟨ba,rfl,hba⟩:=xK pb eb ex
  have hb25:=h25 b (List.mem_of_getElem? eb)
  have hno:=nmd.no b.1 (List.mem_map.mpr ⟨b,List.mem_of_getElem? eb,rfl⟩)
  refine⟨ba,_,rfl,SqT.of (S12 _ _ hba),rfl,_,_,rfl,_,_,rfl,rfl,?_⟩
  wtm_at "zw"
  intro p sq
  refine⟨p,_,rfl,.inr sq,rfl,qYh _,?_⟩
  wtm_at "zw"
  rw[if_neg Bool.false_ne_true,wH,decide_eq_false (p:=b.1∈([("not" : Str),"and","yes"]:List Str)) hno]
  refine iteF ?_
  wtm_at "zw"
  refine⟨b.2,rfl,?_⟩
  wtm_at "zw"
  refine jP (decide_eq_false (by omega)) ?_
  wtm_at "zw"
  refine jP (decide_eq_false (by omega)) ?_
  exact hN _ _ ⟨_,_,rfl,rfl⟩
 ·obtain⟨z1,z2,rfl,rfl⟩:=hP
  exact q _ S12
theorem jF:xI ["deed_name","ways","names","way","name","expression"] ["deed_name","ways","names"] (xA (top 21)):=⟨rfl,rfl,rfl,by decide +kernel,rfl,by decide +kernel,by decide +kernel⟩
theorem yX:CompOk (xA (top 21)) ["deed_name","ways","names","way","name","expression"] (scAt (xB (top 21)) [1,0] [1]) ["name","expression"] 2 []:=
 ⟨by decide +kernel,by decide +kernel,by decide +kernel,by decide +kernel,by decide +kernel,by decide +kernel,by decide +kernel,by decide +kernel⟩
noncomputable def spWays:Sp:=fun vs H Q _=>∃(x:V) (wa nl:Addr) (us:List V) (ws:List Str) (wys:List (List (Str×Th))),vs=[x,.ref wa,.ref nl]∧H wa=some (.lst us)∧Paired (WayIn H) wys us∧wys≠[]∧wys.length≤100∧(∀wy∈wys,WayOk ws wy)∧
 H nl=some (.lst (strsV ws))∧∀H',Same H H'→Q .non H'
theorem qBc {σ:St}{H:Hp}{Q:VK}{wa:Addr}{us:List V}{wy:List (Str×Th)}(e1:H wa=some (.lst us))(p1:Paired (zD H) wy us)(hl:wy.length≤1000)
  (q:∀(D:Addr) (H':Hp),Same H H'→H' D=some (.lst (strsV (wy.map (·.1))))→Q (.ref D) H'):
  rdC 2 [] (gTup K 2 (gCons (gName 0) (gCons (gName 1) gNil))) tYes (tVar 0) (Itl K wa) σ H Q:=by
 have lb:us.length=wy.length:=p1.length.symm
 refine zM (xs:=us) (fun D i ys H'=>ys=strsV ((wy.take i).map (·.1))∧∀b o,H b=some o→H' b=some o) (fun D hD=>⟨rfl,qV hD _⟩)
  (fun D i ys H' _ hP=>(show Same H H' from hP.2).seq (SqL.of e1)) (fun D i x ys H' N hD hDy ex hP hN=>?_) (fun wd ys H2 hD hDy hP=>?_)
 ·obtain⟨rfl,hk⟩:=hP
  obtain⟨b,eb⟩:∃b,wy[i]? = some b:=⟨_,List.getElem?_eq_getElem (by rw[← lb];exact(List.getElem?_eq_some_iff.mp ex).1)⟩
  obtain⟨ba,bv,rfl,hba,_⟩:=xK p1 eb ex
  refine⟨ba,_,rfl,SqT.of (hk _ _ hba),rfl,_,_,rfl,_,_,rfl,rfl,⟨[some (.str b.1),some bv],rfl,rfl⟩,?_⟩
  refine⟨_,rfl,hDy,?_,hN _ _ qW ⟨?_,fun b o e=>?_⟩⟩
  ·rw[xW,List.length_map,List.length_take];exact small (by omega)
  ·rw[List.take_add_one,eb,List.map_append,xR];rfl
  ·rw[qA (qB e hD)];exact hk _ _ e
 obtain⟨rfl,hk2⟩:=hP
 rw[lb,List.take_length] at hDy
 exact q wd H2 hk2 hDy
theorem qOd (F:Fd K mg "refuse_ways" (top 21) ["deed_name","ways","names"])(B:Bl mg)(D_refuse_twice:Dn P w K mg base "refuse_twice" 1 ["names","kind"] qZf)(D_refuse_strange_name:Dn P w K mg base "refuse_strange_name" 1 ["name","names"] vP)
  (D_refuse_strange_names:Dn P w K mg base "refuse_strange_names" 14 ["thing","names"] wR):Dn P w K mg base "refuse_ways" 15 ["deed_name","ways","names"] spWays:=by
 refine F.ok jF (fun vs H Q E h=>?_) (fun f cdv A outer s H vs Q E hr h=>?_)
 ·obtain⟨_,_,_,_,_,_,rfl,_⟩:=h
  rfl
 obtain⟨x,wa,nl,us,ws,wys,rfl,ewa,pw,hne,hle,hok,hn,q⟩:=h
 have lw:us.length=wys.length:=pw.length.symm
 have l1:=List.length_pos_iff.mpr hne
 refine⟨_,(qZ (zB (qR jQ (xZ (jI (K:=K)) rfl B.len' kS (qQ (pv 1) qX)) qE (xD _)) (qJ jG) qY)
  (qJ (zE PassesOwn.never rfl (qU (K:=K) (pv 1)) (qG (i:=3) jF.nd rfl (by wtm_at "zo")) (qZ (qP (qD D_refuse_twice hr (qQ (jW rfl yX (qU (K:=K) (pv 3)) (fun cl fp s H=>(zH (K:=K) (n:=2) rfl (qH (qG (i:=0) yX.nd rfl (Or.inl rfl) (.inr rfl)) (qH (qG (i:=1) yX.nd rfl (Or.inl rfl) (.inr rfl)) qI)))) (fun cl fp s H=>zS) (fun cl fp s H=>(pv 0))) (qQ qF qX))))
  (qJ (zE PassesOwn.never rfl (qU (K:=K) (pv 3)) (zH (K:=K) (n:=2) rfl (qH (qG (i:=4) jF.nd rfl (by wtm_at "zo")) (qH (qG (i:=5) jF.nd rfl (by wtm_at "zo")) qI))) (qZ (qP (qD D_refuse_strange_name hr (qQ (pv 4) (qQ (pv 2) qX))))
  (qJ (qP (qD D_refuse_strange_names hr (qQ (pv 5) (qQ (pv 2) qX)))))))))))),?_⟩
 wtm_at "zw"
 refine jP (decide_eq_false (by intro z;injection z with z;omega)) ?_
 wtm_at "zw"
 refine⟨_,rfl,wa,rfl,⟨us,SqL.of ewa⟩,?_⟩
 refine zK (xs:=us) (fun i σ' H'=>∃z1 z2 z3:Option V,σ'=[some x,some (.ref wa),some (.ref nl),z1,z2,z3]∧Same H H') ⟨none,none,none,rfl,Same.refl _⟩ (fun i σ' H' _ hP=>?_) (fun N rt bk i u σ' H' ex hP hN=>?_) (fun σ' H' hP=>?_)
 ·obtain⟨_,_,_,rfl,S⟩:=hP
  exact SqL.of (S _ _ ewa)
 ·obtain⟨z1,z2,z3,rfl,S1⟩:=hP
  obtain⟨wy,ewy⟩:∃b,wys[i]? = some b:=⟨_,List.getElem?_eq_getElem (by rw[← lw];exact(List.getElem?_eq_some_iff.mp ex).1)⟩
  obtain⟨ya,cs,rfl,eya,pc⟩:=xK pw ewy ex
  have wok:=hok wy (List.mem_of_getElem? ewy)
  have lc:cs.length=wy.length:=pc.length.symm
  have wle:=wok.le
  wtm_at "zw"
  refine⟨_,rfl,ya,rfl,⟨cs,SqL.of (S1 _ _ eya)⟩,qBc (S1 _ _ eya) (Paired.mapP pc fun _ _ y=>y.same S1) (by omega) fun D H2 S2 eD=>?_⟩
  wtm_at "zw"
  refine⟨D,_,_,rfl,eD,wok.nd,by rw[List.length_map];omega,fun H3 S3=>?_⟩
  have S13:=S1.trans (S2.trans S3)
  wtm_at "zw"
  refine⟨_,rfl,ya,rfl,⟨cs,SqL.of (S13 _ _ eya)⟩,?_⟩
  refine zK (xs:=cs) (fun j σ'' H''=>∃z2 z3:Option V,σ''=[some x,some (.ref wa),some (.ref nl),some (.ref ya),z2,z3]∧Same H H'') ⟨z2,z3,rfl,S13⟩ (fun j σ'' H'' _ hP=>?_) (fun N2 rt2 bk2 j u σ'' H'' ex2 hP hN2=>?_) (fun σ'' H'' hP=>?_)
  ·obtain⟨_,_,rfl,S⟩:=hP
   exact SqL.of (S _ _ eya)
  ·obtain⟨z2,z3,rfl,S4⟩:=hP
   obtain⟨c,ec⟩:∃b,wy[j]? = some b:=⟨_,List.getElem?_eq_getElem (by rw[← lc];exact(List.getElem?_eq_some_iff.mp ex2).1)⟩
   obtain⟨ca,cv,rfl,eca,cat⟩:=xK pc ec ex2
   obtain⟨o1,o2,o3⟩:=wok.ok c (List.mem_of_getElem? ec)
   refine⟨ca,_,rfl,SqT.of (S4 _ _ eca),rfl,_,_,rfl,_,_,rfl,rfl,?_⟩
   wtm_at "zw"
   refine⟨c.1,nl,ws,rfl,S4 _ _ hn,o1,?_⟩
   wtm_at "zw"
   refine⟨c.2,cv,nl,ws,rfl,cat.mono (qC S4),o2.ok,o3,S4 _ _ hn,o2.in,fun H5 S5=>?_⟩
   exact hN2 _ _ ⟨_,_,rfl,S4.trans S5⟩
  ·obtain⟨z2,z3,rfl,S4⟩:=hP
   exact hN _ _ ⟨_,_,_,rfl,S4⟩
 ·obtain⟨_,_,_,rfl,S1⟩:=hP
  exact q _ S1
theorem kZ:xI ["begin","boxes","standing"] ["begin","boxes"] (xA (top 24)):=⟨rfl,rfl,rfl,by decide +kernel,rfl,by decide +kernel,by decide +kernel⟩
noncomputable def qCc:Sp:=fun vs H Q _=>∃(t:Th) (v:V) (bx:Addr) (bs:List (Str×Int)) (us:List V),vs=[v,.ref bx]∧t.At H v∧Cond' (bs.map (·.1)) t∧t.dep≤12∧H bx=some (.lst us)∧Paired (BoxIn H) bs us∧bs.length≤6∧(∀b∈bs,2≤b.2∧b.2≤5)∧
 (∃vals∈allV bs,t.truth (envOf (kvsOf bs vals))=true)∧∀H',Same H H'→Q .non H'
theorem qIz (F:Fd K mg "refuse_begin" (top 24) ["begin","boxes"])(D_standings_of_boxes:Dn P w K mg base "standings_of_boxes" 1 ["boxes"] wE)(D_holds:Dn P w K mg base "holds" 26 ["condition","boxes","standing"] qCa):
  Dn P w K mg base "refuse_begin" 27 ["begin","boxes"] qCc:=by
 refine F.ok kZ (fun vs H Q E h=>?_) (fun f cdv A outer s H vs Q E hr h=>?_)
 ·obtain⟨_,_,_,_,_,rfl,_⟩:=h
  rfl
 obtain⟨t,v,bx,bs,us,rfl,at',cx,dp,ebx,pb,h6,h25,⟨vals0,hv0,ht0⟩,q⟩:=h
 refine⟨_,(qZ (zE PassesOwn.never rfl (qU (K:=K) (qD D_standings_of_boxes hr (qQ (pv 1) qX))) (qG (i:=2) kZ.nd rfl (by wtm_at "zo")) (qJ (zB (qWf (qD D_holds hr (qQ (pv 0) (qQ (pv 1) (qQ (pv 2) qX))))) (qJ qNj) qY)))
  (qJ jG)),?_⟩
 wtm_at "zf"
 refine⟨bx,bs,us,rfl,ebx,pb,h6,h25,fun r ss H1 nr S1 er pr=>?_⟩
 have lr:=pr.length
 refine⟨r,rfl,⟨ss,SqL.of er⟩,?_⟩
 refine qJj (xs:=ss) (fun i σ' H'=>∃z:Option V,σ'=[some v,some (.ref bx),z]∧Same H1 H'∧∀x∈(allV bs).take i,t.truth (envOf (kvsOf bs x))=false) ⟨none,rfl,Same.refl _,fun x hx=>by cases hx⟩
  (fun i σ' H' _ hP=>?_) (fun i x σ' H' ex hP=>?_) (fun σ' H' hP=>?_)
 ·obtain⟨_,rfl,S,_⟩:=hP
  exact SqL.of (S _ _ er)
 ·obtain⟨z,rfl,S2,hno⟩:=hP
  obtain⟨vals,ev⟩:∃b,(allV bs)[i]? = some b:=⟨_,List.getElem?_eq_getElem (by rw[lr];exact(List.getElem?_eq_some_iff.mp ex).1)⟩
  obtain⟨st,rfl,est⟩:=xK pr ev ex
  have S12:=S1.trans S2
  have fv:=qFo (List.mem_of_getElem? ev)
  wtm_at "zw"
  refine⟨t,v,bx,st,bs,vals,rfl,at'.mono (qC S12),cx,dp,⟨⟨us,S12 _ _ ebx,xY (qC S12) pb⟩,S2 _ _ est,fv.stands h25,by omega⟩,fun H3 S3=>?_⟩
  wtm_at "zw"
  cases e:t.truth (envOf (kvsOf bs vals)) with
  | true=>
   refine iteT ?_
   exact q _ (S12.trans S3)
  | false=>
   refine iteF ?_
   refine⟨_,rfl,S2.trans S3,fun x hx=>?_⟩
   rw[List.take_add_one,ev] at hx
   rcases List.mem_append.mp hx with h | h
   ·exact hno x h
   ·have h:x∈[vals]:=h
    rw[List.mem_singleton.mp h];exact e
 ·obtain⟨z,rfl,S2,hno⟩:=hP
  rw[← lr,List.take_length] at hno
  rw[hno vals0 hv0] at ht0
  cases ht0

noncomputable def LstIn (ok:Addr→Prop)(H:Hp)(cs:List V)(u:V):Prop:=∃l,u=.ref l∧ok l∧H l=some (.lst cs)
noncomputable def DeedAt (ok:Addr→Prop)(H:Hp)(x:Str)(p:Int)(dc:V×List (List V))(u:V):Prop:=∃a wa us,u=.ref a∧H a=some (.tup [.str x,.int p,dc.1,.ref wa])∧ok wa∧H wa=some (.lst us)∧Paired (LstIn ok H) dc.2 us
noncomputable def jK (H:Hp)(d:Deed)(dc:V×List (List V)):Prop:=d.need.At H dc.1∧Paired (fun wy cs=>Paired (zD H) wy cs) d.ways dc.2
theorem LstIn.move {ok ok':Addr→Prop}{H H':Hp}(h:∀b o,ok b→H b=some o→H' b=some o)(i:∀b,ok b→ok' b){cs:List V}{u:V}(x:LstIn ok H cs u):LstIn ok' H' cs u:=let ⟨l,e,o,q⟩:=x;⟨l,e,i l o,h l _ o q⟩
theorem DeedAt.move {ok ok':Addr→Prop}{H H':Hp}(h:∀b o,ok b→H b=some o→H' b=some o)(t:Tups H H')(i:∀b,ok b→ok' b){x:Str}{p:Int}{dc:V×List (List V)}{u:V}(z:DeedAt ok H x p dc u):DeedAt ok' H' x p dc u:=
 let ⟨a,wa,us,e,q,o,q2,r⟩:=z;⟨a,wa,us,e,t _ _ q,i wa o,h wa _ o q2,Paired.mapP r fun _ _ y=>y.move h i⟩
theorem qYx {H:Hp}{wys:List (List (Str×Th))}{us:List V}(p:Paired (WayIn H) wys us):∃css,Paired (fun wy cs=>Paired (zD H) wy cs) wys css∧Paired (LstIn (fun _=>True) H) css us:=by
 induction p with
 | nil=>exact⟨[],.nil,.nil⟩
 | cons h _ ih=>
  obtain⟨a,cs,e,q,r⟩:=h
  obtain⟨css,h1,h2⟩:=ih
  exact⟨cs::css,.cons r h1,.cons ⟨a,e,trivial,q⟩ h2⟩
theorem qVx {ok:Addr→Prop}{H:Hp}{wys:List (List (Str×Th))}{css:List (List V)}{us:List V}(p:Paired (fun wy cs=>Paired (zD H) wy cs) wys css)(h:Paired (LstIn ok H) css us):Paired (WayIn H) wys us:=by
 induction p generalizing us with
 | nil=>cases h;exact .nil
 | cons r _ ih=>
  cases h with
  | cons x t=>
   obtain⟨l,e,_,q⟩:=x
   exact .cons ⟨l,_,e,q,r⟩ (ih t)
theorem qBh {H:Hp}{d:Deed}{u:V}(h:DeedIn H d u):∃dc,jK H d dc∧DeedAt (fun _=>True) H d.name d.price dc u:=by
 obtain⟨a,nv,wa,us,e,q,r,q2,p⟩:=h
 obtain⟨css,h1,h2⟩:=qYx p
 exact⟨(nv,css),⟨r,h1⟩,a,wa,us,e,q,trivial,q2,h2⟩
theorem qFw {ok:Addr→Prop}{H:Hp}{d:Deed}{dc:V×List (List V)}{u:V}(h1:jK H d dc)(h2:DeedAt ok H d.name d.price dc u):DeedIn H d u:=by
 obtain⟨a,wa,us,e,q,_,q2,p⟩:=h2
 exact⟨a,dc.1,wa,us,e,q,h1.1,q2,qVx h1.2 p⟩
theorem qVd {H:Hp}{ds:List Deed}{us:List V}(p:Paired (DeedIn H) ds us):∃ps:List (Deed×V×List (List V)),ps.map (·.1)=ds∧(∀p∈ps,jK H p.1 p.2)∧Paired (fun p u=>DeedAt (fun _=>True) H p.1.name p.1.price p.2 u) ps us:=by
 induction p with
 | nil=>exact⟨[],rfl,(fun p hp=>by cases hp),.nil⟩
 | cons h t ih=>
  obtain⟨ps,e,h1,h2⟩:=ih
  obtain⟨dc,h3,h4⟩:=qBh h
  refine⟨(_,dc)::ps,by rw[List.map_cons,e],fun p hp=>?_,.cons h4 h2⟩
  rcases List.mem_cons.mp hp with rfl | hp
  ·exact h3
  ·exact h1 p hp
theorem qZx {ok:Addr→Prop}{H:Hp}{ps:List (Deed×V×List (List V))}{us:List V}(h:∀p∈ps,jK H p.1 p.2)(t:Paired (fun p u=>DeedAt ok H p.1.name p.1.price p.2 u) ps us):Paired (DeedIn H) (ps.map (·.1)) us:=by
 induction t with
 | nil=>exact .nil
 | cons x t ih=>exact .cons (qFw (h _ List.mem_cons_self) x) (ih fun p hp=>h p (List.mem_cons_of_mem _ hp))
theorem qYm {H:Hp}{wy:List (Str×Th)}{cs:List V}(p:Paired (zD H) wy cs):∀(j:Nat) x,cs[j]? = some x→∃y,x=.ref y:=fun j x ex=>by
 obtain⟨b,eb⟩:∃b,wy[j]? = some b:=⟨_,List.getElem?_eq_getElem (by rw[p.length];exact(List.getElem?_eq_some_iff.mp ex).1)⟩
 obtain⟨y,_,ey,_⟩:=xK p eb ex
 exact⟨y,ey⟩
noncomputable def Refs (us:List V):Prop:=∀(j:Nat) x,us[j]? = some x→∃y,x=.ref y
theorem Refs.same {H:Hp}{us:List V}{n:Nat}(h:Refs us):∀(j:Nat) x y,us[j]? = some x→us[j]? = some y→DEq K H n x y:=fun j x y e1 e2=>by
 rw[e1] at e2
 cases e2
 obtain⟨y,rfl⟩:=h j x e1
 exact .same y
theorem At.ref {H:Hp}{t:Th}{v:V}(h:t.At H v):∃a,v=.ref a:=by
 cases t with
 | num _=>obtain⟨a,e,_⟩:=h;exact⟨a,e⟩
 | box _=>obtain⟨a,e,_⟩:=h;exact⟨a,e⟩
 | nul _=>obtain⟨a,e,_⟩:=h;exact⟨a,e⟩
 | un _ _=>obtain⟨a,_,e,_⟩:=h;exact⟨a,e⟩
 | bin _ _ _=>obtain⟨a,_,_,e,_⟩:=h;exact⟨a,e⟩
theorem qFv {H H':Hp}{t:Th}{v:V}{n:Nat}(h:t.At H v):DEq K H' n v v:=by
 obtain⟨a,rfl⟩:=At.ref h
 exact .same a
theorem qEq {ok ok':Addr→Prop}{H:Hp}{css:List (List V)}{us us':List V}(rf:∀cs∈css,Refs cs)(p1:Paired (LstIn ok H) css us)(p2:Paired (LstIn ok' H) css us'):∀(j:Nat) x y,us[j]? = some x→us'[j]? = some y→DEq K H 1 x y:=fun j x y e1 e2=>by
 obtain⟨cs,ec⟩:∃b,css[j]? = some b:=⟨_,List.getElem?_eq_getElem (by rw[p1.length];exact(List.getElem?_eq_some_iff.mp e1).1)⟩
 obtain⟨l,rfl,_,h1⟩:=xK p1 ec e1
 obtain⟨l',rfl,_,h2⟩:=xK p2 ec e2
 exact .lst (SqL.of h1) (SqL.of h2) rfl (rf cs (List.mem_of_getElem? ec)).same
theorem idx4 {C:V→V→Prop}{a b c d a' b' c' d':V}(h0:C a a')(h1:C b b')(h2:C c c')(h3:C d d')(j:Nat)(x y:V)(e1:[a,b,c,d][j]? = some x)(e2:[a',b',c',d'][j]? = some y):C x y:=by
 cases j with
 | zero=>cases e1;cases e2;exact h0
 | succ j=>
  cases j with
  | zero=>cases e1;cases e2;exact h1
  | succ j=>
   cases j with
   | zero=>cases e1;cases e2;exact h2
   | succ j=>
    cases j with
    | zero=>cases e1;cases e2;exact h3
    | succ j=>cases e1
theorem qIk {ok ok':Addr→Prop}{H H0:Hp}{d:Deed}{dc:V×List (List V)}{u u':V}(h:jK H0 d dc)(h1:DeedAt ok H d.name d.price dc u)(h2:DeedAt ok' H d.name d.price dc u'):DEq K H 3 u u':=by
 obtain⟨a,wa,us,rfl,q,_,q2,p⟩:=h1
 obtain⟨a',wa',us',rfl,q',_,q2',p'⟩:=h2
 have rf:∀cs∈dc.2,Refs cs:=fun cs hc=>by
  obtain⟨j,hj⟩:=List.mem_iff_getElem?.mp hc
  obtain⟨wy,ew⟩:∃b,d.ways[j]? = some b:=⟨_,List.getElem?_eq_getElem (by rw[h.2.length];exact(List.getElem?_eq_some_iff.mp hj).1)⟩
  exact qYm (xK h.2 ew hj)
 exact .tup (SqT.of q) (SqT.of q') rfl (idx4 (.str _) (.int _) (qFv h.1) (.lst (SqL.of q2) (SqL.of q2') (by rw[← p.length,← p'.length]) (qEq rf p p')))
theorem _root_.L2.DEq.same' {H H':Hp}(s:Same H H'){n:Nat}{x y:V}(h:DEq K H n x y):DEq K H' n x y:=by
 induction h with
 | int i=>exact .int i
 | str i=>exact .str i
 | bl i=>exact .bl i
 | non=>exact .non
 | same a=>exact .same a
 | lst h1 h2 hl _ ih=>exact .lst (s.seq h1) (s.seq h2) hl ih
 | tup h1 h2 hl _ ih=>exact .tup (Same.tup s h1) (Same.tup s h2) hl ih
theorem jK.same {H H':Hp}(s:Same H H'){d:Deed}{dc:V×List (List V)}(h:jK H d dc):jK H' d dc:=⟨h.1.mono (qC s),Paired.mapP h.2 fun _ _ y=>Paired.mapP y fun _ _ z=>z.same s⟩
theorem qXj:xI ["deed"] ["deed"] (xA (top 16)):=⟨rfl,rfl,rfl,by decide +kernel,rfl,by decide +kernel,by decide +kernel⟩
theorem kH:CompOk (xA (top 16)) ["deed"] (scAt (xB (top 16)) [0] [3]) ["way"] 1 []:=
 ⟨by decide +kernel,by decide +kernel,by decide +kernel,by decide +kernel,by decide +kernel,by decide +kernel,by decide +kernel,by decide +kernel⟩
noncomputable def qZh:Sp:=fun vs H Q _=>∃(u:V) (x:Str) (p:Int) (dc:V×List (List V)),vs=[u]∧DeedAt (fun _=>True) H x p dc u∧dc.2.length≤100∧
 ∀(y:V) (H':Hp),Same H H'→DeedAt (fun b=>H b=none) H' x p dc y→Q y H'
theorem qFk (F:Fd K mg "copied_deed" (top 16) ["deed"])(B:Bl mg):Dn P w K mg base "copied_deed" 1 ["deed"] qZh:=by
 refine F.ok qXj (fun vs H Q E h=>?_) (fun f cdv A outer s H vs Q E hr h=>?_)
 ·obtain⟨_,_,_,_,rfl,_⟩:=h
  rfl
 obtain⟨u,x,p,dc,rfl,⟨a,wa,us,rfl,ea,_,ewa,pus⟩,hl,q⟩:=h
 refine⟨_,(qJ (qN (zJ (qQ (xH (qS (K:=K)) (pv 0) qE (fun _ _=>rfl)) (qQ (xH (qS (K:=K)) (pv 0) qE (fun _ _=>rfl)) (qQ (xH (qS (K:=K)) (pv 0) qE (fun _ _=>rfl)) (qQ (jW rfl kH (qU (K:=K) (xH (qS (K:=K)) (pv 0) qE (fun _ _=>rfl))) (fun cl fp s H=>(qG (i:=0) kH.nd rfl (Or.inl rfl) (.inr rfl))) (fun cl fp s H=>zS) (fun cl fp s H=>(xX (wX (K:=K)) rfl B.list' qVi (qQ (pv 0) qX)))) qX))))))),?_⟩
 wtm_at "zf"
 refine⟨wa,rfl,⟨us,SqL.of ewa⟩,?_⟩
 have lu:=pus.length
 refine zM (xs:=us) (fun D i ys H'=>Paired (LstIn (fun b=>H b=none∧b≠D) H') (dc.2.take i) ys∧∀b o,H b=some o→H' b=some o) (fun D hD=>⟨.nil,qV hD _⟩)
  (fun D i ys H' _ hP=>(show Same H H' from hP.2).seq (SqL.of ewa)) (fun D i x ys H' N hD hDy ex hP hN=>?_) (fun D ys H2 hD hDy hP=>?_)
 ·obtain⟨pl,hk⟩:=hP
  have hi:i<dc.2.length:=by rw[lu];exact(List.getElem?_eq_some_iff.mp ex).1
  obtain⟨cs,ec⟩:∃b,dc.2[i]? = some b:=⟨_,List.getElem?_eq_getElem hi⟩
  obtain⟨l0,rfl,_,el0⟩:=xK pus ec ex
  have ll:=pl.length
  rw[List.length_take] at ll
  refine⟨⟨[some (.ref l0)],rfl,rfl⟩,?_⟩
  refine⟨_,rfl,l0,cs,rfl,.inl (SqL.of (hk _ _ el0)),fun l hl'=>?_⟩
  have Dl:D≠l:=qB hDy hl'
  refine⟨by rw[qA Dl];exact hDy,small (by omega),hN _ _ qW ⟨?_,fun b o e=>?_⟩⟩
  ·rw[List.take_add_one,ec]
   refine Paired.snoc (Paired.mapP pl fun _ _ z=>z.move (fun b o ok e=>?_) fun _ z=>z) ⟨l,rfl,⟨(show Same H H' from hk).free hl',Ne.symm Dl⟩,by rw[qA (Ne.symm Dl)];exact qW⟩
   rw[qA ok.2,qA (qB e hl')];exact e
  ·rw[qA (qB e hD),qA (qB (hk _ _ e) hl')];exact hk _ _ e
 obtain⟨pl,hk⟩:=hP
 rw[← lu,List.take_length] at pl
 refine⟨(by show 4≤sizeLine;decide),fun t ht=>?_⟩
 have S2:Same H (upd H2 t (.tup [.str x,.int p,dc.1,.ref D])):=(show Same H H2 from hk).trans (qV ht _)
 refine q (.ref t) _ S2 ⟨t,D,ys,rfl,qW,hD,qV ht _ _ _ hDy,Paired.mapP pl fun _ _ z=>z.move (fun b o _ e=>qV ht _ _ _ e) fun _ z=>z.1⟩
theorem zG:xI ["boxes","deeds","looks","begin","goal","names","name","price","need","ways","expression"] ["boxes","deeds","looks","begin","goal"] (xA (top 14)):=⟨rfl,rfl,rfl,by decide +kernel,rfl,by decide +kernel,by decide +kernel⟩
theorem wV:CompOk (xA (top 14)) ["boxes","deeds","looks","begin","goal","names","name","price","need","ways","expression"] (scAt (xB (top 14)) [1] [1,0]) ["deed"] 1 []:=
 ⟨by decide +kernel,by decide +kernel,by decide +kernel,by decide +kernel,by decide +kernel,by decide +kernel,by decide +kernel,by decide +kernel⟩
theorem wK:CompOk (xA (top 14)) ["boxes","deeds","looks","begin","goal","names","name","price","need","ways","expression"] (scAt (xB (top 14)) [1] [1,1]) ["look"] 1 []:=
 ⟨by decide +kernel,by decide +kernel,by decide +kernel,by decide +kernel,by decide +kernel,by decide +kernel,by decide +kernel,by decide +kernel⟩
theorem kC:CompOk (xA (top 14)) ["boxes","deeds","looks","begin","goal","names","name","price","need","ways","expression"] (scAt (xB (top 14)) [2] []) ["name","size"] 2 []:=
 ⟨by decide +kernel,by decide +kernel,by decide +kernel,by decide +kernel,by decide +kernel,by decide +kernel,by decide +kernel,by decide +kernel⟩
theorem wY:CompOk (xA (top 14)) ["boxes","deeds","looks","begin","goal","names","name","price","need","ways","expression"] (scAt (xB (top 14)) [8] [1]) ["deed"] 1 []:=
 ⟨by decide +kernel,by decide +kernel,by decide +kernel,by decide +kernel,by decide +kernel,by decide +kernel,by decide +kernel,by decide +kernel⟩
structure Told (K:PySem.W.Frag)(H:Hp)(bx dx lx bx' dx' lx':Addr):Prop where
 boxes:DEq K H 4 (.ref bx') (.ref bx)
 deeds:DEq K H 4 (.ref dx') (.ref dx)
 looks:DEq K H 4 (.ref lx') (.ref lx)
theorem Told.same {H H':Hp}(s:Same H H'){bx dx lx bx' dx' lx':Addr}(t:Told K H bx dx lx bx' dx' lx'):Told K H' bx dx lx bx' dx' lx':=⟨t.boxes.same' s,t.deeds.same' s,t.looks.same' s⟩
noncomputable def qJl (K:PySem.W.Frag):Sp:=fun vs H Q _=>∃(W:Wd) (bx dx lx:Addr) (bv gv:V),vs=[.ref bx,.ref dx,.ref lx,bv,gv]∧WAt H W bx dx lx bv gv∧WOk W∧
 ∀(p bx' dx' lx':Addr) (H':Hp),Same H H'→H' p=some (.tup [.ref bx',.ref dx',.ref lx',bv,gv])→WAt H' W bx' dx' lx' bv gv→Told K H' bx dx lx bx' dx' lx'→Q (.ref p) H'
theorem qQl {σ:St}{H:Hp}{Q:VK}{la:Addr}{us:List V}{xs:List Str}(e1:H la=some (.lst us))(p1:Paired (fun x u=>∃a ys,u=.ref a∧H a=some (.tup (.str x::ys))) xs us)(hl:xs.length≤1000)
  (q:∀(D:Addr) (H':Hp),H D=none→Same H H'→H' D=some (.lst (strsV xs))→Q (.ref D) H'):
  rdC 1 [] (gName 0) tYes (tOp (rIxT K) (tVar 0) (tC (.int 0))) (Itl K la) σ H Q:=by
 have lb:us.length=xs.length:=p1.length.symm
 refine zM (xs:=us) (fun D i ys H'=>ys=strsV (xs.take i)∧∀b o,H b=some o→H' b=some o) (fun D hD=>⟨rfl,qV hD _⟩)
  (fun D i ys H' _ hP=>(show Same H H' from hP.2).seq (SqL.of e1)) (fun D i x ys H' N hD hDy ex hP hN=>?_) (fun wd ys H2 hD hDy hP=>?_)
 ·obtain⟨rfl,hk⟩:=hP
  obtain⟨b,eb⟩:∃b,xs[i]? = some b:=⟨_,List.getElem?_eq_getElem (by rw[← lb];exact(List.getElem?_eq_some_iff.mp ex).1)⟩
  obtain⟨ba,zs,rfl,hba⟩:=xK p1 eb ex
  refine⟨⟨[some (.ref ba)],rfl,rfl⟩,?_⟩
  refine⟨_,rfl,ba,_,0,.str b,rfl,rfl,SqT.of (hk _ _ hba),qJw _ _,hDy,?_,hN _ _ qW ⟨?_,fun b o e=>?_⟩⟩
  ·rw[xW,List.length_take];exact small (by omega)
  ·rw[List.take_add_one,eb,xR];rfl
  ·rw[qA (qB e hD)];exact hk _ _ e
 obtain⟨rfl,hk2⟩:=hP
 rw[lb,List.take_length] at hDy
 exact q wd H2 hD hk2 hDy
theorem qVe {H:Hp}{ds:List Deed}{us:List V}(p:Paired (DeedIn H) ds us):Paired (fun x u=>∃a ys,u=.ref a∧H a=some (.tup (.str x::ys))) (ds.map Deed.name) us:=by
 induction p with
 | nil=>exact .nil
 | cons h _ ih=>
  obtain⟨a,_,_,_,e,q,_⟩:=h
  exact .cons ⟨a,_,e,q⟩ ih
theorem qVk {H:Hp}{ds:List Look}{us:List V}(p:Paired (LookIn H) ds us):Paired (fun x u=>∃a ys,u=.ref a∧H a=some (.tup (.str x::ys))) (ds.map Look.name) us:=by
 induction p with
 | nil=>exact .nil
 | cons h _ ih=>
  obtain⟨a,_,e,q,_⟩:=h
  exact .cons ⟨a,_,e,q⟩ ih
theorem qDm {H:Hp}{ls:List Look}{us:List V}(p:Paired (LookIn H) ls us):Refs us:=fun j x ex=>by
 obtain⟨b,eb⟩:∃b,ls[j]? = some b:=⟨_,List.getElem?_eq_getElem (by rw[p.length];exact(List.getElem?_eq_some_iff.mp ex).1)⟩
 obtain⟨y,_,ey,_⟩:=xK p eb ex
 exact⟨y,ey⟩
theorem qBg {σ:St}{H:Hp}{Q:VK}{dx:Addr}{us:List V}{ps:List (Deed×V×List (List V))}(e1:H dx=some (.lst us))(p1:Paired (fun p u=>DeedAt (fun _=>True) H p.1.name p.1.price p.2 u) ps us)(hl:ps.length≤1000)
  (h2:∀p∈ps,p.2.2.length≤100)
  (q:∀(D:Addr) (ys:List V) (H':Hp),H D=none→Same H H'→H' D=some (.lst ys)→Paired (fun p u=>DeedAt (fun b=>b≠D) H' p.1.name p.1.price p.2 u) ps ys→Q (.ref D) H'):
  rdC 1 [] (gName 0) tYes (tCall qZh [] E0 (tCons (tVar 0) tNil)) (Itl K dx) σ H Q:=by
 have lb:us.length=ps.length:=p1.length.symm
 refine zM (xs:=us) (fun D i ys H'=>Paired (fun p u=>DeedAt (fun b=>b≠D) H' p.1.name p.1.price p.2 u) (ps.take i) ys∧∀b o,H b=some o→H' b=some o) (fun D hD=>⟨.nil,qV hD _⟩)
  (fun D i ys H' _ hP=>(show Same H H' from hP.2).seq (SqL.of e1)) (fun D i x ys H' N hD hDy ex hP hN=>?_) (fun D ys H2 hD hDy hP=>?_)
 ·obtain⟨pl,hk⟩:=hP
  have hi:i<ps.length:=by rw[← lb];exact(List.getElem?_eq_some_iff.mp ex).1
  obtain⟨b,eb⟩:∃b,ps[i]? = some b:=⟨_,List.getElem?_eq_getElem hi⟩
  have db:=xK p1 eb ex
  have ll:=pl.length
  rw[List.length_take] at ll
  refine⟨⟨[some x],rfl,rfl⟩,?_⟩
  refine⟨_,rfl,x,b.1.name,b.1.price,b.2,rfl,db.move (fun b o _ e=>hk _ _ e) (qC hk) (fun _ z=>z),h2 b (List.mem_of_getElem? eb),fun y H4 S4 dy=>?_⟩
  have eD:=S4 _ _ hDy
  refine⟨eD,small (by omega),hN _ _ qW ⟨?_,fun b o e=>?_⟩⟩
  ·have T4:Tups H4 (upd H4 D (.lst (ys++[y]))):=fun b xs e=>by rw[qA (vJ e eD (by intro z;cases z))];exact e
   rw[List.take_add_one,eb]
   refine Paired.snoc (Paired.mapP pl fun _ _ z=>z.move (fun b o ok e=>?_) ((qC S4).trans T4) fun _ z=>z) (dy.move (fun b o ok e=>?_) T4 fun b ok=>?_)
   ·rw[qA ok];exact S4 _ _ e
   ·rw[qA (fun z=>by subst z;rw[hDy] at ok;cases ok)];exact e
   ·intro z;subst z;rw[hDy] at ok;cases ok
  ·rw[qA (qB e hD)];exact S4 _ _ (hk _ _ e)
 obtain⟨pl,hk⟩:=hP
 rw[lb,List.take_length] at pl
 exact q D ys H2 hD hk hDy pl
theorem qVa (F:Fd K mg "world_of" (top 14) ["boxes","deeds","looks","begin","goal"])(B:Bl mg)(D_refuse_boxes:Dn P w K mg base "refuse_boxes" 2 ["boxes"] qWw)(D_refuse_twice:Dn P w K mg base "refuse_twice" 1 ["names","kind"] qZf)
  (D_refuse_price:Dn P w K mg base "refuse_price" 2 ["name","price"] qCw) (D_refuse_strange_names:Dn P w K mg base "refuse_strange_names" 14 ["thing","names"] wR) (D_refuse_ways:Dn P w K mg base "refuse_ways" 15 ["deed_name","ways","names"] spWays)
  (D_refuse_begin:Dn P w K mg base "refuse_begin" 27 ["begin","boxes"] qCc) (D_copied_deed:Dn P w K mg base "copied_deed" 1 ["deed"] qZh):Dn P w K mg base "world_of" 28 ["boxes","deeds","looks","begin","goal"] (qJl K):=by
 refine F.ok zG (fun vs H Q E h=>?_) (fun f cdv A outer s H vs Q E hr h=>?_)
 ·obtain⟨_,_,_,_,_,_,rfl,_⟩:=h
  rfl
 obtain⟨W,bx,dx,lx,bv,gv,rfl,A0,ok,q⟩:=h
 obtain⟨us,ebx,pb⟩:=A0.boxes
 obtain⟨du,edx,pd⟩:=A0.deeds
 obtain⟨lu,elx,pl⟩:=A0.looks
 have b6:=ok.b6
 have dl:=ok.dl
 have ll:=ok.ll
 refine⟨_,(qZ (qP (qD D_refuse_boxes hr (qQ (pv 0) qX)))
  (qZ (qP (qD D_refuse_twice hr (qQ (xQ qQv (jW rfl wV (qU (K:=K) (pv 1)) (fun cl fp s H=>(qG (i:=0) wV.nd rfl (Or.inl rfl) (.inr rfl))) (fun cl fp s H=>zS) (fun cl fp s H=>(xH (qS (K:=K)) (pv 0) qE (fun _ _=>rfl)))) (jW rfl wK (qU (K:=K) (pv 2)) (fun cl fp s H=>(qG (i:=0) wK.nd rfl (Or.inl rfl) (.inr rfl))) (fun cl fp s H=>zS) (fun cl fp s H=>(xH (qS (K:=K)) (pv 0) qE (fun _ _=>rfl))))) (qQ qF qX))))
  (qZ (yE (i:=5) zG.nd rfl (by wtm_at "zo") rfl kC (qU (K:=K) (pv 0)) (fun cl fp s H=>(zH (K:=K) (n:=2) rfl (qH (qG (i:=0) kC.nd rfl (Or.inl rfl) (.inr rfl)) (qH (qG (i:=1) kC.nd rfl (Or.inl rfl) (.inr rfl)) qI)))) (fun cl fp s H=>zS) (fun cl fp s H=>(pv 0)))
  (qZ (zE PassesOwn.never rfl (qU (K:=K) (pv 1)) (zH (K:=K) (n:=4) rfl (qH (qG (i:=6) zG.nd rfl (by wtm_at "zo")) (qH (qG (i:=7) zG.nd rfl (by wtm_at "zo")) (qH (qG (i:=8) zG.nd rfl (by wtm_at "zo")) (qH (qG (i:=9) zG.nd rfl (by wtm_at "zo")) qI))))) (qZ (qP (qD D_refuse_price hr (qQ (pv 6) (qQ (pv 7) qX))))
  (qZ (qP (qD D_refuse_strange_names hr (qQ (pv 8) (qQ (pv 5) qX))))
  (qJ (qP (qD D_refuse_ways hr (qQ (pv 6) (qQ (pv 9) (qQ (pv 5) qX)))))))))
  (qZ (zE PassesOwn.never rfl (qU (K:=K) (pv 2)) (zH (K:=K) (n:=3) rfl (qH (qG (i:=6) zG.nd rfl (by wtm_at "zo")) (qH (qG (i:=7) zG.nd rfl (by wtm_at "zo")) (qH (qG (i:=10) zG.nd rfl (by wtm_at "zo")) qI)))) (qZ (qP (qD D_refuse_price hr (qQ (pv 6) (qQ (pv 7) qX))))
  (qJ (qP (qD D_refuse_strange_names hr (qQ (pv 10) (qQ (pv 5) qX)))))))
  (qZ (qP (qD D_refuse_strange_names hr (qQ (pv 3) (qQ (pv 5) qX))))
  (qZ (qP (qD D_refuse_strange_names hr (qQ (pv 4) (qQ (pv 5) qX))))
  (qZ (qP (qD D_refuse_begin hr (qQ (pv 3) (qQ (pv 0) qX))))
  (qJ (qN (zJ (qQ (xX (wX (K:=K)) rfl B.list' qVi (qQ (pv 0) qX)) (qQ (jW rfl wY (qU (K:=K) (pv 1)) (fun cl fp s H=>(qG (i:=0) wY.nd rfl (Or.inl rfl) (.inr rfl))) (fun cl fp s H=>zS) (fun cl fp s H=>(qD D_copied_deed hr (qQ (pv 0) qX)))) (qQ (xX (wX (K:=K)) rfl B.list' qVi (qQ (pv 2) qX)) (qQ (pv 3) (qQ (pv 4) qX)))))))))))))))),?_⟩
 wtm_at "zw"
 refine⟨bx,W.bs,us,rfl,ebx,pb,ok.b1,by omega,ok.b25,ok.named,fun H1 S1=>?_⟩
 wtm_at "zw"
 refine⟨_,rfl,dx,rfl,⟨du,SqL.of (S1 _ _ edx)⟩,qQl (S1 _ _ edx) (qVe (Paired.mapP pd fun _ _ y=>y.same S1)) (by rw[List.length_map];omega) fun d1 H2 nd1 S2 ed1=>?_⟩
 have S12:=S1.trans S2
 refine⟨_,rfl,lx,rfl,⟨lu,SqL.of (S12 _ _ elx)⟩,qQl (S12 _ _ elx) (qVk (Paired.mapP pl fun _ _ y=>y.same S12)) (by rw[List.length_map];omega) fun d2 H3 nd2 S3 ed2=>?_⟩
 have S13:=S12.trans S3
 refine⟨d1,d2,_,_,rfl,rfl,S3 _ _ ed1,ed2,?_,fun d3 hd3=>?_⟩
 ·rw[xW,xW,List.length_map,List.length_map];exact smallE (by omega)
 have S14:=S13.trans (qV hd3 (.lst (strsV (W.ds.map Deed.name)++strsV (W.ls.map Look.name))))
 wtm_at "zw"
 refine⟨d3,W.ds.map Deed.name++W.ls.map Look.name,_,rfl,by rw[xR];exact qW,ok.nd,by rw[List.length_append,List.length_map,List.length_map];omega,fun H5 S5=>?_⟩
 have S15:=S14.trans S5
 wtm_at "zw"
 refine⟨_,rfl,bx,rfl,⟨us,SqL.of (S15 _ _ ebx)⟩,qXe (S15 _ _ ebx) (xY (qC S15) pb) (by omega) fun nl H6 S6 enl=>?_⟩
 have S16:=S15.trans S6
 wtm_at "zf"
 refine⟨dx,rfl,⟨du,SqL.of (S16 _ _ edx)⟩,?_⟩
 refine zK (xs:=du) (fun i σ' H'=>∃z6 z7 z8 z9 z10:Option V,σ'=[some (.ref bx),some (.ref dx),some (.ref lx),some bv,some gv,some (.ref nl),z6,z7,z8,z9,z10]∧Same H6 H') ⟨none,none,none,none,none,rfl,Same.refl _⟩
  (fun i σ' H' _ hP=>?_) (fun N rt bk i x σ' H' ex hP hN=>?_) (fun σ' H' hP=>?_)
 ·obtain⟨_,_,_,_,_,rfl,S⟩:=hP
  exact SqL.of (S _ _ (S16 _ _ edx))
 ·obtain⟨z6,z7,z8,z9,z10,rfl,S7⟩:=hP
  obtain⟨d,ed⟩:∃b,W.ds[i]? = some b:=⟨_,List.getElem?_eq_getElem (by rw[pd.length];exact(List.getElem?_eq_some_iff.mp ex).1)⟩
  have S17:=S16.trans S7
  obtain⟨a,nv,wa,wu,rfl,ea,nat,ewa,pw⟩:=(xK pd ed ex).same S17
  have dok:=ok.deeds d (List.mem_of_getElem? ed)
  wtm_at "zw"
  refine⟨.str d.name,d.price,rfl,dok.price,?_⟩
  wtm_at "zw"
  refine⟨d.need,nv,nl,_,rfl,nat,dok.need.ok,dok.dep,S7 _ _ enl,dok.need.in,fun H8 S8=>?_⟩
  wtm_at "zw"
  refine⟨.str d.name,wa,nl,wu,_,d.ways,rfl,S8 _ _ ewa,Paired.mapP pw fun _ _ y=>y.same S8,dok.ne,dok.le,dok.ways,S8 _ _ (S7 _ _ enl),fun H9 S9=>?_⟩
  exact hN _ _ ⟨_,_,_,_,_,rfl,S7.trans (S8.trans S9)⟩
 obtain⟨z6,z7,z8,z9,z10,rfl,S7⟩:=hP
 have S17:=S16.trans S7
 wtm_at "zf"
 refine⟨lx,rfl,⟨lu,SqL.of (S17 _ _ elx)⟩,?_⟩
 refine zK (xs:=lu) (fun i σ' H'=>∃z6 z7 z8 z9 z10:Option V,σ'=[some (.ref bx),some (.ref dx),some (.ref lx),some bv,some gv,some (.ref nl),z6,z7,z8,z9,z10]∧Same H6 H') ⟨z6,z7,z8,z9,z10,rfl,S7⟩
  (fun i σ' H' _ hP=>?_) (fun N rt bk i x σ' H' ex hP hN=>?_) (fun σ' H' hP=>?_)
 ·obtain⟨_,_,_,_,_,rfl,S⟩:=hP
  exact SqL.of (S _ _ (S16 _ _ elx))
 ·obtain⟨z6,z7,z8,z9,z10,rfl,S8⟩:=hP
  obtain⟨d,ed⟩:∃b,W.ls[i]? = some b:=⟨_,List.getElem?_eq_getElem (by rw[pl.length];exact(List.getElem?_eq_some_iff.mp ex).1)⟩
  have S18:=S16.trans S8
  obtain⟨a,nv,rfl,ea,nat⟩:=(xK pl ed ex).same S18
  have dok:=ok.looks d (List.mem_of_getElem? ed)
  wtm_at "zw"
  refine⟨.str d.name,d.price,rfl,dok.price,?_⟩
  wtm_at "zw"
  refine⟨d.part,nv,nl,_,rfl,nat,dok.part.ok,dok.dep,S8 _ _ enl,dok.part.in,fun H9 S9=>?_⟩
  exact hN _ _ ⟨_,_,_,_,_,rfl,S8.trans S9⟩
 obtain⟨z6,z7,z8,z9,z10,rfl,S8⟩:=hP
 have S18:=S16.trans S8
 wtm_at "zw"
 refine⟨W.bt,bv,nl,_,rfl,A0.beg.mono (qC S18),ok.beg.ok,ok.begd,S8 _ _ enl,ok.beg.in,fun H9 S9=>?_⟩
 wtm_at "zw"
 have S19:=S18.trans S9
 refine⟨W.gt,gv,nl,_,rfl,A0.goal.mono (qC S19),ok.goal.ok,ok.goald,S9 _ _ (S8 _ _ enl),ok.goal.in,fun H10 S10=>?_⟩
 wtm_at "zw"
 have S110:=S19.trans S10
 refine⟨W.bt,bv,bx,W.bs,us,rfl,A0.beg.mono (qC S110),ok.beg,ok.begd,S110 _ _ ebx,xY (qC S110) pb,ok.b6,ok.b25,ok.some',fun H11 S11=>?_⟩
 have S111:=S110.trans S11
 wtm_at "zw"
 refine⟨bx,us,rfl,.inl (SqL.of (S111 _ _ ebx)),fun bx' hbx'=>?_⟩
 have S112:=S111.trans (qV hbx' (.lst us))
 have ebx':upd H11 bx' (.lst us) bx'=some (.lst us):=qW
 generalize upd H11 bx' (.lst us)=H12 at S112 ebx'
 obtain⟨ps,eps,dat,pds⟩:=qVd (Paired.mapP pd fun _ _ y=>y.same S112)
 have lps:ps.length=W.ds.length:=by rw[← eps,List.length_map]
 have p100:∀p∈ps,p.2.2.length≤100:=fun p hp=>by
  have h1:=(dat p hp).2.length
  have h2:=(ok.deeds p.1 (by rw[← eps];exact List.mem_map.mpr ⟨p,hp,rfl⟩)).le
  omega
 refine⟨_,rfl,dx,rfl,⟨du,SqL.of (S112 _ _ edx)⟩,qBg (S112 _ _ edx) pds (by omega) p100 fun dx' ys H13 ndx' S13' edx' pys=>?_⟩
 have S113:=S112.trans S13'
 wtm_at "zw"
 refine⟨lx,lu,rfl,.inl (SqL.of (S113 _ _ elx)),fun lx' hlx'=>?_⟩
 wtm_at "zw"
 refine⟨(by show 5≤sizeLine;decide),fun p hp=>?_⟩
 have Sf:Same H13 (upd (upd H13 lx' (.lst lu)) p (.tup [.ref bx',.ref dx',.ref lx',bv,gv])):=(qV hlx' _).trans (qV hp _)
 have S114:=S113.trans Sf
 have elx':upd (upd H13 lx' (.lst lu)) p (.tup [.ref bx',.ref dx',.ref lx',bv,gv]) lx'=some (.lst lu):=qV hp _ _ _ qW
 have ep:upd (upd H13 lx' (.lst lu)) p (.tup [.ref bx',.ref dx',.ref lx',bv,gv]) p=some (.tup [.ref bx',.ref dx',.ref lx',bv,gv]):=qW
 generalize upd (upd H13 lx' (.lst lu)) p (.tup [.ref bx',.ref dx',.ref lx',bv,gv])=H14 at Sf S114 elx' ep
 have pys':=Paired.mapP pys fun _ _ z=>z.move (ok':=fun b=>b≠dx') (fun b o _ e=>Sf _ _ e) (qC Sf) fun _ z=>z
 have pds':=Paired.mapP pds fun _ _ z=>z.move (ok':=fun _=>True) (fun b o _ e=>Sf _ _ (S13' _ _ e)) (qC (S13'.trans Sf)) fun _ z=>z
 have dat':∀p∈ps,jK H14 p.1 p.2:=fun p hp=>(dat p hp).same (S13'.trans Sf)
 have pdj:=qZx dat' pys'
 rw[eps] at pdj
 refine q p bx' dx' lx' H14 S114 ep ⟨⟨us,Sf _ _ (S13' _ _ ebx'),xY (qC S114) pb⟩,⟨ys,Sf _ _ edx',pdj⟩,⟨lu,elx',Paired.mapP pl fun _ _ y=>y.same S114⟩,A0.beg.mono (qC S114),A0.goal.mono (qC S114)⟩
  ⟨.lst (SqL.of (Sf _ _ (S13' _ _ ebx'))) (SqL.of (S114 _ _ ebx)) rfl (Refs.same (qMo pb)),.lst (SqL.of (Sf _ _ edx')) (SqL.of (S114 _ _ edx)) (by rw[← pys.length,← pds.length]) fun j x y e1 e2=>?_,.lst (SqL.of elx') (SqL.of (S114 _ _ elx)) rfl (qDm pl).same⟩
 obtain⟨pp,epp⟩:∃b,ps[j]? = some b:=⟨_,List.getElem?_eq_getElem (by rw[pys.length];exact(List.getElem?_eq_some_iff.mp e1).1)⟩
 have g1:=xK pys' epp e1
 have g2:=xK pds' epp e2
 exact qIk (dat' pp (List.mem_of_getElem? epp)) g1 g2

theorem qBq {x:Int}(h0:0≤x)(h1:x<3):∃m:Int,0<m∧m.natAbs<2 ^ 1000∧atI [V.int 1,V.int 9,V.int (10 ^ (29:Int).toNat)] x=some (.int m):=by
 have:x=0∨x=1∨x=2:=by omega
 rcases this with rfl | rfl | rfl
 ·exact⟨1,by decide,by decide +kernel,rfl⟩
 ·exact⟨9,by decide,by decide +kernel,rfl⟩
 ·exact⟨10 ^ (29:Int).toNat,by decide +kernel,by decide +kernel,rfl⟩
theorem qXd {σ:St}{H:Hp}{Q:VK}{j:Nat}{dk:Addr}{d:Int}(hj:σ[j]? = some (some (.ref dk)))(hd:H dk=some (.lst [.int d]))
  (q:∀(p d':Int) (H':Hp),1≤p→p<2 ^ 1100→But dk H H'→H' dk=some (.lst [.int d'])→Q (.int p) H'):
  tOp (rI0 fun i j=>V.int (i+j)) (tC (.int 1)) (tCall spTake [] E0 (tCons (tVar j) (tCons (tOp (rIxL K) (tLst (tCons (tC (.int 1)) (tCons (tC (.int 9)) (tCons (tOp (rI CPow fun i j=>V.int (i ^ j.toNat)) (tC (.int 10)) (tC (.int 29))) tNil))))
   (tCall spTake [] E0 (tCons (tVar j) (tCons (tC (.int 3)) tNil)))) tNil))) σ H Q:=by
 refine⟨_,hj,10,29,rfl,rfl,⟨by decide,by decide,by decide⟩,(by show 3≤sizeLine;decide),fun l hl=>?_⟩
 have nld:l≠dk:=fun z=>by subst z;rw[hd] at hl;cases hl
 refine⟨_,hj,dk,3,d,rfl,qV hl _ _ _ hd,by decide,by decide +kernel,fun x d1 hx0 hx1=>?_⟩
 obtain⟨m,m0,m1,em⟩:=qBq hx0 hx1
 refine⟨l,_,x,.int m,rfl,rfl,SqL.of (by rw[qA nld];exact qW),em,?_⟩
 refine⟨dk,m,d1,rfl,qW,m0,m1,fun y d2 hy0 hy1=>⟨1,y,rfl,rfl,?_⟩⟩
 have m2:m<2 ^ 1000:=Int.lt_of_le_of_lt Int.le_natAbs (by exact_mod_cast m1)
 exact q (1+y) d2 _ (by omega) (Int.lt_trans (show 1+y<2 ^ 1000+1 by omega) (by decide +kernel)) (((qV hl _).but.trans But.upd).trans But.upd) qW
theorem zR:xI ["deck","name","words","price","need","ways","k","way","word"] ["deck","name","words"] (xA (top 49)):=⟨rfl,rfl,rfl,by decide +kernel,rfl,by decide +kernel,by decide +kernel⟩
noncomputable def spDeed:Sp:=fun vs H Q _=>∃(dk wd:Addr) (x:Str) (ws:List Str),vs=[.ref dk,.str x,.ref wd]∧Dk H dk wd ws∧ws.Nodup∧
 ∀(d:Deed) (dc:V×List (List V)) (u:V) (H':Hp),d.name=x→DeedOk ws d→But dk H H'→jK H' d dc→DeedAt (fun b=>H b=none) H' d.name d.price dc u→Q u H'
theorem qAk (ws:List Str)(lo hi:Option Int):∃zs:List Str,cutV (strsV ws) lo hi=strsV zs∧List.Sublist zs ws:=by
 unfold cutV
 refine⟨(ws.drop (HT.sIx (strsV ws).length 0 lo)).take (HT.sIx (strsV ws).length (strsV ws).length hi - HT.sIx (strsV ws).length 0 lo),?_,?_⟩
 ·rw[← List.map_drop,← List.map_take]
 ·exact(List.take_sublist _ _).trans (List.drop_sublist _ _)
theorem qQn {H H':Hp}(t:Tups H H'){wys:List (List (Str×Th))}{css:List (List V)}(p:Paired (fun wy cs=>Paired (zD H) wy cs) wys css):Paired (fun wy cs=>Paired (zD H') wy cs) wys css:=
 Paired.mapP p fun _ _ y=>Paired.mapP y fun _ _ z=>let ⟨a,v,e,q,r⟩:=z;⟨a,v,e,t _ _ q,r.mono t⟩
theorem yC {H H':Hp}(t:Tups H H'){wy:List (Str×Th)}{cs:List V}(p:Paired (zD H) wy cs):Paired (zD H') wy cs:=Paired.mapP p fun _ _ z=>let ⟨a,v,e,q,r⟩:=z;⟨a,v,e,t _ _ q,r.mono t⟩
theorem qOi (F:Fd K mg "_law_deed" (top 49) ["deck","name","words"])(B:Bl mg)(D_law_take:Dn P w K mg base "_law_take" 1 ["deck","many"] spTake)(D_law_cond:Dn P w K mg base "_law_cond" 8 ["deck","words","deep"] (spCond 3))(D_law_expr:Dn P w K mg base "_law_expr" 4 ["deck","words","deep"] (spExpr 3)):
  Dn P w K mg base "_law_deed" 9 ["deck","name","words"] spDeed:=by
 refine F.ok zR (fun vs H Q E h=>?_) (fun f cdv A outer s H vs Q E hr h=>?_)
 ·obtain⟨_,_,_,_,rfl,_⟩:=h
  rfl
 obtain⟨dk,wd,x,ws,rfl,D0,wnd,q⟩:=h
 obtain⟨d0,hd0⟩:=D0.deck
 have wpos:=List.length_pos_iff.mpr D0.ne
 have wle:=D0.le
 refine⟨_,(qZ (qM (i:=3) zR.nd rfl (by wtm_at "zo") (xQ zO qE (qD D_law_take hr (qQ (pv 0) (qQ (xH (qT (K:=K)) (zX (qQ qE (qQ qE (qQ (xQ yF qE qE) qX)))) (qD D_law_take hr (qQ (pv 0) (qQ qE qX))) (fun _ _=>rfl)) qX)))))
  (qZ (qM (i:=4) zR.nd rfl (by wtm_at "zo") (zJ (qQ qF qX)))
  (qK (zB (qR jQ (qD D_law_take hr (qQ (pv 0) (qQ qE qX))) qE (xD _)) (qJ (qM (i:=4) zR.nd rfl (by wtm_at "zo") (qD D_law_cond hr (qQ (pv 0) (qQ (pv 2) (qQ qE qX)))))) qY)
  (qZ (qM (i:=5) zR.nd rfl (by wtm_at "zo") (zX qX))
  (qZ (zE PassesOwn.never rfl (zT rfl B.range' (qQ (xQ zO qE (qD D_law_take hr (qQ (pv 0) (qQ qE qX)))) qX)) (qG (i:=6) zR.nd rfl (by wtm_at "zo")) (qZ (qM (i:=7) zR.nd rfl (by wtm_at "zo") (zX qX))
  (qZ (zE PassesOwn.never rfl (qU (K:=K) (yV (kM (K:=K)) (yV (kM (K:=K)) (pv 2) (kK (qD D_law_take hr (qQ (pv 0) (qQ (xZ (jI (K:=K)) rfl B.len' kS (qQ (pv 2) qX)) qX)))) kW) kW (kK qE))) (qG (i:=8) zR.nd rfl (by wtm_at "zo")) (qJ (zB (qR jQ (qD D_law_take hr (qQ (pv 0) (qQ qE qX))) qE (xD _)) (qJ (qP (zC (K:=K) PySem.F.plainAttrs_list PySem.F.slot_list_append PySem.F.type_list_append xS (pv 7) (qQ (zJ (qQ (pv 8) (qQ (qD D_law_expr hr (qQ (pv 0) (qQ (pv 2) (qQ qE qX)))) qX))) qX)))) qY)))
  (qJ (qP (zC (K:=K) PySem.F.plainAttrs_list PySem.F.slot_list_append PySem.F.type_list_append xS (pv 5) (qQ (pv 7) qX)))))))
  (qJ (qN (zJ (qQ (pv 1) (qQ (pv 3) (qQ (pv 4) (qQ (pv 5) qX)))))))))))),?_⟩
 refine qXd rfl hd0 fun p d1 H1 hp hpu B1 e1=>?_
 wtm_at "zw"
 refine⟨(by show 1≤sizeLine;decide),fun ya hya=>?_⟩
 have B2:But dk H (upd H1 ya (.tup [.str "yes"])):=B1.trans (qV hya _).but
 have e2:=qV hya (.tup [.str "yes"]) _ _ e1
 have ey:upd H1 ya (.tup [.str "yes"]) ya=some (.tup [.str "yes"]):=qW
 generalize upd H1 ya (.tup [.str "yes"])=H2 at B2 e2 ey
 wtm_at "zw"
 refine⟨fun σ' H'=>∃(nv:V) (t:Th) (d':Int),σ'=[some (.ref dk),some (.str x),some (.ref wd),some (.int p),some nv,none,none,none,none]∧But dk H H'∧H' dk=some (.lst [.int d'])∧t.At H' nv∧Cond' ws t∧t.dep≤6,?_,?_⟩
 ·wtm_at "zw"
  refine⟨dk,2,d1,rfl,e2,by decide,by decide +kernel,fun y d3 hy0 hy1=>?_⟩
  have B3:But dk H (upd H2 dk (.lst [.int d3])):=B2.trans But.upd
  have e3:upd H2 dk (.lst [.int d3]) dk=some (.lst [.int d3]):=qW
  have ey3:upd H2 dk (.lst [.int d3]) ya=some (.tup [.str "yes"]):=by rw[qA (vJ ey e2 (by intro z;cases z))];exact ey
  generalize upd H2 dk (.lst [.int d3])=H3 at B3 e3 ey3
  wtm_at "zw"
  refine ite2 (fun _=>?_) (fun _=>?_)
  ·wtm_at "zw"
   refine⟨dk,wd,ws,1,rfl,D0.but B3 e3,by decide,by decide,fun t v H4 B4 D4 At Cx Dep=>?_⟩
   obtain⟨d4,e4⟩:=D4.deck
   have e5:(1:Int).toNat+4=5:=rfl
   exact⟨v,t,d4,rfl,B3.trans B4,e4,At,Cx,by omega⟩
  ·exact⟨.ref ya,.nul "yes",d3,rfl,B3,e3,⟨ya,rfl,ey3⟩,rfl,by show 1≤6;decide⟩
 rintro σ' H3 ⟨nv,nt,d3,rfl,B3,e3,nat,ncx,ndep⟩
 wtm_at "zw"
 refine⟨(by show 0≤sizeLine;decide),fun wa hwa=>?_⟩
 have nwa:H wa=none:=by
  cases z:H wa with
  | none=>rfl
  | some o=>
   by_cases hz:wa=dk
   ·subst hz;rw[e3] at hwa;cases hwa
   ·rw[B3 _ _ hz z] at hwa;cases hwa
 have B4:But dk H (upd H3 wa (.lst [])):=B3.trans (qV hwa _).but
 have e4:=qV hwa (.lst []) _ _ e3
 have nat4:=nat.mono (qC (qV hwa (.lst [])))
 have ewa:upd H3 wa (.lst []) wa=some (.lst []):=qW
 have wad:wa≠dk:=fun z=>by subst z;rw[e3] at hwa;cases hwa
 generalize upd H3 wa (.lst [])=H4 at B4 e4 nat4 ewa
 wtm_at "zf"
 refine⟨dk,4,d3,rfl,e4,by decide,by decide +kernel,fun y d5 hy0 hy1=>?_⟩
 have B5:But dk H (upd H4 dk (.lst [.int d5])):=B4.trans But.upd
 have e5:upd H4 dk (.lst [.int d5]) dk=some (.lst [.int d5]):=qW
 have nat5:nt.At (upd H4 dk (.lst [.int d5])) nv:=nat4.mono (yY But.upd e4)
 have ewa5:upd H4 dk (.lst [.int d5]) wa=some (.lst []):=by rw[qA wad];exact ewa
 generalize upd H4 dk (.lst [.int d5])=H5 at B5 e5 nat5 ewa5
 wtm_at "zw"
 refine⟨_,rfl,by omega,by omega,?_⟩
 refine jC (fun i σ' H'=>∃(wus:List V) (css:List (List V)) (wys:List (List (Str×Th))) (d':Int) (z6 z7 z8:Option V),σ'=[some (.ref dk),some (.str x),some (.ref wd),some (.int p),some nv,some (.ref wa),z6,z7,z8]∧
   But dk H H'∧H' dk=some (.lst [.int d'])∧nt.At H' nv∧H' wa=some (.lst wus)∧Paired (LstIn (fun b=>H b=none∧b≠wa) H') css wus∧Paired (fun wy cs=>Paired (zD H') wy cs) wys css∧(∀wy∈wys,WayOk ws wy)∧wys.length=i)
  ⟨[],[],[],d5,none,none,none,rfl,B5,e5,nat5,ewa5,.nil,.nil,(fun wy hw=>by cases hw),rfl⟩ ?_ ?_
 ·rintro N rt bk i σ' H6 hi ⟨wus,css,wys,d6,z6,z7,z8,rfl,B6,e6,nat6,ewa6,pl,pd,wok,wl⟩ hN
  have lpl:=pl.length
  have lpd:=pd.length
  wtm_at "zw"
  refine⟨(by show 0≤sizeLine;decide),fun yy hyy=>?_⟩
  have yd:yy≠dk:=fun z=>by subst z;rw[e6] at hyy;cases hyy
  have yw:yy≠wa:=fun z=>by subst z;rw[ewa6] at hyy;cases hyy
  have nyy:H yy=none:=by
   cases z:H yy with
   | none=>rfl
   | some o=>rw[B6 _ _ yd z] at hyy;cases hyy
  have B7:But dk H (upd H6 yy (.lst [])):=B6.trans (qV hyy _).but
  have D7:Dk (upd H6 yy (.lst [])) dk wd ws:=D0.but B7 (qV hyy _ _ _ e6)
  have ewd7:=D7.words
  wtm_at "zf"
  refine⟨dk,_,d6,rfl,qV hyy _ _ _ e6,by rw[xW];omega,by rw[xW];exact big _ (by omega) (Int.lt_of_le_of_lt (b:=100) (by omega) (by decide +kernel)),fun y2 d7 hy20 hy21=>?_⟩
  wtm_at "zw"
  have ewd8:upd (upd H6 yy (.lst [])) dk (.lst [.int d7]) wd=some (.lst (strsV ws)):=by rw[qA D7.ap];exact D7.words
  refine⟨wd,_,rfl,SqL.of ewd8,fun s1 hs1=>?_⟩
  obtain⟨zs1,ez1,sub1⟩:=qAk ws (some y2) none
  rw[ez1]
  wtm_at "zw"
  refine⟨s1,_,rfl,SqL.of qW,fun s2 hs2=>?_⟩
  obtain⟨zs,ez,sub2⟩:=qAk zs1 none (some 4)
  rw[ez]
  have sub:=sub2.trans sub1
  have znd:=sub.nodup wnd
  have zle:=sub.length_le
  have B9:But dk H6 (upd (upd (upd (upd H6 yy (.lst [])) dk (.lst [.int d7])) s1 (.lst (strsV zs1))) s2 (.lst (strsV zs))):=(((qV hyy _).but.trans But.upd).trans (qV hs1 _).but).trans (qV hs2 _).but
  have e9:upd (upd (upd (upd H6 yy (.lst [])) dk (.lst [.int d7])) s1 (.lst (strsV zs1))) s2 (.lst (strsV zs)) dk=some (.lst [.int d7]):=qV hs2 _ _ _ (qV hs1 _ _ _ qW)
  have ey9:upd (upd (upd (upd H6 yy (.lst [])) dk (.lst [.int d7])) s1 (.lst (strsV zs1))) s2 (.lst (strsV zs)) yy=some (.lst []):=qV hs2 _ _ _ (qV hs1 _ _ _ (by rw[qA yd];exact qW))
  have es9:upd (upd (upd (upd H6 yy (.lst [])) dk (.lst [.int d7])) s1 (.lst (strsV zs1))) s2 (.lst (strsV zs)) s2=some (.lst (strsV zs)):=qW
  have sd:s2≠dk:=fun z=>by subst z;rw[qV hs1 _ _ _ qW] at hs2;cases hs2
  have sy:s2≠yy:=fun z=>by subst z;rw[qV hs1 _ _ _ (show upd (upd H6 s2 (.lst [])) dk (.lst [.int d7]) s2=some (.lst []) by rw[qA yd];exact qW)] at hs2;cases hs2
  generalize upd (upd (upd (upd H6 yy (.lst [])) dk (.lst [.int d7])) s1 (.lst (strsV zs1))) s2 (.lst (strsV zs))=H9 at B9 e9 ey9 es9
  refine⟨s2,rfl,⟨_,SqL.of es9⟩,?_⟩
  refine zK (xs:=strsV zs) (fun j σ'' H'=>∃(cs:List V) (wy:List (Str×Th)) (d':Int) (z8:Option V),σ''=[some (.ref dk),some (.str x),some (.ref wd),some (.int p),some nv,some (.ref wa),some (.int (0+(i:Int))),some (.ref yy),z8]∧
    But dk H6 H'∧H' dk=some (.lst [.int d'])∧H' s2=some (.lst (strsV zs))∧H' yy=some (.lst cs)∧Paired (zD H') wy cs∧List.Sublist (wy.map (·.1)) (zs.take j)∧∀c∈wy,c.1∈ws∧Expr' ws c.2∧c.2.dep≤3)
   ⟨[],[],d7,z8,rfl,B9,e9,es9,ey9,.nil,List.nil_sublist _,fun c hc=>by cases hc⟩ (fun j σ'' H' _ hP=>?_) (fun N2 rt2 bk2 j u σ'' H10 ex hP hN2=>?_) (fun σ'' H10 hP=>?_)
  ·obtain⟨_,_,_,_,_,_,_,e,_⟩:=hP
   exact SqL.of e
  ·obtain⟨cs,wy,d10,z8,rfl,B10,e10,es10,ey10,pc,sb,cok⟩:=hP
   obtain⟨word,hword,rfl⟩:∃word,zs[j]? = some word∧u=.str word:=by
    rw[List.getElem?_map] at ex
    cases z:zs[j]? with
    | none=>rw[z] at ex;cases ex
    | some v=>rw[z] at ex;exact⟨v,rfl,(Option.some.inj ex).symm⟩
   have lsb:=sb.length_le
   rw[List.length_map,List.length_take] at lsb
   have lpc:=pc.length
   wtm_at "zw"
   refine⟨dk,2,d10,rfl,e10,by decide,by decide +kernel,fun y3 d11 hy30 hy31=>?_⟩
   have B11:But dk H10 (upd H10 dk (.lst [.int d11])):=But.upd
   have e11:upd H10 dk (.lst [.int d11]) dk=some (.lst [.int d11]):=qW
   have es11:upd H10 dk (.lst [.int d11]) s2=some (.lst (strsV zs)):=by rw[qA sd];exact es10
   have ey11:upd H10 dk (.lst [.int d11]) yy=some (.lst cs):=by rw[qA yd];exact ey10
   have pc11:Paired (zD (upd H10 dk (.lst [.int d11]))) wy cs:=yC (yY B11 e10) pc
   generalize upd H10 dk (.lst [.int d11])=H11 at B11 e11 es11 ey11 pc11
   wtm_at "zw"
   refine ite2 (fun _=>?_) (fun _=>?_)
   ·wtm_at "zw"
    refine⟨.inl ⟨rfl,_,SqL.of ey11⟩,?_⟩
    wtm_at "zw"
    have B06:But dk H H11:=B6.trans (B10.trans B11)
    refine⟨dk,wd,ws,1,rfl,D0.but B06 e11,by decide,by decide,fun t v H12 B12 D12 At Ex Dep=>?_⟩
    obtain⟨d12,e12⟩:=D12.deck
    wtm_at "zw"
    refine⟨(by show 2≤sizeLine;decide),fun ta hta=>?_⟩
    have T12:Tups H11 H12:=yY B12 e11
    have ey12:=B12 _ _ yd ey11
    have yta:yy≠ta:=qB ey12 hta
    refine⟨yy,cs,.ref ta,rfl,rfl,qV hta _ _ _ ey12,small (by omega),?_⟩
    have T13:Tups H12 (upd (upd H12 ta (.tup [.str word,v])) yy (.lst (cs++[.ref ta]))):=fun b xs e=>by
     rw[qA (vJ e ey12 (by intro z;cases z))];exact qV hta _ _ _ e
    have e5:(1:Int).toNat+1=2:=rfl
    refine hN2 _ _ ⟨cs++[.ref ta],wy++[(word,t)],d12,_,rfl,fun b o hb e=>?_,?_,?_,qW,Paired.snoc (yC T13 (yC T12 pc11)) ⟨ta,v,rfl,by rw[qA (Ne.symm yta)];exact qW,At.mono T13⟩,?_,fun c hc=>?_⟩
    ·rw[qA (qB e hyy)];exact qV hta _ _ _ (B12 _ _ hb (B11 _ _ hb (B10 _ _ hb e)))
    ·rw[qA (Ne.symm yd)];exact qV hta _ _ _ e12
    ·rw[qA sy];exact qV hta _ _ _ (B12 _ _ sd es11)
    ·rw[List.map_append,List.take_add_one,hword]
     exact List.Sublist.append sb (List.Sublist.refl _)
    ·rcases List.mem_append.mp hc with h | h
     ·exact cok c h
     ·rw[List.mem_singleton.mp h]
      exact⟨sub.subset (List.mem_of_getElem? hword),Ex,by show t.dep≤3;omega⟩
   ·refine hN2 _ _ ⟨cs,wy,d11,_,rfl,B10.trans B11,e11,es11,ey11,pc11,sb.trans ?_,cok⟩
    rw[List.take_add_one];exact List.sublist_append_left _ _
  ·obtain⟨cs,wy,d10,z8,rfl,B10,e10,es10,ey10,pc,sb,cok⟩:=hP
   have ewa10:=B10 _ _ wad ewa6
   have T10:Tups H6 H10:=yY B10 e6
   wtm_at "zw"
   refine⟨.inl ⟨rfl,_,SqL.of ewa10⟩,?_⟩
   wtm_at "zw"
   refine⟨wa,wus,.ref yy,rfl,rfl,ewa10,small (by omega),?_⟩
   have T11:Tups H10 (upd H10 wa (.lst (wus++[.ref yy]))):=fun b xs e=>by rw[qA (vJ e ewa10 (by intro z;cases z))];exact e
   refine hN _ _ ⟨wus++[.ref yy],css++[cs],wys++[wy],d10,_,_,_,rfl,fun b o hb e=>?_,by rw[qA (Ne.symm wad)];exact e10,nat6.mono (T10.trans T11),qW,?_,?_,fun wy' hw=>?_,by simp[wl]⟩
   ·rw[qA (qB e nwa)];exact B10 _ _ hb (B6 _ _ hb e)
   ·refine Paired.snoc (Paired.mapP pl fun _ _ z=>z.move (fun b o okb e=>?_) fun _ z=>z) ⟨yy,rfl,⟨nyy,yw⟩,by rw[qA yw];exact ey10⟩
    have bd:b≠dk:=fun z=>by subst z;rw[hd0] at okb;cases okb.1
    rw[qA okb.2];exact B10 _ _ bd e
   ·exact Paired.snoc (qQn (T10.trans T11) pd) (yC T11 pc)
   ·rcases List.mem_append.mp hw with h | h
    ·exact wok wy' h
    ·rw[List.mem_singleton.mp h]
     have lz:(zs.take (strsV zs).length).length≤100:=by rw[List.length_take];omega
     have:=sb.length_le
     rw[List.length_map] at this
     exact⟨(sb.trans (List.take_sublist _ _)).nodup znd,by omega,fun c hc=>⟨(cok c hc).1,(cok c hc).2.1,by have:=(cok c hc).2.2;omega⟩,fun c hc=>(cok c hc).2.2⟩
 ·rintro σ' H6 ⟨wus,css,wys,d6,z6,z7,z8,rfl,B6,e6,nat6,ewa6,pl,pd,wok,wl⟩
  wtm_at "zw"
  refine⟨(by show 4≤sizeLine;decide),fun a ha=>?_⟩
  have S7:Same H6 (upd H6 a (.tup [.str x,.int p,nv,.ref wa])):=qV ha _
  have T7:=qC S7
  refine q ⟨x,p,nt,wys⟩ (nv,css) (.ref a) _ rfl ⟨hp,ncx,(show nt.dep≤12 by omega),?_,?_,wok,hpu,ndep,(show wys.length≤4 by omega)⟩ (B6.trans S7.but) ⟨nat6.mono T7,qQn T7 pd⟩ ⟨a,wa,wus,rfl,qW,nwa,S7 _ _ ewa6,Paired.mapP pl fun _ _ z=>z.move (fun b o _ e=>S7 _ _ e) fun _ z=>z.1⟩
  ·show wys≠[]
   intro z
   rw[z] at wl
   simp only[List.length_nil] at wl
   omega
  ·show wys.length≤100
   omega

theorem xN:xI ["script","boxes","words","deck","begin","goal","drawn","names","deeds","k","looks","price"] ["script"] (xA (top 50)):=⟨rfl,rfl,rfl,by decide +kernel,rfl,by decide +kernel,by decide +kernel⟩
theorem vF:CompOk (xA (top 50)) ["script","boxes","words","deck","begin","goal","drawn","names","deeds","k","looks","price"] (scAt (xB (top 50)) [1] []) ["box"] 1 []:=
 ⟨by decide +kernel,by decide +kernel,by decide +kernel,by decide +kernel,by decide +kernel,by decide +kernel,by decide +kernel,by decide +kernel⟩
theorem vE:CompOk (xA (top 50)) ["script","boxes","words","deck","begin","goal","drawn","names","deeds","k","looks","price"] (scAt (xB (top 50)) [5] [0]) ["one","begin","boxes"] 1 [4,1]:=
 ⟨by decide +kernel,by decide +kernel,by decide +kernel,by decide +kernel,by decide +kernel,by decide +kernel,by decide +kernel,by decide +kernel⟩
noncomputable def qWa (K:PySem.W.Frag):Sp:=fun vs H Q _=>∃(a:Addr) (ns:List Int),vs=[.ref a]∧SqL K H a (ns.map V.int)∧ns.length≤63∧
 ∀(p:Addr) (W:Wd) (bx dx lx:Addr) (bv gv:V) (H':Hp),Same H H'→H' p=some (.tup [.ref bx,.ref dx,.ref lx,bv,gv])→WAt H' W bx dx lx bv gv→WOk W→Q (.ref p) H'
theorem qIv (ws:List Str)(k:Nat):cutV (strsV ws) none (some (k:Int))=strsV (ws.take k):=by
 unfold cutV
 rw[HT.sIx_none,HT.sIx_nat,List.drop_zero,Nat.sub_zero,← List.map_take,xW]
 have e:ws.take (min k ws.length)=ws.take k:=by
  by_cases h:k≤ws.length
  ·rw[Nat.min_eq_left h]
  ·rw[Nat.min_eq_right (by omega),List.take_of_length_le (Nat.le_refl _),List.take_of_length_le (by omega)]
 rw[e]
theorem qIw (ws:List Str)(k:Nat):cutV (strsV ws) (some (k:Int)) none=strsV (ws.drop k):=by
 unfold cutV
 rw[HT.sIx_none,HT.sIx_nat,← List.map_drop,← List.map_take,xW]
 have e:(ws.drop (min k ws.length)).take (ws.length - min k ws.length)=ws.drop k:=by
  rw[List.take_of_length_le (by rw[List.length_drop];exact Nat.le_refl _)]
  by_cases h:k≤ws.length
  ·rw[Nat.min_eq_left h]
  ·rw[Nat.min_eq_right (by omega),List.drop_eq_nil_of_le (Nat.le_refl _),List.drop_eq_nil_of_le (by omega)]
 rw[e]
theorem qDe {ws:List Str}(p:Plain ws):(([("not" : Str),"and","yes"]:List Str)++ws.take 5++([("way" : Str),"end","one"]:List Str)++ws.drop 5).Nodup:=by
 have h1:(odd3++ws).Nodup:=List.nodup_append.mpr ⟨by decide +kernel,p.nd,fun a ha b hb e=>p.no b hb (e▸ha)⟩
 have e0:odd3++ws=([("not" : Str),"and","yes"]:List Str)++([("way" : Str),"end","one"]:List Str)++ws.take 5++ws.drop 5:=by
  rw[List.append_assoc,List.take_append_drop];rfl
 rw[e0] at h1
 refine(List.Perm.nodup_iff ?_).mp h1
 refine List.Perm.append_right _ ?_
 rw[List.append_assoc,List.append_assoc]
 exact List.Perm.append_left _ List.perm_append_comm
theorem qDf:∀x∈([("not" : Str),"and","yes"]:List Str)++[("way" : Str),"end","one"],x.length≤100∧∀c∈x.cps.toList,(Builtin.Str.reprChar 34 c).length≤1∧(Builtin.Str.reprChar 39 c).length≤1:=by decide +kernel
theorem qPq (bs:List (Str×Int))(h:∀b∈bs,2≤b.2∧b.2≤5):∃v,v∈allV bs:=by
 have key:∀i:Nat,i≤bs.length→0<(allV (bs.take i)).length:=by
  intro i
  induction i with
  | zero=>intro _;simp[allV]
  | succ i ih=>
   intro hi
   have hb:bs[i]? = some (bs[i]'(by omega)):=List.getElem?_eq_getElem (by omega)
   rw[yM hb,kN]
   have:=h _ (List.getElem_mem (h:=(by omega:i<bs.length)))
   exact Nat.mul_pos (ih (by omega)) (by omega)
 have:=key bs.length (Nat.le_refl _)
 rw[List.take_length] at this
 exact⟨_,List.getElem_mem (h:=this)⟩
theorem qXi {H H':Hp}(t:Tups H H'){ls:List Look}{us:List V}(p:Paired (LookIn H) ls us):Paired (LookIn H') ls us:=Paired.mapP p fun _ _ z=>let ⟨a,v,e,q,r⟩:=z;⟨a,v,e,t _ _ q,r.mono t⟩
theorem jK.tups {H H':Hp}(t:Tups H H'){d:Deed}{dc:V×List (List V)}(h:jK H d dc):jK H' d dc:=⟨h.1.mono t,qQn t h.2⟩
theorem qFz (F:Fd K mg "_law_world" (top 50) ["script"])(B:Bl mg)(D_law_cell_at:Dn P w K mg base "_law_cell_at" 1 ["script","k"] (spCell K))(D_law_boxes:Dn P w K mg base "_law_boxes" 3 ["cell"] qCb)
  (D_law_deck:Dn P w K mg base "_law_deck" 2 ["cell"] spDeck) (D_law_cond:Dn P w K mg base "_law_cond" 8 ["deck","words","deep"] (spCond 3)) (D_law_expr:Dn P w K mg base "_law_expr" 4 ["deck","words","deep"] (spExpr 3)) (D_law_take:Dn P w K mg base "_law_take" 1 ["deck","many"] spTake)
  (D_law_standings:Dn P w K mg base "_law_standings" 1 ["boxes"] wE) (D_law_holds:Dn P w K mg base "_law_holds" 13 ["cond","values"] (wF 12)) (D_law_values:Dn P w K mg base "_law_values" 1 ["boxes","standing"] wD)
  (D_law_drawn:Dn P w K mg base "_law_drawn" 2 ["cell","sizes"] qKd) (D_law_unlike:Dn P w K mg base "_law_unlike" 1 ["number","many"] qZe) (D_law_deed:Dn P w K mg base "_law_deed" 9 ["deck","name","words"] spDeed):
  Dn P w K mg base "_law_world" 14 ["script"] (qWa K):=by
 refine F.ok xN (fun vs H Q E h=>?_) (fun f cdv A outer s H vs Q E hr h=>?_)
 ·obtain⟨_,_,rfl,_⟩:=h
  rfl
 obtain⟨a,ns,rfl,hS,h63,q⟩:=h
 refine⟨_,(qZ (qM (i:=1) xN.nd rfl (by wtm_at "zo") (qD D_law_boxes hr (qQ (qD D_law_cell_at hr (qQ (pv 0) (qQ qE qX))) qX)))
  (qZ (yE (i:=2) xN.nd rfl (by wtm_at "zo") rfl vF (qU (K:=K) (pv 1)) (fun cl fp s H=>(qG (i:=0) vF.nd rfl (Or.inl rfl) (.inr rfl))) (fun cl fp s H=>zS) (fun cl fp s H=>(xH (qS (K:=K)) (pv 0) qE (fun _ _=>rfl))))
  (qZ (qM (i:=3) xN.nd rfl (by wtm_at "zo") (qD D_law_deck hr (qQ (qD D_law_cell_at hr (qQ (pv 0) (qQ qE qX))) qX)))
  (qZ (qM (i:=4) xN.nd rfl (by wtm_at "zo") (qD D_law_cond hr (qQ (pv 3) (qQ (pv 2) (qQ qE qX)))))
  (qZ (qM (i:=5) xN.nd rfl (by wtm_at "zo") (qD D_law_cond hr (qQ (pv 3) (qQ (pv 2) (qQ qE qX)))))
  (qK (zB (qR (qNi (K:=K) hr.units) (jW rfl vE (qU (K:=K) (qD D_law_standings hr (qQ (pv 1) qX))) (fun cl fp s H=>(qG (i:=0) vE.nd rfl (Or.inl rfl) (.inr rfl))) (fun cl fp s H=>(qNz (qWf (qD D_law_holds hr (qQ (pv 1) (qQ (qD D_law_values hr (qQ (pv 2) (qQ (pv 0) qX))) qX)))))) (fun cl fp s H=>(pv 0))) (zX qX) (xD _)) (qJ (qM (i:=4) xN.nd rfl (by wtm_at "zo") (zJ (qQ qF qX)))) qY)
  (qZ (qM (i:=6) xN.nd rfl (by wtm_at "zo") (qD D_law_drawn hr (qQ (qD D_law_cell_at hr (qQ (pv 0) (qQ qE qX))) (qQ (zX (qQ (xQ yF qE qE) (qQ qE (qQ qE qX)))) qX))))
  (qZ (qM (i:=7) xN.nd rfl (by wtm_at "zo") (qD D_law_unlike hr (qQ (xH (qT (K:=K)) (pv 6) qE (fun _ _=>rfl)) (qQ qE qX))))
  (qK (zB (qR jQ (xQ yW (xH (qT (K:=K)) (pv 6) qE (fun _ _=>rfl)) qE) qE (xD _)) (qJ (qM (i:=7) xN.nd rfl (by wtm_at "zo") (xQ qQv (xQ qQv (xQ qQv (zX (qQ qF (qQ qF (qQ qF qX)))) (yV (kM (K:=K)) (pv 7) kW (kK qE))) (zX (qQ qF (qQ qF (qQ qF qX))))) (yV (kM (K:=K)) (pv 7) (kK qE) kW)))) qY)
  (qZ (qM (i:=8) xN.nd rfl (by wtm_at "zo") (zX qX))
  (qZ (zE PassesOwn.never rfl (zT rfl B.range' (qQ (xH (qT (K:=K)) (pv 6) qE (fun _ _=>rfl)) qX)) (qG (i:=9) xN.nd rfl (by wtm_at "zo")) (qJ (qP (zC (K:=K) PySem.F.plainAttrs_list PySem.F.slot_list_append PySem.F.type_list_append xS (pv 8) (qQ (qD D_law_deed hr (qQ (qD D_law_deck hr (qQ (xQ zO (qD D_law_cell_at hr (qQ (pv 0) (qQ (xQ zO qE (pv 9)) qX))) (pv 9)) qX)) (qQ (xH (qT (K:=K)) (pv 7) (pv 9) (fun _ _=>rfl)) (qQ (pv 2) qX)))) qX)))))
  (qZ (qM (i:=10) xN.nd rfl (by wtm_at "zo") (zX qX))
  (qZ (zE PassesOwn.never rfl (zT rfl B.range' (qQ (xH (qT (K:=K)) (pv 6) qE (fun _ _=>rfl)) qX)) (qG (i:=9) xN.nd rfl (by wtm_at "zo")) (qZ (qM (i:=3) xN.nd rfl (by wtm_at "zo") (qD D_law_deck hr (qQ (xQ zO (qD D_law_cell_at hr (qQ (pv 0) (qQ (xQ zO qE (pv 9)) qX))) (xQ jN qE (pv 9))) qX)))
  (qZ (qM (i:=11) xN.nd rfl (by wtm_at "zo") (xQ zO qE (qD D_law_take hr (qQ (pv 3) (qQ (xH (qT (K:=K)) (zX (qQ qE (qQ qE (qQ (xQ yF qE qE) qX)))) (qD D_law_take hr (qQ (pv 3) (qQ qE qX))) (fun _ _=>rfl)) qX)))))
  (qJ (qP (zC (K:=K) PySem.F.plainAttrs_list PySem.F.slot_list_append PySem.F.type_list_append xS (pv 10) (qQ (zJ (qQ (xH (qT (K:=K)) (pv 7) (xQ zO qE (pv 9)) (fun _ _=>rfl)) (qQ (pv 11) (qQ (qD D_law_expr hr (qQ (pv 3) (qQ (pv 2) (qQ qE qX)))) qX)))) qX)))))))
  (qJ (qN (zJ (qQ (pv 1) (qQ (pv 8) (qQ (pv 10) (qQ (pv 4) (qQ (pv 5) qX))))))))))))))))))))),?_⟩
 wtm_at "zw"
 refine⟨a,ns,0,rfl,hS,Int.le_refl 0,fun c=>?_⟩
 wtm_at "zw"
 refine⟨c,rfl,fun bx bs us H1 hr1 S1 e1 p1 hb1 hb6 hb25 hb200 nmd=>?_⟩
 wtm_at "zw"
 refine⟨_,rfl,bx,rfl,⟨us,SqL.of e1⟩,qAd e1 p1 (by omega) fun wd H2 S2 ewd=>?_⟩
 have S02:=S1.trans S2
 wtm_at "zw"
 refine⟨a,ns,1,rfl,S02.seq hS,by decide,fun c1=>?_⟩
 wtm_at "zw"
 refine⟨c1,rfl,fun dk d hdk=>?_⟩
 have S3:Same H2 (upd H2 dk (.lst [.int d])):=qV hdk _
 have e3:upd H2 dk (.lst [.int d]) dk=some (.lst [.int d]):=qW
 generalize upd H2 dk (.lst [.int d])=H3 at S3 e3
 have wne:bs.map (·.1)≠[]:=by intro z;have:=congrArg List.length z;rw[List.length_map,List.length_nil] at this;omega
 have wle:(bs.map (·.1)).length≤100:=by rw[List.length_map];omega
 have D3:Dk H3 dk wd (bs.map (·.1)):=⟨⟨d,e3⟩,S3 _ _ ewd,wne,wle,qB ewd hdk⟩
 wtm_at "zw"
 refine⟨dk,wd,bs.map (·.1),2,rfl,D3,by decide,by decide,fun bt bv H4 B4 D4 bat bcx bdep=>?_⟩
 obtain⟨d4,e4⟩:=D4.deck
 wtm_at "zw"
 refine⟨dk,wd,bs.map (·.1),2,rfl,D4,by decide,by decide,fun gt gv H5 B5 D5 gat gcx gdep=>?_⟩
 obtain⟨d5,e5⟩:=D5.deck
 have i6:(2:Int).toNat+4=6:=rfl
 have S25:Same H2 H5:=fun b o e=>B5 _ _ (qB e hdk) (B4 _ _ (qB e hdk) (S3 _ _ e))
 have bat5:=bat.mono (yY B5 e4)
 have ebx5:=S25 _ _ (S2 _ _ e1)
 have pbx5:Paired (BoxIn H5) bs us:=xY (qC (S2.trans S25)) p1
 wtm_at "zw"
 refine⟨fun σ' H'=>∃(bv':V) (bt':Th),σ'=[some (.ref a),some (.ref bx),some (.ref wd),some (.ref dk),some bv',some gv,none,none,none,none,none,none]∧Same H2 H'∧bt'.At H' bv'∧gt.At H' gv∧Cond' (bs.map (·.1)) bt'∧bt'.dep≤6∧
   ∃vals∈allV bs,bt'.truth (envOf (kvsOf bs vals))=true,?_,?_⟩
 ·wtm_at "zf"
  refine⟨bx,bs,us,rfl,ebx5,pbx5,hb6,hb25,fun r ss H6 nr S6 er pr=>?_⟩
  have lr:=pr.length
  have lal:=wM hb25 bs.length (Nat.le_refl _)
  rw[List.take_length] at lal
  have p5:=pow56 hb6
  refine⟨r,rfl,⟨ss,SqL.of er⟩,?_⟩
  refine zM (xs:=ss) (fun D i ys H'=>(∀b o,H6 b=some o→H' b=some o)∧ys.length≤i∧(ys≠[]→∃vals∈allV bs,bt.truth (envOf (kvsOf bs vals))=true)) (fun D hD=>⟨qV hD _,Nat.le_refl _,fun z=>absurd rfl z⟩)
   (fun D i ys H' _ hP=>(show Same H6 H' from hP.1).seq (SqL.of er)) (fun D i x ys H' N hD hDy ex hP hN=>?_) (fun D ys H7 hD hDy hP=>?_)
  ·obtain⟨hk,hyl,hys⟩:=hP
   obtain⟨vals,ev⟩:∃b,(allV bs)[i]? = some b:=⟨_,List.getElem?_eq_getElem (by rw[lr];exact(List.getElem?_eq_some_iff.mp ex).1)⟩
   obtain⟨st,rfl,est⟩:=xK pr ev ex
   have hi:i<ss.length:=(List.getElem?_eq_some_iff.mp ex).1
   have S7:Same H5 H':=S6.trans hk
   have fv:=qFo (List.mem_of_getElem? ev)
   refine⟨⟨[some (.ref st)],rfl,rfl⟩,?_⟩
   refine⟨_,rfl,_,rfl,_,rfl,bx,st,bs,vals,rfl,⟨⟨us,S7 _ _ ebx5,xY (qC S7) pbx5⟩,hk _ _ est,fv.stands hb25,by omega⟩,fun p H8 S8 e8=>?_⟩
   refine⟨bt,bv,p,_,bs.map (·.1),envOf (kvsOf bs vals),rfl,bat5.mono (qC (S7.trans S8)),bcx,by omega,by omega,e8,qMw (fv.stands hb25),fun H9 S9=>?_⟩
   have S89:=S8.trans S9
   refine⟨_,rfl,?_⟩
   cases et:bt.truth (envOf (kvsOf bs vals)) with
   | true=>
    refine iteT ?_
    refine⟨_,rfl,S89 _ _ hDy,small2 (by omega),hN _ _ qW ⟨fun b o e=>?_,by rw[List.length_append];show ys.length+1≤i+1;omega,fun _=>⟨vals,List.mem_of_getElem? ev,et⟩⟩⟩
    rw[qA (qB e hD)];exact S89 _ _ (hk _ _ e)
   | false=>
    refine iteF ?_
    exact hN _ _ (S89 _ _ hDy) ⟨fun b o e=>S89 _ _ (hk _ _ e),by omega,hys⟩
  ·obtain⟨hk,hyl,hys⟩:=hP
   have S27:Same H5 H7:=S6.trans hk
   wtm_at "zw"
   refine⟨(by show 0≤sizeLine;decide),fun e0 he0=>?_⟩
   have S8:=S27.trans (qV he0 (.lst []))
   refine⟨D,e0,ys,rfl,rfl,SqL.of (qV he0 _ _ _ hDy),SqL.of qW,?_⟩
   generalize upd H7 e0 (.lst [])=H8 at S8
   cases ys with
   | nil=>
    refine⟨true,rfl,iteT ?_⟩
    wtm_at "zw"
    refine⟨(by show 1≤sizeLine;decide),fun t ht=>?_⟩
    obtain⟨v0,hv0⟩:=qPq bs hb25
    exact⟨.ref t,.nul "yes",rfl,S25.trans (S8.trans (qV ht _)),⟨t,rfl,qW⟩,gat.mono (qC (S8.trans (qV ht _))),rfl,by show 1≤6;decide,v0,hv0,rfl⟩
   | cons y0 yr=>
    refine⟨false,rfl,iteF ?_⟩
    exact⟨bv,bt,rfl,S25.trans S8,bat5.mono (qC S8),gat.mono (qC S8),bcx,by omega,hys (by simp)⟩
 rintro σ' H7 ⟨bv',bt',rfl,S7,bat',gat',bcx',bdep',hsome⟩
 have S07:=S02.trans S7
 wtm_at "zw"
 refine⟨a,ns,2,rfl,S07.seq hS,by decide,fun c2=>?_⟩
 wtm_at "zw"
 refine w_I ⟨by decide,by decide,by decide⟩ ?_
 wtm_at "zw"
 refine⟨(by show 3≤sizeLine;decide),fun l hl=>?_⟩
 wtm_at "zw"
 refine⟨c2,l,[10 ^ 9,9,7],rfl,qW,by decide,by decide,fun dr xs hdr hxl hxb=>?_⟩
 match xs,hxl,hxb with
 | [x0,x1,x2],_,hxb=>
 have b0:=hxb 0 x0 (10 ^ 9) rfl rfl
 have b1:=hxb 1 x1 9 rfl rfl
 have b2:=hxb 2 x2 7 rfl rfl
 have S8:=((qV hl (.lst [.int (10 ^ (9:Int).toNat),.int 9,.int 7])).trans (qV hdr (.lst (intsV [x0,x1,x2]))))
 have edr:upd (upd H7 l (.lst [.int (10 ^ (9:Int).toNat),.int 9,.int 7])) dr (.lst (intsV [x0,x1,x2])) dr=some (.lst (intsV [x0,x1,x2])):=qW
 generalize upd (upd H7 l (.lst [.int (10 ^ (9:Int).toNat),.int 9,.int 7])) dr (.lst (intsV [x0,x1,x2]))=H8 at S8 edr
 wtm_at "zw"
 refine⟨x0,14,rfl,b0.1,by decide,by decide,fun na nm hna hnl plain=>?_⟩
 have S9:=S8.trans (qV hna (.lst (strsV nm)))
 have edr9:=qV hna (.lst (strsV nm)) _ _ edr
 have ena:upd H8 na (.lst (strsV nm)) na=some (.lst (strsV nm)):=qW
 generalize upd H8 na (.lst (strsV nm))=H9 at S9 edr9 ena
 have nl14:nm.length=14:=hnl
 wtm_at "zw"
 refine⟨fun σ' H'=>∃(na:Addr) (nm:List Str),σ'=[some (.ref a),some (.ref bx),some (.ref wd),some (.ref dk),some bv',some gv,some (.ref dr),some (.ref na),none,none,none,none]∧Same H9 H'∧H' na=some (.lst (strsV nm))∧nm.Nodup∧14≤nm.length∧(∀x∈nm,Lw x),?_,?_⟩
 ·wtm_at "zw"
  refine w_I (show(0:Int)<8 by decide) ?_
  wtm_at "zw"
  refine ite2 (fun _=>?_) (fun _=>?_)
  ·wtm_at "zw"
   refine⟨(by show 3≤sizeLine;decide),fun l1 hl1=>?_⟩
   wtm_at "zw"
   refine⟨na,_,rfl,SqL.of (qV hl1 _ _ _ ena),fun l2 hl2=>?_⟩
   rw[show cutV (strsV nm) none (some 5)=strsV (nm.take 5) from qIv nm 5]
   refine⟨l1,l2,_,_,rfl,rfl,qV hl2 _ _ _ qW,qW,?_,fun l3 hl3=>?_⟩
   ·rw[xW,List.length_take];exact smallE (by show 3+_≤_;omega)
   wtm_at "zw"
   refine⟨(by show 3≤sizeLine;decide),fun l4 hl4=>?_⟩
   refine⟨l3,l4,_,_,rfl,rfl,qV hl4 _ _ _ qW,qW,?_,fun l5 hl5=>?_⟩
   ·rw[List.length_append,xW,List.length_take];exact smallE (by show 3+_+3≤_;omega)
   have Sx:=(((((qV hl1 (.lst [.str "not",.str "and",.str "yes"])).trans (qV hl2 (.lst (strsV (nm.take 5))))).trans (qV hl3 (.lst ([.str "not",.str "and",.str "yes"]++strsV (nm.take 5))))).trans
    (qV hl4 (.lst [.str "way",.str "end",.str "one"]))).trans (qV hl5 (.lst ([.str "not",.str "and",.str "yes"]++strsV (nm.take 5)++[.str "way",.str "end",.str "one"]))))
   wtm_at "zw"
   refine⟨na,_,rfl,SqL.of (Sx _ _ ena),fun l6 hl6=>?_⟩
   rw[show cutV (strsV nm) (some 5) none=strsV (nm.drop 5) from qIw nm 5]
   refine⟨l5,l6,_,_,rfl,rfl,qV hl6 _ _ _ qW,qW,?_,fun l7 hl7=>?_⟩
   ·rw[List.length_append,List.length_append,xW,xW,List.length_take,List.length_drop];exact smallE (by show 3+_+3+_≤_;omega)
   refine⟨l7,([("not" : Str),"and","yes"]:List Str)++nm.take 5++([("way" : Str),"end","one"]:List Str)++nm.drop 5,rfl,Sx.trans ((qV hl6 _).trans (qV hl7 _)),?_,qDe plain,?_,fun x hx=>?_⟩
   ·rw[qW,xR,xR,xR];rfl
   ·rw[List.length_append,List.length_append,List.length_append,List.length_take,List.length_drop]
    show 14≤3+_+3+_
    omega
   ·rcases List.mem_append.mp hx with h | h
    ·rcases List.mem_append.mp h with h | h
     ·rcases List.mem_append.mp h with h | h
      ·exact qDf x (List.mem_append.mpr (.inl h))
      ·exact⟨plain.le x (List.mem_of_mem_take h),plain.low x (List.mem_of_mem_take h)⟩
     ·exact qDf x (List.mem_append.mpr (.inr h))
    ·exact⟨plain.le x (List.mem_of_mem_drop h),plain.low x (List.mem_of_mem_drop h)⟩
  ·exact⟨na,nm,rfl,Same.refl _,ena,plain.nd,by omega,fun x hx=>⟨plain.le x hx,plain.low x hx⟩⟩
 rintro σ' H10 ⟨na,nm,rfl,S10,ena,ndn,nl,shn⟩
 have edr10:=S10 _ _ edr9
 have S0A:Same H H10:=S07.trans (S9.trans S10)
 have S2A:Same H2 H10:=S7.trans (S9.trans S10)
 have ewdA:=S2A _ _ ewd
 wtm_at "zw"
 refine⟨(by show 0≤sizeLine;decide),fun da hda=>?_⟩
 have edr11:=qV hda (.lst []) _ _ edr10
 wtm_at "zf"
 refine⟨x1,rfl,by omega,by omega,?_⟩
 refine jC (fun i σ' H'=>∃(du:List V) (ps:List (Deed×V×List (List V))) (z9:Option V),σ'=[some (.ref a),some (.ref bx),some (.ref wd),some (.ref dk),some bv',some gv,some (.ref dr),some (.ref na),some (.ref da),z9,none,none]∧
   (∀b o,H10 b=some o→H' b=some o)∧H' da=some (.lst du)∧Paired (fun p u=>DeedAt (fun b=>b≠da) H' p.1.name p.1.price p.2 u) ps du∧(∀p∈ps,jK H' p.1 p.2∧DeedOk (bs.map (·.1)) p.1)∧ps.map (fun p=>p.1.name)=nm.take i)
  ⟨[],[],none,rfl,qV hda _,qW,.nil,(fun p hp=>by cases hp),rfl⟩ ?_ ?_
 ·rintro N rt bk i σ' H11 hi ⟨du,ps,z9,rfl,k11,eda,pds,pok,pnm⟩ hN
  have S11:Same H10 H11:=k11
  have hi8:i<8:=by omega
  have ldu:=pds.length
  have lps:=congrArg List.length pnm
  rw[List.length_map,List.length_take] at lps
  obtain⟨nmi,enmi⟩:∃x,nm[i]? = some x:=⟨_,List.getElem?_eq_getElem (by omega)⟩
  have atn:atI (strsV nm) (0+(i:Int))=some (.str nmi):=by rw[Int.zero_add];exact yZ (by rw[List.getElem?_map,enmi];rfl)
  wtm_at "zw"
  refine⟨.inl ⟨rfl,_,SqL.of eda⟩,?_⟩
  wtm_at "zw"
  refine⟨a,ns,_,rfl,(S0A.trans S11).seq hS,by omega,fun c3=>?_⟩
  wtm_at "zw"
  refine⟨_,rfl,fun dk2 d2 hdk2=>?_⟩
  have ewd12:=qV hdk2 (.lst [.int d2]) _ _ (S11 _ _ ewdA)
  have ndd:da≠dk2:=qB eda hdk2
  wtm_at "zw"
  refine⟨dk2,wd,nmi,bs.map (·.1),rfl,⟨⟨d2,qW⟩,ewd12,wne,wle,qB (S11 _ _ ewdA) hdk2⟩,nmd.nd,fun dd dc u H12 en dok B12 dat dat2=>?_⟩
  have K12:∀b o,H11 b=some o→H12 b=some o:=fun b o e=>B12 _ _ (qB e hdk2) (qV hdk2 _ _ _ e)
  have eda12:=K12 _ _ eda
  refine⟨da,du,u,rfl,rfl,eda12,small (by omega),?_⟩
  have T12:Tups H12 (upd H12 da (.lst (du++[u]))):=fun b xs e=>by rw[qA (vJ e eda12 (by intro z;cases z))];exact e
  have T11:Tups H11 (upd H12 da (.lst (du++[u]))):=(qC (show Same H11 H12 from K12)).trans T12
  refine hN _ _ ⟨du++[u],ps++[(dd,dc)],_,rfl,fun b o e=>?_,qW,?_,fun p hp=>?_,?_⟩
  ·rw[qA (qB e hda)];exact K12 _ _ (k11 _ _ e)
  ·refine Paired.snoc (Paired.mapP pds fun _ _ z=>z.move (fun b o okb e=>?_) T11 fun _ z=>z) (dat2.move (fun b o okb e=>?_) T12 fun b okb=>?_)
   ·rw[qA okb];exact K12 _ _ e
   ·rw[qA (fun z=>by subst z;rw[qV hdk2 _ _ _ eda] at okb;cases okb)];exact e
   ·intro z;subst z;rw[qV hdk2 _ _ _ eda] at okb;cases okb
  ·rcases List.mem_append.mp hp with h | h
   ·exact⟨(pok p h).1.tups T11,(pok p h).2⟩
   ·rw[List.mem_singleton.mp h];exact⟨dat.tups T12,dok⟩
  ·rw[List.map_append,pnm,List.take_add_one,enmi,← en];rfl
 rintro σ' H11 ⟨du,ps,z9,rfl,k11,eda,pds,pok,pnm⟩
 have S11:Same H10 H11:=k11
 have edr12:=S11 _ _ edr10
 wtm_at "zw"
 refine⟨(by show 0≤sizeLine;decide),fun la hla=>?_⟩
 have edr13:=qV hla (.lst []) _ _ edr12
 wtm_at "zf"
 refine⟨x2,rfl,by omega,by omega,?_⟩
 refine jC (fun i σ' H'=>∃(lu:List V) (lks:List Look) (z3 z9 z11:Option V),σ'=[some (.ref a),some (.ref bx),some (.ref wd),z3,some bv',some gv,some (.ref dr),some (.ref na),some (.ref da),z9,some (.ref la),z11]∧
   (∀b o,H11 b=some o→H' b=some o)∧H' la=some (.lst lu)∧Paired (LookIn H') lks lu∧(∀l∈lks,LookOk (bs.map (·.1)) l)∧lks.map Look.name=(nm.drop 8).take i)
  ⟨[],[],_,_,none,rfl,qV hla _,qW,.nil,(fun p hp=>by cases hp),rfl⟩ ?_ ?_
 ·rintro N rt bk i σ' H12 hi ⟨lu,lks,z3,z9,z11,rfl,k12,ela,pls,lok,lnm⟩ hN
  have S12:Same H11 H12:=k12
  have hi6:i<6:=by omega
  have llu:=pls.length
  have lls:=congrArg List.length lnm
  rw[List.length_map,List.length_take,List.length_drop] at lls
  obtain⟨nmi,enmi⟩:∃x,(nm.drop 8)[i]? = some x:=⟨_,List.getElem?_eq_getElem (by rw[List.length_drop];omega)⟩
  have atn:atI (strsV nm) (8+(0+(i:Int)))=some (.str nmi):=by
   have e:(8:Int)+(0+(i:Int))=((8+i:Nat):Int):=by omega
   rw[e]
   exact yZ (by rw[List.getElem?_map,← List.getElem?_drop,enmi];rfl)
  wtm_at "zw"
  refine⟨a,ns,_,rfl,(S0A.trans (S11.trans S12)).seq hS,by omega,fun c3=>?_⟩
  wtm_at "zw"
  refine w_I ⟨by decide +kernel,big _ (by omega) (Int.lt_of_le_of_lt (b:=100) (by omega) (by decide +kernel))⟩ ?_
  wtm_at "zw"
  refine⟨_,rfl,fun dk2 d2 hdk2=>?_⟩
  have ewd12:=qV hdk2 (.lst [.int d2]) _ _ (S12 _ _ (S11 _ _ ewdA))
  have nwd:=qB (S12 _ _ (S11 _ _ ewdA)) hdk2
  refine qXd rfl qW fun pr d3 H13 hpr hpu B13 e13=>?_
  have K13:∀b o,H12 b=some o→H13 b=some o:=fun b o e=>B13 _ _ (qB e hdk2) (qV hdk2 _ _ _ e)
  have S13:Same H12 H13:=K13
  have ena13:=S13 _ _ (S12 _ _ (S11 _ _ ena))
  wtm_at "zw"
  refine⟨.inl ⟨rfl,_,SqL.of (S13 _ _ ela)⟩,?_⟩
  wtm_at "zw"
  refine⟨dk2,wd,bs.map (·.1),2,rfl,⟨⟨d3,e13⟩,S13 _ _ (S12 _ _ (S11 _ _ ewdA)),wne,wle,nwd⟩,by decide,by decide,fun t v H14 B14 D14 At Ex Dep=>?_⟩
  have K14:∀b o,H12 b=some o→H14 b=some o:=fun b o e=>B14 _ _ (qB e hdk2) (K13 _ _ e)
  wtm_at "zw"
  refine⟨(by show 3≤sizeLine;decide),fun ta hta=>?_⟩
  have ela14:=K14 _ _ ela
  have lta:la≠ta:=qB ela14 hta
  refine⟨la,lu,.ref ta,rfl,rfl,qV hta _ _ _ ela14,small (by omega),?_⟩
  have T14:Tups H14 (upd (upd H14 ta (.tup [.str nmi,.int pr,v])) la (.lst (lu++[.ref ta]))):=fun b xs e=>by
   rw[qA (vJ e ela14 (by intro z;cases z))];exact qV hta _ _ _ e
  have i3:(2:Int).toNat+1=3:=rfl
  refine hN _ _ ⟨lu++[.ref ta],lks++[⟨nmi,pr,t⟩],_,_,_,rfl,fun b o e=>?_,qW,Paired.snoc (qXi ((qC (show Same H12 H14 from K14)).trans T14) pls) ⟨ta,v,rfl,by rw[qA (Ne.symm lta)];exact qW,At.mono T14⟩,fun l hl=>?_,?_⟩
  ·rw[qA (qB e hla)];exact qV hta _ _ _ (K14 _ _ (k12 _ _ e))
  ·rcases List.mem_append.mp hl with h | h
   ·exact lok l h
   ·rw[List.mem_singleton.mp h];exact⟨hpr,Ex,by show t.dep≤12;omega,hpu,by show t.dep≤3;omega⟩
  ·rw[List.map_append,lnm,List.take_add_one,enmi];rfl
 rintro σ' H12 ⟨lu,lks,z3,z9,z11,rfl,k12,ela,pls,lok,lnm⟩
 have S12:Same H11 H12:=k12
 wtm_at "zw"
 refine⟨(by show 5≤sizeLine;decide),fun p hp=>?_⟩
 have Sf:=qV hp (.tup [.ref bx,.ref da,.ref la,bv',gv])
 have SB:Same H11 (upd H12 p (.tup [.ref bx,.ref da,.ref la,bv',gv])):=S12.trans Sf
 have ep:upd H12 p (.tup [.ref bx,.ref da,.ref la,bv',gv]) p=some (.tup [.ref bx,.ref da,.ref la,bv',gv]):=qW
 have ela':=Sf _ _ ela
 have pls':=qXi (qC Sf) pls
 generalize upd H12 p (.tup [.ref bx,.ref da,.ref la,bv',gv])=H13 at SB ep ela' pls' Sf
 have S2B:Same H2 H13:=S2A.trans (S11.trans SB)
 have S7B:Same H7 H13:=(S9.trans S10).trans (S11.trans SB)
 have pds':=Paired.mapP pds fun _ _ z=>z.move (ok':=fun b=>b≠da) (fun b o _ e=>SB _ _ e) (qC SB) fun _ z=>z
 have pdj:=qZx (fun p hp=>(pok p hp).1.same SB) pds'
 have lps:=congrArg List.length pnm
 have lls:=congrArg List.length lnm
 rw[List.length_map,List.length_take] at lps lls
 refine q p ⟨bs,ps.map (·.1),lks,bt',gt⟩ bx da la bv' gv H13 (S0A.trans (S11.trans SB)) ep
  ⟨⟨us,S2B _ _ (S2 _ _ e1),xY (qC (S2.trans S2B)) p1⟩,⟨du,SB _ _ eda,pdj⟩,⟨lu,ela',pls'⟩,bat'.mono (qC S7B),gat'.mono (qC S7B)⟩
  ⟨hb1,hb6,hb25,hb200,nmd,?_,?_,?_,fun d hd=>?_,lok,bcx',(show bt'.dep≤12 by omega),gcx,by show gt.dep≤12;omega,hsome,fun x hx=>?_,bdep',by show gt.dep≤6;omega⟩
 ·show(ps.map (·.1)).length≤100
  rw[List.length_map];omega
 ·show lks.length≤100
  omega
 ·show((ps.map (·.1)).map Deed.name++lks.map Look.name).Nodup
  rw[List.map_map,lnm]
  have e:ps.map (Deed.name∘fun x=>x.1)=nm.take x1.toNat:=pnm
  rw[e]
  refine List.Sublist.nodup ?_ ndn
  have e8:nm=nm.take 8++nm.drop 8:=(List.take_append_drop 8 nm).symm
  rw[show List.Sublist (nm.take x1.toNat++(nm.drop 8).take x2.toNat) nm↔List.Sublist (nm.take x1.toNat++(nm.drop 8).take x2.toNat) (nm.take 8++nm.drop 8) by rw[← e8]]
  refine List.Sublist.append ?_ (List.take_sublist _ _)
  have:nm.take x1.toNat=(nm.take 8).take x1.toNat:=by rw[List.take_take,Nat.min_eq_left (by omega)]
  rw[this]
  exact List.take_sublist _ _
 ·obtain⟨pp,hpp,rfl⟩:=List.mem_map.mp hd
  exact(pok pp hpp).2
 ·have hx:x∈(ps.map (·.1)).map Deed.name++lks.map Look.name:=hx
  rw[List.map_map,lnm] at hx
  have e:ps.map (Deed.name∘fun x=>x.1)=nm.take x1.toNat:=pnm
  rw[e] at hx
  rcases List.mem_append.mp hx with h | h
  ·exact shn x (List.mem_of_mem_take h)
  ·exact shn x (List.mem_of_mem_drop (List.mem_of_mem_take h))

theorem qMl {H:Hp}{bx dx lx bx' dx' lx':Addr}{bv gv:V}{bt gt:Th}(t:Told K H bx dx lx bx' dx' lx')(hb:bt.At H bv)(hg:gt.At H gv):∀(j:Nat) x y,[V.ref bx',V.ref dx',V.ref lx',bv,gv][j]? = some x→[V.ref bx,V.ref dx,V.ref lx,bv,gv][j]? = some y→DEq K H 4 x y:=fun j x y e1 e2=>by
 cases j with
 | zero=>cases e1;cases e2;exact t.boxes
 | succ j=>exact idx4 t.deeds t.looks (qFv hb) (qFv hg) j x y e1 e2
theorem xE {n:Nat}(h:n≤1000000):n≤sizeLine:=by rw[show sizeLine=16777216 by decide];omega
theorem qIl {n:Nat}(h:n<10 ^ 100):n.log2<1920:=by
 by_cases z:n=0
 ·rw[z];decide
 ·exact(Nat.log2_lt z).mpr (Nat.lt_trans h (by decide +kernel))
theorem jJ:xI ["number","sign","rest","blocks"] ["number"] (xA (top 34)):=⟨rfl,rfl,rfl,by decide +kernel,rfl,by decide +kernel,by decide +kernel⟩
noncomputable def spNum:Sp:=fun vs H Q _=>∃i:Int,vs=[.int i]∧i.natAbs<200∧∀H',Same H H'→Q (.str (numS i)) H'
theorem qSf (F:Fd K mg "shown_number" (top 34) ["number"])(B_abs:mg "abs" = none)(B_str:mg "str" = none)(GL_BLOCK:Gi mg "BLOCK" 1000000000000000000):Dn P w K mg base "shown_number" 1 ["number"] spNum:=by
 refine F.ok jJ (fun vs H Q E h=>?_) (fun f cdv A outer s H vs Q E hr h=>?_)
 ·obtain⟨_,rfl,_⟩:=h
  rfl
 obtain⟨i,rfl,hi,q⟩:=h
 refine⟨_,(qZ (qM (i:=1) jJ.nd rfl (by wtm_at "zo") (vA (qR qZn (pv 0) qE (xD _)) qF qF))
  (qZ (qM (i:=2) jJ.nd rfl (by wtm_at "zo") (xZ qIb rfl B_abs qSn (qQ (pv 0) qX)))
  (qZ (qM (i:=3) jJ.nd rfl (by wtm_at "zo") (zX qX))
  (qZ (qWg PassesOwn.never (qR qNg (pv 2) (qGo GL_BLOCK) (xD _)) (qZ jG (qJ jG)))
  (qZ (qP (zC (K:=K) PySem.F.plainAttrs_list PySem.F.slot_list_append PySem.F.type_list_append xS (pv 3) (qQ (xQ xG (pv 1) (xX kI rfl B_str qKx (qQ (pv 2) qX))) qX)))
  (qZ (qP (qCn (K:=K) PySem.F.plainAttrs_list PySem.F.slot_list_reverse PySem.F.type_list_reverse qBv (pv 3)))
  (qJ (qN (zC (K:=K) PySem.F.plainAttrs_str PySem.F.slot_str_join PySem.F.type_str_join qQc qF (qQ (pv 3) qX)))))))))),?_⟩
 have sz:=figs hi
 have e0:(if i<0 then -i else i)=((i.natAbs:Nat):Int):=by split <;> omega
 have fin:∀(H1:Hp) (r:Addr) (sg:Str),sg++dec i.natAbs=numS i→sg.length≤1→Same H H1→H r=none→H1 r=some (.lst [])→tSeq (tDrop (tBM K "list" qKh (tVar 3) (tCons (tOp (fun x y H Q=>∃i j,x=.str i∧y=.str j∧i.length+j.length≤sizeLine∧Q (.str (i++j)) H) (tVar 1) (tCB rStrA (tCons (tVar 2) tNil))) tNil)))
   (tSeq (tDrop (tBM0 K "list" qWe (tVar 3))) (tRet (tBM K "str" rJoin (tC (.str (Str.ofString ""))) (tCons (tVar 3) tNil)))) { nx:=fun x H'=>Q V.non H',rt:=Q } [some (.int i),some (.str sg),some (.int ((i.natAbs:Nat):Int)),some (.ref r)] H1:=fun H1 r sg es ls S nr er=>by
  wtm_at "zw"
  refine wB (SqL.of er) ?_
  wtm_at "zw"
  refine⟨_,rfl,.inl ⟨_,rfl,qIl (Nat.lt_of_lt_of_le (show((i.natAbs:Nat):Int).natAbs<200 by omega) (by decide +kernel))⟩,?_⟩
  have et:txV (.int ((i.natAbs:Nat):Int))=dec i.natAbs:=wI _
  rw[et]
  refine⟨_,_,rfl,rfl,xE (by have:=sz.hi;omega),?_⟩
  rw[es]
  wtm_at "zw"
  refine yJ er (by show 0<sizeLine;decide) ?_
  have S1:Same H (upd H1 r (.lst ([]++[V.str (numS i)]))):=S.set nr
  have e1:upd H1 r (.lst ([]++[V.str (numS i)])) r=some (.lst [V.str (numS i)]):=qW
  generalize upd H1 r (.lst ([]++[V.str (numS i)]))=H2 at S1 e1 ⊢
  wtm_at "zw"
  refine wB (SqL.of e1) ?_
  refine⟨r,_,rfl,rfl,e1,?_⟩
  have S2:Same H (upd H2 r (.lst [V.str (numS i)].reverse)):=S1.set nr
  have e2:upd H2 r (.lst [V.str (numS i)].reverse) r=some (.lst ([numS i].map V.str)):=qW
  generalize upd H2 r (.lst [V.str (numS i)].reverse)=H3 at S2 e2 ⊢
  wtm_at "zw"
  have ln:(numS i).length≤4:=by rw[← es,xF];have:=sz.hi;omega
  refine⟨_,r,[numS i],rfl,rfl,e2,?_,q H3 S2⟩
  show(numS i).length+0+1 * (Str.ofString "").length≤1000000
  rw[qFl]
  show(numS i).length+0+1 * 0≤1000000
  omega
 have no:¬((1000000000000000000:Int)≤((i.natAbs:Nat):Int)):=by omega
 wtm_at "zw"
 by_cases hn:i<0
 ·rw[decide_eq_true hn]
  refine iteT ?_
  wtm_at "zw"
  refine⟨i,rfl,?_⟩
  rw[e0]
  wtm_at "zw"
  refine⟨xE (Nat.zero_le _),fun r hr'=>?_⟩
  wtm_at "zw"
  refine qWq (fun R hR=>?_) (fin _ r _ ?_ ?_ (qV hr' _) hr' qW)
  ·wtm_at "zw"
   rw[decide_eq_false no]
   exact hR
  ·unfold numS
   rw[if_pos hn,qMc]
  ·rw[qMc];decide
 ·rw[decide_eq_false hn]
  refine iteF ?_
  wtm_at "zw"
  refine⟨i,rfl,?_⟩
  rw[e0]
  wtm_at "zw"
  refine⟨xE (Nat.zero_le _),fun r hr'=>?_⟩
  wtm_at "zw"
  refine qWq (fun R hR=>?_) (fin _ r _ ?_ ?_ (qV hr' _) hr' qW)
  ·wtm_at "zw"
   rw[decide_eq_false no]
   exact hR
  ·unfold numS
   rw[if_neg hn,qHd]
  ·rw[qFl];decide
noncomputable def forms80:List (Str×List Str):=[("plus",["(","E","+","E",")"]),("less",["(","E","-","E",")"]),("same",["E","=","E"]),("under",["E","<","E"]),("not",["not","C"]),("both",["(","C","and","C",")"])]
noncomputable def slotW (s:Str):Bool:=decide (s = "E") || decide (s = "C")
noncomputable def fillW:List Str→List Str→List Str
 | [],_=>[]
 | s::ss,ps=>(if slotW s then ps.headD "" else s)::fillW ss (if slotW s then ps.tail else ps)
noncomputable def formOf (k:Str):List Str:=(forms80.lookup k).getD []
noncomputable def sh:Th→Str
 | .num n=>numS n
 | .box x=>x
 | .nul _=>Str.ofString "yes"
 | .un k a=>Txt.join (Str.ofString " ") (fillW (formOf k) [sh a])
 | .bin k a b=>Txt.join (Str.ofString " ") (fillW (formOf k) [sh a,sh b])
noncomputable def Bin5 (k:Str):Prop:=k = "plus" ∨ k = "less" ∨ k = "same" ∨ k = "under" ∨ k = "both"
noncomputable def Shw:Th→Prop
 | .num n=>0≤n∧n<10
 | .box x=>x.length≤100
 | .nul k=>k = "yes"
 | .un k a=>k = "not" ∧ Shw a
 | .bin k a b=>Bin5 k∧Shw a∧Shw b
theorem Shw.ofE {ws:List Str}(n:∀x∈ws,x.length≤100){t:Th}(h:Expr' ws t):Shw t:=by
 induction t with
 | num i=>exact h
 | box x=>exact n x h
 | nul k=>exact h.elim
 | un k a _=>exact h.elim
 | bin k a b ha hb=>
  obtain⟨hk,h1,h2⟩:=h
  refine⟨?_,ha h1,hb h2⟩
  rcases hk with e | e
  ·exact .inl e
  ·exact .inr (.inl e)
theorem Shw.ofC {ws:List Str}(n:∀x∈ws,x.length≤100){t:Th}(h:Cond' ws t):Shw t:=by
 induction t with
 | num i=>exact h.elim
 | box x=>exact h.elim
 | nul k=>exact h
 | un k a ha=>exact⟨h.1,ha h.2⟩
 | bin k a b ha hb=>
  rcases h with⟨hk,h1,h2⟩ | ⟨hk,h1,h2⟩
  ·refine⟨?_,Shw.ofE n h1,Shw.ofE n h2⟩
   rcases hk with e | e
   ·exact .inr (.inr (.inl e))
   ·exact .inr (.inr (.inr (.inl e)))
  ·exact⟨.inr (.inr (.inr (.inr hk))),ha h1,hb h2⟩
theorem qSc (x:Str):fillW (formOf "not") [x]=[("not" : Str),x]:=rfl
theorem qMx (x y:Str):fillW (formOf "plus") [x,y]=[("(" : Str),x,"+",y,")"]:=rfl
theorem qMz (x y:Str):fillW (formOf "less") [x,y]=[("(" : Str),x,"-",y,")"]:=rfl
theorem qMq (x y:Str):fillW (formOf "same") [x,y]=[x,("=" : Str),y]:=rfl
theorem qEn (x y:Str):fillW (formOf "under") [x,y]=[x,("<" : Str),y]:=rfl
theorem qMj (x y:Str):fillW (formOf "both") [x,y]=[("(" : Str),x,"and",y,")"]:=rfl
noncomputable def wlen (ws:List Str):Nat:=(ws.map (·.length)).sum+ws.length * 1
theorem qVn (x:Str):wlen (fillW (formOf "not") [x])=x.length+5:=by
 rw[qSc]
 show 3+(x.length+0)+2 * 1=_
 omega
theorem qVo {k:Str}(h:Bin5 k)(x y:Str):wlen (fillW (formOf k) [x,y])≤x.length+y.length+10:=by
 rcases h with rfl | rfl | rfl | rfl | rfl
 ·rw[qMx];show 1+(x.length+(1+(y.length+(1+0))))+5 * 1≤_;omega
 ·rw[qMz];show 1+(x.length+(1+(y.length+(1+0))))+5 * 1≤_;omega
 ·rw[qMq];show x.length+(1+(y.length+0))+3 * 1≤_;omega
 ·rw[qEn];show x.length+(1+(y.length+0))+3 * 1≤_;omega
 ·rw[qMj];show 1+(x.length+(3+(y.length+(1+0))))+5 * 1≤_;omega
theorem qJd (ws:List Str):(Txt.join (Str.ofString " ") ws).length≤wlen ws:=by
 have:=qJx (Str.ofString " ") ws
 rw[show(Str.ofString " ").length=1 from rfl] at this
 exact this
theorem qHc {n:Int}(h0:0≤n)(h1:n<10):(numS n).length≤4:=by
 have:=(figs (show n.natAbs<200 by omega)).hi
 unfold numS
 rw[if_neg (by omega)]
 omega
theorem qEx {t:Th}(h:Shw t):(sh t).length≤110 * t.cnt:=by
 induction t with
 | num n=>
  have:=qHc h.1 h.2
  show(numS n).length≤110 * 1
  omega
 | box x=>
  have h:x.length≤100:=h
  show x.length≤110 * 1
  omega
 | nul k=>show 3≤110 * 1;omega
 | un k a ih=>
  obtain⟨rfl,h2⟩:=h
  have h3:=ih h2
  have h4:=qJd (fillW (formOf "not") [sh a])
  rw[qVn] at h4
  show(Txt.join (Str.ofString " ") (fillW (formOf "not") [sh a])).length≤110 * (a.cnt+1)
  omega
 | bin k a b iha ihb=>
  obtain⟨hk,h2,h3⟩:=h
  have h4:=iha h2
  have h5:=ihb h3
  have h6:=qJd (fillW (formOf k) [sh a,sh b])
  have h7:=qVo hk (sh a) (sh b)
  show(Txt.join (Str.ofString " ") (fillW (formOf k) [sh a,sh b])).length≤110 * (a.cnt+b.cnt+1)
  omega
theorem yU {t:Th}(h:Shw t)(d:t.dep≤6):(sh t).length≤7000:=by
 have h1:=t.cnt_le
 have h2:2 ^ t.dep≤2 ^ 6:=Nat.pow_le_pow_right (by decide) d
 have h3:=qEx h
 omega
theorem wQ {t:Th}(h:Shw t)(d:t.dep≤3):(sh t).length≤800:=by
 have h1:=t.cnt_le
 have h2:2 ^ t.dep≤2 ^ 3:=Nat.pow_le_pow_right (by decide) d
 have h3:=qEx h
 omega
theorem vU {t:Th}(h:Shw t)(d:t.dep≤8):(sh t).length≤30000:=by
 have h1:=t.cnt_le
 have h2:2 ^ t.dep≤2 ^ 8:=Nat.pow_le_pow_right (by decide) d
 have h3:=qEx h
 omega
theorem jE:xI ["thing","parts","words","sign"] ["thing"] (xA (top 33)):=⟨rfl,rfl,rfl,by decide +kernel,rfl,by decide +kernel,by decide +kernel⟩
theorem kF:CompOk (xA (top 33)) ["thing","parts","words","sign"] (scAt (xB (top 33)) [3] []) ["part"] 1 []:=
 ⟨by decide +kernel,by decide +kernel,by decide +kernel,by decide +kernel,by decide +kernel,by decide +kernel,by decide +kernel,by decide +kernel⟩
noncomputable def yD (n:Nat):Sp:=fun vs H Q _=>∃(t:Th) (v:V),vs=[v]∧t.At H v∧Shw t∧t.dep≤n∧t.dep≤8∧∀H',Same H H'→Q (.str (sh t)) H'
noncomputable def slots (ws:List Str):Nat:=(ws.filter slotW).length
theorem qAi {k:Str}(h:Bin5 k):slots (formOf k)=2∧(k,formOf k)∈forms80∧(formOf k).length≤5:=by
 rcases h with rfl | rfl | rfl | rfl | rfl <;> decide +kernel
theorem qSb (s:Str):inV (.str s) [V.str "E",V.str "C"]=slotW s:=by
 have e:inV (.str s) [V.str "E",V.str "C"]=inV (.str s) (strsV ["E","C"]):=rfl
 rw[e,wH]
 unfold slotW
 rw[← Bool.decide_or]
 exact decide_eq_decide.mpr ⟨fun h=>by
  rcases List.mem_cons.mp h with h | h
  ·exact .inl h
  ·exact .inr (List.mem_singleton.mp h),fun h=>by
  rcases h with h | h
  ·rw[h];exact List.mem_cons_self
  ·rw[h];exact List.mem_cons_of_mem _ List.mem_cons_self⟩
theorem pop0 (x:V)(xs:List V):seqIndex? 0 (x::xs).length=some 0:=by
 unfold seqIndex?
 rw[List.length_cons]
 simp
inductive View80 (H:Hp)(t:Th)(v:V):Prop
 | box (a:Addr) (x:Str):sh t=x→v=.ref a→H a=some (.tup [.str "box",.str x])→View80 H t v
 | num (a:Addr) (n:Int):sh t=numS n→n.natAbs<200→v=.ref a→H a=some (.tup [.str "number",.int n])→View80 H t v
 | yes (a:Addr):sh t=Str.ofString "yes" → v=.ref a→H a=some (.tup [.str "yes"])→View80 H t v
 | op (a:Addr) (k:Str) (us:List V) (ts:List Th):v=.ref a→H a=some (.tup (.str k::us))→(k,formOf k)∈forms80→k ≠ "number" → k ≠ "box" → us.isEmpty=false→us.length=ts.length→us.length≤2→slots (formOf k)=us.length→(formOf k).length≤5→
   (∀(i:Nat) u r,us[i]? = some u→ts[i]? = some r→r.At H u∧Shw r∧r.dep+1≤t.dep)→Txt.join (Str.ofString " ") (fillW (formOf k) (ts.map sh))=sh t→wlen (fillW (formOf k) (ts.map sh))≤100000→View80 H t v
theorem qAb {k:Str}(h:Bin5 k):k ≠ "number" ∧ k ≠ "box" := by
 rcases h with rfl | rfl | rfl | rfl | rfl <;> exact⟨by decide +kernel,by decide +kernel⟩
theorem view80 {H:Hp}{t:Th}{v:V}(at':t.At H v)(sw:Shw t)(h8:t.dep≤8):View80 H t v:=by
 cases t with
 | num n=>
  obtain⟨a,e,q⟩:=at'
  exact .num a n rfl (by have:=sw.1;have:=sw.2;omega) e q
 | box x=>
  obtain⟨a,e,q⟩:=at'
  exact .box a x rfl e q
 | nul k=>
  obtain⟨a,e,q⟩:=at'
  cases(show k = "yes" from sw)
  exact .yes a rfl e q
 | un k t1=>
  obtain⟨a,u,e,q,r⟩:=at'
  obtain⟨rfl,s1⟩:=sw
  have h8:t1.dep+1≤8:=h8
  refine .op a "not" [u] [t1] e q (by decide +kernel) (by decide +kernel) (by decide +kernel) rfl rfl (by show 1≤2;decide) (show slots (formOf "not")=1 by decide +kernel) (by decide +kernel) (fun i u' r' e1 e2=>?_) rfl ?_
  ·cases i with
   | zero=>cases e1;cases e2;exact⟨r,s1,Nat.le_refl _⟩
   | succ i=>cases e1
  ·have:=vU s1 (by omega)
   show wlen (fillW (formOf "not") [sh t1])≤_
   rw[qVn];omega
 | bin k t1 t2=>
  obtain⟨a,u1,u2,e,q,r1,r2⟩:=at'
  obtain⟨hk,s1,s2⟩:=sw
  have h8:max t1.dep t2.dep+1≤8:=h8
  obtain⟨f1,f2,f3⟩:=qAi hk
  refine .op a k [u1,u2] [t1,t2] e q f2 (qAb hk).1 (qAb hk).2 rfl rfl (by show 2≤2;decide) f1 f3 (fun i u' r' e1 e2=>?_) rfl ?_
  ·show r'.At H u'∧Shw r'∧r'.dep+1≤max t1.dep t2.dep+1
   cases i with
   | zero=>cases e1;cases e2;exact⟨r1,s1,by omega⟩
   | succ i=>
    cases i with
    | zero=>cases e1;cases e2;exact⟨r2,s2,by omega⟩
    | succ i=>cases e1
  ·have h1:=vU s1 (by omega)
   have h2:=vU s2 (by omega)
   have h3:=qVo hk (sh t1) (sh t2)
   show wlen (fillW (formOf k) [sh t1,sh t2])≤_
   omega
theorem qPg {K:PySem.W.Frag}{fs:List (Str×List Str)}{ty:TE}{σ:St}{H:Hp}{Q:VK}(q:ty σ H fun y H1=>∃k ws,y=.str k∧(k,ws)∈fs∧∀(a b:Addr) (c:Str),SqT K H1 a [.str c,.ref b]→(∀H,SqT K H b (ws.map V.str))→Q (.ref a) H1):tForm K fs ty σ H Q:=q
theorem qEo {n:Nat}(F:Fd K mg "shown_thing" (top 33) ["thing"])(B:Bl mg)(D_shown_thing:Dn P w K mg base "shown_thing" (n+1) ["thing"] (yD n))(D_shown_number:Dn P w K mg base "shown_number" 1 ["number"] spNum)
  (GL_YES:Gs K mg "YES" ["yes"]) (GL_FORMS:Gf w K mg "FORMS" forms80):Dn P w K mg base "shown_thing" (n+2) ["thing"] (yD (n+1)):=by
 refine F.ok jE (fun vs H Q E h=>?_) (fun f cdv A outer s H vs Q E hr h=>?_)
 ·obtain⟨_,_,rfl,_⟩:=h
  rfl
 obtain⟨t,v,rfl,at',sw,hn,h8,q⟩:=h
 refine⟨_,(qZ (zB (qR jQ (xH (qS (K:=K)) (pv 0) qE (fun _ _=>rfl)) qF (xD _)) (qJ (qN (qD D_shown_number hr (qQ (xH (qS (K:=K)) (pv 0) qE (fun _ _=>rfl)) qX)))) qY)
  (qZ (zB (qR jQ (xH (qS (K:=K)) (pv 0) qE (fun _ _=>rfl)) qF (xD _)) (qJ (qN (xH (qS (K:=K)) (pv 0) qE (fun _ _=>rfl)))) qY)
  (qZ (zB (qR (qDz (K:=K) hr.units) (pv 0) (qNv GL_YES) (xD _)) (qJ (qN qF)) qY)
  (qZ (yE (i:=1) jE.nd rfl (by wtm_at "zo") rfl kF (qKi (K:=K) (yV (qCe (K:=K)) (pv 0) (kK qE) kW)) (fun cl fp s H=>(qG (i:=0) kF.nd rfl (Or.inl rfl) (.inr rfl))) (fun cl fp s H=>zS) (fun cl fp s H=>(qD D_shown_thing hr (qQ (pv 0) qX))))
  (qZ (qM (i:=2) jE.nd rfl (by wtm_at "zo") (zX qX))
  (qZ (zE PassesOwn.never rfl (qKi (K:=K) (xH (qS (K:=K)) (qNw GL_FORMS (xH (qS (K:=K)) (pv 0) qE (fun _ _=>rfl)) (fun _ _=>rfl)) qE (fun _ _=>rfl))) (qG (i:=3) jE.nd rfl (by wtm_at "zo")) (qJ (qP (zC (K:=K) PySem.F.plainAttrs_list PySem.F.slot_list_append PySem.F.type_list_append xS (pv 2) (qQ (vA (qR (qWi (K:=K)) (pv 3) (zJ (qQ qF (qQ qF qX))) (by with_unfolding_all rfl)) (zC (K:=K) PySem.F.plainAttrs_list PySem.F.slot_list_pop PySem.F.type_list_pop qHf (pv 1) (qQ qE qX)) (pv 3)) qX)))))
  (qJ (qN (zC (K:=K) PySem.F.plainAttrs_str PySem.F.slot_str_join PySem.F.type_str_join qQc qF (qQ (pv 2) qX)))))))))),?_⟩
 cases view80 at' sw h8 with
 | box a x et ev ea=>
  subst ev
  rw[et] at q
  wtm_at "zw"
  exact q H (Same.refl _)
 | num a i et hi ev ea=>
  subst ev
  rw[et] at q
  wtm_at "zw"
  exact⟨i,rfl,hi,q⟩
 | yes a et ev ea=>
  subst ev
  rw[et] at q
  wtm_at "zw"
  intro p hp
  refine⟨a,p,"yes",[],"yes",rfl,rfl,SqT.of ea,hp,?_⟩
  wtm_at "zw"
  refine qJe rfl ?_
  wtm_at "zw"
  exact q H (Same.refl _)
 | op a k us ts ev ea hf n1 n2 une hl hl2 hsl h5 kids et hw=>
  subst ev
  wtm_at "zw"
  intro p hp
  refine⟨a,p,k,us,"yes",rfl,rfl,SqT.of ea,hp,?_⟩
  wtm_at "zw"
  rw[une,Bool.and_false]
  refine iteF ?_
  wtm_at "zf"
  refine⟨a,_,rfl,SqT.of ea,notwhole _ _,fun p2 hp2=>?_⟩
  rw[cut1]
  have S2:Same H (upd H p2 (.tup us)):=qV hp2 _
  have ep2:upd H p2 (.tup us) p2=some (.tup us):=qW
  generalize upd H p2 (.tup us)=H2 at S2 ep2 ⊢
  refine⟨p2,rfl,⟨us,SqT.of ep2⟩,?_⟩
  refine qIa (xs:=us) (fun D i ys H'=>ys=strsV ((ts.take i).map sh)∧∀b o,H2 b=some o→H' b=some o) (fun D hD=>⟨rfl,qV hD _⟩) (fun D i ys H' _ hP=>SqT.of (hP.2 _ _ ep2)) (fun D i x ys H' N hD hDy ex hP hN=>?_) (fun D ys H3 hD hDy hP=>?_)
  ·obtain⟨rfl,hk⟩:=hP
   obtain⟨c,ec⟩:∃c,ts[i]? = some c:=⟨_,List.getElem?_eq_getElem (by rw[← hl];exact(List.getElem?_eq_some_iff.mp ex).1)⟩
   obtain⟨ka,kw,kd⟩:=kids i x c ex ec
   have S3:Same H H':=S2.trans hk
   refine⟨⟨[some x],rfl,rfl⟩,?_⟩
   refine⟨_,rfl,c,x,rfl,ka.mono (qC S3),kw,by omega,by omega,fun H4 S4=>?_⟩
   refine⟨S4 _ _ hDy,small (by rw[xW,List.length_map,List.length_take];omega),hN _ _ qW ⟨?_,fun b o e=>?_⟩⟩
   ·rw[List.take_add_one,ec,List.map_append,xR];rfl
   ·rw[qA (qB e hD)];exact S4 _ _ (hk _ _ e)
  obtain⟨rfl,hk⟩:=hP
  rw[hl,List.take_length] at hDy
  wtm_at "zw"
  refine⟨xE (Nat.zero_le _),fun wl hwl=>?_⟩
  have S3:Same H H3:=S2.trans hk
  have nD:H D=none:=S2.free hD
  have nwl:H wl=none:=S3.free hwl
  have S4:Same H (upd H3 wl (.lst [])):=S3.trans (qV hwl _)
  have eD4:=qV hwl (.lst []) _ _ hDy
  have ewl:upd H3 wl (.lst []) wl=some (.lst []):=qW
  have Dw:D≠wl:=qB hDy hwl
  generalize upd H3 wl (.lst [])=H4 at S4 eD4 ewl ⊢
  have ea4:=S4 _ _ ea
  wtm_at "zf"
  refine qPg ?_
  wtm_at "zw"
  refine⟨k,formOf k,rfl,hf,fun fa fb c h1 h2=>?_⟩
  wtm_at "zw"
  refine⟨fb,rfl,⟨_,h2 _⟩,?_⟩
  refine qEl (xs:=(formOf k).map V.str) (fun i σ' H'=>∃(dn ps:List Str) (z:Option V),σ'=[some (.ref a),some (.ref D),some (.ref wl),z]∧H' D=some (.lst (strsV ps))∧H' wl=some (.lst (strsV dn))∧Same H H'∧
    dn++fillW ((formOf k).drop i) ps=fillW (formOf k) (ts.map sh)∧slots ((formOf k).drop i)≤ps.length∧dn.length≤i) ⟨[],ts.map sh,none,rfl,eD4,ewl,S4,rfl,(by rw[List.length_map,← hl];exact Nat.le_of_eq hsl),Nat.le_refl _⟩
   (fun i σ' H' _ _=>h2 H') (fun i x σ' H' ex hP=>?_) (fun σ' H' hP=>?_)
  ·obtain⟨dn,ps,z,rfl,eD,ew,S5,efl,hs,hd⟩:=hP
   rw[List.getElem?_map] at ex
   obtain⟨sg,esg,rfl⟩:=Option.map_eq_some_iff.mp ex
   have hi:=(List.getElem?_eq_some_iff.mp esg).1
   have edr:(formOf k).drop i=sg::(formOf k).drop (i+1):=by
    rw[List.drop_eq_getElem_cons hi,(List.getElem?_eq_some_iff.mp esg).2]
   rw[edr] at efl hs
   wtm_at "zw"
   refine wB (SqL.of ew) ?_
   wtm_at "zw"
   refine⟨xE (show 2≤1000000 by decide),fun tp htp=>?_⟩
   have S6:=S5.trans (qV htp (.tup [V.str "E",V.str "C"]))
   have eD6:=qV htp (.tup [V.str "E",V.str "C"]) _ _ eD
   have ew6:=qV htp (.tup [V.str "E",V.str "C"]) _ _ ew
   have etp:upd H' tp (.tup [V.str "E",V.str "C"]) tp=some (.tup [V.str "E",V.str "C"]):=qW
   generalize upd H' tp (.tup [V.str "E",V.str "C"])=H6 at S6 eD6 ew6 etp ⊢
   refine⟨tp,_,rfl,.inr (SqT.of etp),rfl,rfl,?_⟩
   show∃k,V.bl (inV (.str sg) [V.str "E",V.str "C"])=.bl k∧_
   rw[qSb]
   refine⟨_,rfl,?_⟩
   cases c:slotW sg with
   | true=>
    refine qJe rfl ?_
    rw[fillW,c] at efl
    have hs1:slots (sg::(formOf k).drop (i+1))=slots ((formOf k).drop (i+1))+1:=by
     unfold slots
     rw[List.filter_cons_of_pos c,List.length_cons]
    rw[hs1] at hs
    cases ps with
    | nil=>exact absurd hs (by rw[List.length_nil];omega)
    | cons p0 pr=>
     rw[List.length_cons] at hs
     wtm_at "zw"
     refine wB (SqL.of eD6) ?_
     wtm_at "zw"
     refine⟨D,_,0,0,.str p0,rfl,rfl,eD6,by decide,by decide,pop0 _ _,rfl,?_⟩
     refine⟨wl,_,_,rfl,rfl,by rw[qA (Ne.symm Dw)];exact ew6,small (by rw[xW];omega),?_⟩
     refine⟨dn++[p0],pr,_,rfl,by rw[qA Dw];exact qW,by rw[qW,xR];rfl,(S6.set nD).set nwl,?_,by omega,by rw[List.length_append];show dn.length+1≤i+1;omega⟩
     rw[List.append_assoc]
     exact efl
   | false=>
    refine jP rfl ?_
    rw[fillW,c] at efl
    have hs1:slots (sg::(formOf k).drop (i+1))=slots ((formOf k).drop (i+1)):=by
     unfold slots
     rw[List.filter_cons_of_neg (by rw[c];exact Bool.false_ne_true)]
    rw[hs1] at hs
    wtm_at "zw"
    refine⟨wl,_,_,rfl,rfl,ew6,small (by rw[xW];omega),?_⟩
    refine⟨dn++[sg],ps,_,rfl,by rw[qA Dw];exact eD6,by rw[qW,xR];rfl,S6.set nwl,?_,hs,by rw[List.length_append];show dn.length+1≤i+1;omega⟩
    rw[List.append_assoc]
    exact efl
  ·obtain⟨dn,ps,z,rfl,eD,ew,S5,efl,hs,hd⟩:=hP
   rw[List.length_map,List.drop_length] at efl
   have efl:dn++[]=fillW (formOf k) (ts.map sh):=efl
   rw[List.append_nil] at efl
   rw[efl] at ew
   wtm_at "zw"
   refine⟨_,wl,_,rfl,rfl,ew,?_,?_⟩
   ·have hw:((fillW (formOf k) (ts.map sh)).map (·.length)).sum+(fillW (formOf k) (ts.map sh)).length * 1≤100000:=hw
    show _+_ * 1≤1000000
    omega
   ·rw[et];exact q H' S5
theorem qAz (F:Fd K mg "shown_thing" (top 33) ["thing"])(B:Bl mg)(D_shown_number:Dn P w K mg base "shown_number" 1 ["number"] spNum)
  (GL_YES:Gs K mg "YES" ["yes"]) (GL_FORMS:Gf w K mg "FORMS" forms80):∀n:Nat,Dn P w K mg base "shown_thing" (n+1) ["thing"] (yD n)
 | 0=>F.never fun vs H Q E h=>by
  obtain⟨t,_,_,_,_,h1,_⟩:=h
  have:=t.dep_pos
  omega
 | n+1=>qEo F B (qAz F B D_shown_number GL_YES GL_FORMS n) D_shown_number GL_YES GL_FORMS

theorem zU (a b c:Str):(a++b)++c=a++(b++c):=jM (by rw[zV,zV,zV,zV,List.append_assoc])
theorem vD (a:Str):Str.empty++a=a:=jM (by rw[zV];rfl)
theorem jS (ws:List Str)(x:Str):strsV ws++[V.str x]=strsV (ws++[x]):=by rw[xR];rfl
noncomputable def intS (n:Int):Str:=Str.ofString (toString n)
noncomputable def needS:Th→Str
 | .nul _=>Str.ofString ""
 | t=>Str.ofString " if " ++ sh t
noncomputable def chS (c:Str×Th):Str:=Str.ofString " " ++ c.1++Str.ofString " := " ++ sh c.2
noncomputable def wayS (wy:List (Str×Th)):Str:=Str.ofString "way" ++ Txt.join (Str.ofString ",") (wy.map chS)
noncomputable def boxS (b:Str×Int):Str:=Str.ofString "box " ++ b.1++Str.ofString " " ++ intS b.2
noncomputable def deedS (d:Deed):Str:=Str.ofString "deed " ++ d.name++Str.ofString " " ++ intS d.price++needS d.need
noncomputable def lookS (l:Look):Str:=Str.ofString "look " ++ l.name++Str.ofString " " ++ intS l.price++Str.ofString " " ++ sh l.part
noncomputable def xM (d:Deed):List Str:=deedS d::d.ways.map wayS
noncomputable def rowsOf (W:Wd):List Str:=W.bs.map boxS++W.ds.flatMap xM++W.ls.map lookS++[Str.ofString "begin " ++ sh W.bt,Str.ofString "goal " ++ sh W.gt]
noncomputable def textW (W:Wd):Str:=Txt.join (Str.ofString "\n") (rowsOf W)
theorem qJz {n:Int}(h0:0≤n)(h1:n<2 ^ 1100):(intS n).length≤1000∧n.natAbs.log2<1920:=by
 have hn:n.natAbs<2 ^ 1100:=by
  have:(n.natAbs:Int)<2 ^ 1100:=by rw[Int.natAbs_of_nonneg h0];exact h1
  exact_mod_cast this
 constructor
 ·have e:n=((n.natAbs:Nat):Int):=(Int.natAbs_of_nonneg h0).symm
  unfold intS
  rw[e,wI,qEz]
  show(((Nat.toDigits 10 n.natAbs).map Char.toNat).toArray).toList.length≤1000
  rw[List.toList_toArray,List.length_map]
  have h2:=(Nat.length_toDigits_le_iff (b:=10) (k:=1000) (by decide) (by decide)).mpr (Nat.lt_of_lt_of_le hn (show 2 ^ 1100≤10 ^ 1000 by decide +kernel))
  exact h2
 ·by_cases z:n.natAbs=0
  ·rw[z];decide
  ·exact Nat.lt_trans ((Nat.log2_lt z).mpr hn) (by decide)
theorem qQb {t:Th}(h:Shw t)(d:t.dep≤6):(needS t).length≤7004:=by
 have:=yU h d
 cases t with
 | nul k=>exact Nat.zero_le _
 | num n=>show(Str.ofString " if " ++ sh (.num n)).length≤_;rw[xF];show 4+_≤_;omega
 | box n=>show(Str.ofString " if " ++ sh (.box n)).length≤_;rw[xF];show 4+_≤_;omega
 | un k n=>show(Str.ofString " if " ++ sh (.un k n)).length≤_;rw[xF];show 4+_≤_;omega
 | bin k n m=>show(Str.ofString " if " ++ sh (.bin k n m)).length≤_;rw[xF];show 4+_≤_;omega
theorem qOn {c:Str×Th}(h1:c.1.length≤100)(h:Shw c.2)(d:c.2.dep≤3):(chS c).length≤1000:=by
 have:=wQ h d
 unfold chS
 rw[xF,xF,xF]
 show 1+c.1.length+4+(sh c.2).length≤1000
 omega
structure ShWay (wy:List (Str×Th)):Prop where
 le:wy.length≤6
 ok:∀c∈wy,c.1.length≤100∧Shw c.2∧c.2.dep≤3
theorem qZa {wy:List (Str×Th)}(h:ShWay wy):((wy.map chS).map (·.length)).sum+(wy.map chS).length * (Str.ofString ",").length≤6006:=by
 have h1:=qIe (ws:=wy.map chS) (m:=1000) fun w hw=>by
  obtain⟨c,hc,rfl⟩:=List.mem_map.mp hw
  obtain⟨a,b,d⟩:=h.ok c hc
  exact qOn a b d
 have h2:=h.le
 rw[List.length_map] at h1 ⊢
 rw[show(Str.ofString ",").length=1 from rfl]
 omega
theorem qZb {wy:List (Str×Th)}(h:ShWay wy):(wayS wy).length≤6009:=by
 have h1:=qJx (Str.ofString ",") (wy.map chS)
 have h2:=qZa h
 unfold wayS
 rw[xF]
 show 3+_≤_
 omega
structure ShW (W:Wd):Prop where
 ok:WOk W
 d2:W.ds.length≤8
 l3:W.ls.length≤6
theorem qHe {ws xs:List Str}(nd:ws.Nodup)(h:∀x∈ws,x∈xs):ws.length≤xs.length:=by
 induction ws generalizing xs with
 | nil=>exact Nat.zero_le _
 | cons x ws ih=>
  have nd':=List.nodup_cons.mp nd
  have hx:=h x List.mem_cons_self
  have h1:=ih (xs:=xs.erase x) nd'.2 fun y hy=>(List.mem_erase_of_ne (fun e:y=x=>nd'.1 (by rw[← e];exact hy))).mpr (h y (List.mem_cons_of_mem _ hy))
  rw[List.length_erase_of_mem hx] at h1
  have h2:=List.length_pos_of_mem hx
  rw[List.length_cons];omega
section
variable {W:Wd}
theorem ShW.names (h:ShW W):∀x∈W.ws,x.length≤100:=fun x hx=>(h.ok.named.sh x hx).1
theorem ShW.way (h:ShW W){d:Deed}(hd:d∈W.ds){wy:List (Str×Th)}(hw:wy∈d.ways):ShWay wy:=by
 have o:=(h.ok.deeds d hd).ways wy hw
 refine⟨?_,fun c hc=>⟨h.names _ (o.ok c hc).1,Shw.ofE h.names (o.ok c hc).2.1,o.sm c hc⟩⟩
 have h1:=qHe o.nd fun x hx=>by
  obtain⟨c,hc,rfl⟩:=List.mem_map.mp hx
  exact(o.ok c hc).1
 rw[List.length_map] at h1
 have h2:=h.ok.b6
 have h3:W.ws.length=W.bs.length:=List.length_map _
 omega
theorem ShW.need (h:ShW W){d:Deed}(hd:d∈W.ds):Shw d.need:=Shw.ofC h.names (h.ok.deeds d hd).need
theorem ShW.part (h:ShW W){l:Look}(hl:l∈W.ls):Shw l.part:=Shw.ofE h.names (h.ok.looks l hl).part
theorem ShW.dname (h:ShW W){d:Deed}(hd:d∈W.ds):d.name.length≤100:=(h.ok.sh _ (List.mem_append_left _ (List.mem_map.mpr ⟨d,hd,rfl⟩))).1
theorem ShW.lname (h:ShW W){l:Look}(hl:l∈W.ls):l.name.length≤100:=(h.ok.sh _ (List.mem_append_right _ (List.mem_map.mpr ⟨l,hl,rfl⟩))).1
theorem ShW.size (h:ShW W){b:Str×Int}(hb:b∈W.bs):(intS b.2).length≤1000∧b.2.natAbs.log2<1920:=qJz (by have:=(h.ok.b25 b hb).1;omega) (Int.lt_of_le_of_lt (h.ok.b25 b hb).2 (by decide +kernel))
theorem ShW.bname (h:ShW W){b:Str×Int}(hb:b∈W.bs):b.1.length≤100:=h.names _ (List.mem_map.mpr ⟨b,hb,rfl⟩)
theorem ShW.dprice (h:ShW W){d:Deed}(hd:d∈W.ds):(intS d.price).length≤1000∧d.price.natAbs.log2<1920:=qJz (by have:=(h.ok.deeds d hd).price;omega) (h.ok.deeds d hd).hi
theorem ShW.lprice (h:ShW W){l:Look}(hl:l∈W.ls):(intS l.price).length≤1000∧l.price.natAbs.log2<1920:=qJz (by have:=(h.ok.looks l hl).price;omega) (h.ok.looks l hl).hi
theorem qIc (h:ShW W){b:Str×Int}(hb:b∈W.bs):(boxS b).length≤9000:=by
 have h1:=(h.size hb).1
 have h2:=h.bname hb
 unfold boxS
 rw[xF,xF,xF]
 show 4+b.1.length+1+(intS b.2).length≤_
 omega
theorem qFa (h:ShW W){d:Deed}(hd:d∈W.ds):(deedS d).length≤9000:=by
 have h1:=(h.dprice hd).1
 have h2:=h.dname hd
 have h3:=qQb (h.need hd) (h.ok.deeds d hd).sm
 unfold deedS
 rw[xF,xF,xF,xF]
 show 5+d.name.length+1+(intS d.price).length+(needS d.need).length≤_
 omega
theorem qDn (h:ShW W){l:Look}(hl:l∈W.ls):(lookS l).length≤9000:=by
 have h1:=(h.lprice hl).1
 have h2:=h.lname hl
 have h3:=wQ (h.part hl) (h.ok.looks l hl).sm
 unfold lookS
 rw[xF,xF,xF,xF,xF]
 show 5+l.name.length+1+(intS l.price).length+1+(sh l.part).length≤_
 omega
theorem ShW.beg (h:ShW W):Shw W.bt:=Shw.ofC h.names h.ok.beg
theorem ShW.goal (h:ShW W):Shw W.gt:=Shw.ofC h.names h.ok.goal
theorem vC {ds:List Deed}(h:∀d∈ds,d.ways.length≤4):(ds.flatMap xM).length≤5 * ds.length:=by
 induction ds with
 | nil=>exact Nat.le_refl _
 | cons d ds ih=>
  have h1:=h d List.mem_cons_self
  have h2:=ih fun e he=>h e (List.mem_cons_of_mem _ he)
  rw[List.flatMap_cons,List.length_append,List.length_cons]
  have e:(xM d).length=d.ways.length+1:=by
   show(d.ways.map wayS).length+1=_
   rw[List.length_map]
  omega
theorem qGl (h:ShW W):(rowsOf W).length≤54:=by
 have h1:=vC (ds:=W.ds) fun d hd=>(h.ok.deeds d hd).w4
 have h2:=h.d2
 have h3:=h.l3
 have h4:=h.ok.b6
 unfold rowsOf
 rw[List.length_append,List.length_append,List.length_append,List.length_map,List.length_map]
 show _+_+_+2≤54
 omega
theorem qCh (h:ShW W):∀r∈rowsOf W,r.length≤9000:=fun r hr=>by
 rcases List.mem_append.mp hr with hr | hr
 ·rcases List.mem_append.mp hr with hr | hr
  ·rcases List.mem_append.mp hr with hr | hr
   ·obtain⟨b,hb,rfl⟩:=List.mem_map.mp hr
    exact qIc h hb
   ·obtain⟨d,hd,hr⟩:=List.mem_flatMap.mp hr
    rcases List.mem_cons.mp hr with rfl | hr
    ·exact qFa h hd
    ·obtain⟨wy,hw,rfl⟩:=List.mem_map.mp hr
     exact Nat.le_trans (qZb (h.way hd hw)) (by decide)
  ·obtain⟨l,hl,rfl⟩:=List.mem_map.mp hr
   exact qDn h hl
 ·rcases List.mem_cons.mp hr with rfl | hr
  ·have:=yU h.beg h.ok.bsm
   rw[xF];show 6+_≤_;omega
  ·rw[List.mem_singleton.mp hr]
   have:=yU h.goal h.ok.gsm
   rw[xF];show 5+_≤_;omega
theorem qWc (h:ShW W):((rowsOf W).map (·.length)).sum+(rowsOf W).length * (Str.ofString "\n").length≤1000000:=by
 have h1:=qIe (qCh h)
 have h2:=qGl h
 rw[show(Str.ofString "\n").length=1 from rfl]
 omega
end
theorem qZl:xI ["need"] ["need"] (xA (top 31)):=⟨rfl,rfl,rfl,by decide +kernel,rfl,by decide +kernel,by decide +kernel⟩
noncomputable def spNeed:Sp:=fun vs H Q _=>∃(t:Th) (v:V),vs=[v]∧t.At H v∧Shw t∧t.dep≤6∧∀H',Same H H'→Q (.str (needS t)) H'
theorem qOg (F:Fd K mg "shown_need" (top 31) ["need"])(D_shown_thing:Dn P w K mg base "shown_thing" 9 ["thing"] (yD 8))(GL_YES:Gs K mg "YES" ["yes"]):Dn P w K mg base "shown_need" 10 ["need"] spNeed:=by
 refine F.ok qZl (fun vs H Q E h=>?_) (fun f cdv A outer s H vs Q E hr h=>?_)
 ·obtain⟨_,_,rfl,_⟩:=h
  rfl
 obtain⟨t,v,rfl,at',sw,h6,q⟩:=h
 refine⟨_,(qJ (qN (vA (qR (qDz (K:=K) hr.units) (pv 0) (qNv GL_YES) (xD _)) qF (xQ xG qF (qD D_shown_thing hr (qQ (pv 0) qX)))))),?_⟩
 have l6:=yU sw h6
 wtm_at "zw"
 intro p hp
 have head:∃a k us,v=.ref a∧H a=some (.tup (.str k::us))∧((t=.nul "yes" ∧ k = "yes" ∧ us=[])∨((decide (k = "yes") && us.isEmpty)=false∧needS t=Str.ofString " if " ++ sh t)):=by
  cases t with
  | num n=>obtain⟨a,e,ea⟩:=at';exact⟨a,_,_,e,ea,.inr ⟨by rw[List.isEmpty_cons,Bool.and_false],rfl⟩⟩
  | box n=>obtain⟨a,e,ea⟩:=at';exact⟨a,_,_,e,ea,.inr ⟨by rw[List.isEmpty_cons,Bool.and_false],rfl⟩⟩
  | nul k=>obtain⟨a,e,ea⟩:=at';cases(show k = "yes" from sw);exact⟨a,_,_,e,ea,.inl ⟨rfl,rfl,rfl⟩⟩
  | un k b=>obtain⟨a,u,e,ea,_⟩:=at';exact⟨a,_,_,e,ea,.inr ⟨by rw[List.isEmpty_cons,Bool.and_false],rfl⟩⟩
  | bin k b c=>obtain⟨a,u,u2,e,ea,_⟩:=at';exact⟨a,_,_,e,ea,.inr ⟨by rw[List.isEmpty_cons,Bool.and_false],rfl⟩⟩
 obtain⟨a,k,us,rfl,ea,hc⟩:=head
 refine⟨a,p,k,us,"yes",rfl,rfl,SqT.of ea,hp,?_⟩
 rcases hc with⟨rfl,rfl,rfl⟩ | ⟨hc,en⟩
 ·wtm_at "zw"
  refine qJe rfl ?_
  wtm_at "zw"
  exact q H (Same.refl _)
 ·wtm_at "zw"
  refine jP hc ?_
  wtm_at "zw"
  refine⟨t,_,rfl,at',sw,by omega,by omega,fun H' S=>?_⟩
  refine⟨_,_,rfl,rfl,xE (by show 4+(sh t).length≤_;omega),?_⟩
  rw[en] at q
  exact q H' S
theorem qJn:xI ["way"] ["way"] (xA (top 32)):=⟨rfl,rfl,rfl,by decide +kernel,rfl,by decide +kernel,by decide +kernel⟩
theorem kQ:CompOk (xA (top 32)) ["way"] (scAt (xB (top 32)) [0] [1,1]) ["name","expression"] 2 []:=
 ⟨by decide +kernel,by decide +kernel,by decide +kernel,by decide +kernel,by decide +kernel,by decide +kernel,by decide +kernel,by decide +kernel⟩
noncomputable def spSWay:Sp:=fun vs H Q _=>∃(wy:List (Str×Th)) (v:V),vs=[v]∧WayIn H wy v∧ShWay wy∧∀H',Same H H'→Q (.str (wayS wy)) H'
theorem qOe (F:Fd K mg "shown_way" (top 32) ["way"])(D_shown_thing:Dn P w K mg base "shown_thing" 9 ["thing"] (yD 8)):Dn P w K mg base "shown_way" 10 ["way"] spSWay:=by
 refine F.ok qJn (fun vs H Q E h=>?_) (fun f cdv A outer s H vs Q E hr h=>?_)
 ·obtain⟨_,_,rfl,_⟩:=h
  rfl
 obtain⟨wy,v,rfl,⟨a,us,rfl,ea,pu⟩,sw,q⟩:=h
 refine⟨_,(qJ (qN (xQ xG qF (zC (K:=K) PySem.F.plainAttrs_str PySem.F.slot_str_join PySem.F.type_str_join qQc qF (qQ (jW rfl kQ (qU (K:=K) (pv 0)) (fun cl fp s H=>(zH (K:=K) (n:=2) rfl (qH (qG (i:=0) kQ.nd rfl (Or.inl rfl) (.inr rfl)) (qH (qG (i:=1) kQ.nd rfl (Or.inl rfl) (.inr rfl)) qI)))) (fun cl fp s H=>zS) (fun cl fp s H=>(xQ xG (vW (.cons qF (.cons (qWh (pv 0)) (.cons qF .nil)))) (qD D_shown_thing hr (qQ (pv 1) qX))))) qX))))),?_⟩
 have lu:=pu.length
 have l6:=sw.le
 wtm_at "zw"
 refine qBn ?_
 wtm_at "zw"
 refine⟨a,rfl,⟨us,SqL.of ea⟩,?_⟩
 refine zM (xs:=us) (fun D i ys H'=>ys=strsV ((wy.take i).map chS)∧∀b o,H b=some o→H' b=some o) (fun D hD=>⟨rfl,qV hD _⟩) (fun D i ys H' _ hP=>SqL.of (hP.2 _ _ ea)) (fun D i x ys H' N hD hDy ex hP hN=>?_) (fun D ys H3 hD hDy hP=>?_)
 ·obtain⟨rfl,hk⟩:=hP
  obtain⟨c,ec⟩:∃c,wy[i]? = some c:=⟨_,List.getElem?_eq_getElem (by rw[lu];exact(List.getElem?_eq_some_iff.mp ex).1)⟩
  obtain⟨ca,cv,rfl,eca,cat⟩:=xK pu ec ex
  obtain⟨k1,k2,k3⟩:=sw.ok c (List.mem_of_getElem? ec)
  have l3:=wQ k2 k3
  have S3:Same H H':=hk
  refine⟨ca,_,rfl,SqT.of (hk _ _ eca),rfl,_,_,rfl,_,_,rfl,rfl,⟨[some (.str c.1),some cv],rfl,rfl⟩,?_⟩
  have e0:Str.empty.length=0:=rfl
  have e1:(Str.ofString " ").length=1:=rfl
  have e2:(Str.ofString " := ").length=4:=rfl
  refine⟨_,rfl,xE (by (try simp only[xF]);omega),_,rfl,_,rfl,xE (by omega),_,rfl,xE (by (try simp only[xF]);omega),_,rfl,xE (by (try simp only[xF]);omega),xE (by (try simp only[xF]);omega),?_⟩
  refine⟨_,rfl,c.2,cv,rfl,cat.mono (qC S3),k2,by omega,by omega,fun H4 S4=>?_⟩
  refine⟨_,_,rfl,rfl,xE (by (try simp only[xF]);omega),S4 _ _ hDy,small (by rw[xW,List.length_map,List.length_take];omega),hN _ _ qW ⟨?_,fun b o e=>?_⟩⟩
  ·rw[List.take_add_one,ec,List.map_append,xR,vD];rfl
  ·rw[qA (qB e hD)];exact S4 _ _ (hk _ _ e)
 obtain⟨rfl,hk⟩:=hP
 rw[← lu,List.take_length] at hDy
 wtm_at "zw"
 refine⟨_,D,_,rfl,rfl,hDy,Nat.le_trans (qZa sw) (by decide),?_⟩
 refine⟨_,_,rfl,rfl,xE ?_,q H3 hk⟩
 have h1:=qJx (Str.ofString ",") (wy.map chS)
 have h2:=qZa sw
 show 3+_≤_
 omega
theorem zQ:xI ["world","rows","name","price","need","ways","expression"] ["world"] (xA (top 30)):=⟨rfl,rfl,rfl,by decide +kernel,rfl,by decide +kernel,by decide +kernel⟩
theorem yQ:CompOk (xA (top 30)) ["world","rows","name","price","need","ways","expression"] (scAt (xB (top 30)) [0] []) ["name","size"] 2 []:=
 ⟨by decide +kernel,by decide +kernel,by decide +kernel,by decide +kernel,by decide +kernel,by decide +kernel,by decide +kernel,by decide +kernel⟩
theorem kE:CompOk (xA (top 30)) ["world","rows","name","price","need","ways","expression"] (scAt (xB (top 30)) [1,1] [1]) ["way"] 1 []:=
 ⟨by decide +kernel,by decide +kernel,by decide +kernel,by decide +kernel,by decide +kernel,by decide +kernel,by decide +kernel,by decide +kernel⟩
noncomputable def qWv:Sp:=fun vs H Q _=>∃(W:Wd) (p bx dx lx:Addr) (bv gv:V),vs=[.ref p]∧H p=some (.tup [.ref bx,.ref dx,.ref lx,bv,gv])∧WAt H W bx dx lx bv gv∧ShW W∧∀H',Same H H'→Q (.str (textW W)) H'
theorem qFq (F:Fd K mg "shown_world" (top 30) ["world"])(B:Bl mg)(D_shown_need:Dn P w K mg base "shown_need" 10 ["need"] spNeed)(D_shown_way:Dn P w K mg base "shown_way" 10 ["way"] spSWay)
  (D_shown_thing:Dn P w K mg base "shown_thing" 9 ["thing"] (yD 8)):Dn P w K mg base "shown_world" 11 ["world"] qWv:=by
 refine F.ok zQ (fun vs H Q E h=>?_) (fun f cdv A outer s H vs Q E hr h=>?_)
 ·obtain⟨_,_,_,_,_,_,_,rfl,_⟩:=h
  rfl
 obtain⟨W,p,bx,dx,lx,bv,gv,rfl,ep,at',sw,q⟩:=h
 obtain⟨bu,ebx,pb⟩:=at'.boxes
 obtain⟨du,edx,pd⟩:=at'.deeds
 obtain⟨lu,elx,pl⟩:=at'.looks
 have b6:=sw.ok.b6
 have d8:=sw.d2
 have l6:=sw.l3
 have e0:Str.empty.length=0:=rfl
 have e1:(Str.ofString " ").length=1:=rfl
 have e2:(Str.ofString "box ").length=4:=rfl
 have e3:(Str.ofString "deed ").length=5:=rfl
 have e4:(Str.ofString "look ").length=5:=rfl
 have e5:(Str.ofString "begin ").length=6:=rfl
 have e6:(Str.ofString "goal ").length=5:=rfl
 refine⟨_,(qZ (yE (i:=1) zQ.nd rfl (by wtm_at "zo") rfl yQ (qU (K:=K) (xH (qS (K:=K)) (pv 0) qE (fun _ _=>rfl))) (fun cl fp s H=>(zH (K:=K) (n:=2) rfl (qH (qG (i:=0) yQ.nd rfl (Or.inl rfl) (.inr rfl)) (qH (qG (i:=1) yQ.nd rfl (Or.inl rfl) (.inr rfl)) qI)))) (fun cl fp s H=>zS) (fun cl fp s H=>(vW (.cons qF (.cons (qWh (pv 0)) (.cons qF (.cons (qKm (pv 1)) .nil)))))))
  (qZ (zE PassesOwn.never rfl (qU (K:=K) (xH (qS (K:=K)) (pv 0) qE (fun _ _=>rfl))) (zH (K:=K) (n:=4) rfl (qH (qG (i:=2) zQ.nd rfl (by wtm_at "zo")) (qH (qG (i:=3) zQ.nd rfl (by wtm_at "zo")) (qH (qG (i:=4) zQ.nd rfl (by wtm_at "zo")) (qH (qG (i:=5) zQ.nd rfl (by wtm_at "zo")) qI))))) (qZ (qP (zC (K:=K) PySem.F.plainAttrs_list PySem.F.slot_list_append PySem.F.type_list_append xS (pv 1) (qQ (xQ xG (vW (.cons qF (.cons (qWh (pv 2)) (.cons qF (.cons (qKm (pv 3)) .nil))))) (qD D_shown_need hr (qQ (pv 4) qX))) qX)))
  (qJ (qP (zC (K:=K) PySem.F.plainAttrs_list PySem.F.slot_list_extend PySem.F.type_list_extend qQd (pv 1) (qQ (jW rfl kE (qU (K:=K) (pv 5)) (fun cl fp s H=>(qG (i:=0) kE.nd rfl (Or.inl rfl) (.inr rfl))) (fun cl fp s H=>zS) (fun cl fp s H=>(qD D_shown_way hr (qQ (pv 0) qX)))) qX))))))
  (qZ (zE PassesOwn.never rfl (qU (K:=K) (xH (qS (K:=K)) (pv 0) qE (fun _ _=>rfl))) (zH (K:=K) (n:=3) rfl (qH (qG (i:=2) zQ.nd rfl (by wtm_at "zo")) (qH (qG (i:=3) zQ.nd rfl (by wtm_at "zo")) (qH (qG (i:=6) zQ.nd rfl (by wtm_at "zo")) qI)))) (qJ (qP (zC (K:=K) PySem.F.plainAttrs_list PySem.F.slot_list_append PySem.F.type_list_append xS (pv 1) (qQ (xQ xG (vW (.cons qF (.cons (qWh (pv 2)) (.cons qF (.cons (qKm (pv 3)) (.cons qF .nil)))))) (qD D_shown_thing hr (qQ (pv 6) qX))) qX)))))
  (qZ (qP (zC (K:=K) PySem.F.plainAttrs_list PySem.F.slot_list_append PySem.F.type_list_append xS (pv 1) (qQ (xQ xG qF (qD D_shown_thing hr (qQ (xH (qS (K:=K)) (pv 0) qE (fun _ _=>rfl)) qX))) qX)))
  (qZ (qP (zC (K:=K) PySem.F.plainAttrs_list PySem.F.slot_list_append PySem.F.type_list_append xS (pv 1) (qQ (xQ xG qF (qD D_shown_thing hr (qQ (xH (qS (K:=K)) (pv 0) qE (fun _ _=>rfl)) qX))) qX)))
  (qJ (qN (zC (K:=K) PySem.F.plainAttrs_str PySem.F.slot_str_join PySem.F.type_str_join qQc qF (qQ (pv 1) qX))))))))),?_⟩
 wtm_at "zf"
 refine⟨bx,rfl,⟨bu,SqL.of ebx⟩,?_⟩
 refine zM (xs:=bu) (fun D i ys H'=>ys=strsV ((W.bs.take i).map boxS)∧∀b o,H b=some o→H' b=some o) (fun D hD=>⟨rfl,qV hD _⟩) (fun D i ys H' _ hP=>SqL.of (hP.2 _ _ ebx)) (fun D i x ys H' N hD hDy ex hP hN=>?_) (fun D ys H1 nD eD hP=>?_)
 ·obtain⟨rfl,hk⟩:=hP
  obtain⟨c,ec⟩:∃c,W.bs[i]? = some c:=⟨_,List.getElem?_eq_getElem (by rw[pb.length];exact(List.getElem?_eq_some_iff.mp ex).1)⟩
  obtain⟨ca,rfl,eca⟩:=xK pb ec ex
  have hm:=List.mem_of_getElem? ec
  have k1:=sw.bname hm
  have k2:=sw.size hm
  have k3:=k2.1
  unfold intS at k3
  refine⟨ca,_,rfl,SqT.of (hk _ _ eca),rfl,_,_,rfl,_,_,rfl,rfl,⟨[some (.str c.1),some (.int c.2)],rfl,rfl⟩,?_⟩
  refine⟨_,rfl,xE (by (try simp only[xF]);omega),_,rfl,_,rfl,xE (by omega),_,rfl,xE (by (try simp only[xF]);omega),_,rfl,xE (by (try simp only[xF]);omega),_,rfl,_,rfl,k2.2,_,rfl,xE (by (try simp only[xF]);omega),xE (by (try simp only[xF]);omega),hDy,small (by rw[xW,List.length_map,List.length_take];omega),hN _ _ qW ⟨?_,fun b o e=>?_⟩⟩
  ·rw[List.take_add_one,ec,List.map_append,xR,vD];rfl
  ·rw[qA (qB e hD)];exact hk _ _ e
 obtain⟨rfl,hk1⟩:=hP
 have S1:Same H H1:=hk1
 rw[← pb.length,List.take_length] at eD
 wtm_at "zf"
 refine⟨dx,rfl,⟨du,SqL.of (S1 _ _ edx)⟩,?_⟩
 refine zK (xs:=du) (fun i σ' H'=>∃z2 z3 z4 z5:Option V,σ'=[some (.ref p),some (.ref D),z2,z3,z4,z5,none]∧H' D=some (.lst (strsV (W.bs.map boxS++(W.ds.take i).flatMap xM)))∧Same H H') ⟨none,none,none,none,rfl,by rw[List.take_zero,List.flatMap_nil,List.append_nil];exact eD,S1⟩
  (fun i σ' H' _ hP=>?_) (fun N rt bk i x σ' H' ex hP hN=>?_) (fun σ' H2 hP=>?_)
 ·obtain⟨_,_,_,_,_,_,S⟩:=hP
  exact SqL.of (S _ _ edx)
 ·obtain⟨z2,z3,z4,z5,rfl,eD',S'⟩:=hP
  obtain⟨d,ed⟩:∃c,W.ds[i]? = some c:=⟨_,List.getElem?_eq_getElem (by rw[pd.length];exact(List.getElem?_eq_some_iff.mp ex).1)⟩
  have hm:=List.mem_of_getElem? ed
  have dok:=sw.ok.deeds d hm
  obtain⟨da,nv,wa,wu,rfl,eda0,nat0,ewa0,pw⟩:=xK pd ed ex
  have eda:=S' _ _ eda0
  have nat:=nat0.mono (qC S')
  have k1:=sw.dname hm
  have k2:=sw.dprice hm
  have k3:=k2.1
  have k4:=qQb (sw.need hm) dok.sm
  have w4:=dok.w4
  have fl:=vC (ds:=W.ds.take i) fun d hd=>(sw.ok.deeds d (List.mem_of_mem_take hd)).w4
  have fl2:(W.ds.take i).length≤8:=by rw[List.length_take];omega
  have cl:(strsV (W.bs.map boxS++(W.ds.take i).flatMap xM)).length≤50:=by rw[xW,List.length_append,List.length_map];omega
  unfold intS at k3
  wtm_at "zw"
  refine wB (SqL.of eD') ?_
  wtm_at "zw"
  refine⟨_,rfl,xE (by (try simp only[xF]);omega),_,rfl,_,rfl,xE (by omega),_,rfl,xE (by (try simp only[xF]);omega),_,rfl,xE (by (try simp only[xF]);omega),_,rfl,_,rfl,k2.2,_,rfl,xE (by (try simp only[xF]);omega),xE (by (try simp only[xF]);omega),?_⟩
  wtm_at "zw"
  refine⟨d.need,nv,rfl,nat,sw.need hm,dok.sm,fun H3 S3=>?_⟩
  refine⟨_,_,rfl,rfl,xE (by (try simp only[xF]);omega),?_⟩
  wtm_at "zw"
  refine yJ (S3 _ _ eD') (small (by omega)) ?_
  have S4:Same H (upd H3 D (.lst (strsV (W.bs.map boxS++(W.ds.take i).flatMap xM)++[V.str (Str.empty++Str.ofString "deed " ++ d.name++Str.ofString " " ++ Str.ofString (toString d.price)++needS d.need)]))):=(S'.trans S3).set nD
  have eD4:upd H3 D (.lst (strsV (W.bs.map boxS++(W.ds.take i).flatMap xM)++[V.str (Str.empty++Str.ofString "deed " ++ d.name++Str.ofString " " ++ Str.ofString (toString d.price)++needS d.need)])) D=some (.lst (strsV (W.bs.map boxS++(W.ds.take i).flatMap xM++[deedS d]))):=by
   rw[qW,jS,vD];rfl
  generalize upd H3 D (.lst (strsV (W.bs.map boxS++(W.ds.take i).flatMap xM)++[V.str (Str.empty++Str.ofString "deed " ++ d.name++Str.ofString " " ++ Str.ofString (toString d.price)++needS d.need)]))=H4 at S4 eD4 ⊢
  wtm_at "zw"
  refine wB (SqL.of eD4) ?_
  wtm_at "zw"
  refine qBn ?_
  wtm_at "zw"
  refine⟨wa,rfl,⟨wu,SqL.of (S4 _ _ ewa0)⟩,?_⟩
  refine zM (xs:=wu) (fun D2 i ys H'=>ys=strsV ((d.ways.take i).map wayS)∧∀b o,H4 b=some o→H' b=some o) (fun D hD=>⟨rfl,qV hD _⟩) (fun D2 i ys H' _ hP=>SqL.of (hP.2 _ _ (S4 _ _ ewa0))) (fun D2 j x ys H' N hD hDy ex2 hP hN=>?_) (fun D2 ys H5 nD2 eD2 hP=>?_)
  ·obtain⟨rfl,hk⟩:=hP
   obtain⟨wy,ew⟩:∃c,d.ways[j]? = some c:=⟨_,List.getElem?_eq_getElem (by rw[pw.length];exact(List.getElem?_eq_some_iff.mp ex2).1)⟩
   have Sk:Same H4 H':=hk
   have wi:=(xK pw ew ex2).same (S4.trans Sk)
   refine⟨⟨[some x],rfl,rfl⟩,?_⟩
   refine⟨_,rfl,wy,x,rfl,wi,sw.way hm (List.mem_of_getElem? ew),fun H6 S6=>?_⟩
   refine⟨S6 _ _ hDy,small (by rw[xW,List.length_map,List.length_take];omega),hN _ _ qW ⟨?_,fun b o e=>?_⟩⟩
   ·rw[List.take_add_one,ew,List.map_append,xR];rfl
   ·rw[qA (qB e hD)];exact S6 _ _ (hk _ _ e)
  obtain⟨rfl,hk⟩:=hP
  rw[← pw.length,List.take_length] at eD2
  wtm_at "zw"
  refine⟨D,D2,_,_,rfl,rfl,hk _ _ eD4,eD2,?_,?_⟩
  ·rw[xW,xW,List.length_map,List.length_append]
   rw[xW] at cl
   show _+1+_≤sizeLine
   exact xE (by omega)
  ·refine hN _ _ ⟨_,_,_,_,rfl,?_,(S4.trans (show Same H4 H5 from hk)).set nD⟩
   rw[qW,← xR,List.take_add_one,ed,List.flatMap_append,List.append_assoc,List.append_assoc]
   show some (HO.lst (strsV (W.bs.map boxS++((W.ds.take i).flatMap xM++([deedS d]++d.ways.map wayS)))))=some (HO.lst (strsV (W.bs.map boxS++((W.ds.take i).flatMap xM++(xM d++[])))))
   rw[List.append_nil];rfl
 obtain⟨z2,z3,z4,z5,rfl,eD2,S2⟩:=hP
 rw[← pd.length,List.take_length] at eD2
 have fl:=vC (ds:=W.ds) fun d hd=>(sw.ok.deeds d hd).w4
 wtm_at "zf"
 refine⟨lx,rfl,⟨lu,SqL.of (S2 _ _ elx)⟩,?_⟩
 refine zK (xs:=lu) (fun i σ' H'=>∃z2 z3 z4 z5 z6:Option V,σ'=[some (.ref p),some (.ref D),z2,z3,z4,z5,z6]∧H' D=some (.lst (strsV (W.bs.map boxS++W.ds.flatMap xM++(W.ls.take i).map lookS)))∧Same H H') ⟨z2,z3,z4,z5,none,rfl,by rw[List.take_zero,List.map_nil,List.append_nil];exact eD2,S2⟩
  (fun i σ' H' _ hP=>?_) (fun N rt bk i x σ' H' ex hP hN=>?_) (fun σ' H3 hP=>?_)
 ·obtain⟨_,_,_,_,_,_,_,S⟩:=hP
  exact SqL.of (S _ _ elx)
 ·obtain⟨z2,z3,z4,z5,z6,rfl,eD',S'⟩:=hP
  obtain⟨d,ed⟩:∃c,W.ls[i]? = some c:=⟨_,List.getElem?_eq_getElem (by rw[pl.length];exact(List.getElem?_eq_some_iff.mp ex).1)⟩
  have hm:=List.mem_of_getElem? ed
  have dok:=sw.ok.looks d hm
  obtain⟨da,nv,rfl,eda0,nat0⟩:=xK pl ed ex
  have eda:=S' _ _ eda0
  have nat:=nat0.mono (qC S')
  have k1:=sw.lname hm
  have k2:=sw.lprice hm
  have k3:=k2.1
  have k4:=wQ (sw.part hm) dok.sm
  have k5:=dok.sm
  have cl:(strsV (W.bs.map boxS++W.ds.flatMap xM++(W.ls.take i).map lookS)).length≤60:=by rw[xW,List.length_append,List.length_append,List.length_map,List.length_map,List.length_take];omega
  unfold intS at k3
  wtm_at "zw"
  refine wB (SqL.of eD') ?_
  wtm_at "zw"
  refine⟨_,rfl,xE (by (try simp only[xF]);omega),_,rfl,_,rfl,xE (by omega),_,rfl,xE (by (try simp only[xF]);omega),_,rfl,xE (by (try simp only[xF]);omega),_,rfl,_,rfl,k2.2,_,rfl,xE (by (try simp only[xF]);omega),_,rfl,xE (by (try simp only[xF]);omega),xE (by (try simp only[xF]);omega),?_⟩
  wtm_at "zw"
  refine⟨d.part,nv,rfl,nat,sw.part hm,by omega,by omega,fun H4 S4=>?_⟩
  refine⟨_,_,rfl,rfl,xE (by (try simp only[xF]);omega),?_⟩
  wtm_at "zw"
  refine yJ (S4 _ _ eD') (small (by omega)) ?_
  refine hN _ _ ⟨_,_,_,_,_,rfl,?_,(S'.trans S4).set nD⟩
  rw[qW,jS,vD,List.take_add_one,ed,List.map_append,← List.append_assoc]
  rfl
 obtain⟨z2,z3,z4,z5,z6,rfl,eD3,S3⟩:=hP
 rw[← pl.length,List.take_length] at eD3
 have cl:(strsV (W.bs.map boxS++W.ds.flatMap xM++W.ls.map lookS)).length≤60:=by rw[xW,List.length_append,List.length_append,List.length_map,List.length_map];omega
 have ep3:=S3 _ _ ep
 have l7:=yU sw.beg sw.ok.bsm
 have l8:=yU sw.goal sw.ok.gsm
 have bs6:=sw.ok.bsm
 have gs6:=sw.ok.gsm
 wtm_at "zw"
 refine wB (SqL.of eD3) ?_
 wtm_at "zw"
 refine⟨W.bt,bv,rfl,at'.beg.mono (qC S3),sw.beg,by omega,by omega,fun H4 S4=>?_⟩
 refine⟨_,_,rfl,rfl,xE (by omega),?_⟩
 wtm_at "zw"
 refine yJ (S4 _ _ eD3) (small (by omega)) ?_
 have S5:Same H (upd H4 D (.lst (strsV (W.bs.map boxS++W.ds.flatMap xM++W.ls.map lookS)++[V.str (Str.ofString "begin " ++ sh W.bt)]))):=(S3.trans S4).set nD
 have eD5:upd H4 D (.lst (strsV (W.bs.map boxS++W.ds.flatMap xM++W.ls.map lookS)++[V.str (Str.ofString "begin " ++ sh W.bt)])) D=some (.lst (strsV (W.bs.map boxS++W.ds.flatMap xM++W.ls.map lookS++[Str.ofString "begin " ++ sh W.bt]))):=by rw[qW,jS]
 generalize upd H4 D (.lst (strsV (W.bs.map boxS++W.ds.flatMap xM++W.ls.map lookS)++[V.str (Str.ofString "begin " ++ sh W.bt)]))=H5 at S5 eD5 ⊢
 have ep5:=S5 _ _ ep
 wtm_at "zw"
 refine wB (SqL.of eD5) ?_
 wtm_at "zw"
 refine⟨W.gt,gv,rfl,at'.goal.mono (qC S5),sw.goal,by omega,by omega,fun H6 S6=>?_⟩
 refine⟨_,_,rfl,rfl,xE (by omega),?_⟩
 wtm_at "zw"
 refine yJ (S6 _ _ eD5) (small (by rw[xW,List.length_append,← xW];show _+1≤_;omega)) ?_
 have S7:Same H (upd H6 D (.lst (strsV (W.bs.map boxS++W.ds.flatMap xM++W.ls.map lookS++[Str.ofString "begin " ++ sh W.bt])++[V.str (Str.ofString "goal " ++ sh W.gt)]))):=(S5.trans S6).set nD
 have eD7:upd H6 D (.lst (strsV (W.bs.map boxS++W.ds.flatMap xM++W.ls.map lookS++[Str.ofString "begin " ++ sh W.bt])++[V.str (Str.ofString "goal " ++ sh W.gt)])) D=some (.lst (strsV (rowsOf W))):=by
  unfold rowsOf
  rw[qW,jS,List.append_assoc]
  rfl
 generalize upd H6 D (.lst (strsV (W.bs.map boxS++W.ds.flatMap xM++W.ls.map lookS++[Str.ofString "begin " ++ sh W.bt])++[V.str (Str.ofString "goal " ++ sh W.gt)]))=H7 at S7 eD7 ⊢
 wtm_at "zw"
 exact⟨_,D,_,rfl,rfl,eD7,qWc sw,q H7 S7⟩

theorem qJq (a:Str):Str.join ⟨#[32]⟩ [a]=a:=jM (by rfl)
theorem j3 (a b c:Str):Txt.join (Str.ofString " ") [a,b,c]=a++(Str.ofString " " ++ (b++(Str.ofString " " ++ c))):=by
 rw[qVh,tjoin]
 refine jM ?_
 rw[jB,jB,qJq]
 simp only[zV]
 rfl
theorem j2 (a b:Str):Txt.join (Str.ofString " ") [a,b]=a++(Str.ofString " " ++ b):=by
 rw[qVh,tjoin]
 refine jM ?_
 rw[jB,qJq]
 simp only[zV]
 rfl
theorem j5 (a b c d e:Str):Txt.join (Str.ofString " ") [a,b,c,d,e]=a++(Str.ofString " " ++ (b++(Str.ofString " " ++ (c++(Str.ofString " " ++ (d++(Str.ofString " " ++ e))))))):=by
 rw[qVh,tjoin]
 refine jM ?_
 rw[jB,jB,jB,jB,qJq]
 simp only[zV]
 rfl
noncomputable def markOf (k:Str):Str:=if k = "plus" then Str.ofString " + " else if k = "less" then Str.ofString " - " else if k = "same" then Str.ofString " = " else if k = "under" then Str.ofString " < " else Str.ofString " and "
theorem qRx (a:Th):sh (.un "not" a)=Str.ofString "not " ++ sh a:=by
 show Txt.join (Str.ofString " ") (fillW (formOf "not") [sh a])=_
 rw[qSc,j2,← zU]
 rfl
theorem qGd {k:Str}(h:k = "same" ∨ k = "under")(a b:Th):sh (.bin k a b)=sh a++markOf k++sh b:=by
 show Txt.join (Str.ofString " ") (fillW (formOf k) [sh a,sh b])=_
 rcases h with rfl | rfl
 ·rw[qMq,j3,zU,← zU (Str.ofString " ") _ _,← zU (_++_) _ _];rfl
 ·rw[qEn,j3,zU,← zU (Str.ofString " ") _ _,← zU (_++_) _ _];rfl
theorem brack (x y m:Str):Str.ofString "(" ++ (Str.ofString " " ++ (x++(Str.ofString " " ++ (m++(Str.ofString " " ++ (y++(Str.ofString " " ++ Str.ofString ")")))))))=Str.ofString "( " ++ (x++(Str.ofString " " ++ m++Str.ofString " ")++y)++Str.ofString " )" := by
 refine jM ?_
 simp only[zV,List.append_assoc]
 rfl
theorem qGe {k:Str}(h:k = "plus" ∨ k = "less" ∨ k = "both")(a b:Th):sh (.bin k a b)=Str.ofString "( " ++ (sh a++markOf k++sh b)++Str.ofString " )" := by
 show Txt.join (Str.ofString " ") (fillW (formOf k) [sh a,sh b])=_
 rcases h with rfl | rfl | rfl
 ·rw[qMx,j5,brack];rfl
 ·rw[qMz,j5,brack];rfl
 ·rw[qMj,j5,brack];rfl
theorem kJ:xI ["thing","mark","found"] ["thing"] (xA (top 51)):=⟨rfl,rfl,rfl,by decide +kernel,rfl,by decide +kernel,by decide +kernel⟩
theorem qEh (s x y:Str):inV (.str s) [V.str x,V.str y]=(decide (s=x) || decide (s=y)):=by
 have e:inV (.str s) [V.str x,V.str y]=inV (.str s) (strsV [x,y]):=rfl
 rw[e,wH,← Bool.decide_or]
 exact decide_eq_decide.mpr ⟨fun h=>by
  rcases List.mem_cons.mp h with h | h
  ·exact .inl h
  ·exact .inr (List.mem_singleton.mp h),fun h=>by
  rcases h with h | h
  ·rw[h];exact List.mem_cons_self
  ·rw[h];exact List.mem_cons_of_mem _ List.mem_cons_self⟩
theorem qOk {k:Str}(h:Bin5 k):valV (mergeK [] [((.inr "plus" : Key),V.str " + "),(.inr "less",V.str " - "),(.inr "same",V.str " = "),(.inr "under",V.str " < "),(.inr "both",V.str " and ")]) (.inr k)=some (.str (markOf k)):=by
 rcases h with rfl | rfl | rfl | rfl | rfl <;> rfl
theorem qOh {n:Nat}(F:Fd K mg "_law_shown" (top 51) ["thing"])(B:Bl mg)(B_str:mg "str" = none)(D_law_shown:Dn P w K mg base "_law_shown" (n+1) ["thing"] (yD n)):Dn P w K mg base "_law_shown" (n+2) ["thing"] (yD (n+1)):=by
 refine F.ok kJ (fun vs H Q E h=>?_) (fun f cdv A outer s H vs Q E hr h=>?_)
 ·obtain⟨_,_,rfl,_⟩:=h
  rfl
 obtain⟨t,v,rfl,at',sw,hn,h8,q⟩:=h
 have hu:=qOb hr
 refine⟨_,(qZ (zB (qR (qWi (K:=K)) (xH (qS (K:=K)) (pv 0) qE (fun _ _=>rfl)) (zJ (qQ qF (qQ qF qX))) (by with_unfolding_all rfl)) (qJ (qN (xX kI rfl B_str qKx (qQ (xH (qS (K:=K)) (pv 0) qE (fun _ _=>rfl)) qX)))) qY)
  (qZ (zB (qR jQ (xH (qS (K:=K)) (pv 0) qE (fun _ _=>rfl)) qF (xD _)) (qJ (qN qF)) qY)
  (qZ (zB (qR jQ (xH (qS (K:=K)) (pv 0) qE (fun _ _=>rfl)) qF (xD _)) (qJ (qN (xQ xG qF (qD D_law_shown hr (qQ (xH (qS (K:=K)) (pv 0) qE (fun _ _=>rfl)) qX))))) qY)
  (qZ (qM (i:=1) kJ.nd rfl (by wtm_at "zo") (qKo hu (qNa (vV qF qF (vV qF qF (vV qF qF (vV qF qF (vV qF qF qNk))))) rfl rfl (List.cons_ne_nil _ _) (by decide)) (xH (qS (K:=K)) (pv 0) qE (fun _ _=>rfl)) (fun _ _=>rfl)))
  (qZ (qM (i:=2) kJ.nd rfl (by wtm_at "zo") (xQ xG (xQ xG (qD D_law_shown hr (qQ (xH (qS (K:=K)) (pv 0) qE (fun _ _=>rfl)) qX)) (pv 1)) (qD D_law_shown hr (qQ (xH (qS (K:=K)) (pv 0) qE (fun _ _=>rfl)) qX))))
  (qZ (zB (qR (qWi (K:=K)) (xH (qS (K:=K)) (pv 0) qE (fun _ _=>rfl)) (zJ (qQ qF (qQ qF qX))) (by with_unfolding_all rfl)) (qJ (qN (pv 2))) qY)
  (qJ (qN (xQ xG (xQ xG qF (pv 2)) qF))))))))),?_⟩
 have head:∀{b:Bool} {H1:Hp} {C D:Prop},True:=trivial
 cases t with
 | num i=>
  obtain⟨a,rfl,ea⟩:=at'
  wtm_at "zw"
  refine⟨xE (show 2≤1000000 by decide),fun tp htp=>?_⟩
  have S1:=qV htp (.tup [V.str "number",V.str "box"])
  have ea1:=S1 _ _ ea
  refine⟨tp,_,rfl,.inr (SqT.of qW),rfl,rfl,?_⟩
  generalize upd H tp (.tup [V.str "number",V.str "box"])=H1 at S1 ea1 ⊢
  refine⟨true,rfl,iteT ?_⟩
  wtm_at "zw"
  refine⟨_,rfl,.inl ⟨i,rfl,qIl (Nat.lt_of_lt_of_le (show i.natAbs<200 by have:=sw.1;have:=sw.2;omega) (by decide +kernel))⟩,?_⟩
  have e:txV (.int i)=numS i:=qHb i
  rw[e]
  exact q _ S1
 | box x=>
  obtain⟨a,rfl,ea⟩:=at'
  wtm_at "zw"
  refine⟨xE (show 2≤1000000 by decide),fun tp htp=>?_⟩
  have S1:=qV htp (.tup [V.str "number",V.str "box"])
  have ea1:=S1 _ _ ea
  refine⟨tp,_,rfl,.inr (SqT.of qW),rfl,rfl,?_⟩
  generalize upd H tp (.tup [V.str "number",V.str "box"])=H1 at S1 ea1 ⊢
  refine⟨true,rfl,iteT ?_⟩
  wtm_at "zw"
  exact⟨_,rfl,.inr ⟨x,rfl⟩,q _ S1⟩
 | nul k=>
  obtain⟨a,rfl,ea⟩:=at'
  cases(show k = "yes" from sw)
  wtm_at "zw"
  refine⟨xE (show 2≤1000000 by decide),fun tp htp=>?_⟩
  have S1:=qV htp (.tup [V.str "number",V.str "box"])
  have ea1:=S1 _ _ ea
  refine⟨tp,_,rfl,.inr (SqT.of qW),rfl,rfl,?_⟩
  generalize upd H tp (.tup [V.str "number",V.str "box"])=H1 at S1 ea1 ⊢
  refine⟨false,rfl,iteF ?_⟩
  wtm_at "zw"
  exact q _ S1
 | un k t1=>
  obtain⟨a,u,rfl,ea,a1⟩:=at'
  obtain⟨rfl,s1⟩:=sw
  have hn:t1.dep+1≤n+1:=hn
  have h8:t1.dep+1≤8:=h8
  have l8:=vU s1 (by omega)
  wtm_at "zw"
  refine⟨xE (show 2≤1000000 by decide),fun tp htp=>?_⟩
  have S1:=qV htp (.tup [V.str "number",V.str "box"])
  have ea1:=S1 _ _ ea
  refine⟨tp,_,rfl,.inr (SqT.of qW),rfl,rfl,?_⟩
  generalize upd H tp (.tup [V.str "number",V.str "box"])=H1 at S1 ea1 ⊢
  refine⟨false,rfl,iteF ?_⟩
  wtm_at "zw"
  refine⟨t1,u,rfl,a1.mono (qC S1),s1,by omega,by omega,fun H2 S2=>?_⟩
  refine⟨_,_,rfl,rfl,xE (by show 4+_≤_;omega),?_⟩
  rw[qRx] at q
  exact q _ (S1.trans S2)
 | bin k t1 t2=>
  obtain⟨a,u1,u2,rfl,ea,a1,a2⟩:=at'
  obtain⟨hk,s1,s2⟩:=sw
  have hn:max t1.dep t2.dep+1≤n+1:=hn
  have h8:max t1.dep t2.dep+1≤8:=h8
  have l1:=vU s1 (by omega)
  have l2:=vU s2 (by omega)
  have lm:(markOf k).length≤5:=by rcases hk with rfl | rfl | rfl | rfl | rfl <;> decide +kernel
  have n1:k ≠ "number" := (qAb hk).1
  have n2:k ≠ "box" := (qAb hk).2
  have n3:k ≠ "yes" := by rcases hk with rfl | rfl | rfl | rfl | rfl <;> decide +kernel
  have n4:k ≠ "not" := by rcases hk with rfl | rfl | rfl | rfl | rfl <;> decide +kernel
  wtm_at "zw"
  refine⟨xE (show 2≤1000000 by decide),fun tp htp=>?_⟩
  have S1:=qV htp (.tup [V.str "number",V.str "box"])
  have ea1:=S1 _ _ ea
  refine⟨tp,_,rfl,.inr (SqT.of qW),rfl,rfl,?_⟩
  generalize upd H tp (.tup [V.str "number",V.str "box"])=H1 at S1 ea1 ⊢
  show∃b,V.bl (inV (.str k) [V.str "number",V.str "box"])=.bl b∧_
  rw[qEh,decide_eq_false n1,decide_eq_false n2]
  refine⟨false,rfl,iteF ?_⟩
  wtm_at "zw"
  intro p hp
  refine⟨qW,[(.inr "plus",.str " + "),(.inr "less",.str " - "),(.inr "same",.str " = "),(.inr "under",.str " < "),(.inr "both",.str " and ")],rfl,by decide,?_⟩
  rw[qKa]
  have S2:=S1.trans (qV hp (.dK (mergeK [] [((.inr "plus" : Key),V.str " + "),(.inr "less",V.str " - "),(.inr "same",V.str " = "),(.inr "under",V.str " < "),(.inr "both",V.str " and ")])))
  have ep:upd H1 p (.dK (mergeK [] [((.inr "plus" : Key),V.str " + "),(.inr "less",V.str " - "),(.inr "same",V.str " = "),(.inr "under",V.str " < "),(.inr "both",V.str " and ")])) p=_:=qW
  generalize upd H1 p (.dK (mergeK [] [((.inr "plus" : Key),V.str " + "),(.inr "less",V.str " - "),(.inr "same",V.str " = "),(.inr "under",V.str " < "),(.inr "both",V.str " and ")]))=H2 at S2 ep ⊢
  have ea2:=S2 _ _ ea
  wtm_at "zw"
  refine⟨p,.str (markOf k),rfl,(by rw[← qOk hk];exact DGet.k (k:=Sum.inr k) ep),?_⟩
  wtm_at "zw"
  refine⟨t1,u1,rfl,a1.mono (qC S2),s1,by omega,by omega,fun H3 S3=>?_⟩
  have S3':=S2.trans S3
  have ea3:=S3' _ _ ea
  wtm_at "zw"
  refine⟨_,_,rfl,rfl,xE (by omega),?_⟩
  wtm_at "zw"
  refine⟨t2,u2,rfl,a2.mono (qC S3'),s2,by omega,by omega,fun H4 S4=>?_⟩
  have S4':=S3'.trans S4
  have ea4:=S4' _ _ ea
  refine⟨_,_,rfl,rfl,xE (by rw[xF];omega),?_⟩
  wtm_at "zw"
  refine⟨xE (show 2≤1000000 by decide),fun tq htq=>?_⟩
  have S5:=S4'.trans (qV htq (.tup [V.str "same",V.str "under"]))
  refine⟨tq,_,rfl,.inr (SqT.of qW),rfl,rfl,?_⟩
  generalize upd H4 tq (.tup [V.str "same",V.str "under"])=H5 at S5 ⊢
  show∃b,V.bl (inV (.str k) [V.str "same",V.str "under"])=.bl b∧_
  rw[qEh]
  refine⟨_,rfl,?_⟩
  by_cases c:k = "same" ∨ k = "under"
  ·refine qJe ?_ ?_
   ·rw[← Bool.decide_or];exact decide_eq_true c
   rw[qGd c] at q
   wtm_at "zw"
   exact q _ S5
  ·refine jP ?_ ?_
   ·rw[← Bool.decide_or];exact decide_eq_false c
   have c':k = "plus" ∨ k = "less" ∨ k = "both" := by
    rcases hk with h | h | h | h | h
    ·exact .inl h
    ·exact .inr (.inl h)
    ·exact absurd (.inl h) c
    ·exact absurd (.inr h) c
    ·exact .inr (.inr h)
   rw[qGe c'] at q
   wtm_at "zw"
   refine⟨_,_,rfl,rfl,xE (by rw[xF,xF];show 2+_≤_;omega),?_⟩
   wtm_at "zw"
   exact⟨_,_,rfl,rfl,xE (by rw[xF,xF,xF];show 2+_+2≤_;omega),q _ S5⟩
theorem qMa (F:Fd K mg "_law_shown" (top 51) ["thing"])(B:Bl mg)(B_str:mg "str" = none):∀n:Nat,Dn P w K mg base "_law_shown" (n+1) ["thing"] (yD n)
 | 0=>F.never fun vs H Q E h=>by
  obtain⟨t,_,_,_,_,h1,_⟩:=h
  have:=t.dep_pos
  omega
 | n+1=>qOh F B B_str (qMa F B B_str n)

theorem xP:xI ["world","rows","name","price","need","ways","head","way","row","k","part"] ["world"] (xA (top 52)):=⟨rfl,rfl,rfl,by decide +kernel,rfl,by decide +kernel,by decide +kernel⟩
theorem kG:CompOk (xA (top 52)) ["world","rows","name","price","need","ways","head","way","row","k","part"] (scAt (xB (top 52)) [0] []) ["name","size"] 2 []:=
 ⟨by decide +kernel,by decide +kernel,by decide +kernel,by decide +kernel,by decide +kernel,by decide +kernel,by decide +kernel,by decide +kernel⟩
noncomputable def spRows:Sp:=fun vs H Q _=>∃(W:Wd) (p bx dx lx:Addr) (bv gv:V),vs=[.ref p]∧H p=some (.tup [.ref bx,.ref dx,.ref lx,bv,gv])∧WAt H W bx dx lx bv gv∧ShW W∧∀(r:Addr) (H':Hp),Same H H'→H' r=some (.lst (strsV (rowsOf W)))→Q (.ref r) H'
theorem mul0:Txt.mul (Str.ofString ",") 0=Str.ofString "" := by decide +kernel
theorem mul1:Txt.mul (Str.ofString ",") 1=Str.ofString "," := by decide +kernel
theorem qJa (x:Str):x++Str.ofString "" = x:=jM (by rw[zV];exact List.append_nil _)
theorem qBm (c:Str×Th):Str.ofString "way" ++ Txt.join (Str.ofString ",") ([]:List Str)++Str.ofString "" ++ Str.ofString " " ++ c.1++Str.ofString " := " ++ sh c.2=Str.ofString "way" ++ Txt.join (Str.ofString ",") [chS c]:=by
 have e1:Txt.join (Str.ofString ",") ([]:List Str)=Str.ofString "" := by decide +kernel
 have e2:Txt.join (Str.ofString ",") [chS c]=chS c:=by rw[tjoin];exact jM (by rfl)
 rw[e1,e2,qJa,qJa]
 unfold chS
 simp only[zU]
theorem qGj {l:List Str}(h:l≠[])(c:Str×Th):Str.ofString "way" ++ Txt.join (Str.ofString ",") l++Str.ofString "," ++ Str.ofString " " ++ c.1++Str.ofString " := " ++ sh c.2=Str.ofString "way" ++ Txt.join (Str.ofString ",") (l++[chS c]):=by
 rw[qEa _ _ h]
 unfold chS
 simp only[zU]
theorem ShWay.take {wy:List (Str×Th)}(h:ShWay wy)(i:Nat):ShWay (wy.take i):=⟨Nat.le_trans (List.length_take_le' _ _) h.le,fun c hc=>h.ok c (List.mem_of_mem_take hc)⟩
theorem qOf (F:Fd K mg "_law_rows" (top 52) ["world"])(B:Bl mg)(B_str:mg "str" = none)(D_law_shown:Dn P w K mg base "_law_shown" 9 ["thing"] (yD 8)):Dn P w K mg base "_law_rows" 10 ["world"] spRows:=by
 refine F.ok xP (fun vs H Q E h=>?_) (fun f cdv A outer s H vs Q E hr h=>?_)
 ·obtain⟨_,_,_,_,_,_,_,rfl,_⟩:=h
  rfl
 obtain⟨W,p,bx,dx,lx,bv,gv,rfl,ep,at',sw,q⟩:=h
 obtain⟨bu,ebx,pb⟩:=at'.boxes
 obtain⟨du,edx,pd⟩:=at'.deeds
 obtain⟨lu,elx,pl⟩:=at'.looks
 have b6:=sw.ok.b6
 have d8:=sw.d2
 have l6:=sw.l3
 have e1:(Str.ofString " ").length=1:=rfl
 have e2:(Str.ofString "box ").length=4:=rfl
 have e3:(Str.ofString "deed ").length=5:=rfl
 have e4:(Str.ofString "look ").length=5:=rfl
 have e5:(Str.ofString "begin ").length=6:=rfl
 have e6:(Str.ofString "goal ").length=5:=rfl
 have e7:(Str.ofString " if ").length=4:=rfl
 have e8:(Str.ofString " := ").length=4:=rfl
 refine⟨_,(qZ (yE (i:=1) xP.nd rfl (by wtm_at "zo") rfl kG (qU (K:=K) (xH (qS (K:=K)) (pv 0) qE (fun _ _=>rfl))) (fun cl fp s H=>(zH (K:=K) (n:=2) rfl (qH (qG (i:=0) kG.nd rfl (Or.inl rfl) (.inr rfl)) (qH (qG (i:=1) kG.nd rfl (Or.inl rfl) (.inr rfl)) qI)))) (fun cl fp s H=>zS) (fun cl fp s H=>(xQ xG (xQ xG (xQ xG qF (pv 0)) qF) (xX kI rfl B_str qKx (qQ (pv 1) qX)))))
  (qZ (zE PassesOwn.never rfl (qU (K:=K) (xH (qS (K:=K)) (pv 0) qE (fun _ _=>rfl))) (zH (K:=K) (n:=4) rfl (qH (qG (i:=2) xP.nd rfl (by wtm_at "zo")) (qH (qG (i:=3) xP.nd rfl (by wtm_at "zo")) (qH (qG (i:=4) xP.nd rfl (by wtm_at "zo")) (qH (qG (i:=5) xP.nd rfl (by wtm_at "zo")) qI))))) (qZ (qM (i:=6) xP.nd rfl (by wtm_at "zo") (xQ xG (xQ xG (xQ xG qF (pv 2)) qF) (xX kI rfl B_str qKx (qQ (pv 3) qX))))
  (qK (zB (qR (qNd (K:=K) hr.units) (pv 4) (zJ (qQ qF qX)) (xD _)) (qJ (qM (i:=6) xP.nd rfl (by wtm_at "zo") (xQ xG (xQ xG (pv 6) qF) (qD D_law_shown hr (qQ (pv 4) qX))))) qY)
  (qZ (qP (zC (K:=K) PySem.F.plainAttrs_list PySem.F.slot_list_append PySem.F.type_list_append xS (pv 1) (qQ (pv 6) qX)))
  (qJ (zE PassesOwn.never rfl (qU (K:=K) (pv 5)) (qG (i:=7) xP.nd rfl (by wtm_at "zo")) (qZ (qM (i:=8) xP.nd rfl (by wtm_at "zo") qF)
  (qZ (zE PassesOwn.never rfl (zT rfl B.range' (qQ (xZ (jI (K:=K)) rfl B.len' kS (qQ (pv 7) qX)) qX)) (qG (i:=9) xP.nd rfl (by wtm_at "zo")) (qZ (qO (xH (qT (K:=K)) (pv 7) (pv 9) (fun _ _=>rfl)) (zH (K:=K) (n:=2) rfl (qH (qG (i:=2) xP.nd rfl (by wtm_at "zo")) (qH (qG (i:=10) xP.nd rfl (by wtm_at "zo")) qI))))
  (qJ (qM (i:=8) xP.nd rfl (by wtm_at "zo") (xQ xG (xQ xG (xQ xG (xQ xG (xQ xG (pv 8) (xQ qVz qF (xX qXq rfl B.int' qAa (qQ (kA qHx (pv 9) qE (xD _)) qX)))) qF) (pv 2)) qF) (qD D_law_shown hr (qQ (pv 10) qX)))))))
  (qJ (qP (zC (K:=K) PySem.F.plainAttrs_list PySem.F.slot_list_append PySem.F.type_list_append xS (pv 1) (qQ (pv 8) qX))))))))))))
  (qZ (zE PassesOwn.never rfl (qU (K:=K) (xH (qS (K:=K)) (pv 0) qE (fun _ _=>rfl))) (zH (K:=K) (n:=3) rfl (qH (qG (i:=2) xP.nd rfl (by wtm_at "zo")) (qH (qG (i:=3) xP.nd rfl (by wtm_at "zo")) (qH (qG (i:=10) xP.nd rfl (by wtm_at "zo")) qI)))) (qJ (qP (zC (K:=K) PySem.F.plainAttrs_list PySem.F.slot_list_append PySem.F.type_list_append xS (pv 1) (qQ (xQ xG (xQ xG (xQ xG (xQ xG (xQ xG qF (pv 2)) qF) (xX kI rfl B_str qKx (qQ (pv 3) qX))) qF) (qD D_law_shown hr (qQ (pv 10) qX))) qX)))))
  (qJ (qN (xQ qQv (pv 1) (zX (qQ (xQ xG qF (qD D_law_shown hr (qQ (xH (qS (K:=K)) (pv 0) qE (fun _ _=>rfl)) qX))) (qQ (xQ xG qF (qD D_law_shown hr (qQ (xH (qS (K:=K)) (pv 0) qE (fun _ _=>rfl)) qX))) qX))))))))),?_⟩
 wtm_at "zf"
 refine⟨bx,rfl,⟨bu,SqL.of ebx⟩,?_⟩
 refine zM (xs:=bu) (fun D i ys H'=>ys=strsV ((W.bs.take i).map boxS)∧∀b o,H b=some o→H' b=some o) (fun D hD=>⟨rfl,qV hD _⟩) (fun D i ys H' _ hP=>SqL.of (hP.2 _ _ ebx)) (fun D i x ys H' N hD hDy ex hP hN=>?_) (fun D ys H1 nD eD hP=>?_)
 ·obtain⟨rfl,hk⟩:=hP
  obtain⟨c,ec⟩:∃c,W.bs[i]? = some c:=⟨_,List.getElem?_eq_getElem (by rw[pb.length];exact(List.getElem?_eq_some_iff.mp ex).1)⟩
  obtain⟨ca,rfl,eca⟩:=xK pb ec ex
  have hm:=List.mem_of_getElem? ec
  have k1:=sw.bname hm
  have k2:=sw.size hm
  have k3:=k2.1
  unfold intS at k3
  refine⟨ca,_,rfl,SqT.of (hk _ _ eca),rfl,_,_,rfl,_,_,rfl,rfl,⟨[some (.str c.1),some (.int c.2)],rfl,rfl⟩,?_⟩
  wtm_at "zw"
  refine⟨_,_,rfl,rfl,xE (by omega),?_⟩
  wtm_at "zw"
  refine⟨_,_,rfl,rfl,xE (by (try simp only[xF]);omega),?_⟩
  wtm_at "zw"
  refine⟨_,rfl,.inl ⟨c.2,rfl,k2.2⟩,?_⟩
  refine⟨_,_,rfl,rfl,xE (by (try simp only[xF]);show _+(Str.ofString (toString c.2)).length≤_;omega),hDy,small (by rw[xW,List.length_map,List.length_take];omega),hN _ _ qW ⟨?_,fun b o e=>?_⟩⟩
  ·rw[List.take_add_one,ec,List.map_append,xR];rfl
  ·rw[qA (qB e hD)];exact hk _ _ e
 obtain⟨rfl,hk1⟩:=hP
 have S1:Same H H1:=hk1
 rw[← pb.length,List.take_length] at eD
 wtm_at "zf"
 refine⟨dx,rfl,⟨du,SqL.of (S1 _ _ edx)⟩,?_⟩
 refine zK (xs:=du) (fun i σ' H'=>∃z:List (Option V),z.length=9∧σ'=[some (.ref p),some (.ref D)]++z∧H' D=some (.lst (strsV (W.bs.map boxS++(W.ds.take i).flatMap xM)))∧Same H H') ⟨[none,none,none,none,none,none,none,none,none],rfl,rfl,by rw[List.take_zero,List.flatMap_nil,List.append_nil];exact eD,S1⟩
  (fun i σ' H' _ hP=>?_) (fun N rt bk i x σ' H' ex hP hN=>?_) (fun σ' H2 hP=>?_)
 ·obtain⟨_,_,_,_,S⟩:=hP
  exact SqL.of (S _ _ edx)
 ·obtain⟨z,hz,rfl,eD',S'⟩:=hP
  match z,hz with
  | [z2,z3,z4,z5,z6,z7,z8,z9,z10],_=>
  obtain⟨d,ed⟩:∃c,W.ds[i]? = some c:=⟨_,List.getElem?_eq_getElem (by rw[pd.length];exact(List.getElem?_eq_some_iff.mp ex).1)⟩
  have hm:=List.mem_of_getElem? ed
  have dok:=sw.ok.deeds d hm
  obtain⟨da,nv,wa,wu,rfl,eda0,nat0,ewa0,pw⟩:=xK pd ed ex
  have eda:=S' _ _ eda0
  have nat:=nat0.mono (qC S')
  have k1:=sw.dname hm
  have k2:=sw.dprice hm
  have k3:=k2.1
  have k4:=qQb (sw.need hm) dok.sm
  have k5:=yU (sw.need hm) dok.sm
  have k6:=dok.sm
  have w4:=dok.w4
  have fl:=vC (ds:=W.ds.take i) fun d hd=>(sw.ok.deeds d (List.mem_of_mem_take hd)).w4
  have fl2:(W.ds.take i).length≤8:=by rw[List.length_take];omega
  have cl:(strsV (W.bs.map boxS++(W.ds.take i).flatMap xM)).length≤50:=by rw[xW,List.length_append,List.length_map];omega
  unfold intS at k3
  wtm_at "zw"
  refine⟨_,_,rfl,rfl,xE (by omega),?_⟩
  wtm_at "zw"
  refine⟨_,_,rfl,rfl,xE (by (try simp only[xF]);omega),?_⟩
  wtm_at "zw"
  refine⟨_,rfl,.inl ⟨d.price,rfl,k2.2⟩,?_⟩
  refine⟨_,_,rfl,rfl,xE (by (try simp only[xF]);show _+(Str.ofString (toString d.price)).length≤_;omega),?_⟩
  wtm_at "zw"
  refine⟨fun σ' H2=>σ'=[some (.ref p),some (.ref D),some (.str d.name),some (.int d.price),some nv,some (.ref wa),some (.str (deedS d)),z7,z8,z9,z10]∧Same H' H2,?_,?_⟩
  ·wtm_at "zw"
   refine⟨xE (show 1≤1000000 by decide),fun tp htp=>?_⟩
   have S2:=qV htp (.tup [V.str "yes"])
   have etp:upd H' tp (.tup [V.str "yes"]) tp=some (.tup [V.str "yes"]):=qW
   generalize upd H' tp (.tup [V.str "yes"])=H2 at S2 etp ⊢
   have nsw:=sw.need hm
   have head:∃a k us,nv=.ref a∧H' a=some (.tup (.str k::us))∧((d.need=.nul "yes" ∧ k = "yes" ∧ us=[])∨((decide (k = "yes") && us.isEmpty)=false∧needS d.need=Str.ofString " if " ++ sh d.need)):=by
    revert nat nsw
    generalize d.need=t
    intro at' nsw
    cases t with
    | num n=>obtain⟨a,e,ea⟩:=at';exact⟨a,_,_,e,ea,.inr ⟨by rw[List.isEmpty_cons,Bool.and_false],rfl⟩⟩
    | box n=>obtain⟨a,e,ea⟩:=at';exact⟨a,_,_,e,ea,.inr ⟨by rw[List.isEmpty_cons,Bool.and_false],rfl⟩⟩
    | nul k=>obtain⟨a,e,ea⟩:=at';cases(show k = "yes" from nsw);exact⟨a,_,_,e,ea,.inl ⟨rfl,rfl,rfl⟩⟩
    | un k b=>obtain⟨a,u,e,ea,_⟩:=at';exact⟨a,_,_,e,ea,.inr ⟨by rw[List.isEmpty_cons,Bool.and_false],rfl⟩⟩
    | bin k b c=>obtain⟨a,u,u2,e,ea,_⟩:=at';exact⟨a,_,_,e,ea,.inr ⟨by rw[List.isEmpty_cons,Bool.and_false],rfl⟩⟩
   obtain⟨a,k,us,rfl,ea,hc⟩:=head
   refine⟨a,tp,k,us,"yes",rfl,rfl,SqT.of (S2 _ _ ea),SqT.of etp,?_⟩
   rcases hc with⟨en,rfl,rfl⟩ | ⟨hc,en⟩
   ·refine⟨false,rfl,iteF ?_⟩
    have e:deedS d=Str.ofString "deed " ++ d.name++Str.ofString " " ++ intS d.price:=by
     unfold deedS
     rw[en]
     exact qJa _
    rw[e]
    exact⟨rfl,S2⟩
   ·rw[hc]
    refine⟨true,rfl,iteT ?_⟩
    wtm_at "zw"
    refine⟨_,_,rfl,rfl,xE (by (try simp only[xF]);show _+(Str.ofString (toString d.price)).length+4≤_;omega),?_⟩
    wtm_at "zw"
    refine⟨d.need,_,rfl,nat.mono (qC S2),nsw,by omega,by omega,fun H3 S3=>?_⟩
    refine⟨_,_,rfl,rfl,xE (by (try simp only[xF]);show _+(Str.ofString (toString d.price)).length+4+_≤_;omega),?_⟩
    have e:deedS d=Str.ofString "deed " ++ d.name++Str.ofString " " ++ intS d.price++Str.ofString " if " ++ sh d.need:=by
     unfold deedS
     rw[en]
     simp only[zU]
    rw[e]
    exact⟨rfl,S2.trans S3⟩
  rintro σ' H2 ⟨rfl,S2⟩
  have S2':=S'.trans S2
  have eD2:=S2 _ _ eD'
  wtm_at "zw"
  refine wB (SqL.of eD2) ?_
  wtm_at "zw"
  refine yJ eD2 (small (by omega)) ?_
  rw[jS]
  have S3:Same H (upd H2 D (.lst (strsV (W.bs.map boxS++(W.ds.take i).flatMap xM++[deedS d])))):=S2'.set nD
  have eD3:upd H2 D (.lst (strsV (W.bs.map boxS++(W.ds.take i).flatMap xM++[deedS d]))) D=_:=qW
  generalize upd H2 D (.lst (strsV (W.bs.map boxS++(W.ds.take i).flatMap xM++[deedS d])))=H3 at S3 eD3 ⊢
  wtm_at "zf"
  refine⟨wa,rfl,⟨wu,SqL.of (S3 _ _ ewa0)⟩,?_⟩
  refine zK (xs:=wu) (fun j σ' H'=>∃z:List (Option V),z.length=9∧σ'=[some (.ref p),some (.ref D)]++z∧H' D=some (.lst (strsV (W.bs.map boxS++(W.ds.take i).flatMap xM++[deedS d]++(d.ways.take j).map wayS)))∧Same H H') ⟨[_,_,_,_,_,_,_,_,_],rfl,rfl,by rw[List.take_zero,List.map_nil,List.append_nil];exact eD3,S3⟩
   (fun j σ' H' _ hP=>?_) (fun N2 rt2 bk2 j x σ' H4 ex2 hP hN2=>?_) (fun σ' H4 hP=>?_)
  ·obtain⟨_,_,_,_,S⟩:=hP
   exact SqL.of (S _ _ ewa0)
  ·obtain⟨z,hz,rfl,eD4,S4⟩:=hP
   match z,hz with
   | [y2,y3,y4,y5,y6,y7,y8,y9,y10],_=>
   obtain⟨wy,ew⟩:∃c,d.ways[j]? = some c:=⟨_,List.getElem?_eq_getElem (by rw[pw.length];exact(List.getElem?_eq_some_iff.mp ex2).1)⟩
   obtain⟨ya,cu,rfl,eya0,pc⟩:=xK pw ew ex2
   have shw:=sw.way hm (List.mem_of_getElem? ew)
   have lc:=pc.length
   have le6:=shw.le
   have eya:=S4 _ _ eya0
   wtm_at "zf"
   refine⟨_,rfl,by omega,by omega,?_⟩
   refine jC (fun m σ' H'=>∃z2 z9 z10:Option V,σ'=[some (.ref p),some (.ref D),z2,y3,y4,y5,y6,some (.ref ya),some (.str (wayS (wy.take m))),z9,z10]∧Same H4 H') ⟨y2,y9,y10,rfl,Same.refl _⟩ ?_ ?_
   ·rintro N3 rt3 bk3 m σ' H5 hmm ⟨x2,x9,x10,rfl,S5⟩ hN3
    have hml:m<cu.length:=by omega
    obtain⟨c,ec⟩:∃c,wy[m]? = some c:=⟨_,List.getElem?_eq_getElem (by omega)⟩
    have exc:cu[m]? = some cu[m]:=List.getElem?_eq_getElem hml
    obtain⟨ca,cv,eu,eca,cat⟩:=(xK pc ec exc).same (S4.trans S5)
    rw[eu] at exc
    obtain⟨k1,k2,k3⟩:=shw.ok c (List.mem_of_getElem? ec)
    have l3:=wQ k2 k3
    have lw:=qZb (shw.take m)
    have ey5:=S5 _ _ eya
    have ei:atI cu (0+(m:Int))=some (.ref ca):=by rw[Int.zero_add];exact yZ exc
    wtm_at "zw"
    refine .inr ⟨_,rfl,?_⟩
    have l4:=qZb (shw.take (m+1))
    have fin:∀(r:Str),r.length≤1→wayS (wy.take m)++r++Str.ofString " " ++ c.1++Str.ofString " := " ++ sh c.2=wayS (wy.take (m+1))→(wayS (wy.take m)++r++Str.ofString " " ++ c.1++Str.ofString " := ").length≤10000:=fun r hr _=>by
     simp only[xF];omega
    have step:∃r:Str,Txt.mul (Str.ofString ",") (if decide (0<0+(m:Int)) then 1 else 0)=r∧r.length≤1∧wayS (wy.take m)++r++Str.ofString " " ++ c.1++Str.ofString " := " ++ sh c.2=wayS (wy.take (m+1)):=by
     have et:wy.take (m+1)=wy.take m++[c]:=by rw[List.take_add_one,ec];rfl
     unfold wayS
     rw[et,List.map_append]
     cases m with
     | zero=>exact⟨_,mul0,Nat.zero_le _,qBm c⟩
     | succ m=>
      rw[decide_eq_true (show(0:Int)<0+((m+1:Nat):Int) by omega)]
      refine⟨_,mul1,Nat.le_refl _,qGj ?_ c⟩
      cases wy with
      | nil=>cases ec
      | cons a b=>exact List.cons_ne_nil _ _
    obtain⟨r,er,lr,ew2⟩:=step
    have l5:=fin r lr ew2
    simp only[xF] at l5
    refine⟨_,_,rfl,rfl,?_,?_,(by decide),?_⟩
    ·split <;> decide
    ·split <;> decide
    rw[er]
    wtm_at "zw"
    refine⟨_,_,rfl,rfl,xE (by omega),?_⟩
    wtm_at "zw"
    refine⟨_,_,rfl,rfl,xE (by (try simp only[xF]);omega),?_⟩
    wtm_at "zw"
    refine⟨_,_,rfl,rfl,xE (by (try simp only[xF]);omega),?_⟩
    wtm_at "zw"
    refine⟨_,_,rfl,rfl,xE (by (try simp only[xF]);omega),?_⟩
    wtm_at "zw"
    refine⟨c.2,cv,rfl,cat,k2,by omega,by omega,fun H6 S6=>?_⟩
    refine⟨_,_,rfl,rfl,xE (by (try simp only[xF]);omega),?_⟩
    rw[ew2]
    exact hN3 _ _ ⟨_,_,_,rfl,S5.trans S6⟩
   ·rintro σ' H5 ⟨x2,x9,x10,rfl,S5⟩
    have e:wy.take ((cu.length:Int).toNat)=wy:=List.take_of_length_le (by omega)
    rw[e]
    have eD5:=S5 _ _ eD4
    wtm_at "zw"
    refine wB (SqL.of eD5) ?_
    wtm_at "zw"
    refine yJ eD5 (small (by rw[xW,List.length_append,List.length_append,List.length_map,List.length_take];rw[xW] at cl;show _+1+_≤_;omega)) ?_
    refine hN2 _ _ ⟨[_,_,_,_,_,_,_,_,_],rfl,rfl,?_,(S4.trans S5).set nD⟩
    rw[qW,jS,List.take_add_one,ew,List.map_append,← List.append_assoc]
    rfl
  ·obtain⟨z,hz,rfl,eD4,S4⟩:=hP
   rw[← pw.length,List.take_length] at eD4
   refine hN _ _ ⟨z,hz,rfl,?_,S4⟩
   rw[eD4,List.take_add_one,ed,List.flatMap_append]
   show some (HO.lst (strsV (W.bs.map boxS++(W.ds.take i).flatMap xM++[deedS d]++d.ways.map wayS)))=some (HO.lst (strsV (W.bs.map boxS++((W.ds.take i).flatMap xM++(xM d++[])))))
   rw[List.append_nil,List.append_assoc,List.append_assoc];rfl
 obtain⟨z,hz,rfl,eD2,S2⟩:=hP
 match z,hz with
 | [z2,z3,z4,z5,z6,z7,z8,z9,z10],_=>
 rw[← pd.length,List.take_length] at eD2
 have fl:=vC (ds:=W.ds) fun d hd=>(sw.ok.deeds d hd).w4
 wtm_at "zf"
 refine⟨lx,rfl,⟨lu,SqL.of (S2 _ _ elx)⟩,?_⟩
 refine zK (xs:=lu) (fun i σ' H'=>∃z2 z3 z10:Option V,σ'=[some (.ref p),some (.ref D),z2,z3,z4,z5,z6,z7,z8,z9,z10]∧H' D=some (.lst (strsV (W.bs.map boxS++W.ds.flatMap xM++(W.ls.take i).map lookS)))∧Same H H') ⟨z2,z3,z10,rfl,by rw[List.take_zero,List.map_nil,List.append_nil];exact eD2,S2⟩
  (fun i σ' H' _ hP=>?_) (fun N rt bk i x σ' H' ex hP hN=>?_) (fun σ' H3 hP=>?_)
 ·obtain⟨_,_,_,_,_,S⟩:=hP
  exact SqL.of (S _ _ elx)
 ·obtain⟨y2,y3,y10,rfl,eD',S'⟩:=hP
  obtain⟨d,ed⟩:∃c,W.ls[i]? = some c:=⟨_,List.getElem?_eq_getElem (by rw[pl.length];exact(List.getElem?_eq_some_iff.mp ex).1)⟩
  have hm:=List.mem_of_getElem? ed
  have dok:=sw.ok.looks d hm
  obtain⟨da,nv,rfl,eda0,nat0⟩:=xK pl ed ex
  have eda:=S' _ _ eda0
  have nat:=nat0.mono (qC S')
  have k1:=sw.lname hm
  have k2:=sw.lprice hm
  have k3:=k2.1
  have k4:=wQ (sw.part hm) dok.sm
  have k5:=dok.sm
  have cl:(strsV (W.bs.map boxS++W.ds.flatMap xM++(W.ls.take i).map lookS)).length≤60:=by rw[xW,List.length_append,List.length_append,List.length_map,List.length_map,List.length_take];omega
  unfold intS at k3
  wtm_at "zw"
  refine wB (SqL.of eD') ?_
  wtm_at "zw"
  refine⟨_,_,rfl,rfl,xE (by omega),?_⟩
  wtm_at "zw"
  refine⟨_,_,rfl,rfl,xE (by (try simp only[xF]);omega),?_⟩
  wtm_at "zw"
  refine⟨_,rfl,.inl ⟨d.price,rfl,k2.2⟩,?_⟩
  have k6:(txV (.int d.price)).length≤1000:=k3
  refine⟨_,_,rfl,rfl,xE (by (try simp only[xF]);omega),?_⟩
  wtm_at "zw"
  refine⟨_,_,rfl,rfl,xE (by (try simp only[xF]);omega),?_⟩
  wtm_at "zw"
  refine⟨d.part,nv,rfl,nat,sw.part hm,by omega,by omega,fun H4 S4=>?_⟩
  refine⟨_,_,rfl,rfl,xE (by (try simp only[xF]);omega),?_⟩
  wtm_at "zw"
  refine yJ (S4 _ _ eD') (small (by omega)) ?_
  refine hN _ _ ⟨_,_,_,rfl,?_,(S'.trans S4).set nD⟩
  rw[qW,jS,List.take_add_one,ed,List.map_append,← List.append_assoc]
  rfl
 obtain⟨y2,y3,y10,rfl,eD3,S3⟩:=hP
 rw[← pl.length,List.take_length] at eD3
 have cl:(strsV (W.bs.map boxS++W.ds.flatMap xM++W.ls.map lookS)).length≤60:=by rw[xW,List.length_append,List.length_append,List.length_map,List.length_map];omega
 have ep3:=S3 _ _ ep
 have l7:=yU sw.beg sw.ok.bsm
 have l8:=yU sw.goal sw.ok.gsm
 have bs6:=sw.ok.bsm
 have gs6:=sw.ok.gsm
 wtm_at "zw"
 refine⟨W.bt,bv,rfl,at'.beg.mono (qC S3),sw.beg,by omega,by omega,fun H4 S4=>?_⟩
 have ep4:=S4 _ _ ep3
 refine⟨_,_,rfl,rfl,xE (by omega),?_⟩
 wtm_at "zw"
 refine⟨W.gt,gv,rfl,at'.goal.mono (qC (S3.trans S4)),sw.goal,by omega,by omega,fun H5 S5=>?_⟩
 refine⟨_,_,rfl,rfl,xE (by omega),?_⟩
 wtm_at "zw"
 refine⟨xE (show 2≤1000000 by decide),fun l2 hl2=>?_⟩
 have S6:=S5.trans (qV hl2 (.lst [V.str (Str.ofString "begin " ++ sh W.bt),V.str (Str.ofString "goal " ++ sh W.gt)]))
 refine⟨D,l2,_,_,rfl,rfl,S6 _ _ (S4 _ _ eD3),qW,?_,fun l3 hl3=>?_⟩
 ·show _+2≤sizeLine
  exact xE (by omega)
 ·refine q l3 _ (S3.trans (S4.trans (S6.trans (qV hl3 _)))) ?_
  rw[qW]
  unfold rowsOf
  rw[xR _ [Str.ofString "begin " ++ sh W.bt,Str.ofString "goal " ++ sh W.gt]]
  rfl
theorem qJo:xI ["world"] ["world"] (xA (top 53)):=⟨rfl,rfl,rfl,by decide +kernel,rfl,by decide +kernel,by decide +kernel⟩
noncomputable def qCv:Sp:=fun vs H Q _=>∃(W:Wd) (p bx dx lx:Addr) (bv gv:V),vs=[.ref p]∧H p=some (.tup [.ref bx,.ref dx,.ref lx,bv,gv])∧WAt H W bx dx lx bv gv∧WOk W∧
 ∀(W':Wd) (p' dx' lx':Addr) (H':Hp),Same H H'→H' p'=some (.tup [.ref bx,.ref dx',.ref lx',bv,gv])→WAt H' W' bx dx' lx' bv gv→ShW W'→Q (.ref p') H'
theorem qAj (xs:List V)(k:Nat):cutV xs none (some (k:Int))=xs.take k:=by
 unfold cutV
 rw[HT.sIx_none,HT.sIx_nat,List.drop_zero,Nat.sub_zero]
 by_cases h:k≤xs.length
 ·rw[Nat.min_eq_left h]
 ·rw[Nat.min_eq_right (by omega),List.take_of_length_le (Nat.le_refl _),List.take_of_length_le (by omega)]
theorem qQz {α β:Type}{R:α→β→Prop}{xs:List α}{ys:List β}(p:Paired R xs ys)(n:Nat):Paired R (xs.take n) (ys.take n):=by
 induction p generalizing n with
 | nil=>rw[List.take_nil,List.take_nil];exact .nil
 | cons h _ ih=>
  cases n with
  | zero=>exact .nil
  | succ n=>exact .cons h (ih n)
theorem qGc {W:Wd}(ok:WOk W):ShW ⟨W.bs,W.ds.take 2,W.ls.take 3,W.bt,W.gt⟩:=by
 have sub:List.Sublist ((W.ds.take 2).map Deed.name++(W.ls.take 3).map Look.name) (W.ds.map Deed.name++W.ls.map Look.name):=List.Sublist.append ((List.take_sublist _ _).map _) ((List.take_sublist _ _).map _)
 refine⟨⟨ok.b1,ok.b6,ok.b25,ok.b200,ok.named,?_,?_,sub.nodup ok.nd,fun d hd=>ok.deeds d (List.mem_of_mem_take hd),fun l hl=>ok.looks l (List.mem_of_mem_take hl),ok.beg,ok.begd,ok.goal,ok.goald,ok.some',fun x hx=>ok.sh x (sub.subset hx),ok.bsm,ok.gsm⟩,?_,?_⟩
 ·show(W.ds.take 2).length≤100;rw[List.length_take];omega
 ·show(W.ls.take 3).length≤100;rw[List.length_take];omega
 ·show(W.ds.take 2).length≤8;rw[List.length_take];omega
 ·show(W.ls.take 3).length≤6;rw[List.length_take];omega
theorem qHo (F:Fd K mg "_law_short" (top 53) ["world"]):Dn P w K mg base "_law_short" 1 ["world"] qCv:=by
 refine F.ok qJo (fun vs H Q E h=>?_) (fun f cdv A outer s H vs Q E hr h=>?_)
 ·obtain⟨_,_,_,_,_,_,_,rfl,_⟩:=h
  rfl
 obtain⟨W,p,bx,dx,lx,bv,gv,rfl,ep,at',ok,q⟩:=h
 obtain⟨du,edx,pd⟩:=at'.deeds
 obtain⟨lu,elx,pl⟩:=at'.looks
 refine⟨_,(qJ (qN (zJ (qQ (xH (qS (K:=K)) (pv 0) qE (fun _ _=>rfl)) (qQ (yV (kM (K:=K)) (xH (qS (K:=K)) (pv 0) qE (fun _ _=>rfl)) kW (kK qE)) (qQ (yV (kM (K:=K)) (xH (qS (K:=K)) (pv 0) qE (fun _ _=>rfl)) kW (kK qE)) (qQ (xH (qS (K:=K)) (pv 0) qE (fun _ _=>rfl)) (qQ (xH (qS (K:=K)) (pv 0) qE (fun _ _=>rfl)) qX)))))))),?_⟩
 wtm_at "zw"
 refine⟨dx,_,rfl,SqL.of edx,fun l1 hl1=>?_⟩
 rw[show(2:Int)=((2:Nat):Int) from rfl,qAj]
 have S1:=qV hl1 (.lst (du.take 2))
 have el1:upd H l1 (.lst (du.take 2)) l1=some (.lst (du.take 2)):=qW
 generalize upd H l1 (.lst (du.take 2))=H1 at S1 el1 ⊢
 have ep1:=S1 _ _ ep
 wtm_at "zw"
 refine⟨lx,_,rfl,SqL.of (S1 _ _ elx),fun l2 hl2=>?_⟩
 rw[show(3:Int)=((3:Nat):Int) from rfl,qAj]
 have S2:=qV hl2 (.lst (lu.take 3))
 have el2:upd H1 l2 (.lst (lu.take 3)) l2=some (.lst (lu.take 3)):=qW
 generalize upd H1 l2 (.lst (lu.take 3))=H2 at S2 el2 ⊢
 have ep2:=S2 _ _ ep1
 wtm_at "zw"
 refine⟨xE (show 5≤1000000 by decide),fun t ht=>?_⟩
 have S3:=qV ht (.tup [.ref bx,.ref l1,.ref l2,bv,gv])
 have SA:=S1.trans (S2.trans S3)
 have A:=at'.same SA
 refine q ⟨W.bs,W.ds.take 2,W.ls.take 3,W.bt,W.gt⟩ t l1 l2 _ SA qW ⟨A.boxes,⟨_,S3 _ _ (S2 _ _ el1),?_⟩,⟨_,S3 _ _ el2,?_⟩,A.beg,A.goal⟩ (qGc ok)
 ·exact qQz (Paired.mapP pd fun _ _ y=>y.same SA) 2
 ·exact qQz (Paired.mapP pl fun _ _ y=>y.same SA) 3
theorem vK:xI ["script","boxes","deeds","looks","begin","goal","world","due","k"] ["script"] (xA (top 54)):=⟨rfl,rfl,rfl,by decide +kernel,rfl,by decide +kernel,by decide +kernel⟩
noncomputable def spLaw (K:PySem.W.Frag):Sp:=fun vs H Q _=>∃(a:Addr) (ns:List Int),vs=[.ref a]∧SqL K H a (ns.map V.int)∧ns.length≤63∧∀H',Q (.bl true) H'
theorem qRm {f:Addr}{fd:FuncData}(F:Fun K "law" "law" (top 54) f fd)(B:Bl mg)(D_law_world:Dn P w K mg base "_law_world" 14 ["script"] (qWa K))(D_world_of:Dn P w K mg base "world_of" 28 ["boxes","deeds","looks","begin","goal"] (qJl K))
  (D_shown_world:Dn P w K mg base "shown_world" 11 ["world"] qWv) (D_law_rows:Dn P w K mg base "_law_rows" 10 ["world"] spRows) (D_law_short:Dn P w K mg base "_law_short" 1 ["world"] qCv):FnOk P w K mg base CX0 60 f fd ["script"] (spLaw K):=by
 refine F.ok (k:=59) vK (fun vs H Q E h=>?_) (fun cdv A outer s H vs Q E hr h=>?_)
 ·obtain⟨_,_,rfl,_⟩:=h
  rfl
 obtain⟨a,ns,rfl,hS,h63,q⟩:=h
 refine⟨_,(qZ (qO (qD D_law_short hr (qQ (qD D_law_world hr (qQ (pv 0) qX)) qX)) (zH (K:=K) (n:=5) rfl (qH (qG (i:=1) vK.nd rfl (by wtm_at "zo")) (qH (qG (i:=2) vK.nd rfl (by wtm_at "zo")) (qH (qG (i:=3) vK.nd rfl (by wtm_at "zo")) (qH (qG (i:=4) vK.nd rfl (by wtm_at "zo")) (qH (qG (i:=5) vK.nd rfl (by wtm_at "zo")) qI)))))))
  (qZ (qM (i:=6) vK.nd rfl (by wtm_at "zo") (qD D_world_of hr (qQ (pv 1) (qQ (pv 2) (qQ (pv 3) (qQ (pv 4) (qQ (pv 5) qX)))))))
  (qZ (qM (i:=7) vK.nd rfl (by wtm_at "zo") (zC (K:=K) PySem.F.plainAttrs_str PySem.F.slot_str_join PySem.F.type_str_join qQc qF (qQ (qD D_law_rows hr (qQ (zJ (qQ (pv 1) (qQ (pv 2) (qQ (pv 3) (qQ (pv 4) (qQ (pv 5) qX)))))) qX)) qX)))
  (qZ (zE PassesOwn.never rfl (zT rfl B.range' (qQ qE qX)) (qG (i:=8) vK.nd rfl (by wtm_at "zo")) (qJ (zB (PW.pt (qAo (qR qRi (qD D_shown_world hr (qQ (pv 6) qX)) (pv 7) (xD _)) (qYq (qR (qNe (K:=K) hr.units) (pv 6) (zJ (qQ (pv 1) (qQ (pv 2) (qQ (pv 3) (qQ (pv 4) (qQ (pv 5) qX)))))) (xD _))))) (qJ (qN qBz)) qY)))
  (qJ (qN qBz)))))),?_⟩
 wtm_at "zw"
 refine⟨a,ns,rfl,hS,h63,fun p0 W0 bx dx0 lx0 bv gv H1 S1 ep0 A0 ok0=>?_⟩
 wtm_at "zw"
 refine⟨W0,p0,bx,dx0,lx0,bv,gv,rfl,ep0,A0,ok0,fun W p1 dx lx H2 S2 ep1 A1 sw=>?_⟩
 wtm_at "zw"
 refine⟨W,bx,dx,lx,bv,gv,rfl,A1,sw.ok,fun p bx' dx' lx' H3 S3 ep A2 T2=>?_⟩
 have A1':=A1.same S3
 wtm_at "zw"
 refine⟨xE (show 5≤1000000 by decide),fun t ht=>?_⟩
 have S4:=qV ht (.tup [.ref bx,.ref dx,.ref lx,bv,gv])
 have et:upd H3 t (.tup [.ref bx,.ref dx,.ref lx,bv,gv]) t=some (.tup [.ref bx,.ref dx,.ref lx,bv,gv]):=qW
 generalize upd H3 t (.tup [.ref bx,.ref dx,.ref lx,bv,gv])=H4 at S4 et ⊢
 wtm_at "zw"
 refine⟨W,t,bx,dx,lx,bv,gv,rfl,et,A1'.same S4,sw,fun r H5 S5 er=>?_⟩
 refine⟨_,r,_,rfl,rfl,er,qWc sw,?_⟩
 have S35:=S4.trans S5
 wtm_at "zf"
 refine⟨_,rfl,by decide,by decide,?_⟩
 refine jC (fun m σ' H'=>∃z:Option V,σ'=[some (.ref a),some (.ref bx),some (.ref dx),some (.ref lx),some bv,some gv,some (.ref p),some (.str (textW W)),z]∧Same H3 H') ⟨none,rfl,S35⟩ ?_ ?_
 ·rintro N rt bk m σ' H6 hm ⟨z,rfl,S6⟩ hN
  wtm_at "zw"
  refine⟨W,p,bx',dx',lx',bv,gv,rfl,S6 _ _ ep,A2.same S6,sw,fun H7 S7=>?_⟩
  have S37:=S6.trans S7
  wtm_at "zw"
  rw[decide_eq_true rfl]
  refine iteF ?_
  wtm_at "zw"
  refine⟨xE (show 5≤1000000 by decide),fun t2 ht2=>?_⟩
  have S8:=S37.trans (qV ht2 (.tup [.ref bx,.ref dx,.ref lx,bv,gv]))
  refine⟨4,p,t2,_,_,by decide,rfl,rfl,SqT.of (S8 _ _ ep),SqT.of qW,rfl,qMl (T2.same S8) (A1'.beg.mono (qC S8)) (A1'.goal.mono (qC S8)),?_⟩
  generalize upd H7 t2 (.tup [.ref bx,.ref dx,.ref lx,bv,gv])=H8 at S8 ⊢
  refine⟨false,rfl,iteF ?_⟩
  exact hN _ _ ⟨_,rfl,S8⟩
 ·rintro σ' H6 ⟨z,rfl,S6⟩
  wtm_at "zw"
  exact q _

end
theorem len1 {C:List Value→Prop}(h:∀a0:Value,C [a0])(us:List Value)(e:us.length=1):C us:=by
 cases us with
 | nil=>cases e
 | cons a r=>
  cases r with
  | nil=>exact h a
  | cons _ _=>exact absurd (Nat.succ.inj e) (Nat.succ_ne_zero _)

theorem len2 {C:List Value→Prop}(h:∀a0 a1:Value,C [a0,a1])(us:List Value)(e:us.length=2):C us:=by
 cases us with
 | nil=>cases e
 | cons a r=>exact len1 (C:=fun r=>C (a::r)) (h a) r (Nat.succ.inj e)

theorem len3 {C:List Value→Prop}(h:∀a0 a1 a2:Value,C [a0,a1,a2])(us:List Value)(e:us.length=3):C us:=by
 cases us with
 | nil=>cases e
 | cons a r=>exact len2 (C:=fun r=>C (a::r)) (h a) r (Nat.succ.inj e)

theorem len4 {C:List Value→Prop}(h:∀a0 a1 a2 a3:Value,C [a0,a1,a2,a3])(us:List Value)(e:us.length=4):C us:=by
 cases us with
 | nil=>cases e
 | cons a r=>exact len3 (C:=fun r=>C (a::r)) (h a) r (Nat.succ.inj e)

theorem len5 {C:List Value→Prop}(h:∀a0 a1 a2 a3 a4:Value,C [a0,a1,a2,a3,a4])(us:List Value)(e:us.length=5):C us:=by
 cases us with
 | nil=>cases e
 | cons a r=>exact len4 (C:=fun r=>C (a::r)) (h a) r (Nat.succ.inj e)

theorem qSo {l:PySem.W.OpenLaw}{w:World}{K:PySem.W.Frag}{h:Heap}{mg:Str→Option Value}{fa f0 f1 f2 f3 f4 f5 f6 f7 f8 f9 f10 f11 f12 f13 f14 f15 f16 f17 f18 f19 f20 f21 f22 f23 f24 f25 f26 f27 f28 f29 f30 f31 f32 f33 f34 f35 f36 f37 f38 f39:Addr}(X:K.In h)(G:h.Ns mainGlobals mg)(hfa:mg "law" = some (.ref fa))
  {od0 an0 od1 an1 od2 an2 od3 an3 od4 an4 od5 an5 od6 an6 od7 an7 od8 an8 od9 an9 od10 an10 od11 an11 od12 an12 od13 an13 od14 an14 od15 an15 od16 an16 od17 an17 od18 an18 od19 an19 od20 an20 od21 an21 od22 an22 od23 an23 od24 an24 od25 an25 od26 an26 od27 an27 od28 an28 od29 an29 od30 an30 od31 an31 od32 an32 od33 an33 od34 an34 od35 an35 od36 an36 od37 an37 od38 an38 od39 an39:Option Addr} {sl0 sl1 sl2 sl3 sl4 sl5 sl6 sl7 sl8 sl9 sl10 sl11 sl12 sl13 sl14 sl15 sl16 sl17 sl18 sl19 sl20 sl21 sl22 sl23 sl24 sl25 sl26 sl27 sl28 sl29 sl30 sl31 sl32 sl33 sl34 sl35 sl36 sl37 sl38 sl39:Array (Option Value)} {oc0 kV0 dc0 pm0 cd0 ct0 oc1 kV1 dc1 pm1 cd1 ct1 oc2 kV2 dc2 pm2 cd2 ct2 oc3 kV3 dc3 pm3 cd3 ct3 oc4 kV4 dc4 pm4 cd4 ct4 oc5 kV5 dc5 pm5 cd5 ct5 oc6 kV6 dc6 pm6 cd6 ct6 oc7 kV7 dc7 pm7 cd7 ct7 oc8 kV8 dc8 pm8 cd8 ct8 oc9 kV9 dc9 pm9 cd9 ct9 oc10 kV10 dc10 pm10 cd10 ct10 oc11 kV11 dc11 pm11 cd11 ct11 oc12 kV12 dc12 pm12 cd12 ct12 oc13 kV13 dc13 pm13 cd13 ct13 oc14 kV14 dc14 pm14 cd14 ct14 oc15 kV15 dc15 pm15 cd15 ct15 oc16 kV16 dc16 pm16 cd16 ct16 oc17 kV17 dc17 pm17 cd17 ct17 oc18 kV18 dc18 pm18 cd18 ct18 oc19 kV19 dc19 pm19 cd19 ct19 oc20 kV20 dc20 pm20 cd20 ct20 oc21 kV21 dc21 pm21 cd21 ct21 oc22 kV22 dc22 pm22 cd22 ct22 oc23 kV23 dc23 pm23 cd23 ct23 oc24 kV24 dc24 pm24 cd24 ct24 oc25 kV25 dc25 pm25 cd25 ct25 oc26 kV26 dc26 pm26 cd26 ct26 oc27 kV27 dc27 pm27 cd27 ct27 oc28 kV28 dc28 pm28 cd28 ct28 oc29 kV29 dc29 pm29 cd29 ct29 oc30 kV30 dc30 pm30 cd30 ct30 oc31 kV31 dc31 pm31 cd31 ct31 oc32 kV32 dc32 pm32 cd32 ct32 oc33 kV33 dc33 pm33 cd33 ct33 oc34 kV34 dc34 pm34 cd34 ct34 oc35 kV35 dc35 pm35 cd35 ct35 oc36 kV36 dc36 pm36 cd36 ct36 oc37 kV37 dc37 pm37 cd37 ct37 oc38 kV38 dc38 pm38 cd38 ct38 oc39 kV39 dc39 pm39 cd39 ct39:Value}
  (a0:PySem.W.nsIn K mainGlobals "world_of" = some (some (.ref f0))) (l0:K.lookup f0=some ⟨oc0,od0,.func (PySem.W.fnOf "world_of" "world_of" (xC (top 14)) (xB (top 14)) (xA (top 14)) .none kV0 dc0 pm0 an0 cd0 ct0),sl0⟩) (c0:PySem.W.codeIn K cd0 "world_of" = true) (k0:PySem.W.keepIn K (.ref f0)=true)
  (a1:PySem.W.nsIn K mainGlobals "standings_of_boxes" = some (some (.ref f1))) (l1:K.lookup f1=some ⟨oc1,od1,.func (PySem.W.fnOf "standings_of_boxes" "standings_of_boxes" (xC (top 15)) (xB (top 15)) (xA (top 15)) .none kV1 dc1 pm1 an1 cd1 ct1),sl1⟩) (c1:PySem.W.codeIn K cd1 "standings_of_boxes" = true) (k1:PySem.W.keepIn K (.ref f1)=true)
  (a2:PySem.W.nsIn K mainGlobals "copied_deed" = some (some (.ref f2))) (l2:K.lookup f2=some ⟨oc2,od2,.func (PySem.W.fnOf "copied_deed" "copied_deed" (xC (top 16)) (xB (top 16)) (xA (top 16)) .none kV2 dc2 pm2 an2 cd2 ct2),sl2⟩) (c2:PySem.W.codeIn K cd2 "copied_deed" = true) (k2:PySem.W.keepIn K (.ref f2)=true)
  (a3:PySem.W.nsIn K mainGlobals "is_whole" = some (some (.ref f3))) (l3:K.lookup f3=some ⟨oc3,od3,.func (PySem.W.fnOf "is_whole" "is_whole" (xC (top 17)) (xB (top 17)) (xA (top 17)) .none kV3 dc3 pm3 an3 cd3 ct3),sl3⟩) (c3:PySem.W.codeIn K cd3 "is_whole" = true) (k3:PySem.W.keepIn K (.ref f3)=true)
  (a4:PySem.W.nsIn K mainGlobals "refuse_boxes" = some (some (.ref f4))) (l4:K.lookup f4=some ⟨oc4,od4,.func (PySem.W.fnOf "refuse_boxes" "refuse_boxes" (xC (top 18)) (xB (top 18)) (xA (top 18)) .none kV4 dc4 pm4 an4 cd4 ct4),sl4⟩) (c4:PySem.W.codeIn K cd4 "refuse_boxes" = true) (k4:PySem.W.keepIn K (.ref f4)=true)
  (a5:PySem.W.nsIn K mainGlobals "refuse_twice" = some (some (.ref f5))) (l5:K.lookup f5=some ⟨oc5,od5,.func (PySem.W.fnOf "refuse_twice" "refuse_twice" (xC (top 19)) (xB (top 19)) (xA (top 19)) .none kV5 dc5 pm5 an5 cd5 ct5),sl5⟩) (c5:PySem.W.codeIn K cd5 "refuse_twice" = true) (k5:PySem.W.keepIn K (.ref f5)=true)
  (a6:PySem.W.nsIn K mainGlobals "refuse_price" = some (some (.ref f6))) (l6:K.lookup f6=some ⟨oc6,od6,.func (PySem.W.fnOf "refuse_price" "refuse_price" (xC (top 20)) (xB (top 20)) (xA (top 20)) .none kV6 dc6 pm6 an6 cd6 ct6),sl6⟩) (c6:PySem.W.codeIn K cd6 "refuse_price" = true) (k6:PySem.W.keepIn K (.ref f6)=true)
  (a7:PySem.W.nsIn K mainGlobals "refuse_ways" = some (some (.ref f7))) (l7:K.lookup f7=some ⟨oc7,od7,.func (PySem.W.fnOf "refuse_ways" "refuse_ways" (xC (top 21)) (xB (top 21)) (xA (top 21)) .none kV7 dc7 pm7 an7 cd7 ct7),sl7⟩) (c7:PySem.W.codeIn K cd7 "refuse_ways" = true) (k7:PySem.W.keepIn K (.ref f7)=true)
  (a8:PySem.W.nsIn K mainGlobals "refuse_strange_name" = some (some (.ref f8))) (l8:K.lookup f8=some ⟨oc8,od8,.func (PySem.W.fnOf "refuse_strange_name" "refuse_strange_name" (xC (top 22)) (xB (top 22)) (xA (top 22)) .none kV8 dc8 pm8 an8 cd8 ct8),sl8⟩) (c8:PySem.W.codeIn K cd8 "refuse_strange_name" = true) (k8:PySem.W.keepIn K (.ref f8)=true)
  (a9:PySem.W.nsIn K mainGlobals "refuse_strange_names" = some (some (.ref f9))) (l9:K.lookup f9=some ⟨oc9,od9,.func (PySem.W.fnOf "refuse_strange_names" "refuse_strange_names" (xC (top 23)) (xB (top 23)) (xA (top 23)) .none kV9 dc9 pm9 an9 cd9 ct9),sl9⟩) (c9:PySem.W.codeIn K cd9 "refuse_strange_names" = true) (k9:PySem.W.keepIn K (.ref f9)=true)
  (a10:PySem.W.nsIn K mainGlobals "refuse_begin" = some (some (.ref f10))) (l10:K.lookup f10=some ⟨oc10,od10,.func (PySem.W.fnOf "refuse_begin" "refuse_begin" (xC (top 24)) (xB (top 24)) (xA (top 24)) .none kV10 dc10 pm10 an10 cd10 ct10),sl10⟩) (c10:PySem.W.codeIn K cd10 "refuse_begin" = true) (k10:PySem.W.keepIn K (.ref f10)=true)
  (a11:PySem.W.nsIn K mainGlobals "holds" = some (some (.ref f11))) (l11:K.lookup f11=some ⟨oc11,od11,.func (PySem.W.fnOf "holds" "holds" (xC (top 4)) (xB (top 4)) (xA (top 4)) .none kV11 dc11 pm11 an11 cd11 ct11),sl11⟩) (c11:PySem.W.codeIn K cd11 "holds" = true) (k11:PySem.W.keepIn K (.ref f11)=true)
  (a12:PySem.W.nsIn K mainGlobals "names_in" = some (some (.ref f12))) (l12:K.lookup f12=some ⟨oc12,od12,.func (PySem.W.fnOf "names_in" "names_in" (xC (top 5)) (xB (top 5)) (xA (top 5)) .none kV12 dc12 pm12 an12 cd12 ct12),sl12⟩) (c12:PySem.W.codeIn K cd12 "names_in" = true) (k12:PySem.W.keepIn K (.ref f12)=true)
  (a13:PySem.W.nsIn K mainGlobals "values_by_name" = some (some (.ref f13))) (l13:K.lookup f13=some ⟨oc13,od13,.func (PySem.W.fnOf "values_by_name" "values_by_name" (xC (top 6)) (xB (top 6)) (xA (top 6)) .none kV13 dc13 pm13 an13 cd13 ct13),sl13⟩) (c13:PySem.W.codeIn K cd13 "values_by_name" = true) (k13:PySem.W.keepIn K (.ref f13)=true)
  (a14:PySem.W.nsIn K mainGlobals "worth_by" = some (some (.ref f14))) (l14:K.lookup f14=some ⟨oc14,od14,.func (PySem.W.fnOf "worth_by" "worth_by" (xC (top 7)) (xB (top 7)) (xA (top 7)) .none kV14 dc14 pm14 an14 cd14 ct14),sl14⟩) (c14:PySem.W.codeIn K cd14 "worth_by" = true) (k14:PySem.W.keepIn K (.ref f14)=true)
  (a15:PySem.W.nsIn K mainGlobals "holds_by" = some (some (.ref f15))) (l15:K.lookup f15=some ⟨oc15,od15,.func (PySem.W.fnOf "holds_by" "holds_by" (xC (top 8)) (xB (top 8)) (xA (top 8)) .none kV15 dc15 pm15 an15 cd15 ct15),sl15⟩) (c15:PySem.W.codeIn K cd15 "holds_by" = true) (k15:PySem.W.keepIn K (.ref f15)=true)
  (a16:PySem.W.nsIn K mainGlobals "_law_cell_at" = some (some (.ref f16))) (l16:K.lookup f16=some ⟨oc16,od16,.func (PySem.W.fnOf "_law_cell_at" "_law_cell_at" (xC (top 36)) (xB (top 36)) (xA (top 36)) .none kV16 dc16 pm16 an16 cd16 ct16),sl16⟩) (c16:PySem.W.codeIn K cd16 "_law_cell_at" = true) (k16:PySem.W.keepIn K (.ref f16)=true)
  (a17:PySem.W.nsIn K mainGlobals "_law_stir" = some (some (.ref f17))) (l17:K.lookup f17=some ⟨oc17,od17,.func (PySem.W.fnOf "_law_stir" "_law_stir" (xC (top 37)) (xB (top 37)) (xA (top 37)) .none kV17 dc17 pm17 an17 cd17 ct17),sl17⟩) (c17:PySem.W.codeIn K cd17 "_law_stir" = true) (k17:PySem.W.keepIn K (.ref f17)=true)
  (a18:PySem.W.nsIn K mainGlobals "_law_drawn" = some (some (.ref f18))) (l18:K.lookup f18=some ⟨oc18,od18,.func (PySem.W.fnOf "_law_drawn" "_law_drawn" (xC (top 38)) (xB (top 38)) (xA (top 38)) .none kV18 dc18 pm18 an18 cd18 ct18),sl18⟩) (c18:PySem.W.codeIn K cd18 "_law_drawn" = true) (k18:PySem.W.keepIn K (.ref f18)=true)
  (a19:PySem.W.nsIn K mainGlobals "_law_deck" = some (some (.ref f19))) (l19:K.lookup f19=some ⟨oc19,od19,.func (PySem.W.fnOf "_law_deck" "_law_deck" (xC (top 39)) (xB (top 39)) (xA (top 39)) .none kV19 dc19 pm19 an19 cd19 ct19),sl19⟩) (c19:PySem.W.codeIn K cd19 "_law_deck" = true) (k19:PySem.W.keepIn K (.ref f19)=true)
  (a20:PySem.W.nsIn K mainGlobals "_law_take" = some (some (.ref f20))) (l20:K.lookup f20=some ⟨oc20,od20,.func (PySem.W.fnOf "_law_take" "_law_take" (xC (top 40)) (xB (top 40)) (xA (top 40)) .none kV20 dc20 pm20 an20 cd20 ct20),sl20⟩) (c20:PySem.W.codeIn K cd20 "_law_take" = true) (k20:PySem.W.keepIn K (.ref f20)=true)
  (a21:PySem.W.nsIn K mainGlobals "_law_unlike" = some (some (.ref f21))) (l21:K.lookup f21=some ⟨oc21,od21,.func (PySem.W.fnOf "_law_unlike" "_law_unlike" (xC (top 41)) (xB (top 41)) (xA (top 41)) .none kV21 dc21 pm21 an21 cd21 ct21),sl21⟩) (c21:PySem.W.codeIn K cd21 "_law_unlike" = true) (k21:PySem.W.keepIn K (.ref f21)=true)
  (a22:PySem.W.nsIn K mainGlobals "_law_boxes" = some (some (.ref f22))) (l22:K.lookup f22=some ⟨oc22,od22,.func (PySem.W.fnOf "_law_boxes" "_law_boxes" (xC (top 42)) (xB (top 42)) (xA (top 42)) .none kV22 dc22 pm22 an22 cd22 ct22),sl22⟩) (c22:PySem.W.codeIn K cd22 "_law_boxes" = true) (k22:PySem.W.keepIn K (.ref f22)=true)
  (a23:PySem.W.nsIn K mainGlobals "_law_expr" = some (some (.ref f23))) (l23:K.lookup f23=some ⟨oc23,od23,.func (PySem.W.fnOf "_law_expr" "_law_expr" (xC (top 43)) (xB (top 43)) (xA (top 43)) .none kV23 dc23 pm23 an23 cd23 ct23),sl23⟩) (c23:PySem.W.codeIn K cd23 "_law_expr" = true) (k23:PySem.W.keepIn K (.ref f23)=true)
  (a24:PySem.W.nsIn K mainGlobals "_law_cond" = some (some (.ref f24))) (l24:K.lookup f24=some ⟨oc24,od24,.func (PySem.W.fnOf "_law_cond" "_law_cond" (xC (top 44)) (xB (top 44)) (xA (top 44)) .none kV24 dc24 pm24 an24 cd24 ct24),sl24⟩) (c24:PySem.W.codeIn K cd24 "_law_cond" = true) (k24:PySem.W.keepIn K (.ref f24)=true)
  (a25:PySem.W.nsIn K mainGlobals "_law_worth" = some (some (.ref f25))) (l25:K.lookup f25=some ⟨oc25,od25,.func (PySem.W.fnOf "_law_worth" "_law_worth" (xC (top 45)) (xB (top 45)) (xA (top 45)) .none kV25 dc25 pm25 an25 cd25 ct25),sl25⟩) (c25:PySem.W.codeIn K cd25 "_law_worth" = true) (k25:PySem.W.keepIn K (.ref f25)=true)
  (a26:PySem.W.nsIn K mainGlobals "_law_holds" = some (some (.ref f26))) (l26:K.lookup f26=some ⟨oc26,od26,.func (PySem.W.fnOf "_law_holds" "_law_holds" (xC (top 46)) (xB (top 46)) (xA (top 46)) .none kV26 dc26 pm26 an26 cd26 ct26),sl26⟩) (c26:PySem.W.codeIn K cd26 "_law_holds" = true) (k26:PySem.W.keepIn K (.ref f26)=true)
  (a27:PySem.W.nsIn K mainGlobals "_law_values" = some (some (.ref f27))) (l27:K.lookup f27=some ⟨oc27,od27,.func (PySem.W.fnOf "_law_values" "_law_values" (xC (top 47)) (xB (top 47)) (xA (top 47)) .none kV27 dc27 pm27 an27 cd27 ct27),sl27⟩) (c27:PySem.W.codeIn K cd27 "_law_values" = true) (k27:PySem.W.keepIn K (.ref f27)=true)
  (a28:PySem.W.nsIn K mainGlobals "_law_standings" = some (some (.ref f28))) (l28:K.lookup f28=some ⟨oc28,od28,.func (PySem.W.fnOf "_law_standings" "_law_standings" (xC (top 48)) (xB (top 48)) (xA (top 48)) .none kV28 dc28 pm28 an28 cd28 ct28),sl28⟩) (c28:PySem.W.codeIn K cd28 "_law_standings" = true) (k28:PySem.W.keepIn K (.ref f28)=true)
  (a29:PySem.W.nsIn K mainGlobals "_law_deed" = some (some (.ref f29))) (l29:K.lookup f29=some ⟨oc29,od29,.func (PySem.W.fnOf "_law_deed" "_law_deed" (xC (top 49)) (xB (top 49)) (xA (top 49)) .none kV29 dc29 pm29 an29 cd29 ct29),sl29⟩) (c29:PySem.W.codeIn K cd29 "_law_deed" = true) (k29:PySem.W.keepIn K (.ref f29)=true)
  (a30:PySem.W.nsIn K mainGlobals "_law_world" = some (some (.ref f30))) (l30:K.lookup f30=some ⟨oc30,od30,.func (PySem.W.fnOf "_law_world" "_law_world" (xC (top 50)) (xB (top 50)) (xA (top 50)) .none kV30 dc30 pm30 an30 cd30 ct30),sl30⟩) (c30:PySem.W.codeIn K cd30 "_law_world" = true) (k30:PySem.W.keepIn K (.ref f30)=true)
  (a31:PySem.W.nsIn K mainGlobals "shown_world" = some (some (.ref f31))) (l31:K.lookup f31=some ⟨oc31,od31,.func (PySem.W.fnOf "shown_world" "shown_world" (xC (top 30)) (xB (top 30)) (xA (top 30)) .none kV31 dc31 pm31 an31 cd31 ct31),sl31⟩) (c31:PySem.W.codeIn K cd31 "shown_world" = true) (k31:PySem.W.keepIn K (.ref f31)=true)
  (a32:PySem.W.nsIn K mainGlobals "shown_need" = some (some (.ref f32))) (l32:K.lookup f32=some ⟨oc32,od32,.func (PySem.W.fnOf "shown_need" "shown_need" (xC (top 31)) (xB (top 31)) (xA (top 31)) .none kV32 dc32 pm32 an32 cd32 ct32),sl32⟩) (c32:PySem.W.codeIn K cd32 "shown_need" = true) (k32:PySem.W.keepIn K (.ref f32)=true)
  (a33:PySem.W.nsIn K mainGlobals "shown_way" = some (some (.ref f33))) (l33:K.lookup f33=some ⟨oc33,od33,.func (PySem.W.fnOf "shown_way" "shown_way" (xC (top 32)) (xB (top 32)) (xA (top 32)) .none kV33 dc33 pm33 an33 cd33 ct33),sl33⟩) (c33:PySem.W.codeIn K cd33 "shown_way" = true) (k33:PySem.W.keepIn K (.ref f33)=true)
  (a34:PySem.W.nsIn K mainGlobals "shown_thing" = some (some (.ref f34))) (l34:K.lookup f34=some ⟨oc34,od34,.func (PySem.W.fnOf "shown_thing" "shown_thing" (xC (top 33)) (xB (top 33)) (xA (top 33)) .none kV34 dc34 pm34 an34 cd34 ct34),sl34⟩) (c34:PySem.W.codeIn K cd34 "shown_thing" = true) (k34:PySem.W.keepIn K (.ref f34)=true)
  (a35:PySem.W.nsIn K mainGlobals "shown_number" = some (some (.ref f35))) (l35:K.lookup f35=some ⟨oc35,od35,.func (PySem.W.fnOf "shown_number" "shown_number" (xC (top 34)) (xB (top 34)) (xA (top 34)) .none kV35 dc35 pm35 an35 cd35 ct35),sl35⟩) (c35:PySem.W.codeIn K cd35 "shown_number" = true) (k35:PySem.W.keepIn K (.ref f35)=true)
  (a36:PySem.W.nsIn K mainGlobals "_law_shown" = some (some (.ref f36))) (l36:K.lookup f36=some ⟨oc36,od36,.func (PySem.W.fnOf "_law_shown" "_law_shown" (xC (top 51)) (xB (top 51)) (xA (top 51)) .none kV36 dc36 pm36 an36 cd36 ct36),sl36⟩) (c36:PySem.W.codeIn K cd36 "_law_shown" = true) (k36:PySem.W.keepIn K (.ref f36)=true)
  (a37:PySem.W.nsIn K mainGlobals "_law_rows" = some (some (.ref f37))) (l37:K.lookup f37=some ⟨oc37,od37,.func (PySem.W.fnOf "_law_rows" "_law_rows" (xC (top 52)) (xB (top 52)) (xA (top 52)) .none kV37 dc37 pm37 an37 cd37 ct37),sl37⟩) (c37:PySem.W.codeIn K cd37 "_law_rows" = true) (k37:PySem.W.keepIn K (.ref f37)=true)
  (a38:PySem.W.nsIn K mainGlobals "_law_short" = some (some (.ref f38))) (l38:K.lookup f38=some ⟨oc38,od38,.func (PySem.W.fnOf "_law_short" "_law_short" (xC (top 53)) (xB (top 53)) (xA (top 53)) .none kV38 dc38 pm38 an38 cd38 ct38),sl38⟩) (c38:PySem.W.codeIn K cd38 "_law_short" = true) (k38:PySem.W.keepIn K (.ref f38)=true)
  (a39:PySem.W.nsIn K mainGlobals "law" = some (some (.ref f39))) (l39:K.lookup f39=some ⟨oc39,od39,.func (PySem.W.fnOf "law" "law" (xC (top 54)) (xB (top 54)) (xA (top 54)) .none kV39 dc39 pm39 an39 cd39 ct39),sl39⟩) (c39:PySem.W.codeIn K cd39 "law" = true) (k39:PySem.W.keepIn K (.ref f39)=true)
  {t_LEAST_SIZE:Tok} (g_LEAST_SIZE:PySem.W.nsIn K mainGlobals "LEAST_SIZE" = some (some (.int 2 t_LEAST_SIZE)))
  {t_GREATEST_SIZE:Tok} (g_GREATEST_SIZE:PySem.W.nsIn K mainGlobals "GREATEST_SIZE" = some (some (.int 5 t_GREATEST_SIZE)))
  {t_LEAST_PRICE:Tok} (g_LEAST_PRICE:PySem.W.nsIn K mainGlobals "LEAST_PRICE" = some (some (.int 1 t_LEAST_PRICE)))
  {p_WORDS_OF_CONDITIONS:Addr} {n_WORDS_OF_CONDITIONS:Nat} {o_WORDS_OF_CONDITIONS:Obj} {t_WORDS_OF_CONDITIONS0 t_WORDS_OF_CONDITIONS1 t_WORDS_OF_CONDITIONS2:Tok}
  (g_WORDS_OF_CONDITIONS:PySem.W.nsIn K mainGlobals "WORDS_OF_CONDITIONS" = some (some (.ref p_WORDS_OF_CONDITIONS))) (g2_WORDS_OF_CONDITIONS:K.lookup p_WORDS_OF_CONDITIONS=some o_WORDS_OF_CONDITIONS) (g3_WORDS_OF_CONDITIONS:o_WORDS_OF_CONDITIONS.cls=.type "tuple") (g4_WORDS_OF_CONDITIONS:o_WORDS_OF_CONDITIONS.data=.seq #[.str "not" t_WORDS_OF_CONDITIONS0,.str "and" t_WORDS_OF_CONDITIONS1,.str "yes" t_WORDS_OF_CONDITIONS2] n_WORDS_OF_CONDITIONS)
  {t_BLOCK:Tok} (g_BLOCK:PySem.W.nsIn K mainGlobals "BLOCK" = some (some (.int 1000000000000000000 t_BLOCK)))
  {p_YES:Addr} {n_YES:Nat} {o_YES:Obj} {t_YES0:Tok}
  (g_YES:PySem.W.nsIn K mainGlobals "YES" = some (some (.ref p_YES))) (g2_YES:K.lookup p_YES=some o_YES) (g3_YES:o_YES.cls=.type "tuple") (g4_YES:o_YES.data=.seq #[.str "yes" t_YES0] n_YES)
  {p_FORMS:Addr} {ep_FORMS:Nat}
  {t_FORMS0 ct_FORMS0:Tok} {a_FORMS0 b_FORMS0:Addr} {o_FORMS0 q_FORMS0:Obj} {n_FORMS0 m_FORMS0:Nat} {u_FORMS0_0 u_FORMS0_1 u_FORMS0_2 u_FORMS0_3 u_FORMS0_4:Tok}
  {t_FORMS1 ct_FORMS1:Tok} {a_FORMS1 b_FORMS1:Addr} {o_FORMS1 q_FORMS1:Obj} {n_FORMS1 m_FORMS1:Nat} {u_FORMS1_0 u_FORMS1_1 u_FORMS1_2 u_FORMS1_3 u_FORMS1_4:Tok}
  {t_FORMS2 ct_FORMS2:Tok} {a_FORMS2 b_FORMS2:Addr} {o_FORMS2 q_FORMS2:Obj} {n_FORMS2 m_FORMS2:Nat} {u_FORMS2_0 u_FORMS2_1 u_FORMS2_2:Tok}
  {t_FORMS3 ct_FORMS3:Tok} {a_FORMS3 b_FORMS3:Addr} {o_FORMS3 q_FORMS3:Obj} {n_FORMS3 m_FORMS3:Nat} {u_FORMS3_0 u_FORMS3_1 u_FORMS3_2:Tok}
  {t_FORMS4 ct_FORMS4:Tok} {a_FORMS4 b_FORMS4:Addr} {o_FORMS4 q_FORMS4:Obj} {n_FORMS4 m_FORMS4:Nat} {u_FORMS4_0 u_FORMS4_1:Tok}
  {t_FORMS5 ct_FORMS5:Tok} {a_FORMS5 b_FORMS5:Addr} {o_FORMS5 q_FORMS5:Obj} {n_FORMS5 m_FORMS5:Nat} {u_FORMS5_0 u_FORMS5_1 u_FORMS5_2 u_FORMS5_3 u_FORMS5_4:Tok}
  (g_FORMS:PySem.W.nsIn K mainGlobals "FORMS" = some (some (.ref p_FORMS))) (g2_FORMS:K.lookup p_FORMS=some ⟨.type "dict",none,.dict #[⟨PyData.keyHash w.params (Str.ofString "plus"),.str "plus" t_FORMS0,.ref a_FORMS0⟩,⟨PyData.keyHash w.params (Str.ofString "less"),.str "less" t_FORMS1,.ref a_FORMS1⟩,⟨PyData.keyHash w.params (Str.ofString "same"),.str "same" t_FORMS2,.ref a_FORMS2⟩,⟨PyData.keyHash w.params (Str.ofString "under"),.str "under" t_FORMS3,.ref a_FORMS3⟩,⟨PyData.keyHash w.params (Str.ofString "not"),.str "not" t_FORMS4,.ref a_FORMS4⟩,⟨PyData.keyHash w.params (Str.ofString "both"),.str "both" t_FORMS5,.ref a_FORMS5⟩] ep_FORMS,#[]⟩)
  (ha_FORMS0:K.lookup a_FORMS0=some o_FORMS0) (hb_FORMS0:o_FORMS0.cls=.type "tuple") (hc_FORMS0:o_FORMS0.data=.seq #[.str "E" ct_FORMS0,.ref b_FORMS0] n_FORMS0) (hd_FORMS0:K.lookup b_FORMS0=some q_FORMS0) (he_FORMS0:q_FORMS0.cls=.type "tuple") (hf_FORMS0:q_FORMS0.data=.seq #[.str "(" u_FORMS0_0,.str "E" u_FORMS0_1,.str "+" u_FORMS0_2,.str "E" u_FORMS0_3,.str ")" u_FORMS0_4] m_FORMS0)
  (ha_FORMS1:K.lookup a_FORMS1=some o_FORMS1) (hb_FORMS1:o_FORMS1.cls=.type "tuple") (hc_FORMS1:o_FORMS1.data=.seq #[.str "E" ct_FORMS1,.ref b_FORMS1] n_FORMS1) (hd_FORMS1:K.lookup b_FORMS1=some q_FORMS1) (he_FORMS1:q_FORMS1.cls=.type "tuple") (hf_FORMS1:q_FORMS1.data=.seq #[.str "(" u_FORMS1_0,.str "E" u_FORMS1_1,.str "-" u_FORMS1_2,.str "E" u_FORMS1_3,.str ")" u_FORMS1_4] m_FORMS1)
  (ha_FORMS2:K.lookup a_FORMS2=some o_FORMS2) (hb_FORMS2:o_FORMS2.cls=.type "tuple") (hc_FORMS2:o_FORMS2.data=.seq #[.str "C" ct_FORMS2,.ref b_FORMS2] n_FORMS2) (hd_FORMS2:K.lookup b_FORMS2=some q_FORMS2) (he_FORMS2:q_FORMS2.cls=.type "tuple") (hf_FORMS2:q_FORMS2.data=.seq #[.str "E" u_FORMS2_0,.str "=" u_FORMS2_1,.str "E" u_FORMS2_2] m_FORMS2)
  (ha_FORMS3:K.lookup a_FORMS3=some o_FORMS3) (hb_FORMS3:o_FORMS3.cls=.type "tuple") (hc_FORMS3:o_FORMS3.data=.seq #[.str "C" ct_FORMS3,.ref b_FORMS3] n_FORMS3) (hd_FORMS3:K.lookup b_FORMS3=some q_FORMS3) (he_FORMS3:q_FORMS3.cls=.type "tuple") (hf_FORMS3:q_FORMS3.data=.seq #[.str "E" u_FORMS3_0,.str "<" u_FORMS3_1,.str "E" u_FORMS3_2] m_FORMS3)
  (ha_FORMS4:K.lookup a_FORMS4=some o_FORMS4) (hb_FORMS4:o_FORMS4.cls=.type "tuple") (hc_FORMS4:o_FORMS4.data=.seq #[.str "C" ct_FORMS4,.ref b_FORMS4] n_FORMS4) (hd_FORMS4:K.lookup b_FORMS4=some q_FORMS4) (he_FORMS4:q_FORMS4.cls=.type "tuple") (hf_FORMS4:q_FORMS4.data=.seq #[.str "not" u_FORMS4_0,.str "C" u_FORMS4_1] m_FORMS4)
  (ha_FORMS5:K.lookup a_FORMS5=some o_FORMS5) (hb_FORMS5:o_FORMS5.cls=.type "tuple") (hc_FORMS5:o_FORMS5.data=.seq #[.str "C" ct_FORMS5,.ref b_FORMS5] n_FORMS5) (hd_FORMS5:K.lookup b_FORMS5=some q_FORMS5) (he_FORMS5:q_FORMS5.cls=.type "tuple") (hf_FORMS5:q_FORMS5.data=.seq #[.str "(" u_FORMS5_0,.str "C" u_FORMS5_1,.str "and" u_FORMS5_2,.str "C" u_FORMS5_3,.str ")" u_FORMS5_4] m_FORMS5)
  (z_len:PySem.W.nsIn K mainGlobals "len" = some none)
  (z_range:PySem.W.nsIn K mainGlobals "range" = some none)
  (z_min:PySem.W.nsIn K mainGlobals "min" = some none)
  (z_isinstance:PySem.W.nsIn K mainGlobals "isinstance" = some none)
  (z_list:PySem.W.nsIn K mainGlobals "list" = some none)
  (z_reversed:PySem.W.nsIn K mainGlobals "reversed" = some none)
  (z_tuple:PySem.W.nsIn K mainGlobals "tuple" = some none)
  (z_int:PySem.W.nsIn K mainGlobals "int" = some none)
  (z_bool:PySem.W.nsIn K mainGlobals "bool" = some none)
  (z_dict:PySem.W.nsIn K mainGlobals "dict" = some none)
  (z_zip:PySem.W.nsIn K mainGlobals "zip" = some none)
  (z_set:PySem.W.nsIn K mainGlobals "set" = some none)
  (z_abs:PySem.W.nsIn K mainGlobals "abs" = some none)
  (z_str:PySem.W.nsIn K mainGlobals "str" = some none):
  ∃fd:FuncData,(∀(s:Shared) (v:Value),BindsTo s fd ⟨[v],[]⟩ [("script",v)])∧∀base:Heap,K.In base→base.Ns mainGlobals mg→FnOk l.prog w K mg base CX0 60 fa fd ["script"] (spLaw K):=by
 have e:=hfa.symm.trans (PySem.W.mg_of X G a39)
 cases e
 have F0:=xT (st:=top 14) l0 c0 k0
 have b0:=F0.binds (ps:=["boxes","deeds","looks","begin","goal"]) fun _ _ _ _ _ _=>len5 (fun _ _ _ _ _=>rfl)
 have E0:FunE K mg "world_of" f0 _ ["boxes","deeds","looks","begin","goal"]:=⟨PySem.W.mg_of X G a0,k0,b0⟩
 have FD_world_of:Fd K mg "world_of" (top 14) ["boxes","deeds","looks","begin","goal"]:=⟨f0,_,F0,E0.mg,E0.kp,E0.bd⟩
 have F1:=xT (st:=top 15) l1 c1 k1
 have b1:=F1.binds (ps:=["boxes"]) fun _ _ _ _ _ _=>len1 (fun _=>rfl)
 have E1:FunE K mg "standings_of_boxes" f1 _ ["boxes"]:=⟨PySem.W.mg_of X G a1,k1,b1⟩
 have FD_standings_of_boxes:Fd K mg "standings_of_boxes" (top 15) ["boxes"]:=⟨f1,_,F1,E1.mg,E1.kp,E1.bd⟩
 have F2:=xT (st:=top 16) l2 c2 k2
 have b2:=F2.binds (ps:=["deed"]) fun _ _ _ _ _ _=>len1 (fun _=>rfl)
 have E2:FunE K mg "copied_deed" f2 _ ["deed"]:=⟨PySem.W.mg_of X G a2,k2,b2⟩
 have FD_copied_deed:Fd K mg "copied_deed" (top 16) ["deed"]:=⟨f2,_,F2,E2.mg,E2.kp,E2.bd⟩
 have F3:=xT (st:=top 17) l3 c3 k3
 have b3:=F3.binds (ps:=["thing"]) fun _ _ _ _ _ _=>len1 (fun _=>rfl)
 have E3:FunE K mg "is_whole" f3 _ ["thing"]:=⟨PySem.W.mg_of X G a3,k3,b3⟩
 have FD_is_whole:Fd K mg "is_whole" (top 17) ["thing"]:=⟨f3,_,F3,E3.mg,E3.kp,E3.bd⟩
 have F4:=xT (st:=top 18) l4 c4 k4
 have b4:=F4.binds (ps:=["boxes"]) fun _ _ _ _ _ _=>len1 (fun _=>rfl)
 have E4:FunE K mg "refuse_boxes" f4 _ ["boxes"]:=⟨PySem.W.mg_of X G a4,k4,b4⟩
 have FD_refuse_boxes:Fd K mg "refuse_boxes" (top 18) ["boxes"]:=⟨f4,_,F4,E4.mg,E4.kp,E4.bd⟩
 have F5:=xT (st:=top 19) l5 c5 k5
 have b5:=F5.binds (ps:=["names","kind"]) fun _ _ _ _ _ _=>len2 (fun _ _=>rfl)
 have E5:FunE K mg "refuse_twice" f5 _ ["names","kind"]:=⟨PySem.W.mg_of X G a5,k5,b5⟩
 have FD_refuse_twice:Fd K mg "refuse_twice" (top 19) ["names","kind"]:=⟨f5,_,F5,E5.mg,E5.kp,E5.bd⟩
 have F6:=xT (st:=top 20) l6 c6 k6
 have b6:=F6.binds (ps:=["name","price"]) fun _ _ _ _ _ _=>len2 (fun _ _=>rfl)
 have E6:FunE K mg "refuse_price" f6 _ ["name","price"]:=⟨PySem.W.mg_of X G a6,k6,b6⟩
 have FD_refuse_price:Fd K mg "refuse_price" (top 20) ["name","price"]:=⟨f6,_,F6,E6.mg,E6.kp,E6.bd⟩
 have F7:=xT (st:=top 21) l7 c7 k7
 have b7:=F7.binds (ps:=["deed_name","ways","names"]) fun _ _ _ _ _ _=>len3 (fun _ _ _=>rfl)
 have E7:FunE K mg "refuse_ways" f7 _ ["deed_name","ways","names"]:=⟨PySem.W.mg_of X G a7,k7,b7⟩
 have FD_refuse_ways:Fd K mg "refuse_ways" (top 21) ["deed_name","ways","names"]:=⟨f7,_,F7,E7.mg,E7.kp,E7.bd⟩
 have F8:=xT (st:=top 22) l8 c8 k8
 have b8:=F8.binds (ps:=["name","names"]) fun _ _ _ _ _ _=>len2 (fun _ _=>rfl)
 have E8:FunE K mg "refuse_strange_name" f8 _ ["name","names"]:=⟨PySem.W.mg_of X G a8,k8,b8⟩
 have FD_refuse_strange_name:Fd K mg "refuse_strange_name" (top 22) ["name","names"]:=⟨f8,_,F8,E8.mg,E8.kp,E8.bd⟩
 have F9:=xT (st:=top 23) l9 c9 k9
 have b9:=F9.binds (ps:=["thing","names"]) fun _ _ _ _ _ _=>len2 (fun _ _=>rfl)
 have E9:FunE K mg "refuse_strange_names" f9 _ ["thing","names"]:=⟨PySem.W.mg_of X G a9,k9,b9⟩
 have FD_refuse_strange_names:Fd K mg "refuse_strange_names" (top 23) ["thing","names"]:=⟨f9,_,F9,E9.mg,E9.kp,E9.bd⟩
 have F10:=xT (st:=top 24) l10 c10 k10
 have b10:=F10.binds (ps:=["begin","boxes"]) fun _ _ _ _ _ _=>len2 (fun _ _=>rfl)
 have E10:FunE K mg "refuse_begin" f10 _ ["begin","boxes"]:=⟨PySem.W.mg_of X G a10,k10,b10⟩
 have FD_refuse_begin:Fd K mg "refuse_begin" (top 24) ["begin","boxes"]:=⟨f10,_,F10,E10.mg,E10.kp,E10.bd⟩
 have F11:=xT (st:=top 4) l11 c11 k11
 have b11:=F11.binds (ps:=["condition","boxes","standing"]) fun _ _ _ _ _ _=>len3 (fun _ _ _=>rfl)
 have E11:FunE K mg "holds" f11 _ ["condition","boxes","standing"]:=⟨PySem.W.mg_of X G a11,k11,b11⟩
 have FD_holds:Fd K mg "holds" (top 4) ["condition","boxes","standing"]:=⟨f11,_,F11,E11.mg,E11.kp,E11.bd⟩
 have F12:=xT (st:=top 5) l12 c12 k12
 have b12:=F12.binds (ps:=["thing"]) fun _ _ _ _ _ _=>len1 (fun _=>rfl)
 have E12:FunE K mg "names_in" f12 _ ["thing"]:=⟨PySem.W.mg_of X G a12,k12,b12⟩
 have FD_names_in:Fd K mg "names_in" (top 5) ["thing"]:=⟨f12,_,F12,E12.mg,E12.kp,E12.bd⟩
 have F13:=xT (st:=top 6) l13 c13 k13
 have b13:=F13.binds (ps:=["boxes","standing"]) fun _ _ _ _ _ _=>len2 (fun _ _=>rfl)
 have E13:FunE K mg "values_by_name" f13 _ ["boxes","standing"]:=⟨PySem.W.mg_of X G a13,k13,b13⟩
 have FD_values_by_name:Fd K mg "values_by_name" (top 6) ["boxes","standing"]:=⟨f13,_,F13,E13.mg,E13.kp,E13.bd⟩
 have F14:=xT (st:=top 7) l14 c14 k14
 have b14:=F14.binds (ps:=["expression","values"]) fun _ _ _ _ _ _=>len2 (fun _ _=>rfl)
 have E14:FunE K mg "worth_by" f14 _ ["expression","values"]:=⟨PySem.W.mg_of X G a14,k14,b14⟩
 have FD_worth_by:Fd K mg "worth_by" (top 7) ["expression","values"]:=⟨f14,_,F14,E14.mg,E14.kp,E14.bd⟩
 have F15:=xT (st:=top 8) l15 c15 k15
 have b15:=F15.binds (ps:=["condition","values"]) fun _ _ _ _ _ _=>len2 (fun _ _=>rfl)
 have E15:FunE K mg "holds_by" f15 _ ["condition","values"]:=⟨PySem.W.mg_of X G a15,k15,b15⟩
 have FD_holds_by:Fd K mg "holds_by" (top 8) ["condition","values"]:=⟨f15,_,F15,E15.mg,E15.kp,E15.bd⟩
 have F16:=xT (st:=top 36) l16 c16 k16
 have b16:=F16.binds (ps:=["script","k"]) fun _ _ _ _ _ _=>len2 (fun _ _=>rfl)
 have E16:FunE K mg "_law_cell_at" f16 _ ["script","k"]:=⟨PySem.W.mg_of X G a16,k16,b16⟩
 have FD_law_cell_at:Fd K mg "_law_cell_at" (top 36) ["script","k"]:=⟨f16,_,F16,E16.mg,E16.kp,E16.bd⟩
 have F17:=xT (st:=top 37) l17 c17 k17
 have b17:=F17.binds (ps:=["cell","k"]) fun _ _ _ _ _ _=>len2 (fun _ _=>rfl)
 have E17:FunE K mg "_law_stir" f17 _ ["cell","k"]:=⟨PySem.W.mg_of X G a17,k17,b17⟩
 have FD_law_stir:Fd K mg "_law_stir" (top 37) ["cell","k"]:=⟨f17,_,F17,E17.mg,E17.kp,E17.bd⟩
 have F18:=xT (st:=top 38) l18 c18 k18
 have b18:=F18.binds (ps:=["cell","sizes"]) fun _ _ _ _ _ _=>len2 (fun _ _=>rfl)
 have E18:FunE K mg "_law_drawn" f18 _ ["cell","sizes"]:=⟨PySem.W.mg_of X G a18,k18,b18⟩
 have FD_law_drawn:Fd K mg "_law_drawn" (top 38) ["cell","sizes"]:=⟨f18,_,F18,E18.mg,E18.kp,E18.bd⟩
 have F19:=xT (st:=top 39) l19 c19 k19
 have b19:=F19.binds (ps:=["cell"]) fun _ _ _ _ _ _=>len1 (fun _=>rfl)
 have E19:FunE K mg "_law_deck" f19 _ ["cell"]:=⟨PySem.W.mg_of X G a19,k19,b19⟩
 have FD_law_deck:Fd K mg "_law_deck" (top 39) ["cell"]:=⟨f19,_,F19,E19.mg,E19.kp,E19.bd⟩
 have F20:=xT (st:=top 40) l20 c20 k20
 have b20:=F20.binds (ps:=["deck","many"]) fun _ _ _ _ _ _=>len2 (fun _ _=>rfl)
 have E20:FunE K mg "_law_take" f20 _ ["deck","many"]:=⟨PySem.W.mg_of X G a20,k20,b20⟩
 have FD_law_take:Fd K mg "_law_take" (top 40) ["deck","many"]:=⟨f20,_,F20,E20.mg,E20.kp,E20.bd⟩
 have F21:=xT (st:=top 41) l21 c21 k21
 have b21:=F21.binds (ps:=["number","many"]) fun _ _ _ _ _ _=>len2 (fun _ _=>rfl)
 have E21:FunE K mg "_law_unlike" f21 _ ["number","many"]:=⟨PySem.W.mg_of X G a21,k21,b21⟩
 have FD_law_unlike:Fd K mg "_law_unlike" (top 41) ["number","many"]:=⟨f21,_,F21,E21.mg,E21.kp,E21.bd⟩
 have F22:=xT (st:=top 42) l22 c22 k22
 have b22:=F22.binds (ps:=["cell"]) fun _ _ _ _ _ _=>len1 (fun _=>rfl)
 have E22:FunE K mg "_law_boxes" f22 _ ["cell"]:=⟨PySem.W.mg_of X G a22,k22,b22⟩
 have FD_law_boxes:Fd K mg "_law_boxes" (top 42) ["cell"]:=⟨f22,_,F22,E22.mg,E22.kp,E22.bd⟩
 have F23:=xT (st:=top 43) l23 c23 k23
 have b23:=F23.binds (ps:=["deck","words","deep"]) fun _ _ _ _ _ _=>len3 (fun _ _ _=>rfl)
 have E23:FunE K mg "_law_expr" f23 _ ["deck","words","deep"]:=⟨PySem.W.mg_of X G a23,k23,b23⟩
 have FD_law_expr:Fd K mg "_law_expr" (top 43) ["deck","words","deep"]:=⟨f23,_,F23,E23.mg,E23.kp,E23.bd⟩
 have F24:=xT (st:=top 44) l24 c24 k24
 have b24:=F24.binds (ps:=["deck","words","deep"]) fun _ _ _ _ _ _=>len3 (fun _ _ _=>rfl)
 have E24:FunE K mg "_law_cond" f24 _ ["deck","words","deep"]:=⟨PySem.W.mg_of X G a24,k24,b24⟩
 have FD_law_cond:Fd K mg "_law_cond" (top 44) ["deck","words","deep"]:=⟨f24,_,F24,E24.mg,E24.kp,E24.bd⟩
 have F25:=xT (st:=top 45) l25 c25 k25
 have b25:=F25.binds (ps:=["part","values"]) fun _ _ _ _ _ _=>len2 (fun _ _=>rfl)
 have E25:FunE K mg "_law_worth" f25 _ ["part","values"]:=⟨PySem.W.mg_of X G a25,k25,b25⟩
 have FD_law_worth:Fd K mg "_law_worth" (top 45) ["part","values"]:=⟨f25,_,F25,E25.mg,E25.kp,E25.bd⟩
 have F26:=xT (st:=top 46) l26 c26 k26
 have b26:=F26.binds (ps:=["cond","values"]) fun _ _ _ _ _ _=>len2 (fun _ _=>rfl)
 have E26:FunE K mg "_law_holds" f26 _ ["cond","values"]:=⟨PySem.W.mg_of X G a26,k26,b26⟩
 have FD_law_holds:Fd K mg "_law_holds" (top 46) ["cond","values"]:=⟨f26,_,F26,E26.mg,E26.kp,E26.bd⟩
 have F27:=xT (st:=top 47) l27 c27 k27
 have b27:=F27.binds (ps:=["boxes","standing"]) fun _ _ _ _ _ _=>len2 (fun _ _=>rfl)
 have E27:FunE K mg "_law_values" f27 _ ["boxes","standing"]:=⟨PySem.W.mg_of X G a27,k27,b27⟩
 have FD_law_values:Fd K mg "_law_values" (top 47) ["boxes","standing"]:=⟨f27,_,F27,E27.mg,E27.kp,E27.bd⟩
 have F28:=xT (st:=top 48) l28 c28 k28
 have b28:=F28.binds (ps:=["boxes"]) fun _ _ _ _ _ _=>len1 (fun _=>rfl)
 have E28:FunE K mg "_law_standings" f28 _ ["boxes"]:=⟨PySem.W.mg_of X G a28,k28,b28⟩
 have FD_law_standings:Fd K mg "_law_standings" (top 48) ["boxes"]:=⟨f28,_,F28,E28.mg,E28.kp,E28.bd⟩
 have F29:=xT (st:=top 49) l29 c29 k29
 have b29:=F29.binds (ps:=["deck","name","words"]) fun _ _ _ _ _ _=>len3 (fun _ _ _=>rfl)
 have E29:FunE K mg "_law_deed" f29 _ ["deck","name","words"]:=⟨PySem.W.mg_of X G a29,k29,b29⟩
 have FD_law_deed:Fd K mg "_law_deed" (top 49) ["deck","name","words"]:=⟨f29,_,F29,E29.mg,E29.kp,E29.bd⟩
 have F30:=xT (st:=top 50) l30 c30 k30
 have b30:=F30.binds (ps:=["script"]) fun _ _ _ _ _ _=>len1 (fun _=>rfl)
 have E30:FunE K mg "_law_world" f30 _ ["script"]:=⟨PySem.W.mg_of X G a30,k30,b30⟩
 have FD_law_world:Fd K mg "_law_world" (top 50) ["script"]:=⟨f30,_,F30,E30.mg,E30.kp,E30.bd⟩
 have F31:=xT (st:=top 30) l31 c31 k31
 have b31:=F31.binds (ps:=["world"]) fun _ _ _ _ _ _=>len1 (fun _=>rfl)
 have E31:FunE K mg "shown_world" f31 _ ["world"]:=⟨PySem.W.mg_of X G a31,k31,b31⟩
 have FD_shown_world:Fd K mg "shown_world" (top 30) ["world"]:=⟨f31,_,F31,E31.mg,E31.kp,E31.bd⟩
 have F32:=xT (st:=top 31) l32 c32 k32
 have b32:=F32.binds (ps:=["need"]) fun _ _ _ _ _ _=>len1 (fun _=>rfl)
 have E32:FunE K mg "shown_need" f32 _ ["need"]:=⟨PySem.W.mg_of X G a32,k32,b32⟩
 have FD_shown_need:Fd K mg "shown_need" (top 31) ["need"]:=⟨f32,_,F32,E32.mg,E32.kp,E32.bd⟩
 have F33:=xT (st:=top 32) l33 c33 k33
 have b33:=F33.binds (ps:=["way"]) fun _ _ _ _ _ _=>len1 (fun _=>rfl)
 have E33:FunE K mg "shown_way" f33 _ ["way"]:=⟨PySem.W.mg_of X G a33,k33,b33⟩
 have FD_shown_way:Fd K mg "shown_way" (top 32) ["way"]:=⟨f33,_,F33,E33.mg,E33.kp,E33.bd⟩
 have F34:=xT (st:=top 33) l34 c34 k34
 have b34:=F34.binds (ps:=["thing"]) fun _ _ _ _ _ _=>len1 (fun _=>rfl)
 have E34:FunE K mg "shown_thing" f34 _ ["thing"]:=⟨PySem.W.mg_of X G a34,k34,b34⟩
 have FD_shown_thing:Fd K mg "shown_thing" (top 33) ["thing"]:=⟨f34,_,F34,E34.mg,E34.kp,E34.bd⟩
 have F35:=xT (st:=top 34) l35 c35 k35
 have b35:=F35.binds (ps:=["number"]) fun _ _ _ _ _ _=>len1 (fun _=>rfl)
 have E35:FunE K mg "shown_number" f35 _ ["number"]:=⟨PySem.W.mg_of X G a35,k35,b35⟩
 have FD_shown_number:Fd K mg "shown_number" (top 34) ["number"]:=⟨f35,_,F35,E35.mg,E35.kp,E35.bd⟩
 have F36:=xT (st:=top 51) l36 c36 k36
 have b36:=F36.binds (ps:=["thing"]) fun _ _ _ _ _ _=>len1 (fun _=>rfl)
 have E36:FunE K mg "_law_shown" f36 _ ["thing"]:=⟨PySem.W.mg_of X G a36,k36,b36⟩
 have FD_law_shown:Fd K mg "_law_shown" (top 51) ["thing"]:=⟨f36,_,F36,E36.mg,E36.kp,E36.bd⟩
 have F37:=xT (st:=top 52) l37 c37 k37
 have b37:=F37.binds (ps:=["world"]) fun _ _ _ _ _ _=>len1 (fun _=>rfl)
 have E37:FunE K mg "_law_rows" f37 _ ["world"]:=⟨PySem.W.mg_of X G a37,k37,b37⟩
 have FD_law_rows:Fd K mg "_law_rows" (top 52) ["world"]:=⟨f37,_,F37,E37.mg,E37.kp,E37.bd⟩
 have F38:=xT (st:=top 53) l38 c38 k38
 have b38:=F38.binds (ps:=["world"]) fun _ _ _ _ _ _=>len1 (fun _=>rfl)
 have E38:FunE K mg "_law_short" f38 _ ["world"]:=⟨PySem.W.mg_of X G a38,k38,b38⟩
 have FD_law_short:Fd K mg "_law_short" (top 53) ["world"]:=⟨f38,_,F38,E38.mg,E38.kp,E38.bd⟩
 have F39:=xT (st:=top 54) l39 c39 k39
 have GL_LEAST_SIZE:Gi mg "LEAST_SIZE" 2:=⟨_,PySem.W.mg_of X G g_LEAST_SIZE⟩
 have GL_GREATEST_SIZE:Gi mg "GREATEST_SIZE" 5:=⟨_,PySem.W.mg_of X G g_GREATEST_SIZE⟩
 have GL_LEAST_PRICE:Gi mg "LEAST_PRICE" 1:=⟨_,PySem.W.mg_of X G g_LEAST_PRICE⟩
 have GL_WORDS_OF_CONDITIONS:Gs K mg "WORDS_OF_CONDITIONS" ["not","and","yes"]:=⟨_,PySem.W.mg_of X G g_WORDS_OF_CONDITIONS,fun H=>.inr ⟨_,_,_,g2_WORDS_OF_CONDITIONS,g3_WORDS_OF_CONDITIONS,g4_WORDS_OF_CONDITIONS,(by show 3≤sizeLine;decide),.cons ⟨_,rfl⟩ (.cons ⟨_,rfl⟩ (.cons ⟨_,rfl⟩ (.nil)))⟩⟩
 have GL_BLOCK:Gi mg "BLOCK" 1000000000000000000:=⟨_,PySem.W.mg_of X G g_BLOCK⟩
 have GL_YES:Gs K mg "YES" ["yes"]:=⟨_,PySem.W.mg_of X G g_YES,fun H=>.inr ⟨_,_,_,g2_YES,g3_YES,g4_YES,(by show 1≤sizeLine;decide),.cons ⟨_,rfl⟩ (.nil)⟩⟩
 have GL_FORMS:Gf w K mg "FORMS" forms80:=⟨_,_,[⟨"plus",t_FORMS0,a_FORMS0,"E",b_FORMS0,["(","E","+","E",")"]⟩,⟨"less",t_FORMS1,a_FORMS1,"E",b_FORMS1,["(","E","-","E",")"]⟩,⟨"same",t_FORMS2,a_FORMS2,"C",b_FORMS2,["E","=","E"]⟩,⟨"under",t_FORMS3,a_FORMS3,"C",b_FORMS3,["E","<","E"]⟩,⟨"not",t_FORMS4,a_FORMS4,"C",b_FORMS4,["not","C"]⟩,⟨"both",t_FORMS5,a_FORMS5,"C",b_FORMS5,["(","C","and","C",")"]⟩],ep_FORMS,PySem.W.mg_of X G g_FORMS,g2_FORMS,⟨rfl,rfl,rfl⟩,rfl,rfl,by decide +kernel,fun e he=>by
  rcases List.mem_cons.mp he with rfl | he
  ·exact⟨fun _=>.inr ⟨_,_,_,ha_FORMS0,hb_FORMS0,hc_FORMS0,(by show 2≤sizeLine;decide),.cons ⟨_,rfl⟩ (.cons rfl .nil)⟩,fun _=>.inr ⟨_,_,_,hd_FORMS0,he_FORMS0,hf_FORMS0,(by show 5≤sizeLine;decide),.cons ⟨_,rfl⟩ (.cons ⟨_,rfl⟩ (.cons ⟨_,rfl⟩ (.cons ⟨_,rfl⟩ (.cons ⟨_,rfl⟩ (.nil)))))⟩⟩
  rcases List.mem_cons.mp he with rfl | he
  ·exact⟨fun _=>.inr ⟨_,_,_,ha_FORMS1,hb_FORMS1,hc_FORMS1,(by show 2≤sizeLine;decide),.cons ⟨_,rfl⟩ (.cons rfl .nil)⟩,fun _=>.inr ⟨_,_,_,hd_FORMS1,he_FORMS1,hf_FORMS1,(by show 5≤sizeLine;decide),.cons ⟨_,rfl⟩ (.cons ⟨_,rfl⟩ (.cons ⟨_,rfl⟩ (.cons ⟨_,rfl⟩ (.cons ⟨_,rfl⟩ (.nil)))))⟩⟩
  rcases List.mem_cons.mp he with rfl | he
  ·exact⟨fun _=>.inr ⟨_,_,_,ha_FORMS2,hb_FORMS2,hc_FORMS2,(by show 2≤sizeLine;decide),.cons ⟨_,rfl⟩ (.cons rfl .nil)⟩,fun _=>.inr ⟨_,_,_,hd_FORMS2,he_FORMS2,hf_FORMS2,(by show 3≤sizeLine;decide),.cons ⟨_,rfl⟩ (.cons ⟨_,rfl⟩ (.cons ⟨_,rfl⟩ (.nil)))⟩⟩
  rcases List.mem_cons.mp he with rfl | he
  ·exact⟨fun _=>.inr ⟨_,_,_,ha_FORMS3,hb_FORMS3,hc_FORMS3,(by show 2≤sizeLine;decide),.cons ⟨_,rfl⟩ (.cons rfl .nil)⟩,fun _=>.inr ⟨_,_,_,hd_FORMS3,he_FORMS3,hf_FORMS3,(by show 3≤sizeLine;decide),.cons ⟨_,rfl⟩ (.cons ⟨_,rfl⟩ (.cons ⟨_,rfl⟩ (.nil)))⟩⟩
  rcases List.mem_cons.mp he with rfl | he
  ·exact⟨fun _=>.inr ⟨_,_,_,ha_FORMS4,hb_FORMS4,hc_FORMS4,(by show 2≤sizeLine;decide),.cons ⟨_,rfl⟩ (.cons rfl .nil)⟩,fun _=>.inr ⟨_,_,_,hd_FORMS4,he_FORMS4,hf_FORMS4,(by show 2≤sizeLine;decide),.cons ⟨_,rfl⟩ (.cons ⟨_,rfl⟩ (.nil))⟩⟩
  rcases List.mem_cons.mp he with rfl | he
  ·exact⟨fun _=>.inr ⟨_,_,_,ha_FORMS5,hb_FORMS5,hc_FORMS5,(by show 2≤sizeLine;decide),.cons ⟨_,rfl⟩ (.cons rfl .nil)⟩,fun _=>.inr ⟨_,_,_,hd_FORMS5,he_FORMS5,hf_FORMS5,(by show 5≤sizeLine;decide),.cons ⟨_,rfl⟩ (.cons ⟨_,rfl⟩ (.cons ⟨_,rfl⟩ (.cons ⟨_,rfl⟩ (.cons ⟨_,rfl⟩ (.nil)))))⟩⟩
  ·cases he⟩
 have B:Bl mg:=⟨PySem.W.mg_none_of X G z_len,PySem.W.mg_none_of X G z_range,PySem.W.mg_none_of X G z_min,PySem.W.mg_none_of X G z_isinstance,PySem.W.mg_none_of X G z_list,PySem.W.mg_none_of X G z_reversed,PySem.W.mg_none_of X G z_tuple,PySem.W.mg_none_of X G z_int,PySem.W.mg_none_of X G z_bool,PySem.W.mg_none_of X G z_dict,PySem.W.mg_none_of X G z_zip⟩
 have B_set:mg "set" = none:=PySem.W.mg_none_of X G z_set
 have B_abs:mg "abs" = none:=PySem.W.mg_none_of X G z_abs
 have B_str:mg "str" = none:=PySem.W.mg_none_of X G z_str
 refine⟨PySem.W.fnOf "law" "law" (xC (top 54)) (xB (top 54)) (xA (top 54)) .none kV39 dc39 pm39 an39 cd39 ct39,fun s v=>.of_eq rfl,fun base YK _=>?_⟩
 have GS:=qNo (P:=l.prog) (w:=w) (mg:=mg) (base:=base) F17
 have GT:=qNn (P:=l.prog) (w:=w) (mg:=mg) (base:=base) F20
 have GE:=qDb (P:=l.prog) (w:=w) (base:=base) F23 B E23 GT E20
 have D_cell:=Dn.mk (x := "_law_cell_at") ⟨_,_,qOx (P:=l.prog) (w:=w) (base:=base) F16 B,E16.mg,E16.kp,E16.bd⟩
 have D_take:=Dn.mk (x := "_law_take") ⟨_,_,GT,E20.mg,E20.kp,E20.bd⟩
 have D_deck:=Dn.mk (x := "_law_deck") ⟨_,_,qOq F19 GS E17,E19.mg,E19.kp,E19.bd⟩
 have GD:=qHk F18 B GS E17
 have GU:=qDk (P:=l.prog) (w:=w) (base:=base) F21 B
 have D_boxes:=Dn.mk (x := "_law_boxes") ⟨_,_,qHa F22 B GD E18 (GU.mono (by decide)) E21,E22.mg,E22.kp,E22.bd⟩
 have D_cond:=Dn.mk (x := "_law_cond") ⟨_,_,qDc F24 B E24 (GE 3) E23 GT E20 3,E24.mg,E24.kp,E24.bd⟩
 have D_expr:=Dn.mk (x := "_law_expr") ⟨_,_,GE 3,E23.mg,E23.kp,E23.bd⟩
 have D_lworth:=Dn.mk (x := "_law_worth") ⟨_,_,qDa (P:=l.prog) (w:=w) (base:=base) F25 B,E25.mg,E25.kp,E25.bd⟩
 have D_lvalues:=Dn.mk (x := "_law_values") ⟨_,_,qBk (P:=l.prog) (w:=w) (base:=base) F27 B,E27.mg,E27.kp,E27.bd⟩
 have D_values:=Dn.mk (x := "values_by_name") ⟨_,_,qDj (P:=l.prog) (w:=w) (base:=base) F13 B,E13.mg,E13.kp,E13.bd⟩
 have GW:=qQw (P:=l.prog) (w:=w) (base:=base) F14 E14 12
 have D_wb:=Dn.mk (x := "worth_by") ⟨_,_,GW,E14.mg,E14.kp,E14.bd⟩
 have D_names:=Dn.mk (x := "names_in") ⟨_,_,qWm (P:=l.prog) (w:=w) (base:=base) F12 E12 12,E12.mg,E12.kp,E12.bd⟩
 have D_drawn:=Dn.mk (x := "_law_drawn") ⟨_,_,GD,E18.mg,E18.kp,E18.bd⟩
 have D_unlike:=Dn.mk (x := "_law_unlike") ⟨_,_,GU,E21.mg,E21.kp,E21.bd⟩
 have D_holds:=qIx FD_holds (qQm FD_holds_by D_wb 12) D_values
 have D_lholds:=qYi FD_law_holds B D_lworth 12
 have D_sob:=qSe (P:=l.prog) (w:=w) (base:=base) FD_standings_of_boxes B
 have D_lstand:=qFj (P:=l.prog) (w:=w) (base:=base) FD_law_standings B
 have D_whole:=qHm (P:=l.prog) (w:=w) (base:=base) FD_is_whole B
 have D_price:=qIq FD_refuse_price D_whole GL_LEAST_PRICE
 have D_strange1:=qVb (P:=l.prog) (w:=w) (base:=base) FD_refuse_strange_name
 have D_strange:=qBe FD_refuse_strange_names D_strange1 D_names
 have D_twice:=qHn (P:=l.prog) (w:=w) (base:=base) FD_refuse_twice B B_set
 have D_rboxes:=qFx FD_refuse_boxes B D_twice D_whole GL_LEAST_SIZE GL_GREATEST_SIZE GL_WORDS_OF_CONDITIONS
 have D_ways:=qOd FD_refuse_ways B D_twice D_strange1 D_strange
 have D_begin:=qIz FD_refuse_begin D_sob D_holds
 have D_copied:=qFk (P:=l.prog) (w:=w) (base:=base) FD_copied_deed B
 have D_world:=qVa FD_world_of B D_rboxes D_twice D_price D_strange D_ways D_begin D_copied
 have D_deed:=qOi FD_law_deed B D_take D_cond D_expr
 have D_lworld:=qFz FD_law_world B D_cell D_boxes D_deck D_cond D_expr D_take D_lstand D_lholds D_lvalues D_drawn D_unlike D_deed
 have D_thing:=qAz FD_shown_thing B (qSf (P:=l.prog) (w:=w) (base:=base) FD_shown_number B_abs B_str GL_BLOCK) GL_YES GL_FORMS 8
 have D_sworld:=qFq FD_shown_world B (qOg FD_shown_need D_thing GL_YES) (qOe FD_shown_way D_thing) D_thing
 have D_rows:=qOf FD_law_rows B B_str (qMa (P:=l.prog) (w:=w) (base:=base) FD_law_shown B B_str 8)
 exact qRm F39 B D_lworld D_world D_sworld D_rows (qHo (P:=l.prog) (w:=w) (base:=base) FD_law_short)
theorem walk {l:PySem.W.OpenLaw}{q:Program}{loose:List Str}{XP:(Str→Option Value)→Heap→Prop}{YP:World→Heap→Prop}{d:DefRec}{K:Params→PySem.W.Frag}(hn:l.most=some 63)(hdf:d.params.defaults=[])
  (hY:∀(w:World) (h:Heap),YP w h→(K w.params).In h)
  (F:∀(w:World) (mg:Str→Option Value) (fa:Addr) (h:Heap),(K w.params).In h→h.Ns mainGlobals mg→mg d.name=some (.ref fa)→
   ∃fd:FuncData,(∀(s:Shared) (u:Value),BindsTo s fd ⟨[u],[]⟩ [("script",u)])∧∀base:Heap,(K w.params).In base→base.Ns mainGlobals mg→FnOk l.prog w (K w.params) mg base CX0 60 fa fd ["script"] (spLaw (K w.params))):
  PySem.W.WalkO q loose XP YP l.row.toRowW d [] (fun f vs=>PySem.call f vs):=
 L2.qMd (n:=63) (k:=60) (x := "script") (CX:=fun _=>CX0) (sp:=fun w=>spLaw (K w.params)) hn (by decide) hdf ⟨rfl,by decide,by decide⟩ hY F (fun _ _ a ns hl _ hS=>⟨a,ns,rfl,hS,hl,fun _=>rfl⟩) fun _ _ _ _ _ z=>z
end FP
open PySem PySem.W PyProof.Rows
set_option maxRecDepth 100000 in
set_option maxHeartbeats 0 in
theorem PySem.Challenge.cw_forkplan_k80_worlds_written_holds : PySem.Challenge.rw_forkplan_k80_worlds_written.Holds := by
 w_on
 refine PySem.W.holds_law (by decide +kernel) fun said=>?_
 refine PySem.W.holds_open (q:=FP.wO) (loose:=[Str.ofString "FORMS"]) (N:=4446) (YP:=InK FP.qKb) (XP:=XL FP.wO [])
  (Xt:=fun s=>xlAt FP.wO [] s && recOk (RowW.records (OpenRow.toRowW (PySem.W.OpenLaw.row PySem.Challenge.rw_forkplan_k80_worlds_written))) s)
  (Yf:=Hook.obs FP.vO) (Ya:=Hook.val FP.vO) FP.qMi
  (Hook.of FP.vO) (Hook.keeps FP.vO) (fun s e=>xl_of s (Bool.and_eq_true_iff.mp e).1)
  XL.keeps (by rfl) (by rfl) (by rfl) (fun s e=>recFacts_of (Bool.and_eq_true_iff.mp e).2)
  (by rfl) (by first | assumption | decide +kernel) (by decide +kernel)
  ⟨rfl,rfl,rfl,rfl,rfl,by decide +kernel⟩ ?hw ?hc
 case hw=>w_witness2
 k_fill
 refine FP.walk (l:=PySem.Challenge.rw_forkplan_k80_worlds_written) (K:=FP.qKb) rfl rfl (fun w h Y=>Y) ?F
 case F=>
  intro w mg fa h KX G hmg
  refine' FP.qSo KX G hmg ?a0 ?l0 ?c0 ?k0 ?a1 ?l1 ?c1 ?k1 ?a2 ?l2 ?c2 ?k2 ?a3 ?l3 ?c3 ?k3 ?a4 ?l4 ?c4 ?k4 ?a5 ?l5 ?c5 ?k5 ?a6 ?l6 ?c6 ?k6 ?a7 ?l7 ?c7 ?k7 ?a8 ?l8 ?c8 ?k8 ?a9 ?l9 ?c9 ?k9 ?a10 ?l10 ?c10 ?k10 ?a11 ?l11 ?c11 ?k11 ?a12 ?l12 ?c12 ?k12 ?a13 ?l13 ?c13 ?k13 ?a14 ?l14 ?c14 ?k14 ?a15 ?l15 ?c15 ?k15 ?a16 ?l16 ?c16 ?k16 ?a17 ?l17 ?c17 ?k17 ?a18 ?l18 ?c18 ?k18 ?a19 ?l19 ?c19 ?k19 ?a20 ?l20 ?c20 ?k20 ?a21 ?l21 ?c21 ?k21 ?a22 ?l22 ?c22 ?k22 ?a23 ?l23 ?c23 ?k23 ?a24 ?l24 ?c24 ?k24 ?a25 ?l25 ?c25 ?k25 ?a26 ?l26 ?c26 ?k26 ?a27 ?l27 ?c27 ?k27 ?a28 ?l28 ?c28 ?k28 ?a29 ?l29 ?c29 ?k29 ?a30 ?l30 ?c30 ?k30 ?a31 ?l31 ?c31 ?k31 ?a32 ?l32 ?c32 ?k32 ?a33 ?l33 ?c33 ?k33 ?a34 ?l34 ?c34 ?k34 ?a35 ?l35 ?c35 ?k35 ?a36 ?l36 ?c36 ?k36 ?a37 ?l37 ?c37 ?k37 ?a38 ?l38 ?c38 ?k38 ?a39 ?l39 ?c39 ?k39 ?g_LEAST_SIZE ?g_GREATEST_SIZE ?g_LEAST_PRICE ?g_WORDS_OF_CONDITIONS ?g2_WORDS_OF_CONDITIONS ?g3_WORDS_OF_CONDITIONS ?g4_WORDS_OF_CONDITIONS ?g_BLOCK ?g_YES ?g2_YES ?g3_YES ?g4_YES ?g_FORMS ?g2_FORMS ?ha_FORMS0 ?hb_FORMS0 ?hc_FORMS0 ?hd_FORMS0 ?he_FORMS0 ?hf_FORMS0 ?ha_FORMS1 ?hb_FORMS1 ?hc_FORMS1 ?hd_FORMS1 ?he_FORMS1 ?hf_FORMS1 ?ha_FORMS2 ?hb_FORMS2 ?hc_FORMS2 ?hd_FORMS2 ?he_FORMS2 ?hf_FORMS2 ?ha_FORMS3 ?hb_FORMS3 ?hc_FORMS3 ?hd_FORMS3 ?he_FORMS3 ?hf_FORMS3 ?ha_FORMS4 ?hb_FORMS4 ?hc_FORMS4 ?hd_FORMS4 ?he_FORMS4 ?hf_FORMS4 ?ha_FORMS5 ?hb_FORMS5 ?hc_FORMS5 ?hd_FORMS5 ?he_FORMS5 ?hf_FORMS5 ?z_len ?z_range ?z_min ?z_isinstance ?z_list ?z_reversed ?z_tuple ?z_int ?z_bool ?z_dict ?z_zip ?z_set ?z_abs ?z_str
  (case a0=>k_is);(case l0=>k_is);(case c0=>k_is);(case k0=>k_is)
  (case a1=>k_is);(case l1=>k_is);(case c1=>k_is);(case k1=>k_is)
  (case a2=>k_is);(case l2=>k_is);(case c2=>k_is);(case k2=>k_is)
  (case a3=>k_is);(case l3=>k_is);(case c3=>k_is);(case k3=>k_is)
  (case a4=>k_is);(case l4=>k_is);(case c4=>k_is);(case k4=>k_is)
  (case a5=>k_is);(case l5=>k_is);(case c5=>k_is);(case k5=>k_is)
  (case a6=>k_is);(case l6=>k_is);(case c6=>k_is);(case k6=>k_is)
  (case a7=>k_is);(case l7=>k_is);(case c7=>k_is);(case k7=>k_is)
  (case a8=>k_is);(case l8=>k_is);(case c8=>k_is);(case k8=>k_is)
  (case a9=>k_is);(case l9=>k_is);(case c9=>k_is);(case k9=>k_is)
  (case a10=>k_is);(case l10=>k_is);(case c10=>k_is);(case k10=>k_is)
  (case a11=>k_is);(case l11=>k_is);(case c11=>k_is);(case k11=>k_is)
  (case a12=>k_is);(case l12=>k_is);(case c12=>k_is);(case k12=>k_is)
  (case a13=>k_is);(case l13=>k_is);(case c13=>k_is);(case k13=>k_is)
  (case a14=>k_is);(case l14=>k_is);(case c14=>k_is);(case k14=>k_is)
  (case a15=>k_is);(case l15=>k_is);(case c15=>k_is);(case k15=>k_is)
  (case a16=>k_is);(case l16=>k_is);(case c16=>k_is);(case k16=>k_is)
  (case a17=>k_is);(case l17=>k_is);(case c17=>k_is);(case k17=>k_is)
  (case a18=>k_is);(case l18=>k_is);(case c18=>k_is);(case k18=>k_is)
  (case a19=>k_is);(case l19=>k_is);(case c19=>k_is);(case k19=>k_is)
  (case a20=>k_is);(case l20=>k_is);(case c20=>k_is);(case k20=>k_is)
  (case a21=>k_is);(case l21=>k_is);(case c21=>k_is);(case k21=>k_is)
  (case a22=>k_is);(case l22=>k_is);(case c22=>k_is);(case k22=>k_is)
  (case a23=>k_is);(case l23=>k_is);(case c23=>k_is);(case k23=>k_is)
  (case a24=>k_is);(case l24=>k_is);(case c24=>k_is);(case k24=>k_is)
  (case a25=>k_is);(case l25=>k_is);(case c25=>k_is);(case k25=>k_is)
  (case a26=>k_is);(case l26=>k_is);(case c26=>k_is);(case k26=>k_is)
  (case a27=>k_is);(case l27=>k_is);(case c27=>k_is);(case k27=>k_is)
  (case a28=>k_is);(case l28=>k_is);(case c28=>k_is);(case k28=>k_is)
  (case a29=>k_is);(case l29=>k_is);(case c29=>k_is);(case k29=>k_is)
  (case a30=>k_is);(case l30=>k_is);(case c30=>k_is);(case k30=>k_is)
  (case a31=>k_is);(case l31=>k_is);(case c31=>k_is);(case k31=>k_is)
  (case a32=>k_is);(case l32=>k_is);(case c32=>k_is);(case k32=>k_is)
  (case a33=>k_is);(case l33=>k_is);(case c33=>k_is);(case k33=>k_is)
  (case a34=>k_is);(case l34=>k_is);(case c34=>k_is);(case k34=>k_is)
  (case a35=>k_is);(case l35=>k_is);(case c35=>k_is);(case k35=>k_is)
  (case a36=>k_is);(case l36=>k_is);(case c36=>k_is);(case k36=>k_is)
  (case a37=>k_is);(case l37=>k_is);(case c37=>k_is);(case k37=>k_is)
  (case a38=>k_is);(case l38=>k_is);(case c38=>k_is);(case k38=>k_is)
  (case a39=>k_is);(case l39=>k_is);(case c39=>k_is);(case k39=>k_is)
  (case g_LEAST_SIZE=>first | k_is | rfl | decide)
  (case g_GREATEST_SIZE=>first | k_is | rfl | decide)
  (case g_LEAST_PRICE=>first | k_is | rfl | decide)
  (case g_WORDS_OF_CONDITIONS=>first | k_is | rfl | decide)
  (case g2_WORDS_OF_CONDITIONS=>first | k_is | rfl | decide)
  (case g3_WORDS_OF_CONDITIONS=>first | k_is | rfl | decide)
  (case g4_WORDS_OF_CONDITIONS=>first | k_is | rfl | decide)
  (case g_BLOCK=>first | k_is | rfl | decide)
  (case g_YES=>first | k_is | rfl | decide)
  (case g2_YES=>first | k_is | rfl | decide)
  (case g3_YES=>first | k_is | rfl | decide)
  (case g4_YES=>first | k_is | rfl | decide)
  (case g_FORMS=>first | k_is | rfl | decide)
  (case g2_FORMS=>first | k_is | rfl | decide)
  (case ha_FORMS0=>first | k_is | rfl | decide)
  (case hb_FORMS0=>first | k_is | rfl | decide)
  (case hc_FORMS0=>first | k_is | rfl | decide)
  (case hd_FORMS0=>first | k_is | rfl | decide)
  (case he_FORMS0=>first | k_is | rfl | decide)
  (case hf_FORMS0=>first | k_is | rfl | decide)
  (case ha_FORMS1=>first | k_is | rfl | decide)
  (case hb_FORMS1=>first | k_is | rfl | decide)
  (case hc_FORMS1=>first | k_is | rfl | decide)
  (case hd_FORMS1=>first | k_is | rfl | decide)
  (case he_FORMS1=>first | k_is | rfl | decide)
  (case hf_FORMS1=>first | k_is | rfl | decide)
  (case ha_FORMS2=>first | k_is | rfl | decide)
  (case hb_FORMS2=>first | k_is | rfl | decide)
  (case hc_FORMS2=>first | k_is | rfl | decide)
  (case hd_FORMS2=>first | k_is | rfl | decide)
  (case he_FORMS2=>first | k_is | rfl | decide)
  (case hf_FORMS2=>first | k_is | rfl | decide)
  (case ha_FORMS3=>first | k_is | rfl | decide)
  (case hb_FORMS3=>first | k_is | rfl | decide)
  (case hc_FORMS3=>first | k_is | rfl | decide)
  (case hd_FORMS3=>first | k_is | rfl | decide)
  (case he_FORMS3=>first | k_is | rfl | decide)
  (case hf_FORMS3=>first | k_is | rfl | decide)
  (case ha_FORMS4=>first | k_is | rfl | decide)
  (case hb_FORMS4=>first | k_is | rfl | decide)
  (case hc_FORMS4=>first | k_is | rfl | decide)
  (case hd_FORMS4=>first | k_is | rfl | decide)
  (case he_FORMS4=>first | k_is | rfl | decide)
  (case hf_FORMS4=>first | k_is | rfl | decide)
  (case ha_FORMS5=>first | k_is | rfl | decide)
  (case hb_FORMS5=>first | k_is | rfl | decide)
  (case hc_FORMS5=>first | k_is | rfl | decide)
  (case hd_FORMS5=>first | k_is | rfl | decide)
  (case he_FORMS5=>first | k_is | rfl | decide)
  (case hf_FORMS5=>first | k_is | rfl | decide)
  (case z_len=>k_is);(case z_range=>k_is);(case z_min=>k_is);(case z_isinstance=>k_is);(case z_list=>k_is);(case z_reversed=>k_is);(case z_tuple=>k_is);(case z_int=>k_is);(case z_bool=>k_is);(case z_dict=>k_is);(case z_zip=>k_is);(case z_set=>k_is);(case z_abs=>k_is);(case z_str=>k_is)
