import PyProof.Rows.All
import Wide.All
import OpenK.AllK
import Wide.FinOn
import Lean
import PyProof.EqAt
import PyProof.EqKinds
import PyProof.TupleCall
import PyProof.NeKinds
import PyProof.ConsumeWalk
import PyProof.FitsBits
import PyProof.Rows.Range3
import PyProof.Rows.TupAdd
import PyProof.ListRange
import PyProof.Rows.CallKwBuiltin
import KE.KSortAsk
import KE.KSortTup
import PyProof.Rows.RuleN_abs
import PySem.Challenge.RW_waithouse_k24_clock
set_option Elab.async false
set_option linter.all false
set_option maxRecDepth 100000
namespace Hd
open PySem PySem.Spec PyProof.Rows PySem.W
def top (i : Nat) : Stmt := PySem.Challenge.pw_waithouse_k24_clock.main.body.getD i (.Pass ⟨0, 0, 0, 0⟩)
def inClass (s : Stmt) (j : Nat) : Stmt := match s with
  | .ClassDef _ _ _ bd _ _ _ _ _ _ _ => bd.getD j (.Pass ⟨0, 0, 0, 0⟩)
  | _ => .Pass ⟨0, 0, 0, 0⟩
def defArgs (s : Stmt) : Arguments := match s with
  | .FunctionDef _ as _ _ _ _ _ _ _ _ => as
  | _ => { posonlyargs := [], args := [], vararg := none, kwonlyargs := [], kw_defaults := [], kwarg := none, defaults := [] }
def defBody (s : Stmt) : List Stmt := match s with
  | .FunctionDef _ _ bd _ _ _ _ _ _ _ => bd
  | _ => []
def defScope (s : Stmt) : Scope := match s with
  | .FunctionDef _ _ _ _ _ _ scp _ _ _ => scp
  | _ => { kind := .function, names := [], isGenerator := false, isCoroutine := false }
abbrev kE (P : PySem.Params) (x : Str) (t : Nat) (v : Value) : PySem.DictEntry := PySem.DictEntry.mk (PySem.PyData.keyHash P x) (PySem.Value.str x t) v
abbrev kS (x : Str) (t : Nat) : Value := PySem.Value.str x t
abbrev kR (a : Nat) : Value := PySem.Value.ref a
abbrev kN (x : String) : Str := PySem.Str.ofString x
/-- the objects that stand behind the program's top -/
def KF : PySem.Params → PySem.W.Frag := fun P => (nat_lit 2, PySem.Obj.mk PySem.Value.none Option.none (PySem.Data.dict #[]) #[]) ::
  (nat_lit 3, PySem.Obj.mk (PySem.Value.type "dict") Option.none (PySem.Data.dict #[kE P "__name__" 165 (kS "law_waithouse_k24_clock" 530), kE P "__doc__" 166 PySem.Value.none, kE P "__package__" 167 PySem.Value.none, kE P "__loader__" 168 (PySem.Value.builtin "__main__.__loader__#opaque"), kE P "__spec__" 169 PySem.Value.none, kE P "__annotations__" 170 (kR 6), kE P "__builtins__" 171 (kR 4), kE P "__file__" 173 (kS "/claim/cut.py" 172), kE P "__cached__" 174 PySem.Value.none, kE P "WaitError" 206 (kR 24), kE P "NoLink" 222 (kR 37), kE P "NoRoom" 238 (kR 49), kE P "NoTime" 254 (kR 61), kE P "NoName" 270 (kR 73), kE P "NoKeep" 295 (kR 92), kE P "NoRow" 311 (kR 104), kE P "lies_between" 322 (kR 113), kE P "least_time" 330 (kR 118), kE P "greatest_time" 336 (kR 123), kE P "points_set" 342 (kR 128), kE P "points_open" 348 (kR 133), kE P "limit" 356 (kR 138), kE P "limit_turns" 357 (kR 138), kE P "course" 363 (kR 143), kE P "course_turns" 364 (kR 143), kE P "turn" 376 (kR 150), kE P "turn_turns" 377 (kR 150), kE P "must_follow" 383 (kR 155), kE P "Clock" 468 (kR 219), kE P "wide" 476 (kR 228), kE P "wide_row" 482 (kR 233), kE P "table_of" 492 (kR 240), kE P "held" 498 (kR 245), kE P "shuts" 507 (kR 252), kE P "held_row" 513 (kR 257), kE P "total" 521 (kR 264), kE P "lesser" 529 (kR 271), kE P "_law_cell" 541 (kR 278), kE P "_law_whole" 548 (kR 285), kE P "_law_big" 555 (kR 292), kE P "_law_times" 561 (kR 297), kE P "_law_cells" 567 (kR 302), kE P "_law_bounds" 582 (kR 309), kE P "_law_least" 588 (kR 314), kE P "_law_high" 599 (kR 321), kE P "_law_low" 611 (kR 328), kE P "_law_limit" 617 (kR 333), kE P "_law_turn" 630 (kR 340), kE P "_law_number_like" 638 (kR 347), kE P "_law_turn_like" 646 (kR 354), kE P "_law_course_good" 658 (kR 361), kE P "_law_shown" 671 (kR 368), kE P "_law_near" 677 (kR 373), kE P "_law_refusal" 687 (kR 380), kE P "_law_only_time" 694 (kR 387), kE P "_law_deed" 713 (kR 394), kE P "law" 719 (kR 399)] 57) #[]) ::
  (nat_lit 15, PySem.Obj.mk (PySem.Value.type "tuple") Option.none (PySem.Data.seq #[PySem.Value.type "ValueError"]) #[]) ::
  (nat_lit 22, PySem.Obj.mk (PySem.Value.type "tuple") Option.none (PySem.Data.seq #[]) #[]) ::
  (nat_lit 23, PySem.Obj.mk (PySem.Value.type "dict") Option.none (PySem.Data.dict #[kE P "__module__" 196 (kS "waithouse.errors" 187), kE P "__firstlineno__" 200 (PySem.Value.int 2 199), kE P "__static_attributes__" 201 (kR 22), kE P "__weakref__" 203 (kR 25), kE P "__doc__" 204 PySem.Value.none] 3) #[]) ::
  (nat_lit 24, PySem.Obj.mk (PySem.Value.type "type") Option.none (PySem.Data.cls (PySem.ClassData.mk (kN "WaitError") [PySem.Value.type "ValueError"] [kR 24, PySem.Value.type "ValueError", PySem.Value.type "Exception", PySem.Value.type "BaseException", PySem.Value.type "object"] 23 (kN "WaitError") Bool.true [] [kR 37, kR 49, kR 61, kR 73, kR 92, kR 104] Bool.false Option.none Bool.false)) #[Option.some (kR 15), Option.none, Option.some (kS "WaitError" 189), Option.some (kS "WaitError" 197), Option.some (PySem.Value.builtin "ValueError.__new__"), Option.some (PySem.Value.bool Bool.true)]) ::
  (nat_lit 25, PySem.Obj.mk (PySem.Value.type "getset_descriptor") Option.none (PySem.Data.fields #[kS "__weakref__" 202, kR 24, PySem.Value.builtin "ExceptionGroup.__weakref__", PySem.Value.none]) #[]) ::
  (nat_lit 28, PySem.Obj.mk (PySem.Value.type "tuple") Option.none (PySem.Data.seq #[kR 24]) #[]) ::
  (nat_lit 35, PySem.Obj.mk (PySem.Value.type "tuple") Option.none (PySem.Data.seq #[]) #[]) ::
  (nat_lit 36, PySem.Obj.mk (PySem.Value.type "dict") Option.none (PySem.Data.dict #[kE P "__module__" 214 (kS "waithouse.errors" 187), kE P "__firstlineno__" 218 (PySem.Value.int 4 217), kE P "__static_attributes__" 219 (kR 35), kE P "__doc__" 220 PySem.Value.none] 2) #[]) ::
  (nat_lit 37, PySem.Obj.mk (PySem.Value.type "type") Option.none (PySem.Data.cls (PySem.ClassData.mk (kN "NoLink") [kR 24] [kR 37, kR 24, PySem.Value.type "ValueError", PySem.Value.type "Exception", PySem.Value.type "BaseException", PySem.Value.type "object"] 36 (kN "NoLink") Bool.true [] [] Bool.false Option.none Bool.false)) #[Option.some (kR 28), Option.none, Option.some (kS "NoLink" 207), Option.some (kS "NoLink" 215), Option.some (PySem.Value.builtin "ValueError.__new__"), Option.some (PySem.Value.bool Bool.true)]) ::
  (nat_lit 40, PySem.Obj.mk (PySem.Value.type "tuple") Option.none (PySem.Data.seq #[kR 24]) #[]) ::
  (nat_lit 47, PySem.Obj.mk (PySem.Value.type "tuple") Option.none (PySem.Data.seq #[]) #[]) ::
  (nat_lit 48, PySem.Obj.mk (PySem.Value.type "dict") Option.none (PySem.Data.dict #[kE P "__module__" 230 (kS "waithouse.errors" 187), kE P "__firstlineno__" 234 (PySem.Value.int 6 233), kE P "__static_attributes__" 235 (kR 47), kE P "__doc__" 236 PySem.Value.none] 2) #[]) ::
  (nat_lit 49, PySem.Obj.mk (PySem.Value.type "type") Option.none (PySem.Data.cls (PySem.ClassData.mk (kN "NoRoom") [kR 24] [kR 49, kR 24, PySem.Value.type "ValueError", PySem.Value.type "Exception", PySem.Value.type "BaseException", PySem.Value.type "object"] 48 (kN "NoRoom") Bool.true [] [] Bool.false Option.none Bool.false)) #[Option.some (kR 40), Option.none, Option.some (kS "NoRoom" 223), Option.some (kS "NoRoom" 231), Option.some (PySem.Value.builtin "ValueError.__new__"), Option.some (PySem.Value.bool Bool.true)]) ::
  (nat_lit 52, PySem.Obj.mk (PySem.Value.type "tuple") Option.none (PySem.Data.seq #[kR 24]) #[]) ::
  (nat_lit 59, PySem.Obj.mk (PySem.Value.type "tuple") Option.none (PySem.Data.seq #[]) #[]) ::
  (nat_lit 60, PySem.Obj.mk (PySem.Value.type "dict") Option.none (PySem.Data.dict #[kE P "__module__" 246 (kS "waithouse.errors" 187), kE P "__firstlineno__" 250 (PySem.Value.int 8 249), kE P "__static_attributes__" 251 (kR 59), kE P "__doc__" 252 PySem.Value.none] 2) #[]) ::
  (nat_lit 61, PySem.Obj.mk (PySem.Value.type "type") Option.none (PySem.Data.cls (PySem.ClassData.mk (kN "NoTime") [kR 24] [kR 61, kR 24, PySem.Value.type "ValueError", PySem.Value.type "Exception", PySem.Value.type "BaseException", PySem.Value.type "object"] 60 (kN "NoTime") Bool.true [] [] Bool.false Option.none Bool.false)) #[Option.some (kR 52), Option.none, Option.some (kS "NoTime" 239), Option.some (kS "NoTime" 247), Option.some (PySem.Value.builtin "ValueError.__new__"), Option.some (PySem.Value.bool Bool.true)]) ::
  (nat_lit 64, PySem.Obj.mk (PySem.Value.type "tuple") Option.none (PySem.Data.seq #[kR 24]) #[]) ::
  (nat_lit 71, PySem.Obj.mk (PySem.Value.type "tuple") Option.none (PySem.Data.seq #[]) #[]) ::
  (nat_lit 72, PySem.Obj.mk (PySem.Value.type "dict") Option.none (PySem.Data.dict #[kE P "__module__" 262 (kS "waithouse.errors" 187), kE P "__firstlineno__" 266 (PySem.Value.int 10 265), kE P "__static_attributes__" 267 (kR 71), kE P "__doc__" 268 PySem.Value.none] 2) #[]) ::
  (nat_lit 73, PySem.Obj.mk (PySem.Value.type "type") Option.none (PySem.Data.cls (PySem.ClassData.mk (kN "NoName") [kR 24] [kR 73, kR 24, PySem.Value.type "ValueError", PySem.Value.type "Exception", PySem.Value.type "BaseException", PySem.Value.type "object"] 72 (kN "NoName") Bool.true [] [] Bool.false Option.none Bool.false)) #[Option.some (kR 64), Option.none, Option.some (kS "NoName" 255), Option.some (kS "NoName" 263), Option.some (PySem.Value.builtin "ValueError.__new__"), Option.some (PySem.Value.bool Bool.true)]) ::
  (nat_lit 76, PySem.Obj.mk (PySem.Value.type "tuple") Option.none (PySem.Data.seq #[kR 24]) #[]) ::
  (nat_lit 83, PySem.Obj.mk (PySem.Value.type "tuple") Option.none (PySem.Data.seq #[]) #[]) ::
  (nat_lit 85, PySem.Obj.mk (PySem.Value.type "tuple") Option.none (PySem.Data.seq #[kS "self" 286, kS "steps" 287]) #[]) ::
  (nat_lit 86, PySem.Obj.mk (PySem.Value.type "tuple") Option.none (PySem.Data.seq #[]) #[]) ::
  (nat_lit 88, PySem.Obj.mk (PySem.Value.type "code") Option.none (PySem.Data.fields #[kS "__init__" 283, kS "NoKeep.__init__" 284, kS "/claim/cut.py" 285, PySem.Value.int 14 0, PySem.Value.int 2 0, PySem.Value.int 0 0, PySem.Value.int 0 0, PySem.Value.int 3 0, kR 83, PySem.Value.bool Bool.true, PySem.Value.int 181 0, kR 84, PySem.Value.none, kR 85, kR 86, kR 87, PySem.Value.int 288 0, PySem.Value.int 14 0, kS "/claim/cut.py" 289]) #[]) ::
  (nat_lit 89, PySem.Obj.mk (PySem.Value.type "function") Option.none (PySem.Data.func (PySem.FuncData.mk (kN "__init__") (kN "NoKeep.__init__") (defArgs (inClass (top 6) 0)) (PySem.FuncBody.stmts (defBody (inClass (top 6) 0))) (defScope (inClass (top 6) 0)) 3 [] PySem.Value.none PySem.Value.none PySem.Value.none (kS "waithouse.errors" 187) Option.none (kR 88) PySem.Value.none 0)) #[]) ::
  (nat_lit 90, PySem.Obj.mk (PySem.Value.type "tuple") Option.none (PySem.Data.seq #[kS "steps" 291]) #[]) ::
  (nat_lit 91, PySem.Obj.mk (PySem.Value.type "dict") Option.none (PySem.Data.dict #[kE P "__module__" 278 (kS "waithouse.errors" 187), kE P "__firstlineno__" 282 (PySem.Value.int 12 281), kE P "__init__" 290 (kR 89), kE P "__static_attributes__" 292 (kR 90), kE P "__doc__" 293 PySem.Value.none] 2) #[]) ::
  (nat_lit 92, PySem.Obj.mk (PySem.Value.type "type") Option.none (PySem.Data.cls (PySem.ClassData.mk (kN "NoKeep") [kR 24] [kR 92, kR 24, PySem.Value.type "ValueError", PySem.Value.type "Exception", PySem.Value.type "BaseException", PySem.Value.type "object"] 91 (kN "NoKeep") Bool.true [] [] Bool.false Option.none Bool.false)) #[Option.some (kR 76), Option.none, Option.some (kS "NoKeep" 271), Option.some (kS "NoKeep" 279), Option.some (PySem.Value.builtin "ValueError.__new__"), Option.some (PySem.Value.bool Bool.true)]) ::
  (nat_lit 95, PySem.Obj.mk (PySem.Value.type "tuple") Option.none (PySem.Data.seq #[kR 24]) #[]) ::
  (nat_lit 102, PySem.Obj.mk (PySem.Value.type "tuple") Option.none (PySem.Data.seq #[]) #[]) ::
  (nat_lit 103, PySem.Obj.mk (PySem.Value.type "dict") Option.none (PySem.Data.dict #[kE P "__module__" 303 (kS "waithouse.errors" 187), kE P "__firstlineno__" 307 (PySem.Value.int 17 306), kE P "__static_attributes__" 308 (kR 102), kE P "__doc__" 309 PySem.Value.none] 2) #[]) ::
  (nat_lit 104, PySem.Obj.mk (PySem.Value.type "type") Option.none (PySem.Data.cls (PySem.ClassData.mk (kN "NoRow") [kR 24] [kR 104, kR 24, PySem.Value.type "ValueError", PySem.Value.type "Exception", PySem.Value.type "BaseException", PySem.Value.type "object"] 103 (kN "NoRow") Bool.true [] [] Bool.false Option.none Bool.false)) #[Option.some (kR 95), Option.none, Option.some (kS "NoRow" 296), Option.some (kS "NoRow" 304), Option.some (PySem.Value.builtin "ValueError.__new__"), Option.some (PySem.Value.bool Bool.true)]) ::
  (nat_lit 107, PySem.Obj.mk (PySem.Value.type "tuple") Option.none (PySem.Data.seq #[]) #[]) ::
  (nat_lit 109, PySem.Obj.mk (PySem.Value.type "tuple") Option.none (PySem.Data.seq #[kS "time" 317, kS "low" 318, kS "high" 319]) #[]) ::
  (nat_lit 110, PySem.Obj.mk (PySem.Value.type "tuple") Option.none (PySem.Data.seq #[]) #[]) ::
  (nat_lit 112, PySem.Obj.mk (PySem.Value.type "code") Option.none (PySem.Data.fields #[kS "lies_between" 314, kS "lies_between" 315, kS "/claim/cut.py" 316, PySem.Value.int 20 0, PySem.Value.int 3 0, PySem.Value.int 0 0, PySem.Value.int 0 0, PySem.Value.int 3 0, kR 107, PySem.Value.bool Bool.true, PySem.Value.int 181 0, kR 108, PySem.Value.none, kR 109, kR 110, kR 111, PySem.Value.int 320 0, PySem.Value.int 20 0, kS "/claim/cut.py" 321]) #[]) ::
  (nat_lit 113, PySem.Obj.mk (PySem.Value.type "function") Option.none (PySem.Data.func (PySem.FuncData.mk (kN "lies_between") (kN "lies_between") (defArgs (top 9)) (PySem.FuncBody.stmts (defBody (top 9))) (defScope (top 9)) 3 [] PySem.Value.none PySem.Value.none PySem.Value.none (kS "waithouse.schedules" 312) Option.none (kR 112) PySem.Value.none 0)) #[]) ::
  (nat_lit 114, PySem.Obj.mk (PySem.Value.type "tuple") Option.none (PySem.Data.seq #[]) #[]) ::
  (nat_lit 117, PySem.Obj.mk (PySem.Value.type "code") Option.none (PySem.Data.fields #[kS "least_time" 325, kS "least_time" 326, kS "/claim/cut.py" 327, PySem.Value.int 23 0, PySem.Value.int 3 0, PySem.Value.int 0 0, PySem.Value.int 0 0, PySem.Value.int 3 0, kR 114, PySem.Value.bool Bool.true, PySem.Value.int 181 0, kR 115, PySem.Value.none, PySem.Value.none, PySem.Value.none, kR 116, PySem.Value.int 328 0, PySem.Value.int 23 0, kS "/claim/cut.py" 329]) #[]) ::
  (nat_lit 118, PySem.Obj.mk (PySem.Value.type "function") Option.none (PySem.Data.func (PySem.FuncData.mk (kN "least_time") (kN "least_time") (defArgs (top 11)) (PySem.FuncBody.stmts (defBody (top 11))) (defScope (top 11)) 3 [] PySem.Value.none PySem.Value.none PySem.Value.none (kS "waithouse.rooms" 323) Option.none (kR 117) PySem.Value.none 0)) #[]) ::
  (nat_lit 119, PySem.Obj.mk (PySem.Value.type "tuple") Option.none (PySem.Data.seq #[]) #[]) ::
  (nat_lit 122, PySem.Obj.mk (PySem.Value.type "code") Option.none (PySem.Data.fields #[kS "greatest_time" 331, kS "greatest_time" 332, kS "/claim/cut.py" 333, PySem.Value.int 25 0, PySem.Value.int 3 0, PySem.Value.int 0 0, PySem.Value.int 0 0, PySem.Value.int 3 0, kR 119, PySem.Value.bool Bool.true, PySem.Value.int 181 0, kR 120, PySem.Value.none, PySem.Value.none, PySem.Value.none, kR 121, PySem.Value.int 334 0, PySem.Value.int 25 0, kS "/claim/cut.py" 335]) #[]) ::
  (nat_lit 123, PySem.Obj.mk (PySem.Value.type "function") Option.none (PySem.Data.func (PySem.FuncData.mk (kN "greatest_time") (kN "greatest_time") (defArgs (top 12)) (PySem.FuncBody.stmts (defBody (top 12))) (defScope (top 12)) 3 [] PySem.Value.none PySem.Value.none PySem.Value.none (kS "waithouse.rooms" 323) Option.none (kR 122) PySem.Value.none 0)) #[]) ::
  (nat_lit 124, PySem.Obj.mk (PySem.Value.type "tuple") Option.none (PySem.Data.seq #[]) #[]) ::
  (nat_lit 127, PySem.Obj.mk (PySem.Value.type "code") Option.none (PySem.Data.fields #[kS "points_set" 337, kS "points_set" 338, kS "/claim/cut.py" 339, PySem.Value.int 27 0, PySem.Value.int 1 0, PySem.Value.int 0 0, PySem.Value.int 0 0, PySem.Value.int 3 0, kR 124, PySem.Value.bool Bool.true, PySem.Value.int 181 0, kR 125, PySem.Value.none, PySem.Value.none, PySem.Value.none, kR 126, PySem.Value.int 340 0, PySem.Value.int 27 0, kS "/claim/cut.py" 341]) #[]) ::
  (nat_lit 128, PySem.Obj.mk (PySem.Value.type "function") Option.none (PySem.Data.func (PySem.FuncData.mk (kN "points_set") (kN "points_set") (defArgs (top 13)) (PySem.FuncBody.stmts (defBody (top 13))) (defScope (top 13)) 3 [] PySem.Value.none PySem.Value.none PySem.Value.none (kS "waithouse.rooms" 323) Option.none (kR 127) PySem.Value.none 0)) #[]) ::
  (nat_lit 129, PySem.Obj.mk (PySem.Value.type "tuple") Option.none (PySem.Data.seq #[]) #[]) ::
  (nat_lit 132, PySem.Obj.mk (PySem.Value.type "code") Option.none (PySem.Data.fields #[kS "points_open" 343, kS "points_open" 344, kS "/claim/cut.py" 345, PySem.Value.int 29 0, PySem.Value.int 1 0, PySem.Value.int 0 0, PySem.Value.int 0 0, PySem.Value.int 3 0, kR 129, PySem.Value.bool Bool.true, PySem.Value.int 181 0, kR 130, PySem.Value.none, PySem.Value.none, PySem.Value.none, kR 131, PySem.Value.int 346 0, PySem.Value.int 29 0, kS "/claim/cut.py" 347]) #[]) ::
  (nat_lit 133, PySem.Obj.mk (PySem.Value.type "function") Option.none (PySem.Data.func (PySem.FuncData.mk (kN "points_open") (kN "points_open") (defArgs (top 14)) (PySem.FuncBody.stmts (defBody (top 14))) (defScope (top 14)) 3 [] PySem.Value.none PySem.Value.none PySem.Value.none (kS "waithouse.rooms" 323) Option.none (kR 132) PySem.Value.none 0)) #[]) ::
  (nat_lit 134, PySem.Obj.mk (PySem.Value.type "tuple") Option.none (PySem.Data.seq #[]) #[]) ::
  (nat_lit 137, PySem.Obj.mk (PySem.Value.type "code") Option.none (PySem.Data.fields #[kS "limit" 351, kS "limit" 352, kS "/claim/cut.py" 353, PySem.Value.int 32 0, PySem.Value.int 2 0, PySem.Value.int 0 0, PySem.Value.int 0 0, PySem.Value.int 3 0, kR 134, PySem.Value.bool Bool.true, PySem.Value.int 181 0, kR 135, PySem.Value.none, PySem.Value.none, PySem.Value.none, kR 136, PySem.Value.int 354 0, PySem.Value.int 32 0, kS "/claim/cut.py" 355]) #[]) ::
  (nat_lit 138, PySem.Obj.mk (PySem.Value.type "function") Option.none (PySem.Data.func (PySem.FuncData.mk (kN "limit") (kN "limit") (defArgs (top 16)) (PySem.FuncBody.stmts (defBody (top 16))) (defScope (top 16)) 3 [] PySem.Value.none PySem.Value.none PySem.Value.none (kS "waithouse.turns" 349) Option.none (kR 137) PySem.Value.none 0)) #[]) ::
  (nat_lit 139, PySem.Obj.mk (PySem.Value.type "tuple") Option.none (PySem.Data.seq #[]) #[]) ::
  (nat_lit 142, PySem.Obj.mk (PySem.Value.type "code") Option.none (PySem.Data.fields #[kS "course" 358, kS "course" 359, kS "/claim/cut.py" 360, PySem.Value.int 36 0, PySem.Value.int 3 0, PySem.Value.int 0 0, PySem.Value.int 0 0, PySem.Value.int 3 0, kR 139, PySem.Value.bool Bool.true, PySem.Value.int 181 0, kR 140, PySem.Value.none, PySem.Value.none, PySem.Value.none, kR 141, PySem.Value.int 361 0, PySem.Value.int 36 0, kS "/claim/cut.py" 362]) #[]) ::
  (nat_lit 143, PySem.Obj.mk (PySem.Value.type "function") Option.none (PySem.Data.func (PySem.FuncData.mk (kN "course") (kN "course") (defArgs (top 18)) (PySem.FuncBody.stmts (defBody (top 18))) (defScope (top 18)) 3 [] PySem.Value.none PySem.Value.none PySem.Value.none (kS "waithouse.turns" 349) Option.none (kR 142) PySem.Value.none 0)) #[]) ::
  (nat_lit 144, PySem.Obj.mk (PySem.Value.type "tuple") Option.none (PySem.Data.seq #[]) #[]) ::
  (nat_lit 146, PySem.Obj.mk (PySem.Value.type "tuple") Option.none (PySem.Data.seq #[kS "table" 368, kS "setting" 369, kS "now" 370, kS "x" 371, kS "low" 372, kS "high" 373]) #[]) ::
  (nat_lit 147, PySem.Obj.mk (PySem.Value.type "tuple") Option.none (PySem.Data.seq #[]) #[]) ::
  (nat_lit 149, PySem.Obj.mk (PySem.Value.type "code") Option.none (PySem.Data.fields #[kS "turn" 365, kS "turn" 366, kS "/claim/cut.py" 367, PySem.Value.int 40 0, PySem.Value.int 4 0, PySem.Value.int 0 0, PySem.Value.int 0 0, PySem.Value.int 3 0, kR 144, PySem.Value.bool Bool.true, PySem.Value.int 181 0, kR 145, PySem.Value.none, kR 146, kR 147, kR 148, PySem.Value.int 374 0, PySem.Value.int 40 0, kS "/claim/cut.py" 375]) #[]) ::
  (nat_lit 150, PySem.Obj.mk (PySem.Value.type "function") Option.none (PySem.Data.func (PySem.FuncData.mk (kN "turn") (kN "turn") (defArgs (top 20)) (PySem.FuncBody.stmts (defBody (top 20))) (defScope (top 20)) 3 [] PySem.Value.none PySem.Value.none PySem.Value.none (kS "waithouse.turns" 349) Option.none (kR 149) PySem.Value.none 0)) #[]) ::
  (nat_lit 151, PySem.Obj.mk (PySem.Value.type "tuple") Option.none (PySem.Data.seq #[]) #[]) ::
  (nat_lit 154, PySem.Obj.mk (PySem.Value.type "code") Option.none (PySem.Data.fields #[kS "must_follow" 378, kS "must_follow" 379, kS "/claim/cut.py" 380, PySem.Value.int 49 0, PySem.Value.int 3 0, PySem.Value.int 0 0, PySem.Value.int 0 0, PySem.Value.int 3 0, kR 151, PySem.Value.bool Bool.true, PySem.Value.int 181 0, kR 152, PySem.Value.none, PySem.Value.none, PySem.Value.none, kR 153, PySem.Value.int 381 0, PySem.Value.int 49 0, kS "/claim/cut.py" 382]) #[]) ::
  (nat_lit 155, PySem.Obj.mk (PySem.Value.type "function") Option.none (PySem.Data.func (PySem.FuncData.mk (kN "must_follow") (kN "must_follow") (defArgs (top 22)) (PySem.FuncBody.stmts (defBody (top 22))) (defScope (top 22)) 3 [] PySem.Value.none PySem.Value.none PySem.Value.none (kS "waithouse.turns" 349) Option.none (kR 154) PySem.Value.none 0)) #[]) ::
  (nat_lit 163, PySem.Obj.mk (PySem.Value.type "tuple") Option.none (PySem.Data.seq #[]) #[]) ::
  (nat_lit 166, PySem.Obj.mk (PySem.Value.type "code") Option.none (PySem.Data.fields #[kS "__init__" 398, kS "Clock.__init__" 399, kS "/claim/cut.py" 400, PySem.Value.int 54 0, PySem.Value.int 3 0, PySem.Value.int 0 0, PySem.Value.int 0 0, PySem.Value.int 3 0, kR 163, PySem.Value.bool Bool.true, PySem.Value.int 181 0, kR 164, PySem.Value.none, PySem.Value.none, PySem.Value.none, kR 165, PySem.Value.int 401 0, PySem.Value.int 54 0, kS "/claim/cut.py" 402]) #[]) ::
  (nat_lit 167, PySem.Obj.mk (PySem.Value.type "function") Option.none (PySem.Data.func (PySem.FuncData.mk (kN "__init__") (kN "Clock.__init__") (defArgs (inClass (top 24) 0)) (PySem.FuncBody.stmts (defBody (inClass (top 24) 0))) (defScope (inClass (top 24) 0)) 3 [] PySem.Value.none PySem.Value.none PySem.Value.none (kS "waithouse.clocks" 384) Option.none (kR 166) PySem.Value.none 0)) #[]) ::
  (nat_lit 168, PySem.Obj.mk (PySem.Value.type "tuple") Option.none (PySem.Data.seq #[]) #[]) ::
  (nat_lit 170, PySem.Obj.mk (PySem.Value.type "tuple") Option.none (PySem.Data.seq #[kS "self" 407]) #[]) ::
  (nat_lit 171, PySem.Obj.mk (PySem.Value.type "tuple") Option.none (PySem.Data.seq #[]) #[]) ::
  (nat_lit 173, PySem.Obj.mk (PySem.Value.type "code") Option.none (PySem.Data.fields #[kS "now" 404, kS "Clock.now" 405, kS "/claim/cut.py" 406, PySem.Value.int 59 0, PySem.Value.int 1 0, PySem.Value.int 0 0, PySem.Value.int 0 0, PySem.Value.int 3 0, kR 168, PySem.Value.bool Bool.true, PySem.Value.int 181 0, kR 169, PySem.Value.none, kR 170, kR 171, kR 172, PySem.Value.int 408 0, PySem.Value.int 59 0, kS "/claim/cut.py" 409]) #[]) ::
  (nat_lit 174, PySem.Obj.mk (PySem.Value.type "function") Option.none (PySem.Data.func (PySem.FuncData.mk (kN "now") (kN "Clock.now") (defArgs (inClass (top 24) 1)) (PySem.FuncBody.stmts (defBody (inClass (top 24) 1))) (defScope (inClass (top 24) 1)) 3 [] PySem.Value.none PySem.Value.none PySem.Value.none (kS "waithouse.clocks" 384) Option.none (kR 173) PySem.Value.none 0)) #[]) ::
  (nat_lit 175, PySem.Obj.mk (PySem.Value.type "tuple") Option.none (PySem.Data.seq #[]) #[]) ::
  (nat_lit 177, PySem.Obj.mk (PySem.Value.type "tuple") Option.none (PySem.Data.seq #[kS "self" 414]) #[]) ::
  (nat_lit 178, PySem.Obj.mk (PySem.Value.type "tuple") Option.none (PySem.Data.seq #[]) #[]) ::
  (nat_lit 180, PySem.Obj.mk (PySem.Value.type "code") Option.none (PySem.Data.fields #[kS "setting" 411, kS "Clock.setting" 412, kS "/claim/cut.py" 413, PySem.Value.int 62 0, PySem.Value.int 1 0, PySem.Value.int 0 0, PySem.Value.int 0 0, PySem.Value.int 3 0, kR 175, PySem.Value.bool Bool.true, PySem.Value.int 181 0, kR 176, PySem.Value.none, kR 177, kR 178, kR 179, PySem.Value.int 415 0, PySem.Value.int 62 0, kS "/claim/cut.py" 416]) #[]) ::
  (nat_lit 181, PySem.Obj.mk (PySem.Value.type "function") Option.none (PySem.Data.func (PySem.FuncData.mk (kN "setting") (kN "Clock.setting") (defArgs (inClass (top 24) 2)) (PySem.FuncBody.stmts (defBody (inClass (top 24) 2))) (defScope (inClass (top 24) 2)) 3 [] PySem.Value.none PySem.Value.none PySem.Value.none (kS "waithouse.clocks" 384) Option.none (kR 180) PySem.Value.none 0)) #[]) ::
  (nat_lit 182, PySem.Obj.mk (PySem.Value.type "tuple") Option.none (PySem.Data.seq #[]) #[]) ::
  (nat_lit 184, PySem.Obj.mk (PySem.Value.type "tuple") Option.none (PySem.Data.seq #[kS "self" 421]) #[]) ::
  (nat_lit 185, PySem.Obj.mk (PySem.Value.type "tuple") Option.none (PySem.Data.seq #[]) #[]) ::
  (nat_lit 187, PySem.Obj.mk (PySem.Value.type "code") Option.none (PySem.Data.fields #[kS "limit" 418, kS "Clock.limit" 419, kS "/claim/cut.py" 420, PySem.Value.int 65 0, PySem.Value.int 1 0, PySem.Value.int 0 0, PySem.Value.int 0 0, PySem.Value.int 3 0, kR 182, PySem.Value.bool Bool.true, PySem.Value.int 181 0, kR 183, PySem.Value.none, kR 184, kR 185, kR 186, PySem.Value.int 422 0, PySem.Value.int 65 0, kS "/claim/cut.py" 423]) #[]) ::
  (nat_lit 188, PySem.Obj.mk (PySem.Value.type "function") Option.none (PySem.Data.func (PySem.FuncData.mk (kN "limit") (kN "Clock.limit") (defArgs (inClass (top 24) 3)) (PySem.FuncBody.stmts (defBody (inClass (top 24) 3))) (defScope (inClass (top 24) 3)) 3 [] PySem.Value.none PySem.Value.none PySem.Value.none (kS "waithouse.clocks" 384) Option.none (kR 187) PySem.Value.none 0)) #[]) ::
  (nat_lit 189, PySem.Obj.mk (PySem.Value.type "tuple") Option.none (PySem.Data.seq #[]) #[]) ::
  (nat_lit 191, PySem.Obj.mk (PySem.Value.type "tuple") Option.none (PySem.Data.seq #[kS "self" 428, kS "x" 429]) #[]) ::
  (nat_lit 192, PySem.Obj.mk (PySem.Value.type "tuple") Option.none (PySem.Data.seq #[]) #[]) ::
  (nat_lit 194, PySem.Obj.mk (PySem.Value.type "code") Option.none (PySem.Data.fields #[kS "turn" 425, kS "Clock.turn" 426, kS "/claim/cut.py" 427, PySem.Value.int 68 0, PySem.Value.int 2 0, PySem.Value.int 0 0, PySem.Value.int 0 0, PySem.Value.int 3 0, kR 189, PySem.Value.bool Bool.true, PySem.Value.int 181 0, kR 190, PySem.Value.none, kR 191, kR 192, kR 193, PySem.Value.int 430 0, PySem.Value.int 68 0, kS "/claim/cut.py" 431]) #[]) ::
  (nat_lit 195, PySem.Obj.mk (PySem.Value.type "function") Option.none (PySem.Data.func (PySem.FuncData.mk (kN "turn") (kN "Clock.turn") (defArgs (inClass (top 24) 4)) (PySem.FuncBody.stmts (defBody (inClass (top 24) 4))) (defScope (inClass (top 24) 4)) 3 [] PySem.Value.none PySem.Value.none PySem.Value.none (kS "waithouse.clocks" 384) Option.none (kR 194) PySem.Value.none 0)) #[]) ::
  (nat_lit 196, PySem.Obj.mk (PySem.Value.type "tuple") Option.none (PySem.Data.seq #[]) #[]) ::
  (nat_lit 198, PySem.Obj.mk (PySem.Value.type "tuple") Option.none (PySem.Data.seq #[kS "self" 436]) #[]) ::
  (nat_lit 199, PySem.Obj.mk (PySem.Value.type "tuple") Option.none (PySem.Data.seq #[]) #[]) ::
  (nat_lit 201, PySem.Obj.mk (PySem.Value.type "code") Option.none (PySem.Data.fields #[kS "course" 433, kS "Clock.course" 434, kS "/claim/cut.py" 435, PySem.Value.int 71 0, PySem.Value.int 1 0, PySem.Value.int 0 0, PySem.Value.int 0 0, PySem.Value.int 3 0, kR 196, PySem.Value.bool Bool.true, PySem.Value.int 181 0, kR 197, PySem.Value.none, kR 198, kR 199, kR 200, PySem.Value.int 437 0, PySem.Value.int 71 0, kS "/claim/cut.py" 438]) #[]) ::
  (nat_lit 202, PySem.Obj.mk (PySem.Value.type "function") Option.none (PySem.Data.func (PySem.FuncData.mk (kN "course") (kN "Clock.course") (defArgs (inClass (top 24) 5)) (PySem.FuncBody.stmts (defBody (inClass (top 24) 5))) (defScope (inClass (top 24) 5)) 3 [] PySem.Value.none PySem.Value.none PySem.Value.none (kS "waithouse.clocks" 384) Option.none (kR 201) PySem.Value.none 0)) #[]) ::
  (nat_lit 203, PySem.Obj.mk (PySem.Value.type "tuple") Option.none (PySem.Data.seq #[]) #[]) ::
  (nat_lit 205, PySem.Obj.mk (PySem.Value.type "tuple") Option.none (PySem.Data.seq #[kS "self" 443, kS "time" 444]) #[]) ::
  (nat_lit 206, PySem.Obj.mk (PySem.Value.type "tuple") Option.none (PySem.Data.seq #[]) #[]) ::
  (nat_lit 208, PySem.Obj.mk (PySem.Value.type "code") Option.none (PySem.Data.fields #[kS "wait" 440, kS "Clock.wait" 441, kS "/claim/cut.py" 442, PySem.Value.int 74 0, PySem.Value.int 2 0, PySem.Value.int 0 0, PySem.Value.int 0 0, PySem.Value.int 3 0, kR 203, PySem.Value.bool Bool.true, PySem.Value.int 181 0, kR 204, PySem.Value.none, kR 205, kR 206, kR 207, PySem.Value.int 445 0, PySem.Value.int 74 0, kS "/claim/cut.py" 446]) #[]) ::
  (nat_lit 209, PySem.Obj.mk (PySem.Value.type "function") Option.none (PySem.Data.func (PySem.FuncData.mk (kN "wait") (kN "Clock.wait") (defArgs (inClass (top 24) 6)) (PySem.FuncBody.stmts (defBody (inClass (top 24) 6))) (defScope (inClass (top 24) 6)) 3 [] PySem.Value.none PySem.Value.none PySem.Value.none (kS "waithouse.clocks" 384) Option.none (kR 208) PySem.Value.none 0)) #[]) ::
  (nat_lit 210, PySem.Obj.mk (PySem.Value.type "tuple") Option.none (PySem.Data.seq #[]) #[]) ::
  (nat_lit 212, PySem.Obj.mk (PySem.Value.type "tuple") Option.none (PySem.Data.seq #[kS "self" 451, kS "x" 452, kS "time" 453, kS "ends" 454]) #[]) ::
  (nat_lit 213, PySem.Obj.mk (PySem.Value.type "tuple") Option.none (PySem.Data.seq #[]) #[]) ::
  (nat_lit 215, PySem.Obj.mk (PySem.Value.type "code") Option.none (PySem.Data.fields #[kS "mark" 448, kS "Clock.mark" 449, kS "/claim/cut.py" 450, PySem.Value.int 79 0, PySem.Value.int 3 0, PySem.Value.int 0 0, PySem.Value.int 0 0, PySem.Value.int 3 0, kR 210, PySem.Value.bool Bool.true, PySem.Value.int 181 0, kR 211, PySem.Value.none, kR 212, kR 213, kR 214, PySem.Value.int 455 0, PySem.Value.int 79 0, kS "/claim/cut.py" 456]) #[]) ::
  (nat_lit 216, PySem.Obj.mk (PySem.Value.type "function") Option.none (PySem.Data.func (PySem.FuncData.mk (kN "mark") (kN "Clock.mark") (defArgs (inClass (top 24) 7)) (PySem.FuncBody.stmts (defBody (inClass (top 24) 7))) (defScope (inClass (top 24) 7)) 3 [] PySem.Value.none PySem.Value.none PySem.Value.none (kS "waithouse.clocks" 384) Option.none (kR 215) PySem.Value.none 0)) #[]) ::
  (nat_lit 217, PySem.Obj.mk (PySem.Value.type "tuple") Option.none (PySem.Data.seq #[kS "present" 458, kS "rows" 459, kS "times" 460]) #[]) ::
  (nat_lit 218, PySem.Obj.mk (PySem.Value.type "dict") Option.none (PySem.Data.dict #[kE P "__module__" 393 (kS "waithouse.clocks" 384), kE P "__firstlineno__" 397 (PySem.Value.int 52 396), kE P "__init__" 403 (kR 167), kE P "now" 410 (kR 174), kE P "setting" 417 (kR 181), kE P "limit" 424 (kR 188), kE P "turn" 432 (kR 195), kE P "course" 439 (kR 202), kE P "wait" 447 (kR 209), kE P "mark" 457 (kR 216), kE P "__static_attributes__" 461 (kR 217), kE P "__dict__" 463 (kR 220), kE P "__weakref__" 465 (kR 221), kE P "__doc__" 466 PySem.Value.none] 4) #[]) ::
  (nat_lit 219, PySem.Obj.mk (PySem.Value.type "type") Option.none (PySem.Data.cls (PySem.ClassData.mk (kN "Clock") [PySem.Value.type "object"] [kR 219, PySem.Value.type "object"] 218 (kN "Clock") Bool.true [] [] Bool.false Option.none Bool.false)) #[Option.none, Option.none, Option.some (kS "Clock" 386), Option.some (kS "Clock" 394), Option.some (PySem.Value.builtin "object.__new__"), Option.some (PySem.Value.bool Bool.true)]) ::
  (nat_lit 220, PySem.Obj.mk (PySem.Value.type "getset_descriptor") Option.none (PySem.Data.fields #[kS "__dict__" 462, kR 219, PySem.Value.builtin "function.__dict__", PySem.Value.builtin "function.__dict__#set"]) #[]) ::
  (nat_lit 221, PySem.Obj.mk (PySem.Value.type "getset_descriptor") Option.none (PySem.Data.fields #[kS "__weakref__" 464, kR 219, PySem.Value.builtin "ExceptionGroup.__weakref__", PySem.Value.none]) #[]) ::
  (nat_lit 224, PySem.Obj.mk (PySem.Value.type "tuple") Option.none (PySem.Data.seq #[]) #[]) ::
  (nat_lit 227, PySem.Obj.mk (PySem.Value.type "code") Option.none (PySem.Data.fields #[kS "wide" 471, kS "wide" 472, kS "/claim/cut.py" 473, PySem.Value.int 86 0, PySem.Value.int 1 0, PySem.Value.int 0 0, PySem.Value.int 0 0, PySem.Value.int 3 0, kR 224, PySem.Value.bool Bool.true, PySem.Value.int 181 0, kR 225, PySem.Value.none, PySem.Value.none, PySem.Value.none, kR 226, PySem.Value.int 474 0, PySem.Value.int 86 0, kS "/claim/cut.py" 475]) #[]) ::
  (nat_lit 228, PySem.Obj.mk (PySem.Value.type "function") Option.none (PySem.Data.func (PySem.FuncData.mk (kN "wide") (kN "wide") (defArgs (top 26)) (PySem.FuncBody.stmts (defBody (top 26))) (defScope (top 26)) 3 [] PySem.Value.none PySem.Value.none PySem.Value.none (kS "waithouse.tables" 469) Option.none (kR 227) PySem.Value.none 0)) #[]) ::
  (nat_lit 229, PySem.Obj.mk (PySem.Value.type "tuple") Option.none (PySem.Data.seq #[]) #[]) ::
  (nat_lit 232, PySem.Obj.mk (PySem.Value.type "code") Option.none (PySem.Data.fields #[kS "wide_row" 477, kS "wide_row" 478, kS "/claim/cut.py" 479, PySem.Value.int 88 0, PySem.Value.int 2 0, PySem.Value.int 0 0, PySem.Value.int 0 0, PySem.Value.int 3 0, kR 229, PySem.Value.bool Bool.true, PySem.Value.int 181 0, kR 230, PySem.Value.none, PySem.Value.none, PySem.Value.none, kR 231, PySem.Value.int 480 0, PySem.Value.int 88 0, kS "/claim/cut.py" 481]) #[]) ::
  (nat_lit 233, PySem.Obj.mk (PySem.Value.type "function") Option.none (PySem.Data.func (PySem.FuncData.mk (kN "wide_row") (kN "wide_row") (defArgs (top 27)) (PySem.FuncBody.stmts (defBody (top 27))) (defScope (top 27)) 3 [] PySem.Value.none PySem.Value.none PySem.Value.none (kS "waithouse.tables" 469) Option.none (kR 232) PySem.Value.none 0)) #[]) ::
  (nat_lit 234, PySem.Obj.mk (PySem.Value.type "tuple") Option.none (PySem.Data.seq #[]) #[]) ::
  (nat_lit 236, PySem.Obj.mk (PySem.Value.type "tuple") Option.none (PySem.Data.seq #[kS "count" 486, kS "bounds" 487, kS "table" 488, kS "bound" 489]) #[]) ::
  (nat_lit 237, PySem.Obj.mk (PySem.Value.type "tuple") Option.none (PySem.Data.seq #[]) #[]) ::
  (nat_lit 239, PySem.Obj.mk (PySem.Value.type "code") Option.none (PySem.Data.fields #[kS "table_of" 483, kS "table_of" 484, kS "/claim/cut.py" 485, PySem.Value.int 90 0, PySem.Value.int 2 0, PySem.Value.int 0 0, PySem.Value.int 0 0, PySem.Value.int 3 0, kR 234, PySem.Value.bool Bool.true, PySem.Value.int 181 0, kR 235, PySem.Value.none, kR 236, kR 237, kR 238, PySem.Value.int 490 0, PySem.Value.int 90 0, kS "/claim/cut.py" 491]) #[]) ::
  (nat_lit 240, PySem.Obj.mk (PySem.Value.type "function") Option.none (PySem.Data.func (PySem.FuncData.mk (kN "table_of") (kN "table_of") (defArgs (top 28)) (PySem.FuncBody.stmts (defBody (top 28))) (defScope (top 28)) 3 [] PySem.Value.none PySem.Value.none PySem.Value.none (kS "waithouse.tables" 469) Option.none (kR 239) PySem.Value.none 0)) #[]) ::
  (nat_lit 241, PySem.Obj.mk (PySem.Value.type "tuple") Option.none (PySem.Data.seq #[]) #[]) ::
  (nat_lit 244, PySem.Obj.mk (PySem.Value.type "code") Option.none (PySem.Data.fields #[kS "held" 493, kS "held" 494, kS "/claim/cut.py" 495, PySem.Value.int 95 0, PySem.Value.int 2 0, PySem.Value.int 0 0, PySem.Value.int 0 0, PySem.Value.int 3 0, kR 241, PySem.Value.bool Bool.true, PySem.Value.int 181 0, kR 242, PySem.Value.none, PySem.Value.none, PySem.Value.none, kR 243, PySem.Value.int 496 0, PySem.Value.int 95 0, kS "/claim/cut.py" 497]) #[]) ::
  (nat_lit 245, PySem.Obj.mk (PySem.Value.type "function") Option.none (PySem.Data.func (PySem.FuncData.mk (kN "held") (kN "held") (defArgs (top 29)) (PySem.FuncBody.stmts (defBody (top 29))) (defScope (top 29)) 3 [] PySem.Value.none PySem.Value.none PySem.Value.none (kS "waithouse.tables" 469) Option.none (kR 244) PySem.Value.none 0)) #[]) ::
  (nat_lit 246, PySem.Obj.mk (PySem.Value.type "tuple") Option.none (PySem.Data.seq #[]) #[]) ::
  (nat_lit 248, PySem.Obj.mk (PySem.Value.type "tuple") Option.none (PySem.Data.seq #[kS "bound" 502, kS "table" 503, kS "back" 504]) #[]) ::
  (nat_lit 249, PySem.Obj.mk (PySem.Value.type "tuple") Option.none (PySem.Data.seq #[]) #[]) ::
  (nat_lit 251, PySem.Obj.mk (PySem.Value.type "code") Option.none (PySem.Data.fields #[kS "shuts" 499, kS "shuts" 500, kS "/claim/cut.py" 501, PySem.Value.int 99 0, PySem.Value.int 2 0, PySem.Value.int 0 0, PySem.Value.int 0 0, PySem.Value.int 3 0, kR 246, PySem.Value.bool Bool.true, PySem.Value.int 181 0, kR 247, PySem.Value.none, kR 248, kR 249, kR 250, PySem.Value.int 505 0, PySem.Value.int 99 0, kS "/claim/cut.py" 506]) #[]) ::
  (nat_lit 252, PySem.Obj.mk (PySem.Value.type "function") Option.none (PySem.Data.func (PySem.FuncData.mk (kN "shuts") (kN "shuts") (defArgs (top 30)) (PySem.FuncBody.stmts (defBody (top 30))) (defScope (top 30)) 3 [] PySem.Value.none PySem.Value.none PySem.Value.none (kS "waithouse.tables" 469) Option.none (kR 251) PySem.Value.none 0)) #[]) ::
  (nat_lit 253, PySem.Obj.mk (PySem.Value.type "tuple") Option.none (PySem.Data.seq #[]) #[]) ::
  (nat_lit 256, PySem.Obj.mk (PySem.Value.type "code") Option.none (PySem.Data.fields #[kS "held_row" 508, kS "held_row" 509, kS "/claim/cut.py" 510, PySem.Value.int 102 0, PySem.Value.int 3 0, PySem.Value.int 0 0, PySem.Value.int 0 0, PySem.Value.int 3 0, kR 253, PySem.Value.bool Bool.true, PySem.Value.int 181 0, kR 254, PySem.Value.none, PySem.Value.none, PySem.Value.none, kR 255, PySem.Value.int 511 0, PySem.Value.int 102 0, kS "/claim/cut.py" 512]) #[]) ::
  (nat_lit 257, PySem.Obj.mk (PySem.Value.type "function") Option.none (PySem.Data.func (PySem.FuncData.mk (kN "held_row") (kN "held_row") (defArgs (top 31)) (PySem.FuncBody.stmts (defBody (top 31))) (defScope (top 31)) 3 [] PySem.Value.none PySem.Value.none PySem.Value.none (kS "waithouse.tables" 469) Option.none (kR 256) PySem.Value.none 0)) #[]) ::
  (nat_lit 258, PySem.Obj.mk (PySem.Value.type "tuple") Option.none (PySem.Data.seq #[]) #[]) ::
  (nat_lit 260, PySem.Obj.mk (PySem.Value.type "tuple") Option.none (PySem.Data.seq #[kS "one" 517, kS "other" 518]) #[]) ::
  (nat_lit 261, PySem.Obj.mk (PySem.Value.type "tuple") Option.none (PySem.Data.seq #[]) #[]) ::
  (nat_lit 263, PySem.Obj.mk (PySem.Value.type "code") Option.none (PySem.Data.fields #[kS "total" 514, kS "total" 515, kS "/claim/cut.py" 516, PySem.Value.int 106 0, PySem.Value.int 2 0, PySem.Value.int 0 0, PySem.Value.int 0 0, PySem.Value.int 3 0, kR 258, PySem.Value.bool Bool.true, PySem.Value.int 181 0, kR 259, PySem.Value.none, kR 260, kR 261, kR 262, PySem.Value.int 519 0, PySem.Value.int 106 0, kS "/claim/cut.py" 520]) #[]) ::
  (nat_lit 264, PySem.Obj.mk (PySem.Value.type "function") Option.none (PySem.Data.func (PySem.FuncData.mk (kN "total") (kN "total") (defArgs (top 32)) (PySem.FuncBody.stmts (defBody (top 32))) (defScope (top 32)) 3 [] PySem.Value.none PySem.Value.none PySem.Value.none (kS "waithouse.tables" 469) Option.none (kR 263) PySem.Value.none 0)) #[]) ::
  (nat_lit 265, PySem.Obj.mk (PySem.Value.type "tuple") Option.none (PySem.Data.seq #[]) #[]) ::
  (nat_lit 267, PySem.Obj.mk (PySem.Value.type "tuple") Option.none (PySem.Data.seq #[kS "one" 525, kS "other" 526]) #[]) ::
  (nat_lit 268, PySem.Obj.mk (PySem.Value.type "tuple") Option.none (PySem.Data.seq #[]) #[]) ::
  (nat_lit 270, PySem.Obj.mk (PySem.Value.type "code") Option.none (PySem.Data.fields #[kS "lesser" 522, kS "lesser" 523, kS "/claim/cut.py" 524, PySem.Value.int 110 0, PySem.Value.int 2 0, PySem.Value.int 0 0, PySem.Value.int 0 0, PySem.Value.int 3 0, kR 265, PySem.Value.bool Bool.true, PySem.Value.int 181 0, kR 266, PySem.Value.none, kR 267, kR 268, kR 269, PySem.Value.int 527 0, PySem.Value.int 110 0, kS "/claim/cut.py" 528]) #[]) ::
  (nat_lit 271, PySem.Obj.mk (PySem.Value.type "function") Option.none (PySem.Data.func (PySem.FuncData.mk (kN "lesser") (kN "lesser") (defArgs (top 33)) (PySem.FuncBody.stmts (defBody (top 33))) (defScope (top 33)) 3 [] PySem.Value.none PySem.Value.none PySem.Value.none (kS "waithouse.tables" 469) Option.none (kR 270) PySem.Value.none 0)) #[]) ::
  (nat_lit 272, PySem.Obj.mk (PySem.Value.type "tuple") Option.none (PySem.Data.seq #[]) #[]) ::
  (nat_lit 274, PySem.Obj.mk (PySem.Value.type "tuple") Option.none (PySem.Data.seq #[kS "_law_script" 535, kS "_law_k" 536, kS "_law_seed" 537, kS "_law_some" 538]) #[]) ::
  (nat_lit 275, PySem.Obj.mk (PySem.Value.type "tuple") Option.none (PySem.Data.seq #[]) #[]) ::
  (nat_lit 277, PySem.Obj.mk (PySem.Value.type "code") Option.none (PySem.Data.fields #[kS "_law_cell" 532, kS "_law_cell" 533, kS "/claim/cut.py" 534, PySem.Value.int 117 0, PySem.Value.int 2 0, PySem.Value.int 0 0, PySem.Value.int 0 0, PySem.Value.int 3 0, kR 272, PySem.Value.bool Bool.true, PySem.Value.int 181 0, kR 273, PySem.Value.none, kR 274, kR 275, kR 276, PySem.Value.int 539 0, PySem.Value.int 117 0, kS "/claim/cut.py" 540]) #[]) ::
  (nat_lit 278, PySem.Obj.mk (PySem.Value.type "function") Option.none (PySem.Data.func (PySem.FuncData.mk (kN "_law_cell") (kN "_law_cell") (defArgs (top 35)) (PySem.FuncBody.stmts (defBody (top 35))) (defScope (top 35)) 3 [] PySem.Value.none PySem.Value.none PySem.Value.none (kS "law_waithouse_k24_clock" 530) Option.none (kR 277) PySem.Value.none 0)) #[]) ::
  (nat_lit 279, PySem.Obj.mk (PySem.Value.type "tuple") Option.none (PySem.Data.seq #[]) #[]) ::
  (nat_lit 281, PySem.Obj.mk (PySem.Value.type "tuple") Option.none (PySem.Data.seq #[kS "_law_found" 545]) #[]) ::
  (nat_lit 282, PySem.Obj.mk (PySem.Value.type "tuple") Option.none (PySem.Data.seq #[]) #[]) ::
  (nat_lit 284, PySem.Obj.mk (PySem.Value.type "code") Option.none (PySem.Data.fields #[kS "_law_whole" 542, kS "_law_whole" 543, kS "/claim/cut.py" 544, PySem.Value.int 125 0, PySem.Value.int 1 0, PySem.Value.int 0 0, PySem.Value.int 0 0, PySem.Value.int 3 0, kR 279, PySem.Value.bool Bool.true, PySem.Value.int 181 0, kR 280, PySem.Value.none, kR 281, kR 282, kR 283, PySem.Value.int 546 0, PySem.Value.int 125 0, kS "/claim/cut.py" 547]) #[]) ::
  (nat_lit 285, PySem.Obj.mk (PySem.Value.type "function") Option.none (PySem.Data.func (PySem.FuncData.mk (kN "_law_whole") (kN "_law_whole") (defArgs (top 36)) (PySem.FuncBody.stmts (defBody (top 36))) (defScope (top 36)) 3 [] PySem.Value.none PySem.Value.none PySem.Value.none (kS "law_waithouse_k24_clock" 530) Option.none (kR 284) PySem.Value.none 0)) #[]) ::
  (nat_lit 286, PySem.Obj.mk (PySem.Value.type "tuple") Option.none (PySem.Data.seq #[]) #[]) ::
  (nat_lit 288, PySem.Obj.mk (PySem.Value.type "tuple") Option.none (PySem.Data.seq #[kS "_law_cell_here" 552]) #[]) ::
  (nat_lit 289, PySem.Obj.mk (PySem.Value.type "tuple") Option.none (PySem.Data.seq #[]) #[]) ::
  (nat_lit 291, PySem.Obj.mk (PySem.Value.type "code") Option.none (PySem.Data.fields #[kS "_law_big" 549, kS "_law_big" 550, kS "/claim/cut.py" 551, PySem.Value.int 127 0, PySem.Value.int 1 0, PySem.Value.int 0 0, PySem.Value.int 0 0, PySem.Value.int 3 0, kR 286, PySem.Value.bool Bool.true, PySem.Value.int 181 0, kR 287, PySem.Value.none, kR 288, kR 289, kR 290, PySem.Value.int 553 0, PySem.Value.int 127 0, kS "/claim/cut.py" 554]) #[]) ::
  (nat_lit 292, PySem.Obj.mk (PySem.Value.type "function") Option.none (PySem.Data.func (PySem.FuncData.mk (kN "_law_big") (kN "_law_big") (defArgs (top 37)) (PySem.FuncBody.stmts (defBody (top 37))) (defScope (top 37)) 3 [] PySem.Value.none PySem.Value.none PySem.Value.none (kS "law_waithouse_k24_clock" 530) Option.none (kR 291) PySem.Value.none 0)) #[]) ::
  (nat_lit 293, PySem.Obj.mk (PySem.Value.type "tuple") Option.none (PySem.Data.seq #[]) #[]) ::
  (nat_lit 296, PySem.Obj.mk (PySem.Value.type "code") Option.none (PySem.Data.fields #[kS "_law_times" 556, kS "_law_times" 557, kS "/claim/cut.py" 558, PySem.Value.int 131 0, PySem.Value.int 3 0, PySem.Value.int 0 0, PySem.Value.int 0 0, PySem.Value.int 3 0, kR 293, PySem.Value.bool Bool.true, PySem.Value.int 181 0, kR 294, PySem.Value.none, PySem.Value.none, PySem.Value.none, kR 295, PySem.Value.int 559 0, PySem.Value.int 131 0, kS "/claim/cut.py" 560]) #[]) ::
  (nat_lit 297, PySem.Obj.mk (PySem.Value.type "function") Option.none (PySem.Data.func (PySem.FuncData.mk (kN "_law_times") (kN "_law_times") (defArgs (top 38)) (PySem.FuncBody.stmts (defBody (top 38))) (defScope (top 38)) 3 [] PySem.Value.none PySem.Value.none PySem.Value.none (kS "law_waithouse_k24_clock" 530) Option.none (kR 296) PySem.Value.none 0)) #[]) ::
  (nat_lit 298, PySem.Obj.mk (PySem.Value.type "tuple") Option.none (PySem.Data.seq #[]) #[]) ::
  (nat_lit 301, PySem.Obj.mk (PySem.Value.type "code") Option.none (PySem.Data.fields #[kS "_law_cells" 562, kS "_law_cells" 563, kS "/claim/cut.py" 564, PySem.Value.int 133 0, PySem.Value.int 3 0, PySem.Value.int 0 0, PySem.Value.int 0 0, PySem.Value.int 3 0, kR 298, PySem.Value.bool Bool.true, PySem.Value.int 181 0, kR 299, PySem.Value.none, PySem.Value.none, PySem.Value.none, kR 300, PySem.Value.int 565 0, PySem.Value.int 133 0, kS "/claim/cut.py" 566]) #[]) ::
  (nat_lit 302, PySem.Obj.mk (PySem.Value.type "function") Option.none (PySem.Data.func (PySem.FuncData.mk (kN "_law_cells") (kN "_law_cells") (defArgs (top 39)) (PySem.FuncBody.stmts (defBody (top 39))) (defScope (top 39)) 3 [] PySem.Value.none PySem.Value.none PySem.Value.none (kS "law_waithouse_k24_clock" 530) Option.none (kR 301) PySem.Value.none 0)) #[]) ::
  (nat_lit 303, PySem.Obj.mk (PySem.Value.type "tuple") Option.none (PySem.Data.seq #[]) #[]) ::
  (nat_lit 305, PySem.Obj.mk (PySem.Value.type "tuple") Option.none (PySem.Data.seq #[kS "_law_cells_here" 571, kS "_law_count" 572, kS "_law_times_here" 573, kS "_law_bounds_here" 574, kS "_law_cell_here" 575, kS "_law_a" 576, kS "_law_b" 577, kS "_law_rest" 578, kS "_law_slack" 579]) #[]) ::
  (nat_lit 306, PySem.Obj.mk (PySem.Value.type "tuple") Option.none (PySem.Data.seq #[]) #[]) ::
  (nat_lit 308, PySem.Obj.mk (PySem.Value.type "code") Option.none (PySem.Data.fields #[kS "_law_bounds" 568, kS "_law_bounds" 569, kS "/claim/cut.py" 570, PySem.Value.int 138 0, PySem.Value.int 3 0, PySem.Value.int 0 0, PySem.Value.int 0 0, PySem.Value.int 3 0, kR 303, PySem.Value.bool Bool.true, PySem.Value.int 181 0, kR 304, PySem.Value.none, kR 305, kR 306, kR 307, PySem.Value.int 580 0, PySem.Value.int 138 0, kS "/claim/cut.py" 581]) #[]) ::
  (nat_lit 309, PySem.Obj.mk (PySem.Value.type "function") Option.none (PySem.Data.func (PySem.FuncData.mk (kN "_law_bounds") (kN "_law_bounds") (defArgs (top 40)) (PySem.FuncBody.stmts (defBody (top 40))) (defScope (top 40)) 3 [] PySem.Value.none PySem.Value.none PySem.Value.none (kS "law_waithouse_k24_clock" 530) Option.none (kR 308) PySem.Value.none 0)) #[]) ::
  (nat_lit 310, PySem.Obj.mk (PySem.Value.type "tuple") Option.none (PySem.Data.seq #[]) #[]) ::
  (nat_lit 313, PySem.Obj.mk (PySem.Value.type "code") Option.none (PySem.Data.fields #[kS "_law_least" 583, kS "_law_least" 584, kS "/claim/cut.py" 585, PySem.Value.int 149 0, PySem.Value.int 1 0, PySem.Value.int 0 0, PySem.Value.int 0 0, PySem.Value.int 3 0, kR 310, PySem.Value.bool Bool.true, PySem.Value.int 181 0, kR 311, PySem.Value.none, PySem.Value.none, PySem.Value.none, kR 312, PySem.Value.int 586 0, PySem.Value.int 149 0, kS "/claim/cut.py" 587]) #[]) ::
  (nat_lit 314, PySem.Obj.mk (PySem.Value.type "function") Option.none (PySem.Data.func (PySem.FuncData.mk (kN "_law_least") (kN "_law_least") (defArgs (top 41)) (PySem.FuncBody.stmts (defBody (top 41))) (defScope (top 41)) 3 [] PySem.Value.none PySem.Value.none PySem.Value.none (kS "law_waithouse_k24_clock" 530) Option.none (kR 313) PySem.Value.none 0)) #[]) ::
  (nat_lit 315, PySem.Obj.mk (PySem.Value.type "tuple") Option.none (PySem.Data.seq #[]) #[]) ::
  (nat_lit 317, PySem.Obj.mk (PySem.Value.type "tuple") Option.none (PySem.Data.seq #[kS "_law_table" 592, kS "_law_setting" 593, kS "_law_x" 594, kS "_law_ends" 595, kS "_law_s" 596]) #[]) ::
  (nat_lit 318, PySem.Obj.mk (PySem.Value.type "tuple") Option.none (PySem.Data.seq #[]) #[]) ::
  (nat_lit 320, PySem.Obj.mk (PySem.Value.type "code") Option.none (PySem.Data.fields #[kS "_law_high" 589, kS "_law_high" 590, kS "/claim/cut.py" 591, PySem.Value.int 154 0, PySem.Value.int 3 0, PySem.Value.int 0 0, PySem.Value.int 0 0, PySem.Value.int 3 0, kR 315, PySem.Value.bool Bool.true, PySem.Value.int 181 0, kR 316, PySem.Value.none, kR 317, kR 318, kR 319, PySem.Value.int 597 0, PySem.Value.int 154 0, kS "/claim/cut.py" 598]) #[]) ::
  (nat_lit 321, PySem.Obj.mk (PySem.Value.type "function") Option.none (PySem.Data.func (PySem.FuncData.mk (kN "_law_high") (kN "_law_high") (defArgs (top 42)) (PySem.FuncBody.stmts (defBody (top 42))) (defScope (top 42)) 3 [] PySem.Value.none PySem.Value.none PySem.Value.none (kS "law_waithouse_k24_clock" 530) Option.none (kR 320) PySem.Value.none 0)) #[]) ::
  (nat_lit 322, PySem.Obj.mk (PySem.Value.type "tuple") Option.none (PySem.Data.seq #[]) #[]) ::
  (nat_lit 324, PySem.Obj.mk (PySem.Value.type "tuple") Option.none (PySem.Data.seq #[kS "_law_table" 603, kS "_law_setting" 604, kS "_law_x" 605, kS "_law_ends" 606, kS "_law_s" 607, kS "_law_end" 608]) #[]) ::
  (nat_lit 325, PySem.Obj.mk (PySem.Value.type "tuple") Option.none (PySem.Data.seq #[]) #[]) ::
  (nat_lit 327, PySem.Obj.mk (PySem.Value.type "code") Option.none (PySem.Data.fields #[kS "_law_low" 600, kS "_law_low" 601, kS "/claim/cut.py" 602, PySem.Value.int 162 0, PySem.Value.int 3 0, PySem.Value.int 0 0, PySem.Value.int 0 0, PySem.Value.int 3 0, kR 322, PySem.Value.bool Bool.true, PySem.Value.int 181 0, kR 323, PySem.Value.none, kR 324, kR 325, kR 326, PySem.Value.int 609 0, PySem.Value.int 162 0, kS "/claim/cut.py" 610]) #[]) ::
  (nat_lit 328, PySem.Obj.mk (PySem.Value.type "function") Option.none (PySem.Data.func (PySem.FuncData.mk (kN "_law_low") (kN "_law_low") (defArgs (top 43)) (PySem.FuncBody.stmts (defBody (top 43))) (defScope (top 43)) 3 [] PySem.Value.none PySem.Value.none PySem.Value.none (kS "law_waithouse_k24_clock" 530) Option.none (kR 327) PySem.Value.none 0)) #[]) ::
  (nat_lit 329, PySem.Obj.mk (PySem.Value.type "tuple") Option.none (PySem.Data.seq #[]) #[]) ::
  (nat_lit 332, PySem.Obj.mk (PySem.Value.type "code") Option.none (PySem.Data.fields #[kS "_law_limit" 612, kS "_law_limit" 613, kS "/claim/cut.py" 614, PySem.Value.int 173 0, PySem.Value.int 2 0, PySem.Value.int 0 0, PySem.Value.int 0 0, PySem.Value.int 3 0, kR 329, PySem.Value.bool Bool.true, PySem.Value.int 181 0, kR 330, PySem.Value.none, PySem.Value.none, PySem.Value.none, kR 331, PySem.Value.int 615 0, PySem.Value.int 173 0, kS "/claim/cut.py" 616]) #[]) ::
  (nat_lit 333, PySem.Obj.mk (PySem.Value.type "function") Option.none (PySem.Data.func (PySem.FuncData.mk (kN "_law_limit") (kN "_law_limit") (defArgs (top 44)) (PySem.FuncBody.stmts (defBody (top 44))) (defScope (top 44)) 3 [] PySem.Value.none PySem.Value.none PySem.Value.none (kS "law_waithouse_k24_clock" 530) Option.none (kR 332) PySem.Value.none 0)) #[]) ::
  (nat_lit 334, PySem.Obj.mk (PySem.Value.type "tuple") Option.none (PySem.Data.seq #[]) #[]) ::
  (nat_lit 336, PySem.Obj.mk (PySem.Value.type "tuple") Option.none (PySem.Data.seq #[kS "_law_table" 621, kS "_law_setting" 622, kS "_law_now" 623, kS "_law_x" 624, kS "_law_y" 625, kS "_law_low_here" 626, kS "_law_high_here" 627]) #[]) ::
  (nat_lit 337, PySem.Obj.mk (PySem.Value.type "tuple") Option.none (PySem.Data.seq #[]) #[]) ::
  (nat_lit 339, PySem.Obj.mk (PySem.Value.type "code") Option.none (PySem.Data.fields #[kS "_law_turn" 618, kS "_law_turn" 619, kS "/claim/cut.py" 620, PySem.Value.int 176 0, PySem.Value.int 4 0, PySem.Value.int 0 0, PySem.Value.int 0 0, PySem.Value.int 3 0, kR 334, PySem.Value.bool Bool.true, PySem.Value.int 181 0, kR 335, PySem.Value.none, kR 336, kR 337, kR 338, PySem.Value.int 628 0, PySem.Value.int 176 0, kS "/claim/cut.py" 629]) #[]) ::
  (nat_lit 340, PySem.Obj.mk (PySem.Value.type "function") Option.none (PySem.Data.func (PySem.FuncData.mk (kN "_law_turn") (kN "_law_turn") (defArgs (top 45)) (PySem.FuncBody.stmts (defBody (top 45))) (defScope (top 45)) 3 [] PySem.Value.none PySem.Value.none PySem.Value.none (kS "law_waithouse_k24_clock" 530) Option.none (kR 339) PySem.Value.none 0)) #[]) ::
  (nat_lit 341, PySem.Obj.mk (PySem.Value.type "tuple") Option.none (PySem.Data.seq #[]) #[]) ::
  (nat_lit 343, PySem.Obj.mk (PySem.Value.type "tuple") Option.none (PySem.Data.seq #[kS "_law_found" 634, kS "_law_due" 635]) #[]) ::
  (nat_lit 344, PySem.Obj.mk (PySem.Value.type "tuple") Option.none (PySem.Data.seq #[]) #[]) ::
  (nat_lit 346, PySem.Obj.mk (PySem.Value.type "code") Option.none (PySem.Data.fields #[kS "_law_number_like" 631, kS "_law_number_like" 632, kS "/claim/cut.py" 633, PySem.Value.int 189 0, PySem.Value.int 2 0, PySem.Value.int 0 0, PySem.Value.int 0 0, PySem.Value.int 3 0, kR 341, PySem.Value.bool Bool.true, PySem.Value.int 181 0, kR 342, PySem.Value.none, kR 343, kR 344, kR 345, PySem.Value.int 636 0, PySem.Value.int 189 0, kS "/claim/cut.py" 637]) #[]) ::
  (nat_lit 347, PySem.Obj.mk (PySem.Value.type "function") Option.none (PySem.Data.func (PySem.FuncData.mk (kN "_law_number_like") (kN "_law_number_like") (defArgs (top 46)) (PySem.FuncBody.stmts (defBody (top 46))) (defScope (top 46)) 3 [] PySem.Value.none PySem.Value.none PySem.Value.none (kS "law_waithouse_k24_clock" 530) Option.none (kR 346) PySem.Value.none 0)) #[]) ::
  (nat_lit 348, PySem.Obj.mk (PySem.Value.type "tuple") Option.none (PySem.Data.seq #[]) #[]) ::
  (nat_lit 350, PySem.Obj.mk (PySem.Value.type "tuple") Option.none (PySem.Data.seq #[kS "_law_found" 642, kS "_law_due" 643]) #[]) ::
  (nat_lit 351, PySem.Obj.mk (PySem.Value.type "tuple") Option.none (PySem.Data.seq #[]) #[]) ::
  (nat_lit 353, PySem.Obj.mk (PySem.Value.type "code") Option.none (PySem.Data.fields #[kS "_law_turn_like" 639, kS "_law_turn_like" 640, kS "/claim/cut.py" 641, PySem.Value.int 193 0, PySem.Value.int 2 0, PySem.Value.int 0 0, PySem.Value.int 0 0, PySem.Value.int 3 0, kR 348, PySem.Value.bool Bool.true, PySem.Value.int 181 0, kR 349, PySem.Value.none, kR 350, kR 351, kR 352, PySem.Value.int 644 0, PySem.Value.int 193 0, kS "/claim/cut.py" 645]) #[]) ::
  (nat_lit 354, PySem.Obj.mk (PySem.Value.type "function") Option.none (PySem.Data.func (PySem.FuncData.mk (kN "_law_turn_like") (kN "_law_turn_like") (defArgs (top 47)) (PySem.FuncBody.stmts (defBody (top 47))) (defScope (top 47)) 3 [] PySem.Value.none PySem.Value.none PySem.Value.none (kS "law_waithouse_k24_clock" 530) Option.none (kR 353) PySem.Value.none 0)) #[]) ::
  (nat_lit 355, PySem.Obj.mk (PySem.Value.type "tuple") Option.none (PySem.Data.seq #[]) #[]) ::
  (nat_lit 357, PySem.Obj.mk (PySem.Value.type "tuple") Option.none (PySem.Data.seq #[kS "_law_times_here" 650, kS "_law_bounds_here" 651, kS "_law_setting" 652, kS "_law_now" 653, kS "_law_x" 654, kS "_law_bound" 655]) #[]) ::
  (nat_lit 358, PySem.Obj.mk (PySem.Value.type "tuple") Option.none (PySem.Data.seq #[]) #[]) ::
  (nat_lit 360, PySem.Obj.mk (PySem.Value.type "code") Option.none (PySem.Data.fields #[kS "_law_course_good" 647, kS "_law_course_good" 648, kS "/claim/cut.py" 649, PySem.Value.int 199 0, PySem.Value.int 4 0, PySem.Value.int 0 0, PySem.Value.int 0 0, PySem.Value.int 3 0, kR 355, PySem.Value.bool Bool.true, PySem.Value.int 181 0, kR 356, PySem.Value.none, kR 357, kR 358, kR 359, PySem.Value.int 656 0, PySem.Value.int 199 0, kS "/claim/cut.py" 657]) #[]) ::
  (nat_lit 361, PySem.Obj.mk (PySem.Value.type "function") Option.none (PySem.Data.func (PySem.FuncData.mk (kN "_law_course_good") (kN "_law_course_good") (defArgs (top 48)) (PySem.FuncBody.stmts (defBody (top 48))) (defScope (top 48)) 3 [] PySem.Value.none PySem.Value.none PySem.Value.none (kS "law_waithouse_k24_clock" 530) Option.none (kR 360) PySem.Value.none 0)) #[]) ::
  (nat_lit 362, PySem.Obj.mk (PySem.Value.type "tuple") Option.none (PySem.Data.seq #[]) #[]) ::
  (nat_lit 364, PySem.Obj.mk (PySem.Value.type "tuple") Option.none (PySem.Data.seq #[kS "_law_clock" 662, kS "_law_table" 663, kS "_law_bounds_here" 664, kS "_law_state" 665, kS "_law_setting" 666, kS "_law_told" 667, kS "_law_x" 668]) #[]) ::
  (nat_lit 365, PySem.Obj.mk (PySem.Value.type "tuple") Option.none (PySem.Data.seq #[]) #[]) ::
  (nat_lit 367, PySem.Obj.mk (PySem.Value.type "code") Option.none (PySem.Data.fields #[kS "_law_shown" 659, kS "_law_shown" 660, kS "/claim/cut.py" 661, PySem.Value.int 213 0, PySem.Value.int 4 0, PySem.Value.int 0 0, PySem.Value.int 0 0, PySem.Value.int 3 0, kR 362, PySem.Value.bool Bool.true, PySem.Value.int 181 0, kR 363, PySem.Value.none, kR 364, kR 365, kR 366, PySem.Value.int 669 0, PySem.Value.int 213 0, kS "/claim/cut.py" 670]) #[]) ::
  (nat_lit 368, PySem.Obj.mk (PySem.Value.type "function") Option.none (PySem.Data.func (PySem.FuncData.mk (kN "_law_shown") (kN "_law_shown") (defArgs (top 49)) (PySem.FuncBody.stmts (defBody (top 49))) (defScope (top 49)) 3 [] PySem.Value.none PySem.Value.none PySem.Value.none (kS "law_waithouse_k24_clock" 530) Option.none (kR 367) PySem.Value.none 0)) #[]) ::
  (nat_lit 369, PySem.Obj.mk (PySem.Value.type "tuple") Option.none (PySem.Data.seq #[]) #[]) ::
  (nat_lit 372, PySem.Obj.mk (PySem.Value.type "code") Option.none (PySem.Data.fields #[kS "_law_near" 672, kS "_law_near" 673, kS "/claim/cut.py" 674, PySem.Value.int 230 0, PySem.Value.int 3 0, PySem.Value.int 0 0, PySem.Value.int 0 0, PySem.Value.int 3 0, kR 369, PySem.Value.bool Bool.true, PySem.Value.int 181 0, kR 370, PySem.Value.none, PySem.Value.none, PySem.Value.none, kR 371, PySem.Value.int 675 0, PySem.Value.int 230 0, kS "/claim/cut.py" 676]) #[]) ::
  (nat_lit 373, PySem.Obj.mk (PySem.Value.type "function") Option.none (PySem.Data.func (PySem.FuncData.mk (kN "_law_near") (kN "_law_near") (defArgs (top 50)) (PySem.FuncBody.stmts (defBody (top 50))) (defScope (top 50)) 3 [] PySem.Value.none PySem.Value.none PySem.Value.none (kS "law_waithouse_k24_clock" 530) Option.none (kR 372) PySem.Value.none 0)) #[]) ::
  (nat_lit 374, PySem.Obj.mk (PySem.Value.type "tuple") Option.none (PySem.Data.seq #[]) #[]) ::
  (nat_lit 376, PySem.Obj.mk (PySem.Value.type "tuple") Option.none (PySem.Data.seq #[kS "_law_clock" 681, kS "_law_x" 682, kS "_law_time" 683, kS "e" 684]) #[]) ::
  (nat_lit 377, PySem.Obj.mk (PySem.Value.type "tuple") Option.none (PySem.Data.seq #[]) #[]) ::
  (nat_lit 379, PySem.Obj.mk (PySem.Value.type "code") Option.none (PySem.Data.fields #[kS "_law_refusal" 678, kS "_law_refusal" 679, kS "/claim/cut.py" 680, PySem.Value.int 233 0, PySem.Value.int 3 0, PySem.Value.int 0 0, PySem.Value.int 0 0, PySem.Value.int 3 0, kR 374, PySem.Value.bool Bool.true, PySem.Value.int 181 0, kR 375, PySem.Value.none, kR 376, kR 377, kR 378, PySem.Value.int 685 0, PySem.Value.int 233 0, kS "/claim/cut.py" 686]) #[]) ::
  (nat_lit 380, PySem.Obj.mk (PySem.Value.type "function") Option.none (PySem.Data.func (PySem.FuncData.mk (kN "_law_refusal") (kN "_law_refusal") (defArgs (top 51)) (PySem.FuncBody.stmts (defBody (top 51))) (defScope (top 51)) 3 [] PySem.Value.none PySem.Value.none PySem.Value.none (kS "law_waithouse_k24_clock" 530) Option.none (kR 379) PySem.Value.none 0)) #[]) ::
  (nat_lit 381, PySem.Obj.mk (PySem.Value.type "tuple") Option.none (PySem.Data.seq #[]) #[]) ::
  (nat_lit 383, PySem.Obj.mk (PySem.Value.type "tuple") Option.none (PySem.Data.seq #[kS "_law_some" 691]) #[]) ::
  (nat_lit 384, PySem.Obj.mk (PySem.Value.type "tuple") Option.none (PySem.Data.seq #[]) #[]) ::
  (nat_lit 386, PySem.Obj.mk (PySem.Value.type "code") Option.none (PySem.Data.fields #[kS "_law_only_time" 688, kS "_law_only_time" 689, kS "/claim/cut.py" 690, PySem.Value.int 242 0, PySem.Value.int 1 0, PySem.Value.int 0 0, PySem.Value.int 0 0, PySem.Value.int 3 0, kR 381, PySem.Value.bool Bool.true, PySem.Value.int 181 0, kR 382, PySem.Value.none, kR 383, kR 384, kR 385, PySem.Value.int 692 0, PySem.Value.int 242 0, kS "/claim/cut.py" 693]) #[]) ::
  (nat_lit 387, PySem.Obj.mk (PySem.Value.type "function") Option.none (PySem.Data.func (PySem.FuncData.mk (kN "_law_only_time") (kN "_law_only_time") (defArgs (top 52)) (PySem.FuncBody.stmts (defBody (top 52))) (defScope (top 52)) 3 [] PySem.Value.none PySem.Value.none PySem.Value.none (kS "law_waithouse_k24_clock" 530) Option.none (kR 386) PySem.Value.none 0)) #[]) ::
  (nat_lit 388, PySem.Obj.mk (PySem.Value.type "tuple") Option.none (PySem.Data.seq #[]) #[]) ::
  (nat_lit 390, PySem.Obj.mk (PySem.Value.type "tuple") Option.none (PySem.Data.seq #[kS "_law_clock" 698, kS "_law_table" 699, kS "_law_state" 700, kS "_law_cell_here" 701, kS "_law_times_here" 702, kS "_law_setting" 703, kS "_law_end" 704, kS "_law_time" 705, kS "_law_good" 706, kS "_law_some" 707, kS "_law_x" 708, kS "_law_due" 709, kS "_law_ends" 710]) #[]) ::
  (nat_lit 391, PySem.Obj.mk (PySem.Value.type "tuple") Option.none (PySem.Data.seq #[]) #[]) ::
  (nat_lit 393, PySem.Obj.mk (PySem.Value.type "code") Option.none (PySem.Data.fields #[kS "_law_deed" 695, kS "_law_deed" 696, kS "/claim/cut.py" 697, PySem.Value.int 248 0, PySem.Value.int 5 0, PySem.Value.int 0 0, PySem.Value.int 0 0, PySem.Value.int 3 0, kR 388, PySem.Value.bool Bool.true, PySem.Value.int 181 0, kR 389, PySem.Value.none, kR 390, kR 391, kR 392, PySem.Value.int 711 0, PySem.Value.int 248 0, kS "/claim/cut.py" 712]) #[]) ::
  (nat_lit 394, PySem.Obj.mk (PySem.Value.type "function") Option.none (PySem.Data.func (PySem.FuncData.mk (kN "_law_deed") (kN "_law_deed") (defArgs (top 53)) (PySem.FuncBody.stmts (defBody (top 53))) (defScope (top 53)) 3 [] PySem.Value.none PySem.Value.none PySem.Value.none (kS "law_waithouse_k24_clock" 530) Option.none (kR 393) PySem.Value.none 0)) #[]) ::
  (nat_lit 395, PySem.Obj.mk (PySem.Value.type "tuple") Option.none (PySem.Data.seq #[]) #[]) ::
  (nat_lit 398, PySem.Obj.mk (PySem.Value.type "code") Option.none (PySem.Data.fields #[kS "law" 714, kS "law" 715, kS "/claim/cut.py" 716, PySem.Value.int 272 0, PySem.Value.int 1 0, PySem.Value.int 0 0, PySem.Value.int 0 0, PySem.Value.int 3 0, kR 395, PySem.Value.bool Bool.true, PySem.Value.int 181 0, kR 396, PySem.Value.none, PySem.Value.none, PySem.Value.none, kR 397, PySem.Value.int 717 0, PySem.Value.int 272 0, kS "/claim/cut.py" 718]) #[]) ::
  (nat_lit 399, PySem.Obj.mk (PySem.Value.type "function") Option.none (PySem.Data.func (PySem.FuncData.mk (kN "law") (kN "law") (defArgs (top 54)) (PySem.FuncBody.stmts (defBody (top 54))) (defScope (top 54)) 3 [] PySem.Value.none PySem.Value.none PySem.Value.none (kS "law_waithouse_k24_clock" 530) Option.none (kR 398) PySem.Value.none 0)) #[]) :: []
def KA : List Addr := [2, 3, 15, 22, 23, 24, 25, 28, 35, 36, 37, 40, 47, 48, 49, 52, 59, 60, 61, 64, 71, 72, 73, 76, 83, 85, 86, 88, 89, 90, 91, 92, 95, 102, 103, 104, 107, 109, 110, 112, 113, 114, 117, 118, 119, 122, 123, 124, 127, 128, 129, 132, 133, 134, 137, 138, 139, 142, 143, 144, 146, 147, 149, 150, 151, 154, 155, 163, 166, 167, 168, 170, 171, 173, 174, 175, 177, 178, 180, 181, 182, 184, 185, 187, 188, 189, 191, 192, 194, 195, 196, 198, 199, 201, 202, 203, 205, 206, 208, 209, 210, 212, 213, 215, 216, 217, 218, 219, 220, 221, 224, 227, 228, 229, 232, 233, 234, 236, 237, 239, 240, 241, 244, 245, 246, 248, 249, 251, 252, 253, 256, 257, 258, 260, 261, 263, 264, 265, 267, 268, 270, 271, 272, 274, 275, 277, 278, 279, 281, 282, 284, 285, 286, 288, 289, 291, 292, 293, 296, 297, 298, 301, 302, 303, 305, 306, 308, 309, 310, 313, 314, 315, 317, 318, 320, 321, 322, 324, 325, 327, 328, 329, 332, 333, 334, 336, 337, 339, 340, 341, 343, 344, 346, 347, 348, 350, 351, 353, 354, 355, 357, 358, 360, 361, 362, 364, 365, 367, 368, 369, 372, 373, 374, 376, 377, 379, 380, 381, 383, 384, 386, 387, 388, 390, 391, 393, 394, 395, 398, 399]
theorem KA_eq : ∀ P, KA = (KF P).map (·.1) := fun _ => by kernel_rfl
def QV : Program := { PySem.Challenge.pw_waithouse_k24_clock with main := { PySem.Challenge.pw_waithouse_k24_clock.main with body := [top 1, top 2, top 3, top 4, top 5, top 6, top 7, top 9, top 11, top 12, top 13, top 14, top 16, top 17, top 18, top 19, top 20, top 21, top 22, top 24, top 26, top 27, top 28, top 29, top 30, top 31, top 32, top 33, top 35, top 36, top 37, top 38, top 39, top 40, top 41, top 42, top 43, top 44, top 45, top 46, top 47, top 48, top 49, top 50, top 51, top 52, top 53, top 54] } }
lay_quick PySem.W.openEnds PySem.Challenge.pw_waithouse_k24_clock
set_option maxHeartbeats 0 in
theorem left : LeftO PySem.Challenge.pw_waithouse_k24_clock QV ["limit_turns", "course_turns", "turn_turns"] (fun s => xlAt QV [] s && recOk (RowW.records (OpenRow.toRowW (OpenLaw.row PySem.Challenge.rw_waithouse_k24_clock))) s) (Hook.obs (kHook KF KA KA_eq)) (Hook.val (kHook KF KA KA_eq)) 6368 := by
  intro w
  rw [PySem.W.Fast.te15552708684749139287, PySem.W.Fast.te14364793385576792824, PySem.W.Fast.te8432253016660519798]
  kernel_rfl
end Hd

set_option Elab.async false
set_option linter.all false
set_option maxRecDepth 100000
/-! THE HAND LAYER, for ints, bools, texts, own classes, LISTS and tuples (index, slices, in, append, pop ..), calls, loops. Paste it whole ahead of your own text; what your proof does not reach may be deleted. -/
namespace L2
open PySem PySem.Spec PyProof.Rows

/-- a key: an int or a str -/
abbrev Key := Sum Int Str
def keyIs : Key → Value → Bool
  | .inl k, v => Value.isInt k v
  | .inr x, v => Value.isStrOf x v
def keyH (w : World) : Key → Int
  | .inl k => hashInt k
  | .inr x => hashStr w x
theorem keyIs_shape : ∀ {k : Key} {v : Value}, keyIs k v = true → (∃ i t, k = Sum.inl i ∧ v = Value.int i t) ∨ (∃ x t, k = Sum.inr x ∧ v = Value.str x t)
  | .inl i, v, h => by
    obtain ⟨t, e⟩ := Value.isInt_shape (k := i) (v := v) h
    exact .inl ⟨i, t, rfl, e⟩
  | .inr x, v, h => by
    obtain ⟨t, e⟩ := Value.isStrOf_shape (x := x) (v := v) h
    exact .inr ⟨x, t, rfl, e⟩
theorem key_ll (a b : Int) : decide ((Sum.inl a : Key) = Sum.inl b) = (a == b) := by
  by_cases e : a = b
  · subst e; simp
  · have h : ¬ (Sum.inl a : Key) = Sum.inl b := fun q => e (Sum.inl.inj q)
    rw [decide_eq_false h]
    exact (beq_eq_false_iff_ne.mpr e).symm
theorem key_rr (a b : Str) : decide ((Sum.inr a : Key) = Sum.inr b) = decide (a = b) := by
  by_cases e : a = b
  · subst e; simp
  · have h : ¬ (Sum.inr a : Key) = Sum.inr b := fun q => e (Sum.inr.inj q)
    rw [decide_eq_false h, decide_eq_false e]
theorem key_lr (a : Int) (b : Str) : decide ((Sum.inl a : Key) = Sum.inr b) = false := decide_eq_false (fun q => nomatch q)
theorem key_rl (a : Str) (b : Int) : decide ((Sum.inr a : Key) = Sum.inl b) = false := decide_eq_false (fun q => nomatch q)

def mixKind (prog : Program) (w : World) : PySem.KeyKind prog w Key where
  is := keyIs
  hash := keyH w
  inj := fun v a b ha hb => by
    rcases keyIs_shape ha with ⟨i, t, rfl, rfl⟩ | ⟨x, t, rfl, rfl⟩
    · rcases keyIs_shape hb with ⟨j, u, rfl, e⟩ | ⟨y, u, rfl, e⟩
      · injection e with e1 _; rw [e1]
      · exact nomatch e
    · rcases keyIs_shape hb with ⟨j, u, rfl, e⟩ | ⟨y, u, rfl, e⟩
      · exact nomatch e
      · injection e with e1 _; rw [e1]
  byValue := fun k v h => by
    rcases keyIs_shape h with ⟨i, t, rfl, rfl⟩ | ⟨x, t, rfl, rfl⟩ <;> rfl
  pyHash := fun hv h => by
    rcases keyIs_shape hv with ⟨i, t, rfl, rfl⟩ | ⟨x, t, rfl, rfl⟩
    · exact wpAny_pyHash_int h
    · exact wpAny_pyHash_str h
  eqBool := fun hu hv h => by
    rcases keyIs_shape hu with ⟨i, t, rfl, rfl⟩ | ⟨x, t, rfl, rfl⟩
    · rcases keyIs_shape hv with ⟨j, u, rfl, rfl⟩ | ⟨y, u, rfl, rfl⟩
      · rw [key_ll] at h; exact wpAny_eqBool_int h
      · rw [key_lr] at h; exact SeqAt.EqAt.int_str i t y u _ _ _ _ h
    · rcases keyIs_shape hv with ⟨j, u, rfl, rfl⟩ | ⟨y, u, rfl, rfl⟩
      · rw [key_rl] at h; exact SeqAt.EqAt.str_int x t j u _ _ _ _ h
      · rw [key_rr] at h; exact wpAny_eqBool_str h
  «strs» := fun k x t v h => by
    rcases keyIs_shape h with ⟨i, u, rfl, e⟩ | ⟨y, u, rfl, e⟩
    · exact nomatch e
    · injection e with e1 _
      subst e1
      cases v <;> rfl

end L2

namespace L2
open PySem PySem.Spec PyProof.Rows

/-- a value, without the heap -/
inductive V where
  | non | bl (b : Bool) | int (i : Int) | str (x : Str) | byt (b : Array UInt8) | flt (b : UInt64) | ref (a : Addr) | ty (n : String)
  deriving DecidableEq

def RelV : V → Value → Prop
  | .non, u => u = Value.none
  | .bl b, u => u = Value.bool b
  | .int i, u => ∃ t, u = Value.int i t
  | .str x, u => ∃ t, u = Value.str x t
  | .byt b, u => ∃ t, u = Value.bytes b t
  | .flt b, u => ∃ t, u = Value.float b t
  | .ref a, u => u = Value.ref a
  | .ty n, u => u = Value.type n

abbrev Vals : List V → List Value → Prop := Paired RelV
theorem Vals.length {xs : List V} {us : List Value} (r : Vals xs us) : xs.length = us.length := Paired.length r
theorem Vals.get : ∀ {xs : List V} {us : List Value} {i : Nat} {x : V}, Vals xs us → xs[i]? = some x → ∃ u, us[i]? = some u ∧ RelV x u
  | _, _, _, _, .nil, e => by simp at e
  | _, _, 0, _, .cons r _, e => by simp at e; subst e; exact ⟨_, rfl, r⟩
  | _, _, i + 1, x, .cons _ t, e => by
    obtain ⟨u, h1, h2⟩ := Vals.get (i := i) (x := x) t (by simpa using e)
    exact ⟨u, by simpa using h1, h2⟩
theorem Vals.set {x : V} {u : Value} (r : RelV x u) : ∀ {xs : List V} {us : List Value} (i : Nat), Vals xs us → Vals (xs.set i x) (us.set i u)
  | _, _, _, .nil => .nil
  | _, _, 0, .cons _ t => .cons r t
  | _, _, i + 1, .cons q t => .cons q (Vals.set r i t)
theorem Vals.append : ∀ {xs ys : List V} {us ws : List Value}, Vals xs us → Vals ys ws → Vals (xs ++ ys) (us ++ ws)
  | _, _, _, _, .nil, s => s
  | _, _, _, _, .cons r t, s => .cons r (Vals.append t s)
theorem Vals.take : ∀ {xs : List V} {us : List Value} (n : Nat), Vals xs us → Vals (xs.take n) (us.take n)
  | _, _, 0, _ => .nil
  | _, _, _ + 1, .nil => .nil
  | _, _, n + 1, .cons r t => .cons r (Vals.take n t)
theorem Vals.drop : ∀ {xs : List V} {us : List Value} (n : Nat), Vals xs us → Vals (xs.drop n) (us.drop n)
  | _, _, 0, r => r
  | _, _, _ + 1, .nil => .nil
  | _, _, n + 1, .cons _ t => Vals.drop n t
def RelO : Option V → Option Value → Prop
  | some v, some u => RelV v u
  | none, none => True
  | _, _ => False
def KV {κ : Type} : List (κ × V) → List (κ × Value) → Prop := Paired fun (p : κ × V) (q : κ × Value) => p.1 = q.1 ∧ RelV p.2 q.2

/-- a key of a dict (00_mix): an int or a text -/
def kV : Key → V
  | .inl i => .int i
  | .inr x => .str x

/-- what stands at a tracked address -/
inductive HO where
  /-- a list -/
  | lst (xs : List V)
  /-- a tuple (never changes) -/
  | tup (xs : List V)
  /-- a dict whose keys are ints and texts; one whose keys are tuples of ints and texts (the empty one is both) -/
  | dK (kvs : List (Key × V)) | dT (kvs : List (List Key × V))
  /-- a set of ints: its members, its size -/
  | set (S : Int → Bool) (n : Nat)
  /-- an instance of the class at C, its dict at dx, its attributes -/
  | ins (C dx : Addr) (fs : List (Str × V))
  /-- the dict of the instance at x -/
  | own (x : Addr)
  /-- the dict of an exception -/
  | xd (fs : List (Str × V))
  /-- a bound method, f of x -/
  | met (f x : Addr)
  /-- a range object lo, lo + 1, .. below hi -/
  | rng (lo hi : Int)
  /-- a thing that is known to the object (the script; a dict while a loop walks it): read, never written while it is so -/
  | frz (o : Obj) (u : HO)
  /-- a code object's table -/
  | tbl (ps : Array Value)
  /-- any other thing, by what is true of its one object (a def of one's own: SetO a S n := HO.ext fun h => ..) -/
  | ext (φ : Heap → Prop)

abbrev Hp := Addr → Option HO
def upd (H : Hp) (a : Addr) (o : HO) : Hp := fun b => if b = a then some o else H b
theorem upd_same {H : Hp} {a : Addr} {o : HO} : upd H a o a = some o := by unfold upd; rw [if_pos rfl]
theorem upd_ne {H : Hp} {a b : Addr} {o : HO} (h : b ≠ a) : upd H a o b = H b := by unfold upd; rw [if_neg h]
/-- two objects of different content stand apart -/
theorem ne_of {H : Hp} {a b : Addr} {o u : HO} (h : H a = some o) (h' : H b = some u) (d : o ≠ u) : a ≠ b := by
  intro e; subst e; rw [h] at h'; exact d (Option.some.inj h')
theorem ne_of_none {H : Hp} {a b : Addr} {o : HO} (h : H a = some o) (h' : H b = none) : a ≠ b := by
  intro e; subst e; rw [h] at h'; cases h'

section
variable (P : Program) (w : World)
def ObjOk (H : Hp) (h : Heap) (a : Addr) : HO → Prop
  | .lst xs => xs.length ≤ sizeLine ∧ ∃ (its : List Value) (n : Nat), Vals xs its ∧ h.get? a = some { cls := .type "list", data := .seq its.toArray n }
  | .tup xs => xs.length ≤ sizeLine ∧ ∃ its : List Value, Vals xs its ∧ IsTup h a its.toArray
  | .dK kvs => kvs.length ≤ sizeLine ∧ (a == sysModules) = false ∧ ∃ vs, KV kvs vs ∧ h.DictOf (mixKind P w) a vs
  | .dT kvs => kvs.length ≤ sizeLine ∧ (a == sysModules) = false ∧ ∃ xs : List (List Key × Addr × Value),
      Paired (fun (p : List Key × V) (q : List Key × Addr × Value) => p.1 = q.1 ∧ H q.2.1 = some (.tup (p.1.map kV)) ∧ RelV p.2 q.2.2) kvs xs ∧
      ∃ o es ep, h.get? a = some o ∧ o.ExactDict ∧ o.data = .dict es ep ∧ es.toList = xs.map (entryOfKey (tupleKind (mixKind P w))) ∧ (xs.map (·.1)).Nodup
  | .set S n => h.SetOf (intKind P w) a S n
  | .ins C dx fs => H dx = some (.own a) ∧ fs.length ≤ 1000 ∧ dx ≠ a ∧ h.get? a = some (PySem.W.instObj C dx) ∧
      ∃ mA, h.Ns1 dx mA ∧ (∀ f, RelO (fs.lookup f) (mA f)) ∧ PySem.Within mA (fs.map (·.1))
  | .own _ => ∃ o, h.get? a = some o
  | .xd fs => ∃ mA, h.Ns1 a mA ∧ ∀ f, RelO (fs.lookup f) (mA f)
  | .rng lo hi => ∃ t u v, h.get? a = some { cls := .type "range", data := .fields #[.int lo t, .int hi u, .int 1 v] }
  | .frz o u => h.get? a = some o ∧ ObjOk H h a u
  | .tbl ps => h.get? a = some { cls := .none, data := .fields ps }
  | .met f x => h.get? a = some (PySem.W.methodObj (.ref f) (.ref x))
  | .ext φ => φ h ∧ (∃ o, h.get? a = some o) ∧ ∀ h1 h2 : Heap, φ h1 → (∀ o, h1.get? a = some o → h2.get? a = some o) → φ h2
/-- the abstract heap is held -/
def HOk (H : Hp) (h : Heap) : Prop := ∀ a o, H a = some o → ObjOk P w H h a o
end

section
variable {P : Program} {w : World} {H H' : Hp} {h h' : Heap} {a : Addr} {o : HO}
theorem ObjOk.lt (x : ObjOk P w H h a o) : a < h.objs.size := by
  cases o with
  | lst xs => obtain ⟨_, _, _, _, e⟩ := x; exact Heap.lt_size e
  | tup xs => obtain ⟨_, _, _, p⟩ := x; exact p.lt
  | dK kvs => obtain ⟨_, _, _, _, o, _, _, e, _⟩ := x; exact Heap.lt_size e
  | dT kvs => obtain ⟨_, _, _, _, o, _, _, e, _⟩ := x; exact Heap.lt_size e
  | set S n => obtain ⟨o, _, _, _, e, _⟩ := x; exact Heap.lt_size e
  | ins C dx fs => obtain ⟨_, _, _, e, _⟩ := x; exact Heap.lt_size e
  | own y => obtain ⟨_, e⟩ := x; exact Heap.lt_size e
  | xd fs => obtain ⟨_, ⟨_, _, _, e, _⟩, _⟩ := x; exact Heap.lt_size e
  | rng lo hi => obtain ⟨_, _, _, e⟩ := x; exact Heap.lt_size e
  | frz ob u => obtain ⟨e, _⟩ := x; exact Heap.lt_size e
  | tbl ps => exact Heap.lt_size (show h.get? a = some _ from x)
  | met f y => exact Heap.lt_size (show h.get? a = some _ from x)
  | ext φ => obtain ⟨_, ⟨_, e⟩, _⟩ := x; exact Heap.lt_size e
theorem Paired.mapP {α β : Type} {F G : α → β → Prop} : ∀ {l₁ : List α} {l₂ : List β}, Paired F l₁ l₂ → (∀ a b, F a b → G a b) → Paired G l₁ l₂
  | _, _, .nil, _ => .nil
  | _, _, .cons r t, f => .cons (f _ _ r) (Paired.mapP t f)
/-- what an object's description leans on: its own object, its own dict, the tuples -/
theorem ObjOk.stay (x : ObjOk P w H h a o) (k : ∀ b u, (b = a ∨ H b = some (.own a)) → h.get? b = some u → h'.get? b = some u)
    (ho : ∀ b, H b = some (.own a) → H' b = some (.own a)) (ht : ∀ b xs, H b = some (.tup xs) → H' b = some (.tup xs)) : ObjOk P w H' h' a o := by
  induction o with
  | lst xs => obtain ⟨z, its, n, r, e⟩ := x; exact ⟨z, its, n, r, k _ _ (.inl rfl) e⟩
  | tup xs => obtain ⟨z, its, r, ob, e, c⟩ := x; exact ⟨z, its, r, ob, k _ _ (.inl rfl) e, c⟩
  | dK kvs => obtain ⟨z, y, vs, r, ob, es, ep, e, c⟩ := x; exact ⟨z, y, vs, r, ob, es, ep, k _ _ (.inl rfl) e, c⟩
  | dT kvs =>
    obtain ⟨z, y, xs, r, ob, es, ep, e, c⟩ := x
    exact ⟨z, y, xs, Paired.mapP r fun p q z => ⟨z.1, ht _ _ z.2.1, z.2.2⟩, ob, es, ep, k _ _ (.inl rfl) e, c⟩
  | set S n => obtain ⟨ob, es, ep, t, e, c⟩ := x; exact ⟨ob, es, ep, t, k _ _ (.inl rfl) e, c⟩
  | ins C dx fs =>
    obtain ⟨d, z, ne, e, mA, ⟨od, es, ep, e2, c⟩, r⟩ := x
    exact ⟨ho _ d, z, ne, k _ _ (.inl rfl) e, mA, ⟨od, es, ep, k _ _ (.inr d) e2, c⟩, r⟩
  | own y => obtain ⟨ob, e⟩ := x; exact ⟨ob, k _ _ (.inl rfl) e⟩
  | xd fs => obtain ⟨mA, ⟨od, es, ep, e, c⟩, r⟩ := x; exact ⟨mA, ⟨od, es, ep, k _ _ (.inl rfl) e, c⟩, r⟩
  | rng lo hi => obtain ⟨t, u, v, e⟩ := x; exact ⟨t, u, v, k _ _ (.inl rfl) e⟩
  | frz ob u ih => obtain ⟨e, q⟩ := x; exact ⟨k _ _ (.inl rfl) e, ih q⟩
  | tbl ps =>
    have e : h.get? a = some { cls := .none, data := .fields ps } := x
    show h'.get? a = some { cls := .none, data := .fields ps }
    exact k a _ (.inl rfl) e
  | met f y =>
    have e : h.get? a = some (PySem.W.methodObj (.ref f) (.ref y)) := x
    show h'.get? a = some (PySem.W.methodObj (.ref f) (.ref y))
    exact k a _ (.inl rfl) e
  | ext φ => obtain ⟨p, ⟨o, e⟩, st⟩ := x; exact ⟨st _ _ p fun o q => k _ _ (.inl rfl) q, ⟨o, k _ _ (.inl rfl) e⟩, st⟩
theorem HOk.lt (x : HOk P w H h) (e : H a = some o) : a < h.objs.size := (x a o e).lt
theorem HOk.fresh (x : HOk P w H h) (e : h.objs.size ≤ a) : H a = none := by
  cases q : H a with
  | none => rfl
  | some u => exact absurd (Nat.lt_of_lt_of_le (x.lt q) e) (Nat.lt_irrefl _)
/-- every object of the heap is kept -/
theorem HOk.kept (x : HOk P w H h) (k : ∀ b u, h.get? b = some u → h'.get? b = some u) : HOk P w H h' := fun a o e =>
  (x a o e).stay (fun b u _ q => k b u q) (fun _ q => q) fun _ _ q => q
/-- a new object is laid and tracked -/
theorem HOk.laid (x : HOk P w H h) (k : ∀ b u, h.get? b = some u → h'.get? b = some u) (hp : h.objs.size ≤ a) (new : ObjOk P w (upd H a o) h' a o) : HOk P w (upd H a o) h' := fun b u e => by
  have hn := x.fresh hp
  by_cases hb : b = a
  · subst hb; rw [upd_same] at e; cases e; exact new
  · rw [upd_ne hb] at e
    exact (x b u e).stay (fun c v _ q => k c v q) (fun c q => by rw [upd_ne (ne_of_none q hn)]; exact q) fun c xs q => by rw [upd_ne (ne_of_none q hn)]; exact q
end

/-- what may be read as u: it is u, or a known u -/
def Rd (H : Hp) (a : Addr) (u : HO) : Prop := H a = some u ∨ ∃ o, H a = some (.frz o u)
theorem Rd.ok {P : Program} {w : World} {H : Hp} {h : Heap} {a : Addr} {u : HO} (r : Rd H a u) (x : HOk P w H h) : ObjOk P w H h a u := by
  rcases r with r | ⟨o, r⟩
  · exact x a u r
  · obtain ⟨_, q⟩ := x a _ r
    exact q
/-- what may be written -/
def Mut : Option HO → Prop
  | some (.lst _) => True
  | some (.dK _) => True
  | some (.dT _) => True
  | some (.set _ _) => True
  | some (.ins _ _ _) => True
  | some (.ext _) => True
  | _ => False
section
variable {P : Program} {w : World} {H : Hp} {h h' : Heap} {x e : Addr} {o' : HO}
/-- the object at e is changed: x itself, or the dict of the instance x -/
theorem HOk.write (ok : HOk P w H h) (mu : Mut (H x)) (he : e = x ∨ H e = some (.own x)) (k : ∀ b u, b ≠ e → h.get? b = some u → h'.get? b = some u) (heo : ∃ u, h'.get? e = some u)
    (new : ObjOk P w (upd H x o') h' x o') : HOk P w (upd H x o') h' := fun b u q => by
  have nown : ∀ c y, H c = some (.own y) → c ≠ x := fun c y r z => by subst z; rw [r] at mu; exact mu
  have ntup : ∀ c xs, H c = some (.tup xs) → c ≠ x := fun c xs r z => by subst z; rw [r] at mu; exact mu
  by_cases hb : b = x
  · subst hb; rw [upd_same] at q; cases q; exact new
  · rw [upd_ne hb] at q
    by_cases hbe : b = e
    · have q' : H b = some (.own x) := by
        rcases he with z | z
        · exact absurd (hbe.trans z) hb
        · rw [hbe]; exact z
      rw [q] at q'; cases q'
      obtain ⟨v, hv⟩ := heo
      exact ⟨v, by rw [hbe]; exact hv⟩
    · refine (ok b u q).stay (fun c v hc r => k c v ?_ r) (fun c r => by rw [upd_ne (nown c b r)]; exact r) fun c xs r => by rw [upd_ne (ntup c xs r)]; exact r
      rcases hc with rfl | hc
      · exact hbe
      · rintro rfl
        rcases he with z | z
        · exact nown c b hc z
        · rw [hc] at z; cases z; exact hb rfl
end

/-! ### kept unless tracked; of the frames at fs (the callers') the slots may change (an exception that passes writes there); of the records at ex (iterators) nothing is said -/
structure Un (fs ex : List Addr) (H H' : Hp) (h h' : Heap) : Prop where
  keep : ∀ b o, h.get? b = some o → H b = none → b ∉ fs → b ∉ ex → h'.get? b = some o
  slot : ∀ b o, h.get? b = some o → H b = none → b ∈ fs → b ∉ ex → ∃ sl, h'.get? b = some { o with slots := sl }
  free : ∀ b o, h.get? b = some o → H b = none → b ∉ ex → H' b = none
  there : ∀ b o, h.get? b = some o → b ∉ ex → ∃ o', h'.get? b = some o'
  tups : ∀ b xs, H b = some (.tup xs) → H' b = some (.tup xs)
  frzs : ∀ b o u, H b = some (.frz o u) → H' b = some (.frz o u)
  tbls : ∀ b ps, H b = some (.tbl ps) → ∃ more, H' b = some (.tbl (ps ++ more))
section
variable {fs fs' ex ex' : List Addr} {H H1 H2 : Hp} {h h1 h2 h' : Heap} {a x e : Addr} {o : HO}
theorem Un.any (u : Un fs ex H H1 h h1) {b : Addr} {ob : Obj} (q : h.get? b = some ob) (n : H b = none) (hx : b ∉ ex) : ∃ sl, h1.get? b = some { ob with slots := sl } := by
  by_cases hb : b ∈ fs
  · exact u.slot b ob q n hb hx
  · exact ⟨ob.slots, u.keep b ob q n hb hx⟩
theorem Un.kept (k : ∀ b u, h.get? b = some u → h'.get? b = some u) : Un fs ex H H h h' :=
  ⟨fun b ob q _ _ _ => k b ob q, fun b ob q _ _ _ => ⟨ob.slots, k b ob q⟩, fun _ _ _ n _ => n, fun b ob q _ => ⟨ob, k b ob q⟩, fun _ _ q => q, fun _ _ _ q => q, fun _ ps q => ⟨#[], by rw [q]; simp⟩⟩
theorem Un.refl : Un fs ex H H h h := Un.kept fun _ _ q => q
theorem Un.laid (k : ∀ b u, h.get? b = some u → h'.get? b = some u) (hp : h.objs.size ≤ a) (hn : H a = none) : Un fs ex H (upd H a o) h h' where
  keep := fun b u q _ _ _ => k b u q
  slot := fun b u q _ _ _ => ⟨u.slots, k b u q⟩
  free := fun b u q n _ => by rw [upd_ne (Nat.ne_of_lt (Nat.lt_of_lt_of_le (Heap.lt_size q) hp))]; exact n
  there := fun b u q _ => ⟨u, k b u q⟩
  tups := fun b xs q => by rw [upd_ne (ne_of_none q hn)]; exact q
  frzs := fun b u xs q => by rw [upd_ne (ne_of_none q hn)]; exact q
  tbls := fun b ps q => ⟨#[], by rw [upd_ne (ne_of_none q hn), q]; simp⟩
theorem Un.write (mu : Mut (H x)) (he : e = x ∨ H e = some (.own x)) (k : ∀ b u, b ≠ e → h.get? b = some u → h'.get? b = some u) (heo : ∃ u, h'.get? e = some u) : Un fs ex H (upd H x o) h h' := by
  have hx : ∀ b, H b = none → b ≠ x := fun b n z => by subst z; rw [n] at mu; exact mu
  have hb : ∀ b, H b = none → b ≠ e := fun b n z => by
    subst z
    rcases he with r | r
    · exact hx b n r
    · rw [n] at r; cases r
  have hm : ∀ b u, H b = some u → ¬ Mut (some u) → b ≠ x := fun b u q nm z => by subst z; rw [q] at mu; exact nm mu
  refine ⟨fun b u q n _ _ => k b u (hb b n) q, fun b u q n _ _ => ⟨u.slots, k b u (hb b n) q⟩, fun b u q n _ => by rw [upd_ne (hx b n)]; exact n, fun b u q _ => ?_,
    fun b xs q => by rw [upd_ne (hm b _ q fun z => z)]; exact q, fun b u xs q => by rw [upd_ne (hm b _ q fun z => z)]; exact q, fun b ps q => ⟨#[], by rw [upd_ne (hm b _ q fun z => z), q]; simp⟩⟩
  by_cases hbe : b = e
  · subst hbe; exact heo
  · exact ⟨u, k b u hbe q⟩
end

/-! ### the heap without what is tracked -/
def trk (h : Heap) (H : Hp) : List Addr := (List.range h.objs.size).filter fun a => (H a).isSome
def hidT (h : Heap) (H : Hp) : Heap := PySem.W.hideAll h (trk h H)
theorem hidT_size (h : Heap) (H : Hp) : (hidT h H).objs.size = h.objs.size := PySem.W.hideAll_size _ _
theorem hidT_get {h : Heap} {H : Hp} {b : Addr} {o : Obj} (e : h.get? b = some o) (n : H b = none) : (hidT h H).get? b = some o :=
  PySem.W.hideAll_get _ e fun hm => by
    have q : (H b).isSome = true := (List.mem_filter.mp hm).2
    rw [n] at q; simp at q
theorem of_hidT {h : Heap} {H : Hp} {b : Addr} {o : Obj} (e : (hidT h H).get? b = some o) : h.get? b = some o ∧ H b = none := by
  have e' : h.get? b = some o := PySem.W.of_hideAll (trk h H) e
  refine ⟨e', ?_⟩
  cases q : H b with
  | none => rfl
  | some x =>
    have hm : b ∈ trk h H := List.mem_filter.mpr ⟨List.mem_range.mpr (Heap.lt_size e'), by simp [q]⟩
    have z : (hidT h H).get? b = none := PySem.W.hideAll_none (trk h H) hm
    rw [z] at e; cases e

/-! ### OpenK's ledger, filled with every new object but one -/
end L2

namespace L2
open PySem PySem.Spec PyProof.Rows

/-- the module's facts, over the base: the heap at the law's entry without what is tracked there -/
structure Mod (K : PySem.W.Frag) (mg : Str → Option Value) (base : Heap) : Prop where
  kin : K.In base
  glob : base.Ns mainGlobals mg
  blt : ∃ mb, base.Ns builtinsNs mb ∧ ∀ x : Str, x ≠ "__name__" → mb x = bootBuiltins x
  nolimit : base.NoLimit

/-- the context: a def's body (or a comprehension's block) running. base: fixed through the whole law; s₀, H₀: the entry; outer: the frames whose slots others may change (a def's callers); stack: all frames that run;
   ex: iterators that were made ahead of the entry and are walked here (a comprehension's); fn: the names whose cells were made at the entry (a def: all; a comprehension's block: its own); calm: not within an except suite; pn: pins that every state bears; xe: what is wanted of an exception that leaves the code -/
structure Cx where
  prog : Program
  w : World
  K : PySem.W.Frag
  mg : Str → Option Value
  base : Heap
  A : Around
  N : List Str
  s₀ : Shared
  H₀ : Hp
  env : Env
  outer : List Env
  stack : List Env
  ex : List Addr
  fn : Str → Bool
  calm : Bool
  pn : List (Addr × Obj)
  xe : Value → Shared → Prop
/-- the callers' frames -/
def frs (l : List Env) : List Addr := l.filterMap (·.frame)
abbrev Cx.fs (X : Cx) : List Addr := frs X.outer

def Vis (sc : Scope) (x : Str) : Prop := sc.names.lookup x = some .local ∨ sc.names.lookup x = some .cell ∨ sc.names.lookup x = some .free
def Loc (sc : Scope) (x : Str) : Prop := sc.names.lookup x = some .local ∨ sc.names.lookup x = some .cell
def Look (env : Env) (h : Heap) (m : Str → Option Value) (x : Str) (u : Value) : Prop :=
  (env.kindOf x = some .local ∧ m x = some u) ∨ ((env.kindOf x = some .cell ∨ env.kindOf x = some .free) ∧ ∃ c, env.cells.lookup x = some c ∧ h.IsCell c (some u))

structure Cx.Ok (X : Cx) : Prop where
  mod : Mod X.K X.mg X.base
  kind : X.env.scope.kind = .function
  glob : X.env.globals = mainGlobals
  blt : X.env.builtins = builtinsNs
  above : X.s₀.heap.objs.size ≤ X.env.locals
  inj : ∀ x y c, X.env.cells.lookup x = some c → X.env.cells.lookup y = some c → x = y
  has : ∀ x, (X.env.kindOf x = some .cell ∨ X.env.kindOf x = some .free) → ∃ c, X.env.cells.lookup x = some c
  cab : ∀ x c, X.fn x = true → X.env.cells.lookup x = some c → X.s₀.heap.objs.size ≤ c
  hd : X.calm = true → X.A.handled = none
  frames : X.A.frames = some X.stack
  stk : X.stack = X.outer ∨ (X.stack = X.env :: X.outer ∧ X.env.frame = some X.env.locals)
  exf : ∀ b ∈ X.ex, b ≠ X.env.locals ∧ ∀ x c, X.env.cells.lookup x = some c → c ≠ b
  bs : ∀ b o, X.base.get? b = some o → X.s₀.heap.get? b = some o ∧ X.H₀ b = none
  bsz : X.base.objs.size ≤ X.s₀.heap.objs.size
  noex : ∀ b o, X.base.get? b = some o → b ∉ X.ex
  exfs : ∀ b ∈ X.ex, b ∉ X.fs
  funs : X.s₀.heap.FunFrames X.base X.outer
  frf : ∀ b ∈ X.fs, X.H₀ b = none

structure Inv (X : Cx) (pins : List (Addr × Obj)) (σ : List (Option V)) (H : Hp) (s : Shared) : Prop where
  ok : X.Ok
  os : s.os = X.s₀.os
  bare : AllBare s.gens
  base : Un X.fs X.ex X.H₀ H X.s₀.heap s.heap
  loc : ∃ m, s.heap.Ns X.env.locals m ∧ ∀ (i : Nat) (x : Str) (v : V), X.N[i]? = some x → σ[i]? = some (some v) → Vis X.env.scope x → ∃ u, RelV v u ∧ Look X.env s.heap m x u
  cell : ∀ x c, X.env.cells.lookup x = some c → ∃ v, s.heap.IsCell c v
  free : H X.env.locals = none
  freeC : ∀ x c, X.env.cells.lookup x = some c → H c = none
  pin : ∀ p ∈ X.pn ++ pins, s.heap.get? p.1 = some p.2 ∧ H p.1 = none ∧ p.1 ≠ X.env.locals ∧ p.1 ∉ X.fs ∧ ∀ v, p.2.data ≠ .cell v
  hok : HOk X.prog X.w H s.heap
  len : σ.length = X.N.length

section
variable {X : Cx} {pins : List (Addr × Obj)} {σ : List (Option V)} {H H' : Hp} {s : Shared} {h' : Heap}

theorem Cx.Ok.nofr (ok : X.Ok) {b : Addr} {o : Obj} (e : X.base.get? b = some o) : b ∉ X.fs := fun hb => by
  have := (ok.funs.mem hb).1
  rw [e] at this; cases this
theorem Inv.bs (I : Inv X pins σ H s) : ∀ b o, X.base.get? b = some o → s.heap.get? b = some o ∧ H b = none := fun b o e =>
  ⟨I.base.keep b o (I.ok.bs b o e).1 (I.ok.bs b o e).2 (I.ok.nofr e) (I.ok.noex b o e), I.base.free b o (I.ok.bs b o e).1 (I.ok.bs b o e).2 (I.ok.noex b o e)⟩
theorem Inv.bk (I : Inv X pins σ H s) : ∀ b o, X.base.get? b = some o → s.heap.get? b = some o := fun b o e => (I.bs b o e).1
theorem Inv.mod (I : Inv X pins σ H s) : Mod X.K X.mg X.base := I.ok.mod
theorem Inv.kIn (I : Inv X pins σ H s) : X.K.In s.heap := I.ok.mod.kin.keeps I.bk
theorem Inv.lt (I : Inv X pins σ H s) : X.env.locals < s.heap.objs.size := let ⟨_, hn, _⟩ := I.loc; hn.lt
theorem Inv.sz (I : Inv X pins σ H s) : X.s₀.heap.objs.size ≤ s.heap.objs.size := Nat.le_trans I.ok.above (Nat.le_of_lt I.lt)
theorem Inv.nofs (I : Inv X pins σ H s) {a : Addr} (h : s.heap.objs.size ≤ a) : a ∉ X.fs := fun hb => by
  obtain ⟨_, o, ho, _⟩ := I.ok.funs.mem hb
  exact absurd (Nat.lt_of_lt_of_le (Heap.lt_size ho) (Nat.le_trans I.sz h)) (Nat.lt_irrefl _)
theorem Inv.cne (I : Inv X pins σ H s) : ∀ x c, X.env.cells.lookup x = some c → c ≠ X.env.locals := fun x c e z => by
  obtain ⟨v, o, ho, hd⟩ := I.cell x c e
  obtain ⟨m, ⟨o', es, ep, ho', hd', _⟩, _⟩ := I.loc
  rw [z, ho'] at ho; cases ho; rw [hd'] at hd; cases hd
theorem Inv.funs (I : Inv X pins σ H s) : s.heap.FunFrames X.base X.outer := by
  have all : ∀ (l : List Env), (∀ b ∈ frs l, b ∈ X.fs) → X.s₀.heap.FunFrames X.base l → s.heap.FunFrames X.base l := by
    intro l
    induction l with
    | nil => intro _ _; trivial
    | cons env r ih =>
      intro hs hl
      obtain ⟨hk, ⟨L, o, hf, hn, ho, hd⟩, hr⟩ := hl
      have hL : L ∈ X.fs := hs L (by unfold frs; rw [List.filterMap_cons, hf]; exact List.mem_cons_self)
      obtain ⟨sl, e⟩ := I.base.slot L o ho (I.ok.frf L hL) hL fun z => I.ok.exfs L z hL
      exact ⟨hk, ⟨L, _, hf, hn, e, hd⟩, ih (fun b hb => hs b (by unfold frs; rw [List.filterMap_cons, hf]; exact List.mem_cons_of_mem _ hb)) hr⟩
  exact all X.outer (fun _ hb => hb) I.ok.funs

/-- the frames that run, for a call -/
theorem Inv.stack (I : Inv X pins σ H s) : s.heap.FunFrames X.base X.stack := by
  rcases I.ok.stk with e | ⟨e, hf⟩
  · rw [e]; exact I.funs
  · rw [e]
    obtain ⟨m, hn, _⟩ := I.loc
    refine .cons (by rw [I.ok.kind]; decide) hf hn ?_ I.funs
    exact Heap.get?_none_of_le (Nat.le_trans I.ok.bsz I.ok.above)
theorem Inv.stkSub (I : Inv X pins σ H s) : ∀ b ∈ frs X.stack, b ∈ X.env.locals :: X.fs := fun b hb => by
  rcases I.ok.stk with e | ⟨e, hf⟩
  · rw [e] at hb; exact List.mem_cons_of_mem _ hb
  · rw [e] at hb
    unfold frs at hb
    rw [List.filterMap_cons, hf] at hb
    exact hb
theorem Inv.stkFree (I : Inv X pins σ H s) : ∀ b ∈ frs X.stack, H b = none := fun b hb => by
  rcases List.mem_cons.mp (I.stkSub b hb) with e | hb
  · rw [e]; exact I.free
  · obtain ⟨_, o, ho, _⟩ := I.ok.funs.mem hb
    exact I.base.free b o ho (I.ok.frf b hb) fun z => I.ok.exfs b z hb

/-- THE STEP: the untracked objects but the frame and the records at ch are kept (the callers' frames up to slots), the frame's map is kept, the new abstract heap is held -/
theorem Inv.step {g' : Array GenState} {t' : Nat} {d' : Drawn} {ch : List Addr} (I : Inv X pins σ H s)
    (hch : ∀ b ∈ ch, (b ∈ X.ex ∨ X.s₀.heap.objs.size ≤ b) ∧ b ≠ X.env.locals ∧ (∀ x c, X.env.cells.lookup x = some c → c ≠ b) ∧ ∀ p ∈ X.pn ++ pins, p.1 ≠ b)
    (keep : ∀ b o, b ≠ X.env.locals → b ∉ X.fs → b ∉ ch → s.heap.get? b = some o → H b = none → h'.get? b = some o)
    (slot : ∀ b o, b ≠ X.env.locals → b ∈ X.fs → b ∉ ch → s.heap.get? b = some o → H b = none → ∃ sl, h'.get? b = some { o with slots := sl }) (free : ∀ b o, b ∉ ch → s.heap.get? b = some o → H b = none → H' b = none)
    (there : ∀ b o, b ∉ ch → s.heap.get? b = some o → ∃ o', h'.get? b = some o')
    (tups : ∀ b xs, H b = some (.tup xs) → H' b = some (.tup xs)) (frzs : ∀ b o u, H b = some (.frz o u) → H' b = some (.frz o u)) (tbls : ∀ b ps, H b = some (.tbl ps) → ∃ more, H' b = some (.tbl (ps ++ more)))
    (ns : ∀ m, s.heap.Ns X.env.locals m → h'.Ns X.env.locals m) (hok : HOk X.prog X.w H' h') (hg : AllBare g') :
    Inv X pins σ H' { s with heap := h', gens := g', drawn := d', toks := t' } := by
  have neL : ∀ b o, X.s₀.heap.get? b = some o → b ≠ X.env.locals := fun b o e => Nat.ne_of_lt (Nat.lt_of_lt_of_le (Heap.lt_size e) I.ok.above)
  have neC : ∀ b o, X.s₀.heap.get? b = some o → b ∉ X.ex → b ∉ ch := fun b o e hx hb => by
    rcases (hch b hb).1 with z | z
    · exact hx z
    · exact absurd (Nat.lt_of_lt_of_le (Heap.lt_size e) z) (Nat.lt_irrefl _)
  have cellK : ∀ x c, X.env.cells.lookup x = some c → ∀ v, s.heap.IsCell c v → h'.IsCell c v := fun x c e v ⟨o, ho, hd⟩ => by
    have nch : c ∉ ch := fun z => (hch c z).2.2.1 x c e rfl
    by_cases hc : c ∈ X.fs
    · obtain ⟨sl, q⟩ := slot c o (I.cne x c e) hc nch ho (I.freeC x c e)
      exact ⟨_, q, hd⟩
    · exact ⟨o, keep c o (I.cne x c e) hc nch ho (I.freeC x c e), hd⟩
  refine ⟨I.ok, I.os, hg, ⟨fun b o e n hb hx => ?_, fun b o e n hb hx => ?_, fun b o e n hx => ?_, fun b o e hx => ?_, fun b xs e => tups b xs (I.base.tups b xs e), fun b o xs e => frzs b o xs (I.base.frzs b o xs e), fun b ps e => ?_⟩, ?_, fun x c e => ?_, ?_, fun x c e => ?_, fun p hp => ?_, hok, I.len⟩
  · exact keep b o (neL b o e) hb (neC b o e hx) (I.base.keep b o e n hb hx) (I.base.free b o e n hx)
  · obtain ⟨sl, e1⟩ := I.base.slot b o e n hb hx
    obtain ⟨sl', e2⟩ := slot b _ (neL b o e) hb (neC b o e hx) e1 (I.base.free b o e n hx)
    exact ⟨sl', e2⟩
  · obtain ⟨o', e1⟩ := I.base.there b o e hx
    exact free b o' (neC b o e hx) e1 (I.base.free b o e n hx)
  · obtain ⟨o', e1⟩ := I.base.there b o e hx
    exact there b o' (neC b o e hx) e1
  · obtain ⟨m1, e1⟩ := I.base.tbls b ps e
    obtain ⟨m2, e2⟩ := tbls b _ e1
    exact ⟨m1 ++ m2, by rw [e2, Array.append_assoc]⟩
  · obtain ⟨m, hn, hl⟩ := I.loc
    refine ⟨m, ns m hn, fun i x v e1 e2 e3 => ?_⟩
    obtain ⟨u, r, l⟩ := hl i x v e1 e2 e3
    refine ⟨u, r, ?_⟩
    rcases l with l | ⟨k, c, e, z⟩
    · exact .inl l
    · exact .inr ⟨k, c, e, cellK x c e _ z⟩
  · obtain ⟨v, z⟩ := I.cell x c e
    exact ⟨v, cellK x c e v z⟩
  · obtain ⟨m, ⟨o, _, _, ho, _⟩, _⟩ := I.loc
    exact free _ o (fun z => (hch _ z).2.1 rfl) ho I.free
  · obtain ⟨v, o, ho, hd⟩ := I.cell x c e
    exact free c o (fun z => (hch c z).2.2.1 x c e rfl) ho (I.freeC x c e)
  · obtain ⟨e, n, ne, nf, d⟩ := I.pin p hp
    have nch : p.1 ∉ ch := fun z => (hch p.1 z).2.2.2 p hp rfl
    exact ⟨keep p.1 p.2 ne nf nch e n, free p.1 p.2 nch e n, ne, nf, d⟩
/-- .. where the frame's own object is kept too -/
theorem Inv.un {t' : Nat} (I : Inv X pins σ H s) (u : Un X.fs [] H H' s.heap h') (hok : HOk X.prog X.w H' h') : Inv X pins σ H' { s with heap := h', toks := t' } := by
  obtain ⟨m, ⟨o, es, ep, ho, r⟩, _⟩ := id I.loc
  obtain ⟨sl, hL⟩ := u.any ho I.free (by simp)
  exact I.step (g' := s.gens) (d' := s.drawn) (ch := []) (fun _ z => nomatch z) (fun b o _ hb _ e n => u.keep b o e n hb (by simp)) (fun b o _ hb _ e n => u.slot b o e n hb (by simp)) (fun b o _ e n => u.free b o e n (by simp)) (fun b o _ e => u.there b o e (by simp)) u.tups u.frzs u.tbls (fun m' hm => by
    obtain ⟨o', es', ep', ho', r'⟩ := hm
    rw [ho] at ho'; cases ho'
    exact ⟨_, es', ep', hL, r'⟩) hok I.bare
/-- behind a call (or a comprehension's block): the slots of this frame may have changed too, the records at ch may have turned -/
theorem Inv.call {g' : Array GenState} {t' : Nat} {d' : Drawn} {ch : List Addr} (I : Inv X pins σ H s) (u : Un (frs X.stack) ch H H' s.heap h') (hok : HOk X.prog X.w H' h') (hg : AllBare g')
    (hch : ∀ b ∈ ch, (b ∈ X.ex ∨ X.s₀.heap.objs.size ≤ b) ∧ b ≠ X.env.locals ∧ (∀ x c, X.env.cells.lookup x = some c → c ≠ b) ∧ ∀ p ∈ X.pn ++ pins, p.1 ≠ b) :
    Inv X pins σ H' { s with heap := h', gens := g', drawn := d', toks := t' } := by
  obtain ⟨m, ⟨o, es, ep, ho, r⟩, _⟩ := id I.loc
  obtain ⟨sl, hL⟩ := u.any ho I.free fun z => (hch _ z).2.1 rfl
  exact I.step (ch := ch) hch (fun b o hL hb hc e n => u.keep b o e n (fun z => (List.mem_cons.mp (I.stkSub b z)).elim hL hb) hc) (fun b o _ _ hc e n => u.any e n hc) (fun b o hc e n => u.free b o e n hc) (fun b o hc e => u.there b o e hc) u.tups u.frzs u.tbls (fun m' hm => by
    obtain ⟨o', es', ep', ho', r'⟩ := hm
    rw [ho] at ho'; cases ho'
    exact ⟨_, es', ep', hL, r'⟩) hok hg
/-- an untracked record of ours (an iterator) has turned -/
theorem Inv.turned {t' : Nat} {it : Addr} (I : Inv X pins σ H s) (k : ∀ b o, b ≠ it → s.heap.get? b = some o → h'.get? b = some o) (hn : H it = none) (hL : it ≠ X.env.locals)
    (h1 : it ∈ X.ex ∨ X.s₀.heap.objs.size ≤ it) (h2 : ∀ x c, X.env.cells.lookup x = some c → c ≠ it) (h3 : ∀ p ∈ X.pn ++ pins, p.1 ≠ it) : Inv X pins σ H { s with heap := h', toks := t' } := by
  have nit : ∀ b u, H b = some u → b ≠ it := fun b u e z => by rw [z, hn] at e; cases e
  refine I.step (g' := s.gens) (d' := s.drawn) (ch := [it]) (fun b hb => ?_) (fun b o _ _ hc e _ => k b o (fun z => hc (by simp [z])) e) (fun b o _ _ hc e _ => ⟨o.slots, k b o (fun z => hc (by simp [z])) e⟩) (fun _ _ _ _ n => n)
    (fun b o hc e => ⟨o, k b o (fun z => hc (by simp [z])) e⟩) (fun _ _ e => e) (fun _ _ _ e => e) (fun b ps e => ⟨#[], by rw [e]; simp⟩) (fun m hm => ?_) (fun b u e => ?_) I.bare
  · have e : b = it := by simpa using hb
    subst e
    exact ⟨h1, hL, h2, h3⟩
  · obtain ⟨o, es, ep, ho, r⟩ := hm
    exact ⟨o, es, ep, k _ o (Ne.symm hL) ho, r⟩
  · refine (I.hok b u e).stay (fun c v hc q => k c v ?_ q) (fun _ q => q) fun _ _ q => q
    rcases hc with z | z
    · rw [z]; exact nit b u e
    · exact nit c _ z
theorem Inv.tok (I : Inv X pins σ H s) (t : Nat) : Inv X pins σ H { s with toks := t } := I.un (h' := s.heap) (t' := t) Un.refl I.hok
/-- all objects kept -/
theorem Inv.kept {t' : Nat} (I : Inv X pins σ H s) (k : ∀ b u, s.heap.get? b = some u → h'.get? b = some u) : Inv X pins σ H { s with heap := h', toks := t' } := I.un (Un.kept k) (I.hok.kept k)
/-- a new object laid and tracked -/
theorem Inv.laid {a : Addr} {o : HO} {t' : Nat} (I : Inv X pins σ H s) (k : ∀ b u, s.heap.get? b = some u → h'.get? b = some u) (hp : s.heap.objs.size ≤ a) (new : ObjOk X.prog X.w (upd H a o) h' a o) :
    Inv X pins σ (upd H a o) { s with heap := h', toks := t' } := I.un (Un.laid k hp (I.hok.fresh hp)) (I.hok.laid k hp new)
/-- an object written -/
theorem Inv.write {x e : Addr} {o : HO} {t' : Nat} (I : Inv X pins σ H s) (mu : Mut (H x)) (he : e = x ∨ H e = some (.own x)) (k : ∀ b u, b ≠ e → s.heap.get? b = some u → h'.get? b = some u) (heo : ∃ u, h'.get? e = some u)
    (new : ObjOk X.prog X.w (upd H x o) h' x o) : Inv X pins σ (upd H x o) { s with heap := h', toks := t' } := I.un (Un.write mu he k heo) (I.hok.write mu he k heo new)
/-- forgetting slots, pins -/
theorem Inv.weak {σ' : List (Option V)} (I : Inv X pins σ H s) (hl : σ'.length = σ.length) (w : ∀ (i : Nat) v, σ'[i]? = some (some v) → σ[i]? = some (some v)) : Inv X pins σ' H s :=
  ⟨I.ok, I.os, I.bare, I.base, let ⟨m, hn, hl'⟩ := I.loc; ⟨m, hn, fun i x v e1 e2 e3 => hl' i x v e1 (w i v e2) e3⟩, I.cell, I.free, I.freeC, I.pin, I.hok, hl.trans I.len⟩
theorem Inv.pins_of {pins' : List (Addr × Obj)} (I : Inv X pins σ H s) (h : ∀ p ∈ pins', s.heap.get? p.1 = some p.2 ∧ H p.1 = none ∧ p.1 ≠ X.env.locals ∧ p.1 ∉ X.fs ∧ ∀ v, p.2.data ≠ .cell v) : Inv X pins' σ H s :=
  ⟨I.ok, I.os, I.bare, I.base, I.loc, I.cell, I.free, I.freeC, fun p hp => (List.mem_append.mp hp).elim (fun z => I.pin p (List.mem_append_left _ z)) (h p), I.hok, I.len⟩

theorem nodup_ix {N : List Str} (hN : N.Nodup) {i j : Nat} {x : Str} (a : N[i]? = some x) (b : N[j]? = some x) : i = j := by
  obtain ⟨h1, e1⟩ := List.getElem?_eq_some_iff.mp a
  obtain ⟨h2, e2⟩ := List.getElem?_eq_some_iff.mp b
  exact (List.getElem_inj hN).mp (e1.trans e2.symm)

/-- a name is stored; what changed -/
theorem store_ok2 {M : Model} {A : Around} {E : Value → Shared → Prop} {i : Nat} {x : Str} {v : V} {u : Value} {Q : Unit → Shared → Prop} (I : Inv X pins σ H s) (hN : X.N.Nodup) (hi : X.N[i]? = some x) (hx : Loc X.env.scope x) (r : RelV v u)
    (h : ∀ s', Inv X pins (σ.set i (some v)) H s' → (∃ a, Heap.SameBut a s.heap s'.heap ∧ (a = X.env.locals ∨ X.env.cells.lookup x = some a)) → Q () s') (hf : X.fn x = true ∨ X.env.scope.names.lookup x = some .local := by first | exact .inl rfl | exact .inr rfl | assumption) : wpAny M A (storeName X.env x u) Q E s := by
  obtain ⟨m, hn, hl⟩ := id I.loc
  have hcls : (X.env.scope.kind == .class || (X.env.scope.kind == .module && X.env.locals != X.env.globals)) = false := by rw [I.ok.kind]; rfl
  have hiσ : i < σ.length := by rw [I.len]; exact (List.getElem?_eq_some_iff.mp hi).1
  have cne := I.cne
  have tracked : ∀ {a : Addr} {h' : Heap}, (∃ o, s.heap.get? a = some o ∧ H a = none) → Heap.SameBut a s.heap h' → HOk X.prog X.w H h' := fun {a h'} ha hs b ob e => by
    obtain ⟨_, _, hfree⟩ := ha
    refine (I.hok b ob e).stay (fun c w' hc q => (hs.2 c ?_).trans q) (fun _ q => q) fun _ _ q => q
    rintro rfl
    rcases hc with rfl | hc
    · rw [hfree] at e; cases e
    · rw [hfree] at hc; cases hc
  rcases hx with hk | hk
  · refine wpAny_storeName_local hk hn (fun h' hn' hs => ?_) hcls
    obtain ⟨oL, _, _, hoL, _⟩ := id hn
    refine h _ ⟨I.ok, I.os, I.bare, ⟨fun b o e n hb hx => ?_, fun b o e n hb hx => ?_, I.base.free, fun b o e hx => ?_, I.base.tups, I.base.frzs, I.base.tbls⟩, ⟨_, hn', fun j y v' e1 e2 e3 => ?_⟩, fun y c e => ?_, I.free, I.freeC, fun p hp => ?_, tracked ⟨oL, hoL, I.free⟩ hs, by simpa using I.len⟩ ⟨_, hs, .inl rfl⟩
    · exact (hs.2 b (Nat.ne_of_lt (Nat.lt_of_lt_of_le (Heap.lt_size e) I.ok.above))).trans (I.base.keep b o e n hb hx)
    · obtain ⟨sl, e1⟩ := I.base.slot b o e n hb hx
      exact ⟨sl, (hs.2 b (Nat.ne_of_lt (Nat.lt_of_lt_of_le (Heap.lt_size e) I.ok.above))).trans e1⟩
    · obtain ⟨o', e1⟩ := I.base.there b o e hx
      exact ⟨o', (hs.2 b (Nat.ne_of_lt (Nat.lt_of_lt_of_le (Heap.lt_size e) I.ok.above))).trans e1⟩
    · by_cases hj : j = i
      · subst hj
        rw [hi] at e1; cases e1
        rw [List.getElem?_set_self hiσ] at e2
        cases e2
        exact ⟨u, r, .inl ⟨hk, by simp⟩⟩
      · rw [List.getElem?_set_ne (Ne.symm hj)] at e2
        obtain ⟨u', r', q⟩ := hl j y v' e1 e2 e3
        refine ⟨u', r', ?_⟩
        rcases q with ⟨k, e⟩ | ⟨k, c, e, z⟩
        · refine .inl ⟨k, ?_⟩
          have : y ≠ x := fun e => hj (nodup_ix hN e1 (e ▸ hi))
          simp [this, e]
        · exact .inr ⟨k, c, e, z.sameBut hs (cne y c e)⟩
    · obtain ⟨w', z⟩ := I.cell y c e
      exact ⟨w', z.sameBut hs (cne y c e)⟩
    · obtain ⟨e, n, ne, nf, d⟩ := I.pin p hp
      exact ⟨(hs.2 p.1 ne).trans e, n, ne, nf, d⟩
  · have hfn : X.fn x = true := by
      rcases hf with z | z
      · exact z
      · rw [z] at hk; cases hk
    obtain ⟨c, hc⟩ := I.ok.has x (.inl hk)
    obtain ⟨w', z⟩ := I.cell x c hc
    refine wpAny_storeName_cell I.ok.kind hk hc z (fun h' hc' hs => ?_)
    obtain ⟨oc, hoc, hocd⟩ := id z
    refine h { s with heap := h' } ⟨I.ok, I.os, I.bare, ⟨fun b o e n hb hx => ?_, fun b o e n hb hx => ?_, I.base.free, fun b o e hx => ?_, I.base.tups, I.base.frzs, I.base.tbls⟩, ⟨m, hn.sameBut hs (Ne.symm (cne x c hc)), fun j y v' e1 e2 e3 => ?_⟩, fun y c' e => ?_, I.free, I.freeC, fun p hp => ?_, tracked ⟨oc, hoc, I.freeC x c hc⟩ hs, by simpa using I.len⟩ ⟨c, hs, .inr hc⟩
    · exact (hs.2 b (Nat.ne_of_lt (Nat.lt_of_lt_of_le (Heap.lt_size e) (I.ok.cab x c hfn hc)))).trans (I.base.keep b o e n hb hx)
    · obtain ⟨sl, e1⟩ := I.base.slot b o e n hb hx
      exact ⟨sl, (hs.2 b (Nat.ne_of_lt (Nat.lt_of_lt_of_le (Heap.lt_size e) (I.ok.cab x c hfn hc)))).trans e1⟩
    · obtain ⟨o', e1⟩ := I.base.there b o e hx
      exact ⟨o', (hs.2 b (Nat.ne_of_lt (Nat.lt_of_lt_of_le (Heap.lt_size e) (I.ok.cab x c hfn hc)))).trans e1⟩
    · by_cases hj : j = i
      · subst hj
        rw [hi] at e1; cases e1
        rw [List.getElem?_set_self hiσ] at e2
        cases e2
        exact ⟨u, r, .inr ⟨.inl hk, c, hc, hc'⟩⟩
      · rw [List.getElem?_set_ne (Ne.symm hj)] at e2
        obtain ⟨u', r', q⟩ := hl j y v' e1 e2 e3
        refine ⟨u', r', ?_⟩
        rcases q with q | ⟨k, c', e, z'⟩
        · exact .inl q
        · refine .inr ⟨k, c', e, z'.sameBut hs ?_⟩
          rintro rfl
          exact hj (nodup_ix hN e1 (I.ok.inj _ _ _ e hc ▸ hi))
    · by_cases hcc : c' = c
      · subst hcc; exact ⟨_, hc'⟩
      · obtain ⟨w2, z2⟩ := I.cell y c' e
        exact ⟨w2, z2.sameBut hs hcc⟩
    · obtain ⟨e, n, ne, nf, d⟩ := I.pin p hp
      refine ⟨(hs.2 p.1 ?_).trans e, n, ne, nf, d⟩
      intro q
      rw [q, hoc] at e
      have q' : oc = p.2 := Option.some.inj e
      exact d w' (by rw [← q']; exact hocd)
theorem store_ok {M : Model} {A : Around} {E : Value → Shared → Prop} {i : Nat} {x : Str} {v : V} {u : Value} {Q : Unit → Shared → Prop} (I : Inv X pins σ H s) (hN : X.N.Nodup) (hi : X.N[i]? = some x) (hx : Loc X.env.scope x) (r : RelV v u)
    (h : ∀ s', Inv X pins (σ.set i (some v)) H s' → Q () s') (hf : X.fn x = true ∨ X.env.scope.names.lookup x = some .local := by first | exact .inl rfl | exact .inr rfl | assumption) : wpAny M A (storeName X.env x u) Q E s :=
  store_ok2 I hN hi hx r (fun s' I' _ => h s' I') hf
/-- behind a call or a block, the state as it is -/
theorem Inv.call' {s' : Shared} {ch : List Addr} (I : Inv X pins σ H s) (ho : s'.os = s.os) (u : Un (frs X.stack) ch H H' s.heap s'.heap) (hok : HOk X.prog X.w H' s'.heap) (hg : AllBare s'.gens)
    (hch : ∀ b ∈ ch, (b ∈ X.ex ∨ X.s₀.heap.objs.size ≤ b) ∧ b ≠ X.env.locals ∧ (∀ x c, X.env.cells.lookup x = some c → c ≠ b) ∧ ∀ p ∈ X.pn ++ pins, p.1 ≠ b) : Inv X pins σ H' s' := by
  obtain ⟨h', g', d', t', o'⟩ := s'
  have e : o' = s.os := ho
  subst e
  exact I.call (g' := g') (t' := t') (d' := d') u hok hg hch
end

/-! ### the judgements -/
/-- an exception: its class, its own dict's address (where it has one), the abstract heap behind it -/
abbrev XK := Value → Option Addr → Hp → Prop
abbrev St := List (Option V)
abbrev VK := V → Hp → Prop
/-- an expression's reading; a test's; an argument list's -/
abbrev TE := St → Hp → VK → Prop
abbrev TT := St → Hp → (Bool → Hp → Prop) → Prop
abbrev TA := St → Hp → (List V → Hp → Prop) → Prop
/-- what is wanted behind a statement -/
structure Ends where
  nx : St → Hp → Prop
  rt : VK
  bk : St → Hp → Prop := fun _ _ => False
  ct : St → Hp → Prop := fun _ _ => False
abbrev TS := Ends → St → Hp → Prop

def EP (X : Cx) (pins : List (Addr × Obj)) (σ : St) (Q : VK) (u : Value) (s' : Shared) : Prop := ∃ v H', Inv X pins σ H' s' ∧ RelV v u ∧ Q v H'
def TP (X : Cx) (pins : List (Addr × Obj)) (σ : St) (Q : Bool → Hp → Prop) (b : Bool) (s' : Shared) : Prop := ∃ H', Inv X pins σ H' s' ∧ Q b H'
def AP (X : Cx) (pins : List (Addr × Obj)) (σ : St) (Q : List V → Hp → Prop) (us : List Value) (s' : Shared) : Prop := ∃ vs H', Inv X pins σ H' s' ∧ Vals vs us ∧ Q vs H'
def SP (X : Cx) (pins : List (Addr × Obj)) (D : Ends) (f : Flow) (s' : Shared) : Prop :=
  match f with
  | .next => ∃ σ' H', Inv X pins σ' H' s' ∧ D.nx σ' H'
  | .brk => ∃ σ' H', Inv X pins σ' H' s' ∧ D.bk σ' H'
  | .cont => ∃ σ' H', Inv X pins σ' H' s' ∧ D.ct σ' H'
  | .ret u => ∃ v σ' H', Inv X pins σ' H' s' ∧ RelV v u ∧ D.rt v H'

def PE (X : Cx) (e : Expr) (t : TE) : Prop :=
  ∀ (pins : List (Addr × Obj)) (s : Shared) (σ : St) (H : Hp) (Q : VK), Inv X pins σ H s → t σ H Q → wpAny (model X.prog X.w) X.A (eval e X.env) (EP X pins σ Q) X.xe s
def PT (X : Cx) (e : Expr) (t : TT) : Prop :=
  ∀ (pins : List (Addr × Obj)) (s : Shared) (σ : St) (H : Hp) (Q : Bool → Hp → Prop), Inv X pins σ H s → t σ H Q → wpAny (model X.prog X.w) X.A (isTrue e X.env (eval e X.env)) (TP X pins σ Q) X.xe s
/-- a test whatever its 'whole' is (and, or) -/
def PW (X : Cx) (e : Expr) (t : TT) : Prop :=
  ∀ (whole : Sem Value) (pins : List (Addr × Obj)) (s : Shared) (σ : St) (H : Hp) (Q : Bool → Hp → Prop), Inv X pins σ H s → t σ H Q → wpAny (model X.prog X.w) X.A (isTrue e X.env whole) (TP X pins σ Q) X.xe s
theorem PW.pt {X : Cx} {e : Expr} {t : TT} (h : PW X e t) : PT X e t := h _
/-- an argument list (no star), from the left -/
def PA (X : Cx) (es : List Expr) (t : TA) : Prop :=
  ∀ (pos : Pos) (pins : List (Addr × Obj)) (s : Shared) (σ : St) (H : Hp) (Q : List V → Hp → Prop), Inv X pins σ H s → t σ H Q → wpAny (model X.prog X.w) X.A (spliced (backTo pos (starEach es X.env))) (AP X pins σ Q) X.xe s
def PS (X : Cx) (st : Stmt) (t : TS) : Prop :=
  ∀ (pins : List (Addr × Obj)) (s : Shared) (σ : St) (H : Hp) (D : Ends), Inv X pins σ H s → t D σ H → wpAny (model X.prog X.w) X.A (exec st X.env) (SP X pins D) X.xe s
def PSs (X : Cx) (st : List Stmt) (t : TS) : Prop :=
  ∀ (pins : List (Addr × Obj)) (s : Shared) (σ : St) (H : Hp) (D : Ends), Inv X pins σ H s → t D σ H → wpAny (model X.prog X.w) X.A (execs st X.env) (SP X pins D) X.xe s
/-- weaken the end -/
theorem thn {α : Type} {t : Sem α} {Q Q' : α → Shared → Prop} {M : Model} {A : Around} {E : Value → Shared → Prop} {s : Shared} (h : wpAny M A t Q E s) (hQ : ∀ a s, Q a s → Q' a s) : wpAny M A t Q' E s := wpAny_mono h hQ fun _ _ x => x
end L2

namespace L2
open PySem PySem.Spec PyProof.Rows
section
variable {X : Cx}

/-! ### names and constants -/
def tVar (i : Nat) : TE := fun σ H Q => ∃ v, σ[i]? = some (some v) ∧ Q v H
def tC (v : V) : TE := fun _ H Q => Q v H
theorem pe_var {i : Nat} {x : Str} {pos : Pos} (hN : X.N[i]? = some x) (hv : Vis X.env.scope x) (hd : (x == ("__debug__" : Str)) = false := by decide) (hcd : (x == ("__classdict__" : Str)) = false := by decide) : PE X (.Name x pos) (tVar i) := by
  intro pins s σ H Q I h
  obtain ⟨v, e, h⟩ := h
  obtain ⟨m, hn, hl⟩ := I.loc
  obtain ⟨u, r, l⟩ := hl i x v hN e hv
  have fin : EP X pins σ Q u s := ⟨v, H, I, r, h⟩
  rcases l with ⟨hk, hm⟩ | ⟨hk, c, hc, hcell⟩
  · exact wpAny_Name (wpAny_loadName_local I.ok.kind hk hn hm fin) hd
  · rcases hk with hk | hk
    · exact wpAny_Name (wpAny_loadName_cell I.ok.kind hk hc hcell fin) hd
    · exact wpAny_Name (wpAny_loadName_free I.ok.kind hk hc hcell fin hcd) hd
theorem pe_int {i j pos} : PE X (.Constant (.int i) j pos) (tC (.int i)) := fun _ _ _ H _ I h => wpAny_Constant_int ⟨.int i, H, I.tok _, ⟨_, rfl⟩, h⟩
theorem pe_bl {b j pos} : PE X (.Constant (.bool b) j pos) (tC (.bl b)) := fun _ _ _ H _ I h => Constant_bool ⟨.bl b, H, I, rfl, h⟩
theorem pe_non {j pos} : PE X (.Constant .none j pos) (tC .non) := fun _ _ _ H _ I h => Constant_none ⟨.non, H, I, rfl, h⟩
theorem pe_str {x j pos} : PE X (.Constant (.str x) j pos) (tC (.str x)) := fun _ _ _ H _ I h => Calls.Constant_str ⟨.str x, H, I.tok _, ⟨_, rfl⟩, h⟩

/-- a global name of the def -/
def Gl (X : Cx) (x : Str) : Prop := X.env.kindOf x = some .globalImplicit
theorem ld_glob {E : Value → Shared → Prop} {pins : List (Addr × Obj)} {s : Shared} {σ : St} {H : Hp} {x : Str} {u : Value} {pos : Pos} {Q : Value → Shared → Prop} (I : Inv X pins σ H s) (hg : Gl X x) (hm : X.mg x = some u) (h : Q u s)
    (hd : (x == ("__debug__" : Str)) = false := by decide) : wpAny (model X.prog X.w) X.A (eval (.Name x pos) X.env) Q E s :=
  Calls.Name_function_global I.ok.kind hg (Calls.loadGlobal_global (by rw [I.ok.glob]; exact I.mod.glob.keeps I.bk) hm h) hd
theorem ld_blt {E : Value → Shared → Prop} {pins : List (Addr × Obj)} {s : Shared} {σ : St} {H : Hp} {x : Str} {u : Value} {pos : Pos} {Q : Value → Shared → Prop} (I : Inv X pins σ H s) (hg : Gl X x) (hm : X.mg x = none) (hv : bootBuiltins x = some u) (h : Q u s)
    (hn : x ≠ "__name__" := by decide) (hd : (x == ("__debug__" : Str)) = false := by decide) : wpAny (model X.prog X.w) X.A (eval (.Name x pos) X.env) Q E s := by
  obtain ⟨mb, h1, h2⟩ := I.mod.blt
  exact Calls.Name_function_global I.ok.kind hg (Calls.loadGlobal_builtin (by rw [I.ok.glob]; exact I.mod.glob.keeps I.bk) hm (by rw [I.ok.blt]; exact h1.keeps I.bk) ((h2 x hn).trans hv) h) hd
/-- a module's constant, a class, a function, as a value -/
theorem pe_glob {x : Str} {v : V} {u : Value} {pos : Pos} (hg : Gl X x) (hm : X.mg x = some u) (r : RelV v u) (hd : (x == ("__debug__" : Str)) = false := by decide) : PE X (.Name x pos) (tC v) :=
  fun _ _ _ H _ I h => ld_glob I hg hm ⟨v, H, I, r, h⟩ hd
theorem pe_bltn {x : Str} {v : V} {u : Value} {pos : Pos} (hg : Gl X x) (hm : X.mg x = none) (hv : bootBuiltins x = some u) (r : RelV v u) (hn : x ≠ "__name__" := by decide) (hd : (x == ("__debug__" : Str)) = false := by decide) : PE X (.Name x pos) (tC v) :=
  fun _ _ _ H _ I h => ld_blt I hg hm hv ⟨v, H, I, r, h⟩ hn hd

/-! ### arithmetic -/
variable {a b : Expr} {ta tb : TE} {pos : Pos}
/-! ### comparisons -/
def PC (X : Cx) (op : CmpOp) (a b : Expr) (t : TE) : Prop :=
  ∀ (pins : List (Addr × Obj)) (s : Shared) (σ : St) (H : Hp) (Q : VK), Inv X pins σ H s → t σ H Q →
    wpAny (model X.prog X.w) X.A (eval a X.env) (fun v s₁ => wpAny (model X.prog X.w) X.A (eval b X.env) (fun u s₂ => wpAny (model X.prog X.w) X.A (compareOp op v u) (EP X pins σ Q) X.xe s₂) X.xe s₁) X.xe s
/-- a comparison as a value, as a test -/
def tB (t : TE) : TT := fun σ H Q => t σ H fun x H1 => ∃ c, x = .bl c ∧ Q c H1
/-- an expression whose value is a bool, as a test -/
theorem pt_val {e : Expr} {t : TE} (h : PE X e t) (he : ∀ whole, isTrue e X.env whole = (do let v ← whole; standAt e.pos; holding [v] (truthy v)) := by intro _; rfl) : PT X e (tB t) := by
  intro pins s σ H Q I hw
  refine isTrue_plain (thn (h pins s σ H _ I hw) fun v s1 ⟨x, H1, I1, r1, q1⟩ => ?_) (he _)
  obtain ⟨d, rfl, q⟩ := q1
  cases r1
  exact wpAny_truthy_bool ⟨H1, I1, q⟩

/-! ### and, or, not -/
variable {tA tB' : TT} {rest : List Expr}
def tAnd (t u : TT) : TT := fun σ H Q => t σ H fun c H1 => if c = true then u σ H1 Q else Q false H1
def tOr (t u : TT) : TT := fun σ H Q => t σ H fun c H1 => if c = true then Q true H1 else u σ H1 Q
def tNot (t : TT) : TT := fun σ H Q => t σ H fun c H1 => Q (!c) H1
theorem pw_and1 (ha : PT X a tA) : PW X (.BoolOp .And [a] pos) tA := by
  intro wh pins s σ H Q I h
  refine isTrue_and (thn (ha pins s σ H Q I h) fun c s1 e => ?_)
  cases c with
  | true => exact isTrue_and_nil e
  | false => exact e
theorem pw_or1 (ha : PT X a tA) : PW X (.BoolOp .Or [a] pos) tA := by
  intro wh pins s σ H Q I h
  refine isTrue_or (thn (ha pins s σ H Q I h) fun c s1 e => ?_)
  cases c with
  | false => exact isTrue_or_nil e
  | true => exact e
theorem pw_and (ha : PT X a tA) (hb : PW X (.BoolOp .And (b :: rest) pos) tB') : PW X (.BoolOp .And (a :: b :: rest) pos) (tAnd tA tB') := by
  intro wh pins s σ H Q I h
  refine isTrue_and (thn (ha pins s σ H _ I h) fun c s1 ⟨H1, I1, q1⟩ => ?_)
  cases c with
  | true => exact hb wh pins s1 σ H1 Q I1 q1
  | false => exact ⟨H1, I1, q1⟩
theorem pw_or (ha : PT X a tA) (hb : PW X (.BoolOp .Or (b :: rest) pos) tB') : PW X (.BoolOp .Or (a :: b :: rest) pos) (tOr tA tB') := by
  intro wh pins s σ H Q I h
  refine isTrue_or (thn (ha pins s σ H _ I h) fun c s1 ⟨H1, I1, q1⟩ => ?_)
  cases c with
  | true => exact ⟨H1, I1, q1⟩
  | false => exact hb wh pins s1 σ H1 Q I1 q1
theorem pt_not (ha : PT X a tA) : PT X (.UnaryOp .Not a pos) (tNot tA) := by
  intro pins s σ H Q I h
  exact isTrue_not (ha pins s σ H (fun c H1 => Q (!c) H1) I h)
/-- .. as values (bools) -/
def tAndV (ta tb : TE) : TE := fun σ H Q => ta σ H fun x H1 => ∃ c, x = .bl c ∧ if c = true then tb σ H1 Q else Q (.bl false) H1
def tOrV (ta tb : TE) : TE := fun σ H Q => ta σ H fun x H1 => ∃ c, x = .bl c ∧ if c = true then Q (.bl true) H1 else tb σ H1 Q
def tNotV (ta : TE) : TE := fun σ H Q => ta σ H fun x H1 => ∃ c, x = .bl c ∧ Q (.bl (!c)) H1
theorem pe_one {op} {t : TE} (h : PE X a t) : PE X (.BoolOp op [a] pos) t := fun pins s σ H Q I hw => BoolOp_one (h pins s σ H Q I hw)
theorem pe_and (ha : PE X a ta) (hb : PE X (.BoolOp .And (b :: rest) pos) tb) : PE X (.BoolOp .And (a :: b :: rest) pos) (tAndV ta tb) := by
  intro pins s σ H Q I h
  refine BoolOp_and (thn (ha pins s σ H _ I h) fun v s1 ⟨x, H1, I1, r1, q1⟩ => ?_)
  obtain ⟨c, rfl, q1⟩ := q1
  cases r1
  refine wpAny_truthy_bool ?_
  cases c with
  | true => exact hb pins s1 σ H1 Q I1 q1
  | false => exact ⟨.bl false, H1, I1, rfl, q1⟩
theorem pe_or (ha : PE X a ta) (hb : PE X (.BoolOp .Or (b :: rest) pos) tb) : PE X (.BoolOp .Or (a :: b :: rest) pos) (tOrV ta tb) := by
  intro pins s σ H Q I h
  refine BoolOp_or (thn (ha pins s σ H _ I h) fun v s1 ⟨x, H1, I1, r1, q1⟩ => ?_)
  obtain ⟨c, rfl, q1⟩ := q1
  cases r1
  refine wpAny_truthy_bool ?_
  cases c with
  | false => exact hb pins s1 σ H1 Q I1 q1
  | true => exact ⟨.bl true, H1, I1, rfl, q1⟩
theorem pe_not (ha : PE X a ta) : PE X (.UnaryOp .Not a pos) (tNotV ta) := by
  intro pins s σ H Q I h
  refine UnaryOp_ (thn (ha pins s σ H _ I h) fun v s1 ⟨x, H1, I1, r1, q1⟩ => ?_)
  obtain ⟨c, rfl, q1⟩ := q1
  cases r1
  exact not_of (wpAny_truthy_bool ⟨.bl (!c), H1, I1, rfl, q1⟩)
/-- a if t else b -/
def tIf (t : TT) (ta tb : TE) : TE := fun σ H Q => t σ H fun c H1 => if c = true then ta σ H1 Q else tb σ H1 Q
theorem pe_ifExp {c : Expr} (hc : PT X c tA) (ha : PE X a ta) (hb : PE X b tb) : PE X (.IfExp c a b pos) (tIf tA ta tb) := by
  intro pins s σ H Q I h
  refine wpAny_IfExp (thn (hc pins s σ H _ I h) fun d s1 ⟨H1, I1, q1⟩ => ?_)
  cases d with
  | true => exact ha pins s1 σ H1 Q I1 q1
  | false => exact hb pins s1 σ H1 Q I1 q1
end
end L2

namespace L2
open PySem PySem.Spec PyProof.Rows

/-! ### a list, a tuple that is read: tracked, frozen, or an object of the module -/
def SqL (K : PySem.W.Frag) (H : Hp) (a : Addr) (xs : List V) : Prop :=
  Rd H a (.lst xs) ∨
    ∃ (o : Obj) (its : Array Value) (n : Nat), K.lookup a = some o ∧ o.cls = .type "list" ∧ o.dict = none ∧ o.data = .seq its n ∧ its.size ≤ sizeLine ∧ Vals xs its.toList
def SqT (K : PySem.W.Frag) (H : Hp) (a : Addr) (xs : List V) : Prop :=
  Rd H a (.tup xs) ∨
    ∃ (o : Obj) (its : Array Value) (n : Nat), K.lookup a = some o ∧ o.cls = .type "tuple" ∧ o.data = .seq its n ∧ its.size ≤ sizeLine ∧ Vals xs its.toList
def absV : Value → Option V
  | .none => some .non
  | .bool b => some (.bl b)
  | .int i _ => some (.int i)
  | .str x _ => some (.str x)
  | .bytes b _ => some (.byt b)
  | .float b _ => some (.flt b)
  | .ref a => some (.ref a)
  | .type n => some (.ty n)
  | _ => none
theorem RelV.abs {x : V} {u : Value} (r : RelV x u) : absV u = some x := by
  cases x with
  | non => cases r; rfl
  | bl _ => cases r; rfl
  | int _ => obtain ⟨t, rfl⟩ := r; rfl
  | str _ => obtain ⟨t, rfl⟩ := r; rfl
  | byt _ => obtain ⟨t, rfl⟩ := r; rfl
  | flt _ => obtain ⟨t, rfl⟩ := r; rfl
  | ref _ => cases r; rfl
  | ty _ => cases r; rfl
theorem RelV.inj {x y : V} {u : Value} (r : RelV x u) (q : RelV y u) : x = y := Option.some.inj (r.abs.symm.trans q.abs)
theorem Vals.inj : ∀ {xs ys : List V} {us : List Value}, Vals xs us → Vals ys us → xs = ys
  | _, _, _, .nil, .nil => rfl
  | _, _, _, .cons r t, .cons r' t' => by rw [r.inj r', Vals.inj t t']
section
variable {X : Cx} {pins : List (Addr × Obj)} {σ : St} {H : Hp} {s : Shared} {a : Addr} {xs ys : List V}
theorem SqL.of {K : PySem.W.Frag} (h : H a = some (.lst xs)) : SqL K H a xs := .inl (.inl h)
theorem SqT.of {K : PySem.W.Frag} (h : H a = some (.tup xs)) : SqT K H a xs := .inl (.inl h)
theorem Inv.list (I : Inv X pins σ H s) (h : SqL X.K H a xs) : ∃ its : List Value, Vals xs its ∧ PlainL s.heap a its.toArray ∧ xs.length ≤ sizeLine := by
  rcases h with h | ⟨o, its, n, hk, hc, hd, hs, hz, r⟩
  · obtain ⟨z, its, n, r, e⟩ := h.ok I.hok
    exact ⟨its, r, ⟨_, n, e, rfl, rfl, rfl⟩, z⟩
  · refine ⟨its.toList, r, ⟨o, n, I.kIn a o hk, hc, hd, by simpa using hs⟩, ?_⟩
    have e := r.length
    simp only [Array.length_toList] at e
    omega
theorem Inv.tuple (I : Inv X pins σ H s) (h : SqT X.K H a xs) : ∃ its : List Value, Vals xs its ∧ IsTup s.heap a its.toArray ∧ xs.length ≤ sizeLine := by
  rcases h with h | ⟨o, its, n, hk, hc, hs, hz, r⟩
  · obtain ⟨z, its, r, p⟩ := h.ok I.hok
    exact ⟨its, r, p, z⟩
  · refine ⟨its.toList, r, ⟨o, I.kIn a o hk, hc, n, by simpa using hs⟩, ?_⟩
    have e := r.length
    simp only [Array.length_toList] at e
    omega
theorem Inv.list_inj (I : Inv X pins σ H s) (h : SqL X.K H a xs) (h' : SqL X.K H a ys) : xs = ys := by
  obtain ⟨its, r, ⟨o, n, e, _, _, d⟩, _⟩ := I.list h
  obtain ⟨its', r', ⟨o', n', e', _, _, d'⟩, _⟩ := I.list h'
  rw [e] at e'; cases e'
  rw [d] at d'
  injection d' with d1 _
  have : its = its' := by simpa using congrArg Array.toList d1
  subst this
  exact r.inj r'
end

/-! ### another wish about exceptions -/
abbrev Cx.wish (X : Cx) (E : Value → Shared → Prop) : Cx := { X with xe := E }
/-- no exception leaves -/
abbrev Cx.nox (X : Cx) : Cx := X.wish fun _ _ => False
theorem Cx.Ok.wish {X : Cx} (ok : X.Ok) (E : Value → Shared → Prop) : (X.wish E).Ok :=
  ⟨ok.mod, ok.kind, ok.glob, ok.blt, ok.above, ok.inj, ok.has, ok.cab, ok.hd, ok.frames, ok.stk, ok.exf, ok.bs, ok.bsz, ok.noex, ok.exfs, ok.funs, ok.frf⟩
theorem Cx.Ok.unwish {X : Cx} {E : Value → Shared → Prop} (ok : (X.wish E).Ok) : X.Ok :=
  ⟨ok.mod, ok.kind, ok.glob, ok.blt, ok.above, ok.inj, ok.has, ok.cab, ok.hd, ok.frames, ok.stk, ok.exf, ok.bs, ok.bsz, ok.noex, ok.exfs, ok.funs, ok.frf⟩
section
variable {X : Cx} {pins : List (Addr × Obj)} {σ : St} {H : Hp} {s : Shared} {E : Value → Shared → Prop}
theorem Inv.wish (I : Inv X pins σ H s) (E : Value → Shared → Prop) : Inv (X.wish E) pins σ H s := ⟨I.ok.wish E, I.os, I.bare, I.base, I.loc, I.cell, I.free, I.freeC, I.pin, I.hok, I.len⟩
theorem Inv.unwish (I : Inv (X.wish E) pins σ H s) : Inv X pins σ H s := ⟨I.ok.unwish, I.os, I.bare, I.base, I.loc, I.cell, I.free, I.freeC, I.pin, I.hok, I.len⟩
theorem SP.unwish {D : Ends} {f : Flow} {s' : Shared} (h : SP (X.wish E) pins D f s') : SP X pins D f s' := by
  cases f with
  | next => obtain ⟨σ', H', I, q⟩ := h; exact ⟨σ', H', I.unwish, q⟩
  | brk => obtain ⟨σ', H', I, q⟩ := h; exact ⟨σ', H', I.unwish, q⟩
  | cont => obtain ⟨σ', H', I, q⟩ := h; exact ⟨σ', H', I.unwish, q⟩
  | ret u => obtain ⟨v, σ', H', I, r, q⟩ := h; exact ⟨v, σ', H', I.unwish, r, q⟩
theorem PSs.nox {st : List Stmt} {t : TS} (h : PSs X.nox st t) : PSs X st t := fun pins s σ H D I hw =>
  wpAny_mono (h pins s σ H D (I.wish _) hw) (fun _ _ q => q.unwish) fun _ _ z => False.elim z
end

/-! ### blocks and small statements -/
section
variable {X : Cx} {st : Stmt} {rest : List Stmt} {t u : TS} {e : Expr} {te : TE} {pos : Pos}
def tNext : TS := fun D σ H => D.nx σ H
def tSeq (t u : TS) : TS := fun D σ H => t { D with nx := u D } σ H
theorem pss_nil : PSs X [] tNext := fun _ _ σ H _ I h => wpAny_execs_nil ⟨σ, H, I, h⟩
theorem pss_cons (h1 : PS X st t) (h2 : PSs X rest u) : PSs X (st :: rest) (tSeq t u) := by
  intro pins s σ H D I h
  refine wpAny_execs_cons (thn (h1 pins s σ H { D with nx := u D } I h) fun f s1 q => ?_)
  cases f with
  | next =>
    obtain ⟨σ', H', I', q⟩ := q
    exact h2 pins s1 σ' H' D I' q
  | ret v => exact q
  | brk => exact q
  | cont => exact q
theorem pss_one (h1 : PS X st t) : PSs X [st] t := by
  intro pins s σ H D I h
  refine wpAny_execs_cons (thn (h1 pins s σ H D I h) fun f s1 q => ?_)
  cases f with
  | next => exact wpAny_execs_nil q
  | ret v => exact q
  | brk => exact q
  | cont => exact q
/-- in a def's body nothing is shown -/
theorem Inv.quiet {pins : List (Addr × Obj)} {σ : St} {H : Hp} {s : Shared} (I : Inv X pins σ H s) : interactive X.env = false := by simp [interactive, I.ok.kind]
/-- an expression whose value is dropped -/
def tDrop (te : TE) : TS := fun D σ H => te σ H fun _ H1 => D.nx σ H1
theorem ps_expr (he : PE X e te) (hs : swapsWith e none pos.line X.env = pure false := by rfl) : PS X (.Expr e pos) (tDrop te) := by
  intro pins s σ H D I h
  exact wpAny_Expr_any (thn (he pins s σ H _ I h) fun v s1 ⟨x, H1, I1, r1, q1⟩ => ⟨σ, H1, I1, q1⟩) I.quiet hs
def tRet (te : TE) : TS := fun D σ H => te σ H D.rt
theorem ps_ret (he : PE X e te) : PS X (.Return (some e) pos) (tRet te) := by
  intro pins s σ H D I h
  exact wpAny_Return_some (thn (he pins s σ H _ I h) fun v s1 ⟨x, H1, I1, r1, q1⟩ => ⟨x, σ, H1, I1, r1, q1⟩)
def tIfS (c : TT) (t u : TS) : TS := fun D σ H => c σ H fun b H1 => if b = true then t D σ H1 else u D σ H1
theorem ps_if {c : Expr} {a b : List Stmt} {tc : TT} (hc : PT X c tc) (ha : PSs X a t) (hb : PSs X b u) : PS X (.If c a b pos) (tIfS tc t u) := by
  intro pins s σ H D I h
  refine wpAny_If (thn (hc pins s σ H _ I h) fun d s1 ⟨H1, I1, q1⟩ => ?_)
  cases d with
  | true => exact ha pins s1 σ H1 D I1 q1
  | false => exact hb pins s1 σ H1 D I1 q1
end

/-! ### targets -/
abbrev TG := V → St → Hp → (St → Hp → Prop) → Prop
abbrev TGs := List V → St → Hp → (St → Hp → Prop) → Prop
def PG (X : Cx) (target : Expr) (t : TG) : Prop :=
  ∀ (pins : List (Addr × Obj)) (s : Shared) (σ : St) (H : Hp) (v : V) (u : Value) (Q : St → Hp → Prop), Inv X pins σ H s → RelV v u → t v σ H Q →
    wpAny (model X.prog X.w) X.A (assign target X.env u) (fun _ s' => ∃ σ' H', Inv X pins σ' H' s' ∧ Q σ' H') X.xe s
/-- several targets, one after another -/
def PGs (X : Cx) (ts : List Expr) (t : TGs) : Prop :=
  ∀ (pins : List (Addr × Obj)) (s : Shared) (σ : St) (H : Hp) (vs : List V) (us : List Value) (Q : St → Hp → Prop), Inv X pins σ H s → Vals vs us → t vs σ H Q →
    wpAny (model X.prog X.w) X.A (assignInOrder ((assignEach ts X.env).map (·.2)) us) (fun _ s' => ∃ σ' H', Inv X pins σ' H' s' ∧ Q σ' H') X.xe s
/-- o[i] = v, by values -/
abbrev TSet := V → V → V → Hp → (Hp → Prop) → Prop
def PSet (X : Cx) (t : TSet) : Prop :=
  ∀ (pins : List (Addr × Obj)) (s : Shared) (σ : St) (H : Hp) (o i v : V) (ov iv u : Value) (Q : Hp → Prop), Inv X pins σ H s → RelV o ov → RelV i iv → RelV v u → t o i v H Q →
    wpAny (model X.prog X.w) X.A (setItem ov iv u) (fun _ s' => ∃ H', Inv X pins σ H' s' ∧ Q H') X.xe s
section
variable {X : Cx} {pos : Pos}
def gName (i : Nat) : TG := fun v σ H Q => Q (σ.set i (some v)) H
theorem pg_name {i : Nat} {x : Str} (hN : X.N.Nodup) (hi : X.N[i]? = some x) (hx : Loc X.env.scope x) (hf : X.fn x = true ∨ X.env.scope.names.lookup x = some .local := by first | exact .inl rfl | exact .inr rfl | assumption) : PG X (.Name x pos) (gName i) := by
  intro pins s σ H v u Q I r h
  exact wpAny_assign_Name (store_ok I hN hi hx r (fun s' I' => ⟨_, H, I', h⟩) hf)
/-- o[i] = .. -/
def gSub (to ti : TE) (t : TSet) : TG := fun v σ H Q => to σ H fun o H1 => ti σ H1 fun i H2 => t o i v H2 fun H3 => Q σ H3
theorem pg_sub {o i : Expr} {to ti : TE} {t : TSet} (ho : PE X o to) (hi : PE X i ti) (hs : PSet X t)
    (ha : ∀ v, assign (.Subscript o i pos) X.env v = (do
      let ov ← holding [v] (eval o X.env)
      let iv ← holding [v, ov] (eval i X.env)
      standAt pos
      holding [v, ov, iv] (setItem ov iv v)
      release [v, ov, iv] []) := by intro _; rfl) : PG X (.Subscript o i pos) (gSub to ti t) := by
  intro pins s σ H v u Q I r h
  rw [ha]
  refine wpAny_bind (wpAny_holding (thn (ho pins s σ H _ I h) fun ov s1 ⟨x, H1, I1, r1, q1⟩ => ?_))
  refine wpAny_bind (wpAny_holding (thn (hi pins s1 σ H1 _ I1 q1) fun iv s2 ⟨y, H2, I2, r2, q2⟩ => ?_))
  refine wpAny_bind (wpAny_standAt (wpAny_bind (wpAny_holding (thn (hs pins s2 σ H2 x y v ov iv u _ I2 r1 r2 r q2) fun _ s3 ⟨H3, I3, q3⟩ => ?_))))
  exact wpAny_release ⟨σ, H3, I3, q3⟩
/-- target = value -/
def tAsg (te : TE) (g : TG) : TS := fun D σ H => te σ H fun x H1 => g x σ H1 D.nx
theorem ps_asg {tg e : Expr} {te : TE} {g : TG} (he : PE X e te) (hg : PG X tg g) (hs : swapsWithSole [tg] e pos.line X.env = pure false := by rfl) (hw : swappedStores [tg] e X.env = pure none := by rfl)
    (h1 : (assignEach [tg] X.env).map (·.2) = [assign tg X.env] := by rfl) : PS X (.Assign [tg] e pos) (tAsg te g) := by
  intro pins s σ H D I h
  refine wpAny_Assign_stores (thn (he pins s σ H _ I h) fun v s1 ⟨x, H1, I1, r1, q1⟩ => ?_) hs hw
  rw [h1]
  exact thn (hg pins s1 σ H1 x v _ I1 r1 q1) fun _ s2 q => q
/-- name = value -/
theorem ps_set {i : Nat} {x : Str} {e : Expr} {te : TE} {pos' : Pos} (hN : X.N.Nodup) (hi : X.N[i]? = some x) (hx : Loc X.env.scope x) (he : PE X e te) (hs : swapsWith e (some (.Name x pos')) pos.line X.env = pure false := by rfl) (hf : X.fn x = true ∨ X.env.scope.names.lookup x = some .local := by first | exact .inl rfl | exact .inr rfl | assumption) :
    PS X (.Assign [.Name x pos'] e pos) (tAsg te (gName i)) := by
  intro pins s σ H D I h
  refine wpAny_Assign_Name (thn (he pins s σ H _ I h) fun v s1 ⟨y, H1, I1, r1, q1⟩ => ?_) hs
  exact store_ok I1 hN hi hx r1 (fun s2 I2 => ⟨_, H1, I2, q1⟩) hf
end

/-! ### while -/
section
variable {X : Cx} {pos : Pos}
end

/-! ### what a loop or a comprehension walks -/
/-- at turn i: it yields x (the heap may grow), or it stops -/
structure It where
  go : Nat → Hp → Prop
  yld : Nat → Hp → V → Hp → Prop
  stop : Nat → Hp → Prop
/-- the iterator's own objects may turn: they are not the frame's, not pinned, younger than the entry (or a comprehension's own) -/
def FpOk (X : Cx) (pins : List (Addr × Obj)) (H : Hp) (b : Addr) : Prop :=
  H b = none ∧ b ≠ X.env.locals ∧ b ∉ X.fs ∧ (b ∈ X.ex ∨ X.s₀.heap.objs.size ≤ b) ∧ (∀ x c, X.env.cells.lookup x = some c → c ≠ b) ∧ ∀ p ∈ X.pn ++ pins, p.1 ≠ b
theorem Inv.fpOk {X : Cx} {pins : List (Addr × Obj)} {σ : St} {H H' : Hp} {s : Shared} {b : Addr} (I : Inv X pins σ H s) (hb : s.heap.objs.size ≤ b) (hn : H' b = none) : FpOk X pins H' b := by
  refine ⟨hn, Nat.ne_of_gt (Nat.lt_of_lt_of_le I.lt hb), I.nofs hb, .inr (Nat.le_trans I.sz hb), fun x c e z => ?_, fun p hp z => ?_⟩
  · obtain ⟨v, q⟩ := I.cell x c e
    exact absurd (Nat.lt_of_lt_of_le q.lt (by rw [z]; exact hb)) (Nat.lt_irrefl _)
  · exact absurd (Nat.lt_of_lt_of_le (Heap.lt_size (I.pin p hp).1) (by rw [z]; exact hb)) (Nat.lt_irrefl _)
structure Turn (P : Program) (w : World) (K : PySem.W.Frag) (tg : Expr) (J : It) (fp : List Addr) (it : Addr) (tn : Nat → Heap → Prop) : Prop where
  mem : it ∈ fp
  obj : ∀ i h, tn i h → ∀ b ∈ fp, ∃ o, h.get? b = some o ∧ ∀ v, o.data ≠ .cell v
  keep : ∀ i h h', tn i h → (∀ b ∈ fp, ∀ o, h.get? b = some o → h'.get? b = some o) → tn i h'
  item : ∀ (X : Cx), X.prog = P → X.w = w → X.K = K → X.calm = true → ∀ (i : Nat) (pins : List (Addr × Obj)) (s : Shared) (σ : St) (H : Hp) (E : Value → Shared → Prop), Inv X pins σ H s → (∀ b ∈ fp, FpOk X pins H b) → tn i s.heap → J.go i H →
    wpAny (model P w) X.A (pyNext (.ref it)) (fun r s1 => ∃ u, r = some u ∧
      wpAny (model P w) X.A (letOwnedTupleGo tg (.ref it) u) (fun _ s2 => ∃ x H', Inv X pins σ H' s2 ∧ RelV x u ∧ J.yld i H x H' ∧ tn (i + 1) s2.heap ∧ ∀ b ∈ fp, H' b = none) E s1) E s
  done : ∀ (X : Cx), X.prog = P → X.w = w → X.K = K → X.calm = true → ∀ (i : Nat) (pins : List (Addr × Obj)) (s : Shared) (σ : St) (H : Hp) (E : Value → Shared → Prop), Inv X pins σ H s → (∀ b ∈ fp, FpOk X pins H b) → tn i s.heap → J.stop i H →
    wpAny (model P w) X.A (pyNext (.ref it)) (fun r s1 => r = none ∧ Inv X pins σ H s1) E s
  self : ∀ (A : Around) (i : Nat) (s : Shared) (Q : Value → Shared → Prop) (E : Value → Shared → Prop), tn i s.heap → Q (.ref it) s → wpAny (model P w) A (pyIter (.ref it)) Q E s
abbrev TI := St → Hp → (It → Hp → Prop) → Prop
/-- an iterator has come -/
def PIE (X : Cx) (pins : List (Addr × Obj)) (σ : St) (tg : Expr) (R : It → Hp → Prop) (itv : Value) (s2 : Shared) : Prop :=
  ∃ (it : Addr) (fp : List Addr) (tn : Nat → Heap → Prop) (J : It) (H' : Hp), itv = .ref it ∧ Inv X pins σ H' s2 ∧ Turn X.prog X.w X.K tg J fp it tn ∧ tn 0 s2.heap ∧ (∀ b ∈ fp, FpOk X pins H' b) ∧ R J H'
def PI (X : Cx) (tg iter : Expr) (wi : TI) : Prop :=
  ∀ (pins : List (Addr × Obj)) (s : Shared) (σ : St) (H : Hp) (R : It → Hp → Prop), Inv X pins σ H s → wi σ H R →
    wpAny (model X.prog X.w) X.A (eval iter X.env) (fun v s1 => wpAny (model X.prog X.w) X.A (pyIter v) (PIE X pins σ tg R) X.xe s1) X.xe s

/-- the step ahead of the store is nothing for an iterator that keeps no tuple -/
theorem go_of {M : Model} {A : Around} {E : Value → Shared → Prop} {s : Shared} {tg : Expr} {it : Addr} {u : Value} {o : Obj} {n : String} {vs : Array Value} {Q : Unit → Shared → Prop} (ho : s.heap.get? it = some o) (hc : o.cls = .type n) (hd : o.data = .fields vs)
    (hn : ["enumerate", "zip", "dict_itemiterator", "dict_reverseitemiterator", "odict_iterator", "itertools.zip_longest", "itertools.pairwise"].contains n = false) (hQ : Q () s) : wpAny M A (letOwnedTupleGo tg (.ref it) u) Q E s := by
  unfold letOwnedTupleGo
  cases tg <;> first
    | exact wpAny_pure hQ
    | (cases u <;> first
        | exact wpAny_pure hQ
        | (refine wpAny_bind (wpAny_load ho ?_)
           rw [hc, hd]
           show wpAny M A (if (["enumerate", "zip", "dict_itemiterator", "dict_reverseitemiterator", "odict_iterator", "itertools.zip_longest", "itertools.pairwise"].contains n && vs[0]? == some (rawInt _)) = true then _ else _) Q E s
           rw [if_neg (by intro h; rw [hn, Bool.false_and] at h; cases h)]
           exact wpAny_pure hQ))

/-- the list at a, as it stands at each turn (a loop may append to it) -/
def Itl (K : PySem.W.Frag) (a : Addr) : It :=
  ⟨fun i H => ∃ xs x, SqL K H a xs ∧ xs[i]? = some x, fun i H x H' => H' = H ∧ ∀ xs, SqL K H a xs → xs[i]? = some x, fun i H => ∃ xs, SqL K H a xs ∧ xs.length ≤ i⟩
/-- lo, lo + 1, .. (n of them) -/
def Itr (lo : Int) (n : Nat) : It := ⟨fun i _ => i < n, fun i H x H' => H' = H ∧ x = .int (lo + i), fun i _ => n ≤ i⟩
theorem turn_list {P : Program} {w : World} {K : PySem.W.Frag} {tg : Expr} (a it : Addr) : Turn P w K tg (Itl K a) [it] it (fun i h => h.IsListIter it a i) where
  mem := by simp
  obj := fun i h st b hb => by
    have e : b = it := by simpa using hb
    subst e
    obtain ⟨o, e, c, d⟩ := st
    exact ⟨o, e, fun v z => by rw [d] at z; cases z⟩
  keep := fun i h h' st k => st.at fun o e => k it (by simp) o e
  item := by
    intro X hP hw hK hc i pins s σ H E I hf st hg
    subst hP hw hK
    obtain ⟨xs, x, hq, hx⟩ := hg
    obtain ⟨its, rv, p, hz⟩ := I.list hq
    obtain ⟨u, hu, ru⟩ := rv.get hx
    obtain ⟨f0, f1, f2, f3, f4, f5⟩ := hf it (by simp)
    refine wpAny_pyNext_list_item st p.isList (x := u) (by simpa using hu) fun h' st' sb => ?_
    have I1 : Inv X pins σ H { s with heap := h' } := I.turned (t' := s.toks) (fun b o hb e => (sb.2 b hb).trans e) f0 f1 f3 f4 f5
    obtain ⟨o, e, c, d⟩ := id st'
    exact ⟨u, rfl, go_of (s := { s with heap := h' }) e c d (by decide) ⟨x, H, I1, ru, ⟨rfl, fun ys hy => by rw [I.list_inj hy hq]; exact hx⟩, st', fun b hb => (hf b hb).1⟩⟩
  done := by
    intro X hP hw hK hc i pins s σ H E I hf st hg
    subst hP hw hK
    obtain ⟨xs, hq, hx⟩ := hg
    obtain ⟨its, rv, p, hz⟩ := I.list hq
    obtain ⟨f0, f1, f2, f3, f4, f5⟩ := hf it (by simp)
    have hl := rv.length
    exact wpAny_pyNext_list_end (I.ok.hd hc) st p.isList (by simp; omega) fun h' eb => ⟨rfl, I.turned (t' := s.toks) (fun b o hb e => eb b o hb e) f0 f1 f3 f4 f5⟩
  self := fun _ _ _ _ _ st h => wpAny_pyIter_listiter st h
theorem turn_range {P : Program} {w : World} {K : PySem.W.Frag} {tg : Expr} (it : Addr) (lo : Int) (n : Nat) : Turn P w K tg (Itr lo n) [it] it (fun i h => IsRangeIter h it (lo + (i : Nat) * 1) ((n : Int) - (i : Nat)) 1) where
  mem := by simp
  obj := fun i h st b hb => by
    have e : b = it := by simpa using hb
    subst e
    exact ⟨_, st, fun v z => by
      have z' : Data.fields _ = Data.cell v := z
      cases z'⟩
  keep := fun i h h' st k => k it (by simp) _ st
  item := by
    intro X hP hw hK hc i pins s σ H E I hf st hg
    subst hP hw hK
    obtain ⟨f0, f1, f2, f3, f4, f5⟩ := hf it (by simp)
    have W := Walks.range (prog := X.prog) (w := X.w) (I.ok.hd hc) it lo 1 n
    refine W.item i s _ _ hg st fun v h' tk hv st' kk => ?_
    obtain ⟨t, rfl⟩ := hv
    have I1 : Inv X pins σ H { s with heap := h', toks := tk } := I.turned (fun b o hb e => kk b o (by simpa using hb) e) f0 f1 f3 f4 f5
    refine ⟨_, rfl, go_of (s := { s with heap := h', toks := tk }) (n := "range_iterator") st' rfl rfl (by decide) ⟨.int (lo + i), H, I1, ⟨t, ?_⟩, ⟨rfl, rfl⟩, st', fun b hb => (hf b hb).1⟩⟩
    rw [Int.mul_one]
  done := by
    intro X hP hw hK hc i pins s σ H E I hf st hg
    subst hP hw hK
    obtain ⟨f0, f1, f2, f3, f4, f5⟩ := hf it (by simp)
    exact wpAny_pyNext_range_end (I.ok.hd hc) st (by have : n ≤ i := hg; omega) fun h' eb => ⟨rfl, I.turned (t' := s.toks) (fun b o hb e => eb b o hb e) f0 f1 f3 f4 f5⟩
  self := fun _ _ _ _ _ st h => wpAny_pyIter_rangeiter st h
end L2

namespace L2
open PySem PySem.Spec PyProof.Rows
section
variable {X : Cx} {tg : Expr}
def iList (K : PySem.W.Frag) (tl : TE) : TI := fun σ H R => tl σ H fun x H1 => ∃ a, x = .ref a ∧ (∃ xs, SqL K H1 a xs) ∧ R (Itl K a) H1
theorem pi_list {l : Expr} {tl : TE} (hl : PE X l tl) : PI X tg l (iList X.K tl) := by
  intro pins s σ H R I h
  refine thn (hl pins s σ H _ I h) fun v s1 ⟨x, H1, I1, r1, q1⟩ => ?_
  obtain ⟨a, e, ⟨xs, hq⟩, q⟩ := q1
  subst e
  cases r1
  obtain ⟨its, rv, p, hz⟩ := I1.list hq
  refine wpAny_pyIter_list p.isList ?_
  refine ⟨s1.heap.objs.size, [s1.heap.objs.size], _, _, H1, rfl, I1.kept (t' := s1.toks) fun b o e => Heap.get?_push_of_some _ e, turn_list a _, ⟨_, Heap.get?_push_size _ rfl, rfl, rfl⟩, fun b hb => ?_, q⟩
  have e : b = s1.heap.objs.size := by simpa using hb
  subst e
  exact I1.fpOk (Nat.le_refl _) (I1.hok.fresh (Nat.le_refl _))
/-- a range object just made, walked -/
theorem range_it {pins : List (Addr × Obj)} {σ : St} {H : Hp} {s : Shared} {R : It → Hp → Prop} {E : Value → Shared → Prop} {lo hi : Int} {t u v : Tok} {tk : Nat} (I : Inv X pins σ H s) (h1 : -(2 ^ 62) ≤ lo) (h2 : lo < 2 ^ 62) (h3 : -(2 ^ 62) ≤ hi) (h4 : hi < 2 ^ 62)
    (q : R (Itr lo (hi - lo).toNat) H) : wpAny (model X.prog X.w) X.A (pyIter (.ref s.heap.objs.size)) (PIE X pins σ tg R) E { s with heap := s.heap.push { cls := .type "range", data := .fields #[.int lo t, .int hi u, .int 1 v] }, toks := tk } := by
  refine wpAny_pyIter_range (IsRange.new ..) (small_one h1 h2 h3 h4) ?_
  have I1 : Inv X pins σ H { s with heap := s.heap.push { cls := .type "range", data := .fields #[.int lo t, .int hi u, .int 1 v] }, toks := tk } := I.kept fun b o e => Heap.get?_push_of_some _ e
  refine ⟨(s.heap.push { cls := .type "range", data := .fields #[.int lo t, .int hi u, .int 1 v] }).objs.size, [(s.heap.push { cls := .type "range", data := .fields #[.int lo t, .int hi u, .int 1 v] }).objs.size], _, _, H, rfl,
    I1.kept (t' := tk) fun b o e => Heap.get?_push_of_some _ e, turn_range _ lo (hi - lo).toNat, ?_, fun b hb => ?_, q⟩
  · have e1 : lo + ((0 : Nat) : Int) * 1 = lo := by simp
    have e2 : (((hi - lo).toNat : Nat) : Int) - ((0 : Nat) : Int) = Builtin.Range.rangeSize lo hi 1 := by rw [rangeSize_one]; split <;> omega
    show IsRangeIter _ _ (lo + ((0 : Nat) : Int) * 1) ((((hi - lo).toNat : Nat) : Int) - ((0 : Nat) : Int)) 1
    rw [e1, e2]
    exact Heap.get?_push_size _ rfl
  · have e : b = (s.heap.push { cls := .type "range", data := .fields #[.int lo t, .int hi u, .int 1 v] }).objs.size := by simpa using hb
    subst e
    exact I1.fpOk (Nat.le_refl _) (I1.hok.fresh (Nat.le_refl _))
def iRng1 (ta : TA) : TI := fun σ H R => ta σ H fun vs H1 => ∃ j : Int, vs = [.int j] ∧ -(2 ^ 62) ≤ j ∧ j < 2 ^ 62 ∧ R (Itr 0 j.toNat) H1
theorem pi_range1 {a : Expr} {ta : TA} {p pos : Pos} (hg : Gl X "range") (hm : X.mg "range" = none) (ha : PA X [a] ta) (hs : starEach [a] X.env = [(false, eval a X.env)] := by rfl) : PI X tg (.Call (.Name "range" p) [a] [] pos) (iRng1 ta) := by
  intro pins s σ H R I h
  refine Call_ (ld_blt I hg hm boot_range (PyProof.Rows.callWith_type1 (thn (ha pos pins s σ H _ I h) fun us s1 ⟨vs, H1, I1, r1, q1⟩ => ?_) hs rfl))
  obtain ⟨j, e, q1, q2, q⟩ := q1
  subst e
  cases r1 with
  | cons r rr =>
    cases rr
    obtain ⟨t, rfl⟩ := r
    exact call_range_1 (range_it I1 (by omega) (by omega) q1 q2 (by simpa using q))
/-! ### for -/
/-- W: the invariant by the turn and a measure; N: what the body is to reach -/
def tFor (wi : TI) (g : TG) (tb : TS) : TS := fun D σ H => wi σ H fun J H1 => ∃ W : Nat → Nat → St → Hp → Prop, (∃ m, W 0 m σ H1) ∧ ∀ i m σ H, W i m σ H →
  (J.stop i H ∧ D.nx σ H) ∨ (J.go i H ∧ ∃ N : St → Hp → Prop, (∀ σ' H', N σ' H' → ∃ m', m' < m ∧ W (i + 1) m' σ' H') ∧ ∀ x H', J.yld i H x H' → g x σ H' fun σ2 H2 => tb { D with nx := N, ct := N, bk := D.nx } σ2 H2)
/-- the records at fp as they stand -/
def pinsAt (fp : List Addr) (h : Heap) : List (Addr × Obj) := fp.filterMap fun b => (h.get? b).map fun o => (b, o)
theorem mem_pinsAt {fp : List Addr} {h : Heap} {b : Addr} {o : Obj} (hb : b ∈ fp) (e : h.get? b = some o) : (b, o) ∈ pinsAt fp h := List.mem_filterMap.mpr ⟨b, hb, by rw [e]; rfl⟩
theorem of_pinsAt {fp : List Addr} {h : Heap} {p : Addr × Obj} (hp : p ∈ pinsAt fp h) : p.1 ∈ fp ∧ h.get? p.1 = some p.2 := by
  obtain ⟨b, hb, e⟩ := List.mem_filterMap.mp hp
  cases q : h.get? b with
  | none => rw [q] at e; cases e
  | some o =>
    rw [q] at e
    have e' : (b, o) = p := Option.some.inj e
    subst e'
    exact ⟨hb, q⟩
theorem Inv.pinned {pins : List (Addr × Obj)} {σ : St} {H : Hp} {s : Shared} {fp : List Addr} (I : Inv X pins σ H s) (hf : ∀ b ∈ fp, FpOk X pins H b) (ho : ∀ b ∈ fp, ∃ o, s.heap.get? b = some o ∧ ∀ v, o.data ≠ .cell v) : Inv X (pins ++ pinsAt fp s.heap) σ H s :=
  I.pins_of fun p hp => (List.mem_append.mp hp).elim (fun z => I.pin p (List.mem_append_right _ z)) fun z => by
    obtain ⟨hb, e⟩ := of_pinsAt z
    obtain ⟨f0, f1, f2, _⟩ := hf p.1 hb
    obtain ⟨o, e', d⟩ := ho p.1 hb
    rw [e] at e'; cases e'
    exact ⟨e, f0, f1, f2, d⟩
theorem Inv.unpinned {pins pl : List (Addr × Obj)} {σ : St} {H : Hp} {s : Shared} (I : Inv X (pins ++ pl) σ H s) : Inv X pins σ H s := I.pins_of fun p hp => I.pin p (List.mem_append_right _ (List.mem_append_left _ hp))
theorem ps_for {iter : Expr} {body : List Stmt} {wi : TI} {g : TG} {tb : TS} {pos : Pos} (hp : PassesOwn (model X.prog X.w) X.A X.env X.xe) (hc : X.calm = true) (hi : PI X tg iter wi) (hg : PG X tg g) (hb : PSs X body tb)
    (hs : ∀ x, foldedSetIterable iter X.env x = pure x := by intro _; rfl) : PS X (.For tg iter body [] pos) (tFor wi g tb) := by
  intro pins s σ H D I h
  refine wpAny_For (thn (hi pins s σ H _ I h) fun v s1 h1 => thn h1 fun itv s2 h2 => ?_) hs
  obtain ⟨it, fp, tn, J, H2, e, I2, T, st2, f2, W, ⟨m0, w0⟩, turn⟩ := h2
  subst e
  -- what stays true of the iterator's objects through the loop
  have stat : ∀ {H' : Hp}, (∀ b ∈ fp, H' b = none) → ∀ b ∈ fp, FpOk X pins H' b := fun hn b hb => ⟨hn b hb, (f2 b hb).2⟩
  refine codeAny_forLoop_any (fun n s' => ∃ i σ' H', Inv X pins σ' H' s' ∧ tn i s'.heap ∧ (∀ b ∈ fp, H' b = none) ∧ W i n σ' H') ?_ m0 ⟨0, σ, H2, I2, st2, fun b hb => (f2 b hb).1, w0⟩
  rintro n s3 ⟨i, σ3, H3, I3, st3, fr3, w3⟩
  rcases turn i n σ3 H3 w3 with ⟨stop, qn⟩ | ⟨go, N, hN, step⟩
  · refine wpAny_passesOwn hp (thn (T.done X rfl rfl rfl hc i pins s3 σ3 H3 X.xe I3 (stat fr3) st3 stop) fun r s4 ⟨hr, I4⟩ => ?_)
    subst hr
    exact wpAny_execs_nil ⟨σ3, H3, I4, qn⟩
  · refine wpAny_passesOwn hp (thn (T.item X rfl rfl rfl hc i pins s3 σ3 H3 X.xe I3 (stat fr3) st3 go) fun r s4 ⟨u, hr, h4⟩ => ?_)
    subst hr
    refine wpAny_passesOwn hp (thn h4 fun _ s5 ⟨x, H5, I5, r5, y5, st5, fr5⟩ => ?_)
    have I5' := I5.pinned (stat fr5) (T.obj _ _ st5)
    refine wpAny_passesOwn hp (thn (hg _ s5 σ3 H5 x u _ I5' r5 (step x H5 y5)) fun _ s6 ⟨σ6, H6, I6, q6⟩ => ?_)
    refine wpAny_passesOwn hp (thn (hb _ s6 σ6 H6 _ I6 q6) fun f s7 q7 => ?_)
    have again : ∀ {σ7 : St} {H7 : Hp}, Inv X (pins ++ pinsAt fp s5.heap) σ7 H7 s7 → N σ7 H7 → ∃ m, m < n ∧ ∃ i σ' H', Inv X pins σ' H' s7 ∧ tn i s7.heap ∧ (∀ b ∈ fp, H' b = none) ∧ W i m σ' H' := fun {σ7 H7} I7 n7 => by
      obtain ⟨m', hm, w7⟩ := hN σ7 H7 n7
      refine ⟨m', hm, i + 1, σ7, H7, I7.unpinned, T.keep _ _ _ st5 fun b hb o e => (I7.pin (b, o) (List.mem_append_right _ (List.mem_append_right _ (mem_pinsAt hb e)))).1, fun b hb => ?_, w7⟩
      obtain ⟨o, e, d⟩ := T.obj _ _ st5 b hb
      exact (I7.pin (b, o) (List.mem_append_right _ (List.mem_append_right _ (mem_pinsAt hb e)))).2.1
    cases f with
    | next => obtain ⟨σ7, H7, I7, n7⟩ := q7; exact again I7 n7
    | cont => obtain ⟨σ7, H7, I7, n7⟩ := q7; exact again I7 n7
    | brk => obtain ⟨σ7, H7, I7, q7⟩ := q7; exact ⟨σ7, H7, I7.unpinned, q7⟩
    | ret v => obtain ⟨x7, σ7, H7, I7, r7, q7⟩ := q7; exact ⟨x7, σ7, H7, I7.unpinned, r7, q7⟩
end

/-! ### the forms one uses -/
/-- over a list that the body leaves as it is -/
theorem for_list {K : PySem.W.Frag} {a : Addr} {xs : List V} {g : TG} {tb : TS} {D : Ends} {σ : St} {H : Hp} (Pv : Nat → St → Hp → Prop) (h0 : Pv 0 σ H) (hl : ∀ i σ H, i ≤ xs.length → Pv i σ H → SqL K H a xs)
    (hs : ∀ i x σ H, xs[i]? = some x → Pv i σ H → g x σ H fun σ2 H2 => tb { D with nx := Pv (i + 1), ct := Pv (i + 1), bk := D.nx } σ2 H2) (hd : ∀ σ H, Pv xs.length σ H → D.nx σ H) :
    ∃ W : Nat → Nat → St → Hp → Prop, (∃ m, W 0 m σ H) ∧ ∀ i m σ H, W i m σ H →
      ((Itl K a).stop i H ∧ D.nx σ H) ∨ ((Itl K a).go i H ∧ ∃ N : St → Hp → Prop, (∀ σ' H', N σ' H' → ∃ m', m' < m ∧ W (i + 1) m' σ' H') ∧ ∀ x H', (Itl K a).yld i H x H' → g x σ H' fun σ2 H2 => tb { D with nx := N, ct := N, bk := D.nx } σ2 H2) := by
  refine ⟨fun i m σ H => m = xs.length - i ∧ i ≤ xs.length ∧ Pv i σ H, ⟨xs.length, by simp, Nat.zero_le _, h0⟩, ?_⟩
  rintro i m σ H ⟨rfl, hi, p⟩
  have q := hl i σ H hi p
  by_cases hlt : i < xs.length
  · refine .inr ⟨⟨xs, xs[i], q, by simp [hlt]⟩, Pv (i + 1), fun σ' H' p' => ⟨xs.length - (i + 1), by omega, rfl, hlt, p'⟩, fun x H' y => ?_⟩
    obtain ⟨e, y⟩ := y
    subst e
    exact hs i x σ _ (y xs q) p
  · have e : i = xs.length := by omega
    subst e
    exact .inl ⟨⟨xs, q, Nat.le_refl _⟩, hd σ H p⟩
theorem for_range {lo : Int} {n : Nat} {g : TG} {tb : TS} {D : Ends} {σ : St} {H : Hp} (Pv : Nat → St → Hp → Prop) (h0 : Pv 0 σ H)
    (hs : ∀ i σ H, i < n → Pv i σ H → g (.int (lo + i)) σ H fun σ2 H2 => tb { D with nx := Pv (i + 1), ct := Pv (i + 1), bk := D.nx } σ2 H2) (hd : ∀ σ H, Pv n σ H → D.nx σ H) :
    ∃ W : Nat → Nat → St → Hp → Prop, (∃ m, W 0 m σ H) ∧ ∀ i m σ H, W i m σ H →
      ((Itr lo n).stop i H ∧ D.nx σ H) ∨ ((Itr lo n).go i H ∧ ∃ N : St → Hp → Prop, (∀ σ' H', N σ' H' → ∃ m', m' < m ∧ W (i + 1) m' σ' H') ∧ ∀ x H', (Itr lo n).yld i H x H' → g x σ H' fun σ2 H2 => tb { D with nx := N, ct := N, bk := D.nx } σ2 H2) := by
  refine ⟨fun i m σ H => m = n - i ∧ i ≤ n ∧ Pv i σ H, ⟨n, by simp, Nat.zero_le _, h0⟩, ?_⟩
  rintro i m σ H ⟨rfl, hi, p⟩
  by_cases hlt : i < n
  · refine .inr ⟨hlt, Pv (i + 1), fun σ' H' p' => ⟨n - (i + 1), by omega, rfl, hlt, p'⟩, fun x H' y => ?_⟩
    obtain ⟨e, y⟩ := y
    subst e y
    exact hs i σ _ hlt p
  · have e : i = n := by omega
    subst e
    exact .inl ⟨Nat.le_refl _, hd σ H p⟩
end L2

namespace L2
open PySem PySem.Spec PyProof.Rows

abbrev R2 := V → V → Hp → VK → Prop
/-- a two-place operation on values: f is binaryOp op, inplaceOp op or compareOp op -/
def OpR (X : Cx) (f : Value → Value → Sem Value) (r : R2) : Prop :=
  ∀ (pins : List (Addr × Obj)) (s : Shared) (σ : St) (H : Hp) (x y : V) (v u : Value) (Q : VK), Inv X pins σ H s → RelV x v → RelV y u → r x y H Q →
    wpAny (model X.prog X.w) X.A (f v u) (EP X pins σ Q) X.xe s
/-- a one-place operation -/
def UnR (X : Cx) (f : Value → Sem Value) (r : V → Hp → VK → Prop) : Prop :=
  ∀ (pins : List (Addr × Obj)) (s : Shared) (σ : St) (H : Hp) (x : V) (v : Value) (Q : VK), Inv X pins σ H s → RelV x v → r x H Q →
    wpAny (model X.prog X.w) X.A (f v) (EP X pins σ Q) X.xe s
/-- a call of a value that is known (a builtin, a type) with values -/
def CallR (X : Cx) (f : Value) (r : List V → Hp → VK → Prop) : Prop :=
  ∀ (pins : List (Addr × Obj)) (s : Shared) (σ : St) (H : Hp) (xs : List V) (us : List Value) (Q : VK), Inv X pins σ H s → Vals xs us → r xs H Q →
    wpAny (model X.prog X.w) X.A (call f us) (EP X pins σ Q) X.xe s
def tOp (r : R2) (ta tb : TE) : TE := fun σ H Q => ta σ H fun x H1 => tb σ H1 fun y H2 => r x y H2 Q
def tUn (r : V → Hp → VK → Prop) (ta : TE) : TE := fun σ H Q => ta σ H fun x H1 => r x H1 Q
/-- ints in, under C, and a value out -/
def rI (C : Int → Int → Prop) (g : Int → Int → V) : R2 := fun x y H Q => ∃ i j, x = .int i ∧ y = .int j ∧ C i j ∧ Q (g i j) H
def rI0 (g : Int → Int → V) : R2 := fun x y H Q => ∃ i j, x = .int i ∧ y = .int j ∧ Q (g i j) H
def rU (g : Int → V) : V → Hp → VK → Prop := fun x H Q => ∃ i, x = .int i ∧ Q (g i) H

section
variable {X : Cx} {a b c : Expr} {ta tb tc : TE} {pos : Pos}

theorem binT (ha : PE X a ta) (hb : PE X b tb) {pins : List (Addr × Obj)} {s : Shared} {σ : St} {H : Hp} {R : V → V → Hp → Prop} (I : Inv X pins σ H s)
    (h : ta σ H fun x H1 => tb σ H1 fun y H2 => R x y H2) {Q : Value → Shared → Prop} {f : Value → Value → Sem Value}
    (hf : ∀ v u s2 x y H2, Inv X pins σ H2 s2 → RelV x v → RelV y u → R x y H2 → wpAny (model X.prog X.w) X.A (f v u) Q X.xe s2) :
    wpAny (model X.prog X.w) X.A (eval a X.env) (fun v s₁ => wpAny (model X.prog X.w) X.A (eval b X.env) (fun u s₂ => wpAny (model X.prog X.w) X.A (f v u) Q X.xe s₂) X.xe s₁) X.xe s := by
  refine thn (ha pins s σ H _ I h) fun v s1 ⟨x, H1, I1, r1, q1⟩ => ?_
  refine thn (hb pins s1 σ H1 _ I1 q1) fun u s2 ⟨y, H2, I2, r2, q2⟩ => ?_
  exact hf v u s2 x y H2 I2 r1 r2 q2

theorem pe_op {op : Operator} {r : R2} (ho : OpR X (binaryOp op) r) (ha : PE X a ta) (hb : PE X b tb) : PE X (.BinOp a op b pos) (tOp r ta tb) := by
  intro pins s σ H Q I h
  exact wpAny_BinOp (binT ha hb I h fun v u s2 x y H2 I2 rx ry q => ho pins s2 σ H2 x y v u Q I2 rx ry q)
theorem pe_un {op : UnaryOp} {r : V → Hp → VK → Prop} (ho : UnR X (unaryOp op) r) (ha : PE X a ta) : PE X (.UnaryOp op a pos) (tUn r ta) := by
  intro pins s σ H Q I h
  exact UnaryOp_ (thn (ha pins s σ H _ I h) fun v s1 ⟨x, H1, I1, r1, q1⟩ => ho pins s1 σ H1 x v Q I1 r1 q1)
/-! ### ints -/
theorem opI {f : Value → Value → Sem Value} {C : Int → Int → Prop} {g : Int → Int → Int}
    (rule : ∀ (i j : Int) (t u : Tok) (s : Shared) (Q : Value → Shared → Prop) (E : Value → Shared → Prop), C i j → Q (.int (g i j) s.toks) { s with toks := s.toks + 1 } → wpAny (model X.prog X.w) X.A (f (.int i t) (.int j u)) Q E s) :
    OpR X f (rI C fun i j => .int (g i j)) := by
  intro pins s σ H x y v u Q I rx ry h
  obtain ⟨i, j, rfl, rfl, hc, q⟩ := h
  obtain ⟨t, rfl⟩ := rx
  obtain ⟨t', rfl⟩ := ry
  exact rule i j t t' s _ _ hc ⟨.int (g i j), H, I.tok _, ⟨_, rfl⟩, q⟩
theorem opI0 {f : Value → Value → Sem Value} {g : Int → Int → Int}
    (rule : ∀ (i j : Int) (t u : Tok) (s : Shared) (Q : Value → Shared → Prop) (E : Value → Shared → Prop), Q (.int (g i j) s.toks) { s with toks := s.toks + 1 } → wpAny (model X.prog X.w) X.A (f (.int i t) (.int j u)) Q E s) :
    OpR X f (rI0 fun i j => .int (g i j)) := by
  intro pins s σ H x y v u Q I rx ry h
  obtain ⟨i, j, rfl, rfl, q⟩ := h
  obtain ⟨t, rfl⟩ := rx
  obtain ⟨t', rfl⟩ := ry
  exact rule i j t t' s _ _ ⟨.int (g i j), H, I.tok _, ⟨_, rfl⟩, q⟩
theorem opB0 {f : Value → Value → Sem Value} {g : Int → Int → Bool}
    (rule : ∀ (i j : Int) (t u : Tok) (s : Shared) (Q : Value → Shared → Prop) (E : Value → Shared → Prop), Q (.bool (g i j)) s → wpAny (model X.prog X.w) X.A (f (.int i t) (.int j u)) Q E s) :
    OpR X f (rI0 fun i j => .bl (g i j)) := by
  intro pins s σ H x y v u Q I rx ry h
  obtain ⟨i, j, rfl, rfl, q⟩ := h
  obtain ⟨t, rfl⟩ := rx
  obtain ⟨t', rfl⟩ := ry
  exact rule i j t t' s _ _ ⟨.bl (g i j), H, I, rfl, q⟩

def CDiv (i j : Int) : Prop := 0 < j ∧ j < 1073741824
def CPow (i j : Int) : Prop := 0 ≤ j ∧ j ≤ 1000000 ∧ i.natAbs < 2 ^ 64
def CMul (i j : Int) : Prop := (-(2 ^ 64) < i ∧ i < 2 ^ 64) ∨ (-(2 ^ 64) < j ∧ j < 2 ^ 64)
theorem CMul.ok {i j : Int} (h : CMul i j) : IntMulOk i j := by
  rcases h with ⟨h1, h2⟩ | ⟨h1, h2⟩
  · exact .of_left (intBits_le_64 h1 h2)
  · exact .of_right (intBits_le_64 h1 h2)
theorem op_add : OpR X (binaryOp .Add) (rI0 fun i j => .int (i + j)) := opI0 fun _ _ _ _ _ _ _ q => add_int q
theorem op_sub : OpR X (binaryOp .Sub) (rI0 fun i j => .int (i - j)) := opI0 fun _ _ _ _ _ _ _ q => sub_int q
theorem op_mul : OpR X (binaryOp .Mult) (rI CMul fun i j => .int (i * j)) := opI fun _ _ _ _ _ _ _ hc q => mul_int q hc.ok
/-- // by a positive divisor -/
theorem op_fdiv : OpR X (binaryOp .FloorDiv) (rI CDiv fun i j => .int (i / j)) := opI fun i j _ _ _ _ _ hc q => by
  have h1 : (0 : Int) < j := hc.1
  have h2 : j < 1073741824 := hc.2
  exact floordiv_int (by omega) (by rw [Int.fdiv_eq_ediv_of_nonneg i (by omega)]; exact q) (.inl (PyProof.noPylong_small (by omega)))
/-- % by a positive divisor of any size -/
theorem op_mod : OpR X (binaryOp .Mod) (rI (fun _ j => 0 < j) fun i j => .int (i % j)) := opI fun i j _ _ _ _ _ hc q => by
  have h1 : (0 : Int) < j := hc
  exact mod_int' (by omega) (by rw [Int.fmod_eq_emod_of_nonneg i (by omega)]; exact q)
theorem op_pow : OpR X (binaryOp .Pow) (rI CPow fun i j => .int (i ^ j.toNat)) := opI fun _ _ _ _ _ _ _ hc q => pow_int_small hc.1 hc.2.1 hc.2.2 q
theorem unI {f : Value → Sem Value} {g : Int → Int}
    (rule : ∀ (i : Int) (t : Tok) (s : Shared) (Q : Value → Shared → Prop) (E : Value → Shared → Prop), Q (.int (g i) s.toks) { s with toks := s.toks + 1 } → wpAny (model X.prog X.w) X.A (f (.int i t)) Q E s) :
    UnR X f (rU fun i => .int (g i)) := by
  intro pins s σ H x v Q I rx h
  obtain ⟨i, rfl, q⟩ := h
  obtain ⟨t, rfl⟩ := rx
  exact rule i t s _ _ ⟨.int (g i), H, I.tok _, ⟨_, rfl⟩, q⟩
theorem un_neg : UnR X (unaryOp .USub) (rU fun i => .int (-i)) := unI fun _ _ _ _ _ q => neg_int q
/-! ### bools among ints: n += (a < b) -/
end

/-! ### comparisons -/
/-- the scalars that == tells apart as data does -/
def scal : V → V → Bool
  | .non, .non => true | .non, .int _ => true | .int _, .non => true | .non, .bl _ => true | .bl _, .non => true | .non, .str _ => true | .str _, .non => true
  | .int _, .int _ => true | .bl _, .bl _ => true | .str _, .str _ => true | .byt _, .byt _ => true
  | .int _, .str _ => true | .str _, .int _ => true | .bl _, .str _ => true | .str _, .bl _ => true
  | _, _ => false
def rEq : R2 := fun x y H Q => scal x y = true ∧ Q (.bl (decide (x = y))) H
def rNe : R2 := fun x y H Q => scal x y = true ∧ Q (.bl (!decide (x = y))) H

theorem dec_int {i j : Int} : decide (V.int i = V.int j) = (i == j) := by
  rw [Bool.eq_iff_iff]
  simp
theorem dec_bl {i j : Bool} : decide (V.bl i = V.bl j) = (i == j) := by
  rw [Bool.eq_iff_iff]
  simp
theorem dec_str {i j : Str} : decide (V.str i = V.str j) = (i == j) := by
  rw [Bool.eq_iff_iff]
  simp
theorem dec_byt {i j : Array UInt8} : decide (V.byt i = V.byt j) = (i.toList == j.toList) := by
  rw [Bool.eq_iff_iff]
  cases i
  cases j
  simp

section
variable {X : Cx} {a b c : Expr} {ta tb tc : TE} {pos : Pos}
theorem fin_bl {pins : List (Addr × Obj)} {σ : St} {H : Hp} {s : Shared} {Q : VK} {k k' : Bool} (I : Inv X pins σ H s) (q : Q (.bl k) H) (e : k = k') : EP X pins σ Q (.bool k') s := by
  subst e
  exact ⟨.bl k, H, I, rfl, q⟩
theorem op_eq : OpR X (compareOp .Eq) rEq := by
  intro pins s σ H x y v u Q I rx ry h
  obtain ⟨hs, q⟩ := h
  cases x with
  | non =>
    cases rx
    cases y with
    | non => cases ry; exact PySem.EqNone.eq_none_none (fin_bl I q (by simp))
    | bl j => cases ry; exact PySem.EqNone.eq_none_bool (fin_bl I q (by simp))
    | int j => obtain ⟨t', rfl⟩ := ry; exact PySem.EqNone.eq_none_int (fin_bl I q (by simp))
    | str j => obtain ⟨t', rfl⟩ := ry; exact PySem.EqNone.eq_none_str (fin_bl I q (by simp))
    | _ => exact absurd (show false = true from hs) Bool.false_ne_true
  | bl i =>
    cases rx
    cases y with
    | non => cases ry; exact PySem.EqNone.eq_bool_none (fin_bl I q (by simp))
    | bl j => cases ry; exact eq_bool (fin_bl I q dec_bl)
    | str j => obtain ⟨t', rfl⟩ := ry; exact PySem.EqMixed.eq_bool_str (fin_bl I q (by simp))
    | _ => exact absurd (show false = true from hs) Bool.false_ne_true
  | int i =>
    obtain ⟨t, rfl⟩ := rx
    cases y with
    | non => cases ry; exact PySem.EqNone.eq_int_none (fin_bl I q (by simp))
    | int j => obtain ⟨t', rfl⟩ := ry; exact eq_int (fin_bl I q dec_int)
    | str j => obtain ⟨t', rfl⟩ := ry; exact PySem.EqMixed.eq_int_str (fin_bl I q (by simp))
    | _ => exact absurd (show false = true from hs) Bool.false_ne_true
  | str i =>
    obtain ⟨t, rfl⟩ := rx
    cases y with
    | non => cases ry; exact PySem.EqNone.eq_str_none (fin_bl I q (by simp))
    | bl j => cases ry; exact PySem.EqMixed.eq_str_bool (fin_bl I q (by simp))
    | int j => obtain ⟨t', rfl⟩ := ry; exact PySem.EqMixed.eq_str_int (fin_bl I q (by simp))
    | str j => obtain ⟨t', rfl⟩ := ry; exact eq_str (fin_bl I q dec_str)
    | _ => exact absurd (show false = true from hs) Bool.false_ne_true
  | byt i =>
    obtain ⟨t, rfl⟩ := rx
    cases y with
    | byt j => obtain ⟨t', rfl⟩ := ry; exact PySem.W.eq_bytes (fin_bl I q dec_byt)
    | _ => exact absurd (show false = true from hs) Bool.false_ne_true
  | _ => cases y <;> exact absurd (show false = true from hs) Bool.false_ne_true
theorem op_ne : OpR X (compareOp .NotEq) rNe := by
  intro pins s σ H x y v u Q I rx ry h
  obtain ⟨hs, q⟩ := h
  cases x with
  | non =>
    cases rx
    cases y with
    | non => cases ry; exact PySem.EqNone.ne_none_none (fin_bl I q (by simp))
    | bl j => cases ry; exact PySem.EqNone.ne_none_bool (fin_bl I q (by simp))
    | int j => obtain ⟨t', rfl⟩ := ry; exact PySem.EqNone.ne_none_int (fin_bl I q (by simp))
    | str j => obtain ⟨t', rfl⟩ := ry; exact PySem.EqNone.ne_none_str (fin_bl I q (by simp))
    | _ => exact absurd (show false = true from hs) Bool.false_ne_true
  | bl i =>
    cases rx
    cases y with
    | non => cases ry; exact PySem.EqNone.ne_bool_none (fin_bl I q (by simp))
    | bl j => cases ry; exact ne_bool (fin_bl I q (congrArg not dec_bl))
    | str j => obtain ⟨t', rfl⟩ := ry; exact PySem.EqMixed.ne_bool_str (fin_bl I q (by simp))
    | _ => exact absurd (show false = true from hs) Bool.false_ne_true
  | int i =>
    obtain ⟨t, rfl⟩ := rx
    cases y with
    | non => cases ry; exact PySem.EqNone.ne_int_none (fin_bl I q (by simp))
    | int j => obtain ⟨t', rfl⟩ := ry; exact ne_int (fin_bl I q (congrArg not dec_int))
    | str j => obtain ⟨t', rfl⟩ := ry; exact PySem.EqMixed.ne_int_str (fin_bl I q (by simp))
    | _ => exact absurd (show false = true from hs) Bool.false_ne_true
  | str i =>
    obtain ⟨t, rfl⟩ := rx
    cases y with
    | non => cases ry; exact PySem.EqNone.ne_str_none (fin_bl I q (by simp))
    | bl j => cases ry; exact PySem.EqMixed.ne_str_bool (fin_bl I q (by simp))
    | int j => obtain ⟨t', rfl⟩ := ry; exact PySem.EqMixed.ne_str_int (fin_bl I q (by simp))
    | str j => obtain ⟨t', rfl⟩ := ry; exact ne_str (fin_bl I q (congrArg not dec_str))
    | _ => exact absurd (show false = true from hs) Bool.false_ne_true
  | byt i =>
    obtain ⟨t, rfl⟩ := rx
    cases y with
    | byt j => obtain ⟨t', rfl⟩ := ry; exact PySem.W.ne_bytes (fin_bl I q (congrArg not dec_byt))
    | _ => exact absurd (show false = true from hs) Bool.false_ne_true
  | _ => cases y <;> exact absurd (show false = true from hs) Bool.false_ne_true

theorem op_lt : OpR X (compareOp .Lt) (rI0 fun i j => .bl (decide (i < j))) := opB0 fun _ _ _ _ _ _ _ q => lt_int q
theorem op_le : OpR X (compareOp .LtE) (rI0 fun i j => .bl (decide (i ≤ j))) := opB0 fun _ _ _ _ _ _ _ q => le_int q
theorem op_gt : OpR X (compareOp .Gt) (rI0 fun i j => .bl (decide (j < i))) := opB0 fun _ _ _ _ _ _ _ q => gt_int q
theorem op_ge : OpR X (compareOp .GtE) (rI0 fun i j => .bl (decide (j ≤ i))) := opB0 fun _ _ _ _ _ _ _ q => ge_int q
/-- is None, is not None: the right side a value none -/
theorem op_isN : OpR X (compareOp .Is) (fun x y H Q => y = .non ∧ Q (.bl (decide (x = .non))) H) := by
  intro pins s σ H x y v u Q I rx ry h
  obtain ⟨rfl, q⟩ := h
  cases ry
  refine is_none_gen (fin_bl I q ?_)
  cases x <;> first
    | (cases rx; rfl)
    | (obtain ⟨t, rfl⟩ := rx; rfl)
theorem op_notN : OpR X (compareOp .IsNot) (fun x y H Q => y = .non ∧ Q (.bl (!decide (x = .non))) H) := by
  intro pins s σ H x y v u Q I rx ry h
  obtain ⟨rfl, q⟩ := h
  cases ry
  refine isnot_none_gen (fin_bl I q ?_)
  cases x <;> first
    | (cases rx; rfl)
    | (obtain ⟨t, rfl⟩ := rx; rfl)

theorem nomark (b : Expr) {op : CmpOp} (h : op ≠ .In := by decide) (h2 : op ≠ .NotIn := by decide) : behindInMarks op b = false := by
  have e1 : (op == CmpOp.In) = false := by cases op <;> first | rfl | exact absurd rfl h
  have e2 : (op == CmpOp.NotIn) = false := by cases op <;> first | rfl | exact absurd rfl h2
  cases b <;> simp [behindInMarks, e1, e2]
/-- a comparison as a value; hm: nomark b, or (for in, not in) by with_unfolding_all rfl -/
theorem pe_cmpR {op : CmpOp} {r : R2} (ho : OpR X (compareOp op) r) (ha : PE X a ta) (hb : PE X b tb) (hm : behindInMarks op b = false) : PE X (.Compare a [op] [b] pos) (tOp r ta tb) := by
  intro pins s σ H Q I h
  exact wpAny_Compare1 (binT ha hb I h fun v u s2 x y H2 I2 rx ry q => ho pins s2 σ H2 x y v u Q I2 rx ry q) hm
/-- a reading of a value as a test -/
def tTest (t : TE) : TT := fun σ H Q => t σ H fun x H' => ∃ k, x = .bl k ∧ Q k H'
theorem pt_cmpR {op : CmpOp} {r : R2} (ho : OpR X (compareOp op) r) (ha : PE X a ta) (hb : PE X b tb) (hm : behindInMarks op b = false) : PT X (.Compare a [op] [b] pos) (tTest (tOp r ta tb)) := by
  intro pins s σ H Q I h
  refine wpAny_isTrue_Compare1 (thn (ha pins s σ H _ I h) fun v s1 ⟨x, H1, I1, r1, q1⟩ => thn (hb pins s1 σ H1 _ I1 q1) fun u s2 ⟨y, H2, I2, r2, q2⟩ =>
    thn (ho pins s2 σ H2 x y v u _ I2 r1 r2 q2) fun c s3 ⟨z, H3, I3, r3, k, e, q3⟩ => ?_) hm
  subst e
  cases r3
  exact wpAny_truthy_bool ⟨H3, I3, q3⟩
/-! ### truth -/
theorem line63 : (sizeLine : Nat) < 2 ^ 63 := by rw [sizeLine_eq]; decide
/-! ### strs and bytes -/
/-! ### scalar builtins, by CallR -/
theorem vals1 {x : V} {us : List Value} (r : Vals [x] us) : ∃ u, us = [u] ∧ RelV x u := by
  cases r with
  | cons r1 r2 => cases r2; exact ⟨_, rfl, r1⟩
theorem vals2 {x y : V} {us : List Value} (r : Vals [x, y] us) : ∃ u w', us = [u, w'] ∧ RelV x u ∧ RelV y w' := by
  cases r with
  | cons r1 r2 =>
    cases r2 with
    | cons r3 r4 => cases r4; exact ⟨_, _, rfl, r1, r3⟩
theorem call_min2 (hc : X.calm = true) : CallR X (.builtin "min") (fun xs H Q => ∃ i j, xs = [.int i, .int j] ∧ Q (.int (if j < i then j else i)) H) := by
  intro pins s σ H xs us Q I r h
  obtain ⟨i, j, rfl, q⟩ := h
  obtain ⟨u, w', rfl, ⟨t, rfl⟩, ⟨t', rfl⟩⟩ := vals2 r
  refine min_two_ints (I.ok.hd hc) fun h' tk k => ⟨_, H, I.kept k, ?_, q⟩
  by_cases hj : j < i
  · rw [if_pos hj, if_pos hj]; exact ⟨_, rfl⟩
  · rw [if_neg hj, if_neg hj]; exact ⟨_, rfl⟩
end
end L2

namespace L2
open PySem PySem.Spec PyProof.Rows

/-! ### an instance, its attributes a map -/
structure ObjM (h : Heap) (x dx C : Addr) (mA : Str → Option Value) : Prop where
  obj : h.get? x = some (PySem.W.instObj C dx)
  ns : h.Ns1 dx mA
  ne : dx ≠ x

theorem lookIn_ns {h : Heap} {dx : Addr} {mA : Str → Option Value} (n : h.Ns1 dx mA) : ∃ od, h.get? dx = some od ∧ ∀ name, PySem.W.lookIn name od = some (mA name) := by
  obtain ⟨o, es, ep, ho, hd, hk, _, hm⟩ := n
  refine ⟨o, ho, fun name => ?_⟩
  have e := hm name
  unfold nsFind findBy at e
  rw [← Array.find?_toList] at e
  unfold PySem.W.lookIn
  rw [hd]
  dsimp only
  split
  · rename_i y q
    rw [q] at e
    exact congrArg some e
  · rename_i q
    rw [q] at e
    have a : es.toList.any (·.refKey) = false := by
      rw [List.any_eq_false]
      intro y hy
      obtain ⟨z, t, hkey⟩ := hk y (Array.mem_toList_iff.mp hy)
      simp [DictEntry.refKey, hkey]
    have a' : ¬ es.toList.any (·.refKey) = true := by rw [a]; exact Bool.false_ne_true
    rw [if_neg a']
    exact congrArg some e

theorem ObjM.look {h : Heap} {x dx C : Addr} {mA : Str → Option Value} (I : ObjM h x dx C mA) : ∃ od, PySem.W.InstAt h x (PySem.W.instObj C dx) C (some od) ∧ ∀ name, PySem.W.lookIn name od = some (mA name) :=
  let ⟨od, ho, hl⟩ := lookIn_ns I.ns
  ⟨od, ⟨I.obj, rfl, rfl, ho⟩, hl⟩

section
variable {prog : Program} {w : World} {A : Around} {E : Value → Shared → Prop} {s : Shared} {K : PySem.W.Frag} {x dx C f : Addr} {mA : Str → Option Value} {name : Str} {v : Value}

theorem get_map {expr : Bool} {Q : Value → Shared → Prop} (X : K.In s.heap) (I : ObjM s.heap x dx C mA) (hg : PySem.W.plainGet K C name = true) (hh : PySem.W.hasDictIn K C = true)
    (ha : PySem.W.findIn K (.ref C) name = some none) (hv : mA name = some v) (hv' : PySem.W.handedIn v = true) (h : Q v { s with toks := s.toks + 1 }) :
    wpAny (model prog w) A (getAttr (.ref x) name expr) Q E s := by
  obtain ⟨od, J, hl⟩ := I.look
  exact PySem.W.get_value X J (PySem.W.plainGet_of hg).1 (PySem.W.findObj_own hh ha rfl (by rw [hl, hv])) hv' h

theorem get_meth {pl : Sem Bool} {Q : Value × List Value → Shared → Prop} (X : K.In s.heap) (I : ObjM s.heap x dx C mA) (hg : PySem.W.plainGet K C name = true)
    (hf : PySem.W.findIn K (.ref C) name = some (some (.ref f))) (ht : PySem.W.isFn K (.ref f) = true) (hv : mA name = none) (h : Q (.ref f, [.ref x]) s) :
    wpAny (model prog w) A (getMethod (.ref x) name pl) Q E s := by
  obtain ⟨od, J, hl⟩ := I.look
  exact PySem.W.method_fn X J (PySem.W.plainGet_of hg).1 (PySem.W.plainGet_of hg).2 hf (beq_iff_eq.mp ht) (by show (PySem.W.lookIn name od).map (·.isSome) = some false; rw [hl, hv]; rfl) h

theorem set_map {ns : List Str} {Q : Unit → Shared → Prop} (X : K.In s.heap) (I : ObjM s.heap x dx C mA)
    (hs : PySem.W.findIn K (.ref C) "__setattr__" = some (some (.builtin "object.__setattr__"))) (hp : PySem.W.plainOver K C = true) (ht : PySem.W.takerIn K C name = some none) (hh : PySem.W.hasDictIn K C = true)
    (hw : PySem.Within mA ns) (hsz : ns.length ≤ sizeLine)
    (h : ∀ h', ObjM h' x dx C (fun y => if y = name then some v else mA y) → Heap.SameBut dx s.heap h' → Q () { s with heap := h', toks := s.toks + 2 }) :
    wpAny (model prog w) A (setAttr (.ref x) name v) Q E s := by
  obtain ⟨od, J, hl⟩ := I.look
  refine PySem.W.set_plain X J hs (PySem.W.osa_open (s := { s with toks := s.toks + 1 }) (r := none) X J hp ht fun b => ?_)
  obtain ⟨cd, hc, hd'⟩ := PySem.W.any_some hh
  have hx : s.heap.get? x = some ⟨.ref C, some dx, .plain, #[]⟩ := I.obj
  refine wpAny_bind (wpAny_pure (wpAny_bind (wpAny_bind (wpAny_loadPart hx (wpAny_bind (PySem.W.Looks.here (s := { s with toks := s.toks + 1 }) (PySem.W.looks_clsIn X hc) ?_))))))
  rw [hd']
  refine wpAny_pure (a := some dx) (wpAny_bind (wpAny_pure (wpAny_bind ?_)))
  refine wpAny_nsSet1 (s := { s with toks := s.toks + 1 }) I.ns fun h' hn2 hs2 => ?_
  obtain ⟨oD, esD, epD, hoD, hdD, hcD⟩ := hn2.count (PySem.Within.cons name v hw)
  refine wpAny_bind (wpAny_lookBehind hoD (by rw [hdD]; exact pastItsLine_dict (Nat.le_trans hcD (by rw [List.length_cons]; omega))) ?_)
  exact wpAny_pure (h _ ⟨(hs2.2 _ (Ne.symm I.ne)).trans I.obj, hn2, I.ne⟩ hs2)

/-- C(..): the dict at the heap's end, the instance behind it; then its __init__ -/
theorem make_map {R : Result → Shared → Prop} {vs : List Value} {kw : List (Str × Value)} (X : K.In s.heap) (hm : PySem.W.makesIn K C = true)
    (hi : PySem.W.findIn K (.ref C) "__init__" = some (some (.ref f))) (hf : PySem.W.typeIn K (.ref f) = some (.type "function"))
    (h : codeAny (model prog w) (A.under (.builtin "type.__call__" ⟨.ref C :: vs, kw⟩)) (.call (.ref f) ⟨.ref (s.heap.objs.size + 1) :: vs, kw⟩) (PySem.W.InitBack (s.heap.objs.size + 1) R)
      { s with heap := (s.heap.push PySem.W.emptyDict).push (PySem.W.instObj C s.heap.objs.size) }) :
    codeAny (model prog w) A (.call (.ref C) ⟨vs, kw⟩) R s := by
  obtain ⟨hh, g, d, t, os⟩ := s
  exact PySem.W.make_core (PySem.W.makes_of X hm) (PySem.W.looks_findIn X hi) (fun self => PySem.W.bind_fn X self hf) (.inl rfl) h
end

/-! ### the attributes as a list of pairs -/
def putF (f : Str) (v : V) : List (Str × V) → List (Str × V)
  | [] => [(f, v)]
  | (g, x) :: r => if g = f then (g, v) :: r else (g, x) :: putF f v r
theorem lookup_putF (f g : Str) (v : V) : ∀ fs : List (Str × V), (putF f v fs).lookup g = if g = f then some v else fs.lookup g
  | [] => by
    show List.lookup g [(f, v)] = _
    by_cases h : g = f
    · have hb : (g == f) = true := beq_iff_eq.mpr h
      simp only [List.lookup, hb, if_pos h]
    · have hb : (g == f) = false := beq_eq_false_iff_ne.mpr h
      simp only [List.lookup, hb, if_neg h]
  | (k, x) :: r => by
    have ih := lookup_putF f g v r
    rw [show putF f v ((k, x) :: r) = (if k = f then (k, v) :: r else (k, x) :: putF f v r) from rfl]
    by_cases hk : k = f
    · rw [if_pos hk]
      by_cases h : g = k
      · have hb : (g == k) = true := beq_iff_eq.mpr h
        simp only [List.lookup, hb, if_pos (h.trans hk)]
      · have hb : (g == k) = false := beq_eq_false_iff_ne.mpr h
        simp only [List.lookup, hb, if_neg (fun e : g = f => h (e.trans hk.symm))]
    · rw [if_neg hk]
      by_cases h : g = k
      · have hb : (g == k) = true := beq_iff_eq.mpr h
        simp only [List.lookup, hb, if_neg (fun e : g = f => hk (h.symm.trans e))]
      · have hb : (g == k) = false := beq_eq_false_iff_ne.mpr h
        simp only [List.lookup, hb]
        exact ih
theorem keys_putF (f : Str) (v : V) : ∀ fs : List (Str × V), f ∈ (putF f v fs).map (·.1) ∧ ∀ g, g ∈ fs.map (·.1) → g ∈ (putF f v fs).map (·.1)
  | [] => ⟨by simp [putF], fun g h => by simp at h⟩
  | (k, x) :: r => by
    obtain ⟨i1, i2⟩ := keys_putF f v r
    rw [show putF f v ((k, x) :: r) = (if k = f then (k, v) :: r else (k, x) :: putF f v r) from rfl]
    by_cases hk : k = f
    · rw [if_pos hk]
      subst hk
      exact ⟨by simp, fun g h => by simpa using h⟩
    · rw [if_neg hk]
      refine ⟨?_, fun g h => ?_⟩
      · rw [List.map_cons]
        exact List.mem_cons_of_mem _ i1
      · rw [List.map_cons] at h ⊢
        rcases List.mem_cons.mp h with e | e
        · exact List.mem_cons.mpr (.inl e)
        · exact List.mem_cons_of_mem _ (i2 g e)
theorem length_putF (f : Str) (v : V) : ∀ fs : List (Str × V), (putF f v fs).length ≤ fs.length + 1
  | [] => by simp [putF]
  | (k, x) :: r => by
    have ih := length_putF f v r
    rw [show putF f v ((k, x) :: r) = (if k = f then (k, v) :: r else (k, x) :: putF f v r) from rfl]
    by_cases hk : k = f
    · rw [if_pos hk, List.length_cons, List.length_cons]; omega
    · rw [if_neg hk, List.length_cons, List.length_cons]; omega

theorem RelO.some_of {v : V} {o : Option Value} (r : RelO (some v) o) : ∃ u, o = some u ∧ RelV v u := by
  cases o with
  | none => exact (show False from r).elim
  | some u => exact ⟨u, rfl, r⟩
theorem RelO.none_of {o : Option Value} (r : RelO none o) : o = none := by
  cases o with
  | none => rfl
  | some u => exact (show False from r).elim
theorem handed_of {v : V} {u : Value} (r : RelV v u) : PySem.W.handedIn u = true := by
  cases v with
  | non => cases (show u = Value.none from r); rfl
  | bl b => cases (show u = Value.bool b from r); rfl
  | int i => obtain ⟨t, e⟩ := (show ∃ t, u = Value.int i t from r); cases e; rfl
  | str x => obtain ⟨t, e⟩ := (show ∃ t, u = Value.str x t from r); cases e; rfl
  | byt b => obtain ⟨t, e⟩ := (show ∃ t, u = Value.bytes b t from r); cases e; rfl
  | flt b => obtain ⟨t, e⟩ := (show ∃ t, u = Value.float b t from r); cases e; rfl
  | ref a => cases (show u = Value.ref a from r); rfl
  | ty n => cases (show u = Value.type n from r); rfl

section
variable {P : Program} {w : World} {H H' : Hp} {h h' : Heap} {a C dx : Addr} {fs fs' : List (Str × V)}
theorem ins_get (hok : HOk P w H h) (e : H a = some (.ins C dx fs)) : ∃ mA, ObjM h a dx C mA ∧ (∀ f, RelO (fs.lookup f) (mA f)) ∧ PySem.Within mA (fs.map (·.1)) ∧ fs.length ≤ 1000 ∧ H dx = some (.own a) := by
  obtain ⟨d, z, ne, ob, mA, n, r, q⟩ := (show ObjOk P w H h a (.ins C dx fs) from hok a _ e)
  exact ⟨mA, ⟨ob, n, ne⟩, r, q, z, d⟩
end

/-! ### what of the text a class must have -/
structure Cls (K : PySem.W.Frag) (C : Addr) : Prop where
  pg : PySem.W.plainGet K C Str.empty = true
  hd : PySem.W.hasDictIn K C = true
  po : PySem.W.plainOver K C = true
  sa : PySem.W.findIn K (.ref C) "__setattr__" = some (some (.builtin "object.__setattr__"))
theorem Cls.get {K : PySem.W.Frag} {C : Addr} (c : Cls K C) (f : Str) : PySem.W.plainGet K C f = true := c.pg
/-- no class of it has the name -/
def NoAttr (K : PySem.W.Frag) (C : Addr) (f : Str) : Prop := PySem.W.findIn K (.ref C) f = some none
theorem NoAttr.taker {K : PySem.W.Frag} {C : Addr} {f : Str} (n : NoAttr K C f) : PySem.W.takerIn K C f = some none := by
  unfold PySem.W.takerIn
  rw [show PySem.W.findIn K (.ref C) f = some none from n]
  rfl
/-- a method: a plain def of the class or of one above it -/
structure Meth (K : PySem.W.Frag) (C : Addr) (m : Str) (f : Addr) : Prop where
  at_ : PySem.W.findIn K (.ref C) m = some (some (.ref f))
  fn : PySem.W.isFn K (.ref f) = true
  kp : PySem.W.keepIn K (.ref f) = true

section
variable {X : Cx} {pins : List (Addr × Obj)} {σ : St} {H : Hp} {s : Shared} {a C dx : Addr} {fs : List (Str × V)} {f : Str} {v : V} {A : Around} {E : Value → Shared → Prop}

theorem getattr_ok {b : Bool} {Q : Value → Shared → Prop} (I : Inv X pins σ H s) (e : H a = some (.ins C dx fs)) (c : Cls X.K C) (n : NoAttr X.K C f) (l : fs.lookup f = some v)
    (h : ∀ u s', Inv X pins σ H s' → RelV v u → Q u s') : wpAny (model X.prog X.w) A (getAttr (.ref a) f b) Q E s := by
  obtain ⟨mA, O, r, _, _, _⟩ := ins_get I.hok e
  obtain ⟨u, hu, ru⟩ := RelO.some_of (v := v) (o := mA f) (by rw [← l]; exact r f)
  exact get_map I.kIn O (c.get f) c.hd n hu (handed_of ru) (h u _ (I.tok _) ru)

theorem getmeth_ok {m : Str} {g : Addr} {pl : Sem Bool} {Q : Value × List Value → Shared → Prop} (I : Inv X pins σ H s) (e : H a = some (.ins C dx fs)) (c : Cls X.K C) (k : Meth X.K C m g) (l : fs.lookup m = none)
    (h : Q (.ref g, [.ref a]) s) : wpAny (model X.prog X.w) A (getMethod (.ref a) m pl) Q E s := by
  obtain ⟨mA, O, r, _, _, _⟩ := ins_get I.hok e
  have hn : mA m = none := RelO.none_of (by rw [← l]; exact r m)
  exact get_meth I.kIn O (c.get m) k.at_ k.fn hn h

theorem setattr_ok {y : V} {u : Value} {Q : Unit → Shared → Prop} (I : Inv X pins σ H s) (e : H a = some (.ins C dx fs)) (c : Cls X.K C) (n : NoAttr X.K C f) (hl : fs.length < 1000) (ry : RelV y u)
    (h : ∀ s', Inv X pins σ (upd H a (.ins C dx (putF f y fs))) s' → Q () s') : wpAny (model X.prog X.w) A (setAttr (.ref a) f u) Q E s := by
  obtain ⟨mA, O, r, wi, _, ho⟩ := ins_get I.hok e
  have hz : (fs.map (·.1)).length ≤ sizeLine := by rw [List.length_map, sizeLine_eq]; omega
  refine set_map I.kIn O c.sa c.po n.taker c.hd wi hz fun h' O' sb => h _ ?_
  have hd : ∃ o, h'.get? dx = some o := let ⟨o, _, _, e', _⟩ := O'.ns; ⟨o, e'⟩
  refine I.write (x := a) (e := dx) (by rw [e]; exact True.intro) (.inr ho) (fun b q hb z => (sb.2 b hb).trans z) hd ?_
  refine ⟨by rw [upd_ne O.ne]; exact ho, ?_, O.ne, O'.obj, _, O'.ns, fun g => ?_, fun g hg => ?_⟩
  · have := length_putF f y fs; omega
  · show RelO ((putF f y fs).lookup g) (if g = f then some u else mA g)
    rw [lookup_putF]
    by_cases q : g = f
    · rw [if_pos q, if_pos q]; exact ry
    · rw [if_neg q, if_neg q]; exact r g
  · by_cases q : g = f
    · rw [q]; exact (keys_putF f y fs).1
    · refine (keys_putF f y fs).2 g (wi g fun z => hg ?_)
      show (if g = f then some u else mA g) = none
      rw [if_neg q]; exact z

/-- a new instance, tracked, without attributes -/
theorem Inv.made (I : Inv X pins σ H s) : Inv X pins σ (upd (upd H s.heap.objs.size (.own (s.heap.objs.size + 1))) (s.heap.objs.size + 1) (.ins C s.heap.objs.size []))
    { s with heap := (s.heap.push PySem.W.emptyDict).push (PySem.W.instObj C s.heap.objs.size) } := by
  have e1 : (s.heap.push PySem.W.emptyDict).get? s.heap.objs.size = some PySem.W.emptyDict := Heap.get?_push_size s.heap rfl
  have e2 : ((s.heap.push PySem.W.emptyDict).push (PySem.W.instObj C s.heap.objs.size)).get? (s.heap.objs.size + 1) = some (PySem.W.instObj C s.heap.objs.size) := by
    have := Heap.get?_push_size (s.heap.push PySem.W.emptyDict) (o := PySem.W.instObj C s.heap.objs.size) rfl
    rwa [Heap.size_push] at this
  have e3 : (s.heap.push PySem.W.emptyDict).Ns s.heap.objs.size (fun _ => none) := ⟨PySem.W.emptyDict, #[], _, e1, rfl, (fun e he => absurd he (by simp)), fun _ => rfl⟩
  have I1 := I.laid (a := s.heap.objs.size) (o := .own (s.heap.objs.size + 1)) (h' := s.heap.push PySem.W.emptyDict) (t' := s.toks) (fun b u q => Heap.get?_push_of_some _ q) (Nat.le_refl _) ⟨_, e1⟩
  refine I1.laid (a := s.heap.objs.size + 1) (o := .ins C s.heap.objs.size []) (t' := s.toks) (fun b u q => Heap.get?_push_of_some _ q) (Nat.le_of_eq (Heap.size_push _ _)) ?_
  have ne : s.heap.objs.size ≠ s.heap.objs.size + 1 := Nat.ne_of_lt (Nat.lt_succ_self _)
  refine ⟨by rw [upd_ne ne, upd_same], Nat.zero_le _, ne, e2, fun _ => none, (Heap.Ns1.of_empty e3).at fun o q => Heap.get?_push_of_some _ q, fun _ => True.intro, fun y hy => absurd rfl hy⟩

/-- e.f where nothing but the object is asked: through attributeBase (super) and the last hold -/
theorem attr_of {prog : Program} {w : World} {env : Env} {e : Expr} {f : Str} {pos : Pos} {s : Shared} {Q : Value → Shared → Prop} (hb : attributeBase e f env (eval e env) = eval e env)
    (h : wpAny (model prog w) A (eval e env) (fun o s₁ => wpAny (model prog w) A (getAttr o f true) Q E s₁) E s) : wpAny (model prog w) A (eval (.Attribute e f pos) env) Q E s :=
  Attribute_any_ h (by rw [arm_eval_Attribute, hb])
end

/-! ### readings and rules -/
/-- e.f, an attribute of the instance -/
def tFld (K : PySem.W.Frag) (ta : TE) (f : Str) : TE := fun σ H Q => ta σ H fun x H1 => ∃ a C dx fs v, x = .ref a ∧ H1 a = some (.ins C dx fs) ∧ Cls K C ∧ NoAttr K C f ∧ fs.lookup f = some v ∧ Q v H1
/-- e.f = value -/
def sFld (K : PySem.W.Frag) (ta tv : TE) (f : Str) : TS := fun D σ H => tv σ H fun y H1 => ta σ H1 fun x H2 => ∃ a C dx fs, x = .ref a ∧ H2 a = some (.ins C dx fs) ∧ Cls K C ∧ NoAttr K C f ∧ fs.length < 1000 ∧
  D.nx σ (upd H2 a (.ins C dx (putF f y fs)))
section
variable {X : Cx} {o e value : Expr} {f : Str} {pos pos' tpos : Pos} {ta tv : TE}
theorem pe_fld (he : PE X e ta) (hb : attributeBase e f X.env (eval e X.env) = eval e X.env) : PE X (.Attribute e f pos) (tFld X.K ta f) := by
  intro pins s σ H Q I h
  refine attr_of hb (thn (he pins s σ H _ I h) fun u s1 ⟨x, H1, I1, rx, a, C, dx, fs, v, ex, ea, c, n, l, q⟩ => ?_)
  subst ex
  obtain rfl : u = Value.ref a := rx
  exact getattr_ok I1 ea c n l fun u' s2 I2 ru => ⟨v, H1, I2, ru, q⟩
theorem ps_fld (ha : PE X o ta) (hv : PE X value tv) (hs : swapsWith value (some (.Attribute o f pos')) pos.line X.env = pure false) : PS X (.Assign [.Attribute o f pos'] value pos) (sFld X.K ta tv f) := by
  intro pins s σ H D I h
  refine plainObj_wpAny_Assign_Attribute (thn (hv pins s σ H _ I h) fun u s1 ⟨y, H1, I1, ry, q⟩ => thn (ha pins s1 σ H1 _ I1 q) fun ov s2 ⟨x, H2, I2, rx, a, C, dx, fs, ex, ea, c, n, l, q2⟩ => ?_) hs
  subst ex
  obtain rfl : ov = Value.ref a := rx
  exact setattr_ok I2 ea c n l ry fun s3 I3 => ⟨σ, _, I3, q2⟩
end

/-! ### isinstance -/
section
variable {X : Cx} {pins : List (Addr × Obj)} {σ : St} {H : Hp} {s : Shared} {A : Around} {E : Value → Shared → Prop} {Q : Value → Shared → Prop} {c : Value} {b : Bool}
/-- the type of a value, as the fragment's deciders take it; for an instance its class -/
inductive TyOf (K : PySem.W.Frag) (H : Hp) : V → Value → Prop where
  | non : TyOf K H .non (.type "NoneType")
  | bl (x : Bool) : TyOf K H (.bl x) (.type "bool")
  | int (i : Int) : TyOf K H (.int i) (.type "int")
  | str (x : Str) : TyOf K H (.str x) (.type "str")
  | flt (x : UInt64) : TyOf K H (.flt x) (.type "float")
  | lst {a : Addr} {xs : List V} (e : H a = some (.lst xs)) : TyOf K H (.ref a) (.type "list")
  | frz {a : Addr} {o : Obj} {xs : List V} (e : H a = some (.frz o (.lst xs))) : TyOf K H (.ref a) (.type "list")
  | tup {a : Addr} {xs : List V} (e : H a = some (.tup xs)) : TyOf K H (.ref a) (.type "tuple")
  | dK {a : Addr} {kvs : List (Key × V)} (e : H a = some (.dK kvs)) : TyOf K H (.ref a) (.type "dict")
  | dT {a : Addr} {kvs : List (List Key × V)} (e : H a = some (.dT kvs)) : TyOf K H (.ref a) (.type "dict")
  | ins {a C dx : Addr} {fs : List (Str × V)} (e : H a = some (.ins C dx fs)) (cl : Cls K C) (ha : PySem.W.findIn K (.ref C) "__class__" = some (some (.builtin "object.__class__")))
      (hn : PySem.W.specialIn K (.builtin "object.__class__") "__get__" = some (some (.builtin "getset_descriptor.__get__"))) (htk : PySem.W.takesIn K (.builtin "object.__class__") = some true)
      (hm : PySem.W.mroIn K C (.type "object") = some true) : TyOf K H (.ref a) (.ref C)
/-- isinstance(x, c) for one class c, a built-in or an own one: kitOne's answer -/
theorem isinst_ok {x : V} {u t : Value} (I : Inv X pins σ H s) (rx : RelV x u) (ty : TyOf X.K H x t) (e : PySem.W.kitOne X.K t c = some b) (h : ∀ tk, Q (.bool b) { s with toks := tk }) :
    wpAny (model X.prog X.w) A (call (.builtin "isinstance") [u, c]) Q E s := by
  cases ty with
  | non => cases (show u = Value.none from rx); exact PySem.W.kia_one PySem.W.kitx_none I.kIn True.intro e (fun z => nomatch z) h
  | bl y => cases (show u = Value.bool y from rx); exact PySem.W.kia_one PySem.W.kitx_bool I.kIn True.intro e (fun z => nomatch z) h
  | int i => obtain ⟨t, q⟩ := (show ∃ t, u = Value.int i t from rx); cases q; exact PySem.W.kia_one PySem.W.kitx_int I.kIn True.intro e (fun z => nomatch z) h
  | str y => obtain ⟨t, q⟩ := (show ∃ t, u = Value.str y t from rx); cases q; exact PySem.W.kia_one PySem.W.kitx_str I.kIn True.intro e (fun z => nomatch z) h
  | flt y => obtain ⟨t, q⟩ := (show ∃ t, u = Value.float y t from rx); cases q; exact PySem.W.kia_one PySem.W.kitx_float I.kIn True.intro e (fun z => nomatch z) h
  | @lst a xs ea =>
    cases (show u = Value.ref a from rx)
    obtain ⟨_, _, n, _, h1⟩ := (show ObjOk X.prog X.w H s.heap a (.lst xs) from I.hok a _ ea)
    exact PySem.W.kia_one PySem.W.kitx_list I.kIn ⟨_, h1, rfl⟩ e (fun z => nomatch z) h
  | @frz a ob xs ea =>
    cases (show u = Value.ref a from rx)
    obtain ⟨_, _, _, n, _, h1⟩ := (show ObjOk X.prog X.w H s.heap a (.frz ob (.lst xs)) from I.hok a _ ea)
    exact PySem.W.kia_one PySem.W.kitx_list I.kIn ⟨_, h1, rfl⟩ e (fun z => nomatch z) h
  | @tup a xs ea =>
    cases (show u = Value.ref a from rx)
    obtain ⟨_, _, _, p⟩ := (show ObjOk X.prog X.w H s.heap a (.tup xs) from I.hok a _ ea)
    obtain ⟨o, h1, h2, _⟩ := p
    exact PySem.W.kia_one PySem.W.kitx_tuple I.kIn ⟨o, h1, h2⟩ e (fun z => nomatch z) h
  | @dK a kvs ea =>
    cases (show u = Value.ref a from rx)
    obtain ⟨_, _, vs, _, p⟩ := (show ObjOk X.prog X.w H s.heap a (.dK kvs) from I.hok a _ ea)
    obtain ⟨o, es, ep, h1, h2, _⟩ := p
    exact PySem.W.kia_one PySem.W.kitx_dict I.kIn ⟨o, h1, h2.1⟩ e (fun z => nomatch z) h
  | @dT a kvs ea =>
    cases (show u = Value.ref a from rx)
    obtain ⟨_, _, xs, _, o, es, ep, h1, h2, _⟩ := (show ObjOk X.prog X.w H s.heap a (.dT kvs) from I.hok a _ ea)
    exact PySem.W.kia_one PySem.W.kitx_dict I.kIn ⟨o, h1, h2.1⟩ e (fun z => nomatch z) h
  | @ins a C dx fs ea cl ha hn htk hm =>
    cases (show u = Value.ref a from rx)
    obtain ⟨mA, O, _⟩ := ins_get I.hok ea
    obtain ⟨od, J, _⟩ := O.look
    exact PySem.W.kia_one (PySem.W.kitx_own (cl.get _) cl.hd ha hn htk hm) I.kIn J e (fun z => nomatch z) h
end
end L2

namespace L2
open PySem PySem.Spec PyProof.Rows

/-! ### room -/
structure Room (k : Nat) (A : Around) : Prop where
  hd : A.handled = none
  dp : A.depth + 3 * k + 5 < recursionLimit
  un : A.units + 16 * k + 200 < cLine
theorem Room.mono {j k : Nat} {A : Around} (r : Room k A) (h : j ≤ k) : Room j A := ⟨r.hd, by have := r.dp; omega, by have := r.un; omega⟩
theorem Room.deeper {k : Nat} {A : Around} (r : Room (k + 1) A) (env : Env) : Room k (A.deeper env) :=
  ⟨r.hd, by have := r.dp; show A.depth + 1 + 3 * k + 5 < _; omega, by have := r.un; show A.units + 3 + 16 * k + 200 < _; omega⟩
theorem make_depth {A : Around} {C : Addr} {us : List Value} {kw : List (Str × Value)} : (A.under (.builtin "type.__call__" ⟨.ref C :: us, kw⟩)).depth = A.depth + 1 := by
  first | rfl | simp [Around.under, Code.weight, Code.isCreation, Code.isGuard, Code.isCaller, Code.frames, Code.isFrame, guardIds]
theorem make_units {A : Around} {C : Addr} {us : List Value} {kw : List (Str × Value)} : (A.under (.builtin "type.__call__" ⟨.ref C :: us, kw⟩)).units = A.units + 1 := by
  first | rfl | simp [Around.under, Code.cUnits, Code.frames, Code.isFrame]
theorem Room.make {k : Nat} {A : Around} (r : Room (k + 1) A) (C : Addr) (us : List Value) (kw : List (Str × Value)) : Room k (A.under (.builtin "type.__call__" ⟨.ref C :: us, kw⟩)) :=
  ⟨r.hd, by have := r.dp; rw [make_depth]; omega, by have := r.un; rw [make_units]; omega⟩
theorem Room.depth {k : Nat} {A : Around} (r : Room k A) : A.depth < recursionLimit := by have := r.dp; omega
/-! ### argument lists and displays -/
def tNil : TA := fun _ H Q => Q [] H
def tCons (ta : TE) (tr : TA) : TA := fun σ H Q => ta σ H fun x H1 => tr σ H1 fun xs H2 => Q (x :: xs) H2
section
variable {X : Cx} {e : Expr} {es : List Expr} {te : TE} {t : TA} {pos : Pos}
theorem pa_nil : PA X [] tNil := fun _ _ _ _ H Q I h => Calls.spliced_nil ⟨[], H, I, .nil, h⟩
theorem pa_cons (ha : PE X e te) (hr : PA X es t) (hs : starEach (e :: es) X.env = (false, eval e X.env) :: starEach es X.env := by rfl) : PA X (e :: es) (tCons te t) := by
  intro pos pins s σ H Q I h
  rw [hs]
  show wpAny _ _ (spliced ((false, eval e X.env) :: backTo pos (starEach es X.env))) _ _ s
  refine Calls.spliced_cons (thn (ha pins s σ H _ I h) fun u s1 ⟨x, H1, I1, r1, q1⟩ => ?_)
  exact thn (hr pos pins s1 σ H1 _ I1 q1) fun us s2 ⟨xs, H2, I2, r2, q2⟩ => ⟨x :: xs, H2, I2, .cons r1 r2, q2⟩

/-- a tuple, a list of written items -/
def tTup (t : TA) : TE := fun σ H Q => t σ H fun xs H1 => xs.length ≤ sizeLine ∧ ∀ p, H1 p = none → Q (.ref p) (upd H1 p (.tup xs))
def tLst (t : TA) : TE := fun σ H Q => t σ H fun xs H1 => xs.length ≤ sizeLine ∧ ∀ p, H1 p = none → Q (.ref p) (upd H1 p (.lst xs))
theorem pe_tup {x1} (h : PA X es t) : PE X (.Tuple es x1 pos) (tTup t) := by
  intro pins s σ H Q I hq
  refine wpAny_Tuple_spliced (thn (h pos pins s σ H _ I hq) fun us s1 ⟨xs, H1, I1, r, z, q⟩ => ⟨by rw [← r.length]; exact z, ?_⟩)
  have hf : H1 s1.heap.objs.size = none := I1.hok.fresh (Nat.le_refl _)
  refine ⟨.ref s1.heap.objs.size, upd H1 s1.heap.objs.size (.tup xs), I1.laid (t' := s1.toks) (fun b u e => Heap.get?_push_of_some _ e) (Nat.le_refl _) ?_, rfl, q _ hf⟩
  exact ⟨z, us, r, ⟨_, Heap.get?_push_size _ rfl, rfl, _, rfl⟩⟩
theorem pe_lst (h : PA X es t) : PE X (.List es pos) (tLst t) := by
  intro pins s σ H Q I hq
  refine wpAny_List_spliced (thn (h pos pins s σ H _ I hq) fun us s1 ⟨xs, H1, I1, r, z, q⟩ => ⟨by rw [← r.length]; exact z, ?_⟩)
  have hf : H1 s1.heap.objs.size = none := I1.hok.fresh (Nat.le_refl _)
  refine ⟨.ref s1.heap.objs.size, upd H1 s1.heap.objs.size (.lst xs), I1.laid (t' := s1.toks) (fun b u e => Heap.get?_push_of_some _ e) (Nat.le_refl _) ?_, rfl, q _ hf⟩
  exact ⟨z, us, 0, r, Heap.get?_push_size _ rfl⟩
end

/-! ### what a def promises -/
/-- a def's promise: the bound arguments in the parameters' order, the heap, the wanted end, the wanted exception -/
abbrev Sp := List V → Hp → VK → XK → Prop
/-- how an exception lies behind a call (file 08 gives it): the callers' frames, abstract heap and state ahead of the call, the wish, the exception, the state -/
abbrev CXT := List Env → Hp → Shared → XK → Value → Shared → Prop

/-- the state at a call -/
structure Env0 (P : Program) (w : World) (K : PySem.W.Frag) (mg : Str → Option Value) (base : Heap) (A : Around) (outer : List Env) (s : Shared) (H : Hp) : Prop where
  frames : A.frames = some outer
  mod : Mod K mg base
  bs : ∀ b o, base.get? b = some o → s.heap.get? b = some o ∧ H b = none
  bsz : base.objs.size ≤ s.heap.objs.size
  funs : s.heap.FunFrames base outer
  frf : ∀ b ∈ frs outer, H b = none
  hok : HOk P w H s.heap
  bare : AllBare s.gens
/-- a call's end -/
def CE (outer : List Env) (P : Program) (w : World) (H : Hp) (s : Shared) (Q : VK) (u : Value) (s' : Shared) : Prop :=
  ∃ v H', s'.os = s.os ∧ AllBare s'.gens ∧ Un (frs outer) [] H H' s.heap s'.heap ∧ HOk P w H' s'.heap ∧ RelV v u ∧ Q v H'
def CR (CX : CXT) (outer : List Env) (P : Program) (w : World) (H : Hp) (s : Shared) (Q : VK) (E : XK) (r : Result) (s' : Shared) : Prop :=
  match r with
  | .ok (.ret u) => CE outer P w H s Q u s'
  | .ok _ => False
  | .error e => CX outer H s E e s'
structure FnOk (P : Program) (w : World) (K : PySem.W.Frag) (mg : Str → Option Value) (base : Heap) (CX : CXT) (k : Nat) (f : Addr) (fd : FuncData) (ps : List Str) (sp : Sp) : Prop where
  len : ∀ vs H Q E, sp vs H Q E → vs.length = ps.length
  run : ∀ (A : Around) (outer : List Env) (s : Shared) (H : Hp) (args : Args) (us : List Value) (vs : List V) (Q : VK) (E : XK), Room k A → Env0 P w K mg base A outer s H → BindsTo s fd args (ps.zip us) → Vals vs us → sp vs H Q E →
    codeAny (model P w) A (.call (.ref f) args) (CR CX outer P w H s Q E) s
theorem Env0.make {P : Program} {w : World} {K : PySem.W.Frag} {mg : Str → Option Value} {base : Heap} {A : Around} {outer : List Env} {s : Shared} {H : Hp} (e : Env0 P w K mg base A outer s H) (C : Addr) (us : List Value) (kw : List (Str × Value)) :
    Env0 P w K mg base (A.under (.builtin "type.__call__" ⟨.ref C :: us, kw⟩)) outer s H := ⟨by first | exact e.frames | (simpa [Around.under, Code.envs, Code.isFrame, pushEnvs] using e.frames), e.mod, e.bs, e.bsz, e.funs, e.frf, e.hok, e.bare⟩
section
variable {X : Cx} {pins : List (Addr × Obj)} {σ : St} {H : Hp} {s s' : Shared}
/-- from a body: what a callee wants -/
theorem Inv.env0 (I : Inv X pins σ H s) : Env0 X.prog X.w X.K X.mg X.base X.A X.stack s H :=
  ⟨I.ok.frames, I.ok.mod, I.bs, Nat.le_trans I.ok.bsz I.sz, I.stack, I.stkFree, I.hok, I.bare⟩
/-- behind a call -/
theorem Inv.after {Q : VK} {u : Value} (I : Inv X pins σ H s) (h : CE X.stack X.prog X.w H s Q u s') : EP X pins σ Q u s' := by
  obtain ⟨v, H', os, bare, un, hok, r, q⟩ := h
  obtain ⟨hh, g, d, t, os'⟩ := s'
  obtain rfl : os' = s.os := os
  exact ⟨v, H', I.call (h' := hh) (g' := g) (d' := d) (t' := t) (ch := []) un hok bare (fun b z => absurd z (by simp)), r, q⟩
end

/-! ### calls -/
/-- f(..): the written arguments, then the defaults dvs; E: what is wanted of an exception -/
def tCall (sp : Sp) (dvs : List V) (E : XK) (t : TA) : TE := fun σ H Q => t σ H fun vs H1 => sp (vs ++ dvs) H1 Q E
/-- o.m(..) of an instance of the class at C -/
def tMeth (C : Addr) (m : Str) (sp : Sp) (dvs : List V) (E : XK) (ta : TE) (t : TA) : TE := fun σ H Q => ta σ H fun x H1 => ∃ a dx fs, x = .ref a ∧ H1 a = some (.ins C dx fs) ∧ fs.lookup m = none ∧
  t σ H1 fun vs H2 => sp (x :: (vs ++ dvs)) H2 Q E
/-- C(..): a new instance and its dict, then __init__ -/
def tMake (C : Addr) (sp : Sp) (dvs : List V) (E : XK) (t : TA) : TE := fun σ H Q => t σ H fun vs H1 => ∀ x dx, H1 x = none → H1 dx = none → dx ≠ x →
  sp (.ref x :: (vs ++ dvs)) (upd (upd H1 dx (.own x)) x (.ins C dx [])) (fun v H2 => v = .non ∧ Q (.ref x) H2) E

/-- how the parameters are bound: us the positional arguments, kw the keywords' values by name, ds the defaults that fill up -/
def Binds (K : PySem.W.Frag) (fd : FuncData) (ps : List Str) (ds : List Value) : Prop :=
  ∀ (s : Shared) (us : List Value), K.In s.heap → (us ++ ds).length = ps.length → BindsTo s fd ⟨us, []⟩ (ps.zip (us ++ ds))
/-- every parameter is given -/
theorem Binds.all {K : PySem.W.Frag} {fd : FuncData} {ps : List Str} (h : ∀ us : List Value, us.length = ps.length → bindArgs fd ⟨us, []⟩ = pure (ps.zip us)) : Binds K fd ps [] := fun s us _ hl => by
  rw [List.append_nil] at hl ⊢
  exact .of_eq (h us hl)

/-- an exception of a callee reaches what this body wants of exceptions -/
def Passes (CX : CXT) (X : Cx) (E : XK) : Prop := ∀ (pins : List (Addr × Obj)) (σ : St) (H : Hp) (s : Shared) (e : Value) (s' : Shared), Inv X pins σ H s → CX X.stack H s E e s' → X.xe e s'

section
variable {X : Cx} {CX : CXT} {k : Nat} {f C : Addr} {fd : FuncData} {ps : List Str} {sp : Sp} {dvs : List V} {ds : List Value} {E : XK} {x m : Str} {p pos apos : Pos} {e o : Expr} {es : List Expr} {ta : TE} {t : TA}

/-- the callee runs -/
theorem run_fn {pins : List (Addr × Obj)} {σ : St} {H : Hp} {s : Shared} {Q : VK} {us : List Value} {vs : List V} (F : FnOk X.prog X.w X.K X.mg X.base CX k f fd ps sp) (hr : Room k X.A) (hb : Binds X.K fd ps ds) (hd : Vals dvs ds) (hx : Passes CX X E)
    (I : Inv X pins σ H s) (r : Vals vs us) (h : sp (vs ++ dvs) H Q E) : wpAny (model X.prog X.w) X.A (call (.ref f) us) (EP X pins σ Q) X.xe s := by
  have r2 : Vals (vs ++ dvs) (us ++ ds) := r.append hd
  have hl : (us ++ ds).length = ps.length := by rw [← r2.length]; exact F.len _ _ _ _ h
  refine wpAny_call (codeAny_mono (F.run X.A X.stack s H ⟨us, []⟩ (us ++ ds) (vs ++ dvs) Q E hr I.env0 (hb s us I.kIn hl) r2 h) fun r s' hq => ?_)
  cases r with
  | error e => exact hx pins σ H s e s' I hq
  | ok fl =>
    cases fl with
    | ret u => exact I.after hq
    | next => exact False.elim hq
    | brk => exact False.elim hq
    | cont => exact False.elim hq

theorem pe_call (F : FnOk X.prog X.w X.K X.mg X.base CX k f fd ps sp) (hr : Room k X.A) (hg : Gl X x) (hm : X.mg x = some (.ref f)) (hk : PySem.W.keepIn X.K (.ref f) = true) (hb : Binds X.K fd ps ds) (hd : Vals dvs ds) (hx : Passes CX X E)
    (ha : PA X (e :: es) t) (hdb : (x == ("__debug__" : Str)) = false := by decide) (he : starEach (e :: es) X.env = (false, eval e X.env) :: starEach es X.env := by rfl) (hpl : (backTo pos (starEach es X.env)).any (·.1) = false := by rfl) :
    PE X (.Call (.Name x p) (e :: es) [] pos) (tCall sp dvs E t) := by
  intro pins s σ H Q I h
  refine wpAny_Call_Name_kw (ld_glob I hg hm ?_ hdb)
  refine PySem.W.callWith_K (h₀ := X.base) I.ok.mod.kin hk (thn (ha pos pins s σ H _ I h) fun us s1 ⟨vs, H1, I1, r, q⟩ => ⟨I1.kIn, ?_⟩) he hpl
  exact run_fn F hr hb hd hx I1 r q
/-- o.m(e, ..) -/
theorem pe_meth {pl : Sem Bool} (he : PE X o ta) (c : Cls X.K C) (hm : Meth X.K C m f) (F : FnOk X.prog X.w X.K X.mg X.base CX k f fd ps sp) (hr : Room k X.A) (hb : Binds X.K fd ps ds) (hd : Vals dvs ds) (hx : Passes CX X E) (ha : PA X (e :: es) t)
    (hst : starEach (e :: es) X.env = (false, eval e X.env) :: starEach es X.env := by rfl) (hpl : (backTo pos (starEach es X.env)).any (·.1) = false := by rfl)
    (ht : eval (.Call (.Attribute o m apos) (e :: es) [] pos) X.env = (do
      let ov ← eval o X.env
      standAt apos.atName
      let (f, first) ← holding [ov] (getMethod ov m pl)
      callWith pos f first (backTo pos (starEach (e :: es) X.env)) (backToKw pos (keywordEach [] X.env))) := by rfl) :
    PE X (.Call (.Attribute o m apos) (e :: es) [] pos) (tMeth C m sp dvs E ta t) := by
  intro pins s σ H Q I h
  refine PySem.W.methodCall_KW (pl := pl) (thn (he pins s σ H _ I h) fun u s1 ⟨x, H1, I1, rx, a, dx, fs, ex, ea, l, q⟩ => ?_) ht
  subst ex
  obtain rfl : u = Value.ref a := rx
  refine getmeth_ok I1 ea c hm l ?_
  refine PySem.W.callWith_K (first := [.ref a]) (h₀ := X.base) I.ok.mod.kin hm.kp (thn (ha pos pins s1 σ H1 _ I1 q) fun us s2 ⟨vs, H2, I2, r, q2⟩ => ⟨I2.kIn, ?_⟩) hst hpl
  exact run_fn (us := .ref a :: us) (vs := .ref a :: vs) F hr hb hd hx I2 (.cons rfl r) q2
/-- o.m() -/
theorem pe_meth0 {pl : Sem Bool} (he : PE X o ta) (c : Cls X.K C) (hm : Meth X.K C m f) (F : FnOk X.prog X.w X.K X.mg X.base CX k f fd ps sp) (hr : Room k X.A) (hb : Binds X.K fd ps ds) (hd : Vals dvs ds) (hx : Passes CX X E)
    (ht : eval (.Call (.Attribute o m apos) [] [] pos) X.env = (do
      let ov ← eval o X.env
      standAt apos.atName
      let (f, first) ← holding [ov] (getMethod ov m pl)
      callWith pos f first (backTo pos (starEach [] X.env)) (backToKw pos (keywordEach [] X.env))) := by rfl) :
    PE X (.Call (.Attribute o m apos) [] [] pos) (tMeth C m sp dvs E ta tNil) := by
  intro pins s σ H Q I h
  refine PySem.W.methodCall_KW (pl := pl) (thn (he pins s σ H _ I h) fun u s1 ⟨x, H1, I1, rx, a, dx, fs, ex, ea, l, q⟩ => ?_) ht
  subst ex
  obtain rfl : u = Value.ref a := rx
  refine getmeth_ok I1 ea c hm l ?_
  exact PySem.W.callWith_K0 (first := [.ref a]) I1.kIn hm.kp (run_fn (us := [.ref a]) (vs := [.ref a]) F hr hb hd hx I1 (.cons rfl .nil) q)

/-- what a class must have to be made -/
structure Mk (K : PySem.W.Frag) (C f : Addr) : Prop where
  makes : PySem.W.makesIn K C = true
  init : PySem.W.findIn K (.ref C) "__init__" = some (some (.ref f))
  fn : PySem.W.isFn K (.ref f) = true
  kp : PySem.W.keepIn K (.ref C) = true

theorem run_make {pins : List (Addr × Obj)} {σ : St} {H : Hp} {s : Shared} {Q : VK} {us : List Value} {vs : List V} (M : Mk X.K C f) (F : FnOk X.prog X.w X.K X.mg X.base CX k f fd ps sp) (hr : Room (k + 1) X.A) (hb : Binds X.K fd ps ds) (hd : Vals dvs ds)
    (hx : Passes CX X E) (I : Inv X pins σ H s) (r : Vals vs us)
    (h : ∀ x dx, H x = none → H dx = none → dx ≠ x → sp (.ref x :: (vs ++ dvs)) (upd (upd H dx (.own x)) x (.ins C dx [])) (fun v H2 => v = .non ∧ Q (.ref x) H2) E) :
    wpAny (model X.prog X.w) X.A (call (.ref C) us) (EP X pins σ Q) X.xe s := by
  have hq := h (s.heap.objs.size + 1) s.heap.objs.size (I.hok.fresh (Nat.le_succ _)) (I.hok.fresh (Nat.le_refl _)) (Nat.ne_of_lt (Nat.lt_succ_self _))
  have I2 := Inv.made (C := C) I
  have r2 : Vals (V.ref (s.heap.objs.size + 1) :: (vs ++ dvs)) (Value.ref (s.heap.objs.size + 1) :: (us ++ ds)) := .cons rfl (r.append hd)
  have hl : (Value.ref (s.heap.objs.size + 1) :: us ++ ds).length = ps.length := by
    have e := r2.length
    rw [F.len _ _ _ _ hq] at e
    exact e.symm
  refine wpAny_call (make_map (f := f) I.kIn M.makes M.init (beq_iff_eq.mp M.fn) (codeAny_mono (F.run _ X.stack _ _ ⟨Value.ref (s.heap.objs.size + 1) :: us, []⟩ (Value.ref (s.heap.objs.size + 1) :: (us ++ ds)) _ _ E (hr.make C us [])
    (I2.env0.make C us []) (hb _ (Value.ref (s.heap.objs.size + 1) :: us) I2.kIn hl) r2 hq) fun r s' hq' => ?_))
  cases r with
  | error e => exact hx pins σ _ _ e s' I2 hq'
  | ok fl =>
    cases fl with
    | ret u =>
      obtain ⟨v, H', I3, rv, ev, q3⟩ := I2.after hq'
      subst ev
      exact ⟨rv, ⟨V.ref (s.heap.objs.size + 1), H', I3, rfl, q3⟩⟩
    | next => exact False.elim hq'
    | brk => exact False.elim hq'
    | cont => exact False.elim hq'
theorem pe_make (M : Mk X.K C f) (F : FnOk X.prog X.w X.K X.mg X.base CX k f fd ps sp) (hr : Room (k + 1) X.A) (hg : Gl X x) (hm : X.mg x = some (.ref C)) (hb : Binds X.K fd ps ds) (hd : Vals dvs ds) (hx : Passes CX X E)
    (ha : PA X (e :: es) t) (hdb : (x == ("__debug__" : Str)) = false := by decide) (he : starEach (e :: es) X.env = (false, eval e X.env) :: starEach es X.env := by rfl) (hpl : (backTo pos (starEach es X.env)).any (·.1) = false := by rfl) :
    PE X (.Call (.Name x p) (e :: es) [] pos) (tMake C sp dvs E t) := by
  intro pins s σ H Q I h
  refine wpAny_Call_Name_kw (ld_glob I hg hm ?_ hdb)
  refine PySem.W.callWith_K (h₀ := X.base) I.ok.mod.kin M.kp (thn (ha pos pins s σ H _ I h) fun us s1 ⟨vs, H1, I1, r, q⟩ => ⟨I1.kIn, ?_⟩) he hpl
  exact run_make M F hr hb hd hx I1 r q
end

/-! ### keywords -/
/-- the values of the keywords, from the left -/
def PK (X : Cx) (kws : List Keyword) (t : TA) : Prop :=
  ∀ (pos : Pos) (pins : List (Addr × Obj)) (s : Shared) (σ : St) (H : Hp) (Q : List V → Hp → Prop), Inv X pins σ H s → t σ H Q → wpAny (model X.prog X.w) X.A (evalAll ((backToKw pos (keywordEach kws X.env)).map (·.2))) (AP X pins σ Q) X.xe s
section
variable {X : Cx} {CX : CXT} {k : Nat} {f C : Addr} {fd : FuncData} {ps ks : List Str} {sp : Sp} {E : XK} {x m : Str} {p pos apos kpos : Pos} {e o : Expr} {es : List Expr} {kws : List Keyword} {te ta : TE} {t tk : TA} {nm : Option Str}
theorem pk_nil : PK X [] tNil := fun _ _ _ _ H Q I h => wpAny_evalAll_nil ⟨[], H, I, .nil, h⟩
theorem pk_cons (ha : PE X e te) (hr : PK X kws t) : PK X (⟨nm, e, kpos⟩ :: kws) (tCons te t) := by
  intro pos pins s σ H Q I h
  show wpAny _ _ (evalAll ((do let v ← eval e X.env; standAt pos; pure v) :: (backToKw pos (keywordEach kws X.env)).map (·.2))) _ _ s
  refine wpAny_evalAll_cons (wpAny_bind (thn (ha pins s σ H _ I h) fun u s1 ⟨x, H1, I1, r1, q1⟩ => wpAny_bind (wpAny_standAt (wpAny_pure ?_))))
  exact thn (hr pos pins s1 σ H1 _ I1 q1) fun us s2 ⟨xs, H2, I2, r2, q2⟩ => ⟨x :: xs, H2, I2, .cons r1 r2, q2⟩

variable {g : List Value → List Value → List Value} {gV : List V → List V → List V}
end

/-! ### a def's body keeps its promise -/
/-- names: the parameters first -/
structure FnScope (N P : List Str) (sc : Scope) : Prop where
  kind : sc.kind = .function
  co : sc.isCoroutine = false
  gen : sc.isGenerator = false
  nd : N.Nodup
  pre : N.take P.length = P
  par : ∀ x ∈ P, sc.names.lookup x = some .local ∨ sc.names.lookup x = some .cell
  nofree : ∀ y ∈ sc.names, y.2 ≠ .free

theorem bindL_out {kindOf : Str → Option NameKind} {x : Str} : ∀ {binds : List (Str × Value)} {m : Str → Option Value}, (∀ v, (x, v) ∉ binds) → bindL kindOf binds m x = m x
  | [], _, _ => rfl
  | (n, v) :: r, m, h => by
    unfold bindL
    rw [bindL_out fun w hw => h w (List.mem_cons_of_mem _ hw)]
    split
    · have : x ≠ n := by rintro rfl; exact h v List.mem_cons_self
      simp [this]
    · rfl
theorem bindC_out {kindOf : Str → Option NameKind} {x : Str} : ∀ {binds : List (Str × Value)} {m : Str → Option Value}, (∀ v, (x, v) ∉ binds) → bindC kindOf binds m x = m x
  | [], _, _ => rfl
  | (n, v) :: r, m, h => by
    unfold bindC
    rw [bindC_out fun w hw => h w (List.mem_cons_of_mem _ hw)]
    split
    · rfl
    · have : x ≠ n := by rintro rfl; exact h v List.mem_cons_self
      simp [this]
theorem bindL_get {kindOf : Str → Option NameKind} {x : Str} {v : Value} : ∀ {P : List Str} {vs : List Value} {i : Nat} {m : Str → Option Value}, P.Nodup → P[i]? = some x → vs[i]? = some v → kindOf x = some .local →
    bindL kindOf (P.zip vs) m x = some v
  | [], _, _, _, _, h, _, _ => by simp at h
  | _ :: _, [], _, _, _, _, h, _ => by simp at h
  | p :: P, w :: vs, 0, m, nd, h1, h2, hk => by
    simp at h1 h2; subst h1; subst h2
    show bindL kindOf ((p, w) :: P.zip vs) m p = _
    unfold bindL
    rw [bindL_out fun v hv => (List.nodup_cons.mp nd).1 (List.of_mem_zip hv).1, if_pos hk]
    simp
  | p :: P, w :: vs, i + 1, m, nd, h1, h2, hk => by
    show bindL kindOf ((p, w) :: P.zip vs) m x = _
    unfold bindL
    exact bindL_get (i := i) (List.nodup_cons.mp nd).2 (by simpa using h1) (by simpa using h2) hk
theorem bindC_get {kindOf : Str → Option NameKind} {x : Str} {v : Value} : ∀ {P : List Str} {vs : List Value} {i : Nat} {m : Str → Option Value}, P.Nodup → P[i]? = some x → vs[i]? = some v → kindOf x ≠ some .local →
    bindC kindOf (P.zip vs) m x = some v
  | [], _, _, _, _, h, _, _ => by simp at h
  | _ :: _, [], _, _, _, _, h, _ => by simp at h
  | p :: P, w :: vs, 0, m, nd, h1, h2, hk => by
    simp at h1 h2; subst h1; subst h2
    show bindC kindOf ((p, w) :: P.zip vs) m p = _
    unfold bindC
    rw [bindC_out fun v hv => (List.nodup_cons.mp nd).1 (List.of_mem_zip hv).1, if_neg hk]
    simp
  | p :: P, w :: vs, i + 1, m, nd, h1, h2, hk => by
    show bindC kindOf ((p, w) :: P.zip vs) m x = _
    unfold bindC
    exact bindC_get (i := i) (List.nodup_cons.mp nd).2 (by simpa using h1) (by simpa using h2) hk

/-- the names' values at the entry -/
def start (N : List Str) (vs : List V) : St := vs.map some ++ List.replicate (N.length - vs.length) none

/-- the context of a def's body, at its entry; an exception leaves the frame, then lies as CX says -/
def cxOf (CX : CXT) (P : Program) (w : World) (K : PySem.W.Frag) (mg : Str → Option Value) (base : Heap) (N : List Str) (qual : Str) (scope : Scope) (f : Addr) (cd : Value) (A : Around) (outer : List Env) (s : Shared) (H : Hp) (E : XK) : Cx where
  prog := P
  w := w
  K := K
  mg := mg
  base := base
  A := A.deeper (envOfC qual scope s.heap.objs.size f cd)
  N := N
  s₀ := s
  H₀ := H
  env := envOfC qual scope s.heap.objs.size f cd
  outer := outer
  stack := envOfC qual scope s.heap.objs.size f cd :: outer
  ex := []
  calm := true
  fn := fun _ => true
  pn := []
  xe := fun e s' => wpAny (model P w) (A.deeper (envOfC qual scope s.heap.objs.size f cd)) (leaving (envOfC qual scope s.heap.objs.size f cd) e) (fun _ s'' => CX outer H s E e s'') (fun e' s'' => CX outer H s E e' s'') s'

theorem cell_has {sc : Scope} {n : Nat} {x : Str} (h : sc.names.lookup x = some .cell) : ∃ c, (cellsFrom n sc.names []).lookup x = some c := by
  have q := PySem.W.cellsFrom_some sc.names n [] (.inl h)
  exact Option.isSome_iff_exists.mp q

theorem inv_start {CX : CXT} {P : Program} {w : World} {K : PySem.W.Frag} {mg : Str → Option Value} {base : Heap} {N ps : List Str} {qual : Str} {scope : Scope} {f : Addr} {cd : Value} {A : Around} {outer : List Env} {s s1 : Shared} {H : Hp} {E : XK} {us : List Value} {vs : List V}
    (S : FnScope N ps scope) (hd : A.handled = none) (e0 : Env0 P w K mg base A outer s H) (hl : vs.length = ps.length) (r : Vals vs us)
    (x : InCallC s s.heap.objs.size (bindL (envOfC qual scope s.heap.objs.size f cd).kindOf (ps.zip us) fun _ => none) (cellsFrom (s.heap.objs.size + 1) scope.names []) (bindC (envOfC qual scope s.heap.objs.size f cd).kindOf (ps.zip us) fun _ => none) s1) :
    Inv (cxOf CX P w K mg base N qual scope f cd A outer s H E) [] (start N vs) H s1 := by
  have hpl : ps.length ≤ N.length := by have := congrArg List.length S.pre; rw [List.length_take] at this; omega
  obtain ⟨h1, tk, rfl, hk⟩ := x.done
  have noA : ∀ b : Addr, b ∉ (cxOf CX P w K mg base N qual scope f cd A outer s H E).ex := fun b z => absurd (show b ∈ ([] : List Addr) from z) (by simp)
  refine ⟨⟨e0.mod, S.kind, rfl, rfl, Nat.le_refl _, fun y z c h1 h2 => ?_, fun y hy => ?_, fun y c _ h => ?_, fun _ => hd, Around.frames_deeper e0.frames, .inr ⟨rfl, rfl⟩, fun b z => absurd z (noA b), e0.bs, e0.bsz, fun b _ _ => noA b, fun b z => absurd z (noA b), e0.funs, e0.frf⟩,
    rfl, e0.bare, Un.kept hk, ⟨_, x.toInCall.ns, fun i y v h1 h2 h3 => ?_⟩, fun y c h => ⟨_, x.cell y c h⟩, e0.hok.fresh (Nat.le_refl _), fun y c h => ?_, fun p hp => absurd (show p ∈ ([] : List (Addr × Obj)) from hp) (by simp), e0.hok.kept hk, ?_⟩
  · exact name_of_addr x.apart (PySem.mem_of_lookup h1) (PySem.mem_of_lookup h2)
  · have hy : scope.names.lookup y = some .cell ∨ scope.names.lookup y = some .free := hy
    rcases hy with hy | hy
    · exact cell_has hy
    · exact absurd rfl (S.nofree _ (PySem.mem_of_lookup hy))
  · exact Nat.le_of_lt (x.above y c (PySem.mem_of_lookup h))
  · have hi : i < vs.length := by
      unfold start at h2
      by_cases hi : i < vs.length
      · exact hi
      · rw [List.getElem?_append_right (by simpa using hi)] at h2
        rw [List.getElem?_replicate] at h2
        split at h2 <;> cases h2
    have ha : vs[i]? = some v := by
      unfold start at h2
      rw [List.getElem?_append_left (by simpa using hi), List.getElem?_map] at h2
      cases e : vs[i]? with
      | none => rw [e] at h2; cases h2
      | some a => rw [e] at h2; cases h2; rfl
    obtain ⟨u, hu, rv⟩ := r.get ha
    have hp : ps[i]? = some y := by
      rw [← S.pre, List.getElem?_take_of_lt (by omega)]; exact h1
    have ndP : ps.Nodup := by rw [← S.pre]; exact S.nd.sublist (List.take_sublist _ _)
    refine ⟨u, rv, ?_⟩
    rcases S.par y (List.mem_of_getElem? hp) with k | k
    · exact .inl ⟨k, bindL_get ndP hp hu k⟩
    · obtain ⟨c, e⟩ := cell_has (n := s.heap.objs.size + 1) k
      refine .inr ⟨.inl k, c, e, ?_⟩
      have q := x.cell y c e
      rw [bindC_get ndP hp hu (by show scope.names.lookup y ≠ _; rw [k]; decide)] at q
      exact q
  · exact e0.hok.fresh (Nat.le_of_lt (x.above y c (PySem.mem_of_lookup h)))
  · unfold start
    show _ = N.length
    rw [List.length_append, List.length_map, List.length_replicate]
    omega

/-- THE RULE: a def (or a method) of the text, by its body. The body's reading t is chosen for each entry; it is run at the parameters' values -/
theorem fn_of {CX : CXT} {P : Program} {w : World} {K : PySem.W.Frag} {mg : Str → Option Value} {base : Heap} {k : Nat} {f : Addr} {name qual : Str} {params : Arguments} {body : List Stmt} {scope : Scope} {dV kV doc pm cdv ct oc : Value} {an od : Option Addr}
    {osl : Array (Option Value)} {N ps : List Str} {sp : Sp} (lk : K.lookup f = some ⟨oc, od, .func (PySem.W.fnOf name qual params body scope dV kV doc pm an cdv ct), osl⟩) (hcd : PySem.W.codeIn K cdv qual = true) (S : FnScope N ps scope)
    (len : ∀ vs H Q E, sp vs H Q E → vs.length = ps.length)
    (hbody : ∀ (A : Around) (outer : List Env) (s : Shared) (H : Hp) (vs : List V) (Q : VK) (E : XK), Room k (A.deeper (envOfC qual scope s.heap.objs.size f cdv)) → sp vs H Q E →
      ∃ t, PSs (cxOf CX P w K mg base N qual scope f cdv A outer s H E) body t ∧ t { nx := fun _ H' => Q .non H', rt := Q } (start N vs) H) :
    FnOk P w K mg base CX (k + 1) f (PySem.W.fnOf name qual params body scope dV kV doc pm an cdv ct) ps sp := by
  refine ⟨len, fun A outer s H args us vs Q E hr e0 hb r hsp => ?_⟩
  have hl := len _ _ _ _ hsp
  have KX : K.In s.heap := e0.mod.kin.keeps fun b o e => (e0.bs b o e).1
  have lim : s.heap.NoLimit := e0.mod.nolimit.keeps fun b o e => (e0.bs b o e).1
  have hkind : ∀ y ∈ ps.zip us, scope.names.lookup y.1 = some .local ∨ (scope.names.lookup y.1 = some .cell ∧ ((cellsFrom (s.heap.objs.size + 1) scope.names []).lookup y.1).isSome = true) := fun ⟨n, v⟩ hy => by
    rcases S.par n (List.of_mem_zip hy).1 with q | q
    · exact .inl q
    · exact .inr ⟨q, PySem.W.cellsFrom_some _ _ _ (.inl q)⟩
  refine codeAny_call_function hr.depth (KX _ _ lk) rfl S.co S.gen rfl (PySem.W.codeRec_of KX hcd) (hb _ _ _ _ ?_)
  refine wpAny_newFunctionEnv_cells S.kind hkind fun env he s1 x => ?_
  subst he
  refine ⟨lim.keeps x.toInCall.keep, codeAny_func ?_⟩
  obtain ⟨t, ht, hq⟩ := hbody A outer s H vs Q E (hr.deeper _) hsp
  have I : Inv (cxOf CX P w K mg base N qual scope f cdv A outer s H E) [] (start N vs) H s1 := inv_start S hr.hd e0 hl r x
  refine wpAny_mono (ht [] s1 (start N vs) H _ I hq) (fun fl s' hs => ?_) fun e s' hs => hs
  have fin : ∀ {σ' : St} {H' : Hp} {v : V} {u : Value}, Inv (cxOf CX P w K mg base N qual scope f cdv A outer s H E) [] σ' H' s' → RelV v u → Q v H' → CE outer P w H s Q u s' :=
    fun {σ' H' v u} J rv q => ⟨v, H', J.os, J.bare, J.base, J.hok, rv, q⟩
  cases fl with
  | ret u =>
    obtain ⟨v, σ', H', J, rv, q⟩ := hs
    exact fin J rv q
  | next =>
    obtain ⟨σ', H', J, q⟩ := hs
    exact fin (v := V.non) (u := Value.none) J rfl q
  | brk =>
    obtain ⟨_, _, _, q⟩ := hs
    exact False.elim q
  | cont =>
    obtain ⟨_, _, _, q⟩ := hs
    exact False.elim q
end L2

namespace L2
open PySem PySem.Spec PyProof.Rows
section
variable {X : Cx} {x : Str} {p pos : Pos} {e : Expr} {es : List Expr} {t : TA} {id T : String} {r : List V → Hp → VK → Prop}

def tCB (r : List V → Hp → VK → Prop) (t : TA) : TE := fun σ H Q => t σ H fun vs H1 => r vs H1 Q
/-- f(e, ..), f a built-in function -/
theorem pe_callB (hc : CallR X (.builtin id) r) (hg : Gl X x) (hm : X.mg x = none) (hv : bootBuiltins x = some (.builtin id)) (ha : PA X (e :: es) t) (hn : x ≠ "__name__" := by decide) (hdb : (x == ("__debug__" : Str)) = false := by decide)
    (he : starEach (e :: es) X.env = (false, eval e X.env) :: starEach es X.env := by rfl) (hpl : (backTo pos (starEach es X.env)).any (·.1) = false := by rfl) : PE X (.Call (.Name x p) (e :: es) [] pos) (tCB r t) := by
  intro pins s σ H Q I h
  refine wpAny_Call_Name_kw (ld_blt I hg hm hv ?_ hn hdb)
  exact PyProof.Rows.callWith_builtin1 (thn (ha pos pins s σ H _ I h) fun us s1 ⟨vs, H1, I1, r1, q1⟩ => hc pins s1 σ H1 vs us Q I1 r1 q1) he hpl
/-- T(e, ..), T a built-in type -/
theorem pe_callTy (hc : CallR X (.type T) r) (hg : Gl X x) (hm : X.mg x = none) (hv : bootBuiltins x = some (.type T)) (ha : PA X (e :: es) t) (hn : x ≠ "__name__" := by decide) (hdb : (x == ("__debug__" : Str)) = false := by decide)
    (he : starEach (e :: es) X.env = (false, eval e X.env) :: starEach es X.env := by rfl) (hpl : (backTo pos (starEach es X.env)).any (·.1) = false := by rfl) : PE X (.Call (.Name x p) (e :: es) [] pos) (tCB r t) := by
  intro pins s σ H Q I h
  refine wpAny_Call_Name_kw (ld_blt I hg hm hv ?_ hn hdb)
  exact PyProof.Rows.callWith_type1 (thn (ha pos pins s σ H _ I h) fun us s1 ⟨vs, H1, I1, r1, q1⟩ => hc pins s1 σ H1 vs us Q I1 r1 q1) he hpl
end
end L2

namespace HT
open PySem PyProof.Rows

section
open PySem.SeqAt
open PySem.AutoSeq1 (wpAny_loadPart')
open PySem.MeetsSeq PySem.MeetsSeq2 PySem.MeetsSeq3

end

section
variable {prog : Program} {w : World} {A : Around} {E : Value → Shared → Prop} {s : Shared}

/-! ### t[a:b], not the whole -/
/-- a slice's bound as a place among n (d where it is left out) -/
def sIx (n d : Nat) : Option Int → Nat
  | none => d
  | some v => if v < 0 then (v + (n : Int)).toNat else min v.toNat n
end
end HT

namespace L2
open PySem PySem.Spec PyProof.Rows

/-! ### the parts of a slice -/
abbrev TO := St → Hp → (Option Int → Hp → Prop) → Prop
/-- a slice's part (left out, or an int) -/
def PO (X : Cx) (e : Option Expr) (t : TO) : Prop :=
  ∀ (pins : List (Addr × Obj)) (s : Shared) (σ : St) (H : Hp) (Q : Option Int → Hp → Prop), Inv X pins σ H s → t σ H Q →
    wpAny (model X.prog X.w) X.A (evalPart e X.env) (fun u s' => ∃ o H', Inv X pins σ H' s' ∧ IsPart u o ∧ Q o H') X.xe s
def tPart (t : TE) : TO := fun σ H Q => t σ H fun x H1 => ∃ i, x = .int i ∧ Q (some i) H1

section
variable {X : Cx} {e : Expr} {te : TE} {lo hi : Option Expr} {tl th : TO} {pos p2 : Pos}

theorem po_some (h : PE X e te) : PO X (some e) (tPart te) := by
  intro pins s σ H Q I hw
  rw [evalPart_some]
  refine thn (h pins s σ H _ I hw) fun u s1 ⟨x, H1, I1, r1, q1⟩ => ?_
  obtain ⟨i, rfl, q⟩ := q1
  obtain ⟨t, rfl⟩ := r1
  exact ⟨some i, H1, I1, .int i t, q⟩

/-- what a slice of a value is, by values: the slice object stands at sl -/
def SlR (X : Cx) (r : V → Option Int → Option Int → Hp → VK → Prop) : Prop :=
  ∀ (pins : List (Addr × Obj)) (s : Shared) (σ : St) (H : Hp) (x : V) (v vl vu : Value) (lo hi : Option Int) (sl : Addr) (Q : VK), Inv X pins σ H s → RelV x v → s.heap.IsSliceOf sl vl vu .none → IsPart vl lo → IsPart vu hi → r x lo hi H Q →
    ∃ T id, typeLookup (.type T) "__getitem__" = pure (some (.builtin id)) ∧ s.TypeIs v T ∧ wpAny (model X.prog X.w) X.A (getItem v (.ref sl)) (EP X pins σ Q) X.xe s
def tSl (r : V → Option Int → Option Int → Hp → VK → Prop) (te : TE) (tl th : TO) : TE := fun σ H Q => te σ H fun x H1 => tl σ H1 fun l H2 => th σ H2 fun u H3 => r x l u H3 Q
/-- a[lo:hi], any a -/
theorem pe_slice {r : V → Option Int → Option Int → Hp → VK → Prop} (hr : SlR X r) (he : PE X e te) (hl : PO X lo tl) (hu : PO X hi th) : PE X (.Subscript e (.Slice lo hi none p2) pos) (tSl r te tl th) := by
  intro pins s σ H Q I h
  refine Subscript_ (thn (he pins s σ H _ I h) fun v s1 ⟨x, H1, I1, r1, q1⟩ => ?_)
  refine wpAny_Slice (thn (hl pins s1 σ H1 _ I1 q1) fun vl s2 ⟨l, H2, I2, pl, q2⟩ => thn (hu pins s2 σ H2 _ I2 q2) fun vu s3 ⟨u, H3, I3, pu, q3⟩ => ?_)
  rw [evalPart_none]
  refine wpAny_pure ?_
  have I4 : Inv X pins σ H3 { s3 with heap := s3.heap.push { cls := .type "slice", data := .fields #[vl, vu, .none] } } := I3.kept (t' := s3.toks) fun b ob q => Heap.get?_push_of_some _ q
  obtain ⟨T, id, hT, ht, hg⟩ := hr pins { s3 with heap := s3.heap.push { cls := .type "slice", data := .fields #[vl, vu, .none] } } σ H3 x v vl vu l u s3.heap.objs.size Q I4 r1 (Heap.IsSliceOf.new ..) pl pu q3
  show wpAny (model X.prog X.w) X.A (subscriptTail e (.Slice lo hi none p2) v (.ref s3.heap.objs.size)) (EP X pins σ Q) X.xe { s3 with heap := s3.heap.push { cls := .type "slice", data := .fields #[vl, vu, .none] } }
  exact tail_any (ops := [.ref s3.heap.objs.size, v]) ht hT hg (by with_unfolding_all rfl)

/-- the items of xs[lo:hi] -/
def cutV (xs : List V) (lo hi : Option Int) : List V := (xs.drop (HT.sIx xs.length 0 lo)).take (HT.sIx xs.length xs.length hi - HT.sIx xs.length 0 lo)
theorem cutV_length (xs : List V) (lo hi : Option Int) : (cutV xs lo hi).length ≤ xs.length := by
  unfold cutV
  rw [List.length_take, List.length_drop]
  omega
/-! ### t < u, t + u -/
end
end L2

namespace L2
open PySem PySem.Spec PyProof.Rows

/-! ### places -/
/-- the place that an index of any sign means -/
def ixN (n : Nat) (i : Int) : Option Nat := if 0 ≤ i then (if i < n then some i.toNat else none) else if -(n : Int) ≤ i then some (i + n).toNat else none
def atI {α : Type} (xs : List α) (i : Int) : Option α := (ixN xs.length i).bind fun j => xs[j]?
theorem ixN_seq {n : Nat} {i : Int} {j : Nat} (h : ixN n i = some j) : seqIndex? i n = some j ∧ j < n ∧ -(n : Int) ≤ i ∧ i < n := by
  unfold ixN at h
  by_cases h0 : 0 ≤ i
  · rw [if_pos h0] at h
    by_cases h1 : i < n
    · rw [if_pos h1] at h
      have e : i.toNat = j := Option.some.inj h
      exact ⟨by rw [seqIndex_of h0 h1, e], by omega, by omega, h1⟩
    · rw [if_neg h1] at h; cases h
  · rw [if_neg h0] at h
    by_cases h1 : -(n : Int) ≤ i
    · rw [if_pos h1] at h
      have e : (i + n).toNat = j := Option.some.inj h
      exact ⟨by rw [seqIndex_neg (by omega) h1, e], by omega, h1, by omega⟩
    · rw [if_neg h1] at h; cases h
theorem atI_get {α : Type} {xs : List α} {i : Int} {v : α} (h : atI xs i = some v) : ∃ j, seqIndex? i xs.length = some j ∧ xs[j]? = some v ∧ j < xs.length ∧ -(xs.length : Int) ≤ i ∧ i < xs.length := by
  unfold atI at h
  cases e : ixN xs.length i with
  | none => rw [e] at h; cases h
  | some j =>
    rw [e] at h
    obtain ⟨h1, h2, h3, h4⟩ := ixN_seq e
    exact ⟨j, h1, h, h2, h3, h4⟩
theorem atI_nat {α : Type} {xs : List α} {j : Nat} {v : α} (h : xs[j]? = some v) : atI xs (j : Int) = some v := by
  have hj : j < xs.length := (List.getElem?_eq_some_iff.mp h).1
  have e : ixN xs.length (j : Int) = some j := by
    unfold ixN
    rw [if_pos (by omega), if_pos (by omega)]; simp
  unfold atI; rw [e]; exact h
/-! ### what may be subscripted -/
/-- what stands as an index of a plain subscript -/
def PlainIx (b : Expr) : Prop := ∀ o i, subscripted b false o i = operate [o, i] (getItem o i)
/-- a subscript by values -/
def IxR (X : Cx) (r : R2) : Prop :=
  ∀ (value slice : Expr) (pins : List (Addr × Obj)) (s : Shared) (σ : St) (H : Hp) (x y : V) (v u : Value) (Q : VK), Inv X pins σ H s → RelV x v → RelV y u → r x y H Q →
    subscripted slice false v u = operate [v, u] (getItem v u) → wpAny (model X.prog X.w) X.A (subscriptTail value slice v u) (EP X pins σ Q) X.xe s
/-- a call of a builtin's method by values: the receiver, the arguments -/
def MtR (X : Cx) (id : String) (r : V → List V → Hp → VK → Prop) : Prop :=
  ∀ (pins : List (Addr × Obj)) (s : Shared) (σ : St) (H : Hp) (x : V) (xs : List V) (v : Value) (us : List Value) (Q : VK), Inv X pins σ H s → RelV x v → Vals xs us → r x xs H Q →
    wpAny (model X.prog X.w) X.A (call (.builtin id) (v :: us)) (EP X pins σ Q) X.xe s
section
variable {X : Cx} {a b : Expr} {ta tb : TE} {pos : Pos}
/-- a[b] -/
theorem pe_ix {r : R2} (hr : IxR X r) (ha : PE X a ta) (hb : PE X b tb) (hs : PlainIx b) : PE X (.Subscript a b pos) (tOp r ta tb) := by
  intro pins s σ H Q I h
  exact Subscript_ (binT ha hb I h fun v u s2 x y H2 I2 rx ry q => hr a b pins s2 σ H2 x y v u Q I2 rx ry q (hs _ _))

def rIxL (K : PySem.W.Frag) : R2 := fun x y H Q => ∃ p xs i v, x = .ref p ∧ y = .int i ∧ SqL K H p xs ∧ atI xs i = some v ∧ Q v H
def rIxT (K : PySem.W.Frag) : R2 := fun x y H Q => ∃ p xs i v, x = .ref p ∧ y = .int i ∧ SqT K H p xs ∧ atI xs i = some v ∧ Q v H
theorem ix_list : IxR X (rIxL X.K) := by
  intro value slice pins s σ H x y v u Q I rx ry h hs
  obtain ⟨p, xs, i, z, rfl, rfl, hq, he, q⟩ := h
  cases rx
  obtain ⟨t, rfl⟩ := ry
  obtain ⟨its, r, pl, hz⟩ := I.list hq
  obtain ⟨j, h1, h2, h3, h4, h5⟩ := atI_get he
  obtain ⟨w, ew, rw'⟩ := r.get h2
  have hl := r.length
  have hn := line63
  have fin : EP X pins σ Q w s := ⟨z, H, I, rw', q⟩
  by_cases h0 : 0 ≤ i
  · have hj : i.toNat = j := by
      rw [seqIndex_of h0 h5] at h1
      exact Option.some.inj h1
    exact item_listR pl.isList h0 (by omega) (by rw [hj]; simpa using ew) fin hs
  · have hj : (i + (its.toArray.size : Int)).toNat = j := by
      rw [seqIndex_neg (by omega) h4] at h1
      rw [List.size_toArray, ← hl]
      exact Option.some.inj h1
    exact subscriptTail_builtinR (x := w) pl.isList.typeIs slot_list_getitem.lookup
      (wpAny_getItem_list_neg (Q := fun r s' => r = w ∧ EP X pins σ Q r s') pl.isList (by omega) (by rw [List.size_toArray] <;> omega) (by omega) (by rw [hj]; simpa using ew) ⟨rfl, fin⟩) hs
theorem ix_tup : IxR X (rIxT X.K) := by
  intro value slice pins s σ H x y v u Q I rx ry h hs
  obtain ⟨p, xs, i, z, rfl, rfl, hq, he, q⟩ := h
  cases rx
  obtain ⟨t, rfl⟩ := ry
  obtain ⟨its, r, pl, hz⟩ := I.tuple hq
  obtain ⟨j, h1, h2, h3, h4, h5⟩ := atI_get he
  obtain ⟨w, ew, rw'⟩ := r.get h2
  have hl := r.length
  have hn := line63
  have fin : EP X pins σ Q w s := ⟨z, H, I, rw', q⟩
  exact subscriptTail_builtinR (x := w) pl.typeIs slot_tuple_getitem.lookup
    (getItem_tuple (j := j) (Q := fun r s' => r = w ∧ EP X pins σ Q r s') pl (by omega) (by omega) (by rw [List.size_toArray, ← hl]; exact h1) (by simpa using ew) ⟨rfl, fin⟩) hs
/-! ### xs[i] = v, any sign -/
/-- the list's object behind a store -/
theorem mapSeq_set (its : List Value) (n j : Nat) (u : Value) : Obj.mapSeq (·.setIfInBounds j u) { cls := .type "list", data := .seq its.toArray n } = { cls := .type "list", data := .seq (its.set j u).toArray n } := by
  simp [Obj.mapSeq]
theorem Inv.lst {pins : List (Addr × Obj)} {σ : St} {H : Hp} {s : Shared} {p : Addr} {xs : List V} (I : Inv X pins σ H s) (h : H p = some (.lst xs)) :
    ∃ (its : List Value) (n : Nat), Vals xs its ∧ s.heap.get? p = some { cls := .type "list", data := .seq its.toArray n } ∧ xs.length ≤ sizeLine := by
  obtain ⟨z, its, n, r, e⟩ := I.hok p _ h
  exact ⟨its, n, r, e, z⟩
/-- the list at p is written by an update of its object -/
theorem Inv.lstUpd {pins : List (Addr × Obj)} {σ : St} {H : Hp} {s : Shared} {p : Addr} {xs ys : List V} {its its' : List Value} {n n' : Nat} {f : Obj → Obj} (I : Inv X pins σ H s) (h : H p = some (.lst xs))
    (ho : s.heap.get? p = some { cls := .type "list", data := .seq its.toArray n }) (hf : f { cls := .type "list", data := .seq its.toArray n } = { cls := .type "list", data := .seq its'.toArray n' }) (r : Vals ys its') (hz : ys.length ≤ sizeLine) (t : Nat) :
    Inv X pins σ (upd H p (.lst ys)) { s with heap := s.heap.update p f, toks := t } := by
  have e : (s.heap.update p f).get? p = some { cls := .type "list", data := .seq its'.toArray n' } := by
    rw [Heap.get?_update_self f ho (by rw [hf] <;> rfl), hf]
  refine I.write (x := p) (e := p) (by rw [h]; trivial) (.inl rfl) (fun b u hb q => (Heap.get?_update_other _ _ (Ne.symm hb)).trans q) ⟨_, e⟩ ?_
  exact ⟨hz, its', n', r, e⟩
def rSetL : V → V → V → Hp → (Hp → Prop) → Prop := fun o i v H Q => ∃ p xs k j, o = .ref p ∧ i = .int k ∧ H p = some (.lst xs) ∧ ixN xs.length k = some j ∧ Q (upd H p (.lst (xs.set j v)))
theorem set_list : PSet X rSetL := by
  intro pins s σ H o i v ov iv u Q I ro ri rv h
  obtain ⟨p, xs, k, j, rfl, rfl, hp, hj, q⟩ := h
  cases ro
  obtain ⟨t, rfl⟩ := ri
  obtain ⟨its, n, r, ho, hz⟩ := I.lst hp
  obtain ⟨h1, h2, h3, h4⟩ := ixN_seq hj
  have hl := r.length
  have hn := line63
  have I' : Inv X pins σ (upd H p (.lst (xs.set j v))) { s with heap := s.heap.update p (Obj.mapSeq (·.setIfInBounds j u)) } :=
    I.lstUpd hp ho (mapSeq_set its n j u) (r.set rv j) (by rw [List.length_set]; exact hz) s.toks
  by_cases h0 : 0 ≤ k
  · have hk : k.toNat = j := by
      rw [seqIndex_of h0 h4] at h1
      exact Option.some.inj h1
    exact PySem.W.ki_setAt ho h0 (by omega) (by rw [List.size_toArray, ← hl]; exact h4) (by rw [hk]; exact ⟨_, I', q⟩)
  · have hk : (k + (its.toArray.size : Int)).toNat = j := by
      rw [seqIndex_neg (by omega) h3] at h1
      rw [List.size_toArray, ← hl]
      exact Option.some.inj h1
    exact PySem.W.ki_setBack ho (by omega) (by rw [List.size_toArray, ← hl]; exact h3) (by omega) (by rw [hk]; exact ⟨_, I', q⟩)

/-! ### slices -/
theorem slice_bounds (lo hi : Option Int) (n : Nat) : (sliceBounds lo hi none n).1 = ((HT.sIx n 0 lo : Nat) : Int) ∧ (sliceBounds lo hi none n).2.1 = ((HT.sIx n n hi : Nat) : Int) ∧ (sliceBounds lo hi none n).2.2 = 1 := by
  refine ⟨?_, ?_, rfl⟩
  · cases lo with
    | none => simp [sliceBounds, HT.sIx]
    | some i =>
      simp only [sliceBounds, HT.sIx, Option.getD_none, show (1 : Int) > 0 by decide, if_true]
      by_cases h : i < 0
      · simp only [h, if_true] <;> omega
      · simp only [h, if_false] <;> omega
  · cases hi with
    | none => simp [sliceBounds, HT.sIx]
    | some i =>
      simp only [sliceBounds, HT.sIx, Option.getD_none, show (1 : Int) > 0 by decide, if_true]
      by_cases h : i < 0
      · simp only [h, if_true] <;> omega
      · simp only [h, if_false] <;> omega
theorem slicePick_cut (its : List Value) (lo hi : Option Int) : slicePick its.toArray lo hi none = ((its.drop (HT.sIx its.length 0 lo)).take (HT.sIx its.length its.length hi - HT.sIx its.length 0 lo)).toArray := by
  obtain ⟨h1, h2, h3⟩ := slice_bounds lo hi its.toArray.size
  unfold slicePick
  rw [h1, h2, h3]
  simp only [sliceRange_one, pick_run, List.size_toArray] <;> rfl
/-- xs[lo:hi] of a list: a new list -/
def rSlL (K : PySem.W.Frag) : V → Option Int → Option Int → Hp → VK → Prop := fun x lo hi H Q => ∃ a xs, x = .ref a ∧ SqL K H a xs ∧ ∀ p, H p = none → Q (.ref p) (upd H p (.lst (cutV xs lo hi)))
theorem sl_list : SlR X (rSlL X.K) := by
  intro pins s σ H x v vl vu lo hi sl Q I rx hs pl pu h
  obtain ⟨a, xs, rfl, hx, q⟩ := h
  cases rx
  obtain ⟨its, r, ht, hz⟩ := I.list hx
  have hlen := r.length
  refine ⟨"list", _, slot_list_getitem.lookup, ht.isList.typeIs, ?_⟩
  refine wpAny_getItem_list_slice ht.isList hs pl pu .none (by simp) ?_ (by rw [List.size_toArray] <;> omega)
  rw [slicePick_cut, ← hlen]
  refine ⟨.ref s.heap.objs.size, _, I.laid (t' := s.toks) (o := .lst (cutV xs lo hi)) (fun b ob q => Heap.get?_push_of_some _ q) (Nat.le_refl _) ?_, rfl, q _ (I.hok.fresh (Nat.le_refl _))⟩
  exact ⟨Nat.le_trans (cutV_length xs lo hi) hz, _, 0, (r.drop (HT.sIx xs.length 0 lo)).take (HT.sIx xs.length xs.length hi - HT.sIx xs.length 0 lo), Heap.get?_push_size _ rfl⟩

/-! ### in, not in: flat items -/
/-! ### len, list(x), tuple(x) of any list or tuple that is read -/
theorem call_len_seq : CallR X (.builtin "len") (fun xs H Q => ∃ p ys, xs = [.ref p] ∧ (SqL X.K H p ys ∨ SqT X.K H p ys) ∧ Q (.int ys.length) H) := by
  intro pins s σ H xs us Q I r h
  obtain ⟨p, ys, rfl, hq, q⟩ := h
  obtain ⟨u, rfl, rx⟩ := vals1 r
  cases rx
  have hn := line63
  rcases hq with hq | hq
  · obtain ⟨its, r', pl, hz⟩ := I.list hq
    have hlen := r'.length
    exact Calls.call_len_list pl.isList (by simp only [List.size_toArray] <;> omega) ⟨.int ys.length, H, I.tok _, ⟨s.toks + 1, by rw [List.size_toArray, hlen]⟩, q⟩
  · obtain ⟨its, r', pl, hz⟩ := I.tuple hq
    have hlen := r'.length
    exact len_tuple pl (by simp only [List.size_toArray] <;> omega) ⟨.int ys.length, H, I.tok _, ⟨s.toks + 1, by rw [List.size_toArray, hlen]⟩, q⟩
theorem call_list_of : CallR X (.type "list") (fun xs H Q => ∃ p ys, xs = [.ref p] ∧ (SqL X.K H p ys ∨ SqT X.K H p ys) ∧ ∀ l, H l = none → Q (.ref l) (upd H l (.lst ys))) := by
  intro pins s σ H xs us Q I r h
  obtain ⟨p, ys, rfl, hq, q⟩ := h
  obtain ⟨u, rfl, rx⟩ := vals1 r
  cases rx
  have fin : ∀ (its : List Value), Vals ys its → ys.length ≤ sizeLine → ∀ (h' : Heap) (c' : Nat), (∀ b o', s.heap.get? b = some o' → h'.get? b = some o') →
      h'.get? s.heap.objs.size = some { cls := .type "list", dict := none, data := .seq its.toArray c', slots := #[] } → EP X pins σ Q (.ref s.heap.objs.size) { s with heap := h' } := fun its r' hz h' c' kp e =>
    ⟨.ref s.heap.objs.size, _, I.laid (t' := s.toks) kp (Nat.le_refl _) (show ObjOk X.prog X.w _ h' _ (.lst ys) from ⟨hz, its, c', r', e⟩), rfl, q _ (I.hok.fresh (Nat.le_refl _))⟩
  rcases hq with hq | hq
  · obtain ⟨its, r', pl, hz⟩ := I.list hq
    have hlen := r'.length
    obtain ⟨o, ho, hc, n, hd⟩ := pl.isList
    exact call_list_seq p (.inl rfl) ho hc hd (fun h' c' kp e => fin its r' hz h' c' kp e) (by simp only [List.size_toArray] <;> omega)
  · obtain ⟨its, r', pl, hz⟩ := I.tuple hq
    have hlen := r'.length
    obtain ⟨o, ho, hc, n, hd⟩ := pl
    exact call_list_seq p (.inr rfl) ho hc hd (fun h' c' kp e => fin its r' hz h' c' kp e) (by simp only [List.size_toArray] <;> omega)
theorem call_tuple_of : CallR X (.type "tuple") (fun xs H Q => ∃ p ys, xs = [.ref p] ∧ ((SqL X.K H p ys ∧ ∀ l, H l = none → Q (.ref l) (upd H l (.tup ys))) ∨ (SqT X.K H p ys ∧ Q (.ref p) H))) := by
  intro pins s σ H xs us Q I r h
  obtain ⟨p, ys, rfl, h⟩ := h
  obtain ⟨u, rfl, rx⟩ := vals1 r
  cases rx
  rcases h with ⟨hq, q⟩ | ⟨hq, q⟩
  · obtain ⟨its, r', pl, hz⟩ := I.list hq
    have hlen := r'.length
    refine call_tuple_list pl.isList (fun h' kp => ?_) (by simp only [List.size_toArray] <;> omega)
    have I1 : Inv X pins σ H { s with heap := h' } := I.kept (t' := s.toks) kp
    have I2 : Inv X pins σ (upd H h'.objs.size (.tup ys)) { s with heap := h'.push { cls := .type "tuple", data := .seq its.toArray } } :=
      I1.laid (t' := s.toks) (fun b o e => Heap.get?_push_of_some _ e) (Nat.le_refl _) (show ObjOk X.prog X.w _ _ _ (.tup ys) from ⟨hz, its, r', IsTup.new _ _⟩)
    exact ⟨.ref h'.objs.size, _, I2, rfl, q _ (I1.hok.fresh (Nat.le_refl _))⟩
  · obtain ⟨its, r', pl, hz⟩ := I.tuple hq
    exact call_tuple_same pl ⟨.ref p, H, I, rfl, q⟩

/-! ### the call of a builtin's method: o.m(..) -/
/-- the value is of that builtin type -/
def tyV (K : PySem.W.Frag) (T : String) (x : V) (H : Hp) : Prop := match x with
  | .str _ => T = "str"
  | .int _ => T = "int"
  | .ref p => (T = "list" ∧ ∃ xs, SqL K H p xs) ∨ (T = "tuple" ∧ ∃ o, K.lookup p = some o ∧ o.cls = .type "tuple" ∧ o.dict = none) ∨
      (T = "dict" ∧ ((∃ kvs, H p = some (.dK kvs)) ∨ ∃ kvs, H p = some (.dT kvs))) ∨ (T = "set" ∧ ∃ S n, H p = some (.set S n))
  | _ => False
theorem tyV_is {pins : List (Addr × Obj)} {σ : St} {H : Hp} {s : Shared} {T : String} {x : V} {v : Value} (I : Inv X pins σ H s) (r : RelV x v) (ty : tyV X.K T x H) :
    s.TypeIs v T ∧ ∀ a, v = .ref a → ∃ ob, s.heap.get? a = some ob ∧ ob.dict = none := by
  cases x with
  | str z =>
    obtain ⟨t, rfl⟩ := r
    cases (show T = "str" from ty)
    exact ⟨typeIs_str s z t, fun _ e => nomatch e⟩
  | int i =>
    obtain ⟨t, rfl⟩ := r
    cases (show T = "int" from ty)
    exact ⟨typeIs_int s i t, fun _ e => nomatch e⟩
  | ref p =>
    cases r
    rcases ty with ⟨rfl, xs, hq⟩ | ⟨rfl, o, hk, hc, hd⟩ | ⟨rfl, hk⟩ | ⟨rfl, S, n, hk⟩
    · obtain ⟨its, _, pl, _⟩ := I.list hq
      refine ⟨pl.isList.typeIs, fun a e => ?_⟩
      cases e
      obtain ⟨o, n, e, c, hd, _⟩ := pl
      exact ⟨o, e, hd⟩
    · refine ⟨⟨o, I.kIn p o hk, hc⟩, fun a e => ?_⟩
      cases e
      exact ⟨o, I.kIn _ o hk, hd⟩
    · have z : ∃ o, s.heap.get? p = some o ∧ o.ExactDict := by
        rcases hk with ⟨kvs, hk⟩ | ⟨kvs, hk⟩
        · obtain ⟨_, _, _, _, o, _, _, e, ex, _⟩ := I.hok p _ hk
          exact ⟨o, e, ex⟩
        · obtain ⟨_, _, _, _, o, _, _, e, ex, _⟩ := I.hok p _ hk
          exact ⟨o, e, ex⟩
      obtain ⟨o, e, ex⟩ := z
      refine ⟨⟨o, e, ex.1⟩, fun a e2 => ?_⟩
      cases e2
      exact ⟨o, e, ex.2.1⟩
    · obtain ⟨o, _, _, _, e, ex, _⟩ := I.hok p _ hk
      refine ⟨⟨o, e, ex.1⟩, fun a e2 => ?_⟩
      cases e2
      exact ⟨o, e, ex.2.1⟩
  | _ => exact False.elim ty
def tBM (K : PySem.W.Frag) (T : String) (r : V → List V → Hp → VK → Prop) (to : TE) (t : TA) : TE := fun σ H Q => to σ H fun x H1 => tyV K T x H1 ∧ t σ H1 fun xs H2 => r x xs H2 Q
variable {o e : Expr} {es : List Expr} {to : TE} {t : TA} {name : Str} {apos cpos : Pos} {T id : String} {r : V → List V → Hp → VK → Prop}
theorem pe_bm (pa : PlainAttrs T) (slot : Slot T name id) (hty : typeOf (.builtin id) = pure (.type "method_descriptor")) (hm : MtR X id r) (ho : PE X o to) (ha : PA X (e :: es) t)
    (hbase : attributeBase o name X.env (eval o X.env) = eval o X.env := by rfl)
    (hfew : ((backTo cpos (starEach (e :: es) X.env)).all (fun x => !x.1) && (backToKw cpos (keywordEach [] X.env)).all (fun x => x.1.isSome)
      && decide ((e :: es).length + ([] : List Keyword).length + (if ([] : List Keyword).isEmpty then 0 else 1) < 30)) = true := by rfl)
    (hline : (apos.endLine == cpos.line) = true := by rfl) (hs : starEach (e :: es) X.env = (false, eval e X.env) :: starEach es X.env := by rfl) (hplain : (backTo cpos (starEach es X.env)).any (·.1) = false := by rfl) :
    PE X (.Call (.Attribute o name apos) (e :: es) [] cpos) (tBM X.K T r to t) := by
  intro pins s σ H Q I h
  refine wpAny_Call_method_late hbase hfew hline rfl (thn (ho pins s σ H _ I h) fun v s1 ⟨x, H1, I1, r1, ty, q1⟩ => ?_)
  obtain ⟨h1, h2⟩ := tyV_is I1 r1 ty
  refine ⟨T, id, pa, slot, hty, h1, h2, ?_⟩
  have hA := ha cpos pins s1 σ H1 _ I1 q1
  rw [hs] at hA ⊢
  refine Calls.callWith_builtin (by show (false || (backTo cpos (starEach es X.env)).any (·.1)) = false; rw [hplain] <;> rfl) (Calls.evalArgs_plain ?_)
  exact thn hA fun us s2 ⟨vs, H2, I2, r2, q2⟩ => hm pins s2 σ H2 x vs v us Q I2 r1 r2 q2
/- xs.append(e), list.index on a module's tuple .. are MtR facts of 06m -/
end
end L2

namespace L2
open PySem PySem.Spec PyProof.Rows

def MtM (X : Cx) (id : String) (r : V → List V → Hp → VK → Prop) : Prop :=
  ∀ (pins : List (Addr × Obj)) (s : Shared) (σ : St) (H : Hp) (x : V) (xs : List V) (v : Value) (us : List Value) (Q : VK), Inv X pins σ H s → RelV x v → Vals xs us → r x xs H Q →
    wpAny (model X.prog X.w) X.A (call (.builtin id) (v :: us)) (EP X pins σ Q) X.xe s

/-! ### lists of values -/
theorem Vals.one : ∀ {x : V} {us : List Value}, Vals [x] us → ∃ u, us = [u] ∧ RelV x u
  | _, _, .cons r .nil => ⟨_, rfl, r⟩
theorem Vals.two : ∀ {x y : V} {us : List Value}, Vals [x, y] us → ∃ u v, us = [u, v] ∧ RelV x u ∧ RelV y v
  | _, _, _, .cons r (.cons q .nil) => ⟨_, _, rfl, r, q⟩
section
variable {X : Cx} {pins : List (Addr × Obj)} {σ : St} {H : Hp} {s : Shared} {l b : Addr} {xs ys zs : List V}

/-! ### the two steps: a tracked list is rewritten, a new list is laid -/
theorem Inv.lset {its its' : List Value} {n : Nat} {f : Array Value → Array Value} {t' : Nat} (I : Inv X pins σ H s) (hH : H l = some (.lst xs))
    (e : s.heap.get? l = some { cls := .type "list", data := .seq its.toArray n }) (hf : f its.toArray = its'.toArray) (hv : Vals ys its') (hz : ys.length ≤ sizeLine) :
    Inv X pins σ (upd H l (.lst ys)) { s with heap := s.heap.update l (Obj.mapSeq f), toks := t' } := by
  have q := PySem.IsL.update e f
  rw [hf] at q
  refine I.write (x := l) (e := l) (by rw [hH]; exact trivial) (.inl rfl) (fun b' u hb hu => (Heap.get?_update_other s.heap (Obj.mapSeq f) (Ne.symm hb)).trans hu) ⟨_, q⟩ ?_
  exact ⟨hz, its', _, hv, q⟩
theorem Inv.lnew {its : List Value} {t' : Nat} (I : Inv X pins σ H s) (hv : Vals ys its) (hz : ys.length ≤ sizeLine) :
    Inv X pins σ (upd H s.heap.objs.size (.lst ys)) { s with heap := s.heap.push { cls := .type "list", data := .seq its.toArray }, toks := t' } :=
  I.laid (fun _ _ q => Heap.get?_push_of_some _ q) (Nat.le_refl _) ⟨hz, its, 0, hv, Heap.get?_push_size _ rfl⟩
theorem Inv.fresh (I : Inv X pins σ H s) : H s.heap.objs.size = none := I.hok.fresh (Nat.le_refl _)
theorem Inv.lstM (I : Inv X pins σ H s) (hH : H l = some (.lst xs)) : xs.length ≤ sizeLine ∧ ∃ (its : List Value) (n : Nat), Vals xs its ∧ xs.length = its.length ∧ s.heap.get? l = some { cls := .type "list", data := .seq its.toArray n } := by
  obtain ⟨z, its, n, r, e⟩ := I.hok l _ hH
  exact ⟨z, its, n, r, r.length, e⟩

end

section
variable {X : Cx}

/-! ### methods -/
def rAppend : V → List V → Hp → VK → Prop := fun x vs H Q => ∃ l xs y, x = .ref l ∧ vs = [y] ∧ H l = some (.lst xs) ∧ xs.length < sizeLine ∧ Q .non (upd H l (.lst (xs ++ [y])))
theorem mt_append : MtM X "list.append" rAppend := by
  intro pins s σ H x vs v us Q I rx rv h
  obtain ⟨l, xs, y, rfl, rfl, hH, hz, q⟩ := h
  cases rx
  obtain ⟨u, rfl, ru⟩ := rv.one
  obtain ⟨z, its, n, r, hl, e⟩ := I.lstM hH
  refine call_meets F.slot_list_append ⟨_, e, rfl⟩ F.entry_list_append (F.args_list_append_2 _ _) (PySem.list_append l its.toArray n u (by rw [List.size_toArray]; omega)) ⟨e, ?_⟩
  refine ⟨.non, _, I.lset (its' := its ++ [u]) hH e (by simp) (r.append (.cons ru .nil)) ?_, rfl, q⟩
  rw [List.length_append, List.length_singleton]
  omega

/-! ### list + list, list += list, list * int -/
def rCat : R2 := fun x y H Q => ∃ l b xs zs, x = .ref l ∧ y = .ref b ∧ H l = some (.lst xs) ∧ H b = some (.lst zs) ∧ xs.length + zs.length ≤ sizeLine ∧ ∀ p, H p = none → Q (.ref p) (upd H p (.lst (xs ++ zs)))
theorem op_cat : OpR X (binaryOp .Add) rCat := by
  intro pins s σ H x y v u Q I rx ry h
  obtain ⟨l, b, xs, zs, rfl, rfl, hH, hB, hz, q⟩ := h
  cases rx
  cases ry
  obtain ⟨z, its, n, r, hl, e⟩ := I.lstM hH
  obtain ⟨z2, its2, n2, r2, hl2, e2⟩ := I.lstM hB
  refine PySem.P.add_list e e2 ?_ (by rw [List.size_toArray, List.size_toArray]; omega)
  have ea : its.toArray ++ its2.toArray = (its ++ its2).toArray := by simp
  rw [ea]
  exact ⟨.ref _, _, I.lnew (t' := s.toks) (r.append r2) (by rw [List.length_append]; omega), rfl, q _ I.fresh⟩
/-! ### del xs[i] -/
end

/-! ### xs[a:b] = ys -/
section
variable {prog : Program} {w : World} {A : Around} {E : Value → Shared → Prop} {s : Shared}
end

section
variable {X : Cx}
end
end L2

namespace Att
open PySem PySem.W PySem.Calls PyProof.Rows

/-! ### the script -/
theorem ints_of_wellAll {P : Params} {h : Heap} : ∀ (ns : List Int) (vs : List Value), WellAll P h vs (ns.map WData.int) → IntsAre vs ns := by
  intro ns
  induction ns with
  | nil =>
    intro vs w
    rw [List.map_nil] at w
    cases w
    exact .nil
  | cons n ns ih =>
    intro vs w
    rw [List.map_cons] at w
    cases w with
    | cons a b =>
      cases a
      exact .cons _ _ (ih _ b)

theorem script_of {l : OpenLaw} {n : Nat} (hn : l.most = some n) {P : Params} {h : Heap} {args : List WData} {vals : List Value}
    (hpre : l.row.toRowW.claim.pre args = true) (hwl : WellAll P h vals args) :
    ∃ a vs ns, vals = [Value.ref a] ∧ args = [WData.list (ns.map WData.int)] ∧ h.get? a = some { cls := .type "list", data := .seq vs.toArray } ∧ IntsAre vs ns ∧ ns.length ≤ n := by
  have hsh : WShape.hasAll [] args [.list .int] = true := (pre_splitW hpre).1
  have hc : l.pre.holds [] { args := args } = true := (pre_splitW hpre).2
  obtain ⟨d, r, rfl, h1, h2⟩ := hasAllW_cons hsh
  obtain rfl := hasAllW_nil h2
  obtain ⟨xs, rfl, h3⟩ := hasW_list h1
  obtain ⟨ns, rfl⟩ := items_int h3
  have hlen : ns.length ≤ n := by
    unfold OpenLaw.pre at hc
    have h4 : (WTm.not (.lt (.lit (.int (n : Int))) (.len (.arg 0)))).holds [] { args := [.list (ns.map .int)] } = true := by
      have h4 := (holds_andW hc).1
      rw [hn] at h4
      exact h4
    have h5 := condW_of h4 (w_not (w_lt w_lit (w_len_list (w_arg rfl))))
    rw [List.length_map] at h5
    refine Nat.le_of_not_lt fun q => ?_
    have q' : (n : Int) < ((ns.length : Nat) : Int) := by omega
    first
      | (rw [decide_eq_true q'] at h5; exact absurd h5 (by decide))
      | (simp at h5; omega)
  cases hwl with
  | cons w1 w2 =>
    cases w2
    cases w1 with
    | list ho hall => exact ⟨_, _, ns, rfl, rfl, ho, ints_of_wellAll ns _ hall, hlen⟩

theorem post_true (l : OpenLaw) (args : List WData) : l.row.toRowW.claim.post args (.bool true) args = true :=
  postW_of (r := l.row.toRowW) (X := (true == true))
    (show WShape.has [] (.bool true) .bool = true by first | rfl | decide | simp [WShape.has, WShape.arms, WShape.armsAll])
    (show (WTm.eq .res (.lit (.bool true))).value [] { args := args, res := some (.bool true), after := args } = some (.bool (true == true)) from w_eq_bool (w_res rfl) w_lit) rfl

/-! ### the attachment: holds_open's last premise (the goal 'hc' behind k_head) from a wpAny of the law's body -/
/-- the same from a codeAny of the CALL (for a layer whose function contracts speak of calls) -/
theorem attach_call {l : OpenLaw} {n : Nat} {q : Program} {loose : List Str} {XP : (Str → Option Value) → Heap → Prop} {YP : World → Heap → Prop} {d : DefRec}
    (hn : l.most = some n) (hdf : d.params.defaults = [])
    (call : ∀ (w : World) (s₀ s₁ : Shared) (mg mb : Str → Option Value) (fa : Addr) (o : Obj) (pm cd doc : Value) (a : Addr) (vs : List Value) (ns : List Int),
      Ground q loose [] XP w s₀ mg mb s₁.heap → YP w s₁.heap →
      s₁.heap.get? fa = some o → o.data = .func (docDef d.name d.params d.body d.scope pm cd doc) → s₁.heap.CodeRec cd d.name → mg d.name = some (.ref fa) →
      s₁.heap.get? a = some { cls := .type "list", data := .seq vs.toArray } → IntsAre vs ns → ns.length ≤ n → s₁.gens = #[] →
      codeAny (model l.prog w) callerA (.call (.ref fa) ⟨[.ref a], []⟩) (fun r s' => r = .ok (.ret (.bool true)) ∧ OldK s₁.heap s'.heap ∧ s'.os = s₁.os ∧ AllBare s'.gens) s₁) :
    WalkO q loose XP YP l.row.toRowW d [] (fun f vs => PySem.call f vs) := by
  intro w s₀ s₁ mg mb G Y fa o pm cd doc dV kV ho hd hcd hD hmg hg args vals as hpre hlay hrd hwl hlo
  obtain rfl : dV = .none := Dflts.none hD hdf
  obtain rfl : kV = .none := Dflts.noKw hD
  obtain ⟨a, vs, ns, rfl, rfl, hobj, hints, hlen⟩ := script_of hn hpre hwl
  refine enter_call (codeAny_mono (call w s₀ s₁ mg mb fa o pm cd doc a vs ns G Y ho (fd_plain hd) hcd hmg hobj hints hlen hg) fun r s' hq => ?_)
  obtain ⟨rfl, h2, h3, h4⟩ := hq
  exact ⟨.inl ⟨.bool true, .bool true, [], rfl, fun _ => rfl, .bool true, post_true l _, fun _ => ⟨List.Pairwise.nil, fun _ hm => (nomatch hm)⟩⟩, h2, h3, h4⟩

/-! ### rules over ANY heap (no ledger) from facts about the written part K: the library's own take a ledger (News) for what they write -/
section
variable {prog : Program} {w : World} {A : Around} {E : Value → Shared → Prop} {s : Shared} {K : Frag}

/-! the whole heap as the ledger: makes every rule that writes through a ledger a rule over any heap -/
end
end Att

namespace L2
open PySem PySem.Spec PyProof.Rows

theorem vals_ints : ∀ {vs : List Value} {ns : List Int}, IntsAre vs ns → Vals (ns.map V.int) vs
  | _, _, .nil => .nil
  | _, _, .cons n t h => .cons ⟨t, rfl⟩ (vals_ints h)

/-- nothing is tracked but the script, known to the object (or it is an object of the module) -/
def Only (H : Hp) : Prop := ∀ b, H b = none ∨ ∃ o xs, H b = some (.frz o (.lst xs))

/-- THE HEAD: the law's promise, at the heap behind the top. F, the promise of the law's def, may use that base is part of the heap (so K.In base, base.Ns mainGlobals mg stand in Mod) -/
theorem law_call {P : Program} {w : World} {K : PySem.W.Frag} {mg mb : Str → Option Value} {CX : CXT} {k : Nat} {fa a : Addr} {fd : FuncData} {x : Str} {sp : Sp} {s₁ : Shared} {vs : List Value} {ns : List Int}
    (KX : K.In s₁.heap) (hns : s₁.heap.Ns mainGlobals mg) (hb : s₁.heap.Ns builtinsNs mb) (hbb : ∀ x : Str, x ≠ "__name__" → mb x = bootBuiltins x) (hlim : s₁.heap.NoLimit) (hg : s₁.gens = #[])
    (ha : s₁.heap.get? a = some { cls := .type "list", data := .seq vs.toArray }) (hi : IntsAre vs ns) (hl : ns.length ≤ sizeLine) (hr : Room k callerA)
    (F : ∀ base : Heap, K.In base → base.Ns mainGlobals mg → FnOk P w K mg base CX k fa fd [x] sp) (hbind : ∀ (s : Shared) (u : Value), BindsTo s fd ⟨[u], []⟩ [(x, u)])
    (hsp : ∀ H : Hp, Only H → SqL K H a (ns.map V.int) → sp [.ref a] H (fun v _ => v = .bl true) fun _ _ _ => False)
    (hCX : ∀ H e s', CX [] H s₁ (fun _ _ _ => False) e s' → False) :
    codeAny (model P w) callerA (.call (.ref fa) ⟨[.ref a], []⟩) (fun r s' => r = .ok (.ret (.bool true)) ∧ OldK s₁.heap s'.heap ∧ s'.os = s₁.os ∧ AllBare s'.gens) s₁ := by
  have rv := vals_ints hi
  have lenV := hi.length
  -- from an abstract heap in which nothing but the script may be tracked
  have core : ∀ H : Hp, Only H → SqL K H a (ns.map V.int) → HOk P w H s₁.heap → (∀ b, H b ≠ none → b = a) → (H a ≠ none → K.lookup a = none) →
      codeAny (model P w) callerA (.call (.ref fa) ⟨[.ref a], []⟩) (fun r s' => r = .ok (.ret (.bool true)) ∧ OldK s₁.heap s'.heap ∧ s'.os = s₁.os ∧ AllBare s'.gens) s₁ := by
    intro H hO hS hok hA hK
    have base_of : ∀ {b : Addr} {o : Obj}, s₁.heap.get? b = some o → H b = none → (hidT s₁.heap H).get? b = some o := fun e n => hidT_get e n
    have noA : ∀ {b : Addr} {o : Obj} {es : Array DictEntry} {ep : Nat}, s₁.heap.get? b = some o → o.data = .dict es ep → H b = none := fun {b o es ep} e d => by
      cases q : H b with
      | none => rfl
      | some u =>
        have e' : b = a := hA b (by rw [q]; simp)
        subst e'
        rw [ha] at e; cases e
        have d' : Data.seq vs.toArray _ = Data.dict es ep := d
        cases d'
    have nsK : ∀ {b : Addr} {m : Str → Option Value}, s₁.heap.Ns b m → (hidT s₁.heap H).Ns b m := fun {b m} ⟨o, es, ep, e, d, r⟩ => ⟨o, es, ep, base_of e (noA e d), d, r⟩
    have hKb : K.In (hidT s₁.heap H) := fun b o e => base_of (KX b o e) (by
      cases q : H b with
      | none => rfl
      | some u =>
        have e' : b = a := hA b (by rw [q]; simp)
        subst e'
        rw [hK (by rw [q]; simp)] at e; cases e)
    have hM : Mod K mg (hidT s₁.heap H) := ⟨hKb, nsK hns, ⟨mb, nsK hb, hbb⟩, let ⟨mc, h1, h2⟩ := hlim; ⟨mc, nsK h1, h2⟩⟩
    have e0 : Env0 P w K mg (hidT s₁.heap H) callerA [] s₁ H := ⟨rfl, hM, fun b o e => of_hidT e, Nat.le_of_eq (hidT_size _ _), trivial, fun b hb => absurd (show b ∈ ([] : List Addr) from hb) (by simp), hok, .of_eq hg⟩
    refine codeAny_mono ((F _ hKb (nsK hns)).run callerA [] s₁ H ⟨[.ref a], []⟩ [.ref a] [.ref a] _ _ hr e0 (hbind s₁ (.ref a)) (.cons rfl .nil) (hsp H hO hS)) fun r s' h => ?_
    cases r with
    | error e => exact (hCX H e s' h).elim
    | ok fl =>
      cases fl with
      | next => exact False.elim h
      | brk => exact False.elim h
      | cont => exact False.elim h
      | ret u =>
        obtain ⟨v, H', os, bare, un, hok', r', q⟩ := h
        have q' : v = .bl true := q
        subst q'
        obtain rfl : u = Value.bool true := r'
        refine ⟨rfl, OldK.of_keep fun b o e => ?_, os, bare⟩
        cases q : H b with
        | none => exact un.keep b o e q (by intro z; exact absurd (show b ∈ ([] : List Addr) from z) (by simp)) (by simp)
        | some u =>
          rcases hO b with z | ⟨ob, xs, z⟩
          · rw [q] at z; cases z
          · have z2 := un.frzs b ob _ z
            obtain ⟨e1, _⟩ := hok b _ z
            obtain ⟨e2, _⟩ := hok' b _ z2
            rw [e] at e1; cases e1
            exact e2
  cases hk : K.lookup a with
  | some o =>
    -- the script is one of the module's own objects
    have e := KX a o hk
    rw [ha] at e
    cases e
    refine core (fun _ => none) (fun _ => .inl rfl) (.inr ⟨_, vs.toArray, _, hk, rfl, rfl, rfl, by rw [List.size_toArray, lenV]; exact hl, by simpa using rv⟩) (fun b u z => by have z' : (none : Option HO) = some u := z; cases z') (fun b z => absurd rfl z) fun z => absurd rfl z
  | none =>
    refine core (fun b => if b = a then some (.frz { cls := .type "list", data := .seq vs.toArray } (.lst (ns.map V.int))) else none) (fun b => ?_) (.inl (.inr ⟨{ cls := .type "list", data := .seq vs.toArray }, if_pos rfl⟩)) (fun b u z => ?_) (fun b z => ?_) fun _ => hk
    · by_cases hb : b = a
      · exact .inr ⟨_, _, if_pos hb⟩
      · exact .inl (if_neg hb)
    · by_cases hb : b = a
      · have z' := (if_pos hb).symm.trans z
        cases z'
        subst hb
        exact ⟨ha, by rw [List.length_map]; exact hl, vs, _, rv, ha⟩
      · have z' := (if_neg hb).symm.trans z
        cases z'
    · by_cases hb : b = a
      · exact hb
      · exact absurd (if_neg hb) z
end L2

namespace L2
open PySem PySem.Spec PyProof.Rows

/-- the goal that k_head leaves (case hc), from the law's promise. F gives the function object fd (K's own) once, then the promise over every base -/
theorem walk_of {l : PySem.W.OpenLaw} {n k : Nat} {q : Program} {loose : List Str} {XP : (Str → Option Value) → Heap → Prop} {YP : World → Heap → Prop} {d : DefRec} {K : Params → PySem.W.Frag} {CX : World → CXT} {sp : World → Sp} {x : Str}
    (hn : l.most = some n) (hn2 : n ≤ sizeLine) (hdf : d.params.defaults = []) (hr : Room k callerA)
    (hY : ∀ (w : World) (h : Heap), YP w h → (K w.params).In h)
    (F : ∀ (w : World) (mg : Str → Option Value) (fa : Addr) (h : Heap), (K w.params).In h → h.Ns mainGlobals mg → mg d.name = some (.ref fa) →
      ∃ fd : FuncData, (∀ (s : Shared) (u : Value), BindsTo s fd ⟨[u], []⟩ [(x, u)]) ∧
        ∀ base : Heap, (K w.params).In base → base.Ns mainGlobals mg → FnOk l.prog w (K w.params) mg base (CX w) k fa fd [x] (sp w))
    (hsp : ∀ (w : World) (H : Hp) (a : Addr) (ns : List Int), ns.length ≤ n → Only H → SqL (K w.params) H a (ns.map V.int) → sp w [.ref a] H (fun v _ => v = .bl true) fun _ _ _ => False)
    (hCX : ∀ (w : World) (H : Hp) (s : Shared) (e : Value) (s' : Shared), CX w [] H s (fun _ _ _ => False) e s' → False) :
    PySem.W.WalkO q loose XP YP l.row.toRowW d [] (fun f vs => PySem.call f vs) := by
  refine Att.attach_call hn hdf fun w s₀ s₁ mg mb fa o pm cd doc a vs ns G Y ho hd hcd hmg hobj hints hlen hg => ?_
  have KX := hY w _ Y
  obtain ⟨fd, hb, hF⟩ := F w mg fa _ KX G.T.g hmg
  exact law_call KX G.T.g G.T.b G.T.builtins G.T.nolimit hg hobj hints (Nat.le_trans hlen hn2) hr hF hb (fun H hO hS => hsp w H a ns hlen hO hS) fun H e s' => hCX w H s₁ e s'
end L2

/-! SHORT WORDS over the layer: a def of the text, its body, what a loop and a test want. -/
namespace L2
open PySem PySem.Spec PyProof.Rows

/-! ### the text by places -/
/-- the j-th statement of a class's body -/
def inClass (s : Stmt) (j : Nat) : Stmt := match s with
  | .ClassDef _ _ _ body _ _ _ _ _ _ _ => body.getD j (.Pass ⟨0, 0, 0, 0⟩)
  | _ => .Pass ⟨0, 0, 0, 0⟩
def defArgs (s : Stmt) : Arguments := match s with
  | .FunctionDef _ a _ _ _ _ _ _ _ _ => a
  | _ => { posonlyargs := [], args := [], vararg := none, kwonlyargs := [], kw_defaults := [], kwarg := none, defaults := [] }
def defBody (s : Stmt) : List Stmt := match s with
  | .FunctionDef _ _ b _ _ _ _ _ _ _ => b
  | _ => []
def defScope (s : Stmt) : Scope := match s with
  | .FunctionDef _ _ _ _ _ _ sc _ _ _ => sc
  | _ => { kind := .function, names := [], isGenerator := false, isCoroutine := false }

/-! ### no exception leaves a def -/
abbrev CX0 : CXT := fun _ _ _ _ _ _ => False
abbrev E0 : XK := fun _ _ _ => False
theorem pass0 {X : Cx} : Passes CX0 X E0 := fun _ _ _ _ _ _ _ h => h.elim

/-! ### a def (or method) of the text as it stands behind the top -/
structure Fun (K : PySem.W.Frag) (x qual : Str) (st : Stmt) (f : Addr) (fd : FuncData) : Prop where
  ex : ∃ (oc : Value) (od : Option Addr) (kV doc pm : Value) (an : Option Addr) (cdv ct : Value) (osl : Array (Option Value)),
    fd = PySem.W.fnOf x qual (defArgs st) (defBody st) (defScope st) .none kV doc pm an cdv ct ∧ K.lookup f = some ⟨oc, od, .func fd, osl⟩ ∧ PySem.W.codeIn K cdv qual = true
  kp : PySem.W.keepIn K (.ref f) = true
section
variable {P : Program} {w : World} {K : PySem.W.Frag} {mg : Str → Option Value} {base : Heap}
/-- THE RULE for a def: its body as a term of rules, and the reading of that term -/
theorem Fun.ok {x qual : Str} {st : Stmt} {f : Addr} {fd : FuncData} {N ps : List Str} {k : Nat} {sp : Sp} (F : Fun K x qual st f fd) (S : FnScope N ps (defScope st)) (len : ∀ vs H Q E, sp vs H Q E → vs.length = ps.length)
    (hbody : ∀ (cdv : Value) (A : Around) (outer : List Env) (s : Shared) (H : Hp) (vs : List V) (Q : VK) (E : XK), Room k (A.deeper (envOfC qual (defScope st) s.heap.objs.size f cdv)) → sp vs H Q E →
      ∃ t, PSs (cxOf CX0 P w K mg base N qual (defScope st) f cdv A outer s H E).nox (defBody st) t ∧ t { nx := fun _ H' => Q .non H', rt := Q } (start N vs) H) : FnOk P w K mg base CX0 (k + 1) f fd ps sp := by
  obtain ⟨oc, od, kV, doc, pm, an, cdv, ct, osl, rfl, lk, hcd⟩ := F.ex
  refine fn_of lk hcd S len fun A outer s H vs Q E hr hsp => ?_
  obtain ⟨t, h, q⟩ := hbody cdv A outer s H vs Q E hr hsp
  exact ⟨t, h.nox, q⟩
/-- how its arguments bind (no defaults): h is «fun _ _ _ _ _ _ us hl => match us, hl with | [_, _], _ => rfl», one _ a parameter -/
theorem Fun.binds {x qual : Str} {st : Stmt} {f : Addr} {fd : FuncData} {ps : List Str} (F : Fun K x qual st f fd)
    (h : ∀ (kV doc pm : Value) (an : Option Addr) (cdv ct : Value) (us : List Value), us.length = ps.length → bindArgs (PySem.W.fnOf x qual (defArgs st) (defBody st) (defScope st) .none kV doc pm an cdv ct) ⟨us, []⟩ = pure (ps.zip us)) : Binds K fd ps [] := by
  obtain ⟨oc, od, kV, doc, pm, an, cdv, ct, osl, rfl, lk, hcd⟩ := F.ex
  exact .all (h kV doc pm an cdv ct)
theorem fun_mk {x qual : Str} {st : Stmt} {f : Addr} {oc : Value} {od an : Option Addr} {osl : Array (Option Value)} {kV doc pm cdv ct : Value} (l : K.lookup f = some ⟨oc, od, .func (PySem.W.fnOf x qual (defArgs st) (defBody st) (defScope st) .none kV doc pm an cdv ct), osl⟩)
    (c : PySem.W.codeIn K cdv qual = true) (k : PySem.W.keepIn K (.ref f) = true) : Fun K x qual st f (PySem.W.fnOf x qual (defArgs st) (defBody st) (defScope st) .none kV doc pm an cdv ct) := ⟨⟨oc, od, kV, doc, pm, an, cdv, ct, osl, rfl, l, c⟩, k⟩
end
theorem small1000 {n : Nat} (h : n ≤ 1000) : n < sizeLine := Nat.lt_of_le_of_lt h (by decide)

/-! ### expressions in short: the name that stands in the i-th slot -/
section
variable {X : Cx}
theorem pv (i : Nat) {x : Str} {pos : Pos} (hN : X.N[i]? = some x := by rfl) (hv : Vis X.env.scope x := by first | exact Or.inl rfl | exact Or.inr (Or.inl rfl) | exact Or.inr (Or.inr rfl)) (hd : (x == ("__debug__" : Str)) = false := by decide)
    (hcd : (x == ("__classdict__" : Str)) = false := by decide) : PE X (.Name x pos) (tVar i) := pe_var hN hv hd hcd
end

/-! ### tests -/
theorem iteF {A B : Prop} (h : B) : if false = true then A else B := by
  rw [if_neg Bool.false_ne_true]
  exact h
theorem iteT {A B : Prop} (h : A) : if true = true then A else B := by
  rw [if_pos rfl]
  exact h
theorem ite2 {c A B : Prop} [Decidable c] (h1 : c → A) (h2 : ¬ c → B) : if c then A else B := by
  by_cases h : c
  · rw [if_pos h]
    exact h1 h
  · rw [if_neg h]
    exact h2 h
theorem iteNS {c A B : Prop} [Decidable c] (hc : c) (h : B) : if (!decide c) = true then A else B := by
  rw [decide_eq_true hc]
  exact iteF h

/-! ### heaps -/
/-- all that was tracked is as it was -/
def Same (H H' : Hp) : Prop := ∀ b o, H b = some o → H' b = some o
theorem Same.trans {H H1 H2 : Hp} (a : Same H H1) (b : Same H1 H2) : Same H H2 := fun c o h => b c o (a c o h)
theorem Same.seq {K : PySem.W.Frag} {H H' : Hp} {a : Addr} {xs : List V} (e : Same H H') (h : SqL K H a xs) : SqL K H' a xs := by
  rcases h with (h | ⟨o, h⟩) | h
  · exact .inl (.inl (e _ _ h))
  · exact .inl (.inr ⟨o, e _ _ h⟩)
  · exact .inr h

end L2
set_option Elab.async false
set_option linter.all false
set_option maxRecDepth 100000
set_option maxHeartbeats 4000000
namespace L2
open PySem PySem.Spec PyProof.Rows

/-! ### a list comprehension with one `for x in ..` -/
section
variable {X : Cx} {pins : List (Addr × Obj)} {σ : St} {H : Hp} {s : Shared} {D : Addr} {o : HO}
/-- an untracked object of ours comes to be tracked -/
theorem Inv.track (I : Inv X pins σ H s) (hf : FpOk X pins H D) (h0 : X.s₀.heap.objs.size ≤ D) (new : ObjOk X.prog X.w (upd H D o) s.heap D o) : Inv X pins σ (upd H D o) s := by
  obtain ⟨f0, f1, f2, f3, f4, f5⟩ := hf
  have ne : ∀ b u, H b = some u → b ≠ D := fun b u e => ne_of_none e f0
  refine ⟨I.ok, I.os, I.bare, ⟨I.base.keep, I.base.slot, fun b u e n hx => ?_, I.base.there, fun b xs e => ?_, fun b u xs e => ?_, fun b ps e => ?_⟩, I.loc, I.cell, ?_, fun y c e => ?_, fun p hp => ?_, fun b u e => ?_, I.len⟩
  · rw [upd_ne (Nat.ne_of_lt (Nat.lt_of_lt_of_le (Heap.lt_size e) h0))]
    exact I.base.free b u e n hx
  · have q := I.base.tups b xs e
    rw [upd_ne (ne b _ q)]; exact q
  · have q := I.base.frzs b u xs e
    rw [upd_ne (ne b _ q)]; exact q
  · obtain ⟨m, q⟩ := I.base.tbls b ps e
    exact ⟨m, by rw [upd_ne (ne b _ q)]; exact q⟩
  · rw [upd_ne (Ne.symm f1)]; exact I.free
  · rw [upd_ne (f4 y c e)]; exact I.freeC y c e
  · obtain ⟨a, b, c, d, e⟩ := I.pin p hp
    exact ⟨a, by rw [upd_ne (f5 p hp)]; exact b, c, d, e⟩
  · by_cases hb : b = D
    · subst hb
      rw [upd_same] at e
      cases e
      exact new
    · rw [upd_ne hb] at e
      exact (I.hok b u e).stay (fun _ _ _ q => q) (fun c q => by rw [upd_ne (ne c _ q)]; exact q) fun c xs q => by rw [upd_ne (ne c _ q)]; exact q
end

/-- the closure's cells, gathered -/
def gather (cells : List (Str × Addr)) : List (Str × NameKind) → List (Str × Addr) → List (Str × Addr)
  | [], cs => cs
  | (n, k) :: r, cs => gather cells r (if (k == NameKind.free) = true then (n, (cells.lookup n).getD 0) :: cs else cs)
theorem closure_eq {scope : Scope} {env : Env} (h : ∀ y ∈ scope.names, y.2 = NameKind.free → ∃ c, env.cells.lookup y.1 = some c) : closureFor scope env = pure (gather env.cells scope.names []) := by
  have all : ∀ (l : List (Str × NameKind)) (cs : List (Str × Addr)), (∀ y ∈ l, y.2 = NameKind.free → ∃ c, env.cells.lookup y.1 = some c) →
      (forIn l cs (fun (x : Str × NameKind) (r : List (Str × Addr)) => if (x.2 == NameKind.free) = true then (do let a ← cellOf env x.1; pure (ForInStep.yield ((x.1, a) :: r)) : Sem (ForInStep (List (Str × Addr)))) else pure (ForInStep.yield r))) = (pure (gather env.cells l cs) : Sem (List (Str × Addr))) := by
    intro l
    induction l with
    | nil => intro cs _; rfl
    | cons y r ih =>
      intro cs hy
      obtain ⟨n, k⟩ := y
      rw [List.forIn_cons]
      by_cases hk : k = NameKind.free
      · subst hk
        obtain ⟨c, hc⟩ := hy (n, .free) List.mem_cons_self rfl
        have e1 : cellOf env n = pure c := by unfold cellOf; rw [hc]
        simp only [beq_self_eq_true, if_true, e1, pure_bind]
        rw [ih _ fun z hz => hy z (List.mem_cons_of_mem _ hz)]
        simp only [gather, beq_self_eq_true, if_true]
        rw [show List.lookup n env.cells = some c from hc]
        rfl
      · have e1 : (k == NameKind.free) = false := by simpa using hk
        simp only [e1, Bool.false_eq_true, if_false, pure_bind]
        rw [ih _ fun z hz => hy z (List.mem_cons_of_mem _ hz)]
        simp only [gather, e1, Bool.false_eq_true, if_false]
  have e := all scope.names [] h
  unfold closureFor
  simp only []
  exact (bind_pure _).trans e
theorem gather_sub {cells : List (Str × Addr)} : ∀ (l : List (Str × NameKind)) (cs : List (Str × Addr)), (∀ y ∈ l, y.2 = NameKind.free → ∃ c, cells.lookup y.1 = some c) →
    (∀ y c, (y, c) ∈ cs → cells.lookup y = some c) → ∀ y c, (y, c) ∈ gather cells l cs → cells.lookup y = some c
  | [], _, _, h, y, c, hm => h y c hm
  | (n, k) :: r, cs, hl, h, y, c, hm => by
    refine gather_sub r _ (fun z hz => hl z (List.mem_cons_of_mem _ hz)) (fun y' c' hm' => ?_) y c hm
    by_cases hk : (k == NameKind.free) = true
    · rw [if_pos hk] at hm'
      rcases List.mem_cons.mp hm' with e | e
      · have e1 : y' = n := congrArg Prod.fst e
        have e2 : c' = (cells.lookup n).getD 0 := congrArg Prod.snd e
        obtain ⟨d, hd⟩ := hl (n, k) List.mem_cons_self (by simpa using hk)
        have hd' : cells.lookup n = some d := hd
        rw [e1, e2, hd']; rfl
      · exact h y' c' e
    · rw [if_neg hk] at hm'
      exact h y' c' hm'
theorem gather_mono {cells : List (Str × Addr)} : ∀ (l : List (Str × NameKind)) (cs : List (Str × Addr)) (p : Str × Addr), p ∈ cs → p ∈ gather cells l cs
  | [], _, _, h => h
  | (n, k) :: r, cs, p, h => gather_mono r _ p (by split; exact List.mem_cons_of_mem _ h; exact h)
theorem gather_has {cells : List (Str × Addr)} : ∀ (l : List (Str × NameKind)) (cs : List (Str × Addr)) (y : Str × NameKind), y ∈ l → y.2 = NameKind.free → ∃ c, (y.1, c) ∈ gather cells l cs
  | [], _, _, h, _ => nomatch h
  | (n, k) :: r, cs, y, h, hf => by
    rcases List.mem_cons.mp h with e | e
    · subst e
      have hk : (k == NameKind.free) = true := by simpa using hf
      exact ⟨(cells.lookup n).getD 0, gather_mono r _ _ (by rw [if_pos hk]; exact List.mem_cons_self)⟩
    · exact gather_has r _ y e hf
theorem lookup_mem {α : Type} : ∀ {l : List (Str × α)} {y : Str} {c : α}, (y, c) ∈ l → ∃ d, l.lookup y = some d ∧ (y, d) ∈ l
  | [], _, _, h => nomatch h
  | (n, a) :: r, y, c, h => by
    by_cases e : y = n
    · subst e
      exact ⟨a, by simp [List.lookup_cons], List.mem_cons_self⟩
    · have e1 : (y == n) = false := by simpa using e
      rcases List.mem_cons.mp h with q | q
      · exact absurd (congrArg Prod.fst q) e
      · obtain ⟨d, h1, h2⟩ := lookup_mem q
        exact ⟨d, by rw [List.lookup_cons, e1]; exact h1, List.mem_cons_of_mem _ h2⟩
theorem lookup_of_mem_lookup {α : Type} {l : List (Str × α)} {y : Str} {c : α} (h : l.lookup y = some c) : (y, c) ∈ l := PySem.mem_of_lookup h

/-- what a comprehension's scope must be; osc, ON: of the def around it; x: its target; F: the names that it takes from around, fr: their slots there -/
def compChk (osc : Scope) (ON : List Str) (scope : Scope) (x : Str) (F : List Str) (fr : List Nat) : Bool :=
  decide (scope.kind = .function) && (scope.names.all fun y => decide (y.2 ≠ .cell)) && (scope.names.all fun y => decide (y.2 = .local → scope.names.lookup y.1 = some .local)) &&
  decide (scope.names.lookup x = some .local) && (scope.names.all fun y => decide (y.2 = .free → osc.names.lookup y.1 = some .cell ∨ osc.names.lookup y.1 = some .free)) &&
  decide ((x :: F).Nodup) && (F.all fun y => decide (scope.names.lookup y = some .free)) && decide (F.map some = fr.map fun i => ON[i]?)
structure CompOk (osc : Scope) (ON : List Str) (scope : Scope) (x : Str) (F : List Str) (fr : List Nat) : Prop where
  kind : scope.kind = .function
  nocell : ∀ y ∈ scope.names, y.2 ≠ .cell
  loc : ∀ y ∈ scope.names, y.2 = .local → scope.names.lookup y.1 = some .local
  tx : scope.names.lookup x = some .local
  free : ∀ y ∈ scope.names, y.2 = .free → osc.names.lookup y.1 = some .cell ∨ osc.names.lookup y.1 = some .free
  nd : (x :: F).Nodup
  fre : ∀ y ∈ F, scope.names.lookup y = some .free
  slots : F.map some = fr.map fun i => ON[i]?
theorem CompOk.of {osc : Scope} {ON : List Str} {scope : Scope} {x : Str} {F : List Str} {fr : List Nat} (h : compChk osc ON scope x F fr = true) : CompOk osc ON scope x F fr := by
  unfold compChk at h
  simp only [Bool.and_eq_true, decide_eq_true_eq, List.all_eq_true] at h
  obtain ⟨⟨⟨⟨⟨⟨⟨h1, h2⟩, h3⟩, h4⟩, h5⟩, h6⟩, h7⟩, h8⟩ := h
  exact ⟨h1, h2, h3, h4, h5, h6, h7, h8⟩

/-- the context of the comprehension's block -/
def compCx (X : Cx) (N : List Str) (scope : Scope) (s3 : Shared) (H3 : Hp) (ex : List Addr) : Cx :=
  { X with N := N, s₀ := s3, H₀ := H3, env := compEnvC scope (gather X.env.cells scope.names []) s3.heap.objs.size X.env, outer := X.stack, ex := ex, fn := fun _ => false, pn := [], xe := fun _ _ => False }

/-- the tests of a comprehension -/
def PTs (X : Cx) (ifs : List Expr) (t : TT) : Prop :=
  ∀ (pins : List (Addr × Obj)) (s : Shared) (σ : St) (H : Hp) (Q : Bool → Hp → Prop), Inv X pins σ H s → t σ H Q →
    wpAny (model X.prog X.w) X.A (forIn ifs true fun c r => if r = true then do let ok ← isTrue c X.env (eval c X.env); pure (ForInStep.yield ok) else pure (ForInStep.yield r)) (TP X pins σ Q) X.xe s
def tYes : TT := fun _ H Q => Q true H
theorem pts_nil {X : Cx} : PTs X [] tYes := fun _ _ _ H _ I h => wpAny_tests_nil ⟨H, I, h⟩
theorem pts_one {X : Cx} {c : Expr} {t : TT} (h : PT X c t) : PTs X [c] t := fun pins s σ H Q I q => wpAny_tests_one (h pins s σ H Q I q)

/-- the names' values in the block, ahead of the target's store -/
def compSt (σ : St) (fr : List Nat) : St := none :: fr.map fun i => (σ[i]?).join

/-- the turns: what the iterator yields, the tests, the element; acc: the elements so far -/
def CompGo (fr : List Nat) (tt : TT) (te : TE) (σ : St) (Q : VK) (J : It) (H1 : Hp) : Prop := ∃ W : Nat → Nat → List V → Hp → Prop, (∃ m, W 0 m [] H1) ∧ ∀ i m acc H, W i m acc H →
  (J.stop i H ∧ acc.length ≤ sizeLine ∧ ∀ p, H p = none → Q (.ref p) (upd H p (.lst acc))) ∨
  (J.go i H ∧ acc.length < sizeLine ∧ ∀ x H', J.yld i H x H' → tt ((compSt σ fr).set 0 (some x)) H' fun b H2 =>
    if b = true then te ((compSt σ fr).set 0 (some x)) H2 fun y H3 => ∃ m', m' < m ∧ W (i + 1) m' (acc ++ [y]) H3 else ∃ m', m' < m ∧ W (i + 1) m' acc H2)
def tComp (wi : TI) (fr : List Nat) (tt : TT) (te : TE) : TE := fun σ H Q => wi σ H (CompGo fr tt te σ Q)

section
variable {X : Cx}
theorem relabel_names (scope : Scope) (env : Env) (x : Str) (k : NameKind) (h : (relabel scope env).names.lookup x = some k) : ∃ k', scope.names.lookup x = some k' ∧ (k = k' ∨ (k' = .free ∧ k = .cell)) := by
  have all : ∀ (l : List (Str × NameKind)), (l.map fun (n, k) => if (k == NameKind.free && env.scope.kind == .function && env.kindOf n == some .cell) then (n, NameKind.cell) else (n, k)).lookup x = some k →
      ∃ k', l.lookup x = some k' ∧ (k = k' ∨ (k' = .free ∧ k = .cell)) := by
    intro l
    induction l with
    | nil => intro h; simp at h
    | cons y r ih =>
      obtain ⟨n, j⟩ := y
      intro h
      by_cases e : x = n
      · subst e
        refine ⟨j, by simp [List.lookup_cons], ?_⟩
        simp only [List.map_cons] at h
        by_cases hc : (j == NameKind.free && env.scope.kind == .function && env.kindOf x == some .cell) = true
        · rw [if_pos hc] at h
          simp [List.lookup_cons] at h
          simp only [Bool.and_eq_true] at hc
          exact .inr ⟨by simpa using hc.1.1, h.symm⟩
        · rw [if_neg hc] at h
          simp [List.lookup_cons] at h
          exact .inl h.symm
      · have e1 : (x == n) = false := by simpa using e
        simp only [List.map_cons] at h
        have h' : (r.map fun (n, k) => if (k == NameKind.free && env.scope.kind == .function && env.kindOf n == some .cell) then (n, NameKind.cell) else (n, k)).lookup x = some k := by
          by_cases hc : (j == NameKind.free && env.scope.kind == .function && env.kindOf n == some .cell) = true
          · rw [if_pos hc, List.lookup_cons, e1] at h; exact h
          · rw [if_neg hc, List.lookup_cons, e1] at h; exact h
        obtain ⟨k', q1, q2⟩ := ih h'
        exact ⟨k', by rw [List.lookup_cons, e1]; exact q1, q2⟩
  exact all scope.names h

theorem Inv.closes {pins : List (Addr × Obj)} {σ : St} {H : Hp} {s : Shared} {scope : Scope} {x : Str} {F : List Str} {fr : List Nat} (I : Inv X pins σ H s) (C : CompOk X.env.scope X.N scope x F fr) :
    ∀ y ∈ scope.names, y.2 = NameKind.free → ∃ c, X.env.cells.lookup y.1 = some c := fun y hy hf => I.ok.has y.1 (C.free y hy hf)
theorem Inv.gsub {pins : List (Addr × Obj)} {σ : St} {H : Hp} {s : Shared} {scope : Scope} {x : Str} {F : List Str} {fr : List Nat} (I : Inv X pins σ H s) (C : CompOk X.env.scope X.N scope x F fr) {y : Str} {c : Addr}
    (h : (gather X.env.cells scope.names []).lookup y = some c) : X.env.cells.lookup y = some c :=
  gather_sub scope.names [] (I.closes C) (fun _ _ z => nomatch z) y c (lookup_of_mem_lookup h)
end
end L2
set_option Elab.async false
set_option linter.all false
set_option maxRecDepth 100000
set_option maxHeartbeats 4000000
namespace L2
open PySem PySem.Spec PyProof.Rows
section
variable {X : Cx}
/-- the block's entry -/
theorem inv_comp {pins : List (Addr × Obj)} {σ : St} {H : Hp} {s : Shared} {scope : Scope} {x : Str} {F : List Str} {fr : List Nat} {ex : List Addr} {h' : Heap} {tk : Nat} (I : Inv X pins σ H s) (C : CompOk X.env.scope X.N scope x F fr)
    (hx : ∀ b ∈ ex, FpOk X pins H b ∧ b < s.heap.objs.size) (hn : h'.Ns s.heap.objs.size fun _ => none) (k : ∀ b o, s.heap.get? b = some o → h'.get? b = some o) :
    Inv (compCx X (x :: F) scope s H ex) [] (compSt σ fr) H { s with heap := h', toks := tk } := by
  have hCn : H s.heap.objs.size = none := I.hok.fresh (Nat.le_refl _)
  have hcl : ∀ {y : Str} {c : Addr}, (gather X.env.cells scope.names []).lookup y = some c → X.env.cells.lookup y = some c := fun h => I.gsub C h
  have clt : ∀ {y : Str} {c : Addr}, X.env.cells.lookup y = some c → c < s.heap.objs.size := fun {y c} h => by
    obtain ⟨v, q⟩ := I.cell y c h
    exact q.lt
  have stk : ∀ b, b ∈ frs X.stack → b = X.env.locals ∨ b ∈ X.fs := fun b hb => List.mem_cons.mp (I.stkSub b hb)
  refine ⟨⟨I.ok.mod, C.kind, I.ok.glob, I.ok.blt, Nat.le_refl _, fun y z c h1 h2 => I.ok.inj y z c (hcl h1) (hcl h2), fun y hy => ?_, fun y c hf => (nomatch hf), I.ok.hd, I.ok.frames, .inl rfl, fun b hb => ⟨Nat.ne_of_lt (hx b hb).2, fun y c h => (hx b hb).1.2.2.2.2.1 y c (hcl h)⟩,
    I.bs, Nat.le_trans I.ok.bsz I.sz, fun b o e hb => ?_, fun b hb => ?_, I.stack, I.stkFree⟩, rfl, I.bare, Un.kept k, ⟨_, hn, fun i y v h1 h2 h3 => ?_⟩, fun y c h => ?_, hCn, fun y c h => I.freeC y c (hcl h), fun p hp => absurd (show p ∈ ([] : List (Addr × Obj)) from hp) (by simp), I.hok.kept k, ?_⟩
  · have hy' : ∃ c, (y, c) ∈ gather X.env.cells scope.names [] := by
      have go : ∀ kk, (relabel scope X.env).names.lookup y = some kk → kk ≠ .local → kk ≠ .globalExplicit → kk ≠ .globalImplicit → ∃ c, (y, c) ∈ gather X.env.cells scope.names [] := fun kk h n1 n2 n3 => by
        obtain ⟨k', q1, q2⟩ := relabel_names scope X.env y kk h
        have hm := lookup_of_mem_lookup q1
        have hfree : k' = .free := by
          rcases q2 with e | ⟨e, _⟩
          · subst e
            cases kk with
            | «local» => exact absurd rfl n1
            | cell => exact absurd rfl (C.nocell _ hm)
            | free => rfl
            | globalExplicit => exact absurd rfl n2
            | globalImplicit => exact absurd rfl n3
          · exact e
        exact gather_has scope.names [] (y, k') hm hfree
      rcases hy with hy | hy
      · exact go _ hy (by decide) (by decide) (by decide)
      · exact go _ hy (by decide) (by decide) (by decide)
    obtain ⟨c, hc⟩ := hy'
    obtain ⟨d, hd, _⟩ := lookup_mem hc
    exact ⟨d, hd⟩
  · exact absurd e (by
      have h1 := (hx b hb).1
      have h2 := I.bs b o e
      rcases h1.2.2.2.1 with z | z
      · exact fun _ => I.ok.noex b o e z
      · exact fun _ => absurd (Nat.lt_of_lt_of_le (Heap.lt_size (I.ok.bs b o e).1) z) (Nat.lt_irrefl _))
  · intro hb2
    obtain ⟨h0, h1, h2, _⟩ := (hx b hb).1
    rcases stk b hb2 with z | z
    · exact h1 z
    · exact h2 z
  · -- a name's value at the entry
    cases i with
    | zero => simp [compSt] at h2
    | succ j =>
      have h1' : F[j]? = some y := (List.getElem?_cons_succ (a := x) (l := F) (i := j)).symm.trans h1
      have h2' : (fr.map fun i => (σ[i]?).join)[j]? = some (some v) := by simpa [compSt] using h2
      have hs := congrArg (fun l => l[j]?) C.slots
      simp only [List.getElem?_map, h1', Option.map_some] at hs
      rw [List.getElem?_map] at h2'
      cases hj : fr[j]? with
      | none => rw [hj] at hs; simp at hs
      | some t =>
        rw [hj] at hs h2'
        simp only [Option.map_some, Option.some.injEq] at hs h2'
        have h3' : σ[t]? = some (some v) := by
          cases e : σ[t]? with
          | none => rw [e] at h2'; simp at h2'
          | some w' => rw [e] at h2'; simp at h2'; rw [h2']
        -- what kind the name has
        have hfr := C.fre y (List.mem_of_getElem? h1')
        have hm := lookup_of_mem_lookup hfr
        have hvis : Vis X.env.scope y ∧ (∃ c, (gather X.env.cells scope.names []).lookup y = some c) ∧ (X.env.kindOf y = some .cell ∨ X.env.kindOf y = some .free) := by
          obtain ⟨c, hc⟩ := gather_has (cells := X.env.cells) scope.names [] (y, .free) hm rfl
          obtain ⟨d, hd, _⟩ := lookup_mem hc
          rcases C.free (y, .free) hm rfl with z | z
          · exact ⟨.inr (.inl z), ⟨d, hd⟩, .inl z⟩
          · exact ⟨.inr (.inr z), ⟨d, hd⟩, .inr z⟩
        obtain ⟨hv, ⟨c, hc⟩, hkd⟩ := hvis
        obtain ⟨m, hm, hl⟩ := I.loc
        obtain ⟨u, r, l⟩ := hl t y v hs.symm h3' hv
        refine ⟨u, r, .inr ⟨?_, c, hc, ?_⟩⟩
        · rcases h3 with z | z | z
          · exfalso
            obtain ⟨k', q1, q2⟩ := relabel_names scope X.env y .local z
            rw [hfr] at q1
            cases q1
            rcases q2 with q | ⟨_, q⟩ <;> cases q
          · exact .inl z
          · exact .inr z
        · rcases l with ⟨hk, _⟩ | ⟨_, c', hc', hcell⟩
          · rcases hkd with z | z <;> rw [z] at hk <;> cases hk
          · have e := hcl hc
            rw [e] at hc'; cases hc'
            obtain ⟨oc, ho, hd⟩ := hcell
            exact ⟨oc, k _ _ ho, hd⟩
  · obtain ⟨v, oc, ho, hd⟩ := I.cell y c (hcl h)
    exact ⟨v, oc, k _ _ ho, hd⟩
  · have := congrArg List.length C.slots
    simp at this
    show (compSt σ fr).length = (x :: F).length
    simp [compSt, this]
end
end L2
set_option Elab.async false
set_option linter.all false
set_option maxRecDepth 100000
set_option maxHeartbeats 4000000
namespace L2
open PySem PySem.Spec PyProof.Rows
theorem after_pure {α : Type} {M : Model} {A : Around} {P : Unit → Shared → Prop} {E' : Value → Shared → Prop} {t : Sem α} {Q : α → Shared → Prop} {E : Value → Shared → Prop} {s : Shared}
    (h : wpAny M A (pure () : Sem Unit) P E' s) (k : P () s → wpAny M A t Q E s) : wpAny M A t Q E s := fun Γ p hΓ => k (h Γ p hΓ) Γ p hΓ
section
variable {X : Cx}
end
end L2
set_option Elab.async false
set_option linter.all false
set_option maxRecDepth 100000
set_option maxHeartbeats 4000000
namespace L2
open PySem PySem.Spec PyProof.Rows
section
variable {X : Cx}
/-! ### isinstance(x, c), c one built-in type -/
def rIsi (K : PySem.W.Frag) : List V → Hp → VK → Prop := fun xs H Q => ∃ x t c b, xs = [x, .ty c] ∧ TyOf K H x t ∧ PySem.W.kitOne K t (.type c) = some b ∧ Q (.bl b) H
theorem call_isi : CallR X (.builtin "isinstance") (rIsi X.K) := by
  intro pins s σ H xs us Q I r h
  obtain ⟨x, t, c, b, rfl, ty, e, q⟩ := h
  obtain ⟨u, v, rfl, r1, r2⟩ := r.two
  cases r2
  exact isinst_ok I r1 ty e fun tk => ⟨.bl b, H, I.tok tk, rfl, q⟩
theorem kit_same {K : PySem.W.Frag} {c : String} : PySem.W.kitOne K (.type c) (.type c) = some true := if_pos (beq_self_eq_true _)
theorem kit_int_bool {K : PySem.W.Frag} : PySem.W.kitOne K (.type "int") (.type "bool") = some false := by
  unfold PySem.W.kitOne
  rw [if_neg (by decide +kernel)]
  show (if PySem.W.kitMeta "bool" = true then (fastBuiltinMro "int").map (·.contains (.type "bool")) else none) = some false
  decide +kernel
/-! ### x is True, x is False -/
end

/-! ### two things told alike are equal -/
section
variable {X : Cx} {pins : List (Addr × Obj)} {σ : St} {H : Hp} {s : Shared}
end
end L2
set_option Elab.async false
set_option linter.all false
set_option maxRecDepth 100000
set_option maxHeartbeats 4000000
namespace L2
open PySem PySem.Spec PyProof.Rows
section
variable {X : Cx} {pins : List (Addr × Obj)} {σ : St} {H : Hp} {s : Shared}
end
/-! ### comprehensions, the forms one uses -/
/-- over a range, each element told from the turn's number alone; what is held of the heap stays -/
theorem comp_range {lo : Int} {n : Nat} {fr : List Nat} {te : TE} {σ : St} {H : Hp} {Q : VK} (Pv : Nat → List V → Hp → Prop) (hn : n ≤ sizeLine) (h0 : Pv 0 [] H) (hlen : ∀ i acc H, Pv i acc H → acc.length = i)
    (hs : ∀ i acc H, i < n → Pv i acc H → ∀ R : VK, (∀ y H1, Pv (i + 1) (acc ++ [y]) H1 → R y H1) → te ((compSt σ fr).set 0 (some (.int (lo + i)))) H R)
    (hd : ∀ acc H, Pv n acc H → ∀ p, H p = none → Q (.ref p) (upd H p (.lst acc))) :
    CompGo fr tYes te σ Q (Itr lo n) H := by
  refine ⟨fun i m acc H => m = n - i ∧ i ≤ n ∧ Pv i acc H, ⟨n, by simp, Nat.zero_le _, h0⟩, ?_⟩
  rintro i m acc H ⟨rfl, hi, p⟩
  have hl := hlen i acc H p
  by_cases hlt : i < n
  · refine .inr ⟨hlt, by omega, fun x H' y => ?_⟩
    obtain ⟨e, y⟩ := y
    subst e y
    unfold tYes
    refine iteT ?_
    exact hs i acc _ hlt p _ fun y H1 q => ⟨n - (i + 1), by omega, rfl, hlt, q⟩
  · have e : i = n := by omega
    subst e
    exact .inl ⟨Nat.le_refl _, by omega, hd acc H p⟩
end L2
set_option Elab.async false
set_option linter.all false
set_option maxRecDepth 100000
set_option maxHeartbeats 4000000
namespace L2
open PySem PySem.Spec PyProof.Rows
/-- a def of the text that may be called, with its promise -/
structure Cal (P : Program) (w : World) (K : PySem.W.Frag) (mg : Str → Option Value) (base : Heap) (k : Nat) (x : Str) (ps : List Str) (sp : Sp) where
  f : Addr
  fd : FuncData
  ok : FnOk P w K mg base CX0 k f fd ps sp
  b : Binds K fd ps []
  kp : PySem.W.keepIn K (.ref f) = true
  mg : mg x = some (.ref f)
theorem pec {X : Cx} {k : Nat} {x : Str} {ps : List Str} {sp : Sp} {p pos : Pos} {e : Expr} {es : List Expr} {t : TA} (C : Cal X.prog X.w X.K X.mg X.base k x ps sp) (hr : Room k X.A) (hg : Gl X x) (ha : PA X (e :: es) t)
    (hdb : (x == ("__debug__" : Str)) = false := by decide) (he : starEach (e :: es) X.env = (false, eval e X.env) :: starEach es X.env := by rfl) (hpl : (backTo pos (starEach es X.env)).any (·.1) = false := by rfl) :
    PE X (.Call (.Name x p) (e :: es) [] pos) (tCall sp [] E0 t) := pe_call C.ok hr hg C.mg C.kp C.b .nil pass0 ha hdb he hpl
theorem Same.seqT {K : PySem.W.Frag} {H H' : Hp} {a : Addr} {xs : List V} (e : Same H H') (h : SqT K H a xs) : SqT K H' a xs := by
  rcases h with (h | ⟨o, h⟩) | h
  · exact .inl (.inl (e _ _ h))
  · exact .inl (.inr ⟨o, e _ _ h⟩)
  · exact .inr h
theorem same_new {H : Hp} {p : Addr} (h : H p = none) (o : HO) : Same H (upd H p o) := fun b u q => by rw [upd_ne (ne_of_none q h)]; exact q
theorem at_int {ns : List Int} {i : Int} (h0 : 0 ≤ i) (h1 : i < ns.length) : atI (ns.map V.int) i = some (.int (ns.getD i.toNat 0)) := by
  have hk : i.toNat < ns.length := by omega
  have ek : i = ((i.toNat : Nat) : Int) := by omega
  have q : atI (ns.map V.int) ((i.toNat : Nat) : Int) = some (.int (ns.getD i.toNat 0)) := atI_nat (by
    rw [List.getElem?_map, List.getElem?_eq_getElem hk, List.getD_eq_getElem?_getD, List.getElem?_eq_getElem hk]; rfl)
  rw [← ek] at q
  exact q
theorem small {n : Nat} (h : n ≤ 1000) : n ≤ sizeLine := Nat.le_of_lt (small1000 h)
/-- an end: a number or None -/
def ov : Option Int → V
  | none => .non
  | some i => .int i
end L2
set_option Elab.async false
set_option linter.all false
set_option maxRecDepth 100000
set_option maxHeartbeats 4000000
namespace L2
open PySem PySem.Spec PyProof.Rows
section
variable {prog : Program} {w : World} {A : Around} {E : Value → Shared → Prop} {s : Shared}
/-! ### zip of two tuples, its items kept by a name -/
end
end L2
set_option Elab.async false
set_option linter.all false
set_option maxRecDepth 100000
set_option maxHeartbeats 4000000
namespace L2
open PySem PySem.Spec PyProof.Rows
section
variable {prog : Program} {w : World} {A : Around} {E : Value → Shared → Prop} {s : Shared}
/-! ### the making of a zip -/
end
end L2
set_option Elab.async false
set_option linter.all false
set_option maxRecDepth 100000
set_option maxHeartbeats 4000000
namespace L2
open PySem PySem.Spec PyProof.Rows
end L2
set_option Elab.async false
set_option linter.all false
set_option maxRecDepth 100000
set_option maxHeartbeats 4000000
namespace L2
open PySem PySem.Spec PyProof.Rows
/-- the place of the least, of the greatest: the first of them -/
def leastAt (ns : List Int) : Nat := argBest (fun i j => decide (ns.getD i 0 < ns.getD j 0)) (ns.length - 1)
def greatestAt (ns : List Int) : Nat := argBest (fun i j => decide (ns.getD i 0 > ns.getD j 0)) (ns.length - 1)
theorem argBest_le {bt : Nat → Nat → Bool} : ∀ k, argBest bt k ≤ k
  | 0 => Nat.le_refl _
  | k + 1 => by
    unfold argBest
    split
    · exact Nat.le_refl _
    · exact Nat.le_succ_of_le (argBest_le k)
theorem vals_at {ns : List Int} {us : List Value} (r : Vals (ns.map V.int) us) {i : Nat} {v : Value} (h : us.toArray[i]? = some v) : ∃ t, v = .int (ns.getD i 0) t := by
  have h' : us[i]? = some v := by simpa using h
  have hl := r.length
  have hi : i < ns.length := by
    have := (List.getElem?_eq_some_iff.mp h').1
    rw [List.length_map] at hl; omega
  obtain ⟨u, e, q⟩ := r.get (i := i) (x := .int (ns.getD i 0)) (by rw [List.getElem?_map, List.getElem?_eq_getElem hi, List.getD_eq_getElem?_getD, List.getElem?_eq_getElem hi]; rfl)
  rw [h'] at e
  cases e
  exact q
section
variable {X : Cx}
theorem call_minT (hc : X.calm = true) : CallR X (.builtin "min") (fun xs H Q => ∃ (p : Addr) (ns : List Int), xs = [.ref p] ∧ SqT X.K H p (ns.map V.int) ∧ 0 < ns.length ∧ Q (.int (ns.getD (leastAt ns) 0)) H) := by
  intro pins s σ H xs us Q I r h
  obtain ⟨p, ns, rfl, hq, hn, q⟩ := h
  obtain ⟨u, rfl, ru⟩ := r.one
  cases ru
  obtain ⟨its, rv, ht, _⟩ := I.tuple hq
  have hl := rv.length
  have T : s.heap.IsTuple p its.toArray := ht
  have lt : p < s.heap.objs.size := by obtain ⟨o, e, _⟩ := T; exact Heap.lt_size e
  have hsz : its.toArray.size = ns.length := by rw [List.size_toArray, ← hl, List.length_map]
  refine call_min_walk (wpAny_pyIter_tuple T ⟨_, _, _, _, _, _, _, rfl, Walks.tuple (show X.A.in1.handled = none from I.ok.hd hc) s.heap.objs.size p (Nat.ne_of_lt lt) its.toArray, ⟨⟨_, Heap.get?_push_size _ rfl, rfl, rfl⟩, T.at fun o e => Heap.get?_push_of_some _ e⟩, fun b hb => ?_, by rw [hsz]; exact hn,
    CmpOf.ints_lt (fun i => ns.getD i 0) (fun i v e => vals_at rv e), fun v h' tk hP hk => ?_⟩)
  · simp only [List.mem_cons, List.not_mem_nil, or_false] at hb
    rw [Heap.size_push]
    rcases hb with e | e
    · rw [e]; exact Nat.lt_succ_self _
    · rw [e]; exact Nat.lt_succ_of_lt lt
  · rw [hsz] at hP
    obtain ⟨t, rfl⟩ := vals_at rv hP
    refine ⟨.int _, H, I.kept fun b o e => hk b o ?_ (Heap.get?_push_of_some _ e), ⟨t, rfl⟩, q⟩
    intro hm
    simp only [List.mem_cons, List.not_mem_nil, or_false] at hm
    exact absurd (Heap.lt_size e) (by rw [hm]; exact Nat.lt_irrefl _)
end
/-! ### comprehensions over a tuple, over a zip of two tuples -/
end L2
set_option Elab.async false
set_option linter.all false
set_option maxRecDepth 100000
set_option maxHeartbeats 4000000
namespace L2
open PySem PySem.Spec PyProof.Rows
/-! ### the same rules where the fragment is named (within a comprehension's block) -/
section
variable {X : Cx} {K : PySem.W.Frag}
theorem ix_listK (h : X.K = K) : IxR X (rIxL K) := h ▸ ix_list
end
end L2
set_option Elab.async false
set_option linter.all false
set_option maxRecDepth 100000
set_option maxHeartbeats 4000000
namespace L2
open PySem PySem.Spec PyProof.Rows
section
variable {X : Cx}
theorem comp_core {use : Option (Value → Sem Unit)} {S : Value → Shared → Prop} {elt iter : Expr} {x : Str} {px : Pos} {ifs : List Expr} {scope : Scope} {pos : Pos} {wi : TI} {tt : TT} {te : TE} (F : List Str) (fr : List Nat) (hc : X.calm = true) (hi : PI X (.Name x px) iter wi)
    (ht : ∀ s3 H3 ex, PTs (compCx X (x :: F) scope s3 H3 ex) ifs tt) (he : ∀ s3 H3 ex, PE (compCx X (x :: F) scope s3 H3 ex) elt te)
    {pins : List (Addr × Obj)} {s : Shared} {σ : St} {H : Hp} {Q : VK} {p2 : Pos} (I : Inv X pins σ H s) (h : tComp wi fr tt te σ H Q) (hk : compChk X.env.scope X.N scope x F fr = true) (hs : ∀ x, foldedSetIterable iter X.env x = pure x)
    (fin : ∀ (s5 : Shared) (H5 : Hp) (D C : Addr) (m : Str → Option Value), Inv X pins σ H5 s5 → s5.heap.Ns C m → FpOk X pins H5 C → Q (.ref D) H5 → compPost (model X.prog X.w) X.A X.xe use S (.ref D) C (.ok .next) s5) :
    wpAny (model X.prog X.w) X.A (comprehension (.ListComp elt [⟨.Name x px, iter, ifs, 0⟩] scope pos) scope X.env p2 (newList []) false (eval iter X.env) use) S X.xe s := by
  have C := CompOk.of hk
  refine wpAny_comprehension_free (use := use) rfl hs (closure_eq (I.closes C)) C.kind C.loc ?_
  refine thn (hi pins s σ H _ I h) fun v s1 h1 => thn h1 fun itv s2 h2 => ?_
  obtain ⟨it, fp, tn, J, H2, e, I2, T, st2, f2, W, ⟨m0, w0⟩, turn⟩ := h2
  subst e
  refine wpAny_newObj_type (wpAny_newFunctionEnv C.nocell (by intro y hy; simp at hy) (fun h₁ hns₁ hsb₁ => ?_) C.kind)
  dsimp only at hns₁ hsb₁ ⊢
  generalize hs3 : ({ s2 with heap := s2.heap.push { cls := .type "list", dict := none, data := .seq ([] : List Value).toArray } } : Shared) = s3
  have e3 : s3.heap = s2.heap.push { cls := .type "list", dict := none, data := .seq ([] : List Value).toArray } := by rw [← hs3]
  rw [← e3] at hns₁ hsb₁ ⊢
  have sz3 : s3.heap.objs.size = s2.heap.objs.size + 1 := by rw [e3, Heap.size_push]
  generalize hD : s2.heap.objs.size = D at sz3 ⊢
  have I3 : Inv X pins σ H2 s3 := by
    rw [← hs3]
    exact I2.kept (t' := s2.toks) fun b o e => Heap.get?_push_of_some _ e
  have hDX : ∀ {H' : Hp}, H' D = none → FpOk X pins H' D := fun {H'} hn => I2.fpOk (H' := H') (by rw [hD]; exact Nat.le_refl _) hn
  have hCX : ∀ {H' : Hp}, H' s3.heap.objs.size = none → FpOk X pins H' s3.heap.objs.size := fun {H'} hn => I3.fpOk (H' := H') (Nat.le_refl _) hn
  have hD2 : H2 D = none := by rw [← hD]; exact I2.hok.fresh (Nat.le_refl _)
  have ltf : ∀ b ∈ fp, b < D := fun b hb => by
    obtain ⟨o, ho, _⟩ := T.obj 0 _ st2 b hb
    rw [← hD]
    exact Heap.lt_size ho
  have ltD : D < s3.heap.objs.size := by rw [sz3]; exact Nat.lt_succ_self _
  have getD3 : s3.heap.get? D = some { cls := .type "list", dict := none, data := .seq ([] : List Value).toArray } := by
    rw [e3, ← hD]
    exact Heap.get?_push_size _ rfl
  have old : ∀ b o, s3.heap.get? b = some o → h₁.get? b = some o := fun b o e => hsb₁.extBut b o (Nat.ne_of_lt (Heap.lt_size e)) (Heap.get?_push_of_some _ e)
  have J0 : Inv (compCx X (x :: F) scope s3 H2 (D :: fp)) [] (compSt σ fr) H2 { s3 with heap := h₁, toks := s3.toks + ([] : List (Str × Value)).length } := by
    refine inv_comp I3 C (fun b hb => ?_) (by simpa using hns₁) old
    rcases List.mem_cons.mp hb with e | hb
    · subst e; exact ⟨hDX hD2, ltD⟩
    · exact ⟨f2 b hb, Nat.lt_trans (ltf b hb) ltD⟩
  have nfs : ∀ b, b ≠ X.env.locals → b ∉ X.fs → b ∉ frs X.stack := fun b h1 h2 hb => by
    rcases List.mem_cons.mp (I3.stkSub b hb) with z | z
    · exact h1 z
    · exact h2 z
  have gs : ∀ {y : Str} {c : Addr}, (gather X.env.cells scope.names []).lookup y = some c → X.env.cells.lookup y = some c := fun h => I.gsub C h
  -- what is true of the block's iterator
  have fpY : ∀ {H' : Hp} {oD : Obj}, (∀ b ∈ fp, H' b = none) → ∀ b ∈ fp, FpOk (compCx X (x :: F) scope s3 H2 (D :: fp)) [(D, oD)] H' b := fun {H' oD} hn b hb => by
    obtain ⟨g0, g1, g2, g3, g4, g5⟩ := f2 b hb
    refine ⟨hn b hb, Nat.ne_of_lt (Nat.lt_trans (ltf b hb) ltD), nfs b g1 g2, .inl (List.mem_cons_of_mem _ hb), fun y c e => g4 y c (gs e), fun p hp => ?_⟩
    have e : p = (D, oD) := by
      have : p ∈ ([] : List (Addr × Obj)) ++ [(D, oD)] := hp
      simpa using this
    rw [e]
    exact Nat.ne_of_gt (ltf b hb)
  have pinD : ∀ {H' : Hp} {s' : Shared} {oD : Obj} {σ' : St}, Inv (compCx X (x :: F) scope s3 H2 (D :: fp)) [] σ' H' s' → H' D = none → s'.heap.get? D = some oD → (∀ v, oD.data ≠ .cell v) → Inv (compCx X (x :: F) scope s3 H2 (D :: fp)) [(D, oD)] σ' H' s' := fun {H' s' oD σ'} I' hn e hd => by
    refine I'.pins_of fun p hp => ?_
    have ep : p = (D, oD) := by simpa using hp
    subst ep
    obtain ⟨g0, g1, g2, _⟩ := hDX hD2
    exact ⟨e, hn, Nat.ne_of_lt ltD, nfs D g1 g2, hd⟩
  have unpin : ∀ {H' : Hp} {s' : Shared} {pl : List (Addr × Obj)} {σ' : St}, Inv (compCx X (x :: F) scope s3 H2 (D :: fp)) pl σ' H' s' → Inv (compCx X (x :: F) scope s3 H2 (D :: fp)) [] σ' H' s' := fun I' => I'.pins_of fun p hp => nomatch hp
  have post : ∀ (s' : Shared), s' = { s3 with heap := h₁, toks := s3.toks + ([] : List (Str × Value)).length } →
      codeAny (model X.prog X.w) X.A (.compLoop (.ListComp elt [⟨.Name x px, iter, ifs, 0⟩] scope pos) 0 (.ref it) (.ref D) (compEnvC scope (gather X.env.cells scope.names []) s3.heap.objs.size X.env))
        (compPost (model X.prog X.w) X.A X.xe use S (.ref D) s3.heap.objs.size) s' := by
    rintro s' rfl
    refine codeAny_compLoop_tests (fun n s' => ∃ i acc its H' oD, Inv (compCx X (x :: F) scope s3 H2 (D :: fp)) [] (compSt σ fr) H' s' ∧ tn i s'.heap ∧ (∀ b ∈ fp, H' b = none) ∧ H' D = none ∧
      s'.heap.get? D = some oD ∧ (∃ n, oD = { cls := .type "list", data := .seq (its : List Value).toArray n }) ∧ Vals acc its ∧ W i n acc H') ?_ m0 ⟨0, [], [], H2, _, J0, ?_, fun b hb => (f2 b hb).1, hD2, old _ _ getD3, ⟨0, rfl⟩, .nil, w0⟩
    · rintro n s4 ⟨i, acc, its, H4, oD, I4, st4, fr4, n4, g4, ⟨nn, rfl⟩, v4, w4⟩
      have hdat : ∀ v, ({ cls := .type "list", data := .seq its.toArray nn } : Obj).data ≠ .cell v := fun v z => by cases z
      have I4' := pinD I4 n4 g4 hdat
      rcases turn i n acc H4 w4 with ⟨stop, hz, q⟩ | ⟨go, hz, step⟩
      · refine wpAny_mono (T.done (compCx X (x :: F) scope s3 H2 (D :: fp)) rfl rfl rfl hc i [(D, _)] s4 (compSt σ fr) H4 (fun _ _ => False) I4' (fpY fr4) st4 stop) (fun r s5 ⟨hr, I5⟩ => ?_) fun _ _ z => False.elim z
        subst hr
        obtain ⟨m, hm, _⟩ := I5.loc
        obtain ⟨g5, n5, _⟩ := I5.pin (D, _) (List.mem_append_right _ List.mem_cons_self)
        have hC5 : H4 s3.heap.objs.size = none := I5.free
        have IX : Inv X pins σ H4 s5 := I3.call' (ch := D :: fp) I5.os I5.base I5.hok I5.bare fun b hb => by
          rcases List.mem_cons.mp hb with e | hb
          · subst e
            obtain ⟨g0, g1, g2, g3, g4, g5⟩ := hDX hD2
            exact ⟨g3, g1, g4, g5⟩
          · obtain ⟨g0, g1, g2, g3, g4, g5⟩ := f2 b hb
            exact ⟨g3, g1, g4, g5⟩
        have hC6 : (upd H4 D (.lst acc)) s3.heap.objs.size = none := by rw [upd_ne (Nat.ne_of_gt ltD)]; exact hC5
        exact fin s5 _ D _ m (IX.track (o := .lst acc) (hDX n5) (by rw [← hD]; exact I2.sz) ⟨hz, its, nn, v4, g5⟩) hm (hCX hC6) (q D n5)
      · refine wpAny_mono (T.item (compCx X (x :: F) scope s3 H2 (D :: fp)) rfl rfl rfl hc i [(D, _)] s4 (compSt σ fr) H4 (fun _ _ => False) I4' (fpY fr4) st4 go) (fun r s5 ⟨u, hr, h5⟩ => ?_) fun _ _ z => False.elim z
        subst hr
        refine after_pure (show wpAny _ _ (pure () : Sem Unit) _ _ s5 from h5) fun ⟨y, H6, I6, r6, y6, st6, fr6⟩ => ?_
        have hl : (compCx X (x :: F) scope s3 H2 (D :: fp)).env.scope.names.lookup x = some .local := lookup_relabel_local C.tx
        -- the target's store, the iterator and the list held fast
        have I6' := I6.pinned (fp := fp) (fun b hb => ⟨fr6 b hb, (fpY (oD := { cls := .type "list", data := .seq its.toArray nn }) fr4 b hb).2⟩) (T.obj _ _ st6)
        have PGx : PG (compCx X (x :: F) scope s3 H2 (D :: fp)) (.Name x px) (gName 0) := pg_name C.nd rfl (.inl hl) (.inr hl)
        refine wpAny_mono (PGx _ s5 (compSt σ fr) H6 y u (fun σ7 H7 => σ7 = (compSt σ fr).set 0 (some y) ∧ H7 = H6) I6' r6 ⟨rfl, rfl⟩) (fun _ s7 ⟨σ7, H7, I7, q7⟩ => ?_) fun _ _ z => False.elim z
        obtain ⟨rfl, rfl⟩ := q7
        refine wpAny_mono (ht s3 H2 (D :: fp) _ s7 _ H7 _ I7 (step y H7 y6)) (fun b s8 ⟨H8, I8, q8⟩ => ?_) fun _ _ z => False.elim z
        -- what is held fast
        have held : ∀ {σ9 : St} {H9 : Hp} {s9 : Shared}, Inv (compCx X (x :: F) scope s3 H2 (D :: fp)) ([(D, { cls := .type "list", data := .seq its.toArray nn })] ++ pinsAt fp s5.heap) σ9 H9 s9 →
            tn (i + 1) s9.heap ∧ (∀ b ∈ fp, H9 b = none) ∧ H9 D = none ∧ s9.heap.get? D = some { cls := .type "list", data := .seq its.toArray nn } := fun {σ9 H9 s9} I9 => by
          refine ⟨T.keep _ _ _ st6 fun b hb o e => (I9.pin (b, o) (List.mem_append_right _ (List.mem_append_right _ (mem_pinsAt hb e)))).1, fun b hb => ?_, ?_, ?_⟩
          · obtain ⟨o, e, _⟩ := T.obj _ _ st6 b hb
            exact (I9.pin (b, o) (List.mem_append_right _ (List.mem_append_right _ (mem_pinsAt hb e)))).2.1
          · exact (I9.pin (D, _) (List.mem_append_right _ (List.mem_append_left _ List.mem_cons_self))).2.1
          · exact (I9.pin (D, _) (List.mem_append_right _ (List.mem_append_left _ List.mem_cons_self))).1
        have forget : ∀ {H9 : Hp} {s9 : Shared} {pl : List (Addr × Obj)}, Inv (compCx X (x :: F) scope s3 H2 (D :: fp)) pl ((compSt σ fr).set 0 (some y)) H9 s9 → Inv (compCx X (x :: F) scope s3 H2 (D :: fp)) [] (compSt σ fr) H9 s9 := fun {H9 s9 pl} I9 => by
          refine (unpin I9).weak (by simp) fun j v e => ?_
          cases j with
          | zero => simp [compSt] at e
          | succ j => simpa [compSt] using e
        cases b with
        | false =>
          obtain ⟨m', hm', w8⟩ := q8
          obtain ⟨a1, a2, a3, a4⟩ := held I8
          exact ⟨m', hm', i + 1, acc, its, H8, _, forget I8, a1, a2, a3, a4, ⟨nn, rfl⟩, v4, w8⟩
        | true =>
          refine wpAny_mono (he s3 H2 (D :: fp) _ s8 _ H8 _ I8 q8) (fun yv s9 ⟨z9, H9, I9, r9, m', hm', w9⟩ => ?_) fun _ _ z => False.elim z
          obtain ⟨a1, a2, a3, a4⟩ := held I9
          have hlen := v4.length
          refine wpAny_list_append_plain (items := its.toArray) ⟨nn, a4⟩ (fun h' hp' hsb' => ?_) (by rw [List.size_toArray]; omega)
          obtain ⟨n2, hp2⟩ := hp'
          have e2 : its.toArray.push yv = (its ++ [yv]).toArray := by simp
          rw [e2] at hp2
          have I10 := forget I9
          obtain ⟨d0, d1, d2, d3, d4, d5⟩ := hDX hD2
          have I11 : Inv (compCx X (x :: F) scope s3 H2 (D :: fp)) [] (compSt σ fr) H9 { s9 with heap := h' } :=
            I10.turned (t' := s9.toks) (it := D) (fun b o hb e => (hsb'.2 b hb).trans e) a3 (Nat.ne_of_lt ltD) (.inl List.mem_cons_self) (fun y c e => d4 y c (gs e)) fun p hp => absurd (show p ∈ ([] : List (Addr × Obj)) from hp) (by simp)
          refine ⟨m', hm', i + 1, acc ++ [z9], its ++ [yv], H9, _, I11, T.keep _ _ _ a1 fun b hb o e => (hsb'.2 b (Nat.ne_of_lt (ltf b hb))).trans e, a2, a3, hp2, ⟨n2, rfl⟩, v4.append (.cons r9 .nil), w9⟩
    · exact T.keep _ _ _ st2 fun b hb o e => old b o (by rw [e3]; exact Heap.get?_push_of_some _ e)
  refine codeAny_compStart_list (post _ (by rw [← hs3])) (T.self X.A 0 _ _ _ ?_ (post _ (by rw [← hs3])))
  exact T.keep _ _ _ st2 fun b hb o e => old b o (by rw [e3]; exact Heap.get?_push_of_some _ e)

/-- x = [.. for ..] at a plain local: the store stands within the block -/
theorem ps_setComp {y : Str} {j : Nat} {elt iter : Expr} {x : Str} {px py : Pos} {ifs : List Expr} {scope : Scope} {pos spos : Pos} {wi : TI} {tt : TT} {te : TE} (F : List Str) (fr : List Nat) (hN : X.N.Nodup) (hj : X.N[j]? = some y) (hy : X.env.scope.names.lookup y = some .local) (hc : X.calm = true) (hi : PI X (.Name x px) iter wi)
    (ht : ∀ s3 H3 ex, PTs (compCx X (x :: F) scope s3 H3 ex) ifs tt) (he : ∀ s3 H3 ex, PE (compCx X (x :: F) scope s3 H3 ex) elt te)
    (hsw : swapsWith (.ListComp elt [⟨.Name x px, iter, ifs, 0⟩] scope pos) (some (.Name y py)) spos.line X.env = pure true := by rfl)
    (hk : compChk X.env.scope X.N scope x F fr = true := by rfl) (hs : ∀ x, foldedSetIterable iter X.env x = pure x := by intro _; rfl) :
    PS X (.Assign [.Name y py] (.ListComp elt [⟨.Name x px, iter, ifs, 0⟩] scope pos) spos) (tAsg (tComp wi fr tt te) (gName j)) := by
  intro pins s σ H D0 I h
  rw [exec_Assign_Name_used _ _ _ _ hsw]
  refine wpAny_bind (wpAny_standAt (wpAny_bind ?_))
  show wpAny _ X.A (do let _ ← comprehension (.ListComp elt [⟨.Name x px, iter, ifs, 0⟩] scope pos) scope X.env _ (newList []) false (eval iter X.env) (some (assign (.Name y py) X.env))) _ _ s
  refine wpAny_bind (wpAny_mono (comp_core (use := some (assign (.Name y py) X.env)) (S := fun _ s' => SP X pins D0 .next s') F fr hc hi ht he I h hk hs fun s5 H5 D C m IT hm hC q => ?_) (fun _ s' hq => wpAny_pure (wpAny_pure hq)) fun _ _ e => e)
  obtain ⟨c0, c1, c2, c3, c4, c5⟩ := hC
  show wpAny _ X.A (assign (.Name y py) X.env (.ref D)) _ _ _
  refine wpAny_assign_Name (store_ok2 IT hN hj (.inl hy) (v := .ref D) rfl (fun s6 I6 hsb => ?_) (.inr hy))
  obtain ⟨b, hsb, hb⟩ := hsb
  have hCb : C ≠ b := by
    rcases hb with e | e
    · rw [e]; exact c1
    · exact fun z => c4 y b e z.symm
  refine ⟨m, hm.sameBut hsb hCb, fun h' hs' => ?_⟩
  exact ⟨_, H5, I6.turned (t' := s6.toks) (it := C) (fun b o hb e => (hs'.2 b hb).trans e) c0 c1 c3 c4 c5, q⟩
end
end L2
set_option Elab.async false
set_option linter.all false
set_option maxRecDepth 100000
set_option maxHeartbeats 4000000
namespace L2
open PySem PySem.Spec PyProof.Rows

/-! ### an exception in flight -/
theorem ObjOk.there {P : Program} {w : World} {H : Hp} {h : Heap} {a : Addr} {o : HO} (x : ObjOk P w H h a o) : ∃ u, h.get? a = some u := by
  cases o with
  | lst xs => obtain ⟨_, _, _, _, e⟩ := x; exact ⟨_, e⟩
  | tup xs => obtain ⟨_, _, _, ob, e, _⟩ := x; exact ⟨_, e⟩
  | dK kvs => obtain ⟨_, _, _, _, ob, _, _, e, _⟩ := x; exact ⟨_, e⟩
  | dT kvs => obtain ⟨_, _, _, _, ob, _, _, e, _⟩ := x; exact ⟨_, e⟩
  | set S n => obtain ⟨ob, _, _, _, e, _⟩ := x; exact ⟨_, e⟩
  | ins C dx fs => obtain ⟨_, _, _, e, _⟩ := x; exact ⟨_, e⟩
  | own y => exact x
  | xd fs => obtain ⟨_, ⟨ob, _, _, e, _⟩, _⟩ := x; exact ⟨_, e⟩
  | rng lo hi => obtain ⟨_, _, _, e⟩ := x; exact ⟨_, e⟩
  | frz ob u => obtain ⟨e, _⟩ := x; exact ⟨_, e⟩
  | tbl ps => exact ⟨_, (show h.get? a = some _ from x)⟩
  | met f y => exact ⟨_, (show h.get? a = some _ from x)⟩
  | ext φ => obtain ⟨_, e, _⟩ := x; exact e
theorem HOk.over {P : Program} {w : World} {H : Hp} {h B : Heap} (x : HOk P w H h) (k : ∀ b u o, H b = some u → h.get? b = some o → B.get? b = some o) : HOk P w H B := fun a o e => by
  refine (x a o e).stay (fun b u hb q => ?_) (fun _ q => q) fun _ _ q => q
  rcases hb with z | z
  · subst z; exact k _ _ _ e q
  · exact k _ _ _ z q

/-- seen from the state s (abstract heap H) ahead of the call: the exception at x flies over the frames l; B: the heap at the raise, without the frames that run -/
structure Fly (P : Program) (w : World) (l : List Env) (H : Hp) (s : Shared) (x : Addr) (cls a0 : Value) (H' : Hp) (B : Heap) (s' : Shared) : Prop where
  os : s'.os = s.os
  bare : AllBare s'.gens
  fly : Heap.FlyingW B l x cls a0 s'.heap
  keep : ∀ b o, s.heap.get? b = some o → H b = none → b ∉ frs l → B.get? b = some o
  slot : ∀ b o, s.heap.get? b = some o → b ∈ frs l → ∃ sl, s'.heap.get? b = some { o with slots := sl }
  free : ∀ b o, s.heap.get? b = some o → H b = none → H' b = none
  there : ∀ b o, s.heap.get? b = some o → b ∉ frs l → ∃ o', B.get? b = some o'
  tups : ∀ b xs, H b = some (.tup xs) → H' b = some (.tup xs)
  frzs : ∀ b o u, H b = some (.frz o u) → H' b = some (.frz o u)
  tbls : ∀ b ps, H b = some (.tbl ps) → ∃ more, H' b = some (.tbl (ps ++ more))
  hok : HOk P w H' B
section
variable {P : Program} {w : World} {l : List Env} {H H' : Hp} {s s' : Shared} {x : Addr} {cls a0 : Value} {B : Heap}
theorem Fly.un (F : Fly P w l H s x cls a0 H' B s') : Un (frs l) [] H H' s.heap s'.heap where
  keep := fun b o e n hb _ => F.fly.1 b o (F.keep b o e n hb)
  slot := fun b o e _ hb _ => F.slot b o e hb
  free := fun b o e n _ => F.free b o e n
  there := fun b o e _ => by
    by_cases hb : b ∈ frs l
    · obtain ⟨sl, q⟩ := F.slot b o e hb
      exact ⟨_, q⟩
    · obtain ⟨o', q⟩ := F.there b o e hb
      exact ⟨o', F.fly.1 b o' q⟩
  tups := F.tups
  frzs := F.frzs
  tbls := F.tbls
theorem Fly.hok' (F : Fly P w l H s x cls a0 H' B s') : HOk P w H' s'.heap := F.hok.kept F.fly.1
theorem Fly.new (F : Fly P w l H s x cls a0 H' B s') : H' x = none := by
  cases q : H' x with
  | none => rfl
  | some u =>
    obtain ⟨o, e⟩ := (F.hok x u q).there
    rw [F.fly.2.1] at e
    cases e
/-- the exception is not of the state ahead -/
theorem Fly.fresh (F : Fly P w l H s x cls a0 H' B s') : s.heap.get? x = none := by
  cases q : s.heap.get? x with
  | none => rfl
  | some o =>
    exfalso
    by_cases hb : x ∈ frs l
    · obtain ⟨_, oe, h1, h2⟩ := F.fly.2.2.1.mem hb
      obtain ⟨ob, vs, h3, _, h4, _⟩ := F.fly.first
      rw [h1] at h3
      cases h3
      exact h2 _ h4
    · obtain ⟨o', e⟩ := F.there x o q hb
      rw [F.fly.2.1] at e
      cases e
/-- the flight goes on in another heap -/
theorem Fly.move {h : Heap} {t : Nat} (F : Fly P w l H s x cls a0 H' B s') (f : Heap.FlyingW B l x cls a0 h) (u : s'.heap.UpToSlots h) : Fly P w l H s x cls a0 H' B { s' with heap := h, toks := t } where
  os := F.os
  bare := F.bare
  fly := f
  keep := F.keep
  slot := fun b o e hb => by
    obtain ⟨sl, q⟩ := F.slot b o e hb
    obtain ⟨_, oe, h1, h2⟩ := F.fly.2.2.1.mem hb
    rw [q] at h1
    cases h1
    obtain ⟨sl', q'⟩ := u b _ q h2
    exact ⟨sl', q'⟩
  free := F.free
  there := F.there
  tups := F.tups
  frzs := F.frzs
  tbls := F.tbls
  hok := F.hok
end
/-- how an exception lies behind a call -/
def CXx (P : Program) (w : World) : CXT := fun l H s E e s' => ∃ x cls a0 H' B, e = .ref x ∧ Fly P w l H s x cls a0 H' B s' ∧ E cls none H'

section
variable {X : Cx} {pins : List (Addr × Obj)} {σ : St} {H H' : Hp} {s s' : Shared} {x : Addr} {cls a0 : Value} {B : Heap}
theorem Inv.notL (I : Inv X pins σ H s) {b : Addr} {o : Obj} (e : X.s₀.heap.get? b = some o) (hb : b ∉ X.fs) : b ∉ frs X.stack := fun z => by
  rcases List.mem_cons.mp (I.stkSub b z) with q | q
  · exact absurd q (Nat.ne_of_lt (Nat.lt_of_lt_of_le (Heap.lt_size e) I.ok.above))
  · exact hb q
end

/-! ### a def's body: an exception made here, one that passes -/
/-- what is raised here reaches what is wanted of exceptions -/
def Made (X : Cx) (E : XK) : Prop := ∀ (pins : List (Addr × Obj)) (σ : St) (H : Hp) (s : Shared) (h' : Heap) (e : Addr) (cls : Value) (vs : List Value), Inv X pins σ H s → Heap.MadeExcOf s.heap h' e cls vs → E cls none H → X.xe (.ref e) { s with heap := h' }
section
variable {P : Program} {w : World} {K : PySem.W.Frag} {mg : Str → Option Value} {base : Heap} {N : List Str} {qual : Str} {scope : Scope} {f : Addr} {cd : Value} {A : Around} {outer : List Env} {s : Shared} {H : Hp} {E E' : XK}
theorem made_def : Made (cxOf (CXx P w) P w K mg base N qual scope f cd A outer s H E) E := by
  intro pins σ H1 s1 h' e cls vs I hx q
  have hin : ∀ env ∈ (envOfC qual scope s.heap.objs.size f cd :: outer), ∀ b, env.frame = some b → b ∈ frs (envOfC qual scope s.heap.objs.size f cd :: outer) := fun env he b hb => List.mem_filterMap.mpr ⟨env, he, hb⟩
  have hnot : ∀ b u, H1 b = some u → b ∉ frs (envOfC qual scope s.heap.objs.size f cd :: outer) := fun b u e hb => by
    have := I.stkFree b hb
    rw [e] at this
    cases this
  show wpAny (model P w) (A.deeper (envOfC qual scope s.heap.objs.size f cd)) (leaving (envOfC qual scope s.heap.objs.size f cd) (.ref e)) _ _ _
  refine wpAny_leaves_madeW (base := PySem.W.hideAll s1.heap (frs (envOfC qual scope s.heap.objs.size f cd :: outer))) (h := s1.heap) I.ok.frames rfl (fun b o z => PySem.W.of_hideAll _ z) (PySem.W.funFrames_hide I.stack hin) hx fun h2 t fl tup bt up => ?_
  refine ⟨e, cls, .ref t, H1, PySem.W.hideAll s1.heap (frs (envOfC qual scope s.heap.objs.size f cd :: outer)), rfl, ⟨I.os, I.bare, fl, fun b o e n hb => ?_, fun b o e hb => ?_, fun b o e n => I.base.free b o e n (fun z => nomatch z), fun b o e hb => ?_, I.base.tups, I.base.frzs, I.base.tbls, ?_⟩, q⟩
  · exact PySem.W.hideAll_get _ (I.base.keep b o e n hb (fun z => nomatch z)) (I.notL e hb)
  · obtain ⟨sl, q1⟩ := I.base.slot b o e (I.ok.frf b hb) hb (fun z => nomatch z)
    have hb' : b ∈ frs (envOfC qual scope s.heap.objs.size f cd :: outer) := by
      obtain ⟨env, he, hf⟩ := List.mem_filterMap.mp hb
      exact hin env (List.mem_cons_of_mem _ he) b hf
    obtain ⟨_, oe, h3, h4⟩ := I.stack.mem hb'
    rw [q1] at h3
    cases h3
    obtain ⟨sl2, q2⟩ := up b _ (hx.keeps _ _ q1) h4
    exact ⟨sl2, q2⟩
  · obtain ⟨o', q1⟩ := I.base.there b o e (fun z => nomatch z)
    exact ⟨o', PySem.W.hideAll_get _ q1 (I.notL e hb)⟩
  · exact I.hok.over fun b u o e q1 => PySem.W.hideAll_get _ q1 (hnot b u e)
end
end L2
set_option Elab.async false
set_option linter.all false
set_option maxRecDepth 100000
set_option maxHeartbeats 4000000
namespace L2
open PySem PySem.Spec PyProof.Rows

/-! ### own error classes under ValueError -/
/-- the classes that ValueError stands under -/
abbrev VB : List Value := [.type "ValueError", .type "Exception", .type "BaseException", .type "object"]
theorem exc_obj {K : PySem.W.Frag} {h : Heap} {C : Addr} {bmB : List Value} {newId : String} (X : K.In h) (q : PySem.W.excIn K C bmB newId = true) :
    ∃ bm N nm qn bs hd sn sub ab col dd k0 k1 k2 k3 k5 mN, h.get? C = some (excClassObj nm qn C N bs bm hd sn sub ab col dd k0 k1 k2 k3 k5 newId) ∧ h.Ns N mN ∧ mN "__init__" = none ∧ OwnTail h bmB bm := by
  unfold PySem.W.excIn at q
  split at q
  case h_2 => exact absurd q Bool.false_ne_true
  case h_1 dd cd sl look =>
    split at q
    case h_2 => exact absurd q Bool.false_ne_true
    case h_1 C' bm k0 k1 k2 k3 n k5 hm hs =>
      rw [Bool.and_eq_true, Bool.and_eq_true, Bool.and_eq_true, Bool.and_eq_true, Bool.and_eq_true] at q
      obtain ⟨⟨⟨⟨⟨qc, qn⟩, qd⟩, qt⟩, qo⟩, qi⟩ := q
      have e1 : C' = C := beq_iff_eq.mp qc
      have e2 : n = newId := beq_iff_eq.mp qn
      have e3 : cd.hasDel = false := by simpa using qd
      have hsl : sl = #[k0, k1, k2, k3, some (.builtin n), k5] := by
        apply Array.toList_inj.mp
        exact hs
      have ho := X _ _ look
      subst e1 e2
      cases cd with
      | mk nm bs mro ns qname hdct sn sub ab col del =>
        have e3' : del = false := e3
        have e4 : mro = .ref C' :: bm := hm
        subst e3' e4
        rw [hsl] at ho
        exact ⟨bm, ns, nm, qname, bs, hdct, sn, sub, ab, col, dd, k0, k1, k2, k3, k5, _, ho, Heap.Ns.of_isNs (PySem.W.isNs_of_in X qo), PySem.W.nsMap_none_of_in X qo (beq_iff_eq.mp qi), PySem.W.tail_of_in X qt⟩
section
variable {X : Cx} {x : Str} {C : Addr} {np cpos pos : Pos} {e : Expr} {es : List Expr} {t : TA} {E : XK}
/-- raise C(e, ..), C a class of one's own without an __init__ -/
def tRaise (E : XK) (C : Addr) (t : TA) : TS := fun _ σ H => t σ H fun vs H1 => vs.length ≤ sizeLine ∧ E (.ref C) none H1
theorem ps_raise (hm : Made X E) (hc : X.calm = true) (hg : Gl X x) (hmg : X.mg x = some (.ref C)) (hC : PySem.W.excIn X.K C VB "ValueError.__new__" = true) (ha : PA X (e :: es) t)
    (hdb : (x == ("__debug__" : Str)) = false := by decide) (he : starEach (e :: es) X.env = (false, eval e X.env) :: starEach es X.env := by rfl) (hpl : (backTo cpos (starEach es X.env)).any (·.1) = false := by rfl) :
    PS X (.Raise (some (.Call (.Name x np) (e :: es) [] cpos)) none pos) (tRaise E C t) := by
  intro pins s σ H D I h
  obtain ⟨bm, N, nm, qn, bs, hd, sn, sub, ab, col, dd, k0, k1, k2, k3, k5, mN, h1, h2, h3, h4⟩ := exc_obj I.mod.kin hC
  have hall : (backTo cpos (starEach (e :: es) X.env)).any (·.1) = false := by
    rw [he]
    show (false || (backTo cpos (starEach es X.env)).any (·.1)) = false
    rw [Bool.false_or]
    exact hpl
  refine wpAny_Raise_call_subT (mN := mN) (nm := nm) (q := qn) (N := N) (bs := bs) (hdct := hd) (sn := sn) (sub := sub) (ab := ab) (col := col) (dd := dd) (k0 := k0) (k1 := k1) (k2 := k2) (k3 := k3) (k5 := k5) PySem.F.excBase_ValueError (h4.hasType PySem.F.excBase_ValueError.hasBase) (I.ok.hd hc) hall h3 (ld_glob I hg hmg ⟨rfl, ?_⟩ hdb)
  have hv := ha cpos pins s σ H _ I h
  rw [he] at hv ⊢
  refine Calls.evalArgs_plain (thn hv fun vs s2 hv2 => ?_)
  obtain ⟨ws, H2, I2, r, hz, q⟩ := hv2
  exact ⟨rfl, by rw [← r.length]; exact hz, I2.bk _ _ h1, h2.keeps I2.bk, h4.keeps I2.bk, fun h' e' hx => hm pins σ H2 s2 h' e' _ _ I2 hx q⟩
end

/-! ### texts with places in them: what stands in them is not followed -/
section
variable {X : Cx}
def PJ (X : Cx) (es : List Expr) (n : Nat) (t : St → Hp → (Hp → Prop) → Prop) : Prop :=
  ∀ (pins : List (Addr × Obj)) (s : Shared) (σ : St) (H : Hp) (acc : Str) (R : Str → Shared → Prop) (Q : Hp → Prop), Inv X pins σ H s → acc.length + n ≤ sizeLine → t σ H Q →
    (∀ out s' H', Inv X pins σ H' s' → out.length ≤ sizeLine → Q H' → R out s') → Joins (model X.prog X.w) X.A X.xe (evalEach es X.env) acc R s
def jNil : St → Hp → (Hp → Prop) → Prop := fun _ H Q => Q H
def jInt (te : TE) (t : St → Hp → (Hp → Prop) → Prop) : St → Hp → (Hp → Prop) → Prop := fun σ H Q => te σ H fun v H1 => ∃ a : Int, v = .int a ∧ a.natAbs.log2 < 1920 ∧ (Str.ofString (toString a)).length ≤ 100 ∧ t σ H1 Q
theorem pj_nil : PJ X [] 0 jNil := fun pins s σ H acc R Q I hz h k => k acc s H I (by omega) h
theorem pj_str {y : Str} {j pos} {es : List Expr} {n : Nat} {t : St → Hp → (Hp → Prop) → Prop} (h : PJ X es n t) : PJ X (.Constant (.str y) j pos :: es) (y.length + n) t := by
  intro pins s σ H acc R Q I hz hq k
  have hl : (acc ++ y).length = acc.length + y.length := strLen_append acc y
  refine Calls.Constant_str ⟨y, s.toks, rfl, by omega, ?_⟩
  exact h pins { s with toks := s.toks + 1 } σ H (acc ++ y) R Q (I.tok _) (by omega) hq k
theorem pj_int {e : Expr} {te : TE} {pos : Pos} {es : List Expr} {n : Nat} {t : St → Hp → (Hp → Prop) → Prop} (he : PE X e te) (h : PJ X es n t) : PJ X (.FormattedValue e (-1) none pos :: es) (100 + n) (jInt te t) := by
  intro pins s σ H acc R Q I hz hq k
  show wpAny _ _ (eval (.FormattedValue e (-1) none pos) X.env) _ _ s
  refine wpAny_FormattedValue_plain (thn (he pins s σ H _ I hq) fun v s1 h1 => ?_)
  obtain ⟨v', H1, I1, r, a, e1, h2, h3, h4⟩ := h1
  subst e1
  obtain ⟨tk, rfl⟩ := r
  refine wpAny_formatField_int h2 ⟨Str.ofString (toString a), s1.toks + 1, rfl, ?_, ?_⟩
  · have hl := strLen_append acc (Str.ofString (toString a))
    omega
  · have hl := strLen_append acc (Str.ofString (toString a))
    exact h pins { s1 with toks := s1.toks + 1 + 1 } σ H1 _ R Q (I1.tok _) (by omega) h4 k
def tJoin (t : St → Hp → (Hp → Prop) → Prop) : TE := fun σ H Q => t σ H fun H1 => ∀ y : Str, Q (.str y) H1
theorem pe_join {v1 v2 : Expr} {rest : List Expr} {n : Nat} {t : St → Hp → (Hp → Prop) → Prop} {pos : Pos} (h : PJ X (v1 :: v2 :: rest) n t) (hn : n ≤ sizeLine := by decide) : PE X (.JoinedStr (v1 :: v2 :: rest) pos) (tJoin t) := by
  intro pins s σ H Q I hq
  refine wpAny_JoinedStr (h pins s σ H Str.empty _ _ I (by rw [show Str.empty.length = 0 from rfl]; omega) hq fun out s' H' I' hz q => ⟨hz, ?_⟩)
  exact ⟨.str out, H', I'.tok _, ⟨_, rfl⟩, q out⟩
theorem digit_len (a : Int) (h0 : 0 ≤ a) (h1 : a < 9) : a.natAbs.log2 < 1920 ∧ (Str.ofString (toString a)).length ≤ 100 := by
  have h : a = 0 ∨ a = 1 ∨ a = 2 ∨ a = 3 ∨ a = 4 ∨ a = 5 ∨ a = 6 ∨ a = 7 ∨ a = 8 := by omega
  rcases h with rfl | rfl | rfl | rfl | rfl | rfl | rfl | rfl | rfl <;> exact ⟨by decide, by decide +kernel⟩
end

/-! ### defs that may raise -/
section
variable {P : Program} {w : World} {K : PySem.W.Frag} {mg : Str → Option Value} {base : Heap}
/-- a def by its body, exceptions and all -/
theorem Fun.okX {x qual : Str} {st : Stmt} {f : Addr} {fd : FuncData} {N ps : List Str} {k : Nat} {sp : Sp} (F : Fun K x qual st f fd) (S : FnScope N ps (defScope st)) (len : ∀ vs H Q E, sp vs H Q E → vs.length = ps.length)
    (hb : ∀ (cdv : Value) (A : Around) (outer : List Env) (s : Shared) (H : Hp) (vs : List V) (Q : VK) (E : XK), Room k (A.deeper (envOfC qual (defScope st) s.heap.objs.size f cdv)) → sp vs H Q E →
      ∃ t, PSs (cxOf (CXx P w) P w K mg base N qual (defScope st) f cdv A outer s H E) (defBody st) t ∧ t { nx := fun _ H' => Q .non H', rt := Q } (start N vs) H) : FnOk P w K mg base (CXx P w) (k + 1) f fd ps sp := by
  obtain ⟨oc, od, kV, doc, pm, an, cdv, ct, osl, rfl, lk, hcd⟩ := F.ex
  exact fn_of lk hcd S len fun A outer s H vs Q E hr hsp => hb cdv A outer s H vs Q E hr hsp
end
section
variable {X : Cx} {k : Nat} {x : Str} {ps : List Str} {sp : Sp} {p pos : Pos} {e : Expr} {es : List Expr} {t : TA} {E : XK}
/-- an exception of a callee reaches what is wanted; Z: by the names' values at the call -/
def Acc (X : Cx) (Z : St → XK) : Prop := ∀ (pins : List (Addr × Obj)) (σ : St) (H : Hp) (s : Shared) (e : Value) (s' : Shared), Inv X pins σ H s → CXx X.prog X.w X.stack H s (Z σ) e s' → X.xe e s'
end
end L2
set_option Elab.async false
set_option linter.all false
set_option maxRecDepth 100000
set_option maxHeartbeats 4000000
namespace L2
open PySem PySem.Spec PyProof.Rows

/-! ### isinstance of an exception of one's own -/
/-- an exception of the class cls at x -/
def ExcO (x : Addr) (cls : Value) : HO := .ext fun h => ∃ o vs, h.get? x = some o ∧ o.cls = cls ∧ o.data = .fields vs
/-- what the class at D must be like -/
structure ExcK (K : PySem.W.Frag) (D : Addr) : Prop where
  ga : PySem.W.findIn K (.ref D) "__getattribute__" = some (some (.builtin "BaseException.__getattribute__"))
  hook : PySem.W.findIn K (.ref D) "__getattr__" = some none
  at_ : PySem.W.findIn K (.ref D) "__class__" = some (some (.builtin "object.__class__"))
  exc : PySem.W.mroIn K D (.type "BaseException") = some true
  obj : PySem.W.mroIn K D (.type "object") = some true
  cls : (PySem.W.clsIn K D).isSome = true
section
variable {prog : Program} {w : World} {A : Around} {E : Value → Shared → Prop} {K : PySem.W.Frag} {x D : Addr} {o : Obj}
theorem exc_type {M : Model} {h : Heap} (e : h.get? x = some o) (c : o.cls = .ref D) : PySem.W.Looks M h (typeOf (.ref x)) (.ref D) := by
  rw [← c]
  exact (PySem.W.Looks.ld e).andThen .now
theorem exc_class_get {s : Shared} {R : Result → Shared → Prop} {tp : Value} (X : K.In s.heap) (k : ExcK K D) (e : s.heap.get? x = some o) (c : o.cls = .ref D) (h : R (.ok (.ret (.ref D))) s) :
    codeAny (model prog w) A (.call (.builtin "getset_descriptor.__get__") ⟨[.builtin "object.__class__", .ref x, tp], []⟩) R s := by
  obtain ⟨hh, g, dr, t, os⟩ := s
  have L0 := exc_type (M := model prog w) e c
  have L1 := PySem.W.looks_mroIn (M := model prog w) X k.obj
  refine codeAny_call_builtin PySem.W.KF.slot_gs.plain PySem.W.KF.entry_gs (PySem.W.KF.slot_gs.check _ _ _ _ _ _ _ _ PySem.W.KF.type_class
    (PySem.W.KF.args_gs _ _ _) ?_)
  unfold Builtin.«getset_descriptor.__get__» Builtin.Getset_descriptor.descrGet
  rw [PySem.W.dga_obj]
  refine wpAny_bind (wpAny_pure ?_)
  unfold Builtin.Getset_descriptor.descrGetter Builtin.Getset_descriptor.descrCheckInstance Builtin.Getset_descriptor.descrNameAndClass isInstance
  simp only [PySem.W.KF.owner_class]
  repeat lk
  refine ⟨Code.quiet_builtin _ (by decide +kernel), codeAny_builtin PySem.W.KF.entry_class ?_⟩
  unfold Builtin.«object.__class__» shownTypeOf
  repeat lk
  exact h

theorem exc_check {s : Shared} {nameV : Value} {Q : Unit → Shared → Prop} (X : K.In s.heap) (k : ExcK K D) (e : s.heap.get? x = some o) (c : o.cls = .ref D) (h : Q () s) :
    wpAny (model prog w) A (checkBuiltinCall "BaseException.__getattribute__" ⟨[.ref x, nameV], []⟩) Q E s := by
  have kd : builtinKind "BaseException.__getattribute__" = some .slot := by decide +kernel
  have sp : splitId "BaseException.__getattribute__" = some ("BaseException", "__getattribute__") := by decide +kernel
  have L0 := exc_type (M := model prog w) e c
  have L1 := PySem.W.looks_mroIn (M := model prog w) X k.exc
  have ha := PySem.F.args_bexc_ga (.ref x) nameV
  obtain ⟨hh, g, dr, t, os⟩ := s
  simp only [checkBuiltinCall, kd, sp]
  refine wpAny_bind ?_
  unfold isInstance
  repeat (first | lk | wp_step)
  exact h
theorem exc_ga {s : Shared} {tk : Tok} {Q : Fin → Shared → Prop} (X : K.In s.heap) (k : ExcK K D) (e : s.heap.get? x = some o) (c : o.cls = .ref D) (h : Q (.done (.ret (.ref D))) s) :
    wpAny (model prog w) A (Builtin.«object.__getattribute__» ⟨[.ref x, .str "__class__" tk], []⟩) Q E s := by
  have L0 := exc_type (M := model prog w) e c
  have L1 := PySem.W.looks_findIn (M := model prog w) X k.at_
  obtain ⟨hh, g, dr, t, os⟩ := s
  have hT5 : (⟨hh, g, dr, t, os⟩ : Shared).TypeIs (.builtin "object.__class__") "getset_descriptor" := PySem.F.typeOf_object_class
  have f5 := PySem.F.typeOf_object_class
  have f6 := PySem.F.slot_gs_get.lookup
  have f7 := PySem.F.slot_gs_set.lookup
  repeat (any_goals (first | assumption | with_reducible refine PySem.W.Looks.at (by assumption) ?_ | wp_step))
  refine exc_class_get X k e c ?_
  repeat (any_goals (first | assumption | wp_step))
theorem exc_class {s : Shared} {Q : Option Value → Shared → Prop} (X : K.In s.heap) (k : ExcK K D) (e : s.heap.get? x = some o) (c : o.cls = .ref D) (h : Q (some (.ref D)) { s with toks := s.toks + 1 }) :
    wpAny (model prog w) A (getAttr? (.ref x) "__class__") Q E s := by
  obtain ⟨hh, g, dr, t, os⟩ := s
  have L0 := exc_type (M := model prog w) e c
  have L1 := PySem.W.looks_findIn (M := model prog w) X k.ga
  have L2 := PySem.W.looks_findIn (M := model prog w) X k.hook
  have f3 := PySem.F.attr_ValueError.ga.bind (.ref x)
  unfold getAttr? getAttrBy? getAttrBy
  refine wpAny_bind (wpAny_mkText (wpAny_bind (wpAny_attempt (wpAny_holding (wpAny_bind (L0.at (wpAny_bind (L1.at ?_))))))))
  show wpAny _ _ (getAttrByItsOwn _ _ _ _ _ _) _ _ _
  unfold getAttrByItsOwn
  refine wpAny_bind (L2.at ?_)
  refine wpAny_bind (wpAny_attempt (wpAny_holding ?_))
  show wpAny _ _ (boundAndCalled _ _ _) _ _ _
  unfold boundAndCalled
  rw [f3]
  refine wpAny_bind (wpAny_pure ?_)
  refine wpAny_call (codeAny_call_builtin PySem.F.attr_ValueError.ga.plain PySem.F.entry_bexc_ga (exc_check (s := ⟨hh, g, dr, t + 1, os⟩) X k e c (exc_ga (s := ⟨hh, g, dr, t + 1, os⟩) X k e c ?_)))
  show wpAny _ _ (handedOut (.ref D)) _ _ _
  exact wpAny_mono (PySem.W.handed_on (E := fun _ _ => False) rfl (Q := fun v s' => v = .ref D ∧ s' = ⟨hh, g, dr, t + 1, os⟩) ⟨rfl, rfl⟩) (fun v s' ⟨e1, e2⟩ => by subst e1 e2; exact wpAny_pure h) (fun _ _ z => z.elim)
/-- isinstance's view of such an exception -/
theorem kitx_exc (k : ExcK K D) : PySem.W.KitX K (.ref x) (.ref D) (fun h => ∃ o, h.get? x = some o ∧ o.cls = .ref D) where
  ty := fun _ _ _ ⟨o, e, c⟩ => exc_type e c
  it := fun M h X _ => by
    have z := k.cls
    unfold PySem.W.clsIn at z
    split at z
    · rename_i c' d' cd' sl' ho
      intro A' Q' E' s' kk q
      unfold isType loadHead
      exact wpAny_bind (wpAny_loadPart (kk _ _ (X _ _ ho)) (wpAny_pure q))
    · exact absurd z (by simp)
  ne := fun h tp dd its n sl X htp => by
    rw [Bool.eq_false_iff]
    intro q
    have e : D = tp := Value.ref.inj (beq_iff_eq.mp q)
    have z := k.cls
    rw [e] at z
    unfold PySem.W.clsIn at z
    split at z
    · rename_i c' d' cd' sl' ho
      have u := (X _ _ ho).symm.trans htp
      cases u
    · exact absurd z (by simp)
  ca := fun X ⟨o, e, c⟩ h => exc_class X k e c h
end
section
variable {X : Cx}
/-- a class as a value -/
def clsV : V → Value
  | .ref a => .ref a
  | .ty c => .type c
  | _ => .none
/-- isinstance(e, c), c one class: e an exception at x of the class at D -/
def rIsiX (K : PySem.W.Frag) : List V → Hp → VK → Prop := fun xs H Q => ∃ (x D : Addr) (c : V) (b : Bool), xs = [.ref x, c] ∧ H x = some (ExcO x (.ref D)) ∧ ExcK K D ∧ PySem.W.kitOne K (.ref D) (clsV c) = some b ∧ Q (.bl b) H
theorem clsV_of {c : V} {u : Value} (r : RelV c u) (h : clsV c ≠ .none) : u = clsV c := by
  cases c <;> first | exact absurd rfl h | (cases r; rfl)
theorem call_isiX : CallR X (.builtin "isinstance") (rIsiX X.K) := by
  intro pins s σ H xs us Q I r h
  obtain ⟨x, D, c, b, rfl, hx, k, e, q⟩ := h
  obtain ⟨u, v, rfl, r1, r2⟩ := r.two
  cases r1
  have hv : v = clsV c := clsV_of r2 fun z => by rw [z] at e; cases e
  subst hv
  obtain ⟨⟨o, vs, h1, h2, _⟩, _⟩ := (show ObjOk X.prog X.w H s.heap x (ExcO x (.ref D)) from I.hok x _ hx)
  exact PySem.W.kia_one (kitx_exc k) I.kIn ⟨o, h1, h2⟩ e (fun z => nomatch z) fun tk => ⟨.bl b, H, I.tok tk, rfl, q⟩
end
end L2
set_option Elab.async false
set_option linter.all false
set_option maxRecDepth 100000
set_option maxHeartbeats 4000000
namespace L2
open PySem PySem.Spec PyProof.Rows

/-! ### try .. except -/
section
variable {M : Model} {A : Around} {E : Value → Shared → Prop} {K : PySem.W.Frag} {x C D : Addr} {s : Shared} {Q : Bool → Shared → Prop} {b : Bool} {o : Obj}
theorem exc_matches (X : K.In s.heap) (hC : PySem.W.typeIn K (.ref C) = some (.type "type")) (hcl : (PySem.W.clsIn K C).isSome = true) (hb : PySem.W.mroIn K C (.type "BaseException") = some true) (hs : PySem.W.subIn K (.ref D) (.ref C) = some b)
    (e : s.heap.get? x = some o) (c : o.cls = .ref D) (q : Q b s) : wpAny M A (excMatches (.ref x) (.ref C)) Q E s := by
  have L0 := exc_type (M := M) e c
  have L1 := PySem.W.looks_typeIn (M := M) X hC
  have L2 := PySem.W.looks_mroIn (M := M) X hb
  have L3 := PySem.W.looks_subIn (M := M) X hs
  have L4 : PySem.W.Looks M s.heap (isType (.ref C)) true := by
    unfold PySem.W.clsIn at hcl
    split at hcl
    · rename_i c' d' cd' sl' ho
      intro A' Q' E' s' k q'
      unfold isType loadHead
      exact wpAny_bind (wpAny_loadPart (k _ _ (X _ _ ho)) (wpAny_pure q'))
    · exact absurd hcl (by simp)
  have f := tc_notTuple
  obtain ⟨hh, g, dr, t, os⟩ := s
  unfold excMatches isInstance isExcClass
  repeat (first | with_reducible refine PySem.W.Looks.at (by assumption) ?_ | wp_step)
  cases b <;> (repeat (first | with_reducible refine PySem.W.Looks.at (by assumption) ?_ | wp_step)) <;> exact q
end
/-- the context of an except suite -/
abbrev Cx.under (X : Cx) (x : Addr) : Cx := { X with A := X.A.mark (some (.ref x)), calm := false, xe := fun _ _ => False }
/-- the context of a try's body -/
abbrev Cx.tried (X : Cx) (E : Value → Shared → Prop) (pn : List (Addr × Obj)) : Cx := { X with xe := E, pn := pn }
section
variable {X : Cx} {pins : List (Addr × Obj)} {σ : St} {H : Hp} {s : Shared}
theorem Cx.Ok.under (ok : X.Ok) (x : Addr) : (X.under x).Ok := ⟨ok.mod, ok.kind, ok.glob, ok.blt, ok.above, ok.inj, ok.has, ok.cab, (fun z => nomatch z), ok.frames, ok.stk, ok.exf, ok.bs, ok.bsz, ok.noex, ok.exfs, ok.funs, ok.frf⟩
theorem Inv.under (I : Inv X pins σ H s) (x : Addr) : Inv (X.under x) pins σ H s := ⟨I.ok.under x, I.os, I.bare, I.base, I.loc, I.cell, I.free, I.freeC, I.pin, I.hok, I.len⟩
theorem Inv.ununder {x : Addr} (I : Inv (X.under x) pins σ H s) (ok : X.Ok) : Inv X pins σ H s := ⟨ok, I.os, I.bare, I.base, I.loc, I.cell, I.free, I.freeC, I.pin, I.hok, I.len⟩
theorem Cx.Ok.tried (ok : X.Ok) (E : Value → Shared → Prop) (pn : List (Addr × Obj)) : (X.tried E pn).Ok := ⟨ok.mod, ok.kind, ok.glob, ok.blt, ok.above, ok.inj, ok.has, ok.cab, ok.hd, ok.frames, ok.stk, ok.exf, ok.bs, ok.bsz, ok.noex, ok.exfs, ok.funs, ok.frf⟩
theorem Inv.tried (I : Inv X pins σ H s) (E : Value → Shared → Prop) : Inv (X.tried E (X.pn ++ pins)) [] σ H s :=
  ⟨I.ok.tried E _, I.os, I.bare, I.base, I.loc, I.cell, I.free, I.freeC, fun p hp => I.pin p (by simpa using hp), I.hok, I.len⟩
theorem Inv.untried {E : Value → Shared → Prop} {pl : List (Addr × Obj)} (I : Inv (X.tried E (X.pn ++ pins)) pl σ H s) (ok : X.Ok) : Inv X pins σ H s :=
  ⟨ok, I.os, I.bare, I.base, I.loc, I.cell, I.free, I.freeC, fun p hp => I.pin p (List.mem_append_left _ hp), I.hok, I.len⟩
/-- an object that was not there at the entry comes to be tracked -/
theorem Inv.track' {x : Addr} {o : HO} (I : Inv X pins σ H s) (h0 : H x = none) (h1 : x ≠ X.env.locals) (h2 : ∀ y c, X.env.cells.lookup y = some c → c ≠ x) (h3 : ∀ p ∈ X.pn ++ pins, p.1 ≠ x) (h4 : X.s₀.heap.get? x = none)
    (new : ObjOk X.prog X.w (upd H x o) s.heap x o) : Inv X pins σ (upd H x o) s := by
  have ne : ∀ b u, H b = some u → b ≠ x := fun b u e => ne_of_none e h0
  have up : ∀ b u, H b = some u → (upd H x o) b = some u := fun b u e => by rw [upd_ne (ne b u e)]; exact e
  refine ⟨I.ok, I.os, I.bare, ⟨I.base.keep, I.base.slot, fun b u e n hx => ?_, I.base.there, fun b xs e => up b _ (I.base.tups b xs e), fun b u xs e => up b _ (I.base.frzs b u xs e), fun b ps e => ?_⟩, I.loc, I.cell, ?_, fun y c e => ?_, fun p hp => ?_, fun b u e => ?_, I.len⟩
  · have hb : b ≠ x := fun z => by rw [z, h4] at e; cases e
    rw [upd_ne hb]
    exact I.base.free b u e n hx
  · obtain ⟨m, q⟩ := I.base.tbls b ps e
    exact ⟨m, up b _ q⟩
  · rw [upd_ne (Ne.symm h1)]; exact I.free
  · rw [upd_ne (h2 y c e)]; exact I.freeC y c e
  · obtain ⟨a, b, c, d, e⟩ := I.pin p hp
    exact ⟨a, by rw [upd_ne (h3 p hp)]; exact b, c, d, e⟩
  · by_cases hb : b = x
    · rw [hb, upd_same] at e
      cases e
      rw [hb]
      exact new
    · rw [upd_ne hb] at e
      exact (I.hok b u e).stay (fun _ _ _ q => q) (fun c q => up c _ q) fun c xs q => up c _ q
/-- a name is unbound -/
theorem unbind_ok {M : Model} {A : Around} {E : Value → Shared → Prop} {i : Nat} {n : Str} {pos : Pos} {Q : Unit → Shared → Prop} (I : Inv X pins σ H s) (hN : X.N.Nodup) (hi : X.N[i]? = some n) (hl : X.env.scope.names.lookup n = some .local)
    (h : ∀ s', Inv X pins (σ.set i none) H s' → Q () s') : wpAny M A (do bindName X.env n .none; unbindBehindTheSuite X.env n pos) Q E s := by
  obtain ⟨m, hn, hk⟩ := id I.loc
  have hcl : (X.env.scope.kind == .class || (X.env.scope.kind == .module && X.env.locals != X.env.globals)) = false := by rw [I.ok.kind]; rfl
  refine wpAny_nameGoes_keeps hl hn hcl fun h' v hn' hs => h _ ?_
  have old : ∀ b o, X.s₀.heap.get? b = some o → b ≠ X.env.locals := fun b o e => Nat.ne_of_lt (Nat.lt_of_lt_of_le (Heap.lt_size e) I.ok.above)
  obtain ⟨oL, _, _, hoL, _⟩ := id hn
  refine ⟨I.ok, I.os, I.bare, ⟨fun b o e n hb hx => ?_, fun b o e n hb hx => ?_, I.base.free, fun b o e hx => ?_, I.base.tups, I.base.frzs, I.base.tbls⟩, ⟨_, hn', fun j y w e1 e2 e3 => ?_⟩, fun y c e => ?_, I.free, I.freeC, fun p hp => ?_, ?_, ?_⟩
  · exact (hs.2 b (old b o e)).trans (I.base.keep b o e n hb hx)
  · obtain ⟨sl, q⟩ := I.base.slot b o e n hb hx
    exact ⟨sl, (hs.2 b (old b o e)).trans q⟩
  · obtain ⟨o', q⟩ := I.base.there b o e hx
    exact ⟨o', (hs.2 b (old b o e)).trans q⟩
  · have hj : j ≠ i := fun z => by
      rw [z] at e2
      have hlt : i < σ.length := by rw [I.len]; exact (List.getElem?_eq_some_iff.mp hi).1
      rw [List.getElem?_set_self hlt] at e2
      cases e2
    rw [List.getElem?_set_ne (Ne.symm hj)] at e2
    obtain ⟨u, r, l⟩ := hk j y w e1 e2 e3
    have hy : y ≠ n := fun z => hj (nodup_ix hN e1 (by rw [z]; exact hi))
    refine ⟨u, r, ?_⟩
    rcases l with ⟨k, e⟩ | ⟨k, c, e, z⟩
    · exact .inl ⟨k, (if_neg hy).trans e⟩
    · exact .inr ⟨k, c, e, z.sameBut hs (I.cne y c e)⟩
  · obtain ⟨w, z⟩ := I.cell y c e
    exact ⟨w, z.sameBut hs (I.cne y c e)⟩
  · obtain ⟨e, f, ne, nf, d⟩ := I.pin p hp
    exact ⟨(hs.2 p.1 ne).trans e, f, ne, nf, d⟩
  · refine I.hok.over fun b u o e q => (hs.2 b fun z => ?_).trans q
    rw [z, I.free] at e
    cases e
  · rw [List.length_set]; exact I.len

/-- the exception at x has come to this frame -/
def Landed (X : Cx) (pins : List (Addr × Obj)) (σ : St) (H : Hp) (x : Addr) (cls : Value) (s : Shared) : Prop := Inv X pins σ H s ∧ ∃ a0 B Hs ss, Inv X pins σ Hs ss ∧ Fly X.prog X.w X.stack Hs ss x cls a0 H B s
abbrev THd := Value → Ends → St → Hp → Prop
/-- the handlers of a try -/
def PH (X : Cx) (hs : List ExceptHandler) (t : THd) : Prop :=
  ∀ (pins : List (Addr × Obj)) (s : Shared) (σ : St) (H : Hp) (D : Ends) (x : Addr) (cls : Value), Landed X pins σ H x cls s → t cls D σ H → wpAny (model X.prog X.w) X.A (handleBy (.ref x) X.env hs) (SP X pins D) X.xe s
def hNone : THd := fun _ _ _ _ => False
theorem ph_nil : PH X [] hNone := fun _ _ _ _ _ _ _ _ h => h.elim
/-- the ends of a suite behind whose last row the name at i is gone -/
def Ends.gone (D : Ends) (i : Nat) : Ends := { nx := fun σ H => D.nx (σ.set i none) H, rt := D.rt, bk := fun σ H => D.bk (σ.set i none) H, ct := fun σ H => D.ct (σ.set i none) H }
/-- the class of a handler -/
structure HdK (K : PySem.W.Frag) (C : Addr) : Prop where
  ty : PySem.W.typeIn K (.ref C) = some (.type "type")
  cls : (PySem.W.clsIn K C).isSome = true
  exc : PySem.W.mroIn K C (.type "BaseException") = some true
def hAs (K : PySem.W.Frag) (C : Addr) (i : Nat) (th : TS) (rest : THd) : THd := fun cls D σ H => ∃ (G : Addr) (b : Bool), cls = .ref G ∧ PySem.W.subIn K (.ref G) (.ref C) = some b ∧
  if b = true then ∀ x, H x = none → th (D.gone i) (σ.set i (some (.ref x))) (upd H x (ExcO x cls)) else rest cls D σ H
theorem Landed.track {x : Addr} {cls : Value} (L : Landed X pins σ H x cls s) (hex : X.ex = []) : Inv X pins σ (upd H x (ExcO x cls)) s := by
  obtain ⟨I, a0, B, Hs, ss, Is, F⟩ := L
  obtain ⟨oe, vs, h1, h2, h3, _⟩ := F.fly.first
  refine I.track' F.new (fun z => ?_) (fun y c e z => ?_) (fun p hp z => ?_) ?_ ⟨⟨oe, vs, h1, h2, h3⟩, ⟨oe, h1⟩, fun k1 k2 ⟨o, ws, q1, q2, q3⟩ k => ⟨o, ws, k o q1, q2, q3⟩⟩
  · obtain ⟨m, ⟨o, es, ep, ho, hd, _⟩, _⟩ := I.loc
    rw [← z, h1] at ho
    cases ho
    rw [h3] at hd
    cases hd
  · obtain ⟨w, o, ho, hd⟩ := I.cell y c e
    rw [z, h1] at ho
    cases ho
    rw [h3] at hd
    cases hd
  · obtain ⟨e, _⟩ := Is.pin p hp
    rw [z, F.fresh] at e
    cases e
  · cases q : X.s₀.heap.get? x with
    | none => rfl
    | some o =>
      obtain ⟨o', e⟩ := Is.base.there x o q (by rw [hex]; simp)
      rw [F.fresh] at e
      cases e
theorem Landed.again {x : Addr} {cls : Value} {Q : Unit → Shared → Prop} {A : Around} {E : Value → Shared → Prop} {M : Model} (L : Landed X pins σ H x cls s) (h : ∀ s', Landed X pins σ H x cls s' → Q () s') : wpAny M A (setFlight (.ref x) none) Q E s := by
  obtain ⟨I, a0, B, Hs, ss, Is, F⟩ := L
  refine lands_againW F.fly fun h6 fl up => h _ ?_
  have F6 := F.move (t := s.toks) fl up
  exact ⟨Is.call' F6.os F6.un F6.hok' F6.bare (fun b z => nomatch z), a0, B, Hs, ss, Is, F6⟩
end
end L2
set_option Elab.async false
set_option linter.all false
set_option maxRecDepth 100000
set_option maxHeartbeats 4000000
namespace L2
open PySem PySem.Spec PyProof.Rows
section
variable {X : Cx} {c n : Str} {C : Addr} {i : Nat} {np pos : Pos} {b₀ : Stmt} {suite : List Stmt} {rest : List ExceptHandler} {th : TS} {tr : THd}
theorem SP.ununder {x : Addr} {pins : List (Addr × Obj)} {D : Ends} {f : Flow} {s : Shared} (h : SP (X.under x) pins D f s) (ok : X.Ok) : SP X pins D f s := by
  cases f with
  | next => obtain ⟨σ, H, I, q⟩ := h; exact ⟨σ, H, I.ununder ok, q⟩
  | brk => obtain ⟨σ, H, I, q⟩ := h; exact ⟨σ, H, I.ununder ok, q⟩
  | cont => obtain ⟨σ, H, I, q⟩ := h; exact ⟨σ, H, I.ununder ok, q⟩
  | ret u => obtain ⟨v, σ, H, I, r, q⟩ := h; exact ⟨v, σ, H, I.ununder ok, r, q⟩
/-- except C as n: .. -/
theorem ph_as (hg : Gl X c) (hm : X.mg c = some (.ref C)) (k : HdK X.K C) (hex : X.ex = []) (hN : X.N.Nodup) (hi : X.N[i]? = some n) (hl : X.env.scope.names.lookup n = some .local) (hb : ∀ x, PSs (X.under x) (b₀ :: suite) th) (hr : PH X rest tr)
    (hd : (c == ("__debug__" : Str)) = false := by decide) : PH X (.ExceptHandler (some (.Name c np)) (some n) (b₀ :: suite) pos :: rest) (hAs X.K C i th tr) := by
  intro pins s σ H D x cls L h
  obtain ⟨G, b, rfl, hs, h⟩ := h
  obtain ⟨I, a0, B, Hs, ss, Is, F⟩ := id L
  obtain ⟨ob, hob, hoc⟩ := F.fly.there
  refine wpAny_handleBy_cons (codeAny_handlers_test (ld_glob (X := X.under x) (I.under x) hg hm ?_ hd)) (fun q => nomatch q)
  refine exc_matches I.kIn k.ty k.cls k.exc hs hob hoc ?_
  cases b with
  | false => exact hr pins s σ H D x _ L h
  | true =>
    refine codeAny_handlers_suite_as (L.again fun s6 L6 => ?_)
    refine store_ok (X := X.under x) ((L6.track hex).under x) hN hi (.inl hl) (v := .ref x) rfl (fun s8 I8 => ?_) (.inr hl)
    refine wpAny_mono (hb x pins s8 _ _ _ I8 (h x F.new)) (fun f s9 q => ?_) (fun _ _ z => z.elim)
    have q' := SP.ununder q I.ok
    show wpAny _ _ (do bindName X.env n .none; unbindBehindTheSuite X.env n pos) _ _ _
    cases f with
    | next =>
      obtain ⟨σ', H', I', q⟩ := q'
      exact unbind_ok I' hN hi hl fun s' J => ⟨_, _, J, q⟩
    | brk =>
      obtain ⟨σ', H', I', q⟩ := q'
      exact unbind_ok I' hN hi hl fun s' J => ⟨_, _, J, q⟩
    | cont =>
      obtain ⟨σ', H', I', q⟩ := q'
      exact unbind_ok I' hN hi hl fun s' J => ⟨_, _, J, q⟩
    | ret u =>
      obtain ⟨v, σ', H', I', r, q⟩ := q'
      exact unbind_ok I' hN hi hl fun s' J => ⟨v, _, _, J, r, q⟩
/-- try: body, without else and finally; Z: what is wanted of an exception of the body, by the names' values at its call -/
def tTry (tb : (St → XK) → TS) (th : THd) : TS := fun D σ H => tb (fun σ' cls _ H' => th cls D σ' H') D σ H
theorem ps_try {body : List Stmt} {h₀ : ExceptHandler} {hs : List ExceptHandler} {tb : (St → XK) → TS} {th : THd} (hst : X.stack = X.env :: X.outer) (hfr : X.env.frame = some X.env.locals)
    (hb : ∀ (Z : St → XK) (E : Value → Shared → Prop) (pn : List (Addr × Obj)), Acc (X.tried E pn) Z → PSs (X.tried E pn) body (tb Z)) (hh : PH X (h₀ :: hs) th) : PS X (.Try body (h₀ :: hs) [] [] pos) (tTry tb th) := by
  intro pins s σ H D I h
  have sp : ∀ {E : Value → Shared → Prop} {f : Flow} {s1 : Shared}, SP (X.tried E (X.pn ++ pins)) [] D f s1 → SP X pins D f s1 := fun {E f s1} q => by
    cases f with
    | next => obtain ⟨σ, H, J, q⟩ := q; exact ⟨σ, H, J.untried I.ok, q⟩
    | brk => obtain ⟨σ, H, J, q⟩ := q; exact ⟨σ, H, J.untried I.ok, q⟩
    | cont => obtain ⟨σ, H, J, q⟩ := q; exact ⟨σ, H, J.untried I.ok, q⟩
    | ret u => obtain ⟨v, σ, H, J, r, q⟩ := q; exact ⟨v, σ, H, J.untried I.ok, r, q⟩
  refine wpAny_Try_except (wpAny_mono (hb (fun σ' cls _ H' => th cls D σ' H') _ (X.pn ++ pins) ?_ [] s σ H D (I.tried _) h) (fun f s1 q => ?_) fun _ _ z => z)
  · intro pl σ2 H2 s2 e s3 J hx
    obtain ⟨x, cls, a0, H', B, rfl, F, q⟩ := hx
    have J2 := J.untried I.ok
    have F' : Fly X.prog X.w (X.env :: X.outer) H2 s2 x cls a0 H' B s3 := by rw [← hst]; exact F
    have fr : X.A.frames = some (X.env :: X.outer) := by rw [← hst]; exact I.ok.frames
    show wpAny _ _ (noteFrame (.ref x) X.env) _ _ _
    refine wpAny_looks_onW fr hfr F'.fly fun h4 held up4 => ?_
    refine wpAny_landsW held fun h5 fl up5 => ?_
    have F5 : Fly X.prog X.w X.stack H2 s2 x cls a0 H' B { s3 with heap := h5 } := by
      rw [hst]
      exact F'.move (t := s3.toks) fl (up4.trans up5)
    exact hh pins _ σ2 H' D x cls ⟨J2.call' F5.os F5.un F5.hok' F5.bare (fun b z => nomatch z), a0, B, H2, s2, J2, F5⟩ q
  · have q' := sp q
    cases f with
    | next => exact wpAny_execs_nil q'
    | brk => exact q'
    | cont => exact q'
    | ret u => exact q'
end
end L2
set_option Elab.async false
set_option linter.all false
set_option maxRecDepth 100000
set_option maxHeartbeats 4000000
namespace L2
open PySem PySem.Spec PyProof.Rows
theorem boot_ValueError : bootBuiltins "ValueError" = some (.type "ValueError") := PyProof.Rows.Boot.«ValueError»
theorem cls_of_dict {K : PySem.W.Frag} {D : Addr} (h : PySem.W.hasDictIn K D = true) : (PySem.W.clsIn K D).isSome = true := by
  unfold PySem.W.hasDictIn at h
  cases q : PySem.W.clsIn K D with
  | none => rw [q] at h; exact absurd h (by simp)
  | some z => rfl
section
variable {X : Cx} {K : PySem.W.Frag}
end
/-! ### sum of a list of ints -/
section
variable {X : Cx}
end
/-! ### a comprehension over a list -/
theorem comp_list {K : PySem.W.Frag} {a : Addr} {xs : List V} {fr : List Nat} {te : TE} {σ : St} {H : Hp} {Q : VK} (Pv : Nat → List V → Hp → Prop) (hn : xs.length ≤ sizeLine) (h0 : Pv 0 [] H) (hlen : ∀ i acc H, Pv i acc H → acc.length = i) (hl : ∀ i acc H, Pv i acc H → SqL K H a xs)
    (hs : ∀ i acc H x, xs[i]? = some x → Pv i acc H → ∀ R : VK, (∀ y H1, Pv (i + 1) (acc ++ [y]) H1 → R y H1) → te ((compSt σ fr).set 0 (some x)) H R)
    (hd : ∀ acc H, Pv xs.length acc H → ∀ p, H p = none → Q (.ref p) (upd H p (.lst acc))) : CompGo fr tYes te σ Q (Itl K a) H := by
  refine ⟨fun i m acc H => m = xs.length - i ∧ i ≤ xs.length ∧ Pv i acc H, ⟨xs.length, by simp, Nat.zero_le _, h0⟩, ?_⟩
  rintro i m acc H ⟨rfl, hi, p⟩
  have ha := hlen i acc H p
  have q := hl i acc H p
  by_cases hlt : i < xs.length
  · refine .inr ⟨⟨xs, xs[i], q, by simp [hlt]⟩, by omega, fun x H' y => ?_⟩
    obtain ⟨e, y⟩ := y
    subst e
    unfold tYes
    refine iteT ?_
    exact hs i acc _ x (y xs q) p _ fun y H1 q => ⟨xs.length - (i + 1), by omega, rfl, hlt, q⟩
  · have e : i = xs.length := by omega
    subst e
    exact .inl ⟨⟨xs, q, Nat.le_refl _⟩, by omega, hd acc H p⟩
end L2
set_option Elab.async false
set_option linter.all false
set_option maxRecDepth 100000
set_option maxHeartbeats 4000000
namespace L2
open PySem PySem.Spec PyProof.Rows
section
variable {X : Cx} {K : PySem.W.Frag}
theorem call_minL (hc : X.calm = true) : CallR X (.builtin "min") (fun xs H Q => ∃ (p : Addr) (ns : List Int), xs = [.ref p] ∧ SqL X.K H p (ns.map V.int) ∧ 0 < ns.length ∧ Q (.int (ns.getD (leastAt ns) 0)) H) := by
  intro pins s σ H xs us Q I r h
  obtain ⟨p, ns, rfl, hq, hn, q⟩ := h
  obtain ⟨u, rfl, ru⟩ := r.one
  cases ru
  obtain ⟨its, rv, pl, _⟩ := I.list hq
  have hl := rv.length
  have T : s.heap.IsList p its.toArray := pl.isList
  have lt : p < s.heap.objs.size := by obtain ⟨o, e, _⟩ := T; exact Heap.lt_size e
  have hsz : its.toArray.size = ns.length := by rw [List.size_toArray, ← hl, List.length_map]
  refine call_min_walk (wpAny_pyIter_list T ⟨_, _, _, _, _, _, _, rfl, Walks.list (show X.A.in1.handled = none from I.ok.hd hc) s.heap.objs.size p (Nat.ne_of_lt lt) its.toArray, ⟨⟨_, Heap.get?_push_size _ rfl, rfl, rfl⟩, T.push _⟩, fun b hb => ?_, by rw [hsz]; exact hn,
    CmpOf.ints_lt (fun i => ns.getD i 0) (fun i v e => vals_at rv e), fun v h' tk hP hk => ?_⟩)
  · simp only [List.mem_cons, List.not_mem_nil, or_false] at hb
    rw [Heap.size_push]
    rcases hb with e | e
    · rw [e]; exact Nat.lt_succ_self _
    · rw [e]; exact Nat.lt_succ_of_lt lt
  · rw [hsz] at hP
    obtain ⟨t, rfl⟩ := vals_at rv hP
    refine ⟨.int _, H, I.kept fun b o e => hk b o ?_ (Heap.get?_push_of_some _ e), ⟨t, rfl⟩, q⟩
    intro hm
    simp only [List.mem_cons, List.not_mem_nil, or_false] at hm
    exact absurd (Heap.lt_size e) (by rw [hm]; exact Nat.lt_irrefl _)
theorem bools_at {bs : List Bool} {us : List Value} (r : Vals (bs.map V.bl) us) {i : Nat} {v : Value} (h : us.toArray[i]? = some v) : v = .bool (bs.getD i true) := by
  have h' : us[i]? = some v := by simpa using h
  have hl := r.length
  have hi : i < bs.length := by
    have := (List.getElem?_eq_some_iff.mp h').1
    rw [List.length_map] at hl; omega
  obtain ⟨u, e, q⟩ := r.get (i := i) (x := .bl (bs.getD i true)) (by rw [List.getElem?_map, List.getElem?_eq_getElem hi, List.getD_eq_getElem?_getD, List.getElem?_eq_getElem hi]; rfl)
  rw [h'] at e
  cases e
  cases q
  rfl
theorem call_list_ofK (h : X.K = K) : CallR X (.type "list") (fun xs H Q => ∃ p ys, xs = [.ref p] ∧ (SqL K H p ys ∨ SqT K H p ys) ∧ ∀ l, H l = none → Q (.ref l) (upd H l (.lst ys))) := h ▸ call_list_of
end
/-! ### a comprehension over a list, with a test -/
theorem comp_listF {K : PySem.W.Frag} {a : Addr} {xs : List V} {fr : List Nat} {tt : TT} {te : TE} {σ : St} {H : Hp} {Q : VK} (Pv : Nat → List V → Hp → Prop) (hn : xs.length ≤ sizeLine) (h0 : Pv 0 [] H) (hlen : ∀ i acc H, Pv i acc H → acc.length ≤ i) (hl : ∀ i acc H, Pv i acc H → SqL K H a xs)
    (hs : ∀ i acc H x, xs[i]? = some x → Pv i acc H → ∀ (R : VK) (Z : Hp → Prop), (∀ y H1, Pv (i + 1) (acc ++ [y]) H1 → R y H1) → (∀ H1, Pv (i + 1) acc H1 → Z H1) → tt ((compSt σ fr).set 0 (some x)) H fun b H2 => if b = true then te ((compSt σ fr).set 0 (some x)) H2 R else Z H2)
    (hd : ∀ acc H, Pv xs.length acc H → ∀ p, H p = none → Q (.ref p) (upd H p (.lst acc))) : CompGo fr tt te σ Q (Itl K a) H := by
  refine ⟨fun i m acc H => m = xs.length - i ∧ i ≤ xs.length ∧ Pv i acc H, ⟨xs.length, by simp, Nat.zero_le _, h0⟩, ?_⟩
  rintro i m acc H ⟨rfl, hi, p⟩
  have ha := hlen i acc H p
  have q := hl i acc H p
  by_cases hlt : i < xs.length
  · refine .inr ⟨⟨xs, xs[i], q, by simp [hlt]⟩, by omega, fun x H' y => ?_⟩
    obtain ⟨e, y⟩ := y
    subst e
    exact hs i acc _ x (y xs q) p _ _ (fun y H1 q => ⟨xs.length - (i + 1), by omega, rfl, hlt, q⟩) fun H1 q => ⟨xs.length - (i + 1), by omega, rfl, hlt, q⟩
  · have e : i = xs.length := by omega
    subst e
    exact .inl ⟨⟨xs, q, Nat.le_refl _⟩, by omega, hd acc H p⟩
end L2
set_option Elab.async false
set_option linter.all false
set_option maxRecDepth 100000
set_option maxHeartbeats 4000000
namespace L2
open PySem PySem.Spec PyProof.Rows
section
variable {X : Cx}
/-- an item that is no starred one -/
def plainE : Expr → Bool
  | .Starred _ _ => false
  | _ => true
theorem star_plain {e : Expr} {es : List Expr} {env : Env} (h : plainE e = true) : starEach (e :: es) env = (false, eval e env) :: starEach es env := by
  cases e with
  | Starred _ _ => cases h
  | _ => rfl
theorem pa_consP {e : Expr} {es : List Expr} {te : TE} {t : TA} (ha : PE X e te) (hr : PA X es t) (h : plainE e = true := by rfl) : PA X (e :: es) (tCons te t) := pa_cons ha hr (star_plain h)
end
end L2
set_option Elab.async false
set_option linter.all false
set_option maxRecDepth 100000
set_option maxHeartbeats 4000000
namespace L2
open PySem PySem.Spec PyProof.Rows
section
variable {X : Cx} {K : PySem.W.Frag}
end
end L2
set_option Elab.async false
set_option linter.all false
set_option maxRecDepth 100000
set_option maxHeartbeats 4000000
namespace L2
open PySem PySem.Spec PyProof.Rows
section
variable {X : Cx}
end
end L2
set_option Elab.async false
set_option linter.all false
set_option maxRecDepth 100000
set_option maxHeartbeats 4000000
namespace L2
open PySem PySem.Spec PyProof.Rows
/-! ### min and max of a list with a default -/
/-- what the walk holds behind j items -/
def HeldB (P : Nat → Value → Prop) (bt : Nat → Nat → Bool) (j : Nat) (ar : Array Value) : Prop := (j = 0 ∧ ar = #[]) ∨ ∃ vb, 0 < j ∧ ar = #[vb, vb] ∧ P (argBest bt (j - 1)) vb
/-- a built-in function is called with names -/
def CallRK (X : Cx) (f : Value) (ks : List Str) (r : List V → List V → Hp → VK → Prop) : Prop := ∀ (pins : List (Addr × Obj)) (s : Shared) (σ : St) (H : Hp) (xs : List V) (us : List Value) (zs : List V) (ws : List Value) (Q : VK), Inv X pins σ H s → Vals xs us → Vals zs ws → r xs zs H Q → wpAny (model X.prog X.w) X.A (call f us (ks.zip ws)) (EP X pins σ Q) X.xe s
section
variable {prog : Program} {w : World} {A : Around} {E : Value → Shared → Prop} {s : Shared}
theorem call_kw_tree {id : String} {b : Builtin} {args : List Value} {kw : List (Str × Value)} {Q : Value → Shared → Prop} (hk : builtinKind id = none) (hp : plainId id = true) (hb : entryFor table id = some b) (ha : argsOk id ⟨args, kw⟩)
    (hc : wpAny (model prog w) A.in1 (b ⟨args, kw⟩) (fun fin s' => match fin with | .done f => (match (Except.ok f : Result) with | .ok (.ret v) => Q v s' | .ok _ => False | .error e => E e s') | .again c' => c'.quiet = true ∧ codeAny (model prog w) A c' (fun r s' => match r with | .ok (.ret v) => Q v s' | .ok _ => False | .error e => E e s') s') E s) :
    wpAny (model prog w) A (call (.builtin id) args kw) Q E s := by
  refine wpAny_call (codeAny_call_builtin hp hb ?_)
  simp only [checkBuiltinCall, hk]
  cases hg : Manifest.signature? id with
  | none => exact wpAny_pure hc
  | some sg =>
    have h2 : Bind.checkArgs id sg ⟨args, kw⟩ = pure () := by simpa only [argsOk, hg] using ha
    simp only [h2]
    exact wpAny_pure hc
end
section
variable {X : Cx} {id : String} {x : Str} {p pos : Pos} {e : Expr} {es : List Expr} {kws : List Keyword} {t tk : TA} {r : List V → List V → Hp → VK → Prop} {ks : List Str}
def tCBK (r : List V → List V → Hp → VK → Prop) (t tk : TA) : TE := fun σ H Q => t σ H fun vs H1 => tk σ H1 fun zs H2 => r vs zs H2 Q
/-- f(e, .., k = v), f a built-in function -/
theorem pe_callBK (hc : CallRK X (.builtin id) ks r) (hg : Gl X x) (hm : X.mg x = none) (hv : bootBuiltins x = some (.builtin id)) (ha : PA X (e :: es) t) (hkw : PK X kws tk) (hn : x ≠ "__name__" := by decide) (hdb : (x == ("__debug__" : Str)) = false := by decide)
    (hks : (backToKw pos (keywordEach kws X.env)).filterMap (·.1) = ks := by rfl) (he : backTo pos (starEach (e :: es) X.env) = (false, eval e X.env) :: backTo pos (starEach es X.env) := by rfl) (hpl : (backTo pos (starEach (e :: es) X.env)).any (·.1) = false := by rfl)
    (hall : (backToKw pos (keywordEach kws X.env)).all (·.1.isSome) = true := by rfl) (hno : (backToKw pos (keywordEach kws X.env)).any (·.1.isNone) = false := by rfl) : PE X (.Call (.Name x p) (e :: es) kws pos) (tCBK r t tk) := by
  intro pins s σ H Q I h
  refine wpAny_Call_Name_kw (ld_blt I hg hm hv ?_ hn hdb)
  refine PyProof.Rows.callWith_kw (thn (ha pos pins s σ H _ I h) fun us s1 ⟨vs, H1, I1, r1, q1⟩ => thn (hkw pos pins s1 σ H1 _ I1 q1) fun ws s2 ⟨zs, H2, I2, r2, q2⟩ => ?_) he hpl hall hno
  rw [hks]
  exact hc pins s2 σ H2 vs us zs ws Q I2 r1 r2 q2
end

theorem argsD_max (a d : Value) : argsOk "max" ⟨[a], [("default", d)]⟩ := by unfold argsOk; kernel_rfl
theorem bindD_max (d : Value) : Builtin.Builtins.bindParams "max" ["key", "default"] 0 ⟨[], [("default", d)]⟩ = pure [none, some d] := rfl
section
variable {prog : Program} {w : World} {A : Around} {R : Result → Shared → Prop} {J Z : Addr} {fp wr : List Addr} {n : Nat} {P : Nat → Value → Prop} {St : Nat → Heap → Prop}
theorem loopD_max (W : Walks prog w A.in1 J fp wr n P St) (bt : Nat → Nat → Bool) (hcmp : CmpOf prog w A.in1 .Gt P bt) (hZ : Z ∉ fp) (d : Value) :
    ∀ (k j : Nat) (s : Shared) (ar : Array Value) (c : Nat), n - j = k → j ≤ n → St j s.heap → HeldB P bt j ar → s.heap.get? Z = some ⟨.type "list", none, .seq ar c, #[]⟩ →
      (∀ v h' tk, (n = 0 ∧ v = d ∨ 0 < n ∧ P (argBest bt (n - 1)) v) → (∀ b o, b ∉ wr → b ≠ Z → s.heap.get? b = some o → h'.get? b = some o) → R (.ok (.ret v)) { s with heap := h', toks := tk }) →
      codeAny (model prog w) A (.builtin "max.loop" ⟨[.ref J, .none, .ref Z], [("default", d)]⟩) R s := by
  have hw : Z ∉ wr := fun h => hZ (W.sub _ h)
  have nm : (toString "max" ++ toString ".loop" : String) = "max.loop" := by decide
  intro k
  induction k with
  | zero =>
    intro j s ar c hk hj hst hb hz hR
    have e : j = n := by omega
    subst e
    refine codeAny_builtin PySem.F.entry_max_loop ?_
    rw [Around.under_plainId PySem.F.plain_max_loop _]
    show wpAny _ A.in1 (seqItems? (.ref Z) >>= _) _ _ s
    refine wpAny_bind (wpAny_seqItems hz rfl ?_)
    show wpAny _ A.in1 (tryCatch (pyNext (.ref J)) _ >>= _) _ _ s
    refine wpAny_bind (wpAny_tryCatch (W.done s _ _ hst fun h' tk hk' => ?_))
    have hz' := hk' Z _ hw hz
    rcases hb with ⟨j0, rfl⟩ | ⟨vb, j0, rfl, hP⟩
    · show wpAny _ A.in1 (rule _ >>= _) _ _ _
      refine wpAny_bind (wpAny_rule (wpAny_pure ?_))
      exact hR d h' tk (.inl ⟨j0, rfl⟩) fun b o h1 _ e => hk' b o h1 e
    · show wpAny _ A.in1 (updateSeq Z (fun _ => #[]) >>= _) _ _ _
      refine wpAny_bind (wpAny_updateSeq hz' rfl (wpAny_bind (wpAny_letGo (wpAny_pure ?_))))
      exact hR vb _ tk (.inr ⟨j0, hP⟩) fun b o h1 h2 e => (Heap.get?_update_other _ _ (Ne.symm h2)).trans (hk' b o h1 e)
  | succ k ih =>
    intro j s ar c hk hj hst hb hz hR
    have hlt : j < n := by omega
    refine codeAny_builtin PySem.F.entry_max_loop ?_
    rw [Around.under_plainId PySem.F.plain_max_loop _]
    show wpAny _ A.in1 (seqItems? (.ref Z) >>= _) _ _ s
    refine wpAny_bind (wpAny_seqItems hz rfl ?_)
    show wpAny _ A.in1 (tryCatch (pyNext (.ref J)) _ >>= _) _ _ s
    refine wpAny_bind (wpAny_tryCatch (W.item j s _ _ hlt hst fun v h' tk hP hst' hk' => ?_))
    have hz' := hk' Z _ hw hz
    have fr : ∀ (f : Obj → Obj), St (j + 1) (h'.update Z f) := fun f => W.frame _ _ _ hst' fun b hbf o e => (Heap.get?_update_other _ _ (fun h : Z = b => hZ (by rw [h]; exact hbf))).trans e
    rcases hb with ⟨j0, rfl⟩ | ⟨vb, j0, rfl, hPb⟩
    · show wpAny _ A.in1 (updateSeq Z (fun _ => #[v, v]) >>= _) _ _ _
      refine wpAny_bind (wpAny_updateSeq hz' rfl ?_)
      rw [nm]
      refine wpAny_pure ⟨plainId_quiet PySem.F.plain_max_loop _, ih (j + 1) _ #[v, v] _ (by omega) hlt (fr _) (.inr ⟨v, by omega, rfl, ?_⟩) (Heap.get?_update_self _ hz' rfl) fun v' h2 tk2 hP' hk2 => ?_⟩
      · subst j0; exact hP
      · exact hR v' h2 tk2 hP' fun b o h1 h2 e => hk2 b o h1 h2 ((Heap.get?_update_other _ _ (Ne.symm h2)).trans (hk' b o h1 e))
    · have ej : argBest bt (j + 1 - 1) = if bt j (argBest bt (j - 1)) then j else argBest bt (j - 1) := by
        obtain ⟨i, rfl⟩ : ∃ i, j = i + 1 := ⟨j - 1, by omega⟩
        rfl
      show wpAny _ A.in1 (tryCatch (holding [v, v] (richCompare .Gt v vb >>= _)) _ >>= _) _ _ _
      refine wpAny_bind (wpAny_tryCatch (wpAny_holding (wpAny_bind (hcmp j (argBest bt (j - 1)) v vb _ _ _ hP hPb ?_))))
      refine wpAny_bind (wpAny_holding (wpAny_truthy_bool ?_))
      refine wpAny_bind (wpAny_letGo (wpAny_pure ?_))
      cases hbt : bt j (argBest bt (j - 1)) with
      | true =>
        simp only [if_true]
        refine wpAny_bind (wpAny_updateSeq hz' rfl (wpAny_bind (wpAny_letGo ?_)))
        rw [nm]
        refine wpAny_pure ⟨plainId_quiet PySem.F.plain_max_loop _, ih (j + 1) _ #[v, v] _ (by omega) hlt (fr _) (.inr ⟨v, by omega, rfl, ?_⟩) (Heap.get?_update_self _ hz' rfl) fun v' h2 tk2 hP' hk2 => ?_⟩
        · rw [ej, hbt]; exact hP
        · exact hR v' h2 tk2 hP' fun b o h1 h2 e => hk2 b o h1 h2 ((Heap.get?_update_other _ _ (Ne.symm h2)).trans (hk' b o h1 e))
      | false =>
        simp only [Bool.false_eq_true, if_false]
        refine wpAny_bind (wpAny_letGo ?_)
        rw [nm]
        refine wpAny_pure ⟨plainId_quiet PySem.F.plain_max_loop _, ih (j + 1) _ #[vb, vb] c (by omega) hlt hst' (.inr ⟨vb, by omega, rfl, ?_⟩) hz' fun v' h2 tk2 hP' hk2 => ?_⟩
        · rw [ej, hbt]; exact hPb
        · exact hR v' h2 tk2 hP' fun b o h1 h2 e => hk2 b o h1 h2 (hk' b o h1 e)
end
section
variable {prog : Program} {w : World} {A : Around} {E : Value → Shared → Prop} {s : Shared}
theorem walkD_max {x d : Value} {Q : Value → Shared → Prop}
    (h : wpAny (model prog w) A.in1 (pyIter x) (fun it s₂ => ∃ J fp wr n P St bt, it = .ref J ∧ Walks prog w A.in1 J fp wr n P St ∧ St 0 s₂.heap ∧ (∀ b ∈ fp, b < s₂.heap.objs.size) ∧ CmpOf prog w A.in1 .Gt P bt ∧
      ∀ v h' tk, (n = 0 ∧ v = d ∨ 0 < n ∧ P (argBest bt (n - 1)) v) → (∀ b o, b ∉ wr → s₂.heap.get? b = some o → h'.get? b = some o) → Q v { s₂ with heap := h', toks := tk }) E s) :
    wpAny (model prog w) A (call (.builtin "max") [x] [("default", d)]) Q E s := by
  have nm : (toString "max" ++ toString ".loop" : String) = "max.loop" := by decide
  refine call_kw_tree PySem.F.kind_max PySem.F.plain_max PySem.F.entry_max (argsD_max _ _) ?_
  show wpAny _ A.in1 (Builtin.Builtins.bindParams "max" ["key", "default"] 0 ⟨[], [("default", d)]⟩ >>= _) _ _ s
  refine wpAny_bind (wpAny_of_eq (bindD_max d) ?_)
  refine wpAny_bind (wpAny_pure ?_)
  refine wpAny_bind (wpAny_mono h (fun it s₂ h₂ => ?_) fun _ _ e => e)
  obtain ⟨J, fp, wr, n, P, St, bt, rfl, W, hst, hfp, hcmp, hQ⟩ := h₂
  refine wpAny_bind (wpAny_newObj_type ?_)
  have hZ : s₂.heap.objs.size ∉ fp := fun hm => Nat.lt_irrefl _ (hfp _ hm)
  rw [nm]
  refine wpAny_pure ⟨plainId_quiet PySem.F.plain_max_loop _, loopD_max W bt hcmp hZ d n 0 _ #[] _ rfl (Nat.zero_le _) (W.frame _ _ _ hst fun b _ o e => Heap.get?_push_of_some _ e) (.inl ⟨rfl, rfl⟩) (Heap.get?_push_size _ rfl) fun v h' tk hP hk => ?_⟩
  exact hQ v h' tk hP fun b o hbw e => hk b o hbw (Nat.ne_of_lt (Heap.lt_size e)) (Heap.get?_push_of_some _ e)
end
def maxO (ns : List Int) : Option Int := if ns.length = 0 then none else some (ns.getD (greatestAt ns) 0)
section
variable {X : Cx}
theorem call_maxD (hc : X.calm = true) : CallRK X (.builtin "max") ["default"] (fun xs zs H Q => ∃ (p : Addr) (ns : List Int), xs = [.ref p] ∧ zs = [.non] ∧ SqL X.K H p (ns.map V.int) ∧ Q (ov (maxO ns)) H) := by
  intro pins s σ H xs us zs ws Q I r rz h
  obtain ⟨p, ns, rfl, rfl, hq, q⟩ := h
  obtain ⟨u, rfl, ru⟩ := r.one
  cases ru
  obtain ⟨u, rfl, ru⟩ := rz.one
  cases ru
  obtain ⟨its, rv, pl, _⟩ := I.list hq
  have hl := rv.length
  have T : s.heap.IsList p its.toArray := pl.isList
  have lt : p < s.heap.objs.size := by obtain ⟨o, e, _⟩ := T; exact Heap.lt_size e
  have hsz : its.toArray.size = ns.length := by rw [List.size_toArray, ← hl, List.length_map]
  refine walkD_max (wpAny_pyIter_list T ⟨_, _, _, _, _, _, _, rfl, Walks.list (show X.A.in1.handled = none from I.ok.hd hc) s.heap.objs.size p (Nat.ne_of_lt lt) its.toArray, ⟨⟨_, Heap.get?_push_size _ rfl, rfl, rfl⟩, T.push _⟩, fun b hb => ?_,
    CmpOf.ints_gt (fun i => ns.getD i 0) (fun i v e => vals_at rv e), fun v h' tk hP hk => ?_⟩)
  · simp only [List.mem_cons, List.not_mem_nil, or_false] at hb
    rw [Heap.size_push]
    rcases hb with e | e
    · rw [e]; exact Nat.lt_succ_self _
    · rw [e]; exact Nat.lt_succ_of_lt lt
  · have kp : Inv X pins σ H { s with heap := h', toks := tk } := I.kept fun b o e => hk b o (fun hm => by
      simp only [List.mem_cons, List.not_mem_nil, or_false] at hm
      exact absurd (Heap.lt_size e) (by rw [hm]; exact Nat.lt_irrefl _)) (Heap.get?_push_of_some _ e)
    rw [hsz] at hP
    rcases hP with ⟨h0, rfl⟩ | ⟨h0, hP⟩
    · rw [show maxO ns = none from if_pos h0] at q
      exact ⟨.non, H, kp, rfl, q⟩
    · obtain ⟨t, rfl⟩ := vals_at rv hP
      rw [show maxO ns = some (ns.getD (greatestAt ns) 0) from if_neg (by omega)] at q
      exact ⟨.int _, H, kp, ⟨t, rfl⟩, q⟩
end

theorem argsD_min (a d : Value) : argsOk "min" ⟨[a], [("default", d)]⟩ := by unfold argsOk; kernel_rfl
theorem bindD_min (d : Value) : Builtin.Builtins.bindParams "min" ["key", "default"] 0 ⟨[], [("default", d)]⟩ = pure [none, some d] := rfl
section
variable {prog : Program} {w : World} {A : Around} {R : Result → Shared → Prop} {J Z : Addr} {fp wr : List Addr} {n : Nat} {P : Nat → Value → Prop} {St : Nat → Heap → Prop}
theorem loopD_min (W : Walks prog w A.in1 J fp wr n P St) (bt : Nat → Nat → Bool) (hcmp : CmpOf prog w A.in1 .Lt P bt) (hZ : Z ∉ fp) (d : Value) :
    ∀ (k j : Nat) (s : Shared) (ar : Array Value) (c : Nat), n - j = k → j ≤ n → St j s.heap → HeldB P bt j ar → s.heap.get? Z = some ⟨.type "list", none, .seq ar c, #[]⟩ →
      (∀ v h' tk, (n = 0 ∧ v = d ∨ 0 < n ∧ P (argBest bt (n - 1)) v) → (∀ b o, b ∉ wr → b ≠ Z → s.heap.get? b = some o → h'.get? b = some o) → R (.ok (.ret v)) { s with heap := h', toks := tk }) →
      codeAny (model prog w) A (.builtin "min.loop" ⟨[.ref J, .none, .ref Z], [("default", d)]⟩) R s := by
  have hw : Z ∉ wr := fun h => hZ (W.sub _ h)
  have nm : (toString "min" ++ toString ".loop" : String) = "min.loop" := by decide
  intro k
  induction k with
  | zero =>
    intro j s ar c hk hj hst hb hz hR
    have e : j = n := by omega
    subst e
    refine codeAny_builtin PySem.F.entry_min_loop ?_
    rw [Around.under_plainId PySem.F.plain_min_loop _]
    show wpAny _ A.in1 (seqItems? (.ref Z) >>= _) _ _ s
    refine wpAny_bind (wpAny_seqItems hz rfl ?_)
    show wpAny _ A.in1 (tryCatch (pyNext (.ref J)) _ >>= _) _ _ s
    refine wpAny_bind (wpAny_tryCatch (W.done s _ _ hst fun h' tk hk' => ?_))
    have hz' := hk' Z _ hw hz
    rcases hb with ⟨j0, rfl⟩ | ⟨vb, j0, rfl, hP⟩
    · show wpAny _ A.in1 (rule _ >>= _) _ _ _
      refine wpAny_bind (wpAny_rule (wpAny_pure ?_))
      exact hR d h' tk (.inl ⟨j0, rfl⟩) fun b o h1 _ e => hk' b o h1 e
    · show wpAny _ A.in1 (updateSeq Z (fun _ => #[]) >>= _) _ _ _
      refine wpAny_bind (wpAny_updateSeq hz' rfl (wpAny_bind (wpAny_letGo (wpAny_pure ?_))))
      exact hR vb _ tk (.inr ⟨j0, hP⟩) fun b o h1 h2 e => (Heap.get?_update_other _ _ (Ne.symm h2)).trans (hk' b o h1 e)
  | succ k ih =>
    intro j s ar c hk hj hst hb hz hR
    have hlt : j < n := by omega
    refine codeAny_builtin PySem.F.entry_min_loop ?_
    rw [Around.under_plainId PySem.F.plain_min_loop _]
    show wpAny _ A.in1 (seqItems? (.ref Z) >>= _) _ _ s
    refine wpAny_bind (wpAny_seqItems hz rfl ?_)
    show wpAny _ A.in1 (tryCatch (pyNext (.ref J)) _ >>= _) _ _ s
    refine wpAny_bind (wpAny_tryCatch (W.item j s _ _ hlt hst fun v h' tk hP hst' hk' => ?_))
    have hz' := hk' Z _ hw hz
    have fr : ∀ (f : Obj → Obj), St (j + 1) (h'.update Z f) := fun f => W.frame _ _ _ hst' fun b hbf o e => (Heap.get?_update_other _ _ (fun h : Z = b => hZ (by rw [h]; exact hbf))).trans e
    rcases hb with ⟨j0, rfl⟩ | ⟨vb, j0, rfl, hPb⟩
    · show wpAny _ A.in1 (updateSeq Z (fun _ => #[v, v]) >>= _) _ _ _
      refine wpAny_bind (wpAny_updateSeq hz' rfl ?_)
      rw [nm]
      refine wpAny_pure ⟨plainId_quiet PySem.F.plain_min_loop _, ih (j + 1) _ #[v, v] _ (by omega) hlt (fr _) (.inr ⟨v, by omega, rfl, ?_⟩) (Heap.get?_update_self _ hz' rfl) fun v' h2 tk2 hP' hk2 => ?_⟩
      · subst j0; exact hP
      · exact hR v' h2 tk2 hP' fun b o h1 h2 e => hk2 b o h1 h2 ((Heap.get?_update_other _ _ (Ne.symm h2)).trans (hk' b o h1 e))
    · have ej : argBest bt (j + 1 - 1) = if bt j (argBest bt (j - 1)) then j else argBest bt (j - 1) := by
        obtain ⟨i, rfl⟩ : ∃ i, j = i + 1 := ⟨j - 1, by omega⟩
        rfl
      show wpAny _ A.in1 (tryCatch (holding [v, v] (richCompare .Lt v vb >>= _)) _ >>= _) _ _ _
      refine wpAny_bind (wpAny_tryCatch (wpAny_holding (wpAny_bind (hcmp j (argBest bt (j - 1)) v vb _ _ _ hP hPb ?_))))
      refine wpAny_bind (wpAny_holding (wpAny_truthy_bool ?_))
      refine wpAny_bind (wpAny_letGo (wpAny_pure ?_))
      cases hbt : bt j (argBest bt (j - 1)) with
      | true =>
        simp only [if_true]
        refine wpAny_bind (wpAny_updateSeq hz' rfl (wpAny_bind (wpAny_letGo ?_)))
        rw [nm]
        refine wpAny_pure ⟨plainId_quiet PySem.F.plain_min_loop _, ih (j + 1) _ #[v, v] _ (by omega) hlt (fr _) (.inr ⟨v, by omega, rfl, ?_⟩) (Heap.get?_update_self _ hz' rfl) fun v' h2 tk2 hP' hk2 => ?_⟩
        · rw [ej, hbt]; exact hP
        · exact hR v' h2 tk2 hP' fun b o h1 h2 e => hk2 b o h1 h2 ((Heap.get?_update_other _ _ (Ne.symm h2)).trans (hk' b o h1 e))
      | false =>
        simp only [Bool.false_eq_true, if_false]
        refine wpAny_bind (wpAny_letGo ?_)
        rw [nm]
        refine wpAny_pure ⟨plainId_quiet PySem.F.plain_min_loop _, ih (j + 1) _ #[vb, vb] c (by omega) hlt hst' (.inr ⟨vb, by omega, rfl, ?_⟩) hz' fun v' h2 tk2 hP' hk2 => ?_⟩
        · rw [ej, hbt]; exact hPb
        · exact hR v' h2 tk2 hP' fun b o h1 h2 e => hk2 b o h1 h2 (hk' b o h1 e)
end
section
variable {prog : Program} {w : World} {A : Around} {E : Value → Shared → Prop} {s : Shared}
theorem walkD_min {x d : Value} {Q : Value → Shared → Prop}
    (h : wpAny (model prog w) A.in1 (pyIter x) (fun it s₂ => ∃ J fp wr n P St bt, it = .ref J ∧ Walks prog w A.in1 J fp wr n P St ∧ St 0 s₂.heap ∧ (∀ b ∈ fp, b < s₂.heap.objs.size) ∧ CmpOf prog w A.in1 .Lt P bt ∧
      ∀ v h' tk, (n = 0 ∧ v = d ∨ 0 < n ∧ P (argBest bt (n - 1)) v) → (∀ b o, b ∉ wr → s₂.heap.get? b = some o → h'.get? b = some o) → Q v { s₂ with heap := h', toks := tk }) E s) :
    wpAny (model prog w) A (call (.builtin "min") [x] [("default", d)]) Q E s := by
  have nm : (toString "min" ++ toString ".loop" : String) = "min.loop" := by decide
  refine call_kw_tree PySem.F.kind_min PySem.F.plain_min PySem.F.entry_min (argsD_min _ _) ?_
  show wpAny _ A.in1 (Builtin.Builtins.bindParams "min" ["key", "default"] 0 ⟨[], [("default", d)]⟩ >>= _) _ _ s
  refine wpAny_bind (wpAny_of_eq (bindD_min d) ?_)
  refine wpAny_bind (wpAny_pure ?_)
  refine wpAny_bind (wpAny_mono h (fun it s₂ h₂ => ?_) fun _ _ e => e)
  obtain ⟨J, fp, wr, n, P, St, bt, rfl, W, hst, hfp, hcmp, hQ⟩ := h₂
  refine wpAny_bind (wpAny_newObj_type ?_)
  have hZ : s₂.heap.objs.size ∉ fp := fun hm => Nat.lt_irrefl _ (hfp _ hm)
  rw [nm]
  refine wpAny_pure ⟨plainId_quiet PySem.F.plain_min_loop _, loopD_min W bt hcmp hZ d n 0 _ #[] _ rfl (Nat.zero_le _) (W.frame _ _ _ hst fun b _ o e => Heap.get?_push_of_some _ e) (.inl ⟨rfl, rfl⟩) (Heap.get?_push_size _ rfl) fun v h' tk hP hk => ?_⟩
  exact hQ v h' tk hP fun b o hbw e => hk b o hbw (Nat.ne_of_lt (Heap.lt_size e)) (Heap.get?_push_of_some _ e)
end
def minO (ns : List Int) : Option Int := if ns.length = 0 then none else some (ns.getD (leastAt ns) 0)
section
variable {X : Cx}
theorem call_minD (hc : X.calm = true) : CallRK X (.builtin "min") ["default"] (fun xs zs H Q => ∃ (p : Addr) (ns : List Int), xs = [.ref p] ∧ zs = [.non] ∧ SqL X.K H p (ns.map V.int) ∧ Q (ov (minO ns)) H) := by
  intro pins s σ H xs us zs ws Q I r rz h
  obtain ⟨p, ns, rfl, rfl, hq, q⟩ := h
  obtain ⟨u, rfl, ru⟩ := r.one
  cases ru
  obtain ⟨u, rfl, ru⟩ := rz.one
  cases ru
  obtain ⟨its, rv, pl, _⟩ := I.list hq
  have hl := rv.length
  have T : s.heap.IsList p its.toArray := pl.isList
  have lt : p < s.heap.objs.size := by obtain ⟨o, e, _⟩ := T; exact Heap.lt_size e
  have hsz : its.toArray.size = ns.length := by rw [List.size_toArray, ← hl, List.length_map]
  refine walkD_min (wpAny_pyIter_list T ⟨_, _, _, _, _, _, _, rfl, Walks.list (show X.A.in1.handled = none from I.ok.hd hc) s.heap.objs.size p (Nat.ne_of_lt lt) its.toArray, ⟨⟨_, Heap.get?_push_size _ rfl, rfl, rfl⟩, T.push _⟩, fun b hb => ?_,
    CmpOf.ints_lt (fun i => ns.getD i 0) (fun i v e => vals_at rv e), fun v h' tk hP hk => ?_⟩)
  · simp only [List.mem_cons, List.not_mem_nil, or_false] at hb
    rw [Heap.size_push]
    rcases hb with e | e
    · rw [e]; exact Nat.lt_succ_self _
    · rw [e]; exact Nat.lt_succ_of_lt lt
  · have kp : Inv X pins σ H { s with heap := h', toks := tk } := I.kept fun b o e => hk b o (fun hm => by
      simp only [List.mem_cons, List.not_mem_nil, or_false] at hm
      exact absurd (Heap.lt_size e) (by rw [hm]; exact Nat.lt_irrefl _)) (Heap.get?_push_of_some _ e)
    rw [hsz] at hP
    rcases hP with ⟨h0, rfl⟩ | ⟨h0, hP⟩
    · rw [show minO ns = none from if_pos h0] at q
      exact ⟨.non, H, kp, rfl, q⟩
    · obtain ⟨t, rfl⟩ := vals_at rv hP
      rw [show minO ns = some (ns.getD (leastAt ns) 0) from if_neg (by omega)] at q
      exact ⟨.int _, H, kp, ⟨t, rfl⟩, q⟩
end

section
variable {X : Cx}
end
/-- a comprehension over a range with a test -/
theorem comp_rangeF {lo : Int} {n : Nat} {fr : List Nat} {tt : TT} {te : TE} {σ : St} {H : Hp} {Q : VK} (Pv : Nat → List V → Hp → Prop) (hn : n ≤ sizeLine) (h0 : Pv 0 [] H) (hlen : ∀ i acc H, Pv i acc H → acc.length ≤ i)
    (hs : ∀ i acc H, i < n → Pv i acc H → ∀ (R : VK) (Z : Hp → Prop), (∀ y H1, Pv (i + 1) (acc ++ [y]) H1 → R y H1) → (∀ H1, Pv (i + 1) acc H1 → Z H1) → tt ((compSt σ fr).set 0 (some (.int (lo + i)))) H fun b H2 => if b = true then te ((compSt σ fr).set 0 (some (.int (lo + i)))) H2 R else Z H2)
    (hd : ∀ acc H, Pv n acc H → ∀ p, H p = none → Q (.ref p) (upd H p (.lst acc))) : CompGo fr tt te σ Q (Itr lo n) H := by
  refine ⟨fun i m acc H => m = n - i ∧ i ≤ n ∧ Pv i acc H, ⟨n, by simp, Nat.zero_le _, h0⟩, ?_⟩
  rintro i m acc H ⟨rfl, hi, p⟩
  have hl := hlen i acc H p
  by_cases hlt : i < n
  · refine .inr ⟨hlt, by omega, fun x H' y => ?_⟩
    obtain ⟨e, y⟩ := y
    subst e y
    exact hs i acc _ hlt p _ _ (fun y H1 q => ⟨n - (i + 1), by omega, rfl, hlt, q⟩) fun H1 q => ⟨n - (i + 1), by omega, rfl, hlt, q⟩
  · have e : i = n := by omega
    subst e
    exact .inl ⟨Nat.le_refl _, by omega, hd acc H p⟩
end L2
set_option Elab.async false
set_option linter.all false
set_option maxRecDepth 100000
set_option maxHeartbeats 4000000
namespace L2
open PySem PySem.Spec PyProof.Rows
/-! ### methods of own classes, with their promises -/
structure MCal (P : Program) (w : World) (K : PySem.W.Frag) (mg : Str → Option Value) (base : Heap) (C : Addr) (k : Nat) (m : Str) (ps : List Str) (sp : Sp) where
  f : Addr
  fd : FuncData
  ok : FnOk P w K mg base CX0 k f fd ps sp
  b : Binds K fd ps []
  mt : Meth K C m f
/-- one that may raise -/
structure MCalX (P : Program) (w : World) (K : PySem.W.Frag) (mg : Str → Option Value) (base : Heap) (C : Addr) (k : Nat) (m : Str) (ps : List Str) (sp : Sp) where
  f : Addr
  fd : FuncData
  ok : FnOk P w K mg base (CXx P w) k f fd ps sp
  b : Binds K fd ps []
  mt : Meth K C m f
/-- a class that is made -/
structure MkCal (P : Program) (w : World) (K : PySem.W.Frag) (mg : Str → Option Value) (base : Heap) (C : Addr) (k : Nat) (x : Str) (ps : List Str) (sp : Sp) where
  f : Addr
  fd : FuncData
  ok : FnOk P w K mg base CX0 k f fd ps sp
  b : Binds K fd ps []
  mkd : Mk K C f
  mg : mg x = some (.ref C)
section
variable {X : Cx} {k : Nat} {m : Str} {C : Addr} {ps : List Str} {sp : Sp} {apos pos : Pos} {o e : Expr} {es : List Expr} {ta : TE} {t : TA}
/-- o.m(e, ..) within a try -/
def tMethZ (C : Addr) (m : Str) (sp : Sp) (Z : St → XK) (ta : TE) (t : TA) : TE := fun σ H Q => ta σ H fun x H1 => ∃ a dx fs, x = .ref a ∧ H1 a = some (.ins C dx fs) ∧ fs.lookup m = none ∧ t σ H1 fun vs H2 => sp (x :: vs) H2 Q (Z σ)
theorem pemZ {Z : St → XK} {pl : Sem Bool} (he : PE X o ta) (c : Cls X.K C) (M : MCalX X.prog X.w X.K X.mg X.base C k m ps sp) (hr : Room k X.A) (hp : Acc X Z) (ha : PA X (e :: es) t)
    (hst : starEach (e :: es) X.env = (false, eval e X.env) :: starEach es X.env := by rfl) (hpl : (backTo pos (starEach es X.env)).any (·.1) = false := by rfl)
    (ht : eval (.Call (.Attribute o m apos) (e :: es) [] pos) X.env = (do let u ← eval o X.env; standAt apos.atName; let (g, fst) ← holding [u] (getMethod u m pl); callWith pos g fst (backTo pos (starEach (e :: es) X.env)) (backToKw pos (keywordEach [] X.env))) := by rfl) :
    PE X (.Call (.Attribute o m apos) (e :: es) [] pos) (tMethZ C m sp Z ta t) := by
  intro pins s σ H Q I h
  refine PySem.W.methodCall_KW (pl := pl) (thn (he pins s σ H _ I h) fun u s1 ⟨x, H1, I1, rx, a, dx, fs, ex, ea, l, q⟩ => ?_) ht
  subst ex
  obtain rfl : u = Value.ref a := rx
  refine getmeth_ok I1 ea c M.mt l ?_
  refine PySem.W.callWith_K (first := [.ref a]) (h₀ := X.base) I.ok.mod.kin M.mt.kp (thn (ha pos pins s1 σ H1 _ I1 q) fun us s2 ⟨vs, H2, I2, r, q2⟩ => ⟨I2.kIn, ?_⟩) hst hpl
  have r2 : Vals (V.ref a :: vs) (Value.ref a :: us) := .cons rfl r
  refine wpAny_call (codeAny_mono (M.ok.run X.A X.stack s2 H2 ⟨Value.ref a :: us, []⟩ (Value.ref a :: us) (V.ref a :: vs) Q (Z σ) hr I2.env0 ?_ r2 q2) fun rs s3 hq => ?_)
  · have hl : (Value.ref a :: us).length = ps.length := by rw [← r2.length]; exact M.ok.len _ _ _ _ q2
    have hb := M.b s2 (Value.ref a :: us) I2.kIn (by rw [List.append_nil]; exact hl)
    rw [List.append_nil] at hb
    exact hb
  · match rs, hq with
    | .error x, hq => exact hp pins σ H2 s2 x s3 I2 hq
    | .ok (.ret u), hq => exact I2.after hq
    | .ok .next, hq => exact False.elim hq
    | .ok .brk, hq => exact False.elim hq
    | .ok .cont, hq => exact False.elim hq
end
end L2
set_option Elab.async false
set_option linter.all false
set_option maxRecDepth 100000
set_option maxHeartbeats 4000000
namespace L2
open PySem PySem.Spec PyProof.Rows
section
variable {X : Cx}
end
end L2
set_option Elab.async false
set_option linter.all false
set_option maxRecDepth 100000
set_option maxHeartbeats 4000000
namespace L2
open PySem PySem.Spec PyProof.Rows
/-! ### == of lists of tuples (or of lists) of ints, whatever the answer -/
section
variable {X : Cx} {pins : List (Addr × Obj)} {σ : St} {H : Hp} {s : Shared}
end
end L2
set_option Elab.async false
set_option linter.all false
set_option maxRecDepth 100000
set_option maxHeartbeats 4000000
namespace L2
open PySem PySem.Spec PyProof.Rows
/-! ### lists by their length (smaller than a match of each def's own) -/
theorem lenE1 : ∀ {us : List Value}, us.length = 1 → ∃ a, us = [a]
  | [a], _ => ⟨a, rfl⟩
theorem lenE2 : ∀ {us : List Value}, us.length = 2 → ∃ a b, us = [a, b]
  | [a, b], _ => ⟨a, b, rfl⟩
theorem lenE3 : ∀ {us : List Value}, us.length = 3 → ∃ a b c, us = [a, b, c]
  | [a, b, c], _ => ⟨a, b, c, rfl⟩
theorem lenE4 : ∀ {us : List Value}, us.length = 4 → ∃ a b c d, us = [a, b, c, d]
  | [a, b, c, d], _ => ⟨a, b, c, d, rfl⟩
theorem lenE5 : ∀ {us : List Value}, us.length = 5 → ∃ a b c d e, us = [a, b, c, d, e]
  | [a, b, c, d, e], _ => ⟨a, b, c, d, e, rfl⟩
/-! ### any of a list of bools -/
theorem boot_anyL : bootBuiltins "any" = some (.builtin "any") := PyProof.Rows.Boot.any
section
variable {X : Cx} {K : PySem.W.Frag}
/-- pe_comp by way of comp_core (which ps_setComp wants too): the smaller text -/
theorem pe_compS {elt iter : Expr} {x : Str} {px : Pos} {ifs : List Expr} {scope : Scope} {pos : Pos} {wi : TI} {tt : TT} {te : TE} (F : List Str) (fr : List Nat) (hc : X.calm = true) (hi : PI X (.Name x px) iter wi)
    (ht : ∀ s3 H3 ex, PTs (compCx X (x :: F) scope s3 H3 ex) ifs tt) (he : ∀ s3 H3 ex, PE (compCx X (x :: F) scope s3 H3 ex) elt te)
    (hk : compChk X.env.scope X.N scope x F fr = true := by rfl) (hs : ∀ x, foldedSetIterable iter X.env x = pure x := by intro _; rfl) :
    PE X (.ListComp elt [⟨.Name x px, iter, ifs, 0⟩] scope pos) (tComp wi fr tt te) := by
  intro pins s σ H Q I h
  rw [eval_ListComp]
  refine comp_core (use := none) F fr hc hi ht he I h hk hs fun s5 H5 D C m IT hm hC q => ?_
  obtain ⟨c0, c1, c2, c3, c4, c5⟩ := hC
  refine ⟨m, hm, fun h' hs' => ?_⟩
  exact ⟨.ref D, H5, IT.turned (t' := s5.toks) (it := C) (fun b o hb e => (hs'.2 b hb).trans e) c0 c1 c3 c4 c5, rfl, q⟩
theorem any_range (bs : List Bool) : ((List.range bs.length).any fun i => bs.getD i true) = bs.any id := by
  rw [Bool.eq_iff_iff, List.any_eq_true, List.any_eq_true]
  constructor
  · rintro ⟨i, hi, h⟩
    have hi := List.mem_range.mp hi
    rw [List.getD_eq_getElem?_getD, List.getElem?_eq_getElem hi, Option.getD_some] at h
    exact ⟨_, List.getElem_mem hi, h⟩
  · rintro ⟨x, hx, h⟩
    obtain ⟨i, hi, e⟩ := List.mem_iff_getElem.mp hx
    refine ⟨i, List.mem_range.mpr hi, ?_⟩
    rw [List.getD_eq_getElem?_getD, List.getElem?_eq_getElem hi, Option.getD_some, e]
    exact h
theorem call_any (hc : X.calm = true) : CallR X (.builtin "any") (fun xs H Q => ∃ (p : Addr) (bs : List Bool), xs = [.ref p] ∧ SqL X.K H p (bs.map V.bl) ∧ Q (.bl (bs.any id)) H) := by
  intro pins s σ H xs us Q I r h
  obtain ⟨p, bs, rfl, hq, q⟩ := h
  obtain ⟨u, rfl, ru⟩ := r.one
  cases ru
  obtain ⟨its, rv, pl, _⟩ := I.list hq
  have hl := rv.length
  have T : s.heap.IsList p its.toArray := pl.isList
  have lt : p < s.heap.objs.size := by obtain ⟨o, e, _⟩ := T; exact Heap.lt_size e
  have hsz : its.toArray.size = bs.length := by rw [List.size_toArray, ← hl, List.length_map]
  refine call_any_walk (wpAny_pyIter_list T ⟨s.heap.objs.size, _, _, _, _, _, fun i => bs.getD i true, rfl, Walks.list (show X.A.in1.handled = none from I.ok.hd hc) s.heap.objs.size p (Nat.ne_of_lt lt) its.toArray, ⟨⟨_, Heap.get?_push_size _ rfl, rfl, rfl⟩, T.push _⟩, fun i v s' Q' E' hP hQ => ?_, fun h' tk hk => ?_⟩)
  · rw [bools_at rv hP]
    exact wpAny_truthy_bool hQ
  · rw [hsz, any_range]
    refine ⟨.bl _, H, I.kept fun b o e => hk b o ?_ (Heap.get?_push_of_some _ e), rfl, q⟩
    intro hm
    simp only [List.mem_cons, List.not_mem_nil, or_false] at hm
    exact absurd (Heap.lt_size e) (by rw [hm]; exact Nat.lt_irrefl _)
end
end L2
set_option Elab.async false
set_option linter.all false
set_option maxRecDepth 100000
set_option maxHeartbeats 4000000
namespace L2
open PySem PySem.Spec PyProof.Rows
/-! ### a def (or method) with defaults, of which all parameters are given -/
section
variable {P : Program} {w : World} {K : PySem.W.Frag} {mg : Str → Option Value} {base : Heap}
end
end L2
set_option Elab.async false
set_option linter.all false
set_option maxRecDepth 100000
set_option maxHeartbeats 4000000
namespace L2
open PySem PySem.W PyProof.Rows
/-! ### the library's tree of questions that sorts, asked of an order: what comes out is in order -/
section
variable {lt : Nat → Nat → Bool}
end
end L2
set_option Elab.async false
set_option linter.all false
set_option maxRecDepth 100000
set_option maxHeartbeats 4000000
namespace L2
open PySem PySem.W PyProof.Rows
/-! ### what the sorting tree asks lies within the list -/
section
variable {n : Nat} (h0 : 0 < n)
include h0
end
/-! ### pairs of ints, in order -/
section
variable {prog : Program} {w : World} {A : Around} {E : Value → Shared → Prop} {s : Shared}
end
section
variable {X : Cx}
end
end L2

namespace Toy
open PySem PySem.Spec PyProof.Rows L2
def top (i : Nat) : Stmt := PySem.Challenge.pw_waithouse_k24_clock.main.body.getD i (.Pass ⟨0, 0, 0, 0⟩)
abbrev s_lies_between : Stmt := top 9
abbrev s_least_time : Stmt := top 11
abbrev s_greatest_time : Stmt := top 12
abbrev s_points_set : Stmt := top 13
abbrev s_points_open : Stmt := top 14
abbrev s_limit : Stmt := top 16
abbrev s_course : Stmt := top 18
abbrev s_turn : Stmt := top 20
abbrev s_must_follow : Stmt := top 22
abbrev s_wide : Stmt := top 26
abbrev s_wide_row : Stmt := top 27
abbrev s_table_of : Stmt := top 28
abbrev s_held : Stmt := top 29
abbrev s_shuts : Stmt := top 30
abbrev s_held_row : Stmt := top 31
abbrev s_total : Stmt := top 32
abbrev s_lesser : Stmt := top 33
abbrev s_law_cell : Stmt := top 35
abbrev s_law_whole : Stmt := top 36
abbrev s_law_big : Stmt := top 37
abbrev s_law_times : Stmt := top 38
abbrev s_law_cells : Stmt := top 39
abbrev s_law_bounds : Stmt := top 40
abbrev s_law_least : Stmt := top 41
abbrev s_law_high : Stmt := top 42
abbrev s_law_low : Stmt := top 43
abbrev s_law_limit : Stmt := top 44
abbrev s_law_turn : Stmt := top 45
abbrev s_law_number_like : Stmt := top 46
abbrev s_law_turn_like : Stmt := top 47
abbrev s_law_course_good : Stmt := top 48
abbrev s_law_shown : Stmt := top 49
abbrev s_law_near : Stmt := top 50
abbrev s_law_refusal : Stmt := top 51
abbrev s_law_only_time : Stmt := top 52
abbrev s_law_deed : Stmt := top 53
abbrev s_law : Stmt := top 54
abbrev s_Clock___init__ : Stmt := inClass (top 24) 0
abbrev s_Clock_now : Stmt := inClass (top 24) 1
abbrev s_Clock_setting : Stmt := inClass (top 24) 2
abbrev s_Clock_limit : Stmt := inClass (top 24) 3
abbrev s_Clock_turn : Stmt := inClass (top 24) 4
abbrev s_Clock_course : Stmt := inClass (top 24) 5
abbrev s_Clock_wait : Stmt := inClass (top 24) 6
abbrev s_Clock_mark : Stmt := inClass (top 24) 7
structure Cl where
  WaitError : Addr
  NoLink : Addr
  NoRoom : Addr
  NoTime : Addr
  NoName : Addr
  NoKeep : Addr
  NoRow : Addr
  Clock : Addr
structure Txt (K : PySem.W.Frag) (mg : Str → Option Value) (cl : Cl) : Prop where
  z_ValueError : mg "ValueError" = none
  z_any : mg "any" = none
  z_bool : mg "bool" = none
  z_int : mg "int" = none
  z_isinstance : mg "isinstance" = none
  z_len : mg "len" = none
  z_list : mg "list" = none
  z_max : mg "max" = none
  z_min : mg "min" = none
  z_range : mg "range" = none
  z_tuple : mg "tuple" = none
  g_WaitError : mg "WaitError" = some (.ref cl.WaitError)
  g_NoLink : mg "NoLink" = some (.ref cl.NoLink)
  g_NoRoom : mg "NoRoom" = some (.ref cl.NoRoom)
  g_NoTime : mg "NoTime" = some (.ref cl.NoTime)
  g_NoName : mg "NoName" = some (.ref cl.NoName)
  g_NoKeep : mg "NoKeep" = some (.ref cl.NoKeep)
  g_NoRow : mg "NoRow" = some (.ref cl.NoRow)
  g_Clock : mg "Clock" = some (.ref cl.Clock)
  x_NoTime : PySem.W.excIn K cl.NoTime VB "ValueError.__new__" = true
  k_NoTime : ExcK K cl.NoTime
  h_WaitError : HdK K cl.WaitError
  cl_Clock : Cls K cl.Clock
  n_Clock_rows : NoAttr K cl.Clock "rows"
  n_Clock_times : NoAttr K cl.Clock "times"
  n_Clock_present : NoAttr K cl.Clock "present"
  sub_W : PySem.W.subIn K (.ref cl.NoTime) (.ref cl.WaitError) = some true
  is_V : PySem.W.kitOne K (.ref cl.NoTime) (.type "ValueError") = some true
  is_T : PySem.W.kitOne K (.ref cl.NoTime) (.ref cl.NoTime) = some true
  no_L : PySem.W.kitOne K (.ref cl.NoTime) (.ref cl.NoLink) = some false
  no_R : PySem.W.kitOne K (.ref cl.NoTime) (.ref cl.NoRoom) = some false
  no_N : PySem.W.kitOne K (.ref cl.NoTime) (.ref cl.NoName) = some false
  no_K : PySem.W.kitOne K (.ref cl.NoTime) (.ref cl.NoKeep) = some false
  no_W : PySem.W.kitOne K (.ref cl.NoTime) (.ref cl.NoRow) = some false
/-- the gap is kept -/
def okLow (s : Int) : Option Int → Bool
  | none => true
  | some l => decide (l ≤ s)
def okHigh (s : Int) : Option Int → Bool
  | none => true
  | some h => decide (s ≤ h)
def kept (s : Int) (low high : Option Int) : Bool := okLow s low && okHigh s high
/-- the time from a to b -/
def tm (ns : List Int) (a b : Int) : Int := ns.getD b.toNat 0 - ns.getD a.toNat 0
def inR (a : Int) (ns : List Int) : Prop := 0 ≤ a ∧ a < ns.length
theorem ints_snoc {acc : List V} {zs : List Int} (h : acc = zs.map V.int) (y : Int) : acc ++ [V.int y] = (zs ++ [y]).map V.int := by
  rw [h, List.map_append]; rfl
theorem cut_map {α : Type} (f : α → V) (zs : List α) (lo hi : Option Int) : ∃ ys : List α, cutV (zs.map f) lo hi = ys.map f ∧ ys.length ≤ zs.length := by
  refine ⟨(zs.drop (HT.sIx zs.length 0 lo)).take (HT.sIx zs.length zs.length hi - HT.sIx zs.length 0 lo), ?_, ?_⟩
  · unfold cutV
    rw [List.length_map, List.map_take, List.map_drop]
  · rw [List.length_take, List.length_drop]; omega
def sp_law_cell (K : PySem.W.Frag) : Sp := fun vs H Q _ => ∃ (a : Addr) (ns : List Int) (k : Int), vs = [.ref a, .int k] ∧ SqL K H a (ns.map V.int) ∧ ns.length ≤ 63 ∧ 0 ≤ k ∧ k ≤ 100 ∧ ∀ i : Int, Q (.int i) H
def sp_law_whole (K : PySem.W.Frag) : Sp := fun vs H Q _ => ∃ i : Int, vs = [.int i] ∧ Q (.bl true) H
def sp_law_big (K : PySem.W.Frag) : Sp := fun vs H Q _ => ∃ c : Int, vs = [.int c] ∧ ∀ i : Int, Q (.int i) H
def sp_law_times (K : PySem.W.Frag) : Sp := fun vs H Q _ => ∃ (a : Addr) (ns : List Int) (k n : Int), vs = [.ref a, .int k, .int n] ∧ SqL K H a (ns.map V.int) ∧ ns.length ≤ 63 ∧ 0 ≤ k ∧ k ≤ 50 ∧ 0 ≤ n ∧ n ≤ 8 ∧
  ∀ (r : Addr) (H' : Hp) (ms : List Int), Same H H' → (ms.length : Int) = n → H' r = some (.tup (ms.map V.int)) → Q (.ref r) H'
def sp_law (K : PySem.W.Frag) : Sp := fun vs H Q _ => ∃ (a : Addr) (ns : List Int), vs = [.ref a] ∧ SqL K H a (ns.map V.int) ∧ ns.length ≤ 63 ∧ ∀ H', Q (.bl true) H'
/-! bounds: triples of numbers, each a tuple of its own -/
abbrev Bd := Int × Int × Int
def bv (m : Bd) : List V := [.int m.1, .int m.2.1, .int m.2.2]
def AreB (H : Hp) : List V → List Bd → Prop := Paired fun v m => ∃ p, v = .ref p ∧ H p = some (.tup (bv m))
theorem AreB.same {H H' : Hp} {vs : List V} {ms : List Bd} (s : Same H H') (h : AreB H vs ms) : AreB H' vs ms := Paired.mapP h fun _ _ ⟨p, e, q⟩ => ⟨p, e, s _ _ q⟩
theorem AreB.len {H : Hp} {vs : List V} {ms : List Bd} (h : AreB H vs ms) : vs.length = ms.length := Paired.length h
theorem AreB.get {H : Hp} : ∀ {vs : List V} {ms : List Bd} {i : Nat} {v : V}, AreB H vs ms → vs[i]? = some v → ∃ p m, ms[i]? = some m ∧ v = .ref p ∧ H p = some (.tup (bv m))
  | _, _, _, _, .nil, e => by simp at e
  | _, _, 0, _, .cons ⟨p, e1, q⟩ _, e => by
    simp at e
    exact ⟨p, _, rfl, e.symm.trans e1, q⟩
  | _, _, i + 1, v, .cons _ t, e => by
    obtain ⟨p, m, h1, h2⟩ := AreB.get (i := i) (v := v) t (by simpa using e)
    exact ⟨p, m, by simpa using h1, h2⟩
theorem AreB.snoc {H : Hp} {vs : List V} {ms : List Bd} {p : Addr} {m : Bd} (h : AreB H vs ms) (e : H p = some (.tup (bv m))) : AreB H (vs ++ [.ref p]) (ms ++ [m]) := Paired.snoc h ⟨p, rfl, e⟩
/-- a new tuple is appended to a list that is not among what stood before -/
theorem app_same {H H1 : Hp} {r p : Addr} {o u : HO} (hr : H r = none) (s : Same H H1) (hp : H1 p = none) : Same H (upd (upd H1 p o) r u) := fun b x e => by
  rw [upd_ne (ne_of_none e hr), upd_ne (ne_of_none (s b x e) hp)]; exact s b x e
theorem app_at {H1 : Hp} {r p : Addr} {o u w : HO} (h1 : H1 r = some w) (hp : H1 p = none) : (upd (upd H1 p o) r u) p = some o := by
  rw [upd_ne (Ne.symm (ne_of_none h1 hp)), upd_same]
theorem AreB.app {H1 : Hp} {vs xs : List V} {ms : List Bd} {r p : Addr} {m : Bd} {u : HO} (h : AreB H1 vs ms) (h1 : H1 r = some (.lst xs)) (hp : H1 p = none) : AreB (upd (upd H1 p (.tup (bv m))) r u) (vs ++ [.ref p]) (ms ++ [m]) := by
  refine AreB.snoc (Paired.mapP h fun v m ⟨t, e, q⟩ => ⟨t, e, ?_⟩) (app_at h1 hp)
  rw [upd_ne (ne_of q h1 (fun z => by cases z)), upd_ne (ne_of_none q hp)]; exact q
theorem AreB.app3 {H1 : Hp} {vs xs : List V} {ms : List Bd} {r p : Addr} {x y z : Int} {u : HO} (h : AreB H1 vs ms) (h1 : H1 r = some (.lst xs)) (hp : H1 p = none) : AreB (upd (upd H1 p (.tup [.int x, .int y, .int z])) r u) (vs ++ [.ref p]) (ms ++ [(x, y, z)]) := h.app (m := (x, y, z)) h1 hp
theorem atI_of {α : Type} {xs : List α} {i : Int} {n : Nat} {v : α} (h0 : 0 ≤ i) (hn : i.toNat = n) (h : xs[n]? = some v) : atI xs i = some v := by
  have e : i = ((n : Nat) : Int) := by omega
  rw [e]
  exact atI_nat h
def bKept (ms : List Int) (m : Bd) : Bool := decide (tm ms m.1 m.2.1 ≤ m.2.2)
/-! tables, chains, rings: the mathematics of bounds -/
abbrev Tab := List (List (Option Int))
def ent (t : Tab) (a b : Int) : Option Int := (t.getD a.toNat []).getD b.toNat none
def inN (a : Int) (n : Nat) : Prop := 0 ≤ a ∧ a < n
inductive Path (bs : List Bd) : Int → Int → Int → Prop where
  | nil (a : Int) : Path bs a a 0
  | cons {a x b c d : Int} (h : (a, x, c) ∈ bs) (r : Path bs x b d) : Path bs a b (c + d)
theorem Path.one {bs : List Bd} {a b c : Int} (h : (a, b, c) ∈ bs) : Path bs a b c := by
  have q := Path.cons h (.nil b)
  rw [Int.add_zero] at q
  exact q
theorem Path.trans {bs : List Bd} {a b c d e : Int} (p : Path bs a b c) : Path bs b d e → Path bs a d (c + e) := by
  induction p with
  | nil a => intro q; rw [Int.zero_add]; exact q
  | cons h r ih =>
    intro q
    rw [Int.add_assoc]
    exact .cons h (ih q)
theorem Path.mono {bs cs : List Bd} {a b c : Int} (p : Path bs a b c) (h : ∀ m ∈ bs, m ∈ cs) : Path cs a b c := by
  induction p with
  | nil a => exact .nil a
  | cons k r ih => exact .cons (h _ k) ih
theorem Path.keep {bs : List Bd} {ns : List Int} (hk : ∀ m ∈ bs, bKept ns m = true) {a b c : Int} (p : Path bs a b c) : tm ns a b ≤ c := by
  induction p with
  | nil a => unfold tm; omega
  | cons h r ih =>
    have q : tm ns _ _ ≤ _ := of_decide_eq_true (hk _ h)
    unfold tm at q ih ⊢
    simp only at q
    omega
def Within (n : Nat) (bs : List Bd) : Prop := ∀ m ∈ bs, inN m.1 n ∧ inN m.2.1 n
def NegR (bs : List Bd) : Prop := ∃ a c, c < 0 ∧ Path bs a a c
/-- t is the table of the bounds -/
structure Right (n : Nat) (bs : List Bd) (t : Tab) : Prop where
  len : t.length = n
  row : ∀ r ∈ t, r.length = n
  low : ∀ a b c, inN a n → inN b n → Path bs a b c → ∃ e, ent t a b = some e ∧ e ≤ c
  hit : ∀ a b e, inN a n → inN b n → ent t a b = some e → Path bs a b e
theorem Right.self {n : Nat} {bs : List Bd} {t : Tab} (R : Right n bs t) {a : Int} (ha : inN a n) : ent t a a = some 0 := by
  obtain ⟨e, h1, h2⟩ := R.low a a 0 ha ha (.nil a)
  have p := R.hit a a e ha ha h1
  obtain ⟨e', h3, h4⟩ := R.low a a (e + e) ha ha (p.trans p)
  rw [h1] at h3
  cases h3
  have : e = 0 := by omega
  rw [h1, this]
theorem Right.tri {n : Nat} {bs : List Bd} {t : Tab} (R : Right n bs t) {a p b x y : Int} (ha : inN a n) (hp : inN p n) (hb : inN b n) (h1 : ent t a p = some x) (h2 : ent t p b = some y) : ∃ e, ent t a b = some e ∧ e ≤ x + y :=
  R.low a b (x + y) ha hb ((R.hit a p x ha hp h1).trans (R.hit p b y hp hb h2))
def Lies (n : Nat) (t : Tab) (ns : List Int) : Prop := ∀ a b, inN a n → inN b n → ∀ e, ent t a b = some e → tm ns a b ≤ e
theorem Right.keeps {n : Nat} {bs : List Bd} {t : Tab} (R : Right n bs t) (hw : Within n bs) {ns : List Int} (hl : Lies n t ns) : ∀ m ∈ bs, bKept ns m = true := fun m hm => by
  obtain ⟨h1, h2⟩ := hw m hm
  obtain ⟨e, q1, q2⟩ := R.low m.1 m.2.1 m.2.2 h1 h2 (.one hm)
  have := hl _ _ h1 h2 e q1
  exact decide_eq_true (by omega)
theorem noneg_kept {bs : List Bd} {ns : List Int} (hk : ∀ m ∈ bs, bKept ns m = true) : ¬ NegR bs := by
  rintro ⟨a, c, hc, p⟩
  have := p.keep hk
  unfold tm at this
  omega
theorem ent_nat (t : Tab) (i j : Nat) : ent t (i : Int) (j : Int) = (t.getD i []).getD j none := by
  unfold ent; rw [Int.toNat_natCast, Int.toNat_natCast]
/-! tables in the heap -/
def RowsAt (H : Hp) : List Addr → Tab → Prop := Paired fun r row => H r = some (.lst (row.map ov))
structure TabAt (H : Hp) (p : Addr) (rs : List Addr) (t : Tab) : Prop where
  ob : H p = some (.lst (rs.map V.ref))
  rows : RowsAt H rs t
def Square (n : Nat) (t : Tab) : Prop := t.length = n ∧ ∀ r ∈ t, r.length = n
theorem Right.square {n : Nat} {bs : List Bd} {t : Tab} (R : Right n bs t) : Square n t := ⟨R.len, R.row⟩
theorem TabAt.same {H H' : Hp} {p : Addr} {rs : List Addr} {t : Tab} (s : Same H H') (h : TabAt H p rs t) : TabAt H' p rs t := ⟨s _ _ h.ob, Paired.mapP h.rows fun _ _ q => s _ _ q⟩
theorem paired_get {α β : Type} {F : α → β → Prop} : ∀ {l₁ : List α} {l₂ : List β} {i : Nat} {x : α}, Paired F l₁ l₂ → l₁[i]? = some x → ∃ y, l₂[i]? = some y ∧ F x y
  | _, _, _, _, .nil, e => by simp at e
  | _, _, 0, _, .cons r _, e => by simp at e; subst e; exact ⟨_, rfl, r⟩
  | _, _, i + 1, x, .cons _ t, e => by
    obtain ⟨y, h1, h2⟩ := paired_get (i := i) (x := x) t (by simpa using e)
    exact ⟨y, by simpa using h1, h2⟩
theorem TabAt.at {H : Hp} {p : Addr} {rs : List Addr} {t : Tab} {n : Nat} (T : TabAt H p rs t) (S : Square n t) {a b : Int} (ha : inN a n) (hb : inN b n) :
    ∃ (r : Addr) (row : List (Option Int)), atI (rs.map V.ref) a = some (.ref r) ∧ H r = some (.lst (row.map ov)) ∧ atI (row.map ov) b = some (ov (ent t a b)) := by
  have hl := Paired.length T.rows
  have h1 : a.toNat < rs.length := by have := ha.1; have := ha.2; have := S.1; omega
  obtain ⟨row, e1, e2⟩ := paired_get T.rows (List.getElem?_eq_getElem h1)
  have hr := S.2 row (List.mem_of_getElem? e1)
  have h2 : b.toNat < row.length := by have := hb.1; have := hb.2; omega
  refine ⟨rs[a.toNat], row, atI_of ha.1 rfl ?_, e2, atI_of hb.1 rfl ?_⟩
  · rw [List.getElem?_map, List.getElem?_eq_getElem h1]; rfl
  · have q : ent t a b = row[b.toNat] := by
      unfold ent
      simp only [List.getD_eq_getElem?_getD]
      rw [e1, Option.getD_some, List.getElem?_eq_getElem h2, Option.getD_some]
    rw [q, List.getElem?_map, List.getElem?_eq_getElem h2]
    rfl
/-! the program's tables: mathematics -/
def tot : Option Int → Option Int → Option Int
  | some x, some y => some (x + y)
  | _, _ => none
def les : Option Int → Option Int → Option Int
  | none, y => y
  | some x, none => some x
  | some x, some y => some (if y < x then y else x)
def mkT (n : Nat) (f : Int → Int → Option Int) : Tab := (List.range n).map fun (i : Nat) => (List.range n).map fun (j : Nat) => f (i : Int) (j : Int)
theorem mkT_square (n : Nat) (f : Int → Int → Option Int) : Square n (mkT n f) := by
  refine ⟨by unfold mkT; simp, fun r hr => ?_⟩
  unfold mkT at hr
  obtain ⟨i, _, e⟩ := List.mem_map.mp hr
  rw [← e]; simp
theorem mkT_ent {n : Nat} (f : Int → Int → Option Int) {a b : Int} (ha : inN a n) (hb : inN b n) : ent (mkT n f) a b = f a b := by
  obtain ⟨i, rfl⟩ : ∃ i : Nat, a = (i : Int) := ⟨a.toNat, by have := ha.1; omega⟩
  obtain ⟨j, rfl⟩ : ∃ j : Nat, b = (j : Int) := ⟨b.toNat, by have := hb.1; omega⟩
  have hi : i < n := by have := ha.2; omega
  have hj : j < n := by have := hb.2; omega
  rw [ent_nat]
  unfold mkT
  simp [List.getD_eq_getElem?_getD, hi, hj]
def wideT (n : Nat) : Tab := mkT n fun a b => if a = b then some 0 else none
def heldF (t : Tab) (m : Bd) (a b : Int) : Option Int := les (ent t a b) (tot (tot (ent t a m.1) (some m.2.2)) (ent t m.2.1 b))
def heldT (n : Nat) (t : Tab) (m : Bd) : Tab := mkT n (heldF t m)
def shutB (t : Tab) (m : Bd) : Bool := match ent t m.2.1 m.1 with
  | none => false
  | some e => decide (e + m.2.2 < 0)
theorem Path.none {a b c : Int} (p : Path [] a b c) : a = b ∧ c = 0 := by
  cases p with
  | nil => exact ⟨rfl, rfl⟩
  | cons h _ => exact (nomatch h)
theorem wide_right (n : Nat) : Right n [] (wideT n) where
  len := (mkT_square n _).1
  row := (mkT_square n _).2
  low a b c ha hb p := by
    obtain ⟨rfl, rfl⟩ := p.none
    exact ⟨0, by unfold wideT; rw [mkT_ent _ ha hb, if_pos rfl], Int.le_refl _⟩
  hit a b e ha hb h := by
    unfold wideT at h
    rw [mkT_ent _ ha hb] at h
    by_cases q : a = b
    · rw [if_pos q] at h
      cases h
      rw [q]; exact .nil b
    · rw [if_neg q] at h; cases h
theorem held_old {t : Tab} {m : Bd} {a b e : Int} (h : ent t a b = some e) : ∃ f, heldF t m a b = some f ∧ f ≤ e := by
  unfold heldF
  rw [h]
  cases tot (tot (ent t a m.1) (some m.2.2)) (ent t m.2.1 b) with
  | none => exact ⟨e, rfl, Int.le_refl _⟩
  | some y =>
    refine ⟨_, rfl, ?_⟩
    split <;> omega
theorem held_new {t : Tab} {m : Bd} {a b e1 e2 : Int} (h1 : ent t a m.1 = some e1) (h2 : ent t m.2.1 b = some e2) : ∃ f, heldF t m a b = some f ∧ f ≤ e1 + m.2.2 + e2 := by
  unfold heldF
  rw [h1, h2]
  cases ent t a b with
  | none => exact ⟨_, rfl, Int.le_refl _⟩
  | some x =>
    refine ⟨_, rfl, ?_⟩
    split <;> omega
theorem held_from {t : Tab} {m : Bd} {a b e : Int} (h : heldF t m a b = some e) : ent t a b = some e ∨ ∃ e1 e2, ent t a m.1 = some e1 ∧ ent t m.2.1 b = some e2 ∧ e = e1 + m.2.2 + e2 := by
  unfold heldF at h
  cases h1 : ent t a m.1 with
  | none =>
    rw [h1] at h
    have e0 : tot (tot none (some m.2.2)) (ent t m.2.1 b) = none := by cases ent t m.2.1 b <;> rfl
    rw [e0] at h
    cases h3 : ent t a b with
    | none => rw [h3] at h; cases h
    | some x => rw [h3] at h; exact .inl h
  | some e1 =>
    rw [h1] at h
    cases h2 : ent t m.2.1 b with
    | none =>
      rw [h2] at h
      have e0 : tot (tot (some e1) (some m.2.2)) none = none := rfl
      rw [e0] at h
      cases h3 : ent t a b with
      | none => rw [h3] at h; cases h
      | some x => rw [h3] at h; exact .inl h
    | some e2 =>
      rw [h2] at h
      have e0 : tot (tot (some e1) (some m.2.2)) (some e2) = some (e1 + m.2.2 + e2) := rfl
      rw [e0] at h
      cases h3 : ent t a b with
      | none => rw [h3] at h; exact .inr ⟨e1, e2, rfl, rfl, (Option.some.inj h).symm⟩
      | some x =>
        rw [h3] at h
        have h' := Option.some.inj h
        by_cases c : e1 + m.2.2 + e2 < x
        · rw [if_pos c] at h'
          exact .inr ⟨e1, e2, rfl, rfl, h'.symm⟩
        · rw [if_neg c] at h'
          exact .inl (by rw [h'])
theorem shut_neg {n : Nat} {bs : List Bd} {t : Tab} {m : Bd} (R : Right n bs t) (h1 : inN m.1 n) (h2 : inN m.2.1 n) (h : shutB t m = true) : NegR (bs ++ [m]) := by
  unfold shutB at h
  cases e : ent t m.2.1 m.1 with
  | none => rw [e] at h; cases h
  | some z =>
    rw [e] at h
    have h' : z + m.2.2 < 0 := of_decide_eq_true h
    have p := (R.hit _ _ z h2 h1 e).mono (cs := bs ++ [m]) fun x hx => List.mem_append_left _ hx
    exact ⟨m.1, m.2.2 + z, by omega, .cons (List.mem_append_right _ (List.mem_singleton.mpr rfl)) p⟩
theorem held_low {n : Nat} {bs : List Bd} {t : Tab} {m : Bd} (R : Right n bs t) (hw : Within n (bs ++ [m])) (h : shutB t m = false) {a b d : Int} (p : Path (bs ++ [m]) a b d) : inN a n → inN b n → ∃ e, heldF t m a b = some e ∧ e ≤ d := by
  have hm := hw m (List.mem_append_right _ (List.mem_singleton.mpr rfl))
  induction p with
  | nil a => exact fun ha _ => held_old (R.self ha)
  | @cons a z b k d' hin r ih =>
    intro ha hb
    have hz : inN z n := (hw _ hin).2
    obtain ⟨e, g1, g2⟩ := ih hz hb
    rcases List.mem_append.mp hin with hin | hin
    · obtain ⟨k', q1, q2⟩ := R.low a z k ha hz (.one hin)
      rcases held_from g1 with g | ⟨e1, e2, f1, f2, f3⟩
      · obtain ⟨x, y1, y2⟩ := R.tri ha hz hb q1 g
        obtain ⟨f, w1, w2⟩ := held_old (m := m) y1
        exact ⟨f, w1, by omega⟩
      · obtain ⟨x, y1, y2⟩ := R.tri ha hz hm.1 q1 f1
        obtain ⟨f, w1, w2⟩ := held_new y1 f2
        exact ⟨f, w1, by omega⟩
    · have em := List.mem_singleton.mp hin
      have ea : a = m.1 := by rw [← em]
      have ez : z = m.2.1 := by rw [← em]
      have ek : k = m.2.2 := by rw [← em]
      subst ea ez ek
      rcases held_from g1 with g | ⟨e1, e2, f1, f2, f3⟩
      · obtain ⟨f, w1, w2⟩ := held_new (R.self ha) g
        exact ⟨f, w1, by omega⟩
      · obtain ⟨f, w1, w2⟩ := held_new (R.self ha) f2
        unfold shutB at h
        rw [f1] at h
        have h' : ¬ e1 + m.2.2 < 0 := of_decide_eq_false h
        exact ⟨f, w1, by omega⟩
theorem held_right {n : Nat} {bs : List Bd} {t : Tab} {m : Bd} (R : Right n bs t) (hw : Within n (bs ++ [m])) (h : shutB t m = false) : Right n (bs ++ [m]) (heldT n t m) where
  len := (mkT_square n _).1
  row := (mkT_square n _).2
  low a b c ha hb p := by
    unfold heldT
    rw [mkT_ent _ ha hb]
    exact held_low R hw h p ha hb
  hit a b e ha hb q := by
    have hm := hw m (List.mem_append_right _ (List.mem_singleton.mpr rfl))
    unfold heldT at q
    rw [mkT_ent _ ha hb] at q
    have mo : ∀ x ∈ bs, x ∈ bs ++ [m] := fun x hx => List.mem_append_left _ hx
    rcases held_from q with g | ⟨e1, e2, f1, f2, f3⟩
    · exact (R.hit a b e ha hb g).mono mo
    · have p1 := (R.hit a m.1 e1 ha hm.1 f1).mono mo
      have p2 := (R.hit m.2.1 b e2 hm.2 hb f2).mono mo
      have p0 : Path (bs ++ [m]) m.1 m.2.1 m.2.2 := .one (List.mem_append_right _ (List.mem_singleton.mpr rfl))
      rw [f3]
      exact (p1.trans p0).trans p2
theorem NegR.mono {bs cs : List Bd} (h : NegR bs) (hs : ∀ m ∈ bs, m ∈ cs) : NegR cs := by
  obtain ⟨a, c, hc, p⟩ := h
  exact ⟨a, c, hc, p.mono hs⟩
/-! tables in the heap, made new -/
theorem TabAt.rowAt {H : Hp} {p : Addr} {rs : List Addr} {t : Tab} {n : Nat} (T : TabAt H p rs t) (S : Square n t) {a : Int} (ha : inN a n) :
    ∃ (r : Addr) (row : List (Option Int)), atI (rs.map V.ref) a = some (.ref r) ∧ H r = some (.lst (row.map ov)) ∧ row.length = n ∧ ∀ b, inN b n → atI (row.map ov) b = some (ov (ent t a b)) := by
  have hl := Paired.length T.rows
  have h1 : a.toNat < rs.length := by have := ha.1; have := ha.2; have := S.1; omega
  obtain ⟨row, e1, e2⟩ := paired_get T.rows (List.getElem?_eq_getElem h1)
  have hr := S.2 row (List.mem_of_getElem? e1)
  refine ⟨rs[a.toNat], row, atI_of ha.1 rfl ?_, e2, hr, fun b hb => atI_of hb.1 rfl ?_⟩
  · rw [List.getElem?_map, List.getElem?_eq_getElem h1]; rfl
  · have h2 : b.toNat < row.length := by have := hb.1; have := hb.2; omega
    have q : ent t a b = row[b.toNat] := by
      unfold ent
      simp only [List.getD_eq_getElem?_getD]
      rw [e1, Option.getD_some, List.getElem?_eq_getElem h2, Option.getD_some]
    rw [q, List.getElem?_map, List.getElem?_eq_getElem h2]
    rfl
theorem TabAt.len {H : Hp} {p : Addr} {rs : List Addr} {t : Tab} {n : Nat} (T : TabAt H p rs t) (S : Square n t) : (rs.map V.ref).length = n := by
  rw [List.length_map, Paired.length T.rows]; exact S.1
structure NewT (H H' : Hp) (p : Addr) (rs : List Addr) (t : Tab) : Prop where
  p0 : H p = none
  r0 : ∀ r ∈ rs, H r = none
  nd : (p :: rs).Nodup
  sm : Same H H'
  tb : TabAt H' p rs t
theorem none_of {H H' : Hp} (s : Same H H') {p : Addr} (h : H' p = none) : H p = none := by
  cases e : H p with
  | none => rfl
  | some o => rw [s _ _ e] at h; cases h
/-- a comprehension over a range that makes a new row in each turn -/
theorem comp_rows {n : Nat} {fr : List Nat} {te : TE} {σ : L2.St} {H : Hp} {Q : VK} (f : Nat → List (Option Int)) (hn : n ≤ sizeLine)
    (hs : ∀ i H1, i < n → Same H H1 → ∀ R : VK, (∀ r H2, H1 r = none → Same H1 H2 → H2 r = some (.lst ((f i).map ov)) → R (.ref r) H2) → te ((compSt σ fr).set 0 (some (.int (0 + (i : Int))))) H1 R)
    (hd : ∀ p rs H', NewT H H' p rs ((List.range n).map f) → Q (.ref p) H') : CompGo fr tYes te σ Q (Itr 0 n) H := by
  refine comp_range (lo := 0) (n := n) (fun i acc H1 => Same H H1 ∧ ∃ rs : List Addr, acc = rs.map V.ref ∧ (∀ r ∈ rs, H r = none) ∧ rs.Nodup ∧ RowsAt H1 rs ((List.range i).map f)) hn ⟨fun _ _ e => e, [], rfl, fun _ h => (nomatch h), .nil, .nil⟩
    (fun i acc H1 ⟨_, rs, e, _, _, w⟩ => by rw [e, List.length_map, Paired.length w]; simp) ?_ ?_
  · rintro i acc H1 hi ⟨s1, rs, rfl, r0, nd, w⟩ R kR
    refine hs i H1 hi s1 _ fun r H2 n0 s2 e2 => kR _ _ ⟨s1.trans s2, rs ++ [r], by simp, fun x hx => ?_, ?_, ?_⟩
    · rcases List.mem_append.mp hx with hx | hx
      · exact r0 x hx
      · rw [List.mem_singleton.mp hx]; exact none_of s1 n0
    · rw [List.nodup_append]
      refine ⟨nd, by simp, fun x hx y hy => ?_⟩
      rw [List.mem_singleton.mp hy]
      rintro rfl
      obtain ⟨k, hk⟩ := List.mem_iff_getElem?.mp hx
      obtain ⟨_, _, q⟩ := paired_get w hk
      rw [q] at n0; cases n0
    · rw [List.range_succ, List.map_append]
      exact Paired.snoc (Paired.mapP w fun _ _ q => s2 _ _ q) e2
  · rintro acc H1 ⟨s1, rs, rfl, r0, nd, w⟩ p hp
    have hne : ∀ x ∈ rs, x ≠ p := fun x hx e => by
      obtain ⟨k, hk⟩ := List.mem_iff_getElem?.mp hx
      obtain ⟨_, _, q⟩ := paired_get w hk
      rw [e, hp] at q; cases q
    refine hd p rs _ ⟨none_of s1 hp, r0, List.nodup_cons.mpr ⟨fun h => hne p h rfl, nd⟩, s1.trans (same_new hp _), upd_same, ?_⟩
    exact Paired.mapP w fun _ _ q => same_new hp _ _ _ q
/-- a comprehension over a range whose turns leave the heap -/
theorem comp_vals {n : Nat} {fr : List Nat} {te : TE} {σ : L2.St} {H : Hp} {Q : VK} (f : Nat → V) (hn : n ≤ sizeLine)
    (hs : ∀ i, i < n → ∀ R : VK, R (f i) H → te ((compSt σ fr).set 0 (some (.int (0 + (i : Int))))) H R)
    (hd : ∀ p, H p = none → Q (.ref p) (upd H p (.lst ((List.range n).map f)))) : CompGo fr tYes te σ Q (Itr 0 n) H := by
  refine comp_range (lo := 0) (n := n) (fun i acc H1 => H1 = H ∧ acc = (List.range i).map f) hn ⟨rfl, rfl⟩ (fun i acc H1 ⟨_, e⟩ => by rw [e]; simp) ?_ ?_
  · rintro i acc H1 hi ⟨rfl, rfl⟩ R kR
    exact hs i hi _ (kR _ _ ⟨rfl, by rw [List.range_succ, List.map_append]; rfl⟩)
  · rintro acc H1 ⟨rfl, rfl⟩ p hp
    exact hd p hp
def sp_total (_ : PySem.W.Frag) : Sp := fun vs H Q _ => ∃ x y : Option Int, vs = [ov x, ov y] ∧ Q (ov (tot x y)) H
def sp_lesser (_ : PySem.W.Frag) : Sp := fun vs H Q _ => ∃ x y : Option Int, vs = [ov x, ov y] ∧ Q (ov (les x y)) H
def sp_wide_row (_ : PySem.W.Frag) : Sp := fun vs H Q _ => ∃ (n : Nat) (a : Int), vs = [.int n, .int a] ∧ n ≤ 100 ∧ ∀ r, H r = none → Q (.ref r) (upd H r (.lst (((List.range n).map fun (j : Nat) => if a = (j : Int) then some (0 : Int) else none).map ov)))
def sp_wide (_ : PySem.W.Frag) : Sp := fun vs H Q _ => ∃ n : Nat, vs = [.int n] ∧ n ≤ 100 ∧ ∀ p rs H', NewT H H' p rs (wideT n) → Q (.ref p) H'
def sp_shuts (K : PySem.W.Frag) : Sp := fun vs H Q _ => ∃ (u p : Addr) (m : Bd) (rs : List Addr) (t : Tab) (n : Nat), vs = [.ref u, .ref p] ∧ SqT K H u (bv m) ∧ TabAt H p rs t ∧ Square n t ∧ inN m.1 n ∧ inN m.2.1 n ∧ Q (.bl (shutB t m)) H
def sp_held_row (K : PySem.W.Frag) : Sp := fun vs H Q _ => ∃ (u p : Addr) (a : Int) (m : Bd) (rs : List Addr) (t : Tab) (n : Nat), vs = [.ref p, .int a, .ref u] ∧ SqT K H u (bv m) ∧ TabAt H p rs t ∧ Square n t ∧ n ≤ 100 ∧ inN a n ∧ inN m.1 n ∧ inN m.2.1 n ∧ ∀ r, H r = none → Q (.ref r) (upd H r (.lst (((List.range n).map fun (j : Nat) => heldF t m a (j : Int)).map ov)))
def sp_held (K : PySem.W.Frag) : Sp := fun vs H Q _ => ∃ (u : Addr) (v : V) (m : Bd), vs = [v, .ref u] ∧ SqT K H u (bv m) ∧
  ((v = .non ∧ Q .non H) ∨ ∃ (p : Addr) (rs : List Addr) (t : Tab) (n : Nat), v = .ref p ∧ TabAt H p rs t ∧ Square n t ∧ n ≤ 100 ∧ inN m.1 n ∧ inN m.2.1 n ∧ (shutB t m = true → Q .non H) ∧ (shutB t m = false → ∀ p' rs' H', NewT H H' p' rs' (heldT n t m) → Q (.ref p') H'))
theorem int_at {ns : List Int} {i : Nat} {x : V} (h : (ns.map V.int)[i]? = some x) : i < ns.length ∧ x = .int (ns.getD i 0) := by
  rw [List.getElem?_map] at h
  cases e : ns[i]? with
  | none => rw [e] at h; cases h
  | some z =>
    rw [e] at h
    refine ⟨(List.getElem?_eq_some_iff.mp e).1, ?_⟩
    rw [List.getD_eq_getElem?_getD, e]
    exact (Option.some.inj h).symm
theorem same_upd {H H' : Hp} (s : Same H H') {p : Addr} (h : H p = none) (o : HO) : Same H (upd H' p o) := fun b x e => by
  rw [upd_ne (ne_of_none e h)]; exact s b x e
theorem same_refl (H : Hp) : Same H H := fun _ _ e => e
theorem ixN_of {n : Nat} {k : Int} (h0 : 0 ≤ k) (h1 : k < n) : ixN n k = some k.toNat := by
  unfold ixN
  rw [if_pos h0, if_pos h1]
/-- a copy of a table: each row is copied -/
theorem comp_copies {K : PySem.W.Frag} {p : Addr} {rs : List Addr} {t : Tab} {fr : List Nat} {te : TE} {σ : L2.St} {H : Hp} {Q : VK} (T : TabAt H p rs t) (hn : rs.length ≤ sizeLine)
    (hs : ∀ (i : Nat) (H1 : Hp) (r : Addr) (row : List (Option Int)), rs[i]? = some r → Same H H1 → H1 r = some (.lst (row.map ov)) → ∀ R : VK, (∀ l, H1 l = none → R (.ref l) (upd H1 l (.lst (row.map ov)))) → te ((compSt σ fr).set 0 (some (.ref r))) H1 R)
    (hd : ∀ p' rs' H', NewT H H' p' rs' t → Q (.ref p') H') : CompGo fr tYes te σ Q (Itl K p) H := by
  have hl := Paired.length T.rows
  refine comp_list (K := K) (a := p) (xs := rs.map V.ref) (fun i acc H1 => i ≤ rs.length ∧ Same H H1 ∧ ∃ ls : List Addr, acc = ls.map V.ref ∧ (∀ r ∈ ls, H r = none) ∧ ls.Nodup ∧ RowsAt H1 ls (t.take i)) (by rw [List.length_map]; exact hn) ⟨Nat.zero_le _, fun _ _ e => e, [], rfl, fun _ h => (nomatch h), .nil, .nil⟩
    (fun i acc H1 ⟨hi, _, ls, e, _, _, w⟩ => by rw [e, List.length_map, Paired.length w, List.length_take]; omega) (fun i acc H1 ⟨_, s, _⟩ => SqL.of (s _ _ T.ob)) ?_ ?_
  · rintro i acc H1 x hx ⟨hi, s1, ls, rfl, r0, nd, w⟩ R kR
    rw [List.getElem?_map] at hx
    cases e : rs[i]? with
    | none => rw [e] at hx; cases hx
    | some r =>
      rw [e] at hx
      have ex : x = V.ref r := (Option.some.inj hx).symm
      subst ex
      obtain ⟨row, e1, e2⟩ := paired_get T.rows e
      have hlt := (List.getElem?_eq_some_iff.mp e).1
      refine hs i H1 r row e s1 (s1 _ _ e2) _ fun l n0 => kR _ _ ⟨hlt, s1.trans (same_new n0 _), ls ++ [l], by simp, fun y hy => ?_, ?_, ?_⟩
      · rcases List.mem_append.mp hy with hy | hy
        · exact r0 y hy
        · rw [List.mem_singleton.mp hy]; exact none_of s1 n0
      · rw [List.nodup_append]
        refine ⟨nd, by simp, fun y hy z hz => ?_⟩
        rw [List.mem_singleton.mp hz]
        rintro rfl
        obtain ⟨k, hk⟩ := List.mem_iff_getElem?.mp hy
        obtain ⟨_, _, q⟩ := paired_get w hk
        rw [q] at n0; cases n0
      · rw [List.take_add_one, e1]
        exact Paired.snoc (Paired.mapP w fun _ _ q => same_new n0 _ _ _ q) upd_same
  · rintro acc H1 ⟨hi, s1, ls, rfl, r0, nd, w⟩ p' hp
    rw [List.length_map, hl, List.take_length] at w
    have hne : ∀ x ∈ ls, x ≠ p' := fun x hx e => by
      obtain ⟨k, hk⟩ := List.mem_iff_getElem?.mp hx
      obtain ⟨_, _, q⟩ := paired_get w hk
      rw [e, hp] at q; cases q
    refine hd p' ls _ ⟨none_of s1 hp, r0, List.nodup_cons.mpr ⟨fun h => hne p' h rfl, nd⟩, s1.trans (same_new hp _), upd_same, ?_⟩
    exact Paired.mapP w fun _ _ q => same_new hp _ _ _ q
def sp_law_cells (K : PySem.W.Frag) : Sp := fun vs H Q _ => ∃ (a : Addr) (ns : List Int) (k m : Int), vs = [.ref a, .int k, .int m] ∧ SqL K H a (ns.map V.int) ∧ ns.length ≤ 63 ∧ 0 ≤ k ∧ k ≤ 50 ∧ 0 ≤ m ∧
  ∀ (r : Addr) (H' : Hp) (zs : List Int), Same H H' → H' r = some (.lst (zs.map V.int)) → 4 ≤ zs.length → zs.length ≤ 63 → Q (.ref r) H'
/-! schedules picked from a table -/
theorem least_le (ns : List Int) : ∀ k j, j ≤ k → ns.getD (argBest (fun i j => decide (ns.getD i 0 < ns.getD j 0)) k) 0 ≤ ns.getD j 0
  | 0, j, h => by have : j = 0 := by omega
                  subst this; exact Int.le_refl _
  | k + 1, j, h => by
    have ih := least_le ns k
    unfold argBest
    by_cases c : ns.getD (k + 1) 0 < ns.getD (argBest (fun i j => decide (ns.getD i 0 < ns.getD j 0)) k) 0
    · rw [if_pos (decide_eq_true c)]
      by_cases hj : j ≤ k
      · have := ih j hj; omega
      · have : j = k + 1 := by omega
        subst this; exact Int.le_refl _
    · rw [if_neg (by rw [decide_eq_false c]; exact Bool.false_ne_true)]
      by_cases hj : j ≤ k
      · exact ih j hj
      · have : j = k + 1 := by omega
        subst this; omega
theorem greatest_ge (ns : List Int) : ∀ k j, j ≤ k → ns.getD j 0 ≤ ns.getD (argBest (fun i j => decide (ns.getD i 0 > ns.getD j 0)) k) 0
  | 0, j, h => by have : j = 0 := by omega
                  subst this; exact Int.le_refl _
  | k + 1, j, h => by
    have ih := greatest_ge ns k
    unfold argBest
    by_cases c : ns.getD (k + 1) 0 > ns.getD (argBest (fun i j => decide (ns.getD i 0 > ns.getD j 0)) k) 0
    · rw [if_pos (decide_eq_true c)]
      by_cases hj : j ≤ k
      · have := ih j hj; omega
      · have : j = k + 1 := by omega
        subst this; exact Int.le_refl _
    · rw [if_neg (by rw [decide_eq_false c]; exact Bool.false_ne_true)]
      by_cases hj : j ≤ k
      · exact ih j hj
      · have : j = k + 1 := by omega
        subst this; omega
theorem getD_mem {ns : List Int} {i : Nat} (h : i < ns.length) : ns.getD i 0 ∈ ns := by
  rw [List.getD_eq_getElem?_getD, List.getElem?_eq_getElem h]; exact List.getElem_mem h
theorem mem_getD {ns : List Int} {x : Int} (h : x ∈ ns) : ∃ i, i < ns.length ∧ ns.getD i 0 = x := by
  obtain ⟨i, hi, e⟩ := List.mem_iff_getElem.mp h
  exact ⟨i, hi, by rw [List.getD_eq_getElem?_getD, List.getElem?_eq_getElem hi]; exact e⟩
theorem leastAt_lt {ns : List Int} (h : 0 < ns.length) : leastAt ns < ns.length := by
  unfold leastAt
  have := argBest_le (bt := fun i j => decide (ns.getD i 0 < ns.getD j 0)) (ns.length - 1)
  omega
theorem greatestAt_lt {ns : List Int} (h : 0 < ns.length) : greatestAt ns < ns.length := by
  unfold greatestAt
  have := argBest_le (bt := fun i j => decide (ns.getD i 0 > ns.getD j 0)) (ns.length - 1)
  omega
theorem leastAt_spec {ns : List Int} (h : 0 < ns.length) : ns.getD (leastAt ns) 0 ∈ ns ∧ ∀ x ∈ ns, ns.getD (leastAt ns) 0 ≤ x := by
  refine ⟨getD_mem (leastAt_lt h), fun x hx => ?_⟩
  obtain ⟨i, hi, rfl⟩ := mem_getD hx
  exact least_le ns (ns.length - 1) i (by omega)
theorem greatestAt_spec {ns : List Int} (h : 0 < ns.length) : ns.getD (greatestAt ns) 0 ∈ ns ∧ ∀ x ∈ ns, x ≤ ns.getD (greatestAt ns) 0 := by
  refine ⟨getD_mem (greatestAt_lt h), fun x hx => ?_⟩
  obtain ⟨i, hi, rfl⟩ := mem_getD hx
  exact greatest_ge ns (ns.length - 1) i (by omega)
/-! settings, rooms, fillings: mathematics -/
def stt (ss : List (Option Int)) (p : Int) : Option Int := ss.getD p.toNat none
theorem at_stt {ss : List (Option Int)} {p : Int} (h0 : 0 ≤ p) (h1 : p < ss.length) : atI (ss.map ov) p = some (ov (stt ss p)) := atI_of h0 rfl (by
  have h : p.toNat < ss.length := by omega
  unfold stt
  rw [List.getElem?_map, List.getD_eq_getElem?_getD, List.getElem?_eq_getElem h]; rfl)
theorem at_some {ss : List (Option Int)} {p s : Int} (h0 : 0 ≤ p) (h1 : p < ss.length) (h : stt ss p = some s) : atI (ss.map ov) p = some (.int s) := by
  have := at_stt h0 h1
  rw [h] at this; exact this
theorem stt_set {ss : List (Option Int)} {n : Nat} {x p : Int} {v : Option Int} (hl : ss.length = n) (hx : inN x n) (hp : 0 ≤ p) : stt (ss.set x.toNat v) p = if p = x then v else stt ss p := by
  unfold stt
  have h1 := hx.1
  have h2 := hx.2
  rw [List.getD_eq_getElem?_getD, List.getElem?_set]
  by_cases c : p = x
  · subst c
    rw [if_pos rfl, if_pos (by omega), if_pos rfl]; rfl
  · rw [if_neg (by omega), if_neg c, List.getD_eq_getElem?_getD]
/-- the times that are set go with the table -/
def Goes (n : Nat) (t : Tab) (ss : List (Option Int)) : Prop := ∀ p q, inN p n → inN q n → ∀ x y e, stt ss p = some x → stt ss q = some y → ent t p q = some e → y - x ≤ e
structure IsLow (n : Nat) (t : Tab) (ss : List (Option Int)) (x : Int) (lo : Option Int) : Prop where
  hit : ∀ l, lo = some l → ∃ p s e, inN p n ∧ stt ss p = some s ∧ ent t x p = some e ∧ l = s - e
  all : ∀ p s e, inN p n → stt ss p = some s → ent t x p = some e → ∃ l, lo = some l ∧ s - e ≤ l
structure IsHigh (n : Nat) (t : Tab) (ss : List (Option Int)) (x : Int) (hi : Option Int) : Prop where
  hit : ∀ h, hi = some h → ∃ p s e, inN p n ∧ stt ss p = some s ∧ ent t p x = some e ∧ h = s + e
  all : ∀ p s e, inN p n → stt ss p = some s → ent t p x = some e → ∃ h, hi = some h ∧ h ≤ s + e
/-- a time of the room -/
def InRoom (lo hi : Option Int) (z : Int) : Prop := (∀ l, lo = some l → l ≤ z) ∧ ∀ h, hi = some h → z ≤ h
theorem IsLow.uniq {n : Nat} {t : Tab} {ss : List (Option Int)} {x : Int} {lo lo' : Option Int} (A : IsLow n t ss x lo) (B : IsLow n t ss x lo') : lo = lo' := by
  cases lo with
  | none =>
    cases lo' with
    | none => rfl
    | some l =>
      obtain ⟨p, s, e, h1, h2, h3, _⟩ := B.hit l rfl
      obtain ⟨l', h, _⟩ := A.all p s e h1 h2 h3
      cases h
  | some l =>
    obtain ⟨p, s, e, h1, h2, h3, h4⟩ := A.hit l rfl
    obtain ⟨l', e1, h5⟩ := B.all p s e h1 h2 h3
    subst e1
    obtain ⟨p', s', e', g1, g2, g3, g4⟩ := B.hit l' rfl
    obtain ⟨l'', e2, g5⟩ := A.all p' s' e' g1 g2 g3
    cases e2
    congr 1
    omega
theorem maxO_spec (ns : List Int) : (∀ m, maxO ns = some m → m ∈ ns) ∧ ∀ x ∈ ns, ∃ m, maxO ns = some m ∧ x ≤ m := by
  unfold maxO
  by_cases c : ns.length = 0
  · rw [if_pos c]
    refine ⟨fun m h => (nomatch h), fun x hx => ?_⟩
    rw [List.length_eq_zero_iff.mp c] at hx; cases hx
  · rw [if_neg c]
    obtain ⟨h1, h2⟩ := greatestAt_spec (ns := ns) (by omega)
    exact ⟨fun m h => by cases h; exact h1, fun x hx => ⟨_, rfl, h2 x hx⟩⟩
theorem minO_spec (ns : List Int) : (∀ m, minO ns = some m → m ∈ ns) ∧ ∀ x ∈ ns, ∃ m, minO ns = some m ∧ m ≤ x := by
  unfold minO
  by_cases c : ns.length = 0
  · rw [if_pos c]
    refine ⟨fun m h => (nomatch h), fun x hx => ?_⟩
    rw [List.length_eq_zero_iff.mp c] at hx; cases hx
  · rw [if_neg c]
    obtain ⟨h1, h2⟩ := leastAt_spec (ns := ns) (by omega)
    exact ⟨fun m h => by cases h; exact h1, fun x hx => ⟨_, rfl, h2 x hx⟩⟩
theorem ov_some (ts : List Int) : (ts.map some).map ov = ts.map V.int := by
  rw [List.map_map]; rfl
def sp_points_set (_ : PySem.W.Frag) : Sp := fun vs H Q _ => ∃ (r : Addr) (ss : List (Option Int)), vs = [.ref r] ∧ H r = some (.lst (ss.map ov)) ∧ ss.length ≤ 100 ∧ ∀ r' H' (zs : List Int), Same H H' → H' r' = some (.lst (zs.map V.int)) → zs.length ≤ ss.length → (∀ z, z ∈ zs ↔ inN z ss.length ∧ ∃ s, stt ss z = some s) → Q (.ref r') H'
/-! rooms told by their two ends, each by a def of its own -/
def sp_least_time (_ : PySem.W.Frag) : Sp := fun vs H Q _ => ∃ (p : Addr) (rs : List Addr) (t : Tab) (n : Nat) (r : Addr) (ss : List (Option Int)) (x : Int), vs = [.ref p, .ref r, .int x] ∧ TabAt H p rs t ∧ Square n t ∧ n ≤ 100 ∧ H r = some (.lst (ss.map ov)) ∧ ss.length = n ∧ inN x n ∧ ∀ lo H', Same H H' → IsLow n t ss x lo → Q (ov lo) H'
def sp_greatest_time (_ : PySem.W.Frag) : Sp := fun vs H Q _ => ∃ (p : Addr) (rs : List Addr) (t : Tab) (n : Nat) (r : Addr) (ss : List (Option Int)) (x : Int), vs = [.ref p, .ref r, .int x] ∧ TabAt H p rs t ∧ Square n t ∧ n ≤ 100 ∧ H r = some (.lst (ss.map ov)) ∧ ss.length = n ∧ inN x n ∧ ∀ hi H', Same H H' → IsHigh n t ss x hi → Q (ov hi) H'
def sp_points_open (_ : PySem.W.Frag) : Sp := fun vs H Q _ => ∃ (r : Addr) (ss : List (Option Int)), vs = [.ref r] ∧ H r = some (.lst (ss.map ov)) ∧ ss.length ≤ 100 ∧ ∀ r' H' (zs : List Int), Same H H' → H' r' = some (.lst (zs.map V.int)) → zs.length ≤ ss.length → (∀ z, z ∈ zs ↔ inN z ss.length ∧ stt ss z = none) → Q (.ref r') H'
/-! the laws' own checks of rooms and fillings -/
/-- the setting's times are the schedule's -/
def Holds (n : Nat) (ss : List (Option Int)) (ts : List Int) : Prop := ∀ p s, inN p n → stt ss p = some s → ts.getD p.toNat 0 = s
/-- ways that go on alike, but for one value -/
theorem restV {G : Prop} (C : V → Prop) {P : V → Prop} (h : (∀ v, C v → P v) → G) (r : ∀ v, C v → P v) : G := h r
/-- ways that go on alike, but for the heap and the names' values -/
theorem restJ {G : Prop} (C : Hp → L2.St → Prop) {P : Hp → L2.St → Prop} (h : (∀ H σ, C H σ → P H σ) → G) (r : ∀ H σ, C H σ → P H σ) : G := h r
/-! limits and courses: mathematics -/
/-- no time that is set asks an open point to be below z -/
def CanNow (n : Nat) (t : Tab) (ss : List (Option Int)) (z : Int) : Prop := ∀ p x s e, inN p n → inN x n → stt ss p = some s → stt ss x = none → ent t p x = some e → z ≤ s + e
/-- no open point is below z -/
def From (n : Nat) (ss : List (Option Int)) (z : Int) (ts : List Int) : Prop := ∀ x, inN x n → stt ss x = none → z ≤ ts.getD x.toNat 0
/-- hi is the limit -/
structure IsLim (n : Nat) (t : Tab) (ss : List (Option Int)) (hi : Option Int) : Prop where
  hit : ∀ h, hi = some h → ∃ p x s e, inN p n ∧ inN x n ∧ stt ss p = some s ∧ stt ss x = none ∧ ent t p x = some e ∧ h = s + e
  all : ∀ p x s e, inN p n → inN x n → stt ss p = some s → stt ss x = none → ent t p x = some e → ∃ h, hi = some h ∧ h ≤ s + e
theorem IsLim.uniq {n : Nat} {t : Tab} {ss : List (Option Int)} {hi hi' : Option Int} (A : IsLim n t ss hi) (B : IsLim n t ss hi') : hi = hi' := by
  cases hi with
  | none =>
    cases hi' with
    | none => rfl
    | some l =>
      obtain ⟨p, x, s, e, h1, h2, h3, h4, h5, _⟩ := B.hit l rfl
      obtain ⟨l', h, _⟩ := A.all p x s e h1 h2 h3 h4 h5
      cases h
  | some l =>
    obtain ⟨p, x, s, e, h1, h2, h3, h4, h5, h6⟩ := A.hit l rfl
    obtain ⟨l', e1, h7⟩ := B.all p x s e h1 h2 h3 h4 h5
    subst e1
    obtain ⟨p', x', s', e', g1, g2, g3, g4, g5, g6⟩ := B.hit l' rfl
    obtain ⟨l'', e2, g7⟩ := A.all p' x' s' e' g1 g2 g3 g4 g5
    cases e2
    congr 1
    omega
theorem IsLim.can {n : Nat} {t : Tab} {ss : List (Option Int)} {hi : Option Int} {z : Int} (A : IsLim n t ss hi) (h : ∀ l, hi = some l → z ≤ l) : CanNow n t ss z := fun p x s e h1 h2 h3 h4 h5 => by
  obtain ⟨l, e1, h6⟩ := A.all p x s e h1 h2 h3 h4 h5
  have := h l e1
  omega
/-- the open points stand as if set at z -/
def startsO (ss : List (Option Int)) (z : Int) : List (Option Int) := ss.map fun o => some (o.getD z)
theorem startsO_len (ss : List (Option Int)) (z : Int) : (startsO ss z).length = ss.length := List.length_map _
theorem stt_starts {ss : List (Option Int)} {n : Nat} (hl : ss.length = n) {z p : Int} (hp : inN p n) : stt (startsO ss z) p = some ((stt ss p).getD z) := by
  have h1 := hp.1
  have h2 := hp.2
  have h : p.toNat < ss.length := by omega
  unfold stt startsO
  rw [List.getD_eq_getElem?_getD, List.getElem?_map, List.getElem?_eq_getElem h, List.getD_eq_getElem?_getD, List.getElem?_eq_getElem h]
  rfl
theorem low_some {n : Nat} {bs : List Bd} {t : Tab} {ss : List (Option Int)} {x z : Int} {lo : Option Int} (R : Right n bs t) (hl : ss.length = n) (hx : inN x n) (L : IsLow n t (startsO ss z) x lo) : ∃ l, lo = some l := by
  obtain ⟨l, h, _⟩ := L.all x _ 0 hx (stt_starts hl hx) (R.self hx)
  exact ⟨l, h⟩
theorem course_ok {n : Nat} {bs : List Bd} {t : Tab} {ss : List (Option Int)} {ts : List Int} {z : Int} (R : Right n bs t) (G : Goes n t ss) (C : CanNow n t ss z) (hl : ss.length = n) (h : ∀ x, inN x n → IsLow n t (startsO ss z) x (some (ts.getD x.toNat 0))) : Lies n t ts ∧ Holds n ss ts ∧ From n ss z ts := by
  refine ⟨fun a b ha hb e he => ?_, fun p s hp hs => ?_, fun x hx hs => ?_⟩
  · obtain ⟨p, s, e', h1, h2, h3, h4⟩ := (h b hb).hit _ rfl
    obtain ⟨f, f1, f2⟩ := R.tri ha hb h1 he h3
    obtain ⟨l, l1, l2⟩ := (h a ha).all p s f h1 h2 f1
    cases l1
    unfold tm
    omega
  · obtain ⟨l, l1, l2⟩ := (h p hp).all p _ 0 hp (stt_starts hl hp) (R.self hp)
    cases l1
    rw [hs, Option.getD_some] at l2
    obtain ⟨q, s', e', h1, h2, h3, h4⟩ := (h p hp).hit _ rfl
    rw [stt_starts hl h1] at h2
    cases eq : stt ss q with
    | some s'' =>
      rw [eq] at h2
      cases h2
      have := G p q hp h1 s s'' e' hs eq h3
      simp only [Option.getD_some] at h4
      omega
    | none =>
      rw [eq] at h2
      cases h2
      have := C p q s e' hp h1 hs eq h3
      simp only [Option.getD_none] at h4
      omega
  · obtain ⟨l, l1, l2⟩ := (h x hx).all x _ 0 hx (stt_starts hl hx) (R.self hx)
    cases l1
    rw [hs, Option.getD_none] at l2
    omega
theorem snoc_get {α : Type} {l : List α} {y : α} {j : Nat} {o : α} (h : (l ++ [y])[j]? = some o) : l[j]? = some o ∨ (j = l.length ∧ o = y) := by
  by_cases c : j < l.length
  · rw [List.getElem?_append_left c] at h; exact .inl h
  · rw [List.getElem?_append_right (by omega)] at h
    have c2 : j - l.length < 1 := by
      have := (List.getElem?_eq_some_iff.mp h).1
      simpa using this
    have ej : j = l.length := by omega
    subst ej
    rw [Nat.sub_self] at h
    exact .inr ⟨rfl, (Option.some.inj h).symm⟩
theorem get_getD {zs : List Int} {i : Nat} {x : Int} (hi : i < zs.length) (h : zs.getD i 0 = x) : zs[i]? = some x := by
  rw [List.getElem?_eq_getElem hi, ← h, List.getD_eq_getElem?_getD, List.getElem?_eq_getElem hi]; rfl
/-- the highs of the open points, of which the least is the limit -/
theorem lim_of {n : Nat} {t : Tab} {ss : List (Option Int)} {zs : List Int} {os : List (Option Int)} {m : Option Int} (mz : ∀ z, z ∈ zs ↔ inN z n ∧ stt ss z = none) (lo : os.length = zs.length) (g : ∀ (j : Nat) (o : Option Int), os[j]? = some o → ∃ x, zs[j]? = some x ∧ IsHigh n t ss x o) (m1 : ∀ z, m = some z → some z ∈ os) (m2 : ∀ z, some z ∈ os → ∃ z', m = some z' ∧ z' ≤ z) : IsLim n t ss m where
  hit h e := by
    obtain ⟨j, hj⟩ := List.mem_iff_getElem?.mp (m1 h e)
    obtain ⟨x, hx, U⟩ := g j _ hj
    obtain ⟨p, s, e', p1, p2, p3, p4⟩ := U.hit h rfl
    obtain ⟨x1, x2⟩ := (mz x).mp (List.mem_of_getElem? hx)
    exact ⟨p, x, s, e', p1, x1, p2, x2, p3, p4⟩
  all p x s e hp hx hs hn he := by
    obtain ⟨j, hj⟩ := List.mem_iff_getElem?.mp ((mz x).mpr ⟨hx, hn⟩)
    have hl := (List.getElem?_eq_some_iff.mp hj).1
    have ho : os[j]? = some os[j] := List.getElem?_eq_getElem (by omega)
    obtain ⟨x', hx', U⟩ := g j _ ho
    rw [hj] at hx'; cases hx'
    obtain ⟨h, h1, h2⟩ := U.all p s e hp hs he
    rw [h1] at ho
    obtain ⟨z', z1, z2⟩ := m2 h (List.mem_of_getElem? ho)
    exact ⟨z', z1, by omega⟩
theorem ov_at {os : List (Option Int)} {i : Nat} {y : V} (hy : (os.map ov)[i]? = some y) : ∃ o, os[i]? = some o ∧ y = ov o := by
  rw [List.getElem?_map] at hy
  cases e : os[i]? with
  | none => rw [e] at hy; cases hy
  | some o => rw [e] at hy; exact ⟨o, rfl, (Option.some.inj hy).symm⟩
theorem ov_keep {os : List (Option Int)} {ms : List Int} {i : Nat} {o : Option Int} (ho : os[i]? = some o) (g2 : ∀ j z, j < i → os[j]? = some (some z) → z ∈ ms) : ∀ ms' : List Int, (∀ z ∈ ms, z ∈ ms') → (∀ z, o = some z → z ∈ ms') → ∀ j z, j < i + 1 → os[j]? = some (some z) → z ∈ ms' := fun ms' h1 h2 j z hj hz => by
  by_cases c : j < i
  · exact h1 z (g2 j z c hz)
  · have ej : j = i := by omega
    subst ej
    rw [ho] at hz
    exact h2 z (Option.some.inj hz)
def sp_limit (_ : PySem.W.Frag) : Sp := fun vs H Q _ => ∃ (p : Addr) (rs : List Addr) (t : Tab) (n : Nat) (r : Addr) (ss : List (Option Int)), vs = [.ref p, .ref r] ∧ TabAt H p rs t ∧ Square n t ∧ n ≤ 100 ∧ H r = some (.lst (ss.map ov)) ∧ ss.length = n ∧ ∀ hi H', Same H H' → IsLim n t ss hi → Q (ov hi) H'
def sp_course (_ : PySem.W.Frag) : Sp := fun vs H Q _ => ∃ (p : Addr) (rs : List Addr) (t : Tab) (n : Nat) (bs : List Bd) (r : Addr) (ss : List (Option Int)) (z : Int), vs = [.ref p, .ref r, .int z] ∧ TabAt H p rs t ∧ Right n bs t ∧ n ≤ 100 ∧ H r = some (.lst (ss.map ov)) ∧ ss.length = n ∧ ∀ (u : Addr) (ts : List Int) (H' : Hp), Same H H' → H u = none → H' u = some (.tup (ts.map V.int)) → ts.length = n → (∀ x, inN x n → IsLow n t (startsO ss z) x (some (ts.getD x.toNat 0))) → Q (.ref u) H'
/-! turns -/
def lowZ (z : Int) : Option Int → Int
  | none => z
  | some w => if w < z then z else w
/-- o is the turn of x -/
def IsTurn (n : Nat) (t : Tab) (ss : List (Option Int)) (z x : Int) : Option (Int × Option Int) → Prop
  | none => (∃ s, stt ss x = some s) ∨ (∃ y e, inN y n ∧ stt ss y = none ∧ ent t x y = some e ∧ e < 0) ∨ ∃ lw h, IsLow n t ss x lw ∧ IsLim n t ss (some h) ∧ h < lowZ z lw
  | some (l, hi) => stt ss x = none ∧ (∀ y e, inN y n → stt ss y = none → ent t x y = some e → 0 ≤ e) ∧ ∃ lw, IsLow n t ss x lw ∧ IsLim n t ss hi ∧ l = lowZ z lw ∧ ∀ h, hi = some h → l ≤ h
theorem turn_no {n : Nat} {t : Tab} {ss : List (Option Int)} {z x l : Int} {hi : Option Int} (A : IsTurn n t ss z x none) (B : IsTurn n t ss z x (some (l, hi))) : False := by
  obtain ⟨b1, b2, lw, L, M, b3, b4⟩ := B
  rcases A with ⟨s, h⟩ | ⟨y, e, h1, h2, h3, h4⟩ | ⟨lw', h, L', M', h1⟩
  · rw [b1] at h; cases h
  · have := b2 y e h1 h2 h3; omega
  · have e1 := L.uniq L'
    subst e1
    have e2 := M.uniq M'
    subst e2
    have := b4 h rfl
    omega
theorem IsTurn.uniq {n : Nat} {t : Tab} {ss : List (Option Int)} {z x : Int} {o o' : Option (Int × Option Int)} (A : IsTurn n t ss z x o) (B : IsTurn n t ss z x o') : o = o' := by
  rcases o with _ | ⟨l, hi⟩
  · rcases o' with _ | ⟨l', hi'⟩
    · rfl
    · exact (turn_no A B).elim
  · rcases o' with _ | ⟨l', hi'⟩
    · exact (turn_no B A).elim
    · obtain ⟨_, _, lw, L, M, e, _⟩ := A
      obtain ⟨_, _, lw', L', M', e', _⟩ := B
      have h1 := L.uniq L'
      subst h1
      have h2 := M.uniq M'
      rw [e, e', h2]
theorem lowZ_ge (z : Int) (lw : Option Int) : z ≤ lowZ z lw ∧ ∀ w, lw = some w → w ≤ lowZ z lw := by
  cases lw with
  | none => exact ⟨Int.le_refl _, fun w h => (nomatch h)⟩
  | some w =>
    unfold lowZ
    constructor
    · dsimp only; split <;> omega
    · intro w' h; cases h; dsimp only; split <;> omega
theorem lowZ_le {z v : Int} {lw : Option Int} (h1 : z ≤ v) (h2 : ∀ w, lw = some w → w ≤ v) : lowZ z lw ≤ v := by
  cases lw with
  | none => exact h1
  | some w =>
    have := h2 w rfl
    unfold lowZ; dsimp only; split <;> omega
def lowC (t : Tab) (ss : List (Option Int)) (x : Int) (i : Nat) : Option Int := match stt ss (i : Int), ent t x (i : Int) with
  | some s, some e => some (s - e)
  | _, _ => none
theorem lowC_some {t : Tab} {ss : List (Option Int)} {x : Int} {i : Nat} {l : Int} : lowC t ss x i = some l ↔ ∃ s e, stt ss (i : Int) = some s ∧ ent t x (i : Int) = some e ∧ l = s - e := by
  unfold lowC
  cases e1 : stt ss (i : Int) with
  | none => exact ⟨fun h => (nomatch h), fun ⟨s, e, h, _⟩ => (nomatch h)⟩
  | some s =>
    cases e2 : ent t x (i : Int) with
    | none => exact ⟨fun h => (nomatch h), fun ⟨s, e, _, h, _⟩ => (nomatch h)⟩
    | some e => exact ⟨fun h => ⟨s, e, rfl, rfl, (Option.some.inj h).symm⟩, fun ⟨s', e', h1, h2, h3⟩ => by cases h1; cases h2; rw [h3]⟩
theorem low_ex {n : Nat} {t : Tab} {ss : List (Option Int)} {x : Int} : ∃ lw, IsLow n t ss x lw := by
  refine ⟨maxO ((List.range n).filterMap (lowC t ss x)), fun l h => ?_, fun p s e hp hs he => ?_⟩
  · obtain ⟨i, hi, e⟩ := List.mem_filterMap.mp ((maxO_spec _).1 l h)
    obtain ⟨s, e', h1, h2, h3⟩ := lowC_some.mp e
    have := List.mem_range.mp hi
    exact ⟨(i : Int), s, e', ⟨by omega, by omega⟩, h1, h2, h3⟩
  · have h1 := hp.1
    have h2 := hp.2
    obtain ⟨k, rfl⟩ : ∃ k : Nat, p = (k : Int) := ⟨p.toNat, by omega⟩
    exact (maxO_spec _).2 _ (List.mem_filterMap.mpr ⟨k, List.mem_range.mpr (by omega), lowC_some.mpr ⟨s, e, hs, he, rfl⟩⟩)
/-- the soonest course has x as low as its turn -/
theorem low_turn {n : Nat} {bs : List Bd} {t : Tab} {ss : List (Option Int)} {z x c : Int} {lw : Option Int} (R : Right n bs t) (hl : ss.length = n) (hx : inN x n) (hno : stt ss x = none) (hf : ∀ y e, inN y n → stt ss y = none → ent t x y = some e → 0 ≤ e) (A : IsLow n t (startsO ss z) x (some c)) (L : IsLow n t ss x lw) : c = lowZ z lw := by
  have h1 : c ≤ lowZ z lw := by
    obtain ⟨p, s, e, p1, p2, p3, p4⟩ := A.hit c rfl
    rw [stt_starts hl p1] at p2
    obtain ⟨g1, g2⟩ := lowZ_ge z lw
    cases es : stt ss p with
    | some s' =>
      rw [es] at p2
      cases p2
      obtain ⟨l, l1, l2⟩ := L.all p s' e p1 es p3
      have := g2 l l1
      simp only [Option.getD_some] at p4
      omega
    | none =>
      rw [es] at p2
      cases p2
      have := hf p e p1 es p3
      simp only [Option.getD_none] at p4
      omega
  have h2 : lowZ z lw ≤ c := by
    refine lowZ_le ?_ fun w hw => ?_
    · obtain ⟨l, l1, l2⟩ := A.all x _ 0 hx (stt_starts hl hx) (R.self hx)
      cases l1
      rw [hno, Option.getD_none] at l2
      omega
    · obtain ⟨p, s, e, p1, p2, p3, p4⟩ := L.hit w hw
      obtain ⟨l, l1, l2⟩ := A.all p _ e p1 (stt_starts hl p1) p3
      cases l1
      rw [p2, Option.getD_some] at l2
      omega
  omega
/-- at each time of its turn a point may be set, and there is a course -/
theorem next_ok {n : Nat} {bs : List Bd} {t : Tab} {ss : List (Option Int)} {z x l τ : Int} {hi : Option Int} (R : Right n bs t) (G : Goes n t ss) (hl : ss.length = n) (hx : inN x n) (B : IsTurn n t ss z x (some (l, hi))) (h1 : l ≤ τ) (h2 : ∀ h, hi = some h → τ ≤ h) : Goes n t (ss.set x.toNat (some τ)) ∧ CanNow n t (ss.set x.toNat (some τ)) τ := by
  obtain ⟨b1, b2, lw, L, M, b3, b4⟩ := B
  have C : CanNow n t ss τ := M.can h2
  constructor
  · intro p q hp hq a b e ha hb he
    rw [stt_set hl hx hp.1] at ha
    rw [stt_set hl hx hq.1] at hb
    by_cases c1 : p = x
    · subst c1
      rw [if_pos rfl] at ha
      cases ha
      by_cases c2 : q = p
      · subst c2
        rw [if_pos rfl] at hb
        cases hb
        rw [R.self hx] at he
        cases he
        omega
      · rw [if_neg c2] at hb
        obtain ⟨w, w1, w2⟩ := L.all q b e hq hb he
        have := (lowZ_ge z lw).2 w w1
        omega
    · rw [if_neg c1] at ha
      by_cases c2 : q = x
      · subst c2
        rw [if_pos rfl] at hb
        cases hb
        have := C p q a e hp hq ha b1 he
        omega
      · rw [if_neg c2] at hb
        exact G p q hp hq a b e ha hb he
  · intro p y s e hp hy hs hn he
    rw [stt_set hl hx hp.1] at hs
    rw [stt_set hl hx hy.1] at hn
    by_cases c2 : y = x
    · rw [if_pos c2] at hn; cases hn
    · rw [if_neg c2] at hn
      by_cases c1 : p = x
      · rw [if_pos c1] at hs
        cases hs
        rw [c1] at he
        have := b2 y e hy hn he
        omega
      · rw [if_neg c1] at hs
        exact C p y s e hp hy hs hn he
/-- a turn as it is told -/
def TurnAt (H : Hp) (v : V) (o : Option (Int × Option Int)) : Prop := (v = .non ∧ o = none) ∨ ∃ u l hi, v = .ref u ∧ H u = some (.tup [.int l, ov hi]) ∧ o = some (l, hi)
theorem TurnAt.same {H H' : Hp} {v : V} {o : Option (Int × Option Int)} (s : Same H H') (h : TurnAt H v o) : TurnAt H' v o := by
  rcases h with h | ⟨u, l, hi, e1, e2, e3⟩
  · exact .inl h
  · exact .inr ⟨u, l, hi, e1, s _ _ e2, e3⟩
def sp_must_follow (_ : PySem.W.Frag) : Sp := fun vs H Q _ => ∃ (p : Addr) (rs : List Addr) (t : Tab) (n : Nat) (r : Addr) (ss : List (Option Int)) (x : Int), vs = [.ref p, .ref r, .int x] ∧ TabAt H p rs t ∧ Square n t ∧ n ≤ 100 ∧ H r = some (.lst (ss.map ov)) ∧ ss.length = n ∧ inN x n ∧ ∀ (b : Bool) H', Same H H' → (b = true ↔ ∃ y e, inN y n ∧ stt ss y = none ∧ ent t x y = some e ∧ e < 0) → Q (.bl b) H'
def sp_turn (_ : PySem.W.Frag) : Sp := fun vs H Q _ => ∃ (p : Addr) (rs : List Addr) (t : Tab) (n : Nat) (bs : List Bd) (r : Addr) (ss : List (Option Int)) (z x : Int), vs = [.ref p, .ref r, .int z, .int x] ∧ TabAt H p rs t ∧ Right n bs t ∧ n ≤ 100 ∧ H r = some (.lst (ss.map ov)) ∧ ss.length = n ∧ inN x n ∧ ∀ v o H', Same H H' → IsTurn n t ss z x o → TurnAt H' v o → Q v H'
theorem stt_rep (k : Nat) (p : Int) : stt (List.replicate k none) p = none := by
  unfold stt
  rw [List.getD_eq_getElem?_getD, List.getElem?_replicate]
  split <;> rfl
theorem rep_non (k : Nat) : List.replicate k V.non = (List.replicate k (none : Option Int)).map ov := by
  rw [List.map_replicate]; rfl
/-! the laws' own limits and courses -/
def sp_law_bounds (K : PySem.W.Frag) : Sp := fun vs H Q _ => ∃ (c t : Addr) (zs ns : List Int) (n : Int), vs = [.ref c, .int n, .ref t] ∧ SqL K H c (zs.map V.int) ∧ zs.length ≤ 63 ∧ SqT K H t (ns.map V.int) ∧ (ns.length : Int) = n ∧ 0 < ns.length ∧ ns.length ≤ 8 ∧
  ∀ (r : Addr) (H' : Hp) (qs : List V) (bs : List Bd), H r = none → Same H H' → H' r = some (.lst qs) → AreB H' qs bs → bs.length = zs.length → Within ns.length bs → (∀ m ∈ bs, bKept ns m = true) → Q (.ref r) H'
def sp_law_least (_ : PySem.W.Frag) : Sp := fun vs H Q _ => ∃ (r : Addr) (os : List (Option Int)), vs = [.ref r] ∧ H r = some (.lst (os.map ov)) ∧ os.length ≤ 100 ∧ ∀ m H', Same H H' → (∀ z, m = some z → some z ∈ os) → (∀ z, some z ∈ os → ∃ z', m = some z' ∧ z' ≤ z) → Q (ov m) H'
def sp_law_high (_ : PySem.W.Frag) : Sp := fun vs H Q _ => ∃ (p : Addr) (rs : List Addr) (t : Tab) (n : Nat) (r : Addr) (ss : List (Option Int)) (x : Int), vs = [.ref p, .ref r, .int x] ∧ TabAt H p rs t ∧ Square n t ∧ n ≤ 100 ∧ H r = some (.lst (ss.map ov)) ∧ ss.length = n ∧ inN x n ∧ ∀ hi H', Same H H' → (stt ss x = none → IsHigh n t ss x hi) → (∀ s, stt ss x = some s → hi = some s) → Q (ov hi) H'
def sp_law_limit (_ : PySem.W.Frag) : Sp := fun vs H Q _ => ∃ (p : Addr) (rs : List Addr) (t : Tab) (n : Nat) (r : Addr) (ss : List (Option Int)), vs = [.ref p, .ref r] ∧ TabAt H p rs t ∧ Square n t ∧ n ≤ 100 ∧ H r = some (.lst (ss.map ov)) ∧ ss.length = n ∧ ∀ hi H', Same H H' → IsLim n t ss hi → Q (ov hi) H'
def sp_law_number_like (_ : PySem.W.Frag) : Sp := fun vs H Q _ => ∃ o : Option Int, vs = [ov o, ov o] ∧ Q (.bl true) H
def sp_law_course_good (_ : PySem.W.Frag) : Sp := fun vs H Q _ => ∃ (u rb r : Addr) (ts : List Int) (ss : List (Option Int)) (qs : List V) (bs : List Bd) (n : Nat) (z : Int), vs = [.ref u, .ref rb, .ref r, .int z] ∧ H u = some (.tup (ts.map V.int)) ∧ H rb = some (.lst qs) ∧ AreB H qs bs ∧ H r = some (.lst (ss.map ov)) ∧ ts.length = n ∧ ss.length = n ∧ n ≤ 100 ∧ Within n bs ∧ (∀ m ∈ bs, bKept ts m = true) ∧ Holds n ss ts ∧ From n ss z ts ∧ Q (.bl true) H
def sp_law_low (_ : PySem.W.Frag) : Sp := fun vs H Q _ => ∃ (p : Addr) (rs : List Addr) (t : Tab) (n : Nat) (r : Addr) (ss : List (Option Int)) (x : Int), vs = [.ref p, .ref r, .int x] ∧ TabAt H p rs t ∧ Square n t ∧ n ≤ 100 ∧ H r = some (.lst (ss.map ov)) ∧ ss.length = n ∧ inN x n ∧ stt ss x = none ∧ ∀ lw H', Same H H' → IsLow n t ss x lw → Q (ov lw) H'
def sp_law_turn (_ : PySem.W.Frag) : Sp := fun vs H Q _ => ∃ (p : Addr) (rs : List Addr) (t : Tab) (n : Nat) (r : Addr) (ss : List (Option Int)) (z x : Int), vs = [.ref p, .ref r, .int z, .int x] ∧ TabAt H p rs t ∧ Square n t ∧ n ≤ 100 ∧ H r = some (.lst (ss.map ov)) ∧ ss.length = n ∧ inN x n ∧ ∀ v o H', Same H H' → IsTurn n t ss z x o → TurnAt H' v o → Q v H'
def sp_law_turn_like (_ : PySem.W.Frag) : Sp := fun vs H Q _ => ∃ (v w : V) (o : Option (Int × Option Int)), vs = [v, w] ∧ TurnAt H v o ∧ TurnAt H w o ∧ Q (.bl true) H
def sp_lies_between (_ : PySem.W.Frag) : Sp := fun vs H Q _ => ∃ (s : Int) (low high : Option Int), vs = [.int s, ov low, ov high] ∧ Q (.bl (kept s low high)) H
/-- all but what stands at x is as it was -/
def But (x : Addr) (H H' : Hp) : Prop := ∀ b o, H b = some o → b ≠ x → H' b = some o
theorem But.tab {x : Addr} {H H' : Hp} {p : Addr} {rs : List Addr} {t : Tab} (h : But x H H') (T : TabAt H p rs t) (hp : p ≠ x) (hr : ∀ r ∈ rs, r ≠ x) : TabAt H' p rs t := by
  refine ⟨h _ _ T.ob hp, ?_⟩
  have rows := T.rows
  have go : ∀ {rs : List Addr} {t : Tab}, RowsAt H rs t → (∀ r ∈ rs, r ≠ x) → RowsAt H' rs t := by
    intro rs t w
    induction w with
    | nil => exact fun _ => .nil
    | cons e _ ih => exact fun hr => .cons (h _ _ e (hr _ (List.mem_cons_self ..))) (ih fun r hm => hr r (List.mem_cons_of_mem _ hm))
  exact go rows hr
theorem But.areB {x : Addr} {H H' : Hp} {qs : List V} {bs : List Bd} {xs : List V} (h : But x H H') (hx : H x = some (.lst xs)) (a : AreB H qs bs) : AreB H' qs bs :=
  Paired.mapP a fun _ _ ⟨p, e, q⟩ => ⟨p, e, h _ _ q (ne_of q hx (fun z => by cases z))⟩
theorem But.trans {x : Addr} {H H' H'' : Hp} (h : But x H H') (g : But x H' H'') : But x H H'' := fun b o e n => g b o (h b o e n) n
/-! clocks: objects in the heap -/
theorem kept_iff {z : Int} {lo hi : Option Int} : kept z lo hi = true ↔ InRoom lo hi z := by
  unfold kept InRoom
  rw [Bool.and_eq_true]
  refine and_congr ?_ ?_
  · cases lo with
    | none => exact ⟨fun _ l h => (nomatch h), fun _ => rfl⟩
    | some l => exact ⟨fun h y e => by cases e; exact of_decide_eq_true h, fun h => decide_eq_true (h l rfl)⟩
  · cases hi with
    | none => exact ⟨fun _ l h => (nomatch h), fun _ => rfl⟩
    | some l => exact ⟨fun h y e => by cases e; exact of_decide_eq_true h, fun h => decide_eq_true (h l rfl)⟩
theorem f_rt : ¬ (("rows" : Str) = "times") := by decide +kernel
theorem f_rp : ¬ (("rows" : Str) = "present") := by decide +kernel
theorem f_tp : ¬ (("times" : Str) = "present") := by decide +kernel
theorem putF_twice (f : Str) (v w : V) : ∀ fs : List (Str × V), putF f w (putF f v fs) = putF f w fs
  | [] => by
    show (if f = f then [(f, w)] else _) = _
    rw [if_pos rfl]; rfl
  | (g, x) :: r => by
    show putF f w (if g = f then (g, v) :: r else (g, x) :: putF f v r) = (if g = f then (g, w) :: r else (g, x) :: putF f w r)
    by_cases h : g = f
    · rw [if_pos h, if_pos h]
      show (if g = f then (g, w) :: r else _) = _
      rw [if_pos h]
    · rw [if_neg h, if_neg h]
      show (if g = f then _ else (g, x) :: putF f w (putF f v r)) = _
      rw [if_neg h, putF_twice f v w r]
def fldc (pr pt : Addr) (z : Int) : List (Str × V) := putF "present" (.int z) (putF "times" (.ref pt) (putF "rows" (.ref pr) []))
theorem fldc_put (pr pt : Addr) (z w : Int) : putF "present" (.int w) (fldc pr pt z) = fldc pr pt w := putF_twice _ _ _ _
theorem fldc_rows (pr pt : Addr) (z : Int) : (fldc pr pt z).lookup ("rows" : Str) = some (.ref pr) := by
  unfold fldc
  rw [lookup_putF, if_neg f_rp, lookup_putF, if_neg f_rt, lookup_putF, if_pos rfl]
theorem fldc_times (pr pt : Addr) (z : Int) : (fldc pr pt z).lookup ("times" : Str) = some (.ref pt) := by
  unfold fldc
  rw [lookup_putF, if_neg f_tp, lookup_putF, if_pos rfl]
theorem fldc_present (pr pt : Addr) (z : Int) : (fldc pr pt z).lookup ("present" : Str) = some (.int z) := by
  unfold fldc
  rw [lookup_putF, if_pos rfl]
theorem fldc_no (pr pt : Addr) (z : Int) {m : Str} (h0 : ¬ m = "present") (h1 : ¬ m = "times") (h2 : ¬ m = "rows") : (fldc pr pt z).lookup m = none := by
  unfold fldc
  rw [lookup_putF, if_neg h0, lookup_putF, if_neg h1, lookup_putF, if_neg h2]
  all_goals rfl
theorem TabAt.neIns {H : Hp} {p x C dx : Addr} {rs : List Addr} {t : Tab} {fs : List (Str × V)} (T : TabAt H p rs t) (hx : H x = some (.ins C dx fs)) : p ≠ x ∧ ∀ r ∈ rs, r ≠ x := by
  refine ⟨ne_of T.ob hx (fun z => by cases z), fun r hr => ?_⟩
  obtain ⟨k, hk⟩ := List.mem_iff_getElem?.mp hr
  obtain ⟨_, _, q⟩ := paired_get T.rows hk
  exact ne_of q hx (fun z => by cases z)
/-- all but what stands at two addresses is as it was -/
def But2 (x y : Addr) (H H' : Hp) : Prop := ∀ b o, H b = some o → b ≠ x → b ≠ y → H' b = some o
structure ClockAt (C : Addr) (H : Hp) (x pr pt : Addr) (rr : List Addr) (n : Nat) (t : Tab) (ss : List (Option Int)) (z : Int) : Prop where
  ob : ∃ dx, H x = some (.ins C dx (fldc pr pt z))
  tb : TabAt H pr rr t
  tm : H pt = some (.lst (ss.map ov))
  len : ss.length = n
  np : pr ≠ pt
  nr : ∀ r ∈ rr, r ≠ pt
theorem ClockAt.same {C : Addr} {H H' : Hp} {x pr pt : Addr} {rr : List Addr} {n : Nat} {t : Tab} {ss : List (Option Int)} {z : Int} (s : Same H H') (W : ClockAt C H x pr pt rr n t ss z) : ClockAt C H' x pr pt rr n t ss z := by
  obtain ⟨dx, h⟩ := W.ob
  exact ⟨⟨dx, s _ _ h⟩, W.tb.same s, s _ _ W.tm, W.len, W.np, W.nr⟩
theorem ClockAt.other {C : Addr} {H H' : Hp} {x pr pt q : Addr} {rr : List Addr} {n : Nat} {t : Tab} {ss : List (Option Int)} {z : Int} {xs : List V} (W : ClockAt C H x pr pt rr n t ss z) (h : But q H H') (hq : H q = some (.lst xs)) (n1 : pr ≠ q) (n2 : pt ≠ q) (n3 : ∀ r ∈ rr, r ≠ q) : ClockAt C H' x pr pt rr n t ss z := by
  obtain ⟨dx, g⟩ := W.ob
  exact ⟨⟨dx, h _ _ g (Ne.symm (ne_of hq g (fun z => by cases z)))⟩, h.tab W.tb n1 n3, h _ _ W.tm n2, W.len, W.np, W.nr⟩
/-- w lies in the turn -/
def InTurn (o : Option (Int × Option Int)) (w : Int) : Prop := ∃ l hi, o = some (l, hi) ∧ InRoom (some l) hi w
def sp_Clock___init__ (_ : PySem.W.Frag) (cl : Cl) : Sp := fun vs H Q _ => ∃ (x dx p : Addr) (rs : List Addr) (t : Tab) (n : Nat) (z : Int), vs = [.ref x, .ref p, .int z] ∧ H x = some (.ins cl.Clock dx []) ∧ TabAt H p rs t ∧ Square n t ∧ n ≤ 100 ∧
  ∀ pr rr pt H', ClockAt cl.Clock H' x pr pt rr n t (List.replicate n none) z → But x H H' → H pr = none → H pt = none → (∀ r ∈ rr, H r = none) → Q .non H'
def sp_Clock_now (_ : PySem.W.Frag) (cl : Cl) : Sp := fun vs H Q _ => ∃ (x pr pt : Addr) (rr : List Addr) (n : Nat) (t : Tab) (ss : List (Option Int)) (z : Int), vs = [.ref x] ∧ ClockAt cl.Clock H x pr pt rr n t ss z ∧ Q (.int z) H
def sp_Clock_setting (_ : PySem.W.Frag) (cl : Cl) : Sp := fun vs H Q _ => ∃ (x pr pt : Addr) (rr : List Addr) (n : Nat) (t : Tab) (ss : List (Option Int)) (z : Int), vs = [.ref x] ∧ ClockAt cl.Clock H x pr pt rr n t ss z ∧ ∀ r H', Same H H' → H r = none → H' r = some (.lst (ss.map ov)) → Q (.ref r) H'
def sp_Clock_limit (_ : PySem.W.Frag) (cl : Cl) : Sp := fun vs H Q _ => ∃ (x pr pt : Addr) (rr : List Addr) (n : Nat) (t : Tab) (ss : List (Option Int)) (z : Int), vs = [.ref x] ∧ ClockAt cl.Clock H x pr pt rr n t ss z ∧ Square n t ∧ n ≤ 100 ∧ ∀ hi H', Same H H' → IsLim n t ss hi → Q (ov hi) H'
def sp_Clock_turn (_ : PySem.W.Frag) (cl : Cl) : Sp := fun vs H Q _ => ∃ (x pr pt : Addr) (rr : List Addr) (n : Nat) (t : Tab) (bs : List Bd) (ss : List (Option Int)) (z y : Int), vs = [.ref x, .int y] ∧ ClockAt cl.Clock H x pr pt rr n t ss z ∧ Right n bs t ∧ n ≤ 100 ∧ inN y n ∧ ∀ v o H', Same H H' → IsTurn n t ss z y o → TurnAt H' v o → Q v H'
def sp_Clock_course (_ : PySem.W.Frag) (cl : Cl) : Sp := fun vs H Q _ => ∃ (x pr pt : Addr) (rr : List Addr) (n : Nat) (t : Tab) (bs : List Bd) (ss : List (Option Int)) (z : Int), vs = [.ref x] ∧ ClockAt cl.Clock H x pr pt rr n t ss z ∧ Right n bs t ∧ n ≤ 100 ∧ ∀ (u : Addr) (ts : List Int) (H' : Hp), Same H H' → H u = none → H' u = some (.tup (ts.map V.int)) → ts.length = n → (∀ y, inN y n → IsLow n t (startsO ss z) y (some (ts.getD y.toNat 0))) → Q (.ref u) H'
def sp_Clock_wait (_ : PySem.W.Frag) (cl : Cl) : Sp := fun vs H Q E => ∃ (x pr pt : Addr) (rr : List Addr) (n : Nat) (t : Tab) (ss : List (Option Int)) (z w : Int), vs = [.ref x, .int w] ∧ ClockAt cl.Clock H x pr pt rr n t ss z ∧ Square n t ∧ n ≤ 100 ∧
  ∀ hi, IsLim n t ss hi → (InRoom (some z) hi w → ∀ H', ClockAt cl.Clock H' x pr pt rr n t ss w → But2 x pt H H' → Q .non H') ∧ (¬ InRoom (some z) hi w → ∀ H', Same H H' → E (.ref cl.NoTime) none H')
def sp_Clock_mark (_ : PySem.W.Frag) (cl : Cl) : Sp := fun vs H Q E => ∃ (x pr pt : Addr) (rr : List Addr) (n : Nat) (t : Tab) (bs : List Bd) (ss : List (Option Int)) (z y w : Int), vs = [.ref x, .int y, .int w] ∧ ClockAt cl.Clock H x pr pt rr n t ss z ∧ Right n bs t ∧ n ≤ 8 ∧ inN y n ∧
  ∀ o, IsTurn n t ss z y o → (InTurn o w → ∀ H', ClockAt cl.Clock H' x pr pt rr n t (ss.set y.toNat (some w)) w → But2 x pt H H' → Q .non H') ∧ (¬ InTurn o w → ∀ H', Same H H' → E (.ref cl.NoTime) none H')
/-- a table or none, told by table_of: all its lists are new -/
def IsTN (H H' : Hp) (v : V) (n : Nat) (bs : List Bd) : Prop := (v = .non ∧ NegR bs) ∨ ∃ p rs t, v = .ref p ∧ NewT H H' p rs t ∧ Right n bs t
theorem NewT.since {H H1 H2 : Hp} {p : Addr} {rs : List Addr} {t : Tab} (s : Same H H1) (N : NewT H1 H2 p rs t) : NewT H H2 p rs t := ⟨none_of s N.p0, fun r hr => none_of s (N.r0 r hr), N.nd, s.trans N.sm, N.tb⟩
def sp_table_of (K : PySem.W.Frag) : Sp := fun vs H Q _ => ∃ (n : Nat) (r : Addr) (qs : List V) (bs : List Bd), vs = [.int n, .ref r] ∧ SqL K H r qs ∧ AreB H qs bs ∧ 1 ≤ n ∧ n ≤ 8 ∧ Within n bs ∧ bs.length ≤ 150 ∧ ∀ v H', Same H H' → IsTN H H' v n bs → Q v H'
/-! the clock -/
def sp_law_near (_ : PySem.W.Frag) : Sp := fun vs H Q _ => ∃ (c p : Int) (re : Addr) (os : List (Option Int)), vs = [.int c, .ref re, .int p] ∧ H re = some (.lst (os.map ov)) ∧ os.length ≤ 10 ∧ ∀ z H', Same H H' → Q (.int z) H'
def sp_law_refusal (_ : PySem.W.Frag) (cl : Cl) : Sp := fun vs H Q _ => ∃ (x pr pt : Addr) (rr : List Addr) (n : Nat) (t : Tab) (bs : List Bd) (ss : List (Option Int)) (z w : Int) (v : V), vs = [.ref x, v, .int w] ∧ ClockAt cl.Clock H x pr pt rr n t ss z ∧ Right n bs t ∧ n ≤ 8 ∧
  ((v = .non ∧ ∀ hi, IsLim n t ss hi → (InRoom (some z) hi w → ∀ H', ClockAt cl.Clock H' x pr pt rr n t ss w → But2 x pt H H' → Q .non H') ∧ (¬ InRoom (some z) hi w → ∀ e H', Same H H' → H' e = some (ExcO e (.ref cl.NoTime)) → Q (.ref e) H')) ∨
   ∃ y, v = .int y ∧ inN y n ∧ ∀ o, IsTurn n t ss z y o → (InTurn o w → ∀ H', ClockAt cl.Clock H' x pr pt rr n t (ss.set y.toNat (some w)) w → But2 x pt H H' → Q .non H') ∧ (¬ InTurn o w → ∀ e H', Same H H' → H' e = some (ExcO e (.ref cl.NoTime)) → Q (.ref e) H'))
def sp_law_only_time (_ : PySem.W.Frag) (cl : Cl) : Sp := fun vs H Q _ => ∃ e : Addr, vs = [.ref e] ∧ H e = some (ExcO e (.ref cl.NoTime)) ∧ Q (.bl true) H
/-- a clock, and the law's own word of it -/
structure CS (cl : Cl) (H : Hp) (x pr pt : Addr) (rr : List Addr) (n : Nat) (t : Tab) (ss : List (Option Int)) (z : Int) (st r : Addr) : Prop where
  W : ClockAt cl.Clock H x pr pt rr n t ss z
  hs : H st = some (.lst [.int z, .ref r])
  hr : H r = some (.lst (ss.map ov))
  G : Goes n t ss
  C : CanNow n t ss z
theorem CS.same {cl : Cl} {H H' : Hp} {x pr pt : Addr} {rr : List Addr} {n : Nat} {t : Tab} {ss : List (Option Int)} {z : Int} {st r : Addr} (s : Same H H') (S : CS cl H x pr pt rr n t ss z st r) : CS cl H' x pr pt rr n t ss z st r := ⟨S.W.same s, s _ _ S.hs, s _ _ S.hr, S.G, S.C⟩
def But4 (x pt st r : Addr) (H H' : Hp) : Prop := ∀ b o, H b = some o → b ≠ x → b ≠ pt → b ≠ st → b ≠ r → H' b = some o
def sp_law_shown (_ : PySem.W.Frag) (cl : Cl) : Sp := fun vs H Q _ => ∃ (x pr pt p rb st r : Addr) (rr rs : List Addr) (n : Nat) (t : Tab) (qs : List V) (bs : List Bd) (ss : List (Option Int)) (z : Int), vs = [.ref x, .ref p, .ref rb, .ref st] ∧ CS cl H x pr pt rr n t ss z st r ∧ TabAt H p rs t ∧ Right n bs t ∧ Within n bs ∧ 1 ≤ n ∧ n ≤ 8 ∧
  H rb = some (.lst qs) ∧ AreB H qs bs ∧ ∀ H', Same H H' → Q (.bl true) H'
def sp_law_deed (_ : PySem.W.Frag) (cl : Cl) : Sp := fun vs H Q _ => ∃ (x pr pt p st r tt : Addr) (rr rs : List Addr) (n : Nat) (t : Tab) (bs : List Bd) (ss : List (Option Int)) (z c : Int) (ts : List Int), vs = [.ref x, .ref p, .ref st, .int c, .ref tt] ∧ CS cl H x pr pt rr n t ss z st r ∧ TabAt H p rs t ∧ Right n bs t ∧ 1 ≤ n ∧ n ≤ 8 ∧
  H tt = some (.tup (ts.map V.int)) ∧ ts.length = n ∧ st ≠ pt ∧ r ≠ pt ∧ st ≠ r ∧ pr ≠ st ∧ pr ≠ r ∧ (∀ a ∈ rr, a ≠ st ∧ a ≠ r) ∧ ∀ ss' z' H', CS cl H' x pr pt rr n t ss' z' st r → But4 x pt st r H H' → Q (.bl true) H'
def Live (H : Hp) (L : List Addr) : Prop := ∀ a ∈ L, ∃ o, H a = some o
theorem Live.same {H H' : Hp} {L : List Addr} (h : Live H L) (s : Same H H') : Live H' L := fun a ha => by
  obtain ⟨o, e⟩ := h a ha
  exact ⟨o, s _ _ e⟩
theorem Live.ne {H : Hp} {L : List Addr} {a b : Addr} (h : Live H L) (n : H b = none) (ha : a ∈ L) : a ≠ b := by
  obtain ⟨o, e⟩ := h a ha
  exact ne_of_none e n
theorem Live.upd {H : Hp} {L : List Addr} {b : Addr} {o : HO} (h : Live H L) : Live (upd H b o) (b :: L) := fun a ha => by
  by_cases c : a = b
  · subst c; exact ⟨o, upd_same⟩
  · rw [upd_ne c]
    rcases List.mem_cons.mp ha with e | e
    · exact absurd e c
    · exact h a e
theorem Live.app {H : Hp} {L M : List Addr} (h : Live H L) (g : Live H M) : Live H (L ++ M) := fun a ha => (List.mem_append.mp ha).elim (h a) (g a)
theorem TabAt.live {H : Hp} {p : Addr} {rs : List Addr} {t : Tab} (T : TabAt H p rs t) : Live H (p :: rs) := fun a ha => by
  rcases List.mem_cons.mp ha with e | e
  · subst e; exact ⟨_, T.ob⟩
  · obtain ⟨k, hk⟩ := List.mem_iff_getElem?.mp e
    obtain ⟨_, _, g⟩ := paired_get T.rows hk
    exact ⟨_, g⟩
theorem ClockAt.live {C : Addr} {H : Hp} {x pr pt : Addr} {rr : List Addr} {n : Nat} {t : Tab} {ss : List (Option Int)} {z : Int} (W : ClockAt C H x pr pt rr n t ss z) : Live H (x :: pt :: pr :: rr) := fun a ha => by
  rcases List.mem_cons.mp ha with e | e
  · subst e; obtain ⟨dx, h⟩ := W.ob; exact ⟨_, h⟩
  · rcases List.mem_cons.mp e with e | e
    · subst e; exact ⟨_, W.tm⟩
    · exact W.tb.live a e
/-- what is changed by a deed at one clock does not reach the other -/
theorem CS.but4 {cl : Cl} {H H' : Hp} {x pr pt : Addr} {rr : List Addr} {n : Nat} {t : Tab} {ss : List (Option Int)} {z : Int} {st r x' pt' st' r' : Addr} (S : CS cl H x pr pt rr n t ss z st r) (b : But4 x' pt' st' r' H H')
    (h : ∀ a ∈ x :: pt :: pr :: rr ++ [st, r], a ≠ x' ∧ a ≠ pt' ∧ a ≠ st' ∧ a ≠ r') : CS cl H' x pr pt rr n t ss z st r := by
  have k : ∀ a o, H a = some o → a ∈ x :: pt :: pr :: rr ++ [st, r] → H' a = some o := fun a o e m => by
    obtain ⟨h1, h2, h3, h4⟩ := h a m
    exact b a o e h1 h2 h3 h4
  obtain ⟨dx, hx⟩ := S.W.ob
  refine ⟨⟨⟨dx, k _ _ hx (by simp)⟩, ⟨k _ _ S.W.tb.ob (by simp), ?_⟩, k _ _ S.W.tm (by simp), S.W.len, S.W.np, S.W.nr⟩, k _ _ S.hs (by simp), k _ _ S.hr (by simp), S.G, S.C⟩
  have rows := S.W.tb.rows
  have go : ∀ {qs : List Addr} {u : Tab}, RowsAt H qs u → (∀ a ∈ qs, a ∈ rr) → RowsAt H' qs u := by
    intro qs u w
    induction w with
    | nil => exact fun _ => .nil
    | cons e _ ih => exact fun hr => .cons (k _ _ e (by have := hr _ (List.mem_cons_self ..); simp [this])) (ih fun a hm => hr a (List.mem_cons_of_mem _ hm))
  exact go rows fun a h => h
theorem goes_rep (n : Nat) (t : Tab) : Goes n t (List.replicate n none) := fun p q _ _ x y e hx => by
  rw [stt_rep] at hx; cases hx
theorem can_rep (n : Nat) (t : Tab) (z : Int) : CanNow n t (List.replicate n none) z := fun p x s e _ _ hs => by
  rw [stt_rep] at hs; cases hs
theorem made_same {H : Hp} {x d C : Addr} (nx : H x = none) (nd : H d = none) (ne : d ≠ x) : Same H (upd (upd H d (.own x)) x (.ins C d [])) := (same_new nd _).trans (same_new (by rw [upd_ne (Ne.symm ne)]; exact nx) _)
theorem opt_no {α : Type} : ∀ o : Option α, o = none ∨ ∃ x, o = some x
  | none => .inl rfl
  | some x => .inr ⟨x, rfl⟩
theorem dec_true {c : Prop} [Decidable c] {Q : VK} {H : Hp} (hc : c) (q : Q (.bl true) H) : Q (.bl (decide c)) H := by
  rw [decide_eq_true hc]
  exact q
section
variable {P : Program} {w : World} {K : PySem.W.Frag} {mg : Str → Option Value} {base : Heap} {cl : Cl}
seal L2.PSs L2.PS L2.PE L2.PA L2.PT L2.PI L2.PG L2.PGs L2.PTs L2.PW L2.PC L2.PO
theorem sc_lies_between : FnScope ["time", "low", "high"] ["time", "low", "high"] (defScope s_lies_between) := ⟨rfl, rfl, rfl, by decide +kernel, rfl, by decide +kernel, by decide +kernel⟩
theorem ok_lies_between {f : Addr} {fd : FuncData} (F : Fun K "lies_between" "lies_between" s_lies_between f fd) (T : Txt K mg cl)  : FnOk P w K mg base CX0 1 f fd ["time", "low", "high"] (sp_lies_between K) := by
  refine F.ok sc_lies_between (fun vs H Q E h => ?_) (fun cdv A outer s H vs Q E hr h => ?_)
  · obtain ⟨s, low, high, rfl, q⟩ := h
    rfl
  · obtain ⟨s, low, high, rfl, q⟩ := h
    refine ⟨_, (pss_one (ps_ret (pe_and (pe_or (pe_cmpR op_isN (pv 1) pe_non (nomark _)) (pe_one (pe_cmpR op_le (pv 1) (pv 0) (nomark _)))) (pe_one (pe_or (pe_cmpR op_isN (pv 2) pe_non (nomark _)) (pe_one (pe_cmpR op_le (pv 0) (pv 2) (nomark _)))))))), ?_⟩
    have q2 : ∀ (k : Bool), k = okHigh s high → okLow s low = true → Q (.bl k) H := fun k e1 e2 => by
      have e : kept s low high = k := by unfold kept; rw [e2, e1, Bool.true_and]
      rw [← e]; exact q
    have q0 : okLow s low = false → Q (.bl false) H := fun e2 => by
      have e : kept s low high = false := by unfold kept; rw [e2, Bool.false_and]
      rw [← e]; exact q
    have hi : ∀ (e2 : okLow s low = true), tOrV (tOp (fun x y H Q => y = .non ∧ Q (.bl (decide (x = .non))) H) (tVar 2) (tC .non)) (tOp (rI0 fun i j => .bl (decide (i ≤ j))) (tVar 0) (tVar 2)) [some (.int s), some (ov low), some (ov high)] H Q := fun e2 => by
      refine ⟨_, rfl, rfl, _, rfl, ?_⟩
      cases high with
      | none => exact iteT (q2 true rfl e2)
      | some h => exact iteF ⟨_, rfl, _, rfl, _, _, rfl, rfl, q2 _ rfl e2⟩
    refine ⟨_, rfl, rfl, _, rfl, ?_⟩
    cases low with
    | none => exact iteT ⟨_, rfl, iteT (hi rfl)⟩
    | some l =>
      refine iteF ⟨_, rfl, _, rfl, _, _, rfl, rfl, _, rfl, ?_⟩
      cases e : decide (l ≤ s) with
      | true => exact iteT (hi e)
      | false => exact iteF (q0 e)
theorem sc_points_set : FnScope ["setting"] ["setting"] (defScope s_points_set) := ⟨rfl, rfl, rfl, by decide +kernel, rfl, by decide +kernel, by decide +kernel⟩
theorem ok_points_set {f : Addr} {fd : FuncData} (F : Fun K "points_set" "points_set" s_points_set f fd) (T : Txt K mg cl)  : FnOk P w K mg base CX0 1 f fd ["setting"] (sp_points_set K) := by
  refine F.ok sc_points_set (fun vs H Q E h => ?_) (fun cdv A outer s H vs Q E hr h => ?_)
  · obtain ⟨r, ss, rfl, hrr, hn, q⟩ := h
    rfl
  · obtain ⟨r, ss, rfl, hrr, hn, q⟩ := h
    refine ⟨_, (pss_one (ps_ret (pe_compS ["setting"] [0] rfl (pi_range1 rfl T.z_range (pa_cons (pe_callB call_len_seq rfl T.z_len PySem.boot_len (pa_cons (pv 0) pa_nil)) pa_nil)) (fun _ _ _ => pts_one (pt_cmpR op_notN (pe_ix (ix_listK (K := K) rfl) (pv 1) (pv 0) (fun _ _ => rfl)) pe_non (nomark _))) (fun _ _ _ => (pv 0)) (hk := by kernel_rfl)))), ?_⟩
    refine ⟨_, rfl, r, _, rfl, .inl (SqL.of hrr), ((ss.length : Nat) : Int), by rw [List.length_map], by omega, by omega, comp_rangeF (lo := 0) (n := ((ss.length : Nat) : Int).toNat) (fun i acc H1 => H1 = H ∧ ∃ zs : List Int, acc = zs.map V.int ∧ zs.length ≤ i ∧ ∀ z, z ∈ zs ↔ (0 ≤ z ∧ z < i) ∧ ∃ s, stt ss z = some s) (small (by omega)) ⟨rfl, [], rfl, Nat.le_refl _, fun z => ⟨fun h => (nomatch h), fun h => by have := h.1; omega⟩⟩ (fun i acc H1 ⟨_, zs, e, h, _⟩ => by rw [e, List.length_map]; exact h) ?_ ?_⟩
    · rintro i acc H1 hi ⟨rfl, zs, rfl, hz, g⟩ R Z kR kZ
      have ei : (0 + (i : Int)) = (i : Int) := Int.zero_add _
      refine ⟨_, rfl, _, rfl, r, _, _, _, rfl, rfl, SqL.of hrr, at_stt (by omega) (by omega), rfl, _, rfl, ?_⟩
      cases e : stt ss (0 + (i : Int)) with
      | none =>
        refine iteF (kZ _ ⟨rfl, zs, rfl, by omega, fun z => ?_⟩)
        rw [g z]
        refine ⟨fun ⟨h1, h2⟩ => ⟨⟨h1.1, by omega⟩, h2⟩, fun ⟨h1, s, h2⟩ => ⟨⟨h1.1, ?_⟩, s, h2⟩⟩
        by_cases c : z = (i : Int)
        · rw [ei] at e; rw [c, e] at h2; cases h2
        · omega
      | some s =>
        refine iteT ⟨_, rfl, kR _ _ ⟨rfl, zs ++ [0 + (i : Int)], by simp, by simp; omega, fun z => ?_⟩⟩
        rw [List.mem_append, g z, List.mem_singleton]
        constructor
        · rintro (⟨h1, h2⟩ | h)
          · exact ⟨⟨h1.1, by omega⟩, h2⟩
          · rw [h]; exact ⟨⟨by omega, by omega⟩, s, e⟩
        · rintro ⟨h1, h2⟩
          by_cases c : z = 0 + (i : Int)
          · exact .inr c
          · exact .inl ⟨⟨h1.1, by omega⟩, h2⟩
    · rintro acc H1 ⟨rfl, zs, rfl, hz, g⟩ p hp
      refine q p _ zs (same_new hp _) upd_same (by omega) fun z => ?_
      rw [g z]
      refine and_congr_left fun _ => ?_
      unfold inN
      constructor <;> (intro h; exact ⟨h.1, by omega⟩)
theorem sc_points_open : FnScope ["setting"] ["setting"] (defScope s_points_open) := ⟨rfl, rfl, rfl, by decide +kernel, rfl, by decide +kernel, by decide +kernel⟩
theorem ok_points_open {f : Addr} {fd : FuncData} (F : Fun K "points_open" "points_open" s_points_open f fd) (T : Txt K mg cl)  : FnOk P w K mg base CX0 1 f fd ["setting"] (sp_points_open K) := by
  refine F.ok sc_points_open (fun vs H Q E h => ?_) (fun cdv A outer s H vs Q E hr h => ?_)
  · obtain ⟨r, ss, rfl, hrr, hn, q⟩ := h
    rfl
  · obtain ⟨r, ss, rfl, hrr, hn, q⟩ := h
    refine ⟨_, (pss_one (ps_ret (pe_compS ["setting"] [0] rfl (pi_range1 rfl T.z_range (pa_cons (pe_callB call_len_seq rfl T.z_len PySem.boot_len (pa_cons (pv 0) pa_nil)) pa_nil)) (fun _ _ _ => pts_one (pt_cmpR op_isN (pe_ix (ix_listK (K := K) rfl) (pv 1) (pv 0) (fun _ _ => rfl)) pe_non (nomark _))) (fun _ _ _ => (pv 0)) (hk := by kernel_rfl)))), ?_⟩
    refine ⟨_, rfl, r, _, rfl, .inl (SqL.of hrr), ((ss.length : Nat) : Int), by rw [List.length_map], by omega, by omega, comp_rangeF (lo := 0) (n := ((ss.length : Nat) : Int).toNat) (fun i acc H1 => H1 = H ∧ ∃ zs : List Int, acc = zs.map V.int ∧ zs.length ≤ i ∧ ∀ z, z ∈ zs ↔ (0 ≤ z ∧ z < i) ∧ stt ss z = none) (small (by omega)) ⟨rfl, [], rfl, Nat.le_refl _, fun z => ⟨fun h => (nomatch h), fun h => by have := h.1; omega⟩⟩ (fun i acc H1 ⟨_, zs, e, h, _⟩ => by rw [e, List.length_map]; exact h) ?_ ?_⟩
    · rintro i acc H1 hi ⟨rfl, zs, rfl, hz, g⟩ R Z kR kZ
      have ei : (0 + (i : Int)) = (i : Int) := Int.zero_add _
      refine ⟨_, rfl, _, rfl, r, _, _, _, rfl, rfl, SqL.of hrr, at_stt (by omega) (by omega), rfl, _, rfl, ?_⟩
      cases e : stt ss (0 + (i : Int)) with
      | some s =>
        refine iteF (kZ _ ⟨rfl, zs, rfl, by omega, fun z => ?_⟩)
        rw [g z]
        refine ⟨fun ⟨h1, h2⟩ => ⟨⟨h1.1, by omega⟩, h2⟩, fun ⟨h1, h2⟩ => ⟨⟨h1.1, ?_⟩, h2⟩⟩
        by_cases c : z = (i : Int)
        · rw [ei] at e; rw [c, e] at h2; cases h2
        · omega
      | none =>
        refine iteT ⟨_, rfl, kR _ _ ⟨rfl, zs ++ [0 + (i : Int)], by simp, by simp; omega, fun z => ?_⟩⟩
        rw [List.mem_append, g z, List.mem_singleton]
        constructor
        · rintro (⟨h1, h2⟩ | h)
          · exact ⟨⟨h1.1, by omega⟩, h2⟩
          · rw [h]; exact ⟨⟨by omega, by omega⟩, e⟩
        · rintro ⟨h1, h2⟩
          by_cases c : z = 0 + (i : Int)
          · exact .inr c
          · exact .inl ⟨⟨h1.1, by omega⟩, h2⟩
    · rintro acc H1 ⟨rfl, zs, rfl, hz, g⟩ p hp
      refine q p _ zs (same_new hp _) upd_same (by omega) fun z => ?_
      rw [g z]
      refine and_congr_left fun _ => ?_
      unfold inN
      constructor <;> (intro h; exact ⟨h.1, by omega⟩)
theorem sc_must_follow : FnScope ["table", "setting", "x"] ["table", "setting", "x"] (defScope s_must_follow) := ⟨rfl, rfl, rfl, by decide +kernel, rfl, by decide +kernel, by decide +kernel⟩
theorem ok_must_follow {f : Addr} {fd : FuncData} (F : Fun K "must_follow" "must_follow" s_must_follow f fd) (T : Txt K mg cl) (C_points_open : Cal P w K mg base 1 "points_open" ["setting"] (sp_points_open K)) : FnOk P w K mg base CX0 2 f fd ["table", "setting", "x"] (sp_must_follow K) := by
  refine F.ok sc_must_follow (fun vs H Q E h => ?_) (fun cdv A outer s H vs Q E hr h => ?_)
  · obtain ⟨p, rs, t, n, r, ss, x, rfl, hT, hS, hn, hrr, hl, hx, q⟩ := h
    rfl
  · obtain ⟨p, rs, t, n, r, ss, x, rfl, hT, hS, hn, hrr, hl, hx, q⟩ := h
    refine ⟨_, (pss_one (ps_ret (pe_callB (call_any rfl) rfl T.z_any boot_anyL (pa_cons (pe_compS ["table", "x"] [0, 2] rfl (pi_list (pec C_points_open (hr.mono (by decide)) rfl (pa_cons (pv 1) pa_nil))) (fun _ _ _ => pts_nil) (fun _ _ _ => (pe_and (pe_cmpR op_notN (pe_ix (ix_listK (K := K) rfl) (pe_ix (ix_listK (K := K) rfl) (pv 1) (pv 2) (fun _ _ => rfl)) (pv 0) (fun _ _ => rfl)) pe_non (nomark _)) (pe_one (pe_cmpR op_lt (pe_ix (ix_listK (K := K) rfl) (pe_ix (ix_listK (K := K) rfl) (pv 1) (pv 2) (fun _ _ => rfl)) (pv 0) (fun _ _ => rfl)) pe_int (nomark _))))) (hk := by kernel_rfl)) pa_nil)))), ?_⟩
    obtain ⟨rx, row, x1, x2, x3, x4⟩ := hT.rowAt hS hx
    refine ⟨_, rfl, r, ss, rfl, hrr, by omega, fun r1 H1 zs s1 e1 lz mz => ?_⟩
    rw [hl] at mz
    have T1 := hT.same s1
    refine ⟨r1, rfl, ⟨_, SqL.of e1⟩, comp_list (K := K) (a := r1) (xs := zs.map V.int) (fun i acc H2 => H2 = H1 ∧ ∃ fs : List Bool, acc = fs.map V.bl ∧ fs.length = i ∧ ∀ (j : Nat) (b : Bool), fs[j]? = some b → ∃ y, zs[j]? = some y ∧ (b = true ↔ ∃ e, ent t x y = some e ∧ e < 0)) (by rw [List.length_map]; exact small (by omega)) ⟨rfl, [], rfl, rfl, fun j o h => by simp at h⟩ (fun i acc H2 ⟨_, os, e, h, _⟩ => by rw [e, List.length_map]; exact h) (fun i acc H2 ⟨e, _⟩ => by rw [e]; exact SqL.of e1) ?_ ?_⟩
    · rintro i acc H2 y hy ⟨rfl, fs, rfl, lf, g⟩ R kR
      obtain ⟨hi, ey⟩ := int_at hy
      generalize hpz : zs.getD i 0 = pz at ey
      subst ey
      have hz := get_getD hi hpz
      obtain ⟨hpN, hno⟩ := (mz pz).mp (List.mem_of_getElem? hz)
      have k2 : ∀ b : Bool, (b = true ↔ ∃ e, ent t x pz = some e ∧ e < 0) → R (.bl b) H2 := fun b hb => kR _ _ ⟨rfl, fs ++ [b], by simp, by simp [lf], fun j o' hj => by
        rcases snoc_get hj with h | ⟨rfl, rfl⟩
        · exact g j o' h
        · rw [lf]; exact ⟨pz, hz, hb⟩⟩
      have x5 := x4 _ hpN
      refine ⟨_, rfl, _, rfl, p, _, _, _, rfl, rfl, SqL.of T1.ob, x1, _, rfl, rx, _, _, _, rfl, rfl, SqL.of (s1 _ _ x2), x5, rfl, _, rfl, ?_⟩
      cases e : ent t x pz with
      | none => exact iteF (k2 false ⟨fun h => (nomatch h), fun ⟨e', h, _⟩ => by rw [e] at h; cases h⟩)
      | some w =>
        rw [e] at x5
        refine iteT ⟨_, rfl, _, rfl, p, _, _, _, rfl, rfl, SqL.of T1.ob, x1, _, rfl, rx, _, _, _, rfl, rfl, SqL.of (s1 _ _ x2), x5, _, _, rfl, rfl, k2 _ ⟨fun h => ⟨w, e, of_decide_eq_true h⟩, fun ⟨e', h, h'⟩ => ?_⟩⟩
        rw [e] at h; cases h
        exact decide_eq_true h'
    · rintro acc H2 ⟨rfl, fs, rfl, lf, g⟩ pL hpL
      rw [List.length_map] at lf
      refine ⟨pL, fs, rfl, SqL.of upd_same, q _ _ (s1.trans (same_new hpL _)) ?_⟩
      rw [List.any_eq_true]
      constructor
      · rintro ⟨b, hb, h⟩
        obtain ⟨j, hj⟩ := List.mem_iff_getElem?.mp hb
        obtain ⟨y, y1, y2⟩ := g j b hj
        obtain ⟨e, e1', e2⟩ := y2.mp h
        obtain ⟨m1, m2⟩ := (mz y).mp (List.mem_of_getElem? y1)
        exact ⟨y, e, m1, m2, e1', e2⟩
      · rintro ⟨y, e, m1, m2, e1', e2⟩
        obtain ⟨j, hj⟩ := List.mem_iff_getElem?.mp ((mz y).mpr ⟨m1, m2⟩)
        have hjl := (List.getElem?_eq_some_iff.mp hj).1
        have hf : fs[j]? = some fs[j] := List.getElem?_eq_getElem (by omega)
        obtain ⟨y', y1, y2⟩ := g j _ hf
        rw [hj] at y1; cases y1
        exact ⟨_, List.mem_of_getElem? hf, y2.mpr ⟨e, e1', e2⟩⟩
theorem sc_wide_row : FnScope ["count", "a"] ["count", "a"] (defScope s_wide_row) := ⟨rfl, rfl, rfl, by decide +kernel, rfl, by decide +kernel, by decide +kernel⟩
theorem ok_wide_row {f : Addr} {fd : FuncData} (F : Fun K "wide_row" "wide_row" s_wide_row f fd) (T : Txt K mg cl)  : FnOk P w K mg base CX0 1 f fd ["count", "a"] (sp_wide_row K) := by
  refine F.ok sc_wide_row (fun vs H Q E h => ?_) (fun cdv A outer s H vs Q E hr h => ?_)
  · obtain ⟨n, a, rfl, hn, q⟩ := h
    rfl
  · obtain ⟨n, a, rfl, hn, q⟩ := h
    refine ⟨_, (pss_one (ps_ret (pe_compS ["a"] [1] rfl (pi_range1 rfl T.z_range (pa_cons (pv 0) pa_nil)) (fun _ _ _ => pts_nil) (fun _ _ _ => (pe_ifExp (pt_cmpR op_eq (pv 1) (pv 0) (nomark _)) pe_int pe_non)) (hk := by kernel_rfl)))), ?_⟩
    refine ⟨_, rfl, (n : Int), rfl, by omega, by omega, comp_vals (n := ((n : Nat) : Int).toNat) (fun j => ov (if a = (j : Int) then some (0 : Int) else none)) (small (by omega)) ?_ ?_⟩
    · intro i hi R kR
      refine ⟨_, rfl, _, rfl, rfl, _, rfl, ?_⟩
      refine ite2 (fun c => ?_) (fun c => ?_)
      · have c' := of_decide_eq_true c
        have e : a = (i : Int) := by have := V.int.inj c'; omega
        rw [if_pos e] at kR
        exact kR
      · have c' := of_decide_eq_false (Bool.eq_false_iff.mpr c)
        have e : ¬ a = (i : Int) := fun e => c' (by rw [e, Int.zero_add])
        rw [if_neg e] at kR
        exact kR
    · intro p hp
      have := q p hp
      rw [List.map_map] at this
      rw [Int.toNat_natCast]
      exact this
theorem sc_shuts : FnScope ["bound", "table", "back"] ["bound", "table"] (defScope s_shuts) := ⟨rfl, rfl, rfl, by decide +kernel, rfl, by decide +kernel, by decide +kernel⟩
theorem ok_shuts {f : Addr} {fd : FuncData} (F : Fun K "shuts" "shuts" s_shuts f fd) (T : Txt K mg cl)  : FnOk P w K mg base CX0 1 f fd ["bound", "table"] (sp_shuts K) := by
  refine F.ok sc_shuts (fun vs H Q E h => ?_) (fun cdv A outer s H vs Q E hr h => ?_)
  · obtain ⟨u, p, m, rs, t, n, rfl, hB, hT, hS, h1, h2, q⟩ := h
    rfl
  · obtain ⟨u, p, m, rs, t, n, rfl, hB, hT, hS, h1, h2, q⟩ := h
    refine ⟨_, (pss_cons (ps_set (i := 2) sc_shuts.nd rfl (Or.inl rfl) (pe_ix ix_list (pe_ix ix_list (pv 1) (pe_ix ix_tup (pv 0) pe_int (fun _ _ => rfl)) (fun _ _ => rfl)) (pe_ix ix_tup (pv 0) pe_int (fun _ _ => rfl)) (fun _ _ => rfl)))
      (pss_one (ps_ret (pe_and (pe_cmpR op_notN (pv 2) pe_non (nomark _)) (pe_one (pe_cmpR op_lt (pe_op op_add (pv 2) (pe_ix ix_tup (pv 0) pe_int (fun _ _ => rfl))) pe_int (nomark _))))))), ?_⟩
    obtain ⟨r, row, g1, g2, g3⟩ := hT.at hS h2 h1
    refine ⟨_, rfl, _, rfl, u, _, 1, _, rfl, rfl, hB, rfl, p, _, _, _, rfl, rfl, SqL.of hT.ob, g1, _, rfl, u, _, 0, _, rfl, rfl, hB, rfl, r, _, _, _, rfl, rfl, SqL.of g2, g3, ?_⟩
    refine ⟨_, rfl, rfl, _, rfl, ?_⟩
    unfold shutB at q
    cases e : ent t m.2.1 m.1 with
    | none => rw [e] at q; exact iteF q
    | some z =>
      rw [e] at q
      exact iteT ⟨_, rfl, _, rfl, u, _, 2, _, rfl, rfl, hB, rfl, _, _, rfl, rfl, _, _, rfl, rfl, q⟩
theorem sc_total : FnScope ["one", "other"] ["one", "other"] (defScope s_total) := ⟨rfl, rfl, rfl, by decide +kernel, rfl, by decide +kernel, by decide +kernel⟩
theorem ok_total {f : Addr} {fd : FuncData} (F : Fun K "total" "total" s_total f fd) (T : Txt K mg cl)  : FnOk P w K mg base CX0 1 f fd ["one", "other"] (sp_total K) := by
  refine F.ok sc_total (fun vs H Q E h => ?_) (fun cdv A outer s H vs Q E hr h => ?_)
  · obtain ⟨x, y, rfl, q⟩ := h
    rfl
  · obtain ⟨x, y, rfl, q⟩ := h
    refine ⟨_, (pss_cons (ps_if (PW.pt (pw_or (pt_cmpR op_isN (pv 0) pe_non (nomark _)) (pw_or1 (pt_cmpR op_isN (pv 1) pe_non (nomark _)))))
      (pss_one (ps_ret pe_non))
      pss_nil)
      (pss_one (ps_ret (pe_op op_add (pv 0) (pv 1))))), ?_⟩
    refine ⟨_, rfl, rfl, _, rfl, ?_⟩
    cases x with
    | none => exact iteT (iteT q)
    | some x =>
      refine iteF ⟨_, rfl, rfl, _, rfl, ?_⟩
      cases y with
      | none => exact iteT q
      | some y => exact iteF ⟨_, rfl, _, rfl, _, _, rfl, rfl, q⟩
theorem sc_lesser : FnScope ["one", "other"] ["one", "other"] (defScope s_lesser) := ⟨rfl, rfl, rfl, by decide +kernel, rfl, by decide +kernel, by decide +kernel⟩
theorem ok_lesser {f : Addr} {fd : FuncData} (F : Fun K "lesser" "lesser" s_lesser f fd) (T : Txt K mg cl)  : FnOk P w K mg base CX0 1 f fd ["one", "other"] (sp_lesser K) := by
  refine F.ok sc_lesser (fun vs H Q E h => ?_) (fun cdv A outer s H vs Q E hr h => ?_)
  · obtain ⟨x, y, rfl, q⟩ := h
    rfl
  · obtain ⟨x, y, rfl, q⟩ := h
    refine ⟨_, (pss_cons (ps_if (pt_cmpR op_isN (pv 0) pe_non (nomark _))
      (pss_one (ps_ret (pv 1)))
      pss_nil)
      (pss_cons (ps_if (pt_cmpR op_isN (pv 1) pe_non (nomark _))
      (pss_one (ps_ret (pv 0)))
      pss_nil)
      (pss_one (ps_ret (pe_callB (call_min2 rfl) rfl T.z_min boot_min (pa_cons (pv 0) (pa_cons (pv 1) pa_nil))))))), ?_⟩
    refine ⟨_, rfl, rfl, _, rfl, ?_⟩
    cases x with
    | none => exact iteT ⟨_, rfl, q⟩
    | some x =>
      refine iteF ⟨_, rfl, rfl, _, rfl, ?_⟩
      cases y with
      | none => exact iteT ⟨_, rfl, q⟩
      | some y => exact iteF ⟨_, rfl, _, rfl, x, y, rfl, q⟩
theorem sc_law_cell : FnScope ["_law_script", "_law_k", "_law_seed", "_law_some"] ["_law_script", "_law_k"] (defScope s_law_cell) := ⟨rfl, rfl, rfl, by decide +kernel, rfl, by decide +kernel, by decide +kernel⟩
theorem ok_law_cell {f : Addr} {fd : FuncData} (F : Fun K "_law_cell" "_law_cell" s_law_cell f fd) (T : Txt K mg cl)  : FnOk P w K mg base CX0 1 f fd ["_law_script", "_law_k"] (sp_law_cell K) := by
  refine F.ok sc_law_cell (fun vs H Q E h => ?_) (fun cdv A outer s H vs Q E hr h => ?_)
  · obtain ⟨a, ns, k, rfl, hS, h63, h0, h1, q⟩ := h
    rfl
  · obtain ⟨a, ns, k, rfl, hS, h63, h0, h1, q⟩ := h
    refine ⟨_, (pss_cons (ps_if (pt_cmpR op_lt (pv 1) (pe_callB call_len_seq rfl T.z_len PySem.boot_len (pa_cons (pv 0) pa_nil)) (nomark _))
      (pss_one (ps_ret (pe_ix ix_list (pv 0) (pv 1) (fun _ _ => rfl))))
      pss_nil)
      (pss_cons (ps_set (i := 2) sc_law_cell.nd rfl (Or.inl rfl) (pe_op op_mul (pv 1) pe_int))
      (pss_cons (ps_if (pt_cmpR op_gt (pe_callB call_len_seq rfl T.z_len PySem.boot_len (pa_cons (pv 0) pa_nil)) pe_int (nomark _))
      (pss_one (ps_set (i := 2) sc_law_cell.nd rfl (Or.inl rfl) (pe_op op_add (pv 2) (pe_op op_mod (pe_ix ix_list (pv 0) (pe_op op_mod (pv 1) (pe_callB call_len_seq rfl T.z_len PySem.boot_len (pa_cons (pv 0) pa_nil))) (fun _ _ => rfl)) pe_int))))
      pss_nil)
      (pss_cons (ps_set (i := 3) sc_law_cell.nd rfl (Or.inl rfl) (pe_op op_mod (pe_op op_mul (pv 2) pe_int) pe_int))
      (pss_one (ps_ret (pe_op op_mod (pe_op op_fdiv (pe_op op_mul (pv 3) (pe_op op_add (pe_op op_add (pv 3) (pe_op op_mul pe_int (pv 1))) pe_int)) pe_int) pe_int))))))), ?_⟩
    have hl : (ns.map V.int).length = ns.length := List.length_map _
    refine ⟨_, rfl, _, rfl, a, _, rfl, .inl hS, _, _, rfl, rfl, _, rfl, ?_⟩
    refine ite2 (fun c => ?_) (fun c => ?_)
    · have c' : k < (((ns.map V.int).length : Nat) : Int) := of_decide_eq_true c
      rw [hl] at c'
      exact ⟨_, rfl, _, rfl, a, _, k, _, rfl, rfl, hS, at_int h0 c', q _⟩
    · refine ⟨_, rfl, _, _, rfl, rfl, .inl ⟨by omega, by omega⟩, _, rfl, a, _, rfl, .inl hS, _, _, rfl, rfl, _, rfl, ?_⟩
      have fin : ∀ z : Int, tSeq (tAsg (tOp (rI (fun _ j => 0 < j) fun i j => .int (i % j)) (tOp (rI CMul fun i j => .int (i * j)) (tVar 2) (tC (.int 48271))) (tC (.int 65537))) (gName 3))
          (tRet (tOp (rI (fun _ j => 0 < j) fun i j => .int (i % j)) (tOp (rI CDiv fun i j => .int (i / j)) (tOp (rI CMul fun i j => .int (i * j)) (tVar 3) (tOp (rI0 fun i j => .int (i + j)) (tOp (rI0 fun i j => .int (i + j)) (tVar 3) (tOp (rI CMul fun i j => .int (i * j)) (tC (.int 2)) (tVar 1))) (tC (.int 1)))) (tC (.int 7))) (tC (.int 65521)))) { nx := fun _ H' => Q .non H', rt := Q } [some (.ref a), some (.int k), some (.int z), none] H := fun z => by
        refine ⟨_, rfl, _, _, rfl, rfl, .inr ⟨by decide, by decide⟩, _, _, rfl, rfl, (by show (0 : Int) < 65537; decide), ?_⟩
        have m1 := Int.emod_nonneg (z * 48271) (show (65537 : Int) ≠ 0 by decide)
        have m2 := Int.emod_lt_of_pos (z * 48271) (show (0 : Int) < 65537 by decide)
        exact ⟨_, rfl, _, rfl, _, rfl, _, _, rfl, rfl, .inl ⟨by decide, by decide⟩, _, _, rfl, rfl, _, _, rfl, rfl, _, _, rfl, rfl, .inl ⟨by omega, by omega⟩, _, _, rfl, rfl, ⟨by decide, by decide⟩, _, _, rfl, rfl, (by show (0 : Int) < 65521; decide), q _⟩
      refine ite2 (fun c2 => ?_) (fun c2 => fin _)
      have c3 : (0 : Int) < (((ns.map V.int).length : Nat) : Int) := of_decide_eq_true c2
      have m1 := Int.emod_nonneg k (show (((ns.map V.int).length : Nat) : Int) ≠ 0 by omega)
      have m2 := Int.emod_lt_of_pos k c3
      refine ⟨_, rfl, _, rfl, _, rfl, _, rfl, a, _, rfl, .inl hS, _, _, rfl, rfl, c3, a, _, _, _, rfl, rfl, hS, at_int m1 (by rw [hl] at m2 ⊢; exact m2), _, _, rfl, rfl, (by show (0 : Int) < 65537; decide), _, _, rfl, rfl, fin _⟩
theorem sc_law_whole : FnScope ["_law_found"] ["_law_found"] (defScope s_law_whole) := ⟨rfl, rfl, rfl, by decide +kernel, rfl, by decide +kernel, by decide +kernel⟩
theorem ok_law_whole {f : Addr} {fd : FuncData} (F : Fun K "_law_whole" "_law_whole" s_law_whole f fd) (T : Txt K mg cl)  : FnOk P w K mg base CX0 1 f fd ["_law_found"] (sp_law_whole K) := by
  refine F.ok sc_law_whole (fun vs H Q E h => ?_) (fun cdv A outer s H vs Q E hr h => ?_)
  · obtain ⟨i, rfl, q⟩ := h
    rfl
  · obtain ⟨i, rfl, q⟩ := h
    refine ⟨_, (pss_one (ps_ret (pe_and (pe_callB call_isi rfl T.z_isinstance boot_isinstance (pa_cons (pv 0) (pa_cons (pe_bltn (v := .ty "int") rfl T.z_int boot_int rfl) pa_nil))) (pe_one (pe_not (pe_callB call_isi rfl T.z_isinstance boot_isinstance (pa_cons (pv 0) (pa_cons (pe_bltn (v := .ty "bool") rfl T.z_bool boot_bool rfl) pa_nil)))))))), ?_⟩
    exact ⟨_, rfl, _, _, _, _, rfl, .int i, kit_same, _, rfl, iteT ⟨_, rfl, _, _, _, _, rfl, .int i, kit_int_bool, _, rfl, q⟩⟩
theorem sc_law_big : FnScope ["_law_cell_here"] ["_law_cell_here"] (defScope s_law_big) := ⟨rfl, rfl, rfl, by decide +kernel, rfl, by decide +kernel, by decide +kernel⟩
theorem ok_law_big {f : Addr} {fd : FuncData} (F : Fun K "_law_big" "_law_big" s_law_big f fd) (T : Txt K mg cl)  : FnOk P w K mg base CX0 1 f fd ["_law_cell_here"] (sp_law_big K) := by
  refine F.ok sc_law_big (fun vs H Q E h => ?_) (fun cdv A outer s H vs Q E hr h => ?_)
  · obtain ⟨c, rfl, q⟩ := h
    rfl
  · obtain ⟨c, rfl, q⟩ := h
    refine ⟨_, (pss_cons (ps_if (pt_cmpR op_eq (pe_op op_mod (pv 0) pe_int) pe_int (nomark _))
      (pss_one (ps_ret (pe_op op_sub (pe_op op_mod (pe_op op_fdiv (pv 0) pe_int) (pe_op op_add (pe_op op_mul pe_int (pe_op op_pow pe_int pe_int)) pe_int)) (pe_op op_pow pe_int pe_int))))
      pss_nil)
      (pss_one (ps_ret (pe_op op_sub (pe_op op_mod (pe_op op_fdiv (pv 0) pe_int) pe_int) pe_int)))), ?_⟩
    refine ⟨_, rfl, _, _, rfl, rfl, (by show (0 : Int) < 4; decide), rfl, _, rfl, ?_⟩
    refine ite2 (fun _ => ?_) (fun _ => ?_)
    · exact ⟨_, rfl, _, _, rfl, rfl, ⟨by decide, by decide⟩, _, _, rfl, rfl, ⟨by decide, by decide, by decide⟩, _, _, rfl, rfl, .inl ⟨by decide, by decide⟩, _, _, rfl, rfl, _, _, rfl, rfl, (by show (0 : Int) < 2 * 10 ^ 60 + 1; decide), _, _, rfl, rfl, ⟨by decide, by decide, by decide⟩, _, _, rfl, rfl, q _⟩
    · exact ⟨_, rfl, _, _, rfl, rfl, ⟨by decide, by decide⟩, _, _, rfl, rfl, (by show (0 : Int) < 21; decide), _, _, rfl, rfl, q _⟩
theorem sc_law_times : FnScope ["_law_script", "_law_at", "_law_count"] ["_law_script", "_law_at", "_law_count"] (defScope s_law_times) := ⟨rfl, rfl, rfl, by decide +kernel, rfl, by decide +kernel, by decide +kernel⟩
theorem ok_law_times {f : Addr} {fd : FuncData} (F : Fun K "_law_times" "_law_times" s_law_times f fd) (T : Txt K mg cl) (C_law_cell : Cal P w K mg base 1 "_law_cell" ["_law_script", "_law_k"] (sp_law_cell K)) (C_law_big : Cal P w K mg base 1 "_law_big" ["_law_cell_here"] (sp_law_big K)) : FnOk P w K mg base CX0 2 f fd ["_law_script", "_law_at", "_law_count"] (sp_law_times K) := by
  refine F.ok sc_law_times (fun vs H Q E h => ?_) (fun cdv A outer s H vs Q E hr h => ?_)
  · obtain ⟨a, ns, k, n, rfl, hS, h63, h0, h1, hn0, hn8, q⟩ := h
    rfl
  · obtain ⟨a, ns, k, n, rfl, hS, h63, h0, h1, hn0, hn8, q⟩ := h
    refine ⟨_, (pss_one (ps_ret (pe_callTy call_tuple_of rfl T.z_tuple boot_tuple (pa_cons (pe_compS ["_law_script", "_law_at"] [0, 1] rfl (pi_range1 rfl T.z_range (pa_cons (pv 2) pa_nil)) (fun _ _ _ => pts_nil) (fun _ _ _ => (pec C_law_big (hr.mono (by decide)) rfl (pa_cons (pec C_law_cell (hr.mono (by decide)) rfl (pa_cons (pv 1) (pa_cons (pe_op op_add (pv 2) (pv 0)) pa_nil))) pa_nil))) (hk := by kernel_rfl)) pa_nil)))), ?_⟩
    refine ⟨_, rfl, n, rfl, by omega, by omega, comp_range (lo := 0) (n := n.toNat) (fun i acc H1 => H1 = H ∧ ∃ ms : List Int, ms.length = i ∧ acc = ms.map V.int) (small (by omega)) ⟨rfl, [], rfl, rfl⟩ (fun i acc H1 ⟨_, ms, e1, e2⟩ => by rw [e2, List.length_map, e1]) ?_ ?_⟩
    · rintro i acc H1 hi ⟨rfl, ms, e1, e2⟩ R kR
      refine ⟨_, rfl, _, rfl, _, rfl, _, _, rfl, rfl, a, ns, _, rfl, hS, h63, by omega, by omega, fun z => ⟨_, rfl, fun y => kR _ _ ⟨rfl, ms ++ [y], by simp [e1], by simp [e2]⟩⟩⟩
    · rintro acc H1 ⟨rfl, ms, e1, e2⟩ p hp
      refine ⟨p, _, rfl, .inl ⟨SqL.of upd_same, fun l hl => ?_⟩⟩
      refine q l _ ms (fun b o hb => ?_) (by omega) (by rw [upd_same, e2])
      have g1 := same_new (H := H1) hp (.lst acc) b o hb
      exact same_new hl (.tup acc) b o g1
theorem sc_law_cells : FnScope ["_law_script", "_law_at", "_law_many", "_law_cells_here"] ["_law_script", "_law_at", "_law_many"] (defScope s_law_cells) := ⟨rfl, rfl, rfl, by decide +kernel, rfl, by decide +kernel, by decide +kernel⟩
theorem ok_law_cells {f : Addr} {fd : FuncData} (F : Fun K "_law_cells" "_law_cells" s_law_cells f fd) (T : Txt K mg cl) (C_law_cell : Cal P w K mg base 1 "_law_cell" ["_law_script", "_law_k"] (sp_law_cell K)) : FnOk P w K mg base CX0 2 f fd ["_law_script", "_law_at", "_law_many"] (sp_law_cells K) := by
  refine F.ok sc_law_cells (fun vs H Q E h => ?_) (fun cdv A outer s H vs Q E hr h => ?_)
  · obtain ⟨a, ns, k, m, rfl, hS, h63, h0, h1, hm, q⟩ := h
    rfl
  · obtain ⟨a, ns, k, m, rfl, hS, h63, h0, h1, hm, q⟩ := h
    refine ⟨_, (pss_cons (ps_set (i := 3) sc_law_cells.nd rfl (Or.inl rfl) (pe_slice sl_list (pv 0) (po_some (pv 1)) (po_some (pe_op op_add (pv 1) (pv 2)))))
      (pss_cons (ps_if (pt_cmpR op_lt (pe_callB call_len_seq rfl T.z_len PySem.boot_len (pa_cons (pv 3) pa_nil)) pe_int (nomark _))
      (pss_one (ps_setComp (j := 3) ["_law_script", "_law_at"] [0, 1] sc_law_cells.nd rfl rfl rfl (pi_range1 rfl T.z_range (pa_cons (pe_op op_add pe_int (pe_op op_mod (pec C_law_cell (hr.mono (by decide)) rfl (pa_cons (pv 0) (pa_cons pe_int pa_nil))) pe_int)) pa_nil)) (fun _ _ _ => pts_nil) (fun _ _ _ => (pec C_law_cell (hr.mono (by decide)) rfl (pa_cons (pv 1) (pa_cons (pe_op op_add (pv 2) (pv 0)) pa_nil)))) (hk := by kernel_rfl)))
      pss_nil)
      (pss_one (ps_ret (pv 3))))), ?_⟩
    obtain ⟨ys, ey, hy⟩ := cut_map V.int ns (some k) (some (k + m))
    refine ⟨_, rfl, _, rfl, _, rfl, _, rfl, _, rfl, _, _, rfl, rfl, _, rfl, a, _, rfl, hS, fun p hp => ?_⟩
    have s1 := same_new hp (.lst (cutV (ns.map V.int) (some k) (some (k + m))))
    have e1 : (upd H p (.lst (cutV (ns.map V.int) (some k) (some (k + m))))) p = some (.lst (ys.map V.int)) := by rw [upd_same, ey]
    generalize upd H p (.lst (cutV (ns.map V.int) (some k) (some (k + m)))) = H1 at s1 e1 ⊢
    have hl : (ys.map V.int).length = ys.length := List.length_map _
    refine ⟨_, rfl, p, _, rfl, .inl (SqL.of e1), _, _, rfl, rfl, _, rfl, ?_⟩
    refine ite2 (fun c => ?_) (fun c => ?_)
    · refine ⟨_, rfl, a, ns, 1, rfl, s1.seq hS, h63, by decide, by decide, fun c1 => ⟨_, _, rfl, rfl, (by show (0 : Int) < 6; decide), _, _, rfl, rfl, 4 + c1 % 6, rfl, by omega, by omega,
        comp_range (lo := 0) (n := (4 + c1 % 6).toNat) (fun i acc H2 => H2 = H1 ∧ ∃ zs : List Int, zs.length = i ∧ acc = zs.map V.int) (small (by omega)) ⟨rfl, [], rfl, rfl⟩ (fun i acc H2 ⟨_, zs, g1, g2⟩ => by rw [g2, List.length_map, g1]) ?_ ?_⟩⟩
      · rintro i acc H2 hi ⟨rfl, zs, g1, g2⟩ R kR
        exact ⟨_, rfl, _, rfl, _, rfl, _, _, rfl, rfl, a, ns, _, rfl, s1.seq hS, h63, by omega, by omega, fun c => kR _ _ ⟨rfl, _, by rw [List.length_append, g1]; rfl, ints_snoc g2 _⟩⟩
      · rintro acc H2 ⟨rfl, zs, g1, g2⟩ p2 hp2
        exact ⟨_, rfl, q p2 _ zs (s1.trans (same_new hp2 _)) (by rw [upd_same, g2]) (by omega) (by omega)⟩
    · have c' : ¬ (((ys.map V.int).length : Nat) : Int) < 4 := of_decide_eq_false (Bool.eq_false_iff.mpr c)
      exact ⟨_, rfl, q p _ ys s1 e1 (by omega) (by omega)⟩
theorem sc_law_bounds : FnScope ["_law_cells_here", "_law_count", "_law_times_here", "_law_bounds_here", "_law_cell_here", "_law_a", "_law_b", "_law_rest", "_law_slack"] ["_law_cells_here", "_law_count", "_law_times_here"] (defScope s_law_bounds) := ⟨rfl, rfl, rfl, by decide +kernel, rfl, by decide +kernel, by decide +kernel⟩
theorem ok_law_bounds {f : Addr} {fd : FuncData} (F : Fun K "_law_bounds" "_law_bounds" s_law_bounds f fd) (T : Txt K mg cl)  : FnOk P w K mg base CX0 1 f fd ["_law_cells_here", "_law_count", "_law_times_here"] (sp_law_bounds K) := by
  refine F.ok sc_law_bounds (fun vs H Q E h => ?_) (fun cdv A outer s H vs Q E hr h => ?_)
  · obtain ⟨c, t, zs, ns, n, rfl, hC, hz, hT, hnn, hpos, hn8, q⟩ := h
    rfl
  · obtain ⟨c, t, zs, ns, n, rfl, hC, hz, hT, hnn, hpos, hn8, q⟩ := h
    refine ⟨_, (pss_cons (ps_set (i := 3) sc_law_bounds.nd rfl (Or.inl rfl) (pe_lst pa_nil))
      (pss_cons (ps_for PassesOwn.never rfl (pi_list (pv 0)) (pg_name (i := 4) sc_law_bounds.nd rfl (Or.inl rfl))
      (pss_cons (ps_set (i := 5) sc_law_bounds.nd rfl (Or.inl rfl) (pe_op op_mod (pv 4) (pv 1)))
      (pss_cons (ps_set (i := 6) sc_law_bounds.nd rfl (Or.inl rfl) (pe_op op_mod (pe_op op_fdiv (pv 4) (pv 1)) (pv 1)))
      (pss_cons (ps_set (i := 7) sc_law_bounds.nd rfl (Or.inl rfl) (pe_op op_fdiv (pv 4) (pe_op op_mul (pv 1) (pv 1))))
      (pss_cons (ps_set (i := 8) sc_law_bounds.nd rfl (Or.inl rfl) (pe_op op_mod (pv 7) pe_int))
      (pss_cons (ps_if (pt_cmpR op_eq (pe_op op_mod (pe_op op_fdiv (pv 7) pe_int) pe_int) pe_int (nomark _))
      (pss_one (ps_set (i := 8) sc_law_bounds.nd rfl (Or.inl rfl) (pe_op op_mod (pe_op op_fdiv (pv 7) pe_int) (pe_op op_pow pe_int pe_int))))
      pss_nil)
      (pss_one (ps_expr (pe_bm PySem.F.plainAttrs_list PySem.F.slot_list_append PySem.F.type_list_append mt_append (pv 3) (pa_cons (pe_tup (pa_cons (pv 5) (pa_cons (pv 6) (pa_cons (pe_op op_add (pe_op op_sub (pe_ix ix_tup (pv 2) (pv 6) (fun _ _ => rfl)) (pe_ix ix_tup (pv 2) (pv 5) (fun _ _ => rfl))) (pv 8)) pa_nil)))) pa_nil))))))))))
      (pss_one (ps_ret (pv 3))))), ?_⟩
    subst hnn
    have hlz : (zs.map V.int).length = zs.length := List.length_map _
    refine ⟨(by show 0 ≤ sizeLine; decide), fun r hr0 => ?_⟩
    have s0 := same_new hr0 (.lst [])
    have L1 : (0 : Int) < ((ns.length : Nat) : Int) := by omega
    have L2 : ((ns.length : Nat) : Int) < 1073741824 := by omega
    have L3 : (0 : Int) < ((ns.length : Nat) : Int) * ((ns.length : Nat) : Int) := Int.mul_pos L1 L1
    have L4 : ((ns.length : Nat) : Int) * ((ns.length : Nat) : Int) ≤ 8 * 8 := Int.mul_le_mul (by omega) (by omega) (by omega) (by omega)
    refine ⟨_, rfl, c, rfl, ⟨_, s0.seq hC⟩, for_list (K := K) (a := c) (xs := zs.map V.int) (fun i σ H2 => Same H H2 ∧ (∃ (qs : List V) (bs : List Bd), H2 r = some (.lst qs) ∧ AreB H2 qs bs ∧ bs.length = i ∧ Within ns.length bs ∧ (∀ m ∈ bs, bKept ns m = true)) ∧
        ∃ u4 u5 u6 u7 u8, σ = [some (.ref c), some (.int ns.length), some (.ref t), some (.ref r), u4, u5, u6, u7, u8])
      ⟨s0, ⟨[], [], upd_same, .nil, rfl, fun m hm => (nomatch hm), fun m hm => (nomatch hm)⟩, _, _, _, _, _, rfl⟩ (fun i σ H2 _ ⟨s, _⟩ => s.seq hC) ?_ (fun σ H2 ⟨s2, ⟨qs, bs, b1, b2, b3, b4, b5⟩, u4, u5, u6, u7, u8, e⟩ => by rw [e]; exact ⟨_, rfl, q r H2 qs bs hr0 s2 b1 b2 (by rw [b3, hlz]) b4 b5⟩)⟩
    rintro i x σ H2 hi ⟨s2, ⟨qs, bs, b1, b2, b3, b4, b5⟩, u4, u5, u6, u7, u8, rfl⟩
    obtain ⟨hi', rfl⟩ := int_at hi
    generalize zs.getD i 0 = d
    have hT2 := s2.seqT hT
    have ha : inR (d % ((ns.length : Nat) : Int)) ns := ⟨Int.emod_nonneg _ (by omega), Int.emod_lt_of_pos d L1⟩
    have hb : inR (d / ((ns.length : Nat) : Int) % ((ns.length : Nat) : Int)) ns := ⟨Int.emod_nonneg _ (by omega), Int.emod_lt_of_pos _ L1⟩
    refine ⟨_, rfl, _, rfl, _, _, rfl, rfl, L1, ?_⟩
    refine ⟨_, rfl, _, rfl, _, _, rfl, rfl, ⟨L1, L2⟩, _, rfl, _, _, rfl, rfl, L1, ?_⟩
    refine ⟨_, rfl, _, rfl, _, rfl, _, _, rfl, rfl, .inl ⟨by omega, by omega⟩, _, _, rfl, rfl, ⟨L3, by omega⟩, ?_⟩
    dsimp only
    generalize d / (((ns.length : Nat) : Int) * ((ns.length : Nat) : Int)) = w
    refine ⟨_, rfl, _, _, rfl, rfl, (by show (0 : Int) < 6; decide), ?_⟩
    refine ⟨_, rfl, _, _, rfl, rfl, ⟨by decide, by decide⟩, _, _, rfl, rfl, (by show (0 : Int) < 5; decide), rfl, _, rfl, ?_⟩
    refine ite2 (fun _ => ?h1) (fun _ => ?h2)
    case' h1 =>
      refine ⟨_, rfl, _, _, rfl, rfl, ⟨by decide, by decide⟩, _, _, rfl, rfl, ⟨by decide, by decide, by decide⟩, _, _, rfl, rfl, (by show (0 : Int) < 10 ^ 30; decide), ?_⟩
      have z0 : 0 ≤ w / 30 % (10 ^ 30) := Int.emod_nonneg _ (by decide)
      generalize hz9 : w / 30 % (10 ^ 30) = z at z0 ⊢
    case' h2 =>
      have z0 : 0 ≤ w % 6 := Int.emod_nonneg _ (by decide)
      generalize hz9 : w % 6 = z at z0 ⊢
    all_goals
      refine ⟨_, rfl, .inl ⟨rfl, _, SqL.of b1⟩, _, rfl, _, rfl, _, rfl, _, rfl, t, _, _, _, rfl, rfl, hT2, at_int hb.1 hb.2, _, rfl, _, rfl, t, _, _, _, rfl, rfl, hT2, at_int ha.1 ha.2, _, _, rfl, rfl, _, rfl, _, _, rfl, rfl, (by show 3 ≤ sizeLine; decide), fun p hp => ⟨r, qs, _, rfl, rfl, same_new hp _ _ _ b1, small1000 (by rw [b2.len]; omega), ?_⟩⟩
      refine ⟨app_same hr0 s2 hp, ⟨_, bs ++ [(_, _, _)], upd_same, b2.app3 b1 hp, by rw [List.length_append, b3]; rfl, fun m hm => ?_, fun m hm => ?_⟩, _, _, _, _, _, rfl⟩
      · rcases List.mem_append.mp hm with hm | hm
        · exact b4 m hm
        · rw [List.mem_singleton.mp hm]; exact ⟨ha, hb⟩
      · rcases List.mem_append.mp hm with hm | hm
        · exact b5 m hm
        · rw [List.mem_singleton.mp hm]
          refine decide_eq_true ?_
          unfold tm
          dsimp only
          omega
theorem sc_law_least : FnScope ["_law_numbers", "_law_some"] ["_law_numbers"] (defScope s_law_least) := ⟨rfl, rfl, rfl, by decide +kernel, rfl, by decide +kernel, by decide +kernel⟩
theorem ok_law_least {f : Addr} {fd : FuncData} (F : Fun K "_law_least" "_law_least" s_law_least f fd) (T : Txt K mg cl)  : FnOk P w K mg base CX0 1 f fd ["_law_numbers"] (sp_law_least K) := by
  refine F.ok sc_law_least (fun vs H Q E h => ?_) (fun cdv A outer s H vs Q E hr h => ?_)
  · obtain ⟨r, os, rfl, hrr, hn, q⟩ := h
    rfl
  · obtain ⟨r, os, rfl, hrr, hn, q⟩ := h
    refine ⟨_, (pss_cons (ps_setComp (j := 1) [] [] sc_law_least.nd rfl rfl rfl (pi_list (pv 0)) (fun _ _ _ => pts_one (pt_cmpR op_notN (pv 0) pe_non (nomark _))) (fun _ _ _ => (pv 0)) (hk := by kernel_rfl))
      (pss_cons (ps_if (pt_cmpR op_eq (pe_callB call_len_seq rfl T.z_len PySem.boot_len (pa_cons (pv 1) pa_nil)) pe_int (nomark _))
      (pss_one (ps_ret pe_non))
      pss_nil)
      (pss_one (ps_ret (pe_callB (call_minL rfl) rfl T.z_min boot_min (pa_cons (pv 1) pa_nil)))))), ?_⟩
    refine ⟨_, rfl, r, rfl, ⟨_, SqL.of hrr⟩, comp_listF (K := K) (a := r) (xs := os.map ov) (fun i acc H1 => H1 = H ∧ ∃ ms : List Int, acc = ms.map V.int ∧ ms.length ≤ i ∧ (∀ z ∈ ms, some z ∈ os) ∧ ∀ j z, j < i → os[j]? = some (some z) → z ∈ ms) (by rw [List.length_map]; exact small (by omega)) ⟨rfl, [], rfl, Nat.le_refl _, fun _ h => (nomatch h), fun j z h => absurd h (by omega)⟩ (fun i acc H1 ⟨_, ms, e, h, _⟩ => by rw [e, List.length_map]; exact h) (fun i acc H1 ⟨e, _⟩ => by rw [e]; exact SqL.of hrr) ?_ ?_⟩
    · rintro i acc H1 y hy ⟨rfl, ms, rfl, hms, g1, g2⟩ R Z kR kZ
      obtain ⟨o, ho, rfl⟩ := ov_at hy
      have keep := ov_keep ho g2
      refine ⟨_, rfl, rfl, _, rfl, ?_⟩
      cases o with
      | none => exact iteF (kZ _ ⟨rfl, ms, rfl, by omega, g1, keep ms (fun _ h => h) fun z h => (nomatch h)⟩)
      | some z =>
        refine iteT ⟨_, rfl, kR _ _ ⟨rfl, ms ++ [z], by rw [List.map_append]; rfl, by simp; omega, fun w hw => ?_, keep _ (fun _ h => List.mem_append_left _ h) fun w h => by cases h; exact List.mem_append_right _ (List.mem_singleton.mpr rfl)⟩⟩
        rcases List.mem_append.mp hw with h | h
        · exact g1 w h
        · rw [List.mem_singleton.mp h]; exact List.mem_of_getElem? ho
    · rintro acc H1 ⟨rfl, ms, rfl, hms, g1, g2⟩ p hp
      rw [List.length_map] at g2
      have s1 := same_new hp (.lst (ms.map V.int))
      have e1 : (upd H1 p (.lst (ms.map V.int))) p = some (.lst (ms.map V.int)) := upd_same
      generalize upd H1 p (.lst (ms.map V.int)) = H2 at s1 e1 ⊢
      have all : ∀ z, some z ∈ os → z ∈ ms := fun z hz => by
        obtain ⟨j, hj⟩ := List.mem_iff_getElem?.mp hz
        exact g2 j z (List.getElem?_eq_some_iff.mp hj).1 hj
      refine ⟨_, rfl, p, _, rfl, .inl (SqL.of e1), rfl, _, rfl, ?_⟩
      refine ite2 (fun c => ?_) (fun c => ?_)
      · have c' : (((ms.map V.int).length : Nat) : Int) = 0 := V.int.inj (of_decide_eq_true c)
        rw [List.length_map] at c'
        have e : ms = [] := List.length_eq_zero_iff.mp (by omega)
        refine q none _ s1 (fun z h => (nomatch h)) fun z h => ?_
        have := all z h
        rw [e] at this
        cases this
      · have c' : ¬ (((ms.map V.int).length : Nat) : Int) = 0 := fun h => by rw [h] at c; exact c (decide_eq_true rfl)
        rw [List.length_map] at c'
        have pos : 0 < ms.length := by omega
        obtain ⟨m1, m2⟩ := leastAt_spec pos
        exact ⟨_, rfl, p, ms, rfl, SqL.of e1, pos, q (some _) _ s1 (fun z h => by cases h; exact g1 _ m1) fun z h => ⟨_, rfl, m2 z (all z h)⟩⟩
theorem sc_law_high : FnScope ["_law_table", "_law_setting", "_law_x", "_law_ends", "_law_s"] ["_law_table", "_law_setting", "_law_x"] (defScope s_law_high) := ⟨rfl, rfl, rfl, by decide +kernel, rfl, by decide +kernel, by decide +kernel⟩
theorem ok_law_high {f : Addr} {fd : FuncData} (F : Fun K "_law_high" "_law_high" s_law_high f fd) (T : Txt K mg cl) (C_law_least : Cal P w K mg base 1 "_law_least" ["_law_numbers"] (sp_law_least K)) : FnOk P w K mg base CX0 2 f fd ["_law_table", "_law_setting", "_law_x"] (sp_law_high K) := by
  refine F.ok sc_law_high (fun vs H Q E h => ?_) (fun cdv A outer s H vs Q E hr h => ?_)
  · obtain ⟨p, rs, t, n, r, ss, x, rfl, hT, hS, hn, hrr, hl, hx, q⟩ := h
    rfl
  · obtain ⟨p, rs, t, n, r, ss, x, rfl, hT, hS, hn, hrr, hl, hx, q⟩ := h
    refine ⟨_, (pss_cons (ps_if (pt_cmpR op_notN (pe_ix ix_list (pv 1) (pv 2) (fun _ _ => rfl)) pe_non (nomark _))
      (pss_one (ps_ret (pe_ix ix_list (pv 1) (pv 2) (fun _ _ => rfl))))
      pss_nil)
      (pss_cons (ps_set (i := 3) sc_law_high.nd rfl (Or.inl rfl) (pe_lst pa_nil))
      (pss_cons (ps_for PassesOwn.never rfl (pi_range1 rfl T.z_range (pa_cons (pe_callB call_len_seq rfl T.z_len PySem.boot_len (pa_cons (pv 1) pa_nil)) pa_nil)) (pg_name (i := 4) sc_law_high.nd rfl (Or.inl rfl))
      (pss_one (ps_if (PW.pt (pw_and (pt_cmpR op_notN (pe_ix ix_list (pv 1) (pv 4) (fun _ _ => rfl)) pe_non (nomark _)) (pw_and1 (pt_cmpR op_notN (pe_ix ix_list (pe_ix ix_list (pv 0) (pv 4) (fun _ _ => rfl)) (pv 2) (fun _ _ => rfl)) pe_non (nomark _)))))
      (pss_one (ps_expr (pe_bm PySem.F.plainAttrs_list PySem.F.slot_list_append PySem.F.type_list_append mt_append (pv 3) (pa_cons (pe_op op_add (pe_ix ix_list (pv 1) (pv 4) (fun _ _ => rfl)) (pe_ix ix_list (pe_ix ix_list (pv 0) (pv 4) (fun _ _ => rfl)) (pv 2) (fun _ _ => rfl))) pa_nil))))
      pss_nil)))
      (pss_one (ps_ret (pec C_law_least (hr.mono (by decide)) rfl (pa_cons (pv 3) pa_nil))))))), ?_⟩
    have hr1 := at_stt (ss := ss) hx.1 (by rw [hl]; exact hx.2)
    refine ⟨_, rfl, _, rfl, r, _, _, _, rfl, rfl, SqL.of hrr, hr1, rfl, _, rfl, ?_⟩
    cases hes : stt ss x with
    | some s =>
      rw [hes] at hr1
      exact iteT ⟨_, rfl, _, rfl, r, _, _, _, rfl, rfl, SqL.of hrr, hr1, q (some s) H (same_refl H) (fun h => by rw [hes] at h; cases h) fun s' h => by rw [hes] at h; exact h⟩
    | none =>
      refine iteF ⟨(by show 0 ≤ sizeLine; decide), fun l hl0 => ?_⟩
      have s0 := same_new hl0 (.lst [])
      have e0 : (upd H l (.lst [])) l = some (.lst []) := upd_same
      generalize upd H l (.lst []) = H0 at s0 e0 ⊢
      refine ⟨_, rfl, r, _, rfl, .inl (SqL.of (s0 _ _ hrr)), ((n : Nat) : Int), by rw [List.length_map, hl], by omega, by omega, for_range (lo := 0) (n := ((n : Nat) : Int).toNat) (fun i σ H2 => Same H H2 ∧ (∃ es : List Int, H2 l = some (.lst (es.map V.int)) ∧ es.length ≤ i ∧ (∀ z ∈ es, ∃ p s e, inN p n ∧ stt ss p = some s ∧ ent t p x = some e ∧ z = s + e) ∧ ∀ p s e, inN p i → stt ss p = some s → ent t p x = some e → s + e ∈ es) ∧ ∃ u4, σ = [some (.ref p), some (.ref r), some (.int x), some (.ref l), u4]) ⟨s0, ⟨[], e0, Nat.le_refl _, fun _ h => (nomatch h), fun p s e hp => absurd hp.1 (by have := hp.2; omega)⟩, _, rfl⟩ ?_ ?_⟩
      · rintro i σ H2 hi ⟨s2, ⟨es, c1, c2, c3, c4⟩, u4, rfl⟩
        have hi' : inN (0 + (i : Int)) n := ⟨by omega, by omega⟩
        have T2 := hT.same s2
        have r2 := s2 _ _ hrr
        obtain ⟨ry, rowy, y1, y2, y3⟩ := T2.at hS hi' hx
        have a1 := at_stt (ss := ss) (p := 0 + (i : Int)) hi'.1 (by rw [hl]; exact hi'.2)
        have keep : ∀ es' : List Int, (∀ z ∈ es, z ∈ es') → (∀ s e, stt ss (0 + (i : Int)) = some s → ent t (0 + (i : Int)) x = some e → s + e ∈ es') → ∀ p s e, inN p (i + 1) → stt ss p = some s → ent t p x = some e → s + e ∈ es' := fun es' h1 h2 p s e hp hs he => by
          by_cases c : p = 0 + (i : Int)
          · subst c; exact h2 s e hs he
          · exact h1 _ (c4 p s e ⟨hp.1, by have := hp.2; omega⟩ hs he)
        refine ⟨_, rfl, _, rfl, r, _, _, _, rfl, rfl, SqL.of r2, a1, rfl, _, rfl, ?_⟩
        cases e1 : stt ss (0 + (i : Int)) with
        | none => exact iteF (iteF ⟨s2, ⟨es, c1, by omega, c3, keep es (fun _ h => h) fun s e h => by rw [e1] at h; cases h⟩, _, rfl⟩)
        | some s =>
          rw [e1] at a1
          refine iteT ⟨_, rfl, _, rfl, p, _, _, _, rfl, rfl, SqL.of T2.ob, y1, _, rfl, ry, _, _, _, rfl, rfl, SqL.of y2, y3, rfl, _, rfl, ?_⟩
          cases e2 : ent t (0 + (i : Int)) x with
          | none => exact iteF ⟨s2, ⟨es, c1, by omega, c3, keep es (fun _ h => h) fun s e _ h => by rw [e2] at h; cases h⟩, _, rfl⟩
          | some z =>
            rw [e2] at y3
            refine iteT ⟨_, rfl, .inl ⟨rfl, _, SqL.of c1⟩, _, rfl, _, rfl, r, _, _, _, rfl, rfl, SqL.of r2, a1, _, rfl, _, rfl, p, _, _, _, rfl, rfl, SqL.of T2.ob, y1, _, rfl, ry, _, _, _, rfl, rfl, SqL.of y2, y3, _, _, rfl, rfl, l, _, _, rfl, rfl, c1, small1000 (by rw [List.length_map]; omega), ?_⟩
            refine ⟨same_upd s2 hl0 _, ⟨es ++ [s + z], by rw [upd_same, List.map_append]; rfl, by simp; omega, fun w hw => ?_, keep _ (fun _ h => List.mem_append_left _ h) fun s' e' h1 h2 => ?_⟩, _, rfl⟩
            · rcases List.mem_append.mp hw with h | h
              · exact c3 w h
              · rw [List.mem_singleton.mp h]; exact ⟨_, s, z, hi', e1, e2, rfl⟩
            · rw [e1] at h1; rw [e2] at h2; cases h1; cases h2
              exact List.mem_append_right _ (List.mem_singleton.mpr rfl)
      · rintro σ H2 ⟨s2, ⟨es, c1, c2, c3, c4⟩, u4, rfl⟩
        rw [Int.toNat_natCast] at c2 c4
        refine ⟨_, rfl, l, es.map some, rfl, by rw [ov_some]; exact c1, by rw [List.length_map]; omega, fun m H3 s3 m1 m2 => q m H3 (s2.trans s3) (fun _ => ⟨fun h e => ?_, fun p s e hp hs he => ?_⟩) fun s h => by rw [hes] at h; cases h⟩
        · obtain ⟨z, hz, e'⟩ := List.mem_map.mp (m1 h e)
          cases e'
          exact c3 _ hz
        · exact m2 _ (List.mem_map.mpr ⟨_, c4 p s e hp hs he, rfl⟩)
theorem sc_law_low : FnScope ["_law_table", "_law_setting", "_law_x", "_law_ends", "_law_s", "_law_end"] ["_law_table", "_law_setting", "_law_x"] (defScope s_law_low) := ⟨rfl, rfl, rfl, by decide +kernel, rfl, by decide +kernel, by decide +kernel⟩
theorem ok_law_low {f : Addr} {fd : FuncData} (F : Fun K "_law_low" "_law_low" s_law_low f fd) (T : Txt K mg cl) (C_law_least : Cal P w K mg base 1 "_law_least" ["_law_numbers"] (sp_law_least K)) : FnOk P w K mg base CX0 2 f fd ["_law_table", "_law_setting", "_law_x"] (sp_law_low K) := by
  refine F.ok sc_law_low (fun vs H Q E h => ?_) (fun cdv A outer s H vs Q E hr h => ?_)
  · obtain ⟨p, rs, t, n, r, ss, x, rfl, hT, hS, hn, hrr, hl, hx, es0, q⟩ := h
    rfl
  · obtain ⟨p, rs, t, n, r, ss, x, rfl, hT, hS, hn, hrr, hl, hx, es0, q⟩ := h
    refine ⟨_, (pss_cons (ps_if (pt_cmpR op_notN (pe_ix ix_list (pv 1) (pv 2) (fun _ _ => rfl)) pe_non (nomark _))
      (pss_one (ps_ret (pe_ix ix_list (pv 1) (pv 2) (fun _ _ => rfl))))
      pss_nil)
      (pss_cons (ps_set (i := 3) sc_law_low.nd rfl (Or.inl rfl) (pe_lst pa_nil))
      (pss_cons (ps_for PassesOwn.never rfl (pi_range1 rfl T.z_range (pa_cons (pe_callB call_len_seq rfl T.z_len PySem.boot_len (pa_cons (pv 1) pa_nil)) pa_nil)) (pg_name (i := 4) sc_law_low.nd rfl (Or.inl rfl))
      (pss_one (ps_if (PW.pt (pw_and (pt_cmpR op_notN (pe_ix ix_list (pv 1) (pv 4) (fun _ _ => rfl)) pe_non (nomark _)) (pw_and1 (pt_cmpR op_notN (pe_ix ix_list (pe_ix ix_list (pv 0) (pv 2) (fun _ _ => rfl)) (pv 4) (fun _ _ => rfl)) pe_non (nomark _)))))
      (pss_one (ps_expr (pe_bm PySem.F.plainAttrs_list PySem.F.slot_list_append PySem.F.type_list_append mt_append (pv 3) (pa_cons (pe_op op_sub (pe_ix ix_list (pe_ix ix_list (pv 0) (pv 2) (fun _ _ => rfl)) (pv 4) (fun _ _ => rfl)) (pe_ix ix_list (pv 1) (pv 4) (fun _ _ => rfl))) pa_nil))))
      pss_nil)))
      (pss_cons (ps_set (i := 5) sc_law_low.nd rfl (Or.inl rfl) (pec C_law_least (hr.mono (by decide)) rfl (pa_cons (pv 3) pa_nil)))
      (pss_cons (ps_if (pt_cmpR op_isN (pv 5) pe_non (nomark _))
      (pss_one (ps_ret pe_non))
      pss_nil)
      (pss_one (ps_ret (pe_un un_neg (pv 5))))))))), ?_⟩
    have hr1 := at_stt (ss := ss) hx.1 (by rw [hl]; exact hx.2)
    rw [es0] at hr1
    refine ⟨_, rfl, _, rfl, r, _, _, _, rfl, rfl, SqL.of hrr, hr1, rfl, _, rfl, ?_⟩
    refine iteF ⟨(by show 0 ≤ sizeLine; decide), fun l hl0 => ?_⟩
    have s0 := same_new hl0 (.lst [])
    have e0 : (upd H l (.lst [])) l = some (.lst []) := upd_same
    generalize upd H l (.lst []) = H0 at s0 e0 ⊢
    refine ⟨_, rfl, r, _, rfl, .inl (SqL.of (s0 _ _ hrr)), ((n : Nat) : Int), by rw [List.length_map, hl], by omega, by omega, for_range (lo := 0) (n := ((n : Nat) : Int).toNat) (fun i σ H2 => Same H H2 ∧ (∃ es : List Int, H2 l = some (.lst (es.map V.int)) ∧ es.length ≤ i ∧ (∀ z ∈ es, ∃ p s e, inN p n ∧ stt ss p = some s ∧ ent t x p = some e ∧ z = e - s) ∧ ∀ p s e, inN p i → stt ss p = some s → ent t x p = some e → e - s ∈ es) ∧ ∃ u4 u5, σ = [some (.ref p), some (.ref r), some (.int x), some (.ref l), u4, u5]) ⟨s0, ⟨[], e0, Nat.le_refl _, fun _ h => (nomatch h), fun p s e hp => absurd hp.1 (by have := hp.2; omega)⟩, _, _, rfl⟩ ?_ ?_⟩
    · rintro i σ H2 hi ⟨s2, ⟨es, c1, c2, c3, c4⟩, u4, u5, rfl⟩
      have hi' : inN (0 + (i : Int)) n := ⟨by omega, by omega⟩
      have T2 := hT.same s2
      have r2 := s2 _ _ hrr
      obtain ⟨ry, rowy, y1, y2, y3⟩ := T2.at hS hx hi'
      have a1 := at_stt (ss := ss) (p := 0 + (i : Int)) hi'.1 (by rw [hl]; exact hi'.2)
      have keep : ∀ es' : List Int, (∀ z ∈ es, z ∈ es') → (∀ s e, stt ss (0 + (i : Int)) = some s → ent t x (0 + (i : Int)) = some e → e - s ∈ es') → ∀ p s e, inN p (i + 1) → stt ss p = some s → ent t x p = some e → e - s ∈ es' := fun es' h1 h2 p s e hp hs he => by
        by_cases c : p = 0 + (i : Int)
        · subst c; exact h2 s e hs he
        · exact h1 _ (c4 p s e ⟨hp.1, by have := hp.2; omega⟩ hs he)
      refine ⟨_, rfl, _, rfl, r, _, _, _, rfl, rfl, SqL.of r2, a1, rfl, _, rfl, ?_⟩
      cases e1 : stt ss (0 + (i : Int)) with
      | none => exact iteF (iteF ⟨s2, ⟨es, c1, by omega, c3, keep es (fun _ h => h) fun s e h => by rw [e1] at h; cases h⟩, _, _, rfl⟩)
      | some s =>
        rw [e1] at a1
        refine iteT ⟨_, rfl, _, rfl, p, _, _, _, rfl, rfl, SqL.of T2.ob, y1, _, rfl, ry, _, _, _, rfl, rfl, SqL.of y2, y3, rfl, _, rfl, ?_⟩
        cases e2 : ent t x (0 + (i : Int)) with
        | none => exact iteF ⟨s2, ⟨es, c1, by omega, c3, keep es (fun _ h => h) fun s e _ h => by rw [e2] at h; cases h⟩, _, _, rfl⟩
        | some z =>
          rw [e2] at y3
          refine iteT ⟨_, rfl, .inl ⟨rfl, _, SqL.of c1⟩, _, rfl, _, rfl, p, _, _, _, rfl, rfl, SqL.of T2.ob, y1, _, rfl, ry, _, _, _, rfl, rfl, SqL.of y2, y3, _, rfl, _, rfl, r, _, _, _, rfl, rfl, SqL.of r2, a1, _, _, rfl, rfl, l, _, _, rfl, rfl, c1, small1000 (by rw [List.length_map]; omega), ?_⟩
          refine ⟨same_upd s2 hl0 _, ⟨es ++ [z - s], by rw [upd_same, List.map_append]; rfl, by simp; omega, fun w hw => ?_, keep _ (fun _ h => List.mem_append_left _ h) fun s' e' h1 h2 => ?_⟩, _, _, rfl⟩
          · rcases List.mem_append.mp hw with h | h
            · exact c3 w h
            · rw [List.mem_singleton.mp h]; exact ⟨_, s, z, hi', e1, e2, rfl⟩
          · rw [e1] at h1; rw [e2] at h2; cases h1; cases h2
            exact List.mem_append_right _ (List.mem_singleton.mpr rfl)
    · rintro σ H2 ⟨s2, ⟨es, c1, c2, c3, c4⟩, u4, u5, rfl⟩
      rw [Int.toNat_natCast] at c2 c4
      refine ⟨_, rfl, l, es.map some, rfl, by rw [ov_some]; exact c1, by rw [List.length_map]; omega, fun m H3 s3 m1 m2 => ?_⟩
      refine ⟨_, rfl, rfl, _, rfl, ?_⟩
      cases m with
      | none =>
        refine iteT (q none H3 (s2.trans s3) ⟨fun h e => (nomatch e), fun p s e hp hs he => ?_⟩)
        obtain ⟨z', h, _⟩ := m2 _ (List.mem_map.mpr ⟨_, c4 p s e hp hs he, rfl⟩)
        cases h
      | some w =>
        refine iteF ⟨_, rfl, _, rfl, q (some (-w)) H3 (s2.trans s3) ⟨fun h e => ?_, fun p s e hp hs he => ?_⟩⟩
        · obtain ⟨z, hz, e'⟩ := List.mem_map.mp (m1 w rfl)
          cases e'
          obtain ⟨p, s, e', p1, p2, p3, p4⟩ := c3 _ hz
          exact ⟨p, s, e', p1, p2, p3, by cases e; omega⟩
        · obtain ⟨z', h, h'⟩ := m2 _ (List.mem_map.mpr ⟨_, c4 p s e hp hs he, rfl⟩)
          cases h
          exact ⟨_, rfl, by omega⟩
theorem sc_law_limit : FnScope ["_law_table", "_law_setting", "_law_some"] ["_law_table", "_law_setting"] (defScope s_law_limit) := ⟨rfl, rfl, rfl, by decide +kernel, rfl, by decide +kernel, by decide +kernel⟩
theorem ok_law_limit {f : Addr} {fd : FuncData} (F : Fun K "_law_limit" "_law_limit" s_law_limit f fd) (T : Txt K mg cl) (C_law_least : Cal P w K mg base 1 "_law_least" ["_law_numbers"] (sp_law_least K)) (C_law_high : Cal P w K mg base 2 "_law_high" ["_law_table", "_law_setting", "_law_x"] (sp_law_high K)) : FnOk P w K mg base CX0 3 f fd ["_law_table", "_law_setting"] (sp_law_limit K) := by
  refine F.ok sc_law_limit (fun vs H Q E h => ?_) (fun cdv A outer s H vs Q E hr h => ?_)
  · obtain ⟨p, rs, t, n, r, ss, rfl, hT, hS, hn, hrr, hl, q⟩ := h
    rfl
  · obtain ⟨p, rs, t, n, r, ss, rfl, hT, hS, hn, hrr, hl, q⟩ := h
    refine ⟨_, (pss_cons (ps_setComp (j := 2) ["_law_setting"] [1] sc_law_limit.nd rfl rfl rfl (pi_range1 rfl T.z_range (pa_cons (pe_callB call_len_seq rfl T.z_len PySem.boot_len (pa_cons (pv 1) pa_nil)) pa_nil)) (fun _ _ _ => pts_one (pt_cmpR op_isN (pe_ix (ix_listK (K := K) rfl) (pv 1) (pv 0) (fun _ _ => rfl)) pe_non (nomark _))) (fun _ _ _ => (pv 0)) (hk := by kernel_rfl))
      (pss_one (ps_ret (pec C_law_least (hr.mono (by decide)) rfl (pa_cons (pe_compS ["_law_table", "_law_setting"] [0, 1] rfl (pi_list (pv 2)) (fun _ _ _ => pts_nil) (fun _ _ _ => (pec C_law_high (hr.mono (by decide)) rfl (pa_cons (pv 1) (pa_cons (pv 2) (pa_cons (pv 0) pa_nil))))) (hk := by kernel_rfl)) pa_nil))))), ?_⟩
    refine ⟨_, rfl, r, _, rfl, .inl (SqL.of hrr), ((ss.length : Nat) : Int), by rw [List.length_map], by omega, by omega, comp_rangeF (lo := 0) (n := ((ss.length : Nat) : Int).toNat) (fun i acc H1 => H1 = H ∧ ∃ zs : List Int, acc = zs.map V.int ∧ zs.length ≤ i ∧ ∀ z, z ∈ zs ↔ (0 ≤ z ∧ z < i) ∧ stt ss z = none) (small (by omega)) ⟨rfl, [], rfl, Nat.le_refl _, fun z => ⟨fun h => (nomatch h), fun h => by have := h.1; omega⟩⟩ (fun i acc H1 ⟨_, zs, e, h, _⟩ => by rw [e, List.length_map]; exact h) ?_ ?_⟩
    · rintro i acc H1 hi ⟨rfl, zs, rfl, hz, g⟩ R Z kR kZ
      have ei : (0 + (i : Int)) = (i : Int) := Int.zero_add _
      refine ⟨_, rfl, _, rfl, r, _, _, _, rfl, rfl, SqL.of hrr, at_stt (by omega) (by omega), rfl, _, rfl, ?_⟩
      cases e : stt ss (0 + (i : Int)) with
      | some s =>
        refine iteF (kZ _ ⟨rfl, zs, rfl, by omega, fun z => ?_⟩)
        rw [g z]
        refine ⟨fun ⟨h1, h2⟩ => ⟨⟨h1.1, by omega⟩, h2⟩, fun ⟨h1, h2⟩ => ⟨⟨h1.1, ?_⟩, h2⟩⟩
        by_cases c : z = (i : Int)
        · rw [ei] at e; rw [c, e] at h2; cases h2
        · omega
      | none =>
        refine iteT ⟨_, rfl, kR _ _ ⟨rfl, zs ++ [0 + (i : Int)], by simp, by simp; omega, fun z => ?_⟩⟩
        rw [List.mem_append, g z, List.mem_singleton]
        constructor
        · rintro (⟨h1, h2⟩ | h)
          · exact ⟨⟨h1.1, by omega⟩, h2⟩
          · rw [h]; exact ⟨⟨by omega, by omega⟩, e⟩
        · rintro ⟨h1, h2⟩
          by_cases c : z = 0 + (i : Int)
          · exact .inr c
          · exact .inl ⟨⟨h1.1, by omega⟩, h2⟩
    · rintro acc H1 ⟨rfl, zs, rfl, lz, g⟩ r1 hr1
      rw [Int.toNat_natCast] at lz g
      have mz : ∀ z, z ∈ zs ↔ inN z n ∧ stt ss z = none := fun z => by rw [g z, hl]; exact Iff.rfl
      have s1 := same_new hr1 (.lst (zs.map V.int))
      have e1 : (upd H1 r1 (.lst (zs.map V.int))) r1 = some (.lst (zs.map V.int)) := upd_same
      generalize upd H1 r1 (.lst (zs.map V.int)) = H2 at s1 e1 ⊢
      refine ⟨_, rfl, r1, rfl, ⟨_, SqL.of e1⟩, comp_list (K := K) (a := r1) (xs := zs.map V.int) (fun i acc H3 => Same H2 H3 ∧ ∃ os : List (Option Int), acc = os.map ov ∧ os.length = i ∧ ∀ (j : Nat) (o : Option Int), os[j]? = some o → ∃ x, zs[j]? = some x ∧ IsHigh n t ss x o) (by rw [List.length_map]; exact small (by omega)) ⟨same_refl _, [], rfl, rfl, fun j o h => by simp at h⟩ (fun i acc H3 ⟨_, os, e, h, _⟩ => by rw [e, List.length_map]; exact h) (fun i acc H3 ⟨s, _⟩ => SqL.of (s _ _ e1)) ?_ ?_⟩
      · rintro i acc H3 y hy ⟨s3, os, rfl, lo, g'⟩ R kR
        obtain ⟨hi, ey⟩ := int_at hy
        generalize hpz : zs.getD i 0 = pz at ey
        subst ey
        have hz := get_getD hi hpz
        obtain ⟨hpN, hno⟩ := (mz pz).mp (List.mem_of_getElem? hz)
        refine ⟨_, rfl, _, rfl, _, rfl, p, rs, t, n, r, ss, pz, rfl, (hT.same s1).same s3, hS, hn, s3 _ _ (s1 _ _ hrr), hl, hpN, fun o H4 s4 U _ => kR _ _ ⟨s3.trans s4, os ++ [o], by simp, by simp [lo], fun j o' hj => ?_⟩⟩
        rcases snoc_get hj with h | ⟨rfl, rfl⟩
        · exact g' j o' h
        · rw [lo]; exact ⟨pz, hz, U hno⟩
      · rintro acc H3 ⟨s3, os, rfl, lo, g'⟩ pL hpL
        rw [List.length_map] at lo
        have s4 := (s1.trans s3).trans (same_new hpL (.lst (os.map ov)))
        exact ⟨pL, os, rfl, upd_same, by omega, fun m H5 s5 m1 m2 => q m H5 (s4.trans s5) (lim_of mz lo g' m1 m2)⟩
theorem sc_law_turn : FnScope ["_law_table", "_law_setting", "_law_now", "_law_x", "_law_y", "_law_low_here", "_law_high_here"] ["_law_table", "_law_setting", "_law_now", "_law_x"] (defScope s_law_turn) := ⟨rfl, rfl, rfl, by decide +kernel, rfl, by decide +kernel, by decide +kernel⟩
theorem ok_law_turn {f : Addr} {fd : FuncData} (F : Fun K "_law_turn" "_law_turn" s_law_turn f fd) (T : Txt K mg cl) (C_law_low : Cal P w K mg base 2 "_law_low" ["_law_table", "_law_setting", "_law_x"] (sp_law_low K)) (C_law_limit : Cal P w K mg base 3 "_law_limit" ["_law_table", "_law_setting"] (sp_law_limit K)) : FnOk P w K mg base CX0 4 f fd ["_law_table", "_law_setting", "_law_now", "_law_x"] (sp_law_turn K) := by
  refine F.ok sc_law_turn (fun vs H Q E h => ?_) (fun cdv A outer s H vs Q E hr h => ?_)
  · obtain ⟨p, rs, t, n, r, ss, z, x, rfl, hT, hS, hn, hrr, hl, hx, q⟩ := h
    rfl
  · obtain ⟨p, rs, t, n, r, ss, z, x, rfl, hT, hS, hn, hrr, hl, hx, q⟩ := h
    refine ⟨_, (pss_cons (ps_if (pt_cmpR op_notN (pe_ix ix_list (pv 1) (pv 3) (fun _ _ => rfl)) pe_non (nomark _))
      (pss_one (ps_ret pe_non))
      pss_nil)
      (pss_cons (ps_for PassesOwn.never rfl (pi_range1 rfl T.z_range (pa_cons (pe_callB call_len_seq rfl T.z_len PySem.boot_len (pa_cons (pv 1) pa_nil)) pa_nil)) (pg_name (i := 4) sc_law_turn.nd rfl (Or.inl rfl))
      (pss_one (ps_if (PW.pt (pw_and (pt_cmpR op_isN (pe_ix ix_list (pv 1) (pv 4) (fun _ _ => rfl)) pe_non (nomark _)) (pw_and (pt_cmpR op_notN (pe_ix ix_list (pe_ix ix_list (pv 0) (pv 3) (fun _ _ => rfl)) (pv 4) (fun _ _ => rfl)) pe_non (nomark _)) (pw_and1 (pt_cmpR op_lt (pe_ix ix_list (pe_ix ix_list (pv 0) (pv 3) (fun _ _ => rfl)) (pv 4) (fun _ _ => rfl)) pe_int (nomark _))))))
      (pss_one (ps_ret pe_non))
      pss_nil)))
      (pss_cons (ps_set (i := 5) sc_law_turn.nd rfl (Or.inl rfl) (pec C_law_low (hr.mono (by decide)) rfl (pa_cons (pv 0) (pa_cons (pv 1) (pa_cons (pv 3) pa_nil)))))
      (pss_cons (ps_if (PW.pt (pw_or (pt_cmpR op_isN (pv 5) pe_non (nomark _)) (pw_or1 (pt_cmpR op_lt (pv 5) (pv 2) (nomark _)))))
      (pss_one (ps_set (i := 5) sc_law_turn.nd rfl (Or.inl rfl) (pv 2)))
      pss_nil)
      (pss_cons (ps_set (i := 6) sc_law_turn.nd rfl (Or.inl rfl) (pec C_law_limit (hr.mono (by decide)) rfl (pa_cons (pv 0) (pa_cons (pv 1) pa_nil))))
      (pss_cons (ps_if (PW.pt (pw_and (pt_cmpR op_notN (pv 6) pe_non (nomark _)) (pw_and1 (pt_cmpR op_lt (pv 6) (pv 5) (nomark _)))))
      (pss_one (ps_ret pe_non))
      pss_nil)
      (pss_one (ps_ret (pe_tup (pa_cons (pv 5) (pa_cons (pv 6) pa_nil))))))))))), ?_⟩
    have hr1 := at_stt (ss := ss) hx.1 (by rw [hl]; exact hx.2)
    refine ⟨_, rfl, _, rfl, r, _, _, _, rfl, rfl, SqL.of hrr, hr1, rfl, _, rfl, ?_⟩
    cases es : stt ss x with
    | some s => exact iteT (q .non none H (same_refl H) (.inl ⟨s, es⟩) (.inl ⟨rfl, rfl⟩))
    | none =>
      refine iteF ?_
      refine ⟨_, rfl, r, _, rfl, .inl (SqL.of hrr), ((n : Nat) : Int), by rw [List.length_map, hl], by omega, by omega, for_range (lo := 0) (n := ((n : Nat) : Int).toNat) (fun i σ H2 => H2 = H ∧ (∀ y e, inN y i → stt ss y = none → ent t x y = some e → 0 ≤ e) ∧ ∃ u4 u5 u6, σ = [some (.ref p), some (.ref r), some (.int z), some (.int x), u4, u5, u6]) ⟨rfl, fun y e hy => absurd hy.1 (by have := hy.2; omega), _, _, _, rfl⟩ ?_ ?_⟩
      · rintro i σ H2 hi ⟨rfl, hf, u4, u5, u6, rfl⟩
        have hi' : inN (0 + (i : Int)) n := ⟨by omega, by omega⟩
        obtain ⟨ry, rowy, y1, y2, y3⟩ := hT.at hS hx hi'
        have a1 := at_stt (ss := ss) (p := 0 + (i : Int)) hi'.1 (by rw [hl]; exact hi'.2)
        have step : (stt ss (0 + (i : Int)) = none → ∀ e, ent t x (0 + (i : Int)) = some e → 0 ≤ e) → ∀ y e, inN y (i + 1) → stt ss y = none → ent t x y = some e → 0 ≤ e := fun h y e hy hs he => by
          by_cases c : y = 0 + (i : Int)
          · subst c; exact h hs e he
          · exact hf y e ⟨hy.1, by have := hy.2; omega⟩ hs he
        refine ⟨_, rfl, _, rfl, r, _, _, _, rfl, rfl, SqL.of hrr, a1, rfl, _, rfl, ?_⟩
        cases e1 : stt ss (0 + (i : Int)) with
        | some s => exact iteF (iteF ⟨rfl, step fun h => (by rw [e1] at h; cases h), _, _, _, rfl⟩)
        | none =>
          refine iteT ⟨_, rfl, _, rfl, p, _, _, _, rfl, rfl, SqL.of hT.ob, y1, _, rfl, ry, _, _, _, rfl, rfl, SqL.of y2, y3, rfl, _, rfl, ?_⟩
          cases e2 : ent t x (0 + (i : Int)) with
          | none => exact iteF (iteF ⟨rfl, step fun _ e h => (by rw [e2] at h; cases h), _, _, _, rfl⟩)
          | some w =>
            rw [e2] at y3
            refine iteT ⟨_, rfl, _, rfl, p, _, _, _, rfl, rfl, SqL.of hT.ob, y1, _, rfl, ry, _, _, _, rfl, rfl, SqL.of y2, y3, _, _, rfl, rfl, _, rfl, ?_⟩
            refine ite2 (fun c => ?_) (fun c => ?_)
            · exact q .non none H2 (same_refl H2) (.inr (.inl ⟨_, w, hi', e1, e2, of_decide_eq_true c⟩)) (.inl ⟨rfl, rfl⟩)
            · have c' : ¬ w < 0 := of_decide_eq_false (Bool.eq_false_iff.mpr c)
              exact ⟨rfl, step fun _ e h => (by rw [e2] at h; cases h; omega), _, _, _, rfl⟩
      · rintro σ H2 ⟨rfl, hf, u4, u5, u6, rfl⟩
        rw [Int.toNat_natCast] at hf
        refine ⟨_, rfl, _, rfl, _, rfl, p, rs, t, n, r, ss, x, rfl, hT, hS, hn, hrr, hl, hx, es, fun lw H3 s3 L => ?_⟩
        refine ⟨_, rfl, rfl, _, rfl, ?_⟩
        apply restV (C := fun v => v = .int (lowZ z lw))
        · intro rest
          cases hc : decide (ov lw = V.non) with
          | true =>
            have e : lw = none := by
              cases lw with
              | none => rfl
              | some w => cases hc
            refine iteT (iteT ⟨_, rfl, ?_⟩)
            have h0 : V.int z = .int (lowZ z lw) := by rw [e]; rfl
            generalize V.int z = v at h0 ⊢
            exact rest v h0
          | false =>
            obtain ⟨w, e⟩ : ∃ w, lw = some w := by
              cases lw with
              | none => cases hc
              | some w => exact ⟨w, rfl⟩
            refine iteF ⟨_, rfl, _, rfl, _, _, (by rw [e]; rfl), rfl, _, rfl, ?_⟩
            refine ite2 (fun c => ?_) (fun c => ?_)
            · have c' : w < z := of_decide_eq_true c
              exact ⟨_, rfl, rest (.int z) (by rw [e]; unfold lowZ; dsimp only; rw [if_pos c'])⟩
            · have c' : ¬ w < z := of_decide_eq_false (Bool.eq_false_iff.mpr c)
              exact rest (ov lw) (by rw [e]; unfold lowZ; dsimp only; rw [if_neg c']; rfl)
        rintro _ rfl
        refine ⟨_, rfl, _, rfl, p, rs, t, n, r, ss, rfl, hT.same s3, hS, hn, s3 _ _ hrr, hl, fun hi H4 s4 M => ?_⟩
        have s24 := s3.trans s4
        have fin : (∀ h, hi = some h → lowZ z lw ≤ h) → ∀ u', H4 u' = none → Q (.ref u') (upd H4 u' (.tup [.int (lowZ z lw), ov hi])) := fun hc u' hu' => q (.ref u') (some (lowZ z lw, hi)) _ (s24.trans (same_new hu' _)) ⟨es, hf, lw, L, M, rfl, hc⟩ (.inr ⟨u', _, hi, rfl, upd_same, rfl⟩)
        refine ⟨_, rfl, rfl, _, rfl, ?_⟩
        cases hi with
        | none => exact iteF (iteF ⟨_, rfl, _, rfl, (by show 2 ≤ sizeLine; decide), fun u' hu' => fin (fun h e => (nomatch e)) u' hu'⟩)
        | some h =>
          refine iteT ⟨_, rfl, _, rfl, _, _, rfl, rfl, _, rfl, ?_⟩
          refine ite2 (fun d => ?_) (fun d => ?_)
          · have d' : h < lowZ z lw := of_decide_eq_true d
            exact q .non none H4 s24 (.inr (.inr ⟨lw, h, L, M, d'⟩)) (.inl ⟨rfl, rfl⟩)
          · have d' : ¬ h < lowZ z lw := of_decide_eq_false (Bool.eq_false_iff.mpr d)
            exact ⟨_, rfl, _, rfl, (by show 2 ≤ sizeLine; decide), fun u' hu' => fin (fun h' e => by cases e; omega) u' hu'⟩
theorem sc_law_number_like : FnScope ["_law_found", "_law_due"] ["_law_found", "_law_due"] (defScope s_law_number_like) := ⟨rfl, rfl, rfl, by decide +kernel, rfl, by decide +kernel, by decide +kernel⟩
theorem ok_law_number_like {f : Addr} {fd : FuncData} (F : Fun K "_law_number_like" "_law_number_like" s_law_number_like f fd) (T : Txt K mg cl) (C_law_whole : Cal P w K mg base 1 "_law_whole" ["_law_found"] (sp_law_whole K)) : FnOk P w K mg base CX0 2 f fd ["_law_found", "_law_due"] (sp_law_number_like K) := by
  refine F.ok sc_law_number_like (fun vs H Q E h => ?_) (fun cdv A outer s H vs Q E hr h => ?_)
  · obtain ⟨o, rfl, q⟩ := h
    rfl
  · obtain ⟨o, rfl, q⟩ := h
    refine ⟨_, (pss_cons (ps_if (pt_cmpR op_isN (pv 1) pe_non (nomark _))
      (pss_one (ps_ret (pe_cmpR op_isN (pv 0) pe_non (nomark _))))
      pss_nil)
      (pss_one (ps_ret (pe_and (pec C_law_whole (hr.mono (by decide)) rfl (pa_cons (pv 0) pa_nil)) (pe_one (pe_cmpR op_eq (pv 0) (pv 1) (nomark _))))))), ?_⟩
    refine ⟨_, rfl, rfl, _, rfl, ?_⟩
    cases o with
    | none => exact iteT ⟨_, rfl, rfl, q⟩
    | some z =>
      refine iteF ⟨_, rfl, z, rfl, _, rfl, iteT ⟨_, rfl, _, rfl, rfl, ?_⟩⟩
      have e : decide (V.int z = V.int z) = true := decide_eq_true rfl
      show Q (.bl (decide (V.int z = V.int z))) H
      rw [e]
      exact q
theorem sc_law_turn_like : FnScope ["_law_found", "_law_due"] ["_law_found", "_law_due"] (defScope s_law_turn_like) := ⟨rfl, rfl, rfl, by decide +kernel, rfl, by decide +kernel, by decide +kernel⟩
theorem ok_law_turn_like {f : Addr} {fd : FuncData} (F : Fun K "_law_turn_like" "_law_turn_like" s_law_turn_like f fd) (T : Txt K mg cl) (C_law_number_like : Cal P w K mg base 2 "_law_number_like" ["_law_found", "_law_due"] (sp_law_number_like K)) : FnOk P w K mg base CX0 3 f fd ["_law_found", "_law_due"] (sp_law_turn_like K) := by
  refine F.ok sc_law_turn_like (fun vs H Q E h => ?_) (fun cdv A outer s H vs Q E hr h => ?_)
  · obtain ⟨v, w, o, rfl, hv, hw, q⟩ := h
    rfl
  · obtain ⟨v, w, o, rfl, hv, hw, q⟩ := h
    refine ⟨_, (pss_cons (ps_if (pt_cmpR op_isN (pv 1) pe_non (nomark _))
      (pss_one (ps_ret (pe_cmpR op_isN (pv 0) pe_non (nomark _))))
      pss_nil)
      (pss_cons (ps_if (PW.pt (pw_or (pt_not (pt_val (pe_callB call_isi rfl T.z_isinstance boot_isinstance (pa_cons (pv 0) (pa_cons (pe_bltn (v := .ty "tuple") rfl T.z_tuple boot_tuple rfl) pa_nil))))) (pw_or1 (pt_cmpR op_ne (pe_callB call_len_seq rfl T.z_len PySem.boot_len (pa_cons (pv 0) pa_nil)) pe_int (nomark _)))))
      (pss_one (ps_ret pe_bl))
      pss_nil)
      (pss_one (ps_ret (pe_and (pec C_law_number_like (hr.mono (by decide)) rfl (pa_cons (pe_ix ix_tup (pv 0) pe_int (fun _ _ => rfl)) (pa_cons (pe_ix ix_tup (pv 1) pe_int (fun _ _ => rfl)) pa_nil))) (pe_one (pec C_law_number_like (hr.mono (by decide)) rfl (pa_cons (pe_ix ix_tup (pv 0) pe_int (fun _ _ => rfl)) (pa_cons (pe_ix ix_tup (pv 1) pe_int (fun _ _ => rfl)) pa_nil))))))))), ?_⟩
    rcases hv with ⟨rfl, rfl⟩ | ⟨u, l, hi, rfl, hu, rfl⟩
    · rcases hw with ⟨rfl, _⟩ | ⟨u, l, hi, _, _, e⟩
      · exact ⟨_, rfl, rfl, _, rfl, iteT ⟨_, rfl, rfl, q⟩⟩
      · cases e
    · rcases hw with ⟨_, e⟩ | ⟨u', l', hi', rfl, hu', e⟩
      · cases e
      cases e
      refine ⟨_, rfl, rfl, _, rfl, iteF ?_⟩
      refine ⟨_, rfl, _, _, _, _, rfl, .tup hu, kit_same, _, rfl, ?_⟩
      refine iteF ⟨_, rfl, u, _, rfl, .inr (SqT.of hu), rfl, _, rfl, ?_⟩
      refine iteNS rfl ?_
      refine ⟨_, rfl, u, _, 0, _, rfl, rfl, SqT.of hu, rfl, _, rfl, u', _, 0, _, rfl, rfl, SqT.of hu', rfl, some l, rfl, _, rfl, iteT ?_⟩
      exact ⟨_, rfl, u, _, 1, _, rfl, rfl, SqT.of hu, rfl, _, rfl, u', _, 1, _, rfl, rfl, SqT.of hu', rfl, hi, rfl, q⟩
theorem sc_law_course_good : FnScope ["_law_times_here", "_law_bounds_here", "_law_setting", "_law_now", "_law_x", "_law_bound"] ["_law_times_here", "_law_bounds_here", "_law_setting", "_law_now"] (defScope s_law_course_good) := ⟨rfl, rfl, rfl, by decide +kernel, rfl, by decide +kernel, by decide +kernel⟩
theorem ok_law_course_good {f : Addr} {fd : FuncData} (F : Fun K "_law_course_good" "_law_course_good" s_law_course_good f fd) (T : Txt K mg cl) (C_law_whole : Cal P w K mg base 1 "_law_whole" ["_law_found"] (sp_law_whole K)) : FnOk P w K mg base CX0 2 f fd ["_law_times_here", "_law_bounds_here", "_law_setting", "_law_now"] (sp_law_course_good K) := by
  refine F.ok sc_law_course_good (fun vs H Q E h => ?_) (fun cdv A outer s H vs Q E hr h => ?_)
  · obtain ⟨u, rb, r, ts, ss, qs, bs, n, z, rfl, hu, hB, aB, hrr, lt, ls, hn, hw, hk, hh, hf, q⟩ := h
    rfl
  · obtain ⟨u, rb, r, ts, ss, qs, bs, n, z, rfl, hu, hB, aB, hrr, lt, ls, hn, hw, hk, hh, hf, q⟩ := h
    refine ⟨_, (pss_cons (ps_if (PW.pt (pw_or (pt_not (pt_val (pe_callB call_isi rfl T.z_isinstance boot_isinstance (pa_cons (pv 0) (pa_cons (pe_bltn (v := .ty "tuple") rfl T.z_tuple boot_tuple rfl) pa_nil))))) (pw_or1 (pt_cmpR op_ne (pe_callB call_len_seq rfl T.z_len PySem.boot_len (pa_cons (pv 0) pa_nil)) (pe_callB call_len_seq rfl T.z_len PySem.boot_len (pa_cons (pv 2) pa_nil)) (nomark _)))))
      (pss_one (ps_ret pe_bl))
      pss_nil)
      (pss_cons (ps_for PassesOwn.never rfl (pi_range1 rfl T.z_range (pa_cons (pe_callB call_len_seq rfl T.z_len PySem.boot_len (pa_cons (pv 2) pa_nil)) pa_nil)) (pg_name (i := 4) sc_law_course_good.nd rfl (Or.inl rfl))
      (pss_cons (ps_if (pt_not (pt_val (pec C_law_whole (hr.mono (by decide)) rfl (pa_cons (pe_ix ix_tup (pv 0) (pv 4) (fun _ _ => rfl)) pa_nil))))
      (pss_one (ps_ret pe_bl))
      pss_nil)
      (pss_cons (ps_if (PW.pt (pw_and (pt_cmpR op_notN (pe_ix ix_list (pv 2) (pv 4) (fun _ _ => rfl)) pe_non (nomark _)) (pw_and1 (pt_cmpR op_ne (pe_ix ix_tup (pv 0) (pv 4) (fun _ _ => rfl)) (pe_ix ix_list (pv 2) (pv 4) (fun _ _ => rfl)) (nomark _)))))
      (pss_one (ps_ret pe_bl))
      pss_nil)
      (pss_one (ps_if (PW.pt (pw_and (pt_cmpR op_isN (pe_ix ix_list (pv 2) (pv 4) (fun _ _ => rfl)) pe_non (nomark _)) (pw_and1 (pt_cmpR op_lt (pe_ix ix_tup (pv 0) (pv 4) (fun _ _ => rfl)) (pv 3) (nomark _)))))
      (pss_one (ps_ret pe_bl))
      pss_nil)))))
      (pss_cons (ps_for PassesOwn.never rfl (pi_list (pv 1)) (pg_name (i := 5) sc_law_course_good.nd rfl (Or.inl rfl))
      (pss_one (ps_if (pt_cmpR op_gt (pe_op op_sub (pe_ix ix_tup (pv 0) (pe_ix ix_tup (pv 5) pe_int (fun _ _ => rfl)) (fun _ _ => rfl)) (pe_ix ix_tup (pv 0) (pe_ix ix_tup (pv 5) pe_int (fun _ _ => rfl)) (fun _ _ => rfl))) (pe_ix ix_tup (pv 5) pe_int (fun _ _ => rfl)) (nomark _))
      (pss_one (ps_ret pe_bl))
      pss_nil)))
      (pss_one (ps_ret pe_bl))))), ?_⟩
    refine ⟨_, rfl, _, _, _, _, rfl, .tup hu, kit_same, _, rfl, ?_⟩
    refine iteF ⟨_, rfl, u, _, rfl, .inr (SqT.of hu), _, rfl, r, _, rfl, .inl (SqL.of hrr), rfl, _, rfl, ?_⟩
    refine iteNS (by rw [List.length_map, List.length_map, lt, ls]) ?_
    refine ⟨_, rfl, r, _, rfl, .inl (SqL.of hrr), ((n : Nat) : Int), by rw [List.length_map, ls], by omega, by omega, for_range (lo := 0) (n := ((n : Nat) : Int).toNat) (fun i σ H2 => H2 = H ∧ ∃ u4 u5, σ = [some (.ref u), some (.ref rb), some (.ref r), some (.int z), u4, u5]) ⟨rfl, _, _, rfl⟩ ?_ ?_⟩
    · rintro i σ H2 hi ⟨rfl, u4, u5, rfl⟩
      have hx : inN (0 + (i : Int)) n := ⟨by omega, by omega⟩
      have ti := at_int (ns := ts) (i := 0 + (i : Int)) hx.1 (by rw [lt]; exact hx.2)
      have a1 := at_stt (ss := ss) (p := 0 + (i : Int)) hx.1 (by rw [ls]; exact hx.2)
      refine ⟨_, rfl, _, rfl, u, _, _, _, rfl, rfl, SqT.of hu, ti, _, rfl, _, rfl, iteF ?_⟩
      refine ⟨_, rfl, _, rfl, r, _, _, _, rfl, rfl, SqL.of hrr, a1, rfl, _, rfl, ?_⟩
      cases e : stt ss (0 + (i : Int)) with
      | some s =>
        rw [e] at a1
        refine iteT ⟨_, rfl, _, rfl, u, _, _, _, rfl, rfl, SqT.of hu, ti, _, rfl, _, rfl, r, _, _, _, rfl, rfl, SqL.of hrr, a1, rfl, _, rfl, ?_⟩
        refine iteNS (by rw [hh _ s hx e]; rfl) ?_
        exact ⟨_, rfl, _, rfl, r, _, _, _, rfl, rfl, SqL.of hrr, a1, rfl, _, rfl, iteF (iteF ⟨rfl, _, _, rfl⟩)⟩
      | none =>
        rw [e] at a1
        refine iteF (iteF ⟨_, rfl, _, rfl, r, _, _, _, rfl, rfl, SqL.of hrr, a1, rfl, _, rfl, iteT ⟨_, rfl, _, rfl, u, _, _, _, rfl, rfl, SqT.of hu, ti, _, rfl, _, _, rfl, rfl, _, rfl, ?_⟩⟩)
        refine ite2 (fun c => ?_) (fun _ => ⟨rfl, _, _, rfl⟩)
        have c' : ts.getD (0 + (i : Int)).toNat 0 < z := of_decide_eq_true c
        have := hf _ hx e
        omega
    · rintro σ H2 ⟨rfl, u4, u5, rfl⟩
      refine ⟨_, rfl, rb, rfl, ⟨_, SqL.of hB⟩, for_list (K := K) (a := rb) (xs := qs) (fun i σ H3 => H3 = H2 ∧ ∃ u4 u5, σ = [some (.ref u), some (.ref rb), some (.ref r), some (.int z), u4, u5]) ⟨rfl, _, _, rfl⟩ (fun i σ H3 _ ⟨e, _⟩ => by rw [e]; exact SqL.of hB) ?_ ?_⟩
      · rintro i x σ H3 hi ⟨rfl, u4, u5, rfl⟩
        obtain ⟨pb, m, hm, rfl, hp⟩ := aB.get hi
        have mm := List.mem_of_getElem? hm
        obtain ⟨m1, m2⟩ := hw m mm
        refine ⟨_, rfl, _, rfl, pb, _, 1, _, rfl, rfl, SqT.of hp, rfl, u, _, _, _, rfl, rfl, SqT.of hu, at_int m2.1 (by rw [lt]; exact m2.2), _, rfl, _, rfl, pb, _, 0, _, rfl, rfl, SqT.of hp, rfl, u, _, _, _, rfl, rfl, SqT.of hu, at_int m1.1 (by rw [lt]; exact m1.2), _, _, rfl, rfl, _, rfl, pb, _, 2, _, rfl, rfl, SqT.of hp, rfl, _, _, rfl, rfl, _, rfl, ?_⟩
        refine ite2 (fun c => ?_) (fun _ => ⟨rfl, _, _, rfl⟩)
        have h1 := of_decide_eq_true c
        have h2 : tm ts m.1 m.2.1 ≤ m.2.2 := of_decide_eq_true (hk m mm)
        unfold tm at h2
        omega
      · rintro σ H3 ⟨rfl, u4, u5, rfl⟩
        exact q
theorem sc_law_near : FnScope ["_law_cell_here", "_law_ends", "_law_plain", "_law_some"] ["_law_cell_here", "_law_ends", "_law_plain"] (defScope s_law_near) := ⟨rfl, rfl, rfl, by decide +kernel, rfl, by decide +kernel, by decide +kernel⟩
theorem ok_law_near {f : Addr} {fd : FuncData} (F : Fun K "_law_near" "_law_near" s_law_near f fd) (T : Txt K mg cl)  : FnOk P w K mg base CX0 1 f fd ["_law_cell_here", "_law_ends", "_law_plain"] (sp_law_near K) := by
  refine F.ok sc_law_near (fun vs H Q E h => ?_) (fun cdv A outer s H vs Q E hr h => ?_)
  · obtain ⟨c, p, re, os, rfl, hre, hn, q⟩ := h
    rfl
  · obtain ⟨c, p, re, os, rfl, hre, hn, q⟩ := h
    refine ⟨_, (pss_cons (ps_set (i := 3) sc_law_near.nd rfl (Or.inl rfl) (pe_op op_cat (pe_compS [] [] rfl (pi_list (pv 1)) (fun _ _ _ => pts_one (pt_cmpR op_notN (pv 0) pe_non (nomark _))) (fun _ _ _ => (pv 0)) (hk := by kernel_rfl)) (pe_lst (pa_cons (pv 2) pa_nil))))
      (pss_one (ps_ret (pe_op op_sub (pe_op op_add (pe_ix ix_list (pv 3) (pe_op op_mod (pv 0) (pe_callB call_len_seq rfl T.z_len PySem.boot_len (pa_cons (pv 3) pa_nil))) (fun _ _ => rfl)) (pe_op op_mod (pe_op op_fdiv (pv 0) pe_int) pe_int)) pe_int)))), ?_⟩
    refine ⟨_, rfl, re, rfl, ⟨_, SqL.of hre⟩, comp_listF (K := K) (a := re) (xs := os.map ov) (fun i acc H1 => H1 = H ∧ ∃ ms : List Int, acc = ms.map V.int ∧ ms.length ≤ i) (by rw [List.length_map]; exact small (by omega)) ⟨rfl, [], rfl, Nat.le_refl _⟩ (fun i acc H1 ⟨_, ms, e, h⟩ => by rw [e, List.length_map]; exact h) (fun i acc H1 ⟨e, _⟩ => by rw [e]; exact SqL.of hre) ?_ ?_⟩
    · rintro i acc H1 y hy ⟨rfl, ms, rfl, hms⟩ R Z kR kZ
      obtain ⟨o, ho, rfl⟩ := ov_at hy
      refine ⟨_, rfl, rfl, _, rfl, ?_⟩
      cases o with
      | none => exact iteF (kZ _ ⟨rfl, ms, rfl, by omega⟩)
      | some z => exact iteT ⟨_, rfl, kR _ _ ⟨rfl, ms ++ [z], by rw [List.map_append]; rfl, by simp; omega⟩⟩
    · rintro acc H1 ⟨rfl, ms, rfl, hms⟩ l hl
      rw [List.length_map] at hms
      have s1 := same_new hl (.lst (ms.map V.int))
      have e1 : (upd H1 l (.lst (ms.map V.int))) l = some (.lst (ms.map V.int)) := upd_same
      generalize upd H1 l (.lst (ms.map V.int)) = H2 at s1 e1 ⊢
      refine ⟨_, rfl, (by show 1 ≤ sizeLine; decide), fun l2 hl2 => ?_⟩
      have s2 := same_new hl2 (.lst [.int p])
      have e2 : (upd H2 l2 (.lst [.int p])) l2 = some (.lst [.int p]) := upd_same
      generalize upd H2 l2 (.lst [.int p]) = H3 at s2 e2 ⊢
      refine ⟨l, l2, _, _, rfl, rfl, s2 _ _ e1, e2, small (by rw [List.length_map]; show _ + 1 ≤ _; omega), fun l3 hl3 => ?_⟩
      have s3 := same_new hl3 (.lst (ms.map V.int ++ [.int p]))
      have e3 : (upd H3 l3 (.lst (ms.map V.int ++ [.int p]))) l3 = some (.lst ((ms ++ [p]).map V.int)) := by rw [upd_same, List.map_append]; rfl
      generalize upd H3 l3 (.lst (ms.map V.int ++ [.int p])) = H4 at s3 e3 ⊢
      have lm : ((ms ++ [p]).map V.int).length = ms.length + 1 := by rw [List.length_map, List.length_append]; rfl
      have L1 : (0 : Int) < ((((ms ++ [p]).map V.int).length : Nat) : Int) := by omega
      have lm2 : (ms ++ [p]).length = ms.length + 1 := by rw [List.length_append]; rfl
      have k0 := Int.emod_nonneg c (b := ((((ms ++ [p]).map V.int).length : Nat) : Int)) (by omega)
      have k1 := Int.emod_lt_of_pos c L1
      exact ⟨_, rfl, _, rfl, _, rfl, l3, _, rfl, .inl (SqL.of e3), _, _, rfl, rfl, L1, l3, _, _, _, rfl, rfl, SqL.of e3, at_int k0 (by omega), _, rfl, _, _, rfl, rfl, ⟨by decide, by decide⟩, _, _, rfl, rfl, (by show (0 : Int) < 3; decide), _, _, rfl, rfl, _, _, rfl, rfl, q _ H4 ((s1.trans s2).trans s3)⟩
theorem sc_law_only_time : FnScope ["_law_some"] ["_law_some"] (defScope s_law_only_time) := ⟨rfl, rfl, rfl, by decide +kernel, rfl, by decide +kernel, by decide +kernel⟩
theorem ok_law_only_time {f : Addr} {fd : FuncData} (F : Fun K "_law_only_time" "_law_only_time" s_law_only_time f fd) (T : Txt K mg cl)  : FnOk P w K mg base CX0 1 f fd ["_law_some"] (sp_law_only_time K cl) := by
  refine F.ok sc_law_only_time (fun vs H Q E h => ?_) (fun cdv A outer s H vs Q E hr h => ?_)
  · obtain ⟨e, rfl, he, q⟩ := h
    rfl
  · obtain ⟨e, rfl, he, q⟩ := h
    refine ⟨_, (pss_cons (ps_if (PW.pt (pw_or (pt_not (pt_val (pe_callB call_isiX rfl T.z_isinstance boot_isinstance (pa_cons (pv 0) (pa_cons (pe_glob (v := .ref cl.NoTime) rfl T.g_NoTime rfl) pa_nil))))) (pw_or1 (pt_not (pt_val (pe_callB call_isiX rfl T.z_isinstance boot_isinstance (pa_cons (pv 0) (pa_cons (pe_bltn (v := .ty "ValueError") rfl T.z_ValueError boot_ValueError rfl) pa_nil))))))))
      (pss_one (ps_ret pe_bl))
      pss_nil)
      (pss_cons (ps_if (PW.pt (pw_or (pt_val (pe_callB call_isiX rfl T.z_isinstance boot_isinstance (pa_cons (pv 0) (pa_cons (pe_glob (v := .ref cl.NoLink) rfl T.g_NoLink rfl) pa_nil)))) (pw_or (pt_val (pe_callB call_isiX rfl T.z_isinstance boot_isinstance (pa_cons (pv 0) (pa_cons (pe_glob (v := .ref cl.NoRoom) rfl T.g_NoRoom rfl) pa_nil)))) (pw_or1 (pt_val (pe_callB call_isiX rfl T.z_isinstance boot_isinstance (pa_cons (pv 0) (pa_cons (pe_glob (v := .ref cl.NoName) rfl T.g_NoName rfl) pa_nil))))))))
      (pss_one (ps_ret pe_bl))
      pss_nil)
      (pss_one (ps_ret (pe_and (pe_not (pe_callB call_isiX rfl T.z_isinstance boot_isinstance (pa_cons (pv 0) (pa_cons (pe_glob (v := .ref cl.NoKeep) rfl T.g_NoKeep rfl) pa_nil)))) (pe_one (pe_not (pe_callB call_isiX rfl T.z_isinstance boot_isinstance (pa_cons (pv 0) (pa_cons (pe_glob (v := .ref cl.NoRow) rfl T.g_NoRow rfl) pa_nil)))))))))), ?_⟩
    refine ⟨_, rfl, e, cl.NoTime, .ref cl.NoTime, true, rfl, he, T.k_NoTime, T.is_T, _, rfl, iteF ⟨_, rfl, e, cl.NoTime, .ty "ValueError", true, rfl, he, T.k_NoTime, T.is_V, _, rfl, iteF ?_⟩⟩
    refine ⟨_, rfl, e, cl.NoTime, .ref cl.NoLink, false, rfl, he, T.k_NoTime, T.no_L, _, rfl, iteF ⟨_, rfl, e, cl.NoTime, .ref cl.NoRoom, false, rfl, he, T.k_NoTime, T.no_R, _, rfl, iteF ⟨_, rfl, e, cl.NoTime, .ref cl.NoName, false, rfl, he, T.k_NoTime, T.no_N, _, rfl, iteF ?_⟩⟩⟩
    refine ⟨_, rfl, e, cl.NoTime, .ref cl.NoKeep, false, rfl, he, T.k_NoTime, T.no_K, _, rfl, _, rfl, iteT ⟨_, rfl, e, cl.NoTime, .ref cl.NoRow, false, rfl, he, T.k_NoTime, T.no_W, _, rfl, q⟩⟩
theorem sc_Clock___init__ : FnScope ["self", "table", "start"] ["self", "table", "start"] (defScope s_Clock___init__) := ⟨rfl, rfl, rfl, by decide +kernel, rfl, by decide +kernel, by decide +kernel⟩
theorem ok_Clock___init__ {f : Addr} {fd : FuncData} (F : Fun K "__init__" "Clock.__init__" s_Clock___init__ f fd) (T : Txt K mg cl)  : FnOk P w K mg base CX0 1 f fd ["self", "table", "start"] (sp_Clock___init__ K cl) := by
  refine F.ok sc_Clock___init__ (fun vs H Q E h => ?_) (fun cdv A outer s H vs Q E hr h => ?_)
  · obtain ⟨x, dx, p, rs, t, n, z, rfl, hx, hT, hS, hn, q⟩ := h
    rfl
  · obtain ⟨x, dx, p, rs, t, n, z, rfl, hx, hT, hS, hn, q⟩ := h
    refine ⟨_, (pss_cons (ps_fld (pv 0) (pe_compS [] [] rfl (pi_list (pv 1)) (fun _ _ _ => pts_nil) (fun _ _ _ => (pe_callTy (call_list_ofK (K := K) rfl) rfl T.z_list boot_list (pa_cons (pv 0) pa_nil))) (hk := by kernel_rfl)) rfl)
      (pss_cons (ps_fld (pv 0) (pe_compS [] [] rfl (pi_list (pv 1)) (fun _ _ _ => pts_nil) (fun _ _ _ => pe_non) (hk := by kernel_rfl)) rfl)
      (pss_one (ps_fld (pv 0) (pv 2) rfl)))), ?_⟩
    have hlr := hT.len hS
    have hsz : rs.length ≤ sizeLine := by rw [List.length_map] at hlr; rw [hlr]; exact small (by omega)
    refine ⟨_, rfl, p, rfl, ⟨_, SqL.of hT.ob⟩, comp_copies hT hsz ?_ fun pr rr H1 N => ?_⟩
    · intro i H1' r row _ _ hr R' kR
      exact ⟨_, rfl, r, _, rfl, .inl (SqL.of hr), fun l hl => kR l hl⟩
    have x1 := N.sm _ _ hx
    have T1 := hT.same N.sm
    refine ⟨_, rfl, x, cl.Clock, dx, [], rfl, x1, T.cl_Clock, T.n_Clock_rows, (by show 0 < 1000; decide), ?_⟩
    have b1 : But x H1 (upd H1 x (.ins cl.Clock dx (putF "rows" (.ref pr) []))) := fun b o e h => by rw [upd_ne h]; exact e
    obtain ⟨k1, k2⟩ := T1.neIns x1
    obtain ⟨k3, k4⟩ := N.tb.neIns x1
    have T2 := b1.tab T1 k1 k2
    have P2 := b1.tab N.tb k3 k4
    have x2 : (upd H1 x (.ins cl.Clock dx (putF "rows" (.ref pr) []))) x = some (.ins cl.Clock dx (putF "rows" (.ref pr) [])) := upd_same
    generalize upd H1 x (.ins cl.Clock dx (putF "rows" (.ref pr) [])) = H2 at b1 T2 P2 x2 ⊢
    refine ⟨_, rfl, p, rfl, ⟨_, SqL.of T2.ob⟩, comp_list (K := K) (a := p) (xs := rs.map V.ref) (fun i acc H3 => H3 = H2 ∧ acc = List.replicate i V.non) (by rw [List.length_map]; exact hsz) ⟨rfl, rfl⟩ (fun i acc H3 ⟨_, e⟩ => by rw [e, List.length_replicate]) (fun i acc H3 ⟨e, _⟩ => by rw [e]; exact SqL.of T2.ob) ?_ ?_⟩
    · rintro i acc H3 y hy ⟨rfl, rfl⟩ R kR
      exact kR _ _ ⟨rfl, by rw [List.replicate_succ']⟩
    rintro acc H3 ⟨rfl, rfl⟩ pt hpt
    rw [hlr]
    have em : List.replicate n V.non = (List.replicate n (none : Option Int)).map ov := by rw [List.map_replicate]; rfl
    have s3 := same_new hpt (.lst (List.replicate n V.non))
    have e3 : (upd H3 pt (.lst (List.replicate n V.non))) pt = some (.lst ((List.replicate n (none : Option Int)).map ov)) := by rw [upd_same, em]
    generalize upd H3 pt (.lst (List.replicate n V.non)) = H4 at s3 e3 ⊢
    have x4 := s3 _ _ x2
    refine ⟨_, rfl, x, cl.Clock, dx, _, rfl, x4, T.cl_Clock, T.n_Clock_times, (by show 1 < 1000; decide), ?_⟩
    have P4 := P2.same s3
    have b4 : But x H4 (upd H4 x (.ins cl.Clock dx (putF "times" (.ref pt) (putF "rows" (.ref pr) [])))) := fun b o e h => by rw [upd_ne h]; exact e
    have nx : pt ≠ x := ne_of e3 x4 (fun z => by cases z)
    have n2 : ∀ b o, H3 b = some o → b ≠ pt := fun b o e => ne_of_none e hpt
    have bx : But x H H4 := fun b o e h => s3 _ _ (b1 _ _ (N.sm _ _ e) h)
    have x5 : (upd H4 x (.ins cl.Clock dx (putF "times" (.ref pt) (putF "rows" (.ref pr) [])))) x = some (.ins cl.Clock dx (putF "times" (.ref pt) (putF "rows" (.ref pr) []))) := upd_same
    have e5 := b4 _ _ e3 nx
    have P5 := b4.tab P4 k3 k4
    generalize upd H4 x (.ins cl.Clock dx (putF "times" (.ref pt) (putF "rows" (.ref pr) []))) = H5 at b4 x5 e5 P5 ⊢
    refine ⟨_, rfl, _, rfl, x, cl.Clock, dx, _, rfl, x5, T.cl_Clock, T.n_Clock_present, (by show 2 < 1000; decide), ?_⟩
    have b5 : But x H5 (upd H5 x (.ins cl.Clock dx (fldc pr pt z))) := fun b o e h => by rw [upd_ne h]; exact e
    refine q pr rr pt _ ⟨⟨dx, upd_same⟩, b5.tab P5 k3 k4, b5 _ _ e5 nx, List.length_replicate .., n2 _ _ P2.ob, fun r hr => ?_⟩ ((bx.trans b4).trans b5) N.p0 ?_ N.r0
    · obtain ⟨k, hk⟩ := List.mem_iff_getElem?.mp hr
      obtain ⟨_, _, g⟩ := paired_get P2.rows hk
      exact n2 _ _ g
    · cases e : H pt with
      | none => rfl
      | some o =>
        by_cases c : pt = x
        · exact absurd c nx
        · have := b1 _ _ (N.sm _ _ e) c
          rw [hpt] at this; cases this
theorem sc_Clock_now : FnScope ["self"] ["self"] (defScope s_Clock_now) := ⟨rfl, rfl, rfl, by decide +kernel, rfl, by decide +kernel, by decide +kernel⟩
theorem ok_Clock_now {f : Addr} {fd : FuncData} (F : Fun K "now" "Clock.now" s_Clock_now f fd) (T : Txt K mg cl)  : FnOk P w K mg base CX0 1 f fd ["self"] (sp_Clock_now K cl) := by
  refine F.ok sc_Clock_now (fun vs H Q E h => ?_) (fun cdv A outer s H vs Q E hr h => ?_)
  · obtain ⟨x, pr, pt, rr, n, t, ss, z, rfl, W, q⟩ := h
    rfl
  · obtain ⟨x, pr, pt, rr, n, t, ss, z, rfl, W, q⟩ := h
    refine ⟨_, (pss_one (ps_ret (pe_fld (pv 0) rfl))), ?_⟩
    obtain ⟨dx, hx⟩ := W.ob
    exact ⟨_, rfl, x, cl.Clock, dx, _, _, rfl, hx, T.cl_Clock, T.n_Clock_present, fldc_present _ _ _, q⟩
theorem sc_Clock_setting : FnScope ["self"] ["self"] (defScope s_Clock_setting) := ⟨rfl, rfl, rfl, by decide +kernel, rfl, by decide +kernel, by decide +kernel⟩
theorem ok_Clock_setting {f : Addr} {fd : FuncData} (F : Fun K "setting" "Clock.setting" s_Clock_setting f fd) (T : Txt K mg cl)  : FnOk P w K mg base CX0 1 f fd ["self"] (sp_Clock_setting K cl) := by
  refine F.ok sc_Clock_setting (fun vs H Q E h => ?_) (fun cdv A outer s H vs Q E hr h => ?_)
  · obtain ⟨x, pr, pt, rr, n, t, ss, z, rfl, W, q⟩ := h
    rfl
  · obtain ⟨x, pr, pt, rr, n, t, ss, z, rfl, W, q⟩ := h
    refine ⟨_, (pss_one (ps_ret (pe_callTy call_list_of rfl T.z_list boot_list (pa_cons (pe_fld (pv 0) rfl) pa_nil)))), ?_⟩
    obtain ⟨dx, hx⟩ := W.ob
    exact ⟨_, rfl, x, cl.Clock, dx, _, _, rfl, hx, T.cl_Clock, T.n_Clock_times, fldc_times _ _ _, pt, _, rfl, .inl (SqL.of W.tm), fun l hl => q l _ (same_new hl _) hl upd_same⟩
theorem sc_least_time : FnScope ["table", "setting", "x"] ["table", "setting", "x"] (defScope s_least_time) := ⟨rfl, rfl, rfl, by decide +kernel, rfl, by decide +kernel, by decide +kernel⟩
theorem ok_least_time {f : Addr} {fd : FuncData} (F : Fun K "least_time" "least_time" s_least_time f fd) (T : Txt K mg cl) (C_points_set : Cal P w K mg base 1 "points_set" ["setting"] (sp_points_set K)) : FnOk P w K mg base CX0 2 f fd ["table", "setting", "x"] (sp_least_time K) := by
  refine F.ok sc_least_time (fun vs H Q E h => ?_) (fun cdv A outer s H vs Q E hr h => ?_)
  · obtain ⟨p, rs, t, n, r, ss, x, rfl, hT, hS, hn, hrr, hl, hx, q⟩ := h
    rfl
  · obtain ⟨p, rs, t, n, r, ss, x, rfl, hT, hS, hn, hrr, hl, hx, q⟩ := h
    refine ⟨_, (pss_one (ps_ret (pe_callBK (call_maxD rfl) rfl T.z_max boot_max (pa_cons (pe_compS ["setting", "table", "x"] [1, 0, 2] rfl (pi_list (pec C_points_set (hr.mono (by decide)) rfl (pa_cons (pv 1) pa_nil))) (fun _ _ _ => pts_one (pt_cmpR op_notN (pe_ix (ix_listK (K := K) rfl) (pe_ix (ix_listK (K := K) rfl) (pv 2) (pv 3) (fun _ _ => rfl)) (pv 0) (fun _ _ => rfl)) pe_non (nomark _))) (fun _ _ _ => (pe_op op_sub (pe_ix (ix_listK (K := K) rfl) (pv 1) (pv 0) (fun _ _ => rfl)) (pe_ix (ix_listK (K := K) rfl) (pe_ix (ix_listK (K := K) rfl) (pv 2) (pv 3) (fun _ _ => rfl)) (pv 0) (fun _ _ => rfl)))) (hk := by kernel_rfl)) pa_nil) (pk_cons pe_non pk_nil)))), ?_⟩
    obtain ⟨rx, row, x1, x2, x3, x4⟩ := hT.rowAt hS hx
    refine ⟨_, rfl, r, ss, rfl, hrr, by omega, fun r1 H1 zs s1 e1 lz mz => ?_⟩
    have r0 := s1 _ _ hrr
    have T1 := hT.same s1
    refine ⟨r1, rfl, ⟨_, SqL.of e1⟩, comp_listF (K := K) (a := r1) (xs := zs.map V.int) (fun i acc H2 => H2 = H1 ∧ ∃ ls : List Int, acc = ls.map V.int ∧ ls.length ≤ i ∧ (∀ l ∈ ls, ∃ p s e, inN p n ∧ stt ss p = some s ∧ ent t x p = some e ∧ l = s - e) ∧ ∀ j, j < i → ∀ p, zs[j]? = some p → ∀ s e, stt ss p = some s → ent t x p = some e → s - e ∈ ls) (by rw [List.length_map]; exact small (by omega)) ⟨rfl, [], rfl, Nat.le_refl _, fun _ h => (nomatch h), fun j h => absurd h (by omega)⟩ (fun i acc H2 ⟨_, ls, e, h, _⟩ => by rw [e, List.length_map]; exact h) (fun i acc H2 ⟨e, _⟩ => by rw [e]; exact SqL.of e1) ?_ ?_⟩
    · rintro i acc H2 y hy ⟨rfl, ls, rfl, hls, g1, g2⟩ R Z kR kZ
      obtain ⟨hi, ey⟩ := int_at hy
      generalize hpz : zs.getD i 0 = pz at ey
      subst ey
      have hz : zs[i]? = some pz := by rw [List.getElem?_eq_getElem hi, ← hpz, List.getD_eq_getElem?_getD, List.getElem?_eq_getElem hi]; rfl
      obtain ⟨hpN, s, hs⟩ := (mz pz).mp (List.mem_of_getElem? hz)
      rw [hl] at hpN
      have keep : ∀ (ls' : List Int), (∀ l ∈ ls, l ∈ ls') → (∀ e, ent t x pz = some e → s - e ∈ ls') → ∀ j, j < i + 1 → ∀ p, zs[j]? = some p → ∀ s e, stt ss p = some s → ent t x p = some e → s - e ∈ ls' := fun ls' h1 h2 j hj p hp s' e hs' he => by
        by_cases c : j < i
        · exact h1 _ (g2 j c p hp s' e hs' he)
        · have ej : j = i := by omega
          subst ej
          rw [hz] at hp; cases hp
          rw [hs] at hs'; cases hs'
          exact h2 e he
      refine ⟨_, rfl, _, rfl, p, _, _, _, rfl, rfl, SqL.of T1.ob, x1, _, rfl, rx, _, _, _, rfl, rfl, SqL.of (s1 _ _ x2), x4 _ hpN, rfl, _, rfl, ?_⟩
      cases e : ent t x pz with
      | none => exact iteF (kZ _ ⟨rfl, ls, rfl, by omega, g1, keep ls (fun _ h => h) fun e' he => by rw [e] at he; cases he⟩)
      | some z =>
        have x5 : atI (row.map ov) pz = some (V.int z) := by have := x4 _ hpN; rw [e] at this; exact this
        refine iteT ⟨_, rfl, _, rfl, r, _, _, _, rfl, rfl, SqL.of r0, at_some hpN.1 (by have := hpN.2; omega) hs, _, rfl, _, rfl, p, _, _, _, rfl, rfl, SqL.of T1.ob, x1, _, rfl, rx, _, _, _, rfl, rfl, SqL.of (s1 _ _ x2), x5, _, _, rfl, rfl, kR _ _ ⟨rfl, ls ++ [s - z], by simp, by simp; omega, fun l hl' => ?_, keep _ (fun _ h => List.mem_append_left _ h) fun e' he => ?_⟩⟩
        · rcases List.mem_append.mp hl' with h | h
          · exact g1 l h
          · rw [List.mem_singleton.mp h]; exact ⟨pz, s, z, hpN, hs, e, rfl⟩
        · rw [e] at he; cases he
          exact List.mem_append_right _ (List.mem_singleton.mpr rfl)
    rintro acc H2 ⟨rfl, ls, rfl, hls, g1, g2⟩ pL hpL
    refine ⟨pL, ls, rfl, rfl, SqL.of upd_same, q (maxO ls) _ (s1.trans (same_new hpL _)) ⟨fun l h => g1 l ((maxO_spec ls).1 l h), fun p s e hp h1 h2 => ?_⟩⟩
    obtain ⟨j, hj⟩ := List.mem_iff_getElem?.mp ((mz p).mpr ⟨by rw [hl]; exact hp, s, h1⟩)
    exact (maxO_spec ls).2 _ (g2 j (by have := (List.getElem?_eq_some_iff.mp hj).1; rw [List.length_map]; exact this) p hj s e h1 h2)
theorem sc_greatest_time : FnScope ["table", "setting", "x"] ["table", "setting", "x"] (defScope s_greatest_time) := ⟨rfl, rfl, rfl, by decide +kernel, rfl, by decide +kernel, by decide +kernel⟩
theorem ok_greatest_time {f : Addr} {fd : FuncData} (F : Fun K "greatest_time" "greatest_time" s_greatest_time f fd) (T : Txt K mg cl) (C_points_set : Cal P w K mg base 1 "points_set" ["setting"] (sp_points_set K)) : FnOk P w K mg base CX0 2 f fd ["table", "setting", "x"] (sp_greatest_time K) := by
  refine F.ok sc_greatest_time (fun vs H Q E h => ?_) (fun cdv A outer s H vs Q E hr h => ?_)
  · obtain ⟨p, rs, t, n, r, ss, x, rfl, hT, hS, hn, hrr, hl, hx, q⟩ := h
    rfl
  · obtain ⟨p, rs, t, n, r, ss, x, rfl, hT, hS, hn, hrr, hl, hx, q⟩ := h
    refine ⟨_, (pss_one (ps_ret (pe_callBK (call_minD rfl) rfl T.z_min boot_min (pa_cons (pe_compS ["setting", "x", "table"] [1, 2, 0] rfl (pi_list (pec C_points_set (hr.mono (by decide)) rfl (pa_cons (pv 1) pa_nil))) (fun _ _ _ => pts_one (pt_cmpR op_notN (pe_ix (ix_listK (K := K) rfl) (pe_ix (ix_listK (K := K) rfl) (pv 3) (pv 0) (fun _ _ => rfl)) (pv 2) (fun _ _ => rfl)) pe_non (nomark _))) (fun _ _ _ => (pe_op op_add (pe_ix (ix_listK (K := K) rfl) (pv 1) (pv 0) (fun _ _ => rfl)) (pe_ix (ix_listK (K := K) rfl) (pe_ix (ix_listK (K := K) rfl) (pv 3) (pv 0) (fun _ _ => rfl)) (pv 2) (fun _ _ => rfl)))) (hk := by kernel_rfl)) pa_nil) (pk_cons pe_non pk_nil)))), ?_⟩
    refine ⟨_, rfl, r, ss, rfl, hrr, by omega, fun r2 H4 ws s4 e4 lw mw => ?_⟩
    have r4 := s4 _ _ hrr
    have T4 := hT.same s4
    refine ⟨r2, rfl, ⟨_, SqL.of e4⟩, comp_listF (K := K) (a := r2) (xs := ws.map V.int) (fun i acc H5 => H5 = H4 ∧ ∃ hs : List Int, acc = hs.map V.int ∧ hs.length ≤ i ∧ (∀ l ∈ hs, ∃ p s e, inN p n ∧ stt ss p = some s ∧ ent t p x = some e ∧ l = s + e) ∧ ∀ j, j < i → ∀ p, ws[j]? = some p → ∀ s e, stt ss p = some s → ent t p x = some e → s + e ∈ hs) (by rw [List.length_map]; exact small (by omega)) ⟨rfl, [], rfl, Nat.le_refl _, fun _ h => (nomatch h), fun j h => absurd h (by omega)⟩ (fun i acc H2 ⟨_, ls, e, h, _⟩ => by rw [e, List.length_map]; exact h) (fun i acc H2 ⟨e, _⟩ => by rw [e]; exact SqL.of e4) ?_ ?_⟩
    · rintro i acc H5 y hy ⟨rfl, hs, rfl, hhs, k1, k2⟩ R Z kR kZ
      obtain ⟨hi, ey⟩ := int_at hy
      generalize hpz : ws.getD i 0 = pz at ey
      subst ey
      have hz : ws[i]? = some pz := by rw [List.getElem?_eq_getElem hi, ← hpz, List.getD_eq_getElem?_getD, List.getElem?_eq_getElem hi]; rfl
      obtain ⟨hpN, s, hs'⟩ := (mw pz).mp (List.mem_of_getElem? hz)
      rw [hl] at hpN
      obtain ⟨ry, rowy, y1, y2, y3⟩ := T4.at hS hpN hx
      have keep : ∀ (ls' : List Int), (∀ l ∈ hs, l ∈ ls') → (∀ e, ent t pz x = some e → s + e ∈ ls') → ∀ j, j < i + 1 → ∀ p, ws[j]? = some p → ∀ s e, stt ss p = some s → ent t p x = some e → s + e ∈ ls' := fun ls' h1 h2 j hj p hp s2 e hs2 he => by
        by_cases c : j < i
        · exact h1 _ (k2 j c p hp s2 e hs2 he)
        · have ej : j = i := by omega
          subst ej
          rw [hz] at hp; cases hp
          rw [hs'] at hs2; cases hs2
          exact h2 e he
      refine ⟨_, rfl, _, rfl, p, _, _, _, rfl, rfl, SqL.of T4.ob, y1, _, rfl, ry, _, _, _, rfl, rfl, SqL.of y2, y3, rfl, _, rfl, ?_⟩
      cases e : ent t pz x with
      | none => exact iteF (kZ _ ⟨rfl, hs, rfl, by omega, k1, keep hs (fun _ h => h) fun e' he => by rw [e] at he; cases he⟩)
      | some z =>
        rw [e] at y3
        refine iteT ⟨_, rfl, _, rfl, r, _, _, _, rfl, rfl, SqL.of r4, at_some hpN.1 (by have := hpN.2; omega) hs', _, rfl, _, rfl, p, _, _, _, rfl, rfl, SqL.of T4.ob, y1, _, rfl, ry, _, _, _, rfl, rfl, SqL.of y2, y3, _, _, rfl, rfl, kR _ _ ⟨rfl, hs ++ [s + z], by simp, by simp; omega, fun l hl' => ?_, keep _ (fun _ h => List.mem_append_left _ h) fun e' he => ?_⟩⟩
        · rcases List.mem_append.mp hl' with h | h
          · exact k1 l h
          · rw [List.mem_singleton.mp h]; exact ⟨pz, s, z, hpN, hs', e, rfl⟩
        · rw [e] at he; cases he
          exact List.mem_append_right _ (List.mem_singleton.mpr rfl)
    rintro acc H5 ⟨rfl, hs, rfl, hhs, k1, k2⟩ pH hpH
    refine ⟨pH, hs, rfl, rfl, SqL.of upd_same, q (minO hs) _ (s4.trans (same_new hpH _)) ⟨fun l h => k1 l ((minO_spec hs).1 l h), fun p s e hp h1 h2 => ?_⟩⟩
    obtain ⟨j, hj⟩ := List.mem_iff_getElem?.mp ((mw p).mpr ⟨by rw [hl]; exact hp, s, h1⟩)
    exact (minO_spec hs).2 _ (k2 j (by have := (List.getElem?_eq_some_iff.mp hj).1; rw [List.length_map]; exact this) p hj s e h1 h2)
theorem sc_limit : FnScope ["table", "setting", "ends"] ["table", "setting"] (defScope s_limit) := ⟨rfl, rfl, rfl, by decide +kernel, rfl, by decide +kernel, by decide +kernel⟩
theorem ok_limit {f : Addr} {fd : FuncData} (F : Fun K "limit" "limit" s_limit f fd) (T : Txt K mg cl) (C_greatest_time : Cal P w K mg base 2 "greatest_time" ["table", "setting", "x"] (sp_greatest_time K)) (C_points_open : Cal P w K mg base 1 "points_open" ["setting"] (sp_points_open K)) : FnOk P w K mg base CX0 3 f fd ["table", "setting"] (sp_limit K) := by
  refine F.ok sc_limit (fun vs H Q E h => ?_) (fun cdv A outer s H vs Q E hr h => ?_)
  · obtain ⟨p, rs, t, n, r, ss, rfl, hT, hS, hn, hrr, hl, q⟩ := h
    rfl
  · obtain ⟨p, rs, t, n, r, ss, rfl, hT, hS, hn, hrr, hl, q⟩ := h
    refine ⟨_, (pss_cons (ps_setComp (j := 2) ["table", "setting"] [0, 1] sc_limit.nd rfl rfl rfl (pi_list (pec C_points_open (hr.mono (by decide)) rfl (pa_cons (pv 1) pa_nil))) (fun _ _ _ => pts_nil) (fun _ _ _ => (pec C_greatest_time (hr.mono (by decide)) rfl (pa_cons (pv 1) (pa_cons (pv 2) (pa_cons (pv 0) pa_nil))))) (hk := by kernel_rfl))
      (pss_one (ps_ret (pe_callBK (call_minD rfl) rfl T.z_min boot_min (pa_cons (pe_compS [] [] rfl (pi_list (pv 2)) (fun _ _ _ => pts_one (pt_cmpR op_notN (pv 0) pe_non (nomark _))) (fun _ _ _ => (pv 0)) (hk := by kernel_rfl)) pa_nil) (pk_cons pe_non pk_nil))))), ?_⟩
    refine ⟨_, rfl, r, ss, rfl, hrr, by omega, fun r1 H1 zs s1 e1 lz mz => ?_⟩
    rw [hl] at mz
    refine ⟨r1, rfl, ⟨_, SqL.of e1⟩, comp_list (K := K) (a := r1) (xs := zs.map V.int) (fun i acc H2 => Same H1 H2 ∧ ∃ os : List (Option Int), acc = os.map ov ∧ os.length = i ∧ ∀ (j : Nat) (o : Option Int), os[j]? = some o → ∃ x, zs[j]? = some x ∧ IsHigh n t ss x o) (by rw [List.length_map]; exact small (by omega)) ⟨same_refl _, [], rfl, rfl, fun j o h => by simp at h⟩ (fun i acc H2 ⟨_, os, e, h, _⟩ => by rw [e, List.length_map]; exact h) (fun i acc H2 ⟨s, _⟩ => SqL.of (s _ _ e1)) ?_ ?_⟩
    · rintro i acc H2 y hy ⟨s2, os, rfl, lo, g⟩ R kR
      obtain ⟨hi, ey⟩ := int_at hy
      generalize hpz : zs.getD i 0 = pz at ey
      subst ey
      have hz := get_getD hi hpz
      obtain ⟨hpN, hno⟩ := (mz pz).mp (List.mem_of_getElem? hz)
      refine ⟨_, rfl, _, rfl, _, rfl, p, rs, t, n, r, ss, pz, rfl, (hT.same s1).same s2, hS, hn, s2 _ _ (s1 _ _ hrr), hl, hpN, fun o H3 s3 U => kR _ _ ⟨s2.trans s3, os ++ [o], by simp, by simp [lo], fun j o' hj => ?_⟩⟩
      rcases snoc_get hj with h | ⟨rfl, rfl⟩
      · exact g j o' h
      · rw [lo]; exact ⟨pz, hz, U⟩
    · rintro acc H2 ⟨s2, os, rfl, lo, g⟩ pL hpL
      rw [List.length_map] at lo
      have s3 := same_new hpL (.lst (os.map ov))
      have e3 : (upd H2 pL (.lst (os.map ov))) pL = some (.lst (os.map ov)) := upd_same
      generalize upd H2 pL (.lst (os.map ov)) = H3 at s3 e3 ⊢
      have s03 := (s1.trans s2).trans s3
      refine ⟨_, rfl, pL, rfl, ⟨_, SqL.of e3⟩, comp_listF (K := K) (a := pL) (xs := os.map ov) (fun i acc H4 => H4 = H3 ∧ ∃ ms : List Int, acc = ms.map V.int ∧ ms.length ≤ i ∧ (∀ z ∈ ms, some z ∈ os) ∧ ∀ j z, j < i → os[j]? = some (some z) → z ∈ ms) (by rw [List.length_map]; exact small (by omega)) ⟨rfl, [], rfl, Nat.le_refl _, fun _ h => (nomatch h), fun j z h => absurd h (by omega)⟩ (fun i acc H4 ⟨_, ms, e, h, _⟩ => by rw [e, List.length_map]; exact h) (fun i acc H4 ⟨e, _⟩ => by rw [e]; exact SqL.of e3) ?_ ?_⟩
      · rintro i acc H4 y hy ⟨rfl, ms, rfl, hms, g1, g2⟩ R Z kR kZ
        obtain ⟨o, ho, rfl⟩ := ov_at hy
        have keep := ov_keep ho g2
        refine ⟨_, rfl, rfl, _, rfl, ?_⟩
        cases o with
        | none => exact iteF (kZ _ ⟨rfl, ms, rfl, by omega, g1, keep ms (fun _ h => h) fun z h => (nomatch h)⟩)
        | some z =>
          refine iteT ⟨_, rfl, kR _ _ ⟨rfl, ms ++ [z], by rw [List.map_append]; rfl, by simp; omega, fun w hw => ?_, keep _ (fun _ h => List.mem_append_left _ h) fun w h => by cases h; exact List.mem_append_right _ (List.mem_singleton.mpr rfl)⟩⟩
          rcases List.mem_append.mp hw with h | h
          · exact g1 w h
          · rw [List.mem_singleton.mp h]; exact List.mem_of_getElem? ho
      · rintro acc H4 ⟨rfl, ms, rfl, hms, g1, g2⟩ pM hpM
        rw [List.length_map] at g2
        refine ⟨pM, ms, rfl, rfl, SqL.of upd_same, q (minO ms) _ (s03.trans (same_new hpM _)) (lim_of mz lo g (fun z h => g1 z ((minO_spec ms).1 z h)) fun z h => ?_)⟩
        obtain ⟨j, hj⟩ := List.mem_iff_getElem?.mp h
        exact (minO_spec ms).2 z (g2 j z (List.getElem?_eq_some_iff.mp hj).1 hj)
theorem sc_course : FnScope ["table", "setting", "now", "starts"] ["table", "setting", "now"] (defScope s_course) := ⟨rfl, rfl, rfl, by decide +kernel, rfl, by decide +kernel, by decide +kernel⟩
theorem ok_course {f : Addr} {fd : FuncData} (F : Fun K "course" "course" s_course f fd) (T : Txt K mg cl) (C_least_time : Cal P w K mg base 2 "least_time" ["table", "setting", "x"] (sp_least_time K)) : FnOk P w K mg base CX0 3 f fd ["table", "setting", "now"] (sp_course K) := by
  refine F.ok sc_course (fun vs H Q E h => ?_) (fun cdv A outer s H vs Q E hr h => ?_)
  · obtain ⟨p, rs, t, n, bs, r, ss, z, rfl, hT, R, hn, hrr, hl, q⟩ := h
    rfl
  · obtain ⟨p, rs, t, n, bs, r, ss, z, rfl, hT, R, hn, hrr, hl, q⟩ := h
    refine ⟨_, (pss_cons (ps_set (i := 3) sc_course.nd rfl (Or.inr rfl) (pe_compS ["now"] [2] rfl (pi_list (pv 1)) (fun _ _ _ => pts_nil) (fun _ _ _ => (pe_ifExp (pt_cmpR op_isN (pv 0) pe_non (nomark _)) (pv 1) (pv 0))) (hk := by kernel_rfl)))
      (pss_one (ps_ret (pe_callTy call_tuple_of rfl T.z_tuple boot_tuple (pa_cons (pe_compS ["table", "starts"] [0, 3] rfl (pi_range1 rfl T.z_range (pa_cons (pe_callB call_len_seq rfl T.z_len PySem.boot_len (pa_cons (pv 0) pa_nil)) pa_nil)) (fun _ _ _ => pts_nil) (fun _ _ _ => (pec C_least_time (hr.mono (by decide)) rfl (pa_cons (pv 1) (pa_cons (pv 2) (pa_cons (pv 0) pa_nil))))) (hk := by kernel_rfl)) pa_nil))))), ?_⟩
    have hS := R.square
    have hlr := hT.len hS
    refine ⟨_, rfl, r, rfl, ⟨_, SqL.of hrr⟩, comp_list (K := K) (a := r) (xs := ss.map ov) (fun i acc H1 => H1 = H ∧ i ≤ ss.length ∧ acc = (startsO (ss.take i) z).map ov) (by rw [List.length_map]; exact small (by omega)) ⟨rfl, Nat.zero_le _, rfl⟩ (fun i acc H1 ⟨_, h, e⟩ => by rw [e, List.length_map, startsO_len, List.length_take]; omega) (fun i acc H1 ⟨e, _⟩ => by rw [e]; exact SqL.of hrr) ?_ ?_⟩
    · rintro i acc H1 y hy ⟨rfl, hi, rfl⟩ R' kR
      obtain ⟨o, ho, rfl⟩ := ov_at hy
      have hlt := (List.getElem?_eq_some_iff.mp ho).1
      have k2 : R' (.int (o.getD z)) H1 := kR _ _ ⟨rfl, hlt, by unfold startsO; rw [List.take_add_one, ho, List.map_append, List.map_append]; rfl⟩
      refine ⟨_, rfl, rfl, _, rfl, ?_⟩
      cases o with
      | none => exact iteT ⟨_, rfl, k2⟩
      | some s => exact iteF ⟨_, rfl, k2⟩
    · rintro acc H1 ⟨rfl, _, rfl⟩ pS hpS
      rw [List.length_map, List.take_length]
      have s1 := same_new hpS (.lst ((startsO ss z).map ov))
      have e1 : (upd H1 pS (.lst ((startsO ss z).map ov))) pS = some (.lst ((startsO ss z).map ov)) := upd_same
      generalize upd H1 pS (.lst ((startsO ss z).map ov)) = H2 at s1 e1 ⊢
      refine ⟨_, rfl, p, _, rfl, .inl (SqL.of (s1 _ _ hT.ob)), ((n : Nat) : Int), by rw [hlr], by omega, by omega, comp_range (lo := 0) (n := ((n : Nat) : Int).toNat) (fun i acc H3 => Same H2 H3 ∧ ∃ ts : List Int, acc = ts.map V.int ∧ ts.length = i ∧ ∀ x : Int, inN x i → IsLow n t (startsO ss z) x (some (ts.getD x.toNat 0))) (small (by omega)) ⟨same_refl _, [], rfl, rfl, fun x hx => absurd hx.1 (by have := hx.2; omega)⟩ (fun i acc H3 ⟨_, ts, e, h, _⟩ => by rw [e, List.length_map]; exact h) ?_ ?_⟩
      · rintro i acc H3 hi ⟨s3, ts, rfl, lt, g⟩ R' kR
        have hx : inN (0 + (i : Int)) n := ⟨by omega, by omega⟩
        refine ⟨_, rfl, _, rfl, _, rfl, p, rs, t, n, pS, startsO ss z, _, rfl, (hT.same s1).same s3, hS, hn, s3 _ _ e1, by rw [startsO_len]; exact hl, hx, fun lo H4 s4 L => ?_⟩
        obtain ⟨l, rfl⟩ := low_some R hl hx L
        refine kR _ _ ⟨s3.trans s4, ts ++ [l], by rw [List.map_append]; rfl, by simp [lt], fun x hx' => ?_⟩
        have h1 := hx'.1
        have h2 := hx'.2
        by_cases c : x.toNat < i
        · rw [List.getD_eq_getElem?_getD, List.getElem?_append_left (by omega), ← List.getD_eq_getElem?_getD]
          exact g x ⟨h1, by omega⟩
        · have ex : x = 0 + (i : Int) := by omega
          subst ex
          rw [List.getD_eq_getElem?_getD, List.getElem?_append_right (by omega), show (0 + (i : Int)).toNat - ts.length = 0 by omega]
          exact L
      · rintro acc H3 ⟨s3, ts, rfl, lt, g⟩ pL hpL
        rw [Int.toNat_natCast] at lt g
        refine ⟨pL, _, rfl, .inl ⟨SqL.of upd_same, fun u hu => ?_⟩⟩
        have s03 := (s1.trans s3).trans (same_new hpL (.lst (ts.map V.int)))
        exact q u ts _ (s03.trans (same_new hu _)) (none_of s03 hu) upd_same lt g
theorem sc_turn : FnScope ["table", "setting", "now", "x", "low", "high"] ["table", "setting", "now", "x"] (defScope s_turn) := ⟨rfl, rfl, rfl, by decide +kernel, rfl, by decide +kernel, by decide +kernel⟩
theorem ok_turn {f : Addr} {fd : FuncData} (F : Fun K "turn" "turn" s_turn f fd) (T : Txt K mg cl) (C_limit_turns : Cal P w K mg base 3 "limit_turns" ["table", "setting"] (sp_limit K)) (C_course_turns : Cal P w K mg base 3 "course_turns" ["table", "setting", "now"] (sp_course K)) (C_must_follow : Cal P w K mg base 2 "must_follow" ["table", "setting", "x"] (sp_must_follow K)) : FnOk P w K mg base CX0 4 f fd ["table", "setting", "now", "x"] (sp_turn K) := by
  refine F.ok sc_turn (fun vs H Q E h => ?_) (fun cdv A outer s H vs Q E hr h => ?_)
  · obtain ⟨p, rs, t, n, bs, r, ss, z, x, rfl, hT, R, hn, hrr, hl, hx, q⟩ := h
    rfl
  · obtain ⟨p, rs, t, n, bs, r, ss, z, x, rfl, hT, R, hn, hrr, hl, hx, q⟩ := h
    refine ⟨_, (pss_cons (ps_if (PW.pt (pw_or (pt_cmpR op_notN (pe_ix ix_list (pv 1) (pv 3) (fun _ _ => rfl)) pe_non (nomark _)) (pw_or1 (pt_val (pec C_must_follow (hr.mono (by decide)) rfl (pa_cons (pv 0) (pa_cons (pv 1) (pa_cons (pv 3) pa_nil))))))))
      (pss_one (ps_ret pe_non))
      pss_nil)
      (pss_cons (ps_set (i := 4) sc_turn.nd rfl (Or.inl rfl) (pe_ix ix_tup (pec C_course_turns (hr.mono (by decide)) rfl (pa_cons (pv 0) (pa_cons (pv 1) (pa_cons (pv 2) pa_nil)))) (pv 3) (fun _ _ => rfl)))
      (pss_cons (ps_set (i := 5) sc_turn.nd rfl (Or.inl rfl) (pec C_limit_turns (hr.mono (by decide)) rfl (pa_cons (pv 0) (pa_cons (pv 1) pa_nil))))
      (pss_cons (ps_if (PW.pt (pw_and (pt_cmpR op_notN (pv 5) pe_non (nomark _)) (pw_and1 (pt_cmpR op_lt (pv 5) (pv 4) (nomark _)))))
      (pss_one (ps_ret pe_non))
      pss_nil)
      (pss_one (ps_ret (pe_tup (pa_cons (pv 4) (pa_cons (pv 5) pa_nil))))))))), ?_⟩
    have hr1 := at_stt (ss := ss) hx.1 (by rw [hl]; exact hx.2)
    refine ⟨_, rfl, _, rfl, r, _, _, _, rfl, rfl, SqL.of hrr, hr1, rfl, _, rfl, ?_⟩
    cases es : stt ss x with
    | some s => exact iteT (iteT (q .non none H (same_refl H) (.inl ⟨s, es⟩) (.inl ⟨rfl, rfl⟩)))
    | none =>
      refine iteF ⟨_, rfl, _, rfl, _, rfl, p, rs, t, n, r, ss, x, rfl, hT, R.square, hn, hrr, hl, hx, fun b H1 s1 hb => ?_⟩
      cases b with
      | true =>
        obtain ⟨y, e, h1, h2, h3, h4⟩ := hb.mp rfl
        exact ⟨_, rfl, iteT (q .non none H1 s1 (.inr (.inl ⟨y, e, h1, h2, h3, h4⟩)) (.inl ⟨rfl, rfl⟩))⟩
      | false =>
        have hf : ∀ y e, inN y n → stt ss y = none → ent t x y = some e → 0 ≤ e := fun y e h1 h2 h3 => by
          by_cases c : e < 0
          · exact absurd (hb.mpr ⟨y, e, h1, h2, h3, c⟩) (by decide)
          · omega
        refine ⟨_, rfl, iteF ?_⟩
        refine ⟨_, rfl, _, rfl, _, rfl, p, rs, t, n, bs, r, ss, z, rfl, hT.same s1, R, hn, s1 _ _ hrr, hl, fun u ts H2 s2 u0 e2 l2 g2 => ?_⟩
        have s02 := s1.trans s2
        refine ⟨_, rfl, u, _, _, _, rfl, rfl, SqT.of e2, at_int hx.1 (by rw [l2]; exact hx.2), ?_⟩
        refine ⟨_, rfl, _, rfl, p, rs, t, n, r, ss, rfl, hT.same s02, R.square, hn, s02 _ _ hrr, hl, fun hi H3 s3 M => ?_⟩
        have A := g2 x hx
        generalize ts.getD x.toNat 0 = c at A ⊢
        obtain ⟨lw, L⟩ := low_ex (n := n) (t := t) (ss := ss) (x := x)
        have ec := low_turn R hl hx es hf A L
        have s03 := s02.trans s3
        have fin : (∀ h, hi = some h → c ≤ h) → ∀ u', H3 u' = none → Q (.ref u') (upd H3 u' (.tup [.int c, ov hi])) := fun hc u' hu' => q (.ref u') (some (c, hi)) _ (s03.trans (same_new hu' _)) ⟨es, hf, lw, L, M, ec, hc⟩ (.inr ⟨u', c, hi, rfl, upd_same, rfl⟩)
        refine ⟨_, rfl, rfl, _, rfl, ?_⟩
        cases hi with
        | none => exact iteF (iteF ⟨_, rfl, _, rfl, (by show 2 ≤ sizeLine; decide), fun u' hu' => fin (fun h e => (nomatch e)) u' hu'⟩)
        | some h =>
          refine iteT ⟨_, rfl, _, rfl, _, _, rfl, rfl, _, rfl, ?_⟩
          refine ite2 (fun d => ?_) (fun d => ?_)
          · have d' : h < c := of_decide_eq_true d
            exact q .non none H3 s03 (.inr (.inr ⟨lw, h, L, M, by omega⟩)) (.inl ⟨rfl, rfl⟩)
          · have d' : ¬ h < c := of_decide_eq_false (Bool.eq_false_iff.mpr d)
            exact ⟨_, rfl, _, rfl, (by show 2 ≤ sizeLine; decide), fun u' hu' => fin (fun h' e => by cases e; omega) u' hu'⟩
theorem sc_wide : FnScope ["count"] ["count"] (defScope s_wide) := ⟨rfl, rfl, rfl, by decide +kernel, rfl, by decide +kernel, by decide +kernel⟩
theorem ok_wide {f : Addr} {fd : FuncData} (F : Fun K "wide" "wide" s_wide f fd) (T : Txt K mg cl) (C_wide_row : Cal P w K mg base 1 "wide_row" ["count", "a"] (sp_wide_row K)) : FnOk P w K mg base CX0 2 f fd ["count"] (sp_wide K) := by
  refine F.ok sc_wide (fun vs H Q E h => ?_) (fun cdv A outer s H vs Q E hr h => ?_)
  · obtain ⟨n, rfl, hn, q⟩ := h
    rfl
  · obtain ⟨n, rfl, hn, q⟩ := h
    refine ⟨_, (pss_one (ps_ret (pe_compS ["count"] [0] rfl (pi_range1 rfl T.z_range (pa_cons (pv 0) pa_nil)) (fun _ _ _ => pts_nil) (fun _ _ _ => (pec C_wide_row (hr.mono (by decide)) rfl (pa_cons (pv 1) (pa_cons (pv 0) pa_nil)))) (hk := by kernel_rfl)))), ?_⟩
    refine ⟨_, rfl, (n : Int), rfl, by omega, by omega, comp_rows (n := ((n : Nat) : Int).toNat) (fun i => (List.range n).map fun (j : Nat) => if (i : Int) = (j : Int) then some (0 : Int) else none) (small (by omega)) ?_ ?_⟩
    · intro i H1 hi s1 R kR
      refine ⟨_, rfl, _, rfl, n, _, rfl, hn, fun r hr => ?_⟩
      refine kR r _ hr (same_new hr _) ?_
      rw [upd_same, Int.zero_add]
    · intro p rs H' N
      rw [Int.toNat_natCast] at N
      exact q p rs H' N
theorem sc_held_row : FnScope ["table", "a", "bound", "ahead", "behind"] ["table", "a", "bound"] (defScope s_held_row) := ⟨rfl, rfl, rfl, by decide +kernel, rfl, by decide +kernel, by decide +kernel⟩
theorem ok_held_row {f : Addr} {fd : FuncData} (F : Fun K "held_row" "held_row" s_held_row f fd) (T : Txt K mg cl) (C_total : Cal P w K mg base 1 "total" ["one", "other"] (sp_total K)) (C_lesser : Cal P w K mg base 1 "lesser" ["one", "other"] (sp_lesser K)) : FnOk P w K mg base CX0 2 f fd ["table", "a", "bound"] (sp_held_row K) := by
  refine F.ok sc_held_row (fun vs H Q E h => ?_) (fun cdv A outer s H vs Q E hr h => ?_)
  · obtain ⟨u, p, a, m, rs, t, n, rfl, hB, hT, hS, hn, ha, h1, h2, q⟩ := h
    rfl
  · obtain ⟨u, p, a, m, rs, t, n, rfl, hB, hT, hS, hn, ha, h1, h2, q⟩ := h
    refine ⟨_, (pss_cons (ps_set (i := 3) sc_held_row.nd rfl (Or.inr rfl) (pec C_total (hr.mono (by decide)) rfl (pa_cons (pe_ix ix_list (pe_ix ix_list (pv 0) (pv 1) (fun _ _ => rfl)) (pe_ix ix_tup (pv 2) pe_int (fun _ _ => rfl)) (fun _ _ => rfl)) (pa_cons (pe_ix ix_tup (pv 2) pe_int (fun _ _ => rfl)) pa_nil))))
      (pss_cons (ps_set (i := 4) sc_held_row.nd rfl (Or.inr rfl) (pe_ix ix_list (pv 0) (pe_ix ix_tup (pv 2) pe_int (fun _ _ => rfl)) (fun _ _ => rfl)))
      (pss_one (ps_ret (pe_compS ["ahead", "table", "a", "behind"] [3, 0, 1, 4] rfl (pi_range1 rfl T.z_range (pa_cons (pe_callB call_len_seq rfl T.z_len PySem.boot_len (pa_cons (pv 0) pa_nil)) pa_nil)) (fun _ _ _ => pts_nil) (fun _ _ _ => (pec C_lesser (hr.mono (by decide)) rfl (pa_cons (pe_ix (ix_listK (K := K) rfl) (pe_ix (ix_listK (K := K) rfl) (pv 2) (pv 3) (fun _ _ => rfl)) (pv 0) (fun _ _ => rfl)) (pa_cons (pec C_total (hr.mono (by decide)) rfl (pa_cons (pv 1) (pa_cons (pe_ix (ix_listK (K := K) rfl) (pv 4) (pv 0) (fun _ _ => rfl)) pa_nil))) pa_nil)))) (hk := by kernel_rfl)))))), ?_⟩
    obtain ⟨r, row, g1, g2, g3, g4⟩ := hT.rowAt hS ha
    obtain ⟨r2, row2, k1, k2, k3, k4⟩ := hT.rowAt hS h2
    have hl := hT.len hS
    refine ⟨_, rfl, _, rfl, p, _, _, _, rfl, rfl, SqL.of hT.ob, g1, _, rfl, u, _, 0, _, rfl, rfl, hB, rfl, r, _, _, _, rfl, rfl, SqL.of g2, g4 _ h1, _, rfl, u, _, 2, _, rfl, rfl, hB, rfl, _, some m.2.2, rfl, ?_⟩
    refine ⟨_, rfl, _, rfl, u, _, 1, _, rfl, rfl, hB, rfl, p, _, _, _, rfl, rfl, SqL.of hT.ob, k1, ?_⟩
    refine ⟨_, rfl, p, _, rfl, .inl (SqL.of hT.ob), (n : Int), by rw [hl], by omega, by omega, comp_vals (n := ((n : Nat) : Int).toNat) (fun j => ov (heldF t m a (j : Int))) (small (by omega)) ?_ ?_⟩
    · intro i hi R kR
      have hi' : inN (0 + (i : Int)) n := ⟨by omega, by omega⟩
      have e0 : (0 + (i : Int)) = (i : Int) := Int.zero_add _
      refine ⟨_, rfl, _, rfl, p, _, _, _, rfl, rfl, SqL.of hT.ob, g1, _, rfl, r, _, _, _, rfl, rfl, SqL.of g2, g4 _ hi', _, rfl, _, rfl, _, rfl, r2, _, _, _, rfl, rfl, SqL.of k2, k4 _ hi', _, _, rfl, _, _, rfl, ?_⟩
      rw [e0]
      exact kR
    · intro p' hp
      have := q p' hp
      rw [List.map_map] at this
      rw [Int.toNat_natCast]
      exact this
theorem sc_Clock_limit : FnScope ["self"] ["self"] (defScope s_Clock_limit) := ⟨rfl, rfl, rfl, by decide +kernel, rfl, by decide +kernel, by decide +kernel⟩
theorem ok_Clock_limit {f : Addr} {fd : FuncData} (F : Fun K "limit" "Clock.limit" s_Clock_limit f fd) (T : Txt K mg cl) (C_limit_turns : Cal P w K mg base 3 "limit_turns" ["table", "setting"] (sp_limit K)) : FnOk P w K mg base CX0 4 f fd ["self"] (sp_Clock_limit K cl) := by
  refine F.ok sc_Clock_limit (fun vs H Q E h => ?_) (fun cdv A outer s H vs Q E hr h => ?_)
  · obtain ⟨x, pr, pt, rr, n, t, ss, z, rfl, W, hS, hn, q⟩ := h
    rfl
  · obtain ⟨x, pr, pt, rr, n, t, ss, z, rfl, W, hS, hn, q⟩ := h
    refine ⟨_, (pss_one (ps_ret (pec C_limit_turns (hr.mono (by decide)) rfl (pa_cons (pe_fld (pv 0) rfl) (pa_cons (pe_fld (pv 0) rfl) pa_nil))))), ?_⟩
    obtain ⟨dx, hx⟩ := W.ob
    exact ⟨_, rfl, x, cl.Clock, dx, _, _, rfl, hx, T.cl_Clock, T.n_Clock_rows, fldc_rows _ _ _, _, rfl, x, cl.Clock, dx, _, _, rfl, hx, T.cl_Clock, T.n_Clock_times, fldc_times _ _ _, pr, rr, t, n, pt, ss, rfl, W.tb, hS, hn, W.tm, W.len, q⟩
theorem sc_Clock_turn : FnScope ["self", "x"] ["self", "x"] (defScope s_Clock_turn) := ⟨rfl, rfl, rfl, by decide +kernel, rfl, by decide +kernel, by decide +kernel⟩
theorem ok_Clock_turn {f : Addr} {fd : FuncData} (F : Fun K "turn" "Clock.turn" s_Clock_turn f fd) (T : Txt K mg cl) (C_turn_turns : Cal P w K mg base 4 "turn_turns" ["table", "setting", "now", "x"] (sp_turn K)) : FnOk P w K mg base CX0 5 f fd ["self", "x"] (sp_Clock_turn K cl) := by
  refine F.ok sc_Clock_turn (fun vs H Q E h => ?_) (fun cdv A outer s H vs Q E hr h => ?_)
  · obtain ⟨x, pr, pt, rr, n, t, bs, ss, z, y, rfl, W, R, hn, hy, q⟩ := h
    rfl
  · obtain ⟨x, pr, pt, rr, n, t, bs, ss, z, y, rfl, W, R, hn, hy, q⟩ := h
    refine ⟨_, (pss_one (ps_ret (pec C_turn_turns (hr.mono (by decide)) rfl (pa_cons (pe_fld (pv 0) rfl) (pa_cons (pe_fld (pv 0) rfl) (pa_cons (pe_fld (pv 0) rfl) (pa_cons (pv 1) pa_nil))))))), ?_⟩
    obtain ⟨dx, hx⟩ := W.ob
    exact ⟨_, rfl, x, cl.Clock, dx, _, _, rfl, hx, T.cl_Clock, T.n_Clock_rows, fldc_rows _ _ _, _, rfl, x, cl.Clock, dx, _, _, rfl, hx, T.cl_Clock, T.n_Clock_times, fldc_times _ _ _, _, rfl, x, cl.Clock, dx, _, _, rfl, hx, T.cl_Clock, T.n_Clock_present, fldc_present _ _ _, _, rfl, pr, rr, t, n, bs, pt, ss, z, y, rfl, W.tb, R, hn, W.tm, W.len, hy, q⟩
theorem sc_Clock_course : FnScope ["self"] ["self"] (defScope s_Clock_course) := ⟨rfl, rfl, rfl, by decide +kernel, rfl, by decide +kernel, by decide +kernel⟩
theorem ok_Clock_course {f : Addr} {fd : FuncData} (F : Fun K "course" "Clock.course" s_Clock_course f fd) (T : Txt K mg cl) (C_course_turns : Cal P w K mg base 3 "course_turns" ["table", "setting", "now"] (sp_course K)) : FnOk P w K mg base CX0 4 f fd ["self"] (sp_Clock_course K cl) := by
  refine F.ok sc_Clock_course (fun vs H Q E h => ?_) (fun cdv A outer s H vs Q E hr h => ?_)
  · obtain ⟨x, pr, pt, rr, n, t, bs, ss, z, rfl, W, R, hn, q⟩ := h
    rfl
  · obtain ⟨x, pr, pt, rr, n, t, bs, ss, z, rfl, W, R, hn, q⟩ := h
    refine ⟨_, (pss_one (ps_ret (pec C_course_turns (hr.mono (by decide)) rfl (pa_cons (pe_fld (pv 0) rfl) (pa_cons (pe_fld (pv 0) rfl) (pa_cons (pe_fld (pv 0) rfl) pa_nil)))))), ?_⟩
    obtain ⟨dx, hx⟩ := W.ob
    exact ⟨_, rfl, x, cl.Clock, dx, _, _, rfl, hx, T.cl_Clock, T.n_Clock_rows, fldc_rows _ _ _, _, rfl, x, cl.Clock, dx, _, _, rfl, hx, T.cl_Clock, T.n_Clock_times, fldc_times _ _ _, _, rfl, x, cl.Clock, dx, _, _, rfl, hx, T.cl_Clock, T.n_Clock_present, fldc_present _ _ _, pr, rr, t, n, bs, pt, ss, z, rfl, W.tb, R, hn, W.tm, W.len, q⟩
theorem sc_Clock_wait : FnScope ["self", "time"] ["self", "time"] (defScope s_Clock_wait) := ⟨rfl, rfl, rfl, by decide +kernel, rfl, by decide +kernel, by decide +kernel⟩
theorem ok_Clock_wait {f : Addr} {fd : FuncData} (F : Fun K "wait" "Clock.wait" s_Clock_wait f fd) (T : Txt K mg cl) (C_lies_between : Cal P w K mg base 1 "lies_between" ["time", "low", "high"] (sp_lies_between K)) (M_Clock_limit : MCal P w K mg base cl.Clock 4 "limit" ["self"] (sp_Clock_limit K cl)) : FnOk P w K mg base (CXx P w) 5 f fd ["self", "time"] (sp_Clock_wait K cl) := by
  refine F.okX sc_Clock_wait (fun vs H Q E h => ?_) (fun cdv A outer s H vs Q E hr h => ?_)
  · obtain ⟨x, pr, pt, rr, n, t, ss, z, w, rfl, W, hS, hn, q⟩ := h
    rfl
  · obtain ⟨x, pr, pt, rr, n, t, ss, z, w, rfl, W, hS, hn, q⟩ := h
    refine ⟨_, (pss_cons (ps_if (pt_not (pt_val (pec C_lies_between (hr.mono (by decide)) rfl (pa_cons (pv 1) (pa_cons (pe_fld (pv 0) rfl) (pa_cons (pe_meth0 (pv 0) T.cl_Clock M_Clock_limit.mt M_Clock_limit.ok (hr.mono (by decide)) M_Clock_limit.b .nil pass0) pa_nil))))))
      (pss_one (ps_raise made_def rfl rfl T.g_NoTime T.x_NoTime (pa_cons pe_str pa_nil)))
      pss_nil)
      (pss_one (ps_fld (pv 0) (pv 1) rfl))), ?_⟩
    obtain ⟨dx, hx⟩ := W.ob
    refine ⟨_, rfl, _, rfl, x, cl.Clock, dx, _, _, rfl, hx, T.cl_Clock, T.n_Clock_present, fldc_present _ _ _, _, rfl, x, dx, _, rfl, hx, fldc_no _ _ _ (by decide +kernel) (by decide +kernel) (by decide +kernel), x, pr, pt, rr, n, t, ss, z, rfl, W, hS, hn, fun hi H1 s1 M => ?_⟩
    obtain ⟨q1, q2⟩ := q hi M
    refine ⟨w, some z, hi, rfl, _, rfl, ?_⟩
    have W1 := W.same s1
    have hx1 := s1 _ _ hx
    cases e : kept w (some z) hi with
    | true =>
      refine iteF ?_
      refine ⟨_, rfl, _, rfl, x, cl.Clock, dx, _, rfl, hx1, T.cl_Clock, T.n_Clock_present, (by show 3 < 1000; decide), ?_⟩
      rw [fldc_put]
      have b1 : But x H1 (upd H1 x (.ins cl.Clock dx (fldc pr pt w))) := fun b o e h => by rw [upd_ne h]; exact e
      obtain ⟨k1, k2⟩ := W1.tb.neIns hx1
      exact q1 (kept_iff.mp e) _ ⟨⟨dx, upd_same⟩, b1.tab W1.tb k1 k2, b1 _ _ W1.tm (ne_of W1.tm hx1 (fun z => by cases z)), W.len, W.np, W.nr⟩ fun b o g h _ => b1 b o (s1 _ _ g) h
    | false =>
      refine iteT ⟨(by show 1 ≤ sizeLine; decide), q2 (fun h => ?_) H1 s1⟩
      rw [kept_iff.mpr h] at e; cases e
theorem sc_Clock_mark : FnScope ["self", "x", "time", "ends"] ["self", "x", "time"] (defScope s_Clock_mark) := ⟨rfl, rfl, rfl, by decide +kernel, rfl, by decide +kernel, by decide +kernel⟩
theorem ok_Clock_mark {f : Addr} {fd : FuncData} (F : Fun K "mark" "Clock.mark" s_Clock_mark f fd) (T : Txt K mg cl) (C_lies_between : Cal P w K mg base 1 "lies_between" ["time", "low", "high"] (sp_lies_between K)) (M_Clock_turn : MCal P w K mg base cl.Clock 5 "turn" ["self", "x"] (sp_Clock_turn K cl)) : FnOk P w K mg base (CXx P w) 6 f fd ["self", "x", "time"] (sp_Clock_mark K cl) := by
  refine F.okX sc_Clock_mark (fun vs H Q E h => ?_) (fun cdv A outer s H vs Q E hr h => ?_)
  · obtain ⟨x, pr, pt, rr, n, t, bs, ss, z, y, w, rfl, W, R, hn, hy, q⟩ := h
    rfl
  · obtain ⟨x, pr, pt, rr, n, t, bs, ss, z, y, w, rfl, W, R, hn, hy, q⟩ := h
    refine ⟨_, (pss_cons (ps_set (i := 3) sc_Clock_mark.nd rfl (Or.inl rfl) (pe_meth (pv 0) T.cl_Clock M_Clock_turn.mt M_Clock_turn.ok (hr.mono (by decide)) M_Clock_turn.b .nil pass0 (pa_cons (pv 1) pa_nil)))
      (pss_cons (ps_if (PW.pt (pw_or (pt_cmpR op_isN (pv 3) pe_non (nomark _)) (pw_or1 (pt_not (pt_val (pec C_lies_between (hr.mono (by decide)) rfl (pa_cons (pv 2) (pa_cons (pe_ix ix_tup (pv 3) pe_int (fun _ _ => rfl)) (pa_cons (pe_ix ix_tup (pv 3) pe_int (fun _ _ => rfl)) pa_nil)))))))))
      (pss_one (ps_raise made_def rfl rfl T.g_NoTime T.x_NoTime (pa_cons (pe_join (pj_str (pj_int (pv 1) pj_nil))) pa_nil)))
      pss_nil)
      (pss_cons (ps_asg (pv 2) (pg_sub (pe_fld (pv 0) rfl) (pv 1) set_list))
      (pss_one (ps_fld (pv 0) (pv 2) rfl))))), ?_⟩
    obtain ⟨dx, hx⟩ := W.ob
    refine ⟨_, rfl, x, dx, _, rfl, hx, fldc_no _ _ _ (by decide +kernel) (by decide +kernel) (by decide +kernel), _, rfl, x, pr, pt, rr, n, t, bs, ss, z, y, rfl, W, R, by omega, hy, fun v o H1 s1 B A => ?_⟩
    obtain ⟨q1, q2⟩ := q o B
    have W1 := W.same s1
    have hx1 := s1 _ _ hx
    obtain ⟨d1, d2⟩ := digit_len y hy.1 (by have := hy.2; omega)
    rcases A with ⟨rfl, rfl⟩ | ⟨u, l, hi, rfl, hu, rfl⟩
    · refine ⟨_, rfl, rfl, _, rfl, iteT (iteT ?_)⟩
      refine ⟨_, rfl, _, rfl, d1, d2, fun tx => ⟨(by show 1 ≤ sizeLine; decide), q2 (fun h => ?_) H1 s1⟩⟩
      obtain ⟨_, _, e, _⟩ := h
      cases e
    · refine ⟨_, rfl, rfl, _, rfl, iteF ?_⟩
      refine ⟨_, rfl, _, rfl, u, _, 0, _, rfl, rfl, SqT.of hu, rfl, _, rfl, u, _, 1, _, rfl, rfl, SqT.of hu, rfl, w, some l, hi, rfl, _, rfl, ?_⟩
      cases e : kept w (some l) hi with
      | true =>
        refine iteF ?_
        refine ⟨_, rfl, _, rfl, x, cl.Clock, dx, _, _, rfl, hx1, T.cl_Clock, T.n_Clock_times, fldc_times _ _ _, _, rfl, pt, _, _, _, rfl, rfl, W1.tm, ixN_of hy.1 (by rw [List.length_map, W.len]; exact hy.2), ?_⟩
        have es : (ss.map ov).set y.toNat (.int w) = (ss.set y.toNat (some w)).map ov := by rw [List.map_set]; rfl
        rw [es]
        have b2 : But pt H1 (upd H1 pt (.lst ((ss.set y.toNat (some w)).map ov))) := fun b o e h => by rw [upd_ne h]; exact e
        have nx : x ≠ pt := Ne.symm (ne_of W1.tm hx1 (fun z => by cases z))
        have x2 := b2 _ _ hx1 nx
        have e2 : (upd H1 pt (.lst ((ss.set y.toNat (some w)).map ov))) pt = some (.lst ((ss.set y.toNat (some w)).map ov)) := upd_same
        have T2 := b2.tab W1.tb W.np W.nr
        generalize upd H1 pt (.lst ((ss.set y.toNat (some w)).map ov)) = H2 at b2 x2 e2 T2 ⊢
        refine ⟨_, rfl, _, rfl, x, cl.Clock, dx, _, rfl, x2, T.cl_Clock, T.n_Clock_present, (by show 3 < 1000; decide), ?_⟩
        rw [fldc_put]
        have b3 : But x H2 (upd H2 x (.ins cl.Clock dx (fldc pr pt w))) := fun b o e h => by rw [upd_ne h]; exact e
        obtain ⟨k1, k2⟩ := T2.neIns x2
        exact q1 ⟨l, hi, rfl, kept_iff.mp e⟩ _ ⟨⟨dx, upd_same⟩, b3.tab T2 k1 k2, b3 _ _ e2 (Ne.symm nx), by rw [List.length_set]; exact W.len, W.np, W.nr⟩ fun b o g h h' => b3 b o (b2 b o (s1 _ _ g) h') h
      | false =>
        refine iteT ?_
        refine ⟨_, rfl, _, rfl, d1, d2, fun tx => ⟨(by show 1 ≤ sizeLine; decide), q2 (fun h => ?_) H1 s1⟩⟩
        obtain ⟨l', hi', e', h'⟩ := h
        cases e'
        rw [kept_iff.mpr h'] at e; cases e
theorem sc_held : FnScope ["table", "bound"] ["table", "bound"] (defScope s_held) := ⟨rfl, rfl, rfl, by decide +kernel, rfl, by decide +kernel, by decide +kernel⟩
theorem ok_held {f : Addr} {fd : FuncData} (F : Fun K "held" "held" s_held f fd) (T : Txt K mg cl) (C_shuts : Cal P w K mg base 1 "shuts" ["bound", "table"] (sp_shuts K)) (C_held_row : Cal P w K mg base 2 "held_row" ["table", "a", "bound"] (sp_held_row K)) : FnOk P w K mg base CX0 3 f fd ["table", "bound"] (sp_held K) := by
  refine F.ok sc_held (fun vs H Q E h => ?_) (fun cdv A outer s H vs Q E hr h => ?_)
  · obtain ⟨u, v, m, rfl, hB, q⟩ := h
    rfl
  · obtain ⟨u, v, m, rfl, hB, q⟩ := h
    refine ⟨_, (pss_cons (ps_if (PW.pt (pw_or (pt_cmpR op_isN (pv 0) pe_non (nomark _)) (pw_or1 (pt_val (pec C_shuts (hr.mono (by decide)) rfl (pa_cons (pv 1) (pa_cons (pv 0) pa_nil)))))))
      (pss_one (ps_ret pe_non))
      pss_nil)
      (pss_one (ps_ret (pe_compS ["table", "bound"] [0, 1] rfl (pi_range1 rfl T.z_range (pa_cons (pe_callB call_len_seq rfl T.z_len PySem.boot_len (pa_cons (pv 0) pa_nil)) pa_nil)) (fun _ _ _ => pts_nil) (fun _ _ _ => (pec C_held_row (hr.mono (by decide)) rfl (pa_cons (pv 1) (pa_cons (pv 0) (pa_cons (pv 2) pa_nil))))) (hk := by kernel_rfl))))), ?_⟩
    rcases q with ⟨rfl, q⟩ | ⟨p, rs, t, n, rfl, hT, hS, hn, h1, h2, q1, q2⟩
    · exact ⟨_, rfl, rfl, _, rfl, iteT (iteT q)⟩
    · have hl := hT.len hS
      refine ⟨_, rfl, rfl, _, rfl, iteF ⟨_, rfl, _, rfl, u, p, m, rs, t, n, rfl, hB, hT, hS, h1, h2, _, rfl, ?_⟩⟩
      cases hs : shutB t m with
      | true => exact iteT (q1 hs)
      | false =>
        refine iteF ⟨_, rfl, p, _, rfl, .inl (SqL.of hT.ob), (n : Int), by rw [hl], by omega, by omega, comp_rows (n := ((n : Nat) : Int).toNat) (fun i => (List.range n).map fun (j : Nat) => heldF t m (i : Int) (j : Int)) (small (by omega)) ?_ ?_⟩
        · intro i H1 hi s1 R kR
          refine ⟨_, rfl, _, rfl, _, rfl, u, p, _, m, rs, t, n, rfl, s1.seqT hB, hT.same s1, hS, hn, ⟨by omega, by omega⟩, h1, h2, fun r hr => ?_⟩
          refine kR r _ hr (same_new hr _) ?_
          rw [upd_same, Int.zero_add]
        · intro p' rs' H' N
          rw [Int.toNat_natCast] at N
          exact q2 hs p' rs' H' N
theorem sc_law_shown : FnScope ["_law_clock", "_law_table", "_law_bounds_here", "_law_state", "_law_setting", "_law_told", "_law_x"] ["_law_clock", "_law_table", "_law_bounds_here", "_law_state"] (defScope s_law_shown) := ⟨rfl, rfl, rfl, by decide +kernel, rfl, by decide +kernel, by decide +kernel⟩
theorem ok_law_shown {f : Addr} {fd : FuncData} (F : Fun K "_law_shown" "_law_shown" s_law_shown f fd) (T : Txt K mg cl) (C_law_limit : Cal P w K mg base 3 "_law_limit" ["_law_table", "_law_setting"] (sp_law_limit K)) (C_law_turn : Cal P w K mg base 4 "_law_turn" ["_law_table", "_law_setting", "_law_now", "_law_x"] (sp_law_turn K)) (C_law_number_like : Cal P w K mg base 2 "_law_number_like" ["_law_found", "_law_due"] (sp_law_number_like K)) (C_law_turn_like : Cal P w K mg base 3 "_law_turn_like" ["_law_found", "_law_due"] (sp_law_turn_like K)) (C_law_course_good : Cal P w K mg base 2 "_law_course_good" ["_law_times_here", "_law_bounds_here", "_law_setting", "_law_now"] (sp_law_course_good K)) (M_Clock_now : MCal P w K mg base cl.Clock 1 "now" ["self"] (sp_Clock_now K cl)) (M_Clock_setting : MCal P w K mg base cl.Clock 1 "setting" ["self"] (sp_Clock_setting K cl)) (M_Clock_limit : MCal P w K mg base cl.Clock 4 "limit" ["self"] (sp_Clock_limit K cl)) (M_Clock_turn : MCal P w K mg base cl.Clock 5 "turn" ["self", "x"] (sp_Clock_turn K cl)) (M_Clock_course : MCal P w K mg base cl.Clock 4 "course" ["self"] (sp_Clock_course K cl)) : FnOk P w K mg base CX0 6 f fd ["_law_clock", "_law_table", "_law_bounds_here", "_law_state"] (sp_law_shown K cl) := by
  refine F.ok sc_law_shown (fun vs H Q E h => ?_) (fun cdv A outer s H vs Q E hr h => ?_)
  · obtain ⟨x, pr, pt, p, rb, st, r, rr, rs, n, t, qs, bs, ss, z, rfl, S, TB, R, hw, n1, n8, hrb, hA, q⟩ := h
    rfl
  · obtain ⟨x, pr, pt, p, rb, st, r, rr, rs, n, t, qs, bs, ss, z, rfl, S, TB, R, hw, n1, n8, hrb, hA, q⟩ := h
    refine ⟨_, (pss_cons (ps_set (i := 4) sc_law_shown.nd rfl (Or.inl rfl) (pe_ix ix_list (pv 3) pe_int (fun _ _ => rfl)))
      (pss_cons (ps_if (pt_not (pt_val (pec C_law_number_like (hr.mono (by decide)) rfl (pa_cons (pe_meth0 (pv 0) T.cl_Clock M_Clock_now.mt M_Clock_now.ok (hr.mono (by decide)) M_Clock_now.b .nil pass0) (pa_cons (pe_ix ix_list (pv 3) pe_int (fun _ _ => rfl)) pa_nil)))))
      (pss_one (ps_ret pe_bl))
      pss_nil)
      (pss_cons (ps_set (i := 5) sc_law_shown.nd rfl (Or.inl rfl) (pe_meth0 (pv 0) T.cl_Clock M_Clock_setting.mt M_Clock_setting.ok (hr.mono (by decide)) M_Clock_setting.b .nil pass0))
      (pss_cons (ps_if (PW.pt (pw_or (pt_not (pt_val (pe_callB call_isi rfl T.z_isinstance boot_isinstance (pa_cons (pv 5) (pa_cons (pe_bltn (v := .ty "list") rfl T.z_list boot_list rfl) pa_nil))))) (pw_or1 (pt_cmpR op_ne (pe_callB call_len_seq rfl T.z_len PySem.boot_len (pa_cons (pv 5) pa_nil)) (pe_callB call_len_seq rfl T.z_len PySem.boot_len (pa_cons (pv 4) pa_nil)) (nomark _)))))
      (pss_one (ps_ret pe_bl))
      pss_nil)
      (pss_cons (ps_for PassesOwn.never rfl (pi_range1 rfl T.z_range (pa_cons (pe_callB call_len_seq rfl T.z_len PySem.boot_len (pa_cons (pv 4) pa_nil)) pa_nil)) (pg_name (i := 6) sc_law_shown.nd rfl (Or.inl rfl))
      (pss_cons (ps_if (pt_not (pt_val (pec C_law_number_like (hr.mono (by decide)) rfl (pa_cons (pe_ix ix_list (pv 5) (pv 6) (fun _ _ => rfl)) (pa_cons (pe_ix ix_list (pv 4) (pv 6) (fun _ _ => rfl)) pa_nil)))))
      (pss_one (ps_ret pe_bl))
      pss_nil)
      (pss_one (ps_if (pt_not (pt_val (pec C_law_turn_like (hr.mono (by decide)) rfl (pa_cons (pe_meth (pv 0) T.cl_Clock M_Clock_turn.mt M_Clock_turn.ok (hr.mono (by decide)) M_Clock_turn.b .nil pass0 (pa_cons (pv 6) pa_nil)) (pa_cons (pec C_law_turn (hr.mono (by decide)) rfl (pa_cons (pv 1) (pa_cons (pv 4) (pa_cons (pe_ix ix_list (pv 3) pe_int (fun _ _ => rfl)) (pa_cons (pv 6) pa_nil))))) pa_nil)))))
      (pss_one (ps_ret pe_bl))
      pss_nil))))
      (pss_cons (ps_asg pe_int (pg_sub (pv 5) pe_int set_list))
      (pss_cons (ps_expr (pe_bm PySem.F.plainAttrs_list PySem.F.slot_list_append PySem.F.type_list_append mt_append (pv 5) (pa_cons pe_int pa_nil)))
      (pss_cons (ps_if (pt_not (pt_val (pec C_law_number_like (hr.mono (by decide)) rfl (pa_cons (pe_meth0 (pv 0) T.cl_Clock M_Clock_limit.mt M_Clock_limit.ok (hr.mono (by decide)) M_Clock_limit.b .nil pass0) (pa_cons (pec C_law_limit (hr.mono (by decide)) rfl (pa_cons (pv 1) (pa_cons (pv 4) pa_nil))) pa_nil)))))
      (pss_one (ps_ret pe_bl))
      pss_nil)
      (pss_one (ps_ret (pec C_law_course_good (hr.mono (by decide)) rfl (pa_cons (pe_meth0 (pv 0) T.cl_Clock M_Clock_course.mt M_Clock_course.ok (hr.mono (by decide)) M_Clock_course.b .nil pass0) (pa_cons (pv 2) (pa_cons (pv 4) (pa_cons (pe_ix ix_list (pv 3) pe_int (fun _ _ => rfl)) pa_nil))))))))))))))), ?_⟩
    obtain ⟨dx, hx⟩ := S.W.ob
    have hlen := S.W.len
    have hls : (ss.map ov).length = n := by rw [List.length_map]; exact hlen
    refine ⟨_, rfl, st, _, 1, _, rfl, rfl, SqL.of S.hs, rfl, ?_⟩
    refine ⟨_, rfl, x, dx, _, rfl, hx, fldc_no _ _ _ (by decide +kernel) (by decide +kernel) (by decide +kernel), x, pr, pt, rr, n, t, ss, z, rfl, S.W, _, rfl, st, _, 0, _, rfl, rfl, SqL.of S.hs, rfl, some z, rfl, _, rfl, iteF ?_⟩
    refine ⟨_, rfl, x, dx, _, rfl, hx, fldc_no _ _ _ (by decide +kernel) (by decide +kernel) (by decide +kernel), x, pr, pt, rr, n, t, ss, z, rfl, S.W, fun rt H1 s1 hrt e1 => ?_⟩
    refine ⟨_, rfl, _, _, _, _, rfl, .lst e1, kit_same, _, rfl, iteF ?_⟩
    refine ⟨_, rfl, rt, _, rfl, .inl (SqL.of e1), _, rfl, r, _, rfl, .inl (SqL.of (s1 _ _ S.hr)), rfl, _, rfl, iteNS rfl ?_⟩
    refine ⟨_, rfl, r, _, rfl, .inl (SqL.of (s1 _ _ S.hr)), _, rfl, by omega, by omega, for_range (lo := 0) (n := (((ss.map ov).length : Nat) : Int).toNat) (fun i σ H2 => Same H1 H2 ∧ ∃ u6, σ = [some (.ref x), some (.ref p), some (.ref rb), some (.ref st), some (.ref r), some (.ref rt), u6]) ⟨same_refl _, _, rfl⟩ ?_ ?_⟩
    · rintro i σ H2 hi ⟨s2, u6, rfl⟩
      have hi' : i < n := by rw [hls] at hi; simpa using hi
      have hin : inN (0 + (i : Int)) n := ⟨by omega, by omega⟩
      have s12 := s1.trans s2
      have S2 := S.same s12
      obtain ⟨dx2, hx2⟩ := S2.W.ob
      have at1 : atI (ss.map ov) (0 + (i : Int)) = some (ov (stt ss (0 + (i : Int)))) := at_stt hin.1 (by rw [hlen]; exact hin.2)
      refine ⟨_, rfl, _, rfl, rt, _, _, _, rfl, rfl, SqL.of (s2 _ _ e1), at1, _, rfl, _, rfl, r, _, _, _, rfl, rfl, SqL.of S2.hr, at1, stt ss (0 + (i : Int)), rfl, _, rfl, iteF ?_⟩
      refine ⟨_, rfl, x, dx2, _, rfl, hx2, fldc_no _ _ _ (by decide +kernel) (by decide +kernel) (by decide +kernel), _, rfl, x, pr, pt, rr, n, t, bs, ss, z, _, rfl, S2.W, R, by omega, hin, fun v3 o3 H3 s3 I3 T3 => ?_⟩
      have S3 := S2.same s3
      refine ⟨_, rfl, _, rfl, _, rfl, st, _, 0, _, rfl, rfl, SqL.of S3.hs, rfl, _, rfl, p, rs, t, n, r, ss, z, _, rfl, TB.same (s12.trans s3), R.square, by omega, S3.hr, hlen, hin, fun v4 o4 H4 s4 I4 T4 => ?_⟩
      have eo := I3.uniq I4
      subst eo
      exact ⟨v3, v4, o3, rfl, T3.same s4, T4, _, rfl, iteF ⟨(s2.trans s3).trans s4, _, rfl⟩⟩
    · rintro σ H2 ⟨s2, u6, rfl⟩
      have s12 := s1.trans s2
      have e2 := s2 _ _ e1
      refine ⟨_, rfl, rt, _, _, _, rfl, rfl, e2, ixN_of (by decide) (by rw [hls]; omega), ?_⟩
      have s3 : Same H (upd H2 rt (.lst ((ss.map ov).set (Int.toNat 0) (.int 5)))) := fun b o h => by rw [upd_ne (ne_of_none h hrt)]; exact s12 _ _ h
      have e3 : (upd H2 rt (.lst ((ss.map ov).set (Int.toNat 0) (.int 5)))) rt = some (.lst ((ss.map ov).set (Int.toNat 0) (.int 5))) := upd_same
      generalize upd H2 rt (.lst ((ss.map ov).set (Int.toNat 0) (.int 5))) = H3 at s3 e3 ⊢
      refine ⟨_, rfl, .inl ⟨rfl, _, SqL.of e3⟩, rt, _, _, rfl, rfl, e3, small1000 (by rw [List.length_set]; omega), ?_⟩
      have s4 : Same H (upd H3 rt (.lst (((ss.map ov).set (Int.toNat 0) (.int 5)) ++ [.int 0]))) := fun b o h => by rw [upd_ne (ne_of_none h hrt)]; exact s3 _ _ h
      generalize upd H3 rt (.lst (((ss.map ov).set (Int.toNat 0) (.int 5)) ++ [.int 0])) = H4 at s4 ⊢
      have S4 := S.same s4
      obtain ⟨dx4, hx4⟩ := S4.W.ob
      refine ⟨_, rfl, x, dx4, _, rfl, hx4, fldc_no _ _ _ (by decide +kernel) (by decide +kernel) (by decide +kernel), x, pr, pt, rr, n, t, ss, z, rfl, S4.W, R.square, by omega, fun hi H5 s5 M5 => ?_⟩
      have S5 := S4.same s5
      refine ⟨_, rfl, _, rfl, p, rs, t, n, r, ss, rfl, TB.same (s4.trans s5), R.square, by omega, S5.hr, hlen, fun hi' H6 s6 M6 => ?_⟩
      have em := M5.uniq M6
      subst em
      refine ⟨hi, rfl, _, rfl, iteF ?_⟩
      have S6 := S5.same s6
      obtain ⟨dx6, hx6⟩ := S6.W.ob
      refine ⟨_, rfl, x, dx6, _, rfl, hx6, fldc_no _ _ _ (by decide +kernel) (by decide +kernel) (by decide +kernel), x, pr, pt, rr, n, t, bs, ss, z, rfl, S6.W, R, by omega, fun u ts H7 s7 hu e7 lt L7 => ?_⟩
      have S7 := S6.same s7
      have s47 := (s4.trans s5).trans (s6.trans s7)
      obtain ⟨c1, c2, c3⟩ := course_ok R S.G S.C hlen L7
      exact ⟨_, rfl, _, rfl, _, rfl, st, _, 0, _, rfl, rfl, SqL.of S7.hs, rfl, u, rb, r, ts, ss, qs, bs, n, z, rfl, e7, s47 _ _ hrb, hA.same s47, S7.hr, lt, hlen, by omega, hw, R.keeps hw c1, c2, c3, q H7 s47⟩
theorem sc_law_refusal : FnScope ["_law_clock", "_law_x", "_law_time", "e"] ["_law_clock", "_law_x", "_law_time"] (defScope s_law_refusal) := ⟨rfl, rfl, rfl, by decide +kernel, rfl, by decide +kernel, by decide +kernel⟩
theorem ok_law_refusal {f : Addr} {fd : FuncData} (F : Fun K "_law_refusal" "_law_refusal" s_law_refusal f fd) (T : Txt K mg cl) (M_Clock_wait : MCalX P w K mg base cl.Clock 5 "wait" ["self", "time"] (sp_Clock_wait K cl)) (M_Clock_mark : MCalX P w K mg base cl.Clock 6 "mark" ["self", "x", "time"] (sp_Clock_mark K cl)) : FnOk P w K mg base CX0 7 f fd ["_law_clock", "_law_x", "_law_time"] (sp_law_refusal K cl) := by
  refine F.ok sc_law_refusal (fun vs H Q E h => ?_) (fun cdv A outer s H vs Q E hr h => ?_)
  · obtain ⟨x, pr, pt, rr, n, t, bs, ss, z, w, v, rfl, W, R, n8, h⟩ := h
    rfl
  · obtain ⟨x, pr, pt, rr, n, t, bs, ss, z, w, v, rfl, W, R, n8, h⟩ := h
    refine ⟨_, (pss_cons (ps_try rfl rfl (fun _ _ _ acc => (pss_one (ps_if (pt_cmpR op_isN (pv 1) pe_non (nomark _))
      (pss_one (ps_expr (pemZ (pv 0) T.cl_Clock M_Clock_wait (hr.mono (by decide)) acc (pa_cons (pv 2) pa_nil))))
      (pss_one (ps_expr (pemZ (pv 0) T.cl_Clock M_Clock_mark (hr.mono (by decide)) acc (pa_cons (pv 1) (pa_cons (pv 2) pa_nil))))))))
      (ph_as (i := 3) rfl T.g_WaitError T.h_WaitError rfl sc_law_refusal.nd rfl rfl (fun _ => (pss_one (ps_ret (pv 3)))) ph_nil))
      (pss_one (ps_ret pe_non))), ?_⟩
    obtain ⟨dx, hx⟩ := W.ob
    rcases h with ⟨rfl, q⟩ | ⟨y, rfl, hy, q⟩
    · refine ⟨_, rfl, rfl, _, rfl, iteT ?_⟩
      refine ⟨_, rfl, x, dx, _, rfl, hx, fldc_no _ _ _ (by decide +kernel) (by decide +kernel) (by decide +kernel), _, rfl, x, pr, pt, rr, n, t, ss, z, w, rfl, W, R.square, by omega, fun hi M => ⟨fun ir H1 W1 b1 => (q hi M).1 ir H1 W1 b1, fun no H1 s1 => ?_⟩⟩
      refine ⟨_, true, rfl, T.sub_W, iteT fun e he => ?_⟩
      exact ⟨_, rfl, (q hi M).2 no e _ (s1.trans (same_new he _)) upd_same⟩
    · refine ⟨_, rfl, rfl, _, rfl, iteF ?_⟩
      refine ⟨_, rfl, x, dx, _, rfl, hx, fldc_no _ _ _ (by decide +kernel) (by decide +kernel) (by decide +kernel), _, rfl, _, rfl, x, pr, pt, rr, n, t, bs, ss, z, y, w, rfl, W, R, n8, hy, fun o B => ⟨fun it H1 W1 b1 => (q o B).1 it H1 W1 b1, fun no H1 s1 => ?_⟩⟩
      refine ⟨_, true, rfl, T.sub_W, iteT fun e he => ?_⟩
      exact ⟨_, rfl, (q o B).2 no e _ (s1.trans (same_new he _)) upd_same⟩
theorem sc_law_deed : FnScope ["_law_clock", "_law_table", "_law_state", "_law_cell_here", "_law_times_here", "_law_setting", "_law_end", "_law_time", "_law_good", "_law_some", "_law_x", "_law_due", "_law_ends"] ["_law_clock", "_law_table", "_law_state", "_law_cell_here", "_law_times_here"] (defScope s_law_deed) := ⟨rfl, rfl, rfl, by decide +kernel, rfl, by decide +kernel, by decide +kernel⟩
theorem ok_law_deed {f : Addr} {fd : FuncData} (F : Fun K "_law_deed" "_law_deed" s_law_deed f fd) (T : Txt K mg cl) (C_law_limit : Cal P w K mg base 3 "_law_limit" ["_law_table", "_law_setting"] (sp_law_limit K)) (C_law_turn : Cal P w K mg base 4 "_law_turn" ["_law_table", "_law_setting", "_law_now", "_law_x"] (sp_law_turn K)) (C_law_near : Cal P w K mg base 1 "_law_near" ["_law_cell_here", "_law_ends", "_law_plain"] (sp_law_near K)) (C_law_refusal : Cal P w K mg base 7 "_law_refusal" ["_law_clock", "_law_x", "_law_time"] (sp_law_refusal K cl)) (C_law_only_time : Cal P w K mg base 1 "_law_only_time" ["_law_some"] (sp_law_only_time K cl)) : FnOk P w K mg base CX0 8 f fd ["_law_clock", "_law_table", "_law_state", "_law_cell_here", "_law_times_here"] (sp_law_deed K cl) := by
  refine F.ok sc_law_deed (fun vs H Q E h => ?_) (fun cdv A outer s H vs Q E hr h => ?_)
  · obtain ⟨x, pr, pt, p, st, r, tt, rr, rs, n, t, bs, ss, z, c, ts, rfl, S, TB, R, n1, n8, htt, lt, nsp, nrp, nsr, nprs, nprr, nrr, q⟩ := h
    rfl
  · obtain ⟨x, pr, pt, p, st, r, tt, rr, rs, n, t, bs, ss, z, c, ts, rfl, S, TB, R, n1, n8, htt, lt, nsp, nrp, nsr, nprs, nprr, nrr, q⟩ := h
    refine ⟨_, (pss_cons (ps_set (i := 5) sc_law_deed.nd rfl (Or.inl rfl) (pe_ix ix_list (pv 2) pe_int (fun _ _ => rfl)))
      (pss_cons (ps_if (pt_cmpR op_eq (pe_op op_mod (pv 3) pe_int) pe_int (nomark _))
      (pss_cons (ps_set (i := 6) sc_law_deed.nd rfl (Or.inl rfl) (pec C_law_limit (hr.mono (by decide)) rfl (pa_cons (pv 1) (pa_cons (pv 5) pa_nil))))
      (pss_cons (ps_set (i := 7) sc_law_deed.nd rfl (Or.inl rfl) (pec C_law_near (hr.mono (by decide)) rfl (pa_cons (pe_op op_fdiv (pv 3) pe_int) (pa_cons (pe_lst (pa_cons (pe_ix ix_list (pv 2) pe_int (fun _ _ => rfl)) (pa_cons (pv 6) pa_nil))) (pa_cons (pe_op op_add (pe_ix ix_list (pv 2) pe_int (fun _ _ => rfl)) (pe_op op_mod (pe_op op_fdiv (pv 3) pe_int) pe_int)) pa_nil)))))
      (pss_cons (ps_set (i := 8) sc_law_deed.nd rfl (Or.inl rfl) (pe_and (pe_cmpR op_ge (pv 7) (pe_ix ix_list (pv 2) pe_int (fun _ _ => rfl)) (nomark _)) (pe_one (pe_or (pe_cmpR op_isN (pv 6) pe_non (nomark _)) (pe_one (pe_cmpR op_le (pv 7) (pv 6) (nomark _)))))))
      (pss_cons (ps_set (i := 9) sc_law_deed.nd rfl (Or.inl rfl) (pec C_law_refusal (hr.mono (by decide)) rfl (pa_cons (pv 0) (pa_cons pe_non (pa_cons (pv 7) pa_nil)))))
      (pss_cons (ps_if (pt_val (pv 8))
      (pss_cons (ps_asg (pv 7) (pg_sub (pv 2) pe_int set_list))
      (pss_one (ps_ret (pe_cmpR op_isN (pv 9) pe_non (nomark _)))))
      pss_nil)
      (pss_one (ps_ret (pec C_law_only_time (hr.mono (by decide)) rfl (pa_cons (pv 9) pa_nil)))))))))
      pss_nil)
      (pss_cons (ps_set (i := 10) sc_law_deed.nd rfl (Or.inl rfl) (pe_op op_mod (pe_op op_fdiv (pv 3) pe_int) (pe_callB call_len_seq rfl T.z_len PySem.boot_len (pa_cons (pv 5) pa_nil))))
      (pss_cons (ps_set (i := 11) sc_law_deed.nd rfl (Or.inl rfl) (pec C_law_turn (hr.mono (by decide)) rfl (pa_cons (pv 1) (pa_cons (pv 5) (pa_cons (pe_ix ix_list (pv 2) pe_int (fun _ _ => rfl)) (pa_cons (pv 10) pa_nil))))))
      (pss_cons (ps_set (i := 12) sc_law_deed.nd rfl (Or.inl rfl) (pe_lst (pa_cons pe_non (pa_cons pe_non pa_nil))))
      (pss_cons (ps_if (pt_cmpR op_notN (pv 11) pe_non (nomark _))
      (pss_one (ps_set (i := 12) sc_law_deed.nd rfl (Or.inl rfl) (pe_lst (pa_cons (pe_ix ix_tup (pv 11) pe_int (fun _ _ => rfl)) (pa_cons (pe_ix ix_tup (pv 11) pe_int (fun _ _ => rfl)) pa_nil)))))
      pss_nil)
      (pss_cons (ps_set (i := 7) sc_law_deed.nd rfl (Or.inl rfl) (pec C_law_near (hr.mono (by decide)) rfl (pa_cons (pe_op op_fdiv (pv 3) pe_int) (pa_cons (pv 12) (pa_cons (pe_ix ix_tup (pv 4) (pv 10) (fun _ _ => rfl)) pa_nil)))))
      (pss_cons (ps_set (i := 8) sc_law_deed.nd rfl (Or.inl rfl) (pe_and (pe_cmpR op_notN (pv 11) pe_non (nomark _)) (pe_and (pe_cmpR op_ge (pv 7) (pe_ix ix_tup (pv 11) pe_int (fun _ _ => rfl)) (nomark _)) (pe_one (pe_or (pe_cmpR op_isN (pe_ix ix_tup (pv 11) pe_int (fun _ _ => rfl)) pe_non (nomark _)) (pe_one (pe_cmpR op_le (pv 7) (pe_ix ix_tup (pv 11) pe_int (fun _ _ => rfl)) (nomark _))))))))
      (pss_cons (ps_set (i := 9) sc_law_deed.nd rfl (Or.inl rfl) (pec C_law_refusal (hr.mono (by decide)) rfl (pa_cons (pv 0) (pa_cons (pv 10) (pa_cons (pv 7) pa_nil)))))
      (pss_cons (ps_if (pt_val (pv 8))
      (pss_cons (ps_asg (pv 7) (pg_sub (pv 2) pe_int set_list))
      (pss_cons (ps_asg (pv 7) (pg_sub (pv 5) (pv 10) set_list))
      (pss_one (ps_ret (pe_cmpR op_isN (pv 9) pe_non (nomark _))))))
      pss_nil)
      (pss_one (ps_ret (pec C_law_only_time (hr.mono (by decide)) rfl (pa_cons (pv 9) pa_nil)))))))))))))), ?_⟩
    have hlen := S.W.len
    have hls : (ss.map ov).length = n := by rw [List.length_map]; exact hlen
    refine ⟨_, rfl, st, _, 1, _, rfl, rfl, SqL.of S.hs, rfl, ?_⟩
    refine ⟨_, rfl, _, _, rfl, rfl, (by show (0 : Int) < 3; decide), rfl, _, rfl, ?_⟩
    refine ite2 (fun _ => ?_) (fun _ => ?_)
    · refine ⟨_, rfl, _, rfl, p, rs, t, n, r, ss, rfl, TB, R.square, by omega, S.hr, hlen, fun hi H1 s1 M => ?_⟩
      have S1 := S.same s1
      refine ⟨_, rfl, _, _, rfl, rfl, ⟨by decide, by decide⟩, _, rfl, st, _, 0, _, rfl, rfl, SqL.of S1.hs, rfl, _, rfl, (by show 2 ≤ sizeLine; decide), fun re hre => ?_⟩
      have s2 := same_new hre (.lst [.int z, ov hi])
      have e2 : (upd H1 re (.lst [.int z, ov hi])) re = some (.lst ([some z, hi].map ov)) := upd_same
      generalize upd H1 re (.lst [.int z, ov hi]) = H2 at s2 e2 ⊢
      have S2 := S1.same s2
      refine ⟨_, rfl, st, _, 0, _, rfl, rfl, SqL.of S2.hs, rfl, _, rfl, _, _, rfl, rfl, ⟨by decide, by decide⟩, _, _, rfl, rfl, (by show (0 : Int) < 7; decide), _, _, rfl, rfl, _, _, re, [some z, hi], rfl, e2, by show 2 ≤ 10; decide, fun w H3 s3 => ?_⟩
      have s13 := (s1.trans s2).trans s3
      have S3 := S.same s13
      apply restJ (C := fun H' σ => H' = H3 ∧ ∃ g : Bool, (g = true ↔ InRoom (some z) hi w) ∧ σ = [some (.ref x), some (.ref p), some (.ref st), some (.int c), some (.ref tt), some (.ref r), some (ov hi), some (.int w), some (.bl g), none, none, none, none])
      · intro rest
        refine ⟨_, rfl, _, rfl, st, _, 0, _, rfl, rfl, SqL.of S3.hs, rfl, _, _, rfl, rfl, _, rfl, ?_⟩
        refine ite2 (fun c1 => ?h1) (fun c1 => ?h2)
        case h2 =>
          have nz : ¬ z ≤ w := fun h => c1 (decide_eq_true h)
          unfold gName
          dsimp only
          generalize hH : H3 = Hx
          generalize hσ : (List.set _ _ _ : L2.St) = σ'
          exact rest Hx σ' ⟨hH.symm, false, ⟨fun h => (by cases h), fun h => absurd (h.1 z rfl) nz⟩, by rw [← hσ]; rfl⟩
        case h1 =>
          have hz : z ≤ w := of_decide_eq_true c1
          rcases opt_no hi with hh | ⟨h, hh⟩
          · rw [hh]
            refine ⟨_, rfl, rfl, _, rfl, iteT ?_⟩
            exact rest _ _ ⟨rfl, true, ⟨fun _ => ⟨fun l e => by cases e; exact hz, fun h e => by rw [hh] at e; cases e⟩, fun _ => rfl⟩, by rw [hh]; rfl⟩
          · rw [hh]
            refine ⟨_, rfl, rfl, _, rfl, iteF ⟨_, rfl, _, rfl, _, _, rfl, rfl, ?_⟩⟩
            exact rest _ _ ⟨rfl, decide (w ≤ h), ⟨fun g => ⟨fun l e => by cases e; exact hz, fun h' e => by rw [hh] at e; cases e; exact of_decide_eq_true g⟩, fun g => decide_eq_true (g.2 h hh)⟩, by rw [hh]; rfl⟩
      rintro _ _ ⟨rfl, g, hg, rfl⟩
      refine ⟨_, rfl, _, rfl, x, pr, pt, rr, n, t, bs, ss, z, w, .non, rfl, S3.W, R, n8, .inl ⟨rfl, fun hi' M' => ?_⟩⟩
      have eh := M'.uniq M
      subst eh
      refine ⟨fun ir H4 W4 b4 => ?_, fun no e H4 s4 he => ?_⟩
      · have eg : g = true := hg.mpr ir
        subst eg
        obtain ⟨dx3, hx3⟩ := S3.W.ob
        have st4 := b4 _ _ S3.hs (ne_of S3.hs hx3 (fun z => by cases z)) nsp
        have r4 := b4 _ _ S3.hr (ne_of S3.hr hx3 (fun z => by cases z)) nrp
        refine ⟨_, rfl, _, rfl, iteT ⟨_, rfl, _, rfl, st, _, _, _, rfl, rfl, st4, ixN_of (by decide) (by show (0 : Int) < ((2 : Nat) : Int); decide), ?_⟩⟩
        have b5 : But st H4 (upd H4 st (.lst [.int w, .ref r])) := fun b o e h => by rw [upd_ne h]; exact e
        refine ⟨_, rfl, rfl, dec_true rfl (q ss w _ ⟨W4.other b5 st4 nprs (Ne.symm nsp) fun a ha => (nrr a ha).1, upd_same, b5 _ _ r4 (Ne.symm nsr), S.G, M.can ir.2⟩ fun b o e k1 k2 k3 k4 => b5 _ _ (b4 _ _ (s13 _ _ e) k1 k2) k3)⟩
      · have eg : g = false := by
          cases g with
          | true => exact absurd (hg.mp rfl) no
          | false => rfl
        subst eg
        refine ⟨_, rfl, _, rfl, iteF ⟨_, rfl, e, rfl, he, q ss z H4 (S3.same s4) fun b o e k1 k2 k3 k4 => s4 _ _ (s13 _ _ e)⟩⟩
    · have L1 : (0 : Int) < (((ss.map ov).length : Nat) : Int) := by omega
      have y0 := Int.emod_nonneg (c / 3) (b := (((ss.map ov).length : Nat) : Int)) (by omega)
      have y1 := Int.emod_lt_of_pos (c / 3) L1
      refine ⟨_, rfl, _, _, rfl, rfl, ⟨by decide, by decide⟩, _, rfl, r, _, rfl, .inl (SqL.of S.hr), _, _, rfl, rfl, L1, ?_⟩
      dsimp only
      generalize c / 3 % (((ss.map ov).length : Nat) : Int) = y at y0 y1 ⊢
      have hy : inN y n := ⟨y0, by rw [hls] at y1; exact y1⟩
      refine ⟨_, rfl, _, rfl, _, rfl, st, _, 0, _, rfl, rfl, SqL.of S.hs, rfl, _, rfl, p, rs, t, n, r, ss, z, y, rfl, TB, R.square, by omega, S.hr, hlen, hy, fun v o H1 s1 I1 T1 => ?_⟩
      refine ⟨(by show 2 ≤ sizeLine; decide), fun re hre => ?_⟩
      have s2 := same_new hre (.lst [.non, .non])
      have e2 : (upd H1 re (.lst [.non, .non])) re = some (.lst ([none, none].map ov)) := upd_same
      generalize upd H1 re (.lst [.non, .non]) = H2 at s2 e2 ⊢
      have s12 := s1.trans s2
      rcases T1 with ⟨rfl, rfl⟩ | ⟨u, l, hi, rfl, hu, rfl⟩
      · refine ⟨_, rfl, rfl, _, rfl, iteF ?_⟩
        refine ⟨_, rfl, _, _, rfl, rfl, ⟨by decide, by decide⟩, _, rfl, _, rfl, _, rfl, tt, _, _, _, rfl, rfl, SqT.of (s12 _ _ htt), at_int hy.1 (by have := hy.2; omega), _, _, re, [none, none], rfl, e2, by show 2 ≤ 10; decide, fun w H3 s3 => ?_⟩
        have s13 := s12.trans s3
        have S3 := S.same s13
        refine ⟨_, rfl, rfl, _, rfl, iteF ?_⟩
        refine ⟨_, rfl, _, rfl, _, rfl, x, pr, pt, rr, n, t, bs, ss, z, w, .int y, rfl, S3.W, R, n8, .inr ⟨y, rfl, hy, fun o' B' => ?_⟩⟩
        have eo := B'.uniq I1
        subst eo
        refine ⟨fun it => (by obtain ⟨_, _, e, _⟩ := it; cases e), fun no e H4 s4 he => ?_⟩
        exact ⟨_, rfl, _, rfl, iteF ⟨_, rfl, e, rfl, he, q ss z H4 (S3.same s4) fun b o e k1 k2 k3 k4 => s4 _ _ (s13 _ _ e)⟩⟩
      · refine ⟨_, rfl, rfl, _, rfl, iteT ?_⟩
        have hu2 := s2 _ _ hu
        refine ⟨_, rfl, u, _, 0, _, rfl, rfl, SqT.of hu2, rfl, _, rfl, u, _, 1, _, rfl, rfl, SqT.of hu2, rfl, (by show 2 ≤ sizeLine; decide), fun re2 hre2 => ?_⟩
        have s3 := same_new hre2 (.lst [.int l, ov hi])
        have e3 : (upd H2 re2 (.lst [.int l, ov hi])) re2 = some (.lst ([some l, hi].map ov)) := upd_same
        generalize upd H2 re2 (.lst [.int l, ov hi]) = H3 at s3 e3 ⊢
        have s03 := s12.trans s3
        refine ⟨_, rfl, _, _, rfl, rfl, ⟨by decide, by decide⟩, _, rfl, _, rfl, _, rfl, tt, _, _, _, rfl, rfl, SqT.of (s03 _ _ htt), at_int hy.1 (by have := hy.2; omega), _, _, re2, [some l, hi], rfl, e3, by show 2 ≤ 10; decide, fun w H4 s4 => ?_⟩
        have s04 := s03.trans s4
        have S4 := S.same s04
        have hu4 := s4 _ _ (s3 _ _ hu2)
        apply restJ (C := fun H' σ => H' = H4 ∧ ∃ g : Bool, (g = true ↔ InRoom (some l) hi w) ∧ σ = [some (.ref x), some (.ref p), some (.ref st), some (.int c), some (.ref tt), some (.ref r), none, some (.int w), some (.bl g), none, some (.int y), some (.ref u), some (.ref re2)])
        · intro rest
          refine ⟨_, rfl, rfl, _, rfl, iteT ?_⟩
          refine ⟨_, rfl, _, rfl, u, _, 0, _, rfl, rfl, SqT.of hu4, rfl, _, _, rfl, rfl, _, rfl, ?_⟩
          refine ite2 (fun c1 => ?h1) (fun c1 => ?h2)
          case h2 =>
            have nz : ¬ l ≤ w := fun h => c1 (decide_eq_true h)
            unfold gName
            dsimp only
            generalize hH : H4 = Hx
            generalize hσ : (List.set _ _ _ : L2.St) = σ'
            exact rest Hx σ' ⟨hH.symm, false, ⟨fun h => (by cases h), fun h => absurd (h.1 l rfl) nz⟩, by rw [← hσ]; rfl⟩
          case h1 =>
            have hz : l ≤ w := of_decide_eq_true c1
            rcases opt_no hi with hh | ⟨h, hh⟩
            · have hu5 : H4 u = some (.tup [.int l, .non]) := by rw [hu4, hh]; rfl
              refine ⟨_, rfl, u, _, 1, _, rfl, rfl, SqT.of hu5, rfl, rfl, _, rfl, iteT ?_⟩
              exact rest _ _ ⟨rfl, true, ⟨fun _ => ⟨fun l' e => by cases e; exact hz, fun h e => by rw [hh] at e; cases e⟩, fun _ => rfl⟩, rfl⟩
            · have hu5 : H4 u = some (.tup [.int l, .int h]) := by rw [hu4, hh]; rfl
              refine ⟨_, rfl, u, _, 1, _, rfl, rfl, SqT.of hu5, rfl, rfl, _, rfl, iteF ⟨_, rfl, _, rfl, u, _, 1, _, rfl, rfl, SqT.of hu5, rfl, _, _, rfl, rfl, ?_⟩⟩
              exact rest _ _ ⟨rfl, decide (w ≤ h), ⟨fun g => ⟨fun l' e => by cases e; exact hz, fun h' e => by rw [hh] at e; cases e; exact of_decide_eq_true g⟩, fun g => decide_eq_true (g.2 h hh)⟩, rfl⟩
        rintro _ _ ⟨rfl, g, hg, rfl⟩
        refine ⟨_, rfl, _, rfl, _, rfl, x, pr, pt, rr, n, t, bs, ss, z, w, .int y, rfl, S4.W, R, n8, .inr ⟨y, rfl, hy, fun o' B' => ?_⟩⟩
        have eo := B'.uniq I1
        subst eo
        refine ⟨fun it H5 W5 b5 => ?_, fun no e H5 s5 he => ?_⟩
        · obtain ⟨l', hi', ee, ir⟩ := it
          cases ee
          have eg : g = true := hg.mpr ir
          subst eg
          obtain ⟨dx4, hx4⟩ := S4.W.ob
          have st5 := b5 _ _ S4.hs (ne_of S4.hs hx4 (fun z => by cases z)) nsp
          have r5 := b5 _ _ S4.hr (ne_of S4.hr hx4 (fun z => by cases z)) nrp
          refine ⟨_, rfl, _, rfl, iteT ⟨_, rfl, _, rfl, st, _, _, _, rfl, rfl, st5, ixN_of (by decide) (by show (0 : Int) < ((2 : Nat) : Int); decide), ?_⟩⟩
          have b6 : But st H5 (upd H5 st (.lst [.int w, .ref r])) := fun b o e h => by rw [upd_ne h]; exact e
          have st6 : (upd H5 st (.lst [.int w, .ref r])) st = some (.lst [.int w, .ref r]) := upd_same
          have e6 : upd H5 st (.lst (([V.int z, V.ref r]).set (Int.toNat 0) (.int w))) = upd H5 st (.lst [.int w, .ref r]) := rfl
          rw [e6]
          generalize upd H5 st (.lst [.int w, .ref r]) = H6 at b6 st6 ⊢
          have r6 := b6 _ _ r5 (Ne.symm nsr)
          have W6 := W5.other b6 st5 nprs (Ne.symm nsp) fun a ha => (nrr a ha).1
          refine ⟨_, rfl, _, rfl, _, rfl, r, _, _, _, rfl, rfl, r6, ixN_of hy.1 (by rw [hls]; exact hy.2), ?_⟩
          have em : (ss.map ov).set y.toNat (.int w) = (ss.set y.toNat (some w)).map ov := by rw [List.map_set]; rfl
          rw [em]
          have b7 : But r H6 (upd H6 r (.lst ((ss.set y.toNat (some w)).map ov))) := fun b o e h => by rw [upd_ne h]; exact e
          obtain ⟨G', C'⟩ := next_ok R S.G hlen hy I1 (ir.1 l rfl) ir.2
          refine ⟨_, rfl, rfl, dec_true rfl (q _ w _ ⟨W6.other b7 r6 nprr (Ne.symm nrp) fun a ha => (nrr a ha).2, b7 _ _ st6 nsr, upd_same, G', C'⟩ fun b o e k1 k2 k3 k4 => b7 _ _ (b6 _ _ (b5 _ _ (s04 _ _ e) k1 k2) k3) k4)⟩
        · have eg : g = false := by
            cases g with
            | true => exact absurd ⟨l, hi, rfl, hg.mp rfl⟩ no
            | false => rfl
          subst eg
          exact ⟨_, rfl, _, rfl, iteF ⟨_, rfl, e, rfl, he, q ss z H5 (S4.same s5) fun b o e k1 k2 k3 k4 => s5 _ _ (s04 _ _ e)⟩⟩
theorem sc_table_of : FnScope ["count", "bounds", "table", "bound"] ["count", "bounds"] (defScope s_table_of) := ⟨rfl, rfl, rfl, by decide +kernel, rfl, by decide +kernel, by decide +kernel⟩
theorem ok_table_of {f : Addr} {fd : FuncData} (F : Fun K "table_of" "table_of" s_table_of f fd) (T : Txt K mg cl) (C_wide : Cal P w K mg base 2 "wide" ["count"] (sp_wide K)) (C_held : Cal P w K mg base 3 "held" ["table", "bound"] (sp_held K)) : FnOk P w K mg base CX0 4 f fd ["count", "bounds"] (sp_table_of K) := by
  refine F.ok sc_table_of (fun vs H Q E h => ?_) (fun cdv A outer s H vs Q E hr h => ?_)
  · obtain ⟨n, r, qs, bs, rfl, hL, hA, n1, n8, hw, hb, qt⟩ := h
    rfl
  · obtain ⟨n, r, qs, bs, rfl, hL, hA, n1, n8, hw, hb, qt⟩ := h
    refine ⟨_, (pss_cons (ps_set (i := 2) sc_table_of.nd rfl (Or.inl rfl) (pec C_wide (hr.mono (by decide)) rfl (pa_cons (pv 0) pa_nil)))
      (pss_cons (ps_for PassesOwn.never rfl (pi_list (pv 1)) (pg_name (i := 3) sc_table_of.nd rfl (Or.inl rfl))
      (pss_one (ps_set (i := 2) sc_table_of.nd rfl (Or.inl rfl) (pec C_held (hr.mono (by decide)) rfl (pa_cons (pv 2) (pa_cons (pv 3) pa_nil))))))
      (pss_one (ps_ret (pv 2))))), ?_⟩
    have hlen := hA.len
    refine ⟨_, rfl, n, rfl, by omega, fun p0 rs0 H0 N0 => ?_⟩
    refine ⟨_, rfl, r, rfl, ⟨_, N0.sm.seq hL⟩, for_list (K := K) (a := r) (xs := qs) (fun i σ H2 => Same H H2 ∧ (∃ v u3, σ = [some (.int n), some (.ref r), some v, u3] ∧ IsTN H H2 v n (bs.take i)))
      ⟨N0.sm, _, _, rfl, .inr ⟨p0, rs0, _, rfl, N0, wide_right n⟩⟩ (fun i σ H2 _ ⟨s, _⟩ => s.seq hL) ?_ ?_⟩
    · rintro i x σ H2 hi ⟨s2, v, u3, rfl, hv⟩
      obtain ⟨pb, m, hm, rfl, hp⟩ := (hA.same s2).get hi
      have htake : bs.take (i + 1) = bs.take i ++ [m] := by rw [List.take_add_one, hm]; rfl
      obtain ⟨m1, m2⟩ := hw m (List.mem_of_getElem? hm)
      refine ⟨_, rfl, _, rfl, pb, v, m, rfl, SqT.of hp, ?_⟩
      rcases hv with ⟨rfl, hn⟩ | ⟨p, rs, t, rfl, N, R⟩
      · refine .inl ⟨rfl, s2, _, _, rfl, .inl ⟨rfl, ?_⟩⟩
        rw [htake]
        exact hn.mono fun x hx => List.mem_append_left _ hx
      · refine .inr ⟨p, rs, t, n, rfl, N.tb, R.square, by omega, m1, m2, fun hs => ?_, fun hs p' rs' H' N' => ?_⟩
        · refine ⟨s2, _, _, rfl, .inl ⟨rfl, ?_⟩⟩
          rw [htake]
          exact shut_neg R m1 m2 hs
        · refine ⟨s2.trans N'.sm, _, _, rfl, .inr ⟨p', rs', _, rfl, N'.since s2, ?_⟩⟩
          rw [htake]
          refine held_right R (fun x hx => ?_) hs
          rcases List.mem_append.mp hx with hx | hx
          · exact hw x (List.mem_of_mem_take hx)
          · rw [List.mem_singleton.mp hx]; exact ⟨m1, m2⟩
    · rintro σ H2 ⟨s2, v, u3, rfl, hv⟩
      rw [hlen, List.take_length] at hv
      exact ⟨_, rfl, qt v H2 s2 hv⟩
theorem sc_law : FnScope ["_law_script", "_law_count", "_law_times_here", "_law_bounds_here", "_law_table", "_law_kept", "_law_start", "_law_clocks", "_law_states", "_law_cell_here", "_law_k"] ["_law_script"] (defScope s_law) := ⟨rfl, rfl, rfl, by decide +kernel, rfl, by decide +kernel, by decide +kernel⟩
theorem ok_law {f : Addr} {fd : FuncData} (F : Fun K "law" "law" s_law f fd) (T : Txt K mg cl) (C_table_of : Cal P w K mg base 4 "table_of" ["count", "bounds"] (sp_table_of K)) (C_law_cell : Cal P w K mg base 1 "_law_cell" ["_law_script", "_law_k"] (sp_law_cell K)) (C_law_times : Cal P w K mg base 2 "_law_times" ["_law_script", "_law_at", "_law_count"] (sp_law_times K)) (C_law_cells : Cal P w K mg base 2 "_law_cells" ["_law_script", "_law_at", "_law_many"] (sp_law_cells K)) (C_law_bounds : Cal P w K mg base 1 "_law_bounds" ["_law_cells_here", "_law_count", "_law_times_here"] (sp_law_bounds K)) (C_law_shown : Cal P w K mg base 6 "_law_shown" ["_law_clock", "_law_table", "_law_bounds_here", "_law_state"] (sp_law_shown K cl)) (C_law_deed : Cal P w K mg base 8 "_law_deed" ["_law_clock", "_law_table", "_law_state", "_law_cell_here", "_law_times_here"] (sp_law_deed K cl)) (MK_Clock : MkCal P w K mg base cl.Clock 1 "Clock" ["self", "table", "start"] (sp_Clock___init__ K cl)) : FnOk P w K mg base CX0 9 f fd ["_law_script"] (sp_law K) := by
  refine F.ok sc_law (fun vs H Q E h => ?_) (fun cdv A outer s H vs Q E hr h => ?_)
  · obtain ⟨a, ns, rfl, hS, h63, q⟩ := h
    rfl
  · obtain ⟨a, ns, rfl, hS, h63, q⟩ := h
    refine ⟨_, (pss_cons (ps_set (i := 1) sc_law.nd rfl (Or.inl rfl) (pe_op op_add pe_int (pe_op op_mod (pec C_law_cell (hr.mono (by decide)) rfl (pa_cons (pv 0) (pa_cons pe_int pa_nil))) pe_int)))
      (pss_cons (ps_set (i := 2) sc_law.nd rfl (Or.inl rfl) (pec C_law_times (hr.mono (by decide)) rfl (pa_cons (pv 0) (pa_cons pe_int (pa_cons (pv 1) pa_nil)))))
      (pss_cons (ps_set (i := 3) sc_law.nd rfl (Or.inl rfl) (pec C_law_bounds (hr.mono (by decide)) rfl (pa_cons (pec C_law_cells (hr.mono (by decide)) rfl (pa_cons (pv 0) (pa_cons pe_int (pa_cons pe_int pa_nil)))) (pa_cons (pv 1) (pa_cons (pv 2) pa_nil)))))
      (pss_cons (ps_set (i := 4) sc_law.nd rfl (Or.inl rfl) (pec C_table_of (hr.mono (by decide)) rfl (pa_cons (pv 1) (pa_cons (pe_callTy call_list_of rfl T.z_list boot_list (pa_cons (pv 3) pa_nil)) pa_nil))))
      (pss_cons (ps_setComp (j := 5) [] [] sc_law.nd rfl rfl rfl (pi_list (pv 4)) (fun _ _ _ => pts_nil) (fun _ _ _ => (pe_callTy (call_list_ofK (K := K) rfl) rfl T.z_list boot_list (pa_cons (pv 0) pa_nil))) (hk := by kernel_rfl))
      (pss_cons (ps_set (i := 6) sc_law.nd rfl (Or.inl rfl) (pe_op op_sub (pe_callB (call_minT rfl) rfl T.z_min boot_min (pa_cons (pv 2) pa_nil)) (pe_op op_mod (pec C_law_cell (hr.mono (by decide)) rfl (pa_cons (pv 0) (pa_cons pe_int pa_nil))) pe_int)))
      (pss_cons (ps_set (i := 7) sc_law.nd rfl (Or.inl rfl) (pe_lst (pa_cons (pe_make MK_Clock.mkd MK_Clock.ok (hr.mono (by decide)) rfl MK_Clock.mg MK_Clock.b .nil pass0 (pa_cons (pv 4) (pa_cons (pv 6) pa_nil))) (pa_cons (pe_make MK_Clock.mkd MK_Clock.ok (hr.mono (by decide)) rfl MK_Clock.mg MK_Clock.b .nil pass0 (pa_cons (pv 4) (pa_cons (pe_op op_sub (pv 6) pe_int) pa_nil))) pa_nil))))
      (pss_cons (ps_asg (pe_un un_neg pe_int) (pg_sub (pe_ix ix_list (pv 4) pe_int (fun _ _ => rfl)) pe_int set_list))
      (pss_cons (ps_expr (pe_bm PySem.F.plainAttrs_list PySem.F.slot_list_append PySem.F.type_list_append mt_append (pv 4) (pa_cons (pe_lst pa_nil) pa_nil)))
      (pss_cons (ps_set (i := 8) sc_law.nd rfl (Or.inl rfl) (pe_lst (pa_cons (pe_lst (pa_cons (pv 6) (pa_cons (pe_compS [] [] rfl (pi_range1 rfl T.z_range (pa_cons (pv 1) pa_nil)) (fun _ _ _ => pts_nil) (fun _ _ _ => pe_non) (hk := by kernel_rfl)) pa_nil))) (pa_cons (pe_lst (pa_cons (pe_op op_sub (pv 6) pe_int) (pa_cons (pe_compS [] [] rfl (pi_range1 rfl T.z_range (pa_cons (pv 1) pa_nil)) (fun _ _ _ => pts_nil) (fun _ _ _ => pe_non) (hk := by kernel_rfl)) pa_nil))) pa_nil))))
      (pss_cons (ps_for PassesOwn.never rfl (pi_list (pec C_law_cells (hr.mono (by decide)) rfl (pa_cons (pv 0) (pa_cons pe_int (pa_cons pe_int pa_nil))))) (pg_name (i := 9) sc_law.nd rfl (Or.inl rfl))
      (pss_cons (ps_set (i := 10) sc_law.nd rfl (Or.inl rfl) (pe_op op_mod (pe_op op_fdiv (pv 9) pe_int) pe_int))
      (pss_cons (ps_if (pt_not (pt_val (pec C_law_shown (hr.mono (by decide)) rfl (pa_cons (pe_ix ix_list (pv 7) (pe_op op_sub pe_int (pv 10)) (fun _ _ => rfl)) (pa_cons (pv 5) (pa_cons (pv 3) (pa_cons (pe_ix ix_list (pv 8) (pe_op op_sub pe_int (pv 10)) (fun _ _ => rfl)) pa_nil)))))))
      (pss_one (ps_ret pe_bl))
      pss_nil)
      (pss_one (ps_if (pt_not (pt_val (pec C_law_deed (hr.mono (by decide)) rfl (pa_consP (pe_ix ix_list (pv 7) (pv 10) (fun _ _ => rfl)) (pa_consP (pv 5) (pa_consP (pe_ix ix_list (pv 8) (pv 10) (fun _ _ => rfl)) (pa_consP (pv 9) (pa_consP (pv 2) pa_nil))))))))
      (pss_one (ps_ret pe_bl))
      pss_nil)))))
      (pss_one (ps_ret (pe_and (pec C_law_shown (hr.mono (by decide)) rfl (pa_cons (pe_ix ix_list (pv 7) pe_int (fun _ _ => rfl)) (pa_cons (pv 5) (pa_cons (pv 3) (pa_cons (pe_ix ix_list (pv 8) pe_int (fun _ _ => rfl)) pa_nil))))) (pe_one (pec C_law_shown (hr.mono (by decide)) rfl (pa_cons (pe_ix ix_list (pv 7) pe_int (fun _ _ => rfl)) (pa_cons (pv 5) (pa_cons (pv 3) (pa_cons (pe_ix ix_list (pv 8) pe_int (fun _ _ => rfl)) pa_nil)))))))))))))))))))), ?_⟩
    refine ⟨_, rfl, a, ns, 0, rfl, hS, h63, by decide, by decide, fun c0 => ⟨_, _, rfl, rfl, (by show (0 : Int) < 5; decide), _, _, rfl, rfl, ?_⟩⟩
    have n0 : 0 < 1 + c0 % 5 := by omega
    have n8 : 1 + c0 % 5 ≤ 5 := by omega
    dsimp only
    generalize 1 + c0 % 5 = nn at n0 n8 ⊢
    refine ⟨_, rfl, _, rfl, a, ns, 3, nn, rfl, hS, h63, by decide, by decide, by omega, by omega, fun t H1 ts s1 l1 e1 => ?_⟩
    have hS1 := s1.seq hS
    refine ⟨_, rfl, a, ns, 12, 16, rfl, hS1, h63, by decide, by decide, by decide, fun rc H2 zs s2 e2 l4 l63 => ?_⟩
    refine ⟨_, rfl, _, rfl, rc, t, zs, ts, nn, rfl, SqL.of e2, l63, SqT.of (s2 _ _ e1), l1, by omega, by omega, fun rb H3 qs bs hrb0 s3 e3 a3 l3 w3 hk => ?_⟩
    obtain ⟨n, rfl⟩ : ∃ n : Nat, nn = (n : Int) := ⟨nn.toNat, by omega⟩
    have lt : ts.length = n := by omega
    rw [lt] at w3
    have s13 := s2.trans s3
    have hS3 := s13.seq hS1
    have t3 := s13 _ _ e1
    refine ⟨_, rfl, _, rfl, rb, _, rfl, .inl (SqL.of e3), fun rl hrl => ?_⟩
    have s4 := same_new hrl (.lst qs)
    have h4 : (upd H3 rl (.lst qs)) rl = some (.lst qs) := upd_same
    generalize upd H3 rl (.lst qs) = H4 at s4 h4 ⊢
    refine ⟨n, rl, qs, bs, rfl, SqL.of h4, a3.same s4, by omega, by omega, w3, by omega, fun v H5 s5 iv => ?_⟩
    rcases iv with ⟨_, hneg⟩ | ⟨p, rs, tb, rfl, N5, R⟩
    · exact absurd hneg (noneg_kept hk)
    have s35 := s4.trans s5
    have hlr := N5.tb.len R.square
    have hsz : rs.length ≤ sizeLine := by rw [List.length_map] at hlr; rw [hlr]; exact small (by omega)
    refine ⟨_, rfl, p, rfl, ⟨_, SqL.of N5.tb.ob⟩, comp_copies N5.tb hsz ?_ fun kp rk H6 N6 => ?_⟩
    · intro i H1' r row _ _ hr R' kR
      exact ⟨_, rfl, r, _, rfl, .inl (SqL.of hr), fun l hl => kR l hl⟩
    have s36 := s35.trans N6.sm
    have t6 := s36 _ _ t3
    refine ⟨_, rfl, t, ts, rfl, SqT.of t6, by omega, _, rfl, a, ns, 2, rfl, s36.seq hS3, h63, by decide, by decide, fun c2 => ⟨_, _, rfl, rfl, (by show (0 : Int) < 7; decide), _, _, rfl, rfl, ?_⟩⟩
    dsimp only
    generalize ts.getD (leastAt ts) 0 - c2 % 7 = start
    have L6 : Live H6 (rb :: (p :: rs) ++ (kp :: rk)) := by
      refine Live.app ?_ N6.tb.live
      intro b hb
      rcases List.mem_cons.mp hb with e | e
      · subst e; exact ⟨_, s36 _ _ e3⟩
      · exact (N5.tb.same N6.sm).live b e
    refine ⟨_, rfl, _, rfl, fun x0 d0 nx0 nd0 ne0 => ?_⟩
    have mm0 := made_same (C := cl.Clock) nx0 nd0 ne0
    refine ⟨x0, d0, p, rs, tb, n, start, rfl, upd_same, (N5.tb.same N6.sm).same mm0, R.square, by omega, fun pr0 rr0 pt0 H7 W7 bx0 q00 t00 r00 => ⟨rfl, ?_⟩⟩
    have s67 : Same H6 H7 := fun b o e => bx0 b o (mm0 b o e) (ne_of_none e nx0)
    have o0 : ∀ b ∈ x0 :: pt0 :: pr0 :: rr0, H6 b = none := fun b hb => by
      rcases List.mem_cons.mp hb with e | e
      · subst e; exact nx0
      · rcases List.mem_cons.mp e with e | e
        · subst e; exact none_of mm0 t00
        · rcases List.mem_cons.mp e with e | e
          · subst e; exact none_of mm0 q00
          · exact none_of mm0 (r00 b e)
    refine ⟨_, rfl, _, rfl, _, _, rfl, rfl, fun x1 d1 nx1 nd1 ne1 => ?_⟩
    have mm1 := made_same (C := cl.Clock) nx1 nd1 ne1
    have T7 := (N5.tb.same N6.sm).same s67
    refine ⟨x1, d1, p, rs, tb, n, start - 3, rfl, upd_same, T7.same mm1, R.square, by omega, fun pr1 rr1 pt1 H8 W8 bx1 q01 t01 r01 => ⟨rfl, (by show 2 ≤ sizeLine; decide), fun rcl hrcl => ?_⟩⟩
    have s78 : Same H7 H8 := fun b o e => bx1 b o (mm1 b o e) (ne_of_none e nx1)
    have o1 : ∀ b ∈ x1 :: pt1 :: pr1 :: rr1, H7 b = none := fun b hb => by
      rcases List.mem_cons.mp hb with e | e
      · subst e; exact nx1
      · rcases List.mem_cons.mp e with e | e
        · subst e; exact none_of mm1 t01
        · rcases List.mem_cons.mp e with e | e
          · subst e; exact none_of mm1 q01
          · exact none_of mm1 (r01 b e)
    have s9 := same_new hrcl (.lst [.ref x0, .ref x1])
    have rcl9 : (upd H8 rcl (.lst [.ref x0, .ref x1])) rcl = some (.lst [.ref x0, .ref x1]) := upd_same
    have L8 : Live H8 ((rb :: (p :: rs) ++ (kp :: rk)) ++ ((x0 :: pt0 :: pr0 :: rr0) ++ (x1 :: pt1 :: pr1 :: rr1))) := ((L6.same s67).same s78).app (((W7.live).same s78).app W8.live)
    have L9 := (L8 : Live H8 _).upd (b := rcl) (o := .lst [.ref x0, .ref x1])
    generalize upd H8 rcl (.lst [.ref x0, .ref x1]) = H9 at s9 rcl9 L9 ⊢
    have s69 := (s67.trans s78).trans s9
    have T9 := T7.same (s78.trans s9)
    obtain ⟨ra, row, y1, y2, lrow, _⟩ := T9.rowAt R.square (a := 0) ⟨by decide, by omega⟩
    have hra : ra ∈ rs := by
      unfold atI at y1
      obtain ⟨j, _, hj⟩ := Option.bind_eq_some_iff.mp y1
      obtain ⟨c, hc, e⟩ := List.mem_map.mp (List.mem_of_getElem? hj)
      cases e
      exact hc
    refine ⟨_, rfl, _, rfl, p, _, _, _, rfl, rfl, SqL.of T9.ob, y1, ra, _, _, _, rfl, rfl, y2, ixN_of (by decide) ?_, ?_⟩
    · rw [List.length_map, lrow]; omega
    have nrap : ra ≠ p := fun z => (List.nodup_cons.mp N5.nd).1 (z ▸ hra)
    have b10 : But ra H9 (upd H9 ra (.lst ((row.map ov).set (Int.toNat 0) (.int (-5))))) := fun b o e h => by rw [upd_ne h]; exact e
    have p10 := b10 _ _ T9.ob (Ne.symm nrap)
    have ra10 : (upd H9 ra (.lst ((row.map ov).set (Int.toNat 0) (.int (-5))))) ra = some (.lst ((row.map ov).set (Int.toNat 0) (.int (-5)))) := upd_same
    generalize upd H9 ra (.lst ((row.map ov).set (Int.toNat 0) (.int (-5)))) = H10 at b10 p10 ra10 ⊢
    have hpl : (rs.map V.ref).length = n := T9.len R.square
    refine ⟨_, rfl, .inl ⟨rfl, _, SqL.of p10⟩, (by show 0 ≤ sizeLine; decide), fun re hre => ⟨p, _, _, rfl, rfl, same_new hre _ _ _ p10, small1000 (by omega), ?_⟩⟩
    have s10 := same_new hre (.lst [])
    have p10' := s10 _ _ p10
    have b11 : But p (upd H10 re (.lst [])) (upd (upd H10 re (.lst [])) p (.lst (rs.map V.ref ++ [.ref re]))) := fun b o e h => by rw [upd_ne h]; exact e
    have p11 : (upd (upd H10 re (.lst [])) p (.lst (rs.map V.ref ++ [.ref re]))) p = some (.lst (rs.map V.ref ++ [.ref re])) := upd_same
    have k911 : ∀ b o, H9 b = some o → b ≠ ra → b ≠ p → (upd (upd H10 re (.lst [])) p (.lst (rs.map V.ref ++ [.ref re]))) b = some o := fun b o e h1 h2 => b11 _ _ (s10 _ _ (b10 _ _ e h1)) h2
    have ra11 := b11 _ _ (s10 _ _ ra10) nrap
    have oldp : ∀ {b : Addr}, b ≠ ra → b ≠ p → True := fun _ _ => trivial
    have in6 : ∀ b ∈ p :: rs, b ∈ rb :: (p :: rs) ++ (kp :: rk) := fun b hb => List.mem_append_left _ (List.mem_cons_of_mem _ hb)
    have hra6 : ra ∈ p :: rs := List.mem_cons_of_mem _ hra
    have hp6 : p ∈ p :: rs := List.mem_cons_self ..
    have new0 : ∀ b ∈ x0 :: pt0 :: pr0 :: rr0, b ≠ ra ∧ b ≠ p := fun b hb => ⟨Ne.symm (L6.ne (o0 b hb) (in6 _ hra6)), Ne.symm (L6.ne (o0 b hb) (in6 _ hp6))⟩
    have new1 : ∀ b ∈ x1 :: pt1 :: pr1 :: rr1, b ≠ ra ∧ b ≠ p := fun b hb => ⟨Ne.symm ((L6.same s67).ne (o1 b hb) (in6 _ hra6)), Ne.symm ((L6.same s67).ne (o1 b hb) (in6 _ hp6))⟩
    have L5 : Live H5 (p :: rs) := N5.tb.live
    have newk : ∀ b ∈ kp :: rk, b ≠ ra ∧ b ≠ p := fun b hb => by
      have h : H5 b = none := by
        rcases List.mem_cons.mp hb with e | e
        · subst e; exact N6.p0
        · exact N6.r0 b e
      exact ⟨Ne.symm (L5.ne h hra6), Ne.symm (L5.ne h hp6)⟩
    have nrbp : rb ≠ ra ∧ rb ≠ p := ⟨ne_of_none (s4 _ _ e3) (N5.r0 _ hra), ne_of_none (s4 _ _ e3) N5.p0⟩
    have nrcl : rcl ≠ ra ∧ rcl ≠ p := ⟨Ne.symm (L8.ne hrcl (by simp [hra])), Ne.symm (L8.ne hrcl (by simp))⟩
    have W0a : ClockAt cl.Clock H9 x0 pr0 pt0 rr0 n tb (List.replicate n none) start := (W7.same s78).same s9
    have W1a : ClockAt cl.Clock H9 x1 pr1 pt1 rr1 n tb (List.replicate n none) (start - 3) := W8.same s9
    have W0 : ClockAt cl.Clock (upd (upd H10 re (.lst [])) p (.lst (rs.map V.ref ++ [.ref re]))) x0 pr0 pt0 rr0 n tb (List.replicate n none) start :=
      ((W0a.other b10 y2 (new0 _ (by simp)).1 (new0 _ (by simp)).1 fun b hb => (new0 b (by simp [hb])).1).same s10).other b11 p10' (new0 _ (by simp)).2 (new0 _ (by simp)).2 fun b hb => (new0 b (by simp [hb])).2
    have W1 : ClockAt cl.Clock (upd (upd H10 re (.lst [])) p (.lst (rs.map V.ref ++ [.ref re]))) x1 pr1 pt1 rr1 n tb (List.replicate n none) (start - 3) :=
      ((W1a.other b10 y2 (new1 _ (by simp)).1 (new1 _ (by simp)).1 fun b hb => (new1 b (by simp [hb])).1).same s10).other b11 p10' (new1 _ (by simp)).2 (new1 _ (by simp)).2 fun b hb => (new1 b (by simp [hb])).2
    have K11 : TabAt (upd (upd H10 re (.lst [])) p (.lst (rs.map V.ref ++ [.ref re]))) kp rk tb :=
      b11.tab (((b10.tab (N6.tb.same s69) (newk _ (by simp)).1 fun b hb => (newk b (by simp [hb])).1)).same s10) (newk _ (by simp)).2 fun b hb => (newk b (by simp [hb])).2
    have rb11 := k911 _ _ (s69 _ _ (s36 _ _ e3)) nrbp.1 nrbp.2
    have rcl11 := k911 _ _ rcl9 nrcl.1 nrcl.2
    have t11 := k911 _ _ (s69 _ _ t6) (ne_of (s69 _ _ t6) y2 (fun z => by cases z)) (ne_of (s69 _ _ t6) T9.ob (fun z => by cases z))
    have A11 : AreB (upd (upd H10 re (.lst [])) p (.lst (rs.map V.ref ++ [.ref re]))) qs bs := b11.areB p10' ((b10.areB y2 ((a3.same s36).same s69)).same s10)
    have S11 : SqL K (upd (upd H10 re (.lst [])) p (.lst (rs.map V.ref ++ [.ref re]))) a (ns.map V.int) := by
      have h3 := hS3
      rcases h3 with (h | ⟨o, h⟩) | h
      · exact .inl (.inl (k911 _ _ (s69 _ _ (s36 _ _ h)) (ne_of_none (s4 _ _ h) (N5.r0 _ hra)) (ne_of_none (s4 _ _ h) N5.p0)))
      · exact .inl (.inr ⟨o, k911 _ _ (s69 _ _ (s36 _ _ h)) (ne_of_none (s4 _ _ h) (N5.r0 _ hra)) (ne_of_none (s4 _ _ h) N5.p0)⟩)
      · exact .inr h
    generalize upd (upd H10 re (.lst [])) p (.lst (rs.map V.ref ++ [.ref re])) = H11 at p11 W0 W1 K11 rb11 rcl11 t11 A11 S11 ⊢
    have B11 : Live H11 ((rb :: rcl :: kp :: rk) ++ ((x0 :: pt0 :: pr0 :: rr0) ++ (x1 :: pt1 :: pr1 :: rr1))) := by
      refine Live.app ?_ (W0.live.app W1.live)
      intro b hb
      rcases List.mem_cons.mp hb with e | e
      · subst e; exact ⟨_, rb11⟩
      · rcases List.mem_cons.mp e with e | e
        · subst e; exact ⟨_, rcl11⟩
        · exact K11.live b e
    have hrep : ∀ Hs : Hp, True := fun _ => trivial
    refine ⟨_, rfl, _, rfl, ((n : Nat) : Int), rfl, by omega, by omega, comp_range (lo := 0) (n := ((n : Nat) : Int).toNat) (fun i acc H' => H' = H11 ∧ acc = List.replicate i V.non) (small (by omega)) ⟨rfl, rfl⟩ (fun i acc H' ⟨_, e⟩ => by rw [e, List.length_replicate]) ?_ ?_⟩
    · rintro i acc H' hi ⟨rfl, rfl⟩ R' kR
      exact kR _ _ ⟨rfl, by rw [List.replicate_succ']⟩
    rintro acc H' ⟨rfl, rfl⟩ r0 hr0
    rw [Int.toNat_natCast, rep_non]
    have s12 := same_new hr0 (.lst ((List.replicate n (none : Option Int)).map ov))
    have e12 : (upd H' r0 (.lst ((List.replicate n (none : Option Int)).map ov))) r0 = some (.lst ((List.replicate n (none : Option Int)).map ov)) := upd_same
    have B12 := B11.upd (b := r0) (o := .lst ((List.replicate n (none : Option Int)).map ov))
    generalize upd H' r0 (.lst ((List.replicate n (none : Option Int)).map ov)) = H12 at s12 e12 B12 ⊢
    refine ⟨(by show 2 ≤ sizeLine; decide), fun st0 hst0 => ?_⟩
    have s13' := same_new hst0 (.lst [.int start, .ref r0])
    have e13 : (upd H12 st0 (.lst [.int start, .ref r0])) st0 = some (.lst [.int start, .ref r0]) := upd_same
    have B13 := B12.upd (b := st0) (o := .lst [.int start, .ref r0])
    generalize upd H12 st0 (.lst [.int start, .ref r0]) = H13 at s13' e13 B13 ⊢
    refine ⟨_, rfl, _, _, rfl, rfl, _, rfl, ((n : Nat) : Int), rfl, by omega, by omega, comp_range (lo := 0) (n := ((n : Nat) : Int).toNat) (fun i acc H' => H' = H13 ∧ acc = List.replicate i V.non) (small (by omega)) ⟨rfl, rfl⟩ (fun i acc H' ⟨_, e⟩ => by rw [e, List.length_replicate]) ?_ ?_⟩
    · rintro i acc H'' hi ⟨rfl, rfl⟩ R' kR
      exact kR _ _ ⟨rfl, by rw [List.replicate_succ']⟩
    rintro acc H'' ⟨rfl, rfl⟩ r1 hr1
    rw [Int.toNat_natCast, rep_non]
    have s14 := same_new hr1 (.lst ((List.replicate n (none : Option Int)).map ov))
    have e14 : (upd H'' r1 (.lst ((List.replicate n (none : Option Int)).map ov))) r1 = some (.lst ((List.replicate n (none : Option Int)).map ov)) := upd_same
    have B14 := B13.upd (b := r1) (o := .lst ((List.replicate n (none : Option Int)).map ov))
    generalize upd H'' r1 (.lst ((List.replicate n (none : Option Int)).map ov)) = H14 at s14 e14 B14 ⊢
    refine ⟨(by show 2 ≤ sizeLine; decide), fun st1 hst1 => ?_⟩
    have s15 := same_new hst1 (.lst [.int (start - 3), .ref r1])
    have e15 : (upd H14 st1 (.lst [.int (start - 3), .ref r1])) st1 = some (.lst [.int (start - 3), .ref r1]) := upd_same
    have B15 := B14.upd (b := st1) (o := .lst [.int (start - 3), .ref r1])
    generalize upd H14 st1 (.lst [.int (start - 3), .ref r1]) = H15 at s15 e15 B15 ⊢
    refine ⟨(by show 2 ≤ sizeLine; decide), fun rss hrss => ?_⟩
    have s16 := same_new hrss (.lst [.ref st0, .ref st1])
    have e16 : (upd H15 rss (.lst [.ref st0, .ref st1])) rss = some (.lst [.ref st0, .ref st1]) := upd_same
    generalize upd H15 rss (.lst [.ref st0, .ref st1]) = H16 at s16 e16 ⊢
    have s1316 := (s14.trans s15).trans s16
    have s1216 := s13'.trans s1316
    have s1116 := s12.trans s1216
    have n1 : 1 ≤ n := by omega
    have n8' : n ≤ 8 := by omega
    refine ⟨_, rfl, a, ns, 8, 30, rfl, s1116.seq S11, h63, by decide, by decide, by decide, fun rcc H17 ys s17 e17 l4' l63' => ?_⟩
    have s1117 := s1116.trans s17
    have C0 : CS cl H17 x0 pr0 pt0 rr0 n tb (List.replicate n none) start st0 r0 := ⟨W0.same s1117, s17 _ _ (s1316 _ _ e13), s17 _ _ (s1216 _ _ e12), goes_rep n tb, can_rep n tb _⟩
    have C1 : CS cl H17 x1 pr1 pt1 rr1 n tb (List.replicate n none) (start - 3) st1 r1 := ⟨W1.same s1117, s17 _ _ (s16 _ _ e15), s17 _ _ ((s15.trans s16) _ _ e14), goes_rep n tb, can_rep n tb _⟩
    have in0 : ∀ b ∈ x0 :: pt0 :: pr0 :: rr0, b ∈ (rb :: rcl :: kp :: rk) ++ ((x0 :: pt0 :: pr0 :: rr0) ++ (x1 :: pt1 :: pr1 :: rr1)) := fun b h => List.mem_append_right _ (List.mem_append_left _ h)
    have in1 : ∀ b ∈ x1 :: pt1 :: pr1 :: rr1, b ∈ (rb :: rcl :: kp :: rk) ++ ((x0 :: pt0 :: pr0 :: rr0) ++ (x1 :: pt1 :: pr1 :: rr1)) := fun b h => List.mem_append_right _ (List.mem_append_right _ h)
    have inb : ∀ b ∈ rb :: rcl :: kp :: rk, b ∈ (rb :: rcl :: kp :: rk) ++ ((x0 :: pt0 :: pr0 :: rr0) ++ (x1 :: pt1 :: pr1 :: rr1)) := fun b h => List.mem_append_left _ h
    have fr0 : ∀ {b}, b ∈ (rb :: rcl :: kp :: rk) ++ ((x0 :: pt0 :: pr0 :: rr0) ++ (x1 :: pt1 :: pr1 :: rr1)) → b ≠ r0 := fun h => B11.ne hr0 h
    have fs0 : ∀ {b}, b ∈ (rb :: rcl :: kp :: rk) ++ ((x0 :: pt0 :: pr0 :: rr0) ++ (x1 :: pt1 :: pr1 :: rr1)) → b ≠ st0 := fun h => B12.ne hst0 (List.mem_cons_of_mem _ h)
    have fr1 : ∀ {b}, b ∈ (rb :: rcl :: kp :: rk) ++ ((x0 :: pt0 :: pr0 :: rr0) ++ (x1 :: pt1 :: pr1 :: rr1)) → b ≠ r1 := fun h => B13.ne hr1 (List.mem_cons_of_mem _ (List.mem_cons_of_mem _ h))
    have fs1 : ∀ {b}, b ∈ (rb :: rcl :: kp :: rk) ++ ((x0 :: pt0 :: pr0 :: rr0) ++ (x1 :: pt1 :: pr1 :: rr1)) → b ≠ st1 := fun h => B14.ne hst1 (List.mem_cons_of_mem _ (List.mem_cons_of_mem _ (List.mem_cons_of_mem _ h)))
    have g1 : r0 ≠ st0 := B12.ne hst0 (List.mem_cons_self ..)
    have g2 : st0 ≠ r1 := B13.ne hr1 (List.mem_cons_self ..)
    have g3 : r0 ≠ r1 := B13.ne hr1 (List.mem_cons_of_mem _ (List.mem_cons_self ..))
    have g4 : r1 ≠ st1 := B14.ne hst1 (List.mem_cons_self ..)
    have g5 : st0 ≠ st1 := B14.ne hst1 (List.mem_cons_of_mem _ (List.mem_cons_self ..))
    have g6 : r0 ≠ st1 := B14.ne hst1 (List.mem_cons_of_mem _ (List.mem_cons_of_mem _ (List.mem_cons_self ..)))
    have x01 : ∀ b ∈ x0 :: pt0 :: pr0 :: rr0, ∀ d ∈ x1 :: pt1 :: pr1 :: rr1, b ≠ d := fun b hb d hd => W7.live.ne (o1 d hd) hb
    have mx0 : x0 ∈ x0 :: pt0 :: pr0 :: rr0 := by simp
    have mp0 : pt0 ∈ x0 :: pt0 :: pr0 :: rr0 := by simp
    have mx1 : x1 ∈ x1 :: pt1 :: pr1 :: rr1 := by simp
    have mp1 : pt1 ∈ x1 :: pt1 :: pr1 :: rr1 := by simp
    have far0 : ∀ b ∈ x0 :: pt0 :: pr0 :: rr0 ++ [st0, r0], b ≠ x1 ∧ b ≠ pt1 ∧ b ≠ st1 ∧ b ≠ r1 := fun b hb => by
      rcases List.mem_append.mp hb with h | h
      · exact ⟨x01 b h _ mx1, x01 b h _ mp1, fs1 (in0 b h), fr1 (in0 b h)⟩
      · rcases List.mem_cons.mp h with e | h
        · subst e; exact ⟨Ne.symm (fs0 (in1 _ mx1)), Ne.symm (fs0 (in1 _ mp1)), g5, g2⟩
        · have e := List.mem_singleton.mp h
          subst e; exact ⟨Ne.symm (fr0 (in1 _ mx1)), Ne.symm (fr0 (in1 _ mp1)), g6, g3⟩
    have far1 : ∀ b ∈ x1 :: pt1 :: pr1 :: rr1 ++ [st1, r1], b ≠ x0 ∧ b ≠ pt0 ∧ b ≠ st0 ∧ b ≠ r0 := fun b hb => by
      rcases List.mem_append.mp hb with h | h
      · exact ⟨Ne.symm (x01 _ mx0 b h), Ne.symm (x01 _ mp0 b h), fs0 (in1 b h), fr0 (in1 b h)⟩
      · rcases List.mem_cons.mp h with e | h
        · subst e; exact ⟨Ne.symm (fs1 (in0 _ mx0)), Ne.symm (fs1 (in0 _ mp0)), Ne.symm g5, Ne.symm g6⟩
        · have e := List.mem_singleton.mp h
          subst e; exact ⟨Ne.symm (fr1 (in0 _ mx0)), Ne.symm (fr1 (in0 _ mp0)), Ne.symm g2, Ne.symm g3⟩
    have bas : ∀ b ∈ rb :: rcl :: kp :: rk, (b ≠ x0 ∧ b ≠ pt0 ∧ b ≠ st0 ∧ b ≠ r0) ∧ (b ≠ x1 ∧ b ≠ pt1 ∧ b ≠ st1 ∧ b ≠ r1) := fun b hb => by
      have k0 : b ≠ x0 ∧ b ≠ pt0 ∧ b ≠ x1 ∧ b ≠ pt1 := by
        by_cases c : b = rcl
        · subst c
          exact ⟨Ne.symm (L8.ne hrcl (by simp)), Ne.symm (L8.ne hrcl (by simp)), Ne.symm (L8.ne hrcl (by simp)), Ne.symm (L8.ne hrcl (by simp))⟩
        · have hm : b ∈ rb :: (p :: rs) ++ (kp :: rk) := by
            rcases List.mem_cons.mp hb with e | e
            · rw [e]; simp
            · rcases List.mem_cons.mp e with e | e
              · exact absurd e c
              · exact List.mem_append_right _ e
          exact ⟨L6.ne (o0 _ mx0) hm, L6.ne (o0 _ mp0) hm, (L6.same s67).ne (o1 _ mx1) hm, (L6.same s67).ne (o1 _ mp1) hm⟩
      exact ⟨⟨k0.1, k0.2.1, fs0 (inb b hb), fr0 (inb b hb)⟩, ⟨k0.2.2.1, k0.2.2.2, fs1 (inb b hb), fr1 (inb b hb)⟩⟩
    have brs : (rss ≠ x0 ∧ rss ≠ pt0 ∧ rss ≠ st0 ∧ rss ≠ r0) ∧ (rss ≠ x1 ∧ rss ≠ pt1 ∧ rss ≠ st1 ∧ rss ≠ r1) := by
      have k : ∀ {b}, b ∈ st1 :: r1 :: st0 :: r0 :: ((rb :: rcl :: kp :: rk) ++ ((x0 :: pt0 :: pr0 :: rr0) ++ (x1 :: pt1 :: pr1 :: rr1))) → rss ≠ b := fun h => Ne.symm (B15.ne hrss h)
      exact ⟨⟨k (by simp), k (by simp), k (by simp), k (by simp)⟩, ⟨k (by simp), k (by simp), k (by simp), k (by simp)⟩⟩
    have hnon : ∀ {ks : List Int}, 4 ≤ ks.length → ks.map V.int ≠ (List.replicate n (none : Option Int)).map ov := fun {ks} hk4 he => by
      cases ks with
      | nil => simp at hk4
      | cons k ks =>
        obtain ⟨m, rfl⟩ : ∃ m, n = m + 1 := ⟨n - 1, by omega⟩
        rw [List.replicate_succ] at he
        have h := (List.cons.inj he).1
        cases h
    have bcc : (rcc ≠ x0 ∧ rcc ≠ pt0 ∧ rcc ≠ st0 ∧ rcc ≠ r0) ∧ (rcc ≠ x1 ∧ rcc ≠ pt1 ∧ rcc ≠ st1 ∧ rcc ≠ r1) := by
      obtain ⟨d0', h0⟩ := C0.W.ob
      obtain ⟨d1', h1⟩ := C1.W.ob
      have two : ∀ {u v : V}, ys.map V.int ≠ [u, v] := fun he => by
        have := congrArg List.length he
        rw [List.length_map] at this
        simp at this; omega
      exact ⟨⟨ne_of e17 h0 (fun z => by cases z), ne_of e17 C0.W.tm (fun z => hnon l4' (HO.lst.inj z)), ne_of e17 C0.hs (fun z => two (HO.lst.inj z)), ne_of e17 C0.hr (fun z => hnon l4' (HO.lst.inj z))⟩, ⟨ne_of e17 h1 (fun z => by cases z), ne_of e17 C1.W.tm (fun z => hnon l4' (HO.lst.inj z)), ne_of e17 C1.hs (fun z => two (HO.lst.inj z)), ne_of e17 C1.hr (fun z => hnon l4' (HO.lst.inj z))⟩⟩
    have btp : ∀ b vs, H17 b = some (.tup vs) → (b ≠ x0 ∧ b ≠ pt0 ∧ b ≠ st0 ∧ b ≠ r0) ∧ (b ≠ x1 ∧ b ≠ pt1 ∧ b ≠ st1 ∧ b ≠ r1) := fun b vs h => by
      obtain ⟨d0', h0⟩ := C0.W.ob
      obtain ⟨d1', h1⟩ := C1.W.ob
      exact ⟨⟨ne_of h h0 (fun z => by cases z), ne_of h C0.W.tm (fun z => by cases z), ne_of h C0.hs (fun z => by cases z), ne_of h C0.hr (fun z => by cases z)⟩, ⟨ne_of h h1 (fun z => by cases z), ne_of h C1.W.tm (fun z => by cases z), ne_of h C1.hs (fun z => by cases z), ne_of h C1.hr (fun z => by cases z)⟩⟩
    have rb17 := s1117 _ _ rb11
    have rcl17 := s1117 _ _ rcl11
    have t17 := s1117 _ _ t11
    have rss17 := s17 _ _ e16
    have K17 := K11.same s1117
    have A17 := A11.same s1117
    have base : ∀ Hx : Hp, (∀ b o, H17 b = some o → (b ≠ x0 ∧ b ≠ pt0 ∧ b ≠ st0 ∧ b ≠ r0) ∧ (b ≠ x1 ∧ b ≠ pt1 ∧ b ≠ st1 ∧ b ≠ r1) → Hx b = some o) → Hx rb = some (.lst qs) ∧ Hx rcl = some (.lst [.ref x0, .ref x1]) ∧ Hx t = some (.tup (ts.map V.int)) ∧ Hx rss = some (.lst [.ref st0, .ref st1]) ∧ TabAt Hx kp rk tb ∧ AreB Hx qs bs := fun Hx kx => by
      refine ⟨kx _ _ rb17 (bas _ (by simp)), kx _ _ rcl17 (bas _ (by simp)), kx _ _ t17 (btp _ _ t17), kx _ _ rss17 brs, ⟨kx _ _ K17.ob (bas _ (by simp)), ?_⟩, Paired.mapP A17 fun _ _ ⟨p, e, h⟩ => ⟨p, e, kx _ _ h (btp _ _ h)⟩⟩
      have go : ∀ {qs' : List Addr} {u : Tab}, RowsAt H17 qs' u → (∀ b ∈ qs', b ∈ rk) → RowsAt Hx qs' u := by
        intro qs' u w
        induction w with
        | nil => exact fun _ => .nil
        | cons e _ ih => exact fun hr => .cons (kx _ _ e (bas _ (by have := hr _ (List.mem_cons_self ..); simp [this]))) (ih fun b hm => hr b (List.mem_cons_of_mem _ hm))
      exact go K17.rows fun b h => h
    refine ⟨rcc, rfl, ⟨_, SqL.of e17⟩, for_list (K := K) (a := rcc) (xs := ys.map V.int) (fun i σ Hx => (∀ b o, H17 b = some o → (b ≠ x0 ∧ b ≠ pt0 ∧ b ≠ st0 ∧ b ≠ r0) ∧ (b ≠ x1 ∧ b ≠ pt1 ∧ b ≠ st1 ∧ b ≠ r1) → Hx b = some o) ∧ (∃ ss z, CS cl Hx x0 pr0 pt0 rr0 n tb ss z st0 r0) ∧ (∃ ss z, CS cl Hx x1 pr1 pt1 rr1 n tb ss z st1 r1) ∧ ∃ u9 u10, σ = [some (.ref a), some (.int n), some (.ref t), some (.ref rb), some (.ref p), some (.ref kp), some (.int start), some (.ref rcl), some (.ref rss), u9, u10])
      ⟨fun b o e _ => e, ⟨_, _, C0⟩, ⟨_, _, C1⟩, _, _, rfl⟩ (fun i σ Hx _ ⟨k, _⟩ => SqL.of (k _ _ e17 bcc)) ?_ ?_⟩
    · rintro i y σ Hx hi ⟨kx, ⟨ss0, z0, S0⟩, ⟨ss1, z1, S1⟩, u9, u10, rfl⟩
      obtain ⟨_, rfl⟩ := int_at hi
      generalize ys.getD i 0 = c
      obtain ⟨rbx, rclx, tx, rssx, Kx, Ax⟩ := base Hx kx
      refine ⟨_, rfl, _, _, rfl, rfl, ⟨by decide, by decide⟩, _, _, rfl, rfl, (by show (0 : Int) < 2; decide), ?_⟩
      dsimp only
      have k0 := Int.emod_nonneg (c / 7) (show (2 : Int) ≠ 0 by decide)
      have k1 := Int.emod_lt_of_pos (c / 7) (show (0 : Int) < 2 by decide)
      generalize c / 7 % 2 = k at k0 k1 ⊢
      have hk01 : k = 0 ∨ k = 1 := by omega
      rcases hk01 with rfl | rfl
      · refine ⟨_, rfl, _, rfl, _, _, rfl, rfl, rcl, _, _, _, rfl, rfl, SqL.of rclx, rfl, _, rfl, _, rfl, _, rfl, _, rfl, _, _, rfl, rfl, rss, _, _, _, rfl, rfl, SqL.of rssx, rfl, x1, pr1, pt1, kp, rb, st1, r1, rr1, rk, n, tb, qs, bs, ss1, z1, rfl, S1, Kx, R, w3, n1, n8', rbx, Ax, fun Hy sy => ⟨_, rfl, iteF ?_⟩⟩
        refine ⟨_, rfl, _, rfl, rcl, _, _, _, rfl, rfl, SqL.of (sy _ _ rclx), rfl, _, rfl, _, rfl, _, rfl, rss, _, _, _, rfl, rfl, SqL.of (sy _ _ rssx), rfl, _, rfl, _, rfl, x0, pr0, pt0, kp, st0, r0, t, rr0, rk, n, tb, bs, ss0, z0, c, ts, rfl, S0.same sy, Kx.same sy, R, n1, n8', sy _ _ tx, lt,
          Ne.symm (fs0 (in0 _ mp0)), Ne.symm (fr0 (in0 _ mp0)), Ne.symm g1, fs0 (in0 _ (by simp)), fr0 (in0 _ (by simp)), fun b hb => ⟨fs0 (in0 _ (by simp [hb])), fr0 (in0 _ (by simp [hb]))⟩, fun ss' z' Hz S' b4 => ⟨_, rfl, iteF ?_⟩⟩
        exact ⟨fun b o e h => b4 _ _ (sy _ _ (kx b o e h)) h.1.1 h.1.2.1 h.1.2.2.1 h.1.2.2.2, ⟨ss', z', S'⟩, ⟨ss1, z1, (S1.same sy).but4 b4 far1⟩, _, _, rfl⟩
      · refine ⟨_, rfl, _, rfl, _, _, rfl, rfl, rcl, _, _, _, rfl, rfl, SqL.of rclx, rfl, _, rfl, _, rfl, _, rfl, _, rfl, _, _, rfl, rfl, rss, _, _, _, rfl, rfl, SqL.of rssx, rfl, x0, pr0, pt0, kp, rb, st0, r0, rr0, rk, n, tb, qs, bs, ss0, z0, rfl, S0, Kx, R, w3, n1, n8', rbx, Ax, fun Hy sy => ⟨_, rfl, iteF ?_⟩⟩
        refine ⟨_, rfl, _, rfl, rcl, _, _, _, rfl, rfl, SqL.of (sy _ _ rclx), rfl, _, rfl, _, rfl, _, rfl, rss, _, _, _, rfl, rfl, SqL.of (sy _ _ rssx), rfl, _, rfl, _, rfl, x1, pr1, pt1, kp, st1, r1, t, rr1, rk, n, tb, bs, ss1, z1, c, ts, rfl, S1.same sy, Kx.same sy, R, n1, n8', sy _ _ tx, lt,
          Ne.symm (fs1 (in1 _ mp1)), Ne.symm (fr1 (in1 _ mp1)), Ne.symm g4, fs1 (in1 _ (by simp)), fr1 (in1 _ (by simp)), fun b hb => ⟨fs1 (in1 _ (by simp [hb])), fr1 (in1 _ (by simp [hb]))⟩, fun ss' z' Hz S' b4 => ⟨_, rfl, iteF ?_⟩⟩
        exact ⟨fun b o e h => b4 _ _ (sy _ _ (kx b o e h)) h.2.1 h.2.2.1 h.2.2.2.1 h.2.2.2.2, ⟨ss0, z0, (S0.same sy).but4 b4 far0⟩, ⟨ss', z', S'⟩, _, _, rfl⟩
    · rintro σ Hx ⟨kx, ⟨ss0, z0, S0⟩, ⟨ss1, z1, S1⟩, u9, u10, rfl⟩
      obtain ⟨rbx, rclx, tx, rssx, Kx, Ax⟩ := base Hx kx
      refine ⟨_, rfl, rcl, _, 0, _, rfl, rfl, SqL.of rclx, rfl, _, rfl, _, rfl, _, rfl, rss, _, 0, _, rfl, rfl, SqL.of rssx, rfl, x0, pr0, pt0, kp, rb, st0, r0, rr0, rk, n, tb, qs, bs, ss0, z0, rfl, S0, Kx, R, w3, n1, n8', rbx, Ax, fun Hy sy => ⟨_, rfl, iteT ?_⟩⟩
      exact ⟨_, rfl, rcl, _, 1, _, rfl, rfl, SqL.of (sy _ _ rclx), rfl, _, rfl, _, rfl, _, rfl, rss, _, 1, _, rfl, rfl, SqL.of (sy _ _ rssx), rfl, x1, pr1, pt1, kp, rb, st1, r1, rr1, rk, n, tb, qs, bs, ss1, z1, rfl, S1.same sy, Kx.same sy, R, w3, n1, n8', sy _ _ rbx, Ax.same sy, fun Hz _ => q Hz⟩
end
theorem all_mk {l : PySem.W.OpenLaw} {w : World} {K : PySem.W.Frag} {h : Heap} {mg : Str → Option Value} {fa : Addr} (X : K.In h) (G : h.Ns mainGlobals mg) (hfa : mg "law" = some (.ref fa))
    {f1 : Addr} {od1 an1 : Option Addr} {sl1 : Array (Option Value)} {oc1 kV1 dc1 pm1 cd1 ct1 : Value}
    {f2 : Addr} {od2 an2 : Option Addr} {sl2 : Array (Option Value)} {oc2 kV2 dc2 pm2 cd2 ct2 : Value}
    {f3 : Addr} {od3 an3 : Option Addr} {sl3 : Array (Option Value)} {oc3 kV3 dc3 pm3 cd3 ct3 : Value}
    {f4 : Addr} {od4 an4 : Option Addr} {sl4 : Array (Option Value)} {oc4 kV4 dc4 pm4 cd4 ct4 : Value}
    {f5 : Addr} {od5 an5 : Option Addr} {sl5 : Array (Option Value)} {oc5 kV5 dc5 pm5 cd5 ct5 : Value}
    {f6 : Addr} {od6 an6 : Option Addr} {sl6 : Array (Option Value)} {oc6 kV6 dc6 pm6 cd6 ct6 : Value}
    {f7 : Addr} {od7 an7 : Option Addr} {sl7 : Array (Option Value)} {oc7 kV7 dc7 pm7 cd7 ct7 : Value}
    {f8 : Addr} {od8 an8 : Option Addr} {sl8 : Array (Option Value)} {oc8 kV8 dc8 pm8 cd8 ct8 : Value}
    {f9 : Addr} {od9 an9 : Option Addr} {sl9 : Array (Option Value)} {oc9 kV9 dc9 pm9 cd9 ct9 : Value}
    {f10 : Addr} {od10 an10 : Option Addr} {sl10 : Array (Option Value)} {oc10 kV10 dc10 pm10 cd10 ct10 : Value}
    {f11 : Addr} {od11 an11 : Option Addr} {sl11 : Array (Option Value)} {oc11 kV11 dc11 pm11 cd11 ct11 : Value}
    {f12 : Addr} {od12 an12 : Option Addr} {sl12 : Array (Option Value)} {oc12 kV12 dc12 pm12 cd12 ct12 : Value}
    {f13 : Addr} {od13 an13 : Option Addr} {sl13 : Array (Option Value)} {oc13 kV13 dc13 pm13 cd13 ct13 : Value}
    {f14 : Addr} {od14 an14 : Option Addr} {sl14 : Array (Option Value)} {oc14 kV14 dc14 pm14 cd14 ct14 : Value}
    {f15 : Addr} {od15 an15 : Option Addr} {sl15 : Array (Option Value)} {oc15 kV15 dc15 pm15 cd15 ct15 : Value}
    {f16 : Addr} {od16 an16 : Option Addr} {sl16 : Array (Option Value)} {oc16 kV16 dc16 pm16 cd16 ct16 : Value}
    {f17 : Addr} {od17 an17 : Option Addr} {sl17 : Array (Option Value)} {oc17 kV17 dc17 pm17 cd17 ct17 : Value}
    {f18 : Addr} {od18 an18 : Option Addr} {sl18 : Array (Option Value)} {oc18 kV18 dc18 pm18 cd18 ct18 : Value}
    {f19 : Addr} {od19 an19 : Option Addr} {sl19 : Array (Option Value)} {oc19 kV19 dc19 pm19 cd19 ct19 : Value}
    {f20 : Addr} {od20 an20 : Option Addr} {sl20 : Array (Option Value)} {oc20 kV20 dc20 pm20 cd20 ct20 : Value}
    {f21 : Addr} {od21 an21 : Option Addr} {sl21 : Array (Option Value)} {oc21 kV21 dc21 pm21 cd21 ct21 : Value}
    {f22 : Addr} {od22 an22 : Option Addr} {sl22 : Array (Option Value)} {oc22 kV22 dc22 pm22 cd22 ct22 : Value}
    {f23 : Addr} {od23 an23 : Option Addr} {sl23 : Array (Option Value)} {oc23 kV23 dc23 pm23 cd23 ct23 : Value}
    {f24 : Addr} {od24 an24 : Option Addr} {sl24 : Array (Option Value)} {oc24 kV24 dc24 pm24 cd24 ct24 : Value}
    {f25 : Addr} {od25 an25 : Option Addr} {sl25 : Array (Option Value)} {oc25 kV25 dc25 pm25 cd25 ct25 : Value}
    {f26 : Addr} {od26 an26 : Option Addr} {sl26 : Array (Option Value)} {oc26 kV26 dc26 pm26 cd26 ct26 : Value}
    {f27 : Addr} {od27 an27 : Option Addr} {sl27 : Array (Option Value)} {oc27 kV27 dc27 pm27 cd27 ct27 : Value}
    {f28 : Addr} {od28 an28 : Option Addr} {sl28 : Array (Option Value)} {oc28 kV28 dc28 pm28 cd28 ct28 : Value}
    {f29 : Addr} {od29 an29 : Option Addr} {sl29 : Array (Option Value)} {oc29 kV29 dc29 pm29 cd29 ct29 : Value}
    {f30 : Addr} {od30 an30 : Option Addr} {sl30 : Array (Option Value)} {oc30 kV30 dc30 pm30 cd30 ct30 : Value}
    {f31 : Addr} {od31 an31 : Option Addr} {sl31 : Array (Option Value)} {oc31 kV31 dc31 pm31 cd31 ct31 : Value}
    {f32 : Addr} {od32 an32 : Option Addr} {sl32 : Array (Option Value)} {oc32 kV32 dc32 pm32 cd32 ct32 : Value}
    {f33 : Addr} {od33 an33 : Option Addr} {sl33 : Array (Option Value)} {oc33 kV33 dc33 pm33 cd33 ct33 : Value}
    {f34 : Addr} {od34 an34 : Option Addr} {sl34 : Array (Option Value)} {oc34 kV34 dc34 pm34 cd34 ct34 : Value}
    {f35 : Addr} {od35 an35 : Option Addr} {sl35 : Array (Option Value)} {oc35 kV35 dc35 pm35 cd35 ct35 : Value}
    {f36 : Addr} {od36 an36 : Option Addr} {sl36 : Array (Option Value)} {oc36 kV36 dc36 pm36 cd36 ct36 : Value}
    {f37 : Addr} {od37 an37 : Option Addr} {sl37 : Array (Option Value)} {oc37 kV37 dc37 pm37 cd37 ct37 : Value}
    {f38 : Addr} {od38 an38 : Option Addr} {sl38 : Array (Option Value)} {oc38 kV38 dc38 pm38 cd38 ct38 : Value}
    {f39 : Addr} {od39 an39 : Option Addr} {sl39 : Array (Option Value)} {oc39 kV39 dc39 pm39 cd39 ct39 : Value}
    {f40 : Addr} {od40 an40 : Option Addr} {sl40 : Array (Option Value)} {oc40 kV40 dc40 pm40 cd40 ct40 : Value}
    {f41 : Addr} {od41 an41 : Option Addr} {sl41 : Array (Option Value)} {oc41 kV41 dc41 pm41 cd41 ct41 : Value}
    {f42 : Addr} {od42 an42 : Option Addr} {sl42 : Array (Option Value)} {oc42 kV42 dc42 pm42 cd42 ct42 : Value}
    {f43 : Addr} {od43 an43 : Option Addr} {sl43 : Array (Option Value)} {oc43 kV43 dc43 pm43 cd43 ct43 : Value}
    {f44 : Addr} {od44 an44 : Option Addr} {sl44 : Array (Option Value)} {oc44 kV44 dc44 pm44 cd44 ct44 : Value}
    {f45 : Addr} {od45 an45 : Option Addr} {sl45 : Array (Option Value)} {oc45 kV45 dc45 pm45 cd45 ct45 : Value}
    {ca1 : Addr} (g1 : PySem.W.nsIn K mainGlobals "WaitError" = some (some (.ref ca1)))
    {ca2 : Addr} (g2 : PySem.W.nsIn K mainGlobals "NoLink" = some (some (.ref ca2)))
    {ca3 : Addr} (g3 : PySem.W.nsIn K mainGlobals "NoRoom" = some (some (.ref ca3)))
    {ca4 : Addr} (g4 : PySem.W.nsIn K mainGlobals "NoTime" = some (some (.ref ca4)))
    {ca5 : Addr} (g5 : PySem.W.nsIn K mainGlobals "NoName" = some (some (.ref ca5)))
    {ca6 : Addr} (g6 : PySem.W.nsIn K mainGlobals "NoKeep" = some (some (.ref ca6)))
    {ca7 : Addr} (g7 : PySem.W.nsIn K mainGlobals "NoRow" = some (some (.ref ca7)))
    {ca8 : Addr} (g8 : PySem.W.nsIn K mainGlobals "Clock" = some (some (.ref ca8)))
    (a1 : PySem.W.nsIn K mainGlobals "lies_between" = some (some (.ref f1))) (l1 : K.lookup f1 = some ⟨oc1, od1, .func (PySem.W.fnOf "lies_between" "lies_between" (defArgs s_lies_between) (defBody s_lies_between) (defScope s_lies_between) .none kV1 dc1 pm1 an1 cd1 ct1), sl1⟩) (c1 : PySem.W.codeIn K cd1 "lies_between" = true) (k1 : PySem.W.keepIn K (.ref f1) = true)
    (a2 : PySem.W.nsIn K mainGlobals "least_time" = some (some (.ref f2))) (l2 : K.lookup f2 = some ⟨oc2, od2, .func (PySem.W.fnOf "least_time" "least_time" (defArgs s_least_time) (defBody s_least_time) (defScope s_least_time) .none kV2 dc2 pm2 an2 cd2 ct2), sl2⟩) (c2 : PySem.W.codeIn K cd2 "least_time" = true) (k2 : PySem.W.keepIn K (.ref f2) = true)
    (a3 : PySem.W.nsIn K mainGlobals "greatest_time" = some (some (.ref f3))) (l3 : K.lookup f3 = some ⟨oc3, od3, .func (PySem.W.fnOf "greatest_time" "greatest_time" (defArgs s_greatest_time) (defBody s_greatest_time) (defScope s_greatest_time) .none kV3 dc3 pm3 an3 cd3 ct3), sl3⟩) (c3 : PySem.W.codeIn K cd3 "greatest_time" = true) (k3 : PySem.W.keepIn K (.ref f3) = true)
    (a4 : PySem.W.nsIn K mainGlobals "points_set" = some (some (.ref f4))) (l4 : K.lookup f4 = some ⟨oc4, od4, .func (PySem.W.fnOf "points_set" "points_set" (defArgs s_points_set) (defBody s_points_set) (defScope s_points_set) .none kV4 dc4 pm4 an4 cd4 ct4), sl4⟩) (c4 : PySem.W.codeIn K cd4 "points_set" = true) (k4 : PySem.W.keepIn K (.ref f4) = true)
    (a5 : PySem.W.nsIn K mainGlobals "points_open" = some (some (.ref f5))) (l5 : K.lookup f5 = some ⟨oc5, od5, .func (PySem.W.fnOf "points_open" "points_open" (defArgs s_points_open) (defBody s_points_open) (defScope s_points_open) .none kV5 dc5 pm5 an5 cd5 ct5), sl5⟩) (c5 : PySem.W.codeIn K cd5 "points_open" = true) (k5 : PySem.W.keepIn K (.ref f5) = true)
    (a6 : PySem.W.nsIn K mainGlobals "limit" = some (some (.ref f6))) (l6 : K.lookup f6 = some ⟨oc6, od6, .func (PySem.W.fnOf "limit" "limit" (defArgs s_limit) (defBody s_limit) (defScope s_limit) .none kV6 dc6 pm6 an6 cd6 ct6), sl6⟩) (c6 : PySem.W.codeIn K cd6 "limit" = true) (k6 : PySem.W.keepIn K (.ref f6) = true)
    (a7 : PySem.W.nsIn K mainGlobals "course" = some (some (.ref f7))) (l7 : K.lookup f7 = some ⟨oc7, od7, .func (PySem.W.fnOf "course" "course" (defArgs s_course) (defBody s_course) (defScope s_course) .none kV7 dc7 pm7 an7 cd7 ct7), sl7⟩) (c7 : PySem.W.codeIn K cd7 "course" = true) (k7 : PySem.W.keepIn K (.ref f7) = true)
    (a8 : PySem.W.nsIn K mainGlobals "turn" = some (some (.ref f8))) (l8 : K.lookup f8 = some ⟨oc8, od8, .func (PySem.W.fnOf "turn" "turn" (defArgs s_turn) (defBody s_turn) (defScope s_turn) .none kV8 dc8 pm8 an8 cd8 ct8), sl8⟩) (c8 : PySem.W.codeIn K cd8 "turn" = true) (k8 : PySem.W.keepIn K (.ref f8) = true)
    (a9 : PySem.W.nsIn K mainGlobals "must_follow" = some (some (.ref f9))) (l9 : K.lookup f9 = some ⟨oc9, od9, .func (PySem.W.fnOf "must_follow" "must_follow" (defArgs s_must_follow) (defBody s_must_follow) (defScope s_must_follow) .none kV9 dc9 pm9 an9 cd9 ct9), sl9⟩) (c9 : PySem.W.codeIn K cd9 "must_follow" = true) (k9 : PySem.W.keepIn K (.ref f9) = true)
    (a10 : PySem.W.nsIn K mainGlobals "wide" = some (some (.ref f10))) (l10 : K.lookup f10 = some ⟨oc10, od10, .func (PySem.W.fnOf "wide" "wide" (defArgs s_wide) (defBody s_wide) (defScope s_wide) .none kV10 dc10 pm10 an10 cd10 ct10), sl10⟩) (c10 : PySem.W.codeIn K cd10 "wide" = true) (k10 : PySem.W.keepIn K (.ref f10) = true)
    (a11 : PySem.W.nsIn K mainGlobals "wide_row" = some (some (.ref f11))) (l11 : K.lookup f11 = some ⟨oc11, od11, .func (PySem.W.fnOf "wide_row" "wide_row" (defArgs s_wide_row) (defBody s_wide_row) (defScope s_wide_row) .none kV11 dc11 pm11 an11 cd11 ct11), sl11⟩) (c11 : PySem.W.codeIn K cd11 "wide_row" = true) (k11 : PySem.W.keepIn K (.ref f11) = true)
    (a12 : PySem.W.nsIn K mainGlobals "table_of" = some (some (.ref f12))) (l12 : K.lookup f12 = some ⟨oc12, od12, .func (PySem.W.fnOf "table_of" "table_of" (defArgs s_table_of) (defBody s_table_of) (defScope s_table_of) .none kV12 dc12 pm12 an12 cd12 ct12), sl12⟩) (c12 : PySem.W.codeIn K cd12 "table_of" = true) (k12 : PySem.W.keepIn K (.ref f12) = true)
    (a13 : PySem.W.nsIn K mainGlobals "held" = some (some (.ref f13))) (l13 : K.lookup f13 = some ⟨oc13, od13, .func (PySem.W.fnOf "held" "held" (defArgs s_held) (defBody s_held) (defScope s_held) .none kV13 dc13 pm13 an13 cd13 ct13), sl13⟩) (c13 : PySem.W.codeIn K cd13 "held" = true) (k13 : PySem.W.keepIn K (.ref f13) = true)
    (a14 : PySem.W.nsIn K mainGlobals "shuts" = some (some (.ref f14))) (l14 : K.lookup f14 = some ⟨oc14, od14, .func (PySem.W.fnOf "shuts" "shuts" (defArgs s_shuts) (defBody s_shuts) (defScope s_shuts) .none kV14 dc14 pm14 an14 cd14 ct14), sl14⟩) (c14 : PySem.W.codeIn K cd14 "shuts" = true) (k14 : PySem.W.keepIn K (.ref f14) = true)
    (a15 : PySem.W.nsIn K mainGlobals "held_row" = some (some (.ref f15))) (l15 : K.lookup f15 = some ⟨oc15, od15, .func (PySem.W.fnOf "held_row" "held_row" (defArgs s_held_row) (defBody s_held_row) (defScope s_held_row) .none kV15 dc15 pm15 an15 cd15 ct15), sl15⟩) (c15 : PySem.W.codeIn K cd15 "held_row" = true) (k15 : PySem.W.keepIn K (.ref f15) = true)
    (a16 : PySem.W.nsIn K mainGlobals "total" = some (some (.ref f16))) (l16 : K.lookup f16 = some ⟨oc16, od16, .func (PySem.W.fnOf "total" "total" (defArgs s_total) (defBody s_total) (defScope s_total) .none kV16 dc16 pm16 an16 cd16 ct16), sl16⟩) (c16 : PySem.W.codeIn K cd16 "total" = true) (k16 : PySem.W.keepIn K (.ref f16) = true)
    (a17 : PySem.W.nsIn K mainGlobals "lesser" = some (some (.ref f17))) (l17 : K.lookup f17 = some ⟨oc17, od17, .func (PySem.W.fnOf "lesser" "lesser" (defArgs s_lesser) (defBody s_lesser) (defScope s_lesser) .none kV17 dc17 pm17 an17 cd17 ct17), sl17⟩) (c17 : PySem.W.codeIn K cd17 "lesser" = true) (k17 : PySem.W.keepIn K (.ref f17) = true)
    (a18 : PySem.W.nsIn K mainGlobals "_law_cell" = some (some (.ref f18))) (l18 : K.lookup f18 = some ⟨oc18, od18, .func (PySem.W.fnOf "_law_cell" "_law_cell" (defArgs s_law_cell) (defBody s_law_cell) (defScope s_law_cell) .none kV18 dc18 pm18 an18 cd18 ct18), sl18⟩) (c18 : PySem.W.codeIn K cd18 "_law_cell" = true) (k18 : PySem.W.keepIn K (.ref f18) = true)
    (a19 : PySem.W.nsIn K mainGlobals "_law_whole" = some (some (.ref f19))) (l19 : K.lookup f19 = some ⟨oc19, od19, .func (PySem.W.fnOf "_law_whole" "_law_whole" (defArgs s_law_whole) (defBody s_law_whole) (defScope s_law_whole) .none kV19 dc19 pm19 an19 cd19 ct19), sl19⟩) (c19 : PySem.W.codeIn K cd19 "_law_whole" = true) (k19 : PySem.W.keepIn K (.ref f19) = true)
    (a20 : PySem.W.nsIn K mainGlobals "_law_big" = some (some (.ref f20))) (l20 : K.lookup f20 = some ⟨oc20, od20, .func (PySem.W.fnOf "_law_big" "_law_big" (defArgs s_law_big) (defBody s_law_big) (defScope s_law_big) .none kV20 dc20 pm20 an20 cd20 ct20), sl20⟩) (c20 : PySem.W.codeIn K cd20 "_law_big" = true) (k20 : PySem.W.keepIn K (.ref f20) = true)
    (a21 : PySem.W.nsIn K mainGlobals "_law_times" = some (some (.ref f21))) (l21 : K.lookup f21 = some ⟨oc21, od21, .func (PySem.W.fnOf "_law_times" "_law_times" (defArgs s_law_times) (defBody s_law_times) (defScope s_law_times) .none kV21 dc21 pm21 an21 cd21 ct21), sl21⟩) (c21 : PySem.W.codeIn K cd21 "_law_times" = true) (k21 : PySem.W.keepIn K (.ref f21) = true)
    (a22 : PySem.W.nsIn K mainGlobals "_law_cells" = some (some (.ref f22))) (l22 : K.lookup f22 = some ⟨oc22, od22, .func (PySem.W.fnOf "_law_cells" "_law_cells" (defArgs s_law_cells) (defBody s_law_cells) (defScope s_law_cells) .none kV22 dc22 pm22 an22 cd22 ct22), sl22⟩) (c22 : PySem.W.codeIn K cd22 "_law_cells" = true) (k22 : PySem.W.keepIn K (.ref f22) = true)
    (a23 : PySem.W.nsIn K mainGlobals "_law_bounds" = some (some (.ref f23))) (l23 : K.lookup f23 = some ⟨oc23, od23, .func (PySem.W.fnOf "_law_bounds" "_law_bounds" (defArgs s_law_bounds) (defBody s_law_bounds) (defScope s_law_bounds) .none kV23 dc23 pm23 an23 cd23 ct23), sl23⟩) (c23 : PySem.W.codeIn K cd23 "_law_bounds" = true) (k23 : PySem.W.keepIn K (.ref f23) = true)
    (a24 : PySem.W.nsIn K mainGlobals "_law_least" = some (some (.ref f24))) (l24 : K.lookup f24 = some ⟨oc24, od24, .func (PySem.W.fnOf "_law_least" "_law_least" (defArgs s_law_least) (defBody s_law_least) (defScope s_law_least) .none kV24 dc24 pm24 an24 cd24 ct24), sl24⟩) (c24 : PySem.W.codeIn K cd24 "_law_least" = true) (k24 : PySem.W.keepIn K (.ref f24) = true)
    (a25 : PySem.W.nsIn K mainGlobals "_law_high" = some (some (.ref f25))) (l25 : K.lookup f25 = some ⟨oc25, od25, .func (PySem.W.fnOf "_law_high" "_law_high" (defArgs s_law_high) (defBody s_law_high) (defScope s_law_high) .none kV25 dc25 pm25 an25 cd25 ct25), sl25⟩) (c25 : PySem.W.codeIn K cd25 "_law_high" = true) (k25 : PySem.W.keepIn K (.ref f25) = true)
    (a26 : PySem.W.nsIn K mainGlobals "_law_low" = some (some (.ref f26))) (l26 : K.lookup f26 = some ⟨oc26, od26, .func (PySem.W.fnOf "_law_low" "_law_low" (defArgs s_law_low) (defBody s_law_low) (defScope s_law_low) .none kV26 dc26 pm26 an26 cd26 ct26), sl26⟩) (c26 : PySem.W.codeIn K cd26 "_law_low" = true) (k26 : PySem.W.keepIn K (.ref f26) = true)
    (a27 : PySem.W.nsIn K mainGlobals "_law_limit" = some (some (.ref f27))) (l27 : K.lookup f27 = some ⟨oc27, od27, .func (PySem.W.fnOf "_law_limit" "_law_limit" (defArgs s_law_limit) (defBody s_law_limit) (defScope s_law_limit) .none kV27 dc27 pm27 an27 cd27 ct27), sl27⟩) (c27 : PySem.W.codeIn K cd27 "_law_limit" = true) (k27 : PySem.W.keepIn K (.ref f27) = true)
    (a28 : PySem.W.nsIn K mainGlobals "_law_turn" = some (some (.ref f28))) (l28 : K.lookup f28 = some ⟨oc28, od28, .func (PySem.W.fnOf "_law_turn" "_law_turn" (defArgs s_law_turn) (defBody s_law_turn) (defScope s_law_turn) .none kV28 dc28 pm28 an28 cd28 ct28), sl28⟩) (c28 : PySem.W.codeIn K cd28 "_law_turn" = true) (k28 : PySem.W.keepIn K (.ref f28) = true)
    (a29 : PySem.W.nsIn K mainGlobals "_law_number_like" = some (some (.ref f29))) (l29 : K.lookup f29 = some ⟨oc29, od29, .func (PySem.W.fnOf "_law_number_like" "_law_number_like" (defArgs s_law_number_like) (defBody s_law_number_like) (defScope s_law_number_like) .none kV29 dc29 pm29 an29 cd29 ct29), sl29⟩) (c29 : PySem.W.codeIn K cd29 "_law_number_like" = true) (k29 : PySem.W.keepIn K (.ref f29) = true)
    (a30 : PySem.W.nsIn K mainGlobals "_law_turn_like" = some (some (.ref f30))) (l30 : K.lookup f30 = some ⟨oc30, od30, .func (PySem.W.fnOf "_law_turn_like" "_law_turn_like" (defArgs s_law_turn_like) (defBody s_law_turn_like) (defScope s_law_turn_like) .none kV30 dc30 pm30 an30 cd30 ct30), sl30⟩) (c30 : PySem.W.codeIn K cd30 "_law_turn_like" = true) (k30 : PySem.W.keepIn K (.ref f30) = true)
    (a31 : PySem.W.nsIn K mainGlobals "_law_course_good" = some (some (.ref f31))) (l31 : K.lookup f31 = some ⟨oc31, od31, .func (PySem.W.fnOf "_law_course_good" "_law_course_good" (defArgs s_law_course_good) (defBody s_law_course_good) (defScope s_law_course_good) .none kV31 dc31 pm31 an31 cd31 ct31), sl31⟩) (c31 : PySem.W.codeIn K cd31 "_law_course_good" = true) (k31 : PySem.W.keepIn K (.ref f31) = true)
    (a32 : PySem.W.nsIn K mainGlobals "_law_shown" = some (some (.ref f32))) (l32 : K.lookup f32 = some ⟨oc32, od32, .func (PySem.W.fnOf "_law_shown" "_law_shown" (defArgs s_law_shown) (defBody s_law_shown) (defScope s_law_shown) .none kV32 dc32 pm32 an32 cd32 ct32), sl32⟩) (c32 : PySem.W.codeIn K cd32 "_law_shown" = true) (k32 : PySem.W.keepIn K (.ref f32) = true)
    (a33 : PySem.W.nsIn K mainGlobals "_law_near" = some (some (.ref f33))) (l33 : K.lookup f33 = some ⟨oc33, od33, .func (PySem.W.fnOf "_law_near" "_law_near" (defArgs s_law_near) (defBody s_law_near) (defScope s_law_near) .none kV33 dc33 pm33 an33 cd33 ct33), sl33⟩) (c33 : PySem.W.codeIn K cd33 "_law_near" = true) (k33 : PySem.W.keepIn K (.ref f33) = true)
    (a34 : PySem.W.nsIn K mainGlobals "_law_refusal" = some (some (.ref f34))) (l34 : K.lookup f34 = some ⟨oc34, od34, .func (PySem.W.fnOf "_law_refusal" "_law_refusal" (defArgs s_law_refusal) (defBody s_law_refusal) (defScope s_law_refusal) .none kV34 dc34 pm34 an34 cd34 ct34), sl34⟩) (c34 : PySem.W.codeIn K cd34 "_law_refusal" = true) (k34 : PySem.W.keepIn K (.ref f34) = true)
    (a35 : PySem.W.nsIn K mainGlobals "_law_only_time" = some (some (.ref f35))) (l35 : K.lookup f35 = some ⟨oc35, od35, .func (PySem.W.fnOf "_law_only_time" "_law_only_time" (defArgs s_law_only_time) (defBody s_law_only_time) (defScope s_law_only_time) .none kV35 dc35 pm35 an35 cd35 ct35), sl35⟩) (c35 : PySem.W.codeIn K cd35 "_law_only_time" = true) (k35 : PySem.W.keepIn K (.ref f35) = true)
    (a36 : PySem.W.nsIn K mainGlobals "_law_deed" = some (some (.ref f36))) (l36 : K.lookup f36 = some ⟨oc36, od36, .func (PySem.W.fnOf "_law_deed" "_law_deed" (defArgs s_law_deed) (defBody s_law_deed) (defScope s_law_deed) .none kV36 dc36 pm36 an36 cd36 ct36), sl36⟩) (c36 : PySem.W.codeIn K cd36 "_law_deed" = true) (k36 : PySem.W.keepIn K (.ref f36) = true)
    (a37 : PySem.W.nsIn K mainGlobals "law" = some (some (.ref f37))) (l37 : K.lookup f37 = some ⟨oc37, od37, .func (PySem.W.fnOf "law" "law" (defArgs s_law) (defBody s_law) (defScope s_law) .none kV37 dc37 pm37 an37 cd37 ct37), sl37⟩) (c37 : PySem.W.codeIn K cd37 "law" = true) (k37 : PySem.W.keepIn K (.ref f37) = true)
    (a38 : PySem.W.findIn K (.ref ca8) "__init__" = some (some (.ref f38))) (i38 : PySem.W.isFn K (.ref f38) = true) (l38 : K.lookup f38 = some ⟨oc38, od38, .func (PySem.W.fnOf "__init__" "Clock.__init__" (defArgs s_Clock___init__) (defBody s_Clock___init__) (defScope s_Clock___init__) .none kV38 dc38 pm38 an38 cd38 ct38), sl38⟩) (c38 : PySem.W.codeIn K cd38 "Clock.__init__" = true) (k38 : PySem.W.keepIn K (.ref f38) = true)
    (a39 : PySem.W.findIn K (.ref ca8) "now" = some (some (.ref f39))) (i39 : PySem.W.isFn K (.ref f39) = true) (l39 : K.lookup f39 = some ⟨oc39, od39, .func (PySem.W.fnOf "now" "Clock.now" (defArgs s_Clock_now) (defBody s_Clock_now) (defScope s_Clock_now) .none kV39 dc39 pm39 an39 cd39 ct39), sl39⟩) (c39 : PySem.W.codeIn K cd39 "Clock.now" = true) (k39 : PySem.W.keepIn K (.ref f39) = true)
    (a40 : PySem.W.findIn K (.ref ca8) "setting" = some (some (.ref f40))) (i40 : PySem.W.isFn K (.ref f40) = true) (l40 : K.lookup f40 = some ⟨oc40, od40, .func (PySem.W.fnOf "setting" "Clock.setting" (defArgs s_Clock_setting) (defBody s_Clock_setting) (defScope s_Clock_setting) .none kV40 dc40 pm40 an40 cd40 ct40), sl40⟩) (c40 : PySem.W.codeIn K cd40 "Clock.setting" = true) (k40 : PySem.W.keepIn K (.ref f40) = true)
    (a41 : PySem.W.findIn K (.ref ca8) "limit" = some (some (.ref f41))) (i41 : PySem.W.isFn K (.ref f41) = true) (l41 : K.lookup f41 = some ⟨oc41, od41, .func (PySem.W.fnOf "limit" "Clock.limit" (defArgs s_Clock_limit) (defBody s_Clock_limit) (defScope s_Clock_limit) .none kV41 dc41 pm41 an41 cd41 ct41), sl41⟩) (c41 : PySem.W.codeIn K cd41 "Clock.limit" = true) (k41 : PySem.W.keepIn K (.ref f41) = true)
    (a42 : PySem.W.findIn K (.ref ca8) "turn" = some (some (.ref f42))) (i42 : PySem.W.isFn K (.ref f42) = true) (l42 : K.lookup f42 = some ⟨oc42, od42, .func (PySem.W.fnOf "turn" "Clock.turn" (defArgs s_Clock_turn) (defBody s_Clock_turn) (defScope s_Clock_turn) .none kV42 dc42 pm42 an42 cd42 ct42), sl42⟩) (c42 : PySem.W.codeIn K cd42 "Clock.turn" = true) (k42 : PySem.W.keepIn K (.ref f42) = true)
    (a43 : PySem.W.findIn K (.ref ca8) "course" = some (some (.ref f43))) (i43 : PySem.W.isFn K (.ref f43) = true) (l43 : K.lookup f43 = some ⟨oc43, od43, .func (PySem.W.fnOf "course" "Clock.course" (defArgs s_Clock_course) (defBody s_Clock_course) (defScope s_Clock_course) .none kV43 dc43 pm43 an43 cd43 ct43), sl43⟩) (c43 : PySem.W.codeIn K cd43 "Clock.course" = true) (k43 : PySem.W.keepIn K (.ref f43) = true)
    (a44 : PySem.W.findIn K (.ref ca8) "wait" = some (some (.ref f44))) (i44 : PySem.W.isFn K (.ref f44) = true) (l44 : K.lookup f44 = some ⟨oc44, od44, .func (PySem.W.fnOf "wait" "Clock.wait" (defArgs s_Clock_wait) (defBody s_Clock_wait) (defScope s_Clock_wait) .none kV44 dc44 pm44 an44 cd44 ct44), sl44⟩) (c44 : PySem.W.codeIn K cd44 "Clock.wait" = true) (k44 : PySem.W.keepIn K (.ref f44) = true)
    (a45 : PySem.W.findIn K (.ref ca8) "mark" = some (some (.ref f45))) (i45 : PySem.W.isFn K (.ref f45) = true) (l45 : K.lookup f45 = some ⟨oc45, od45, .func (PySem.W.fnOf "mark" "Clock.mark" (defArgs s_Clock_mark) (defBody s_Clock_mark) (defScope s_Clock_mark) .none kV45 dc45 pm45 an45 cd45 ct45), sl45⟩) (c45 : PySem.W.codeIn K cd45 "Clock.mark" = true) (k45 : PySem.W.keepIn K (.ref f45) = true)
    (al_course_turns : PySem.W.nsIn K mainGlobals "course_turns" = some (some (.ref f7)))
    (al_limit_turns : PySem.W.nsIn K mainGlobals "limit_turns" = some (some (.ref f6)))
    (al_turn_turns : PySem.W.nsIn K mainGlobals "turn_turns" = some (some (.ref f8)))
    (x_NoTime : PySem.W.excIn K ca4 VB "ValueError.__new__" = true)
    (k0_NoTime : PySem.W.findIn K (.ref ca4) "__getattribute__" = some (some (.builtin "BaseException.__getattribute__")))
    (k1_NoTime : PySem.W.findIn K (.ref ca4) "__getattr__" = some none)
    (k2_NoTime : PySem.W.findIn K (.ref ca4) "__class__" = some (some (.builtin "object.__class__")))
    (k3_NoTime : PySem.W.mroIn K ca4 (.type "BaseException") = some true)
    (k4_NoTime : PySem.W.mroIn K ca4 (.type "object") = some true)
    (k5_NoTime : PySem.W.hasDictIn K ca4 = true)
    (h0_WaitError : PySem.W.typeIn K (.ref ca1) = some (.type "type"))
    (h1_WaitError : PySem.W.hasDictIn K ca1 = true)
    (h2_WaitError : PySem.W.mroIn K ca1 (.type "BaseException") = some true)
    (pg_Clock : PySem.W.plainGet K ca8 Str.empty = true)
    (hd_Clock : PySem.W.hasDictIn K ca8 = true)
    (po_Clock : PySem.W.plainOver K ca8 = true)
    (sa_Clock : PySem.W.findIn K (.ref ca8) "__setattr__" = some (some (.builtin "object.__setattr__")))
    (mk_Clock : PySem.W.makesIn K ca8 = true)
    (kc_Clock : PySem.W.keepIn K (.ref ca8) = true)
    (n_Clock_rows : PySem.W.findIn K (.ref ca8) "rows" = some none)
    (n_Clock_times : PySem.W.findIn K (.ref ca8) "times" = some none)
    (n_Clock_present : PySem.W.findIn K (.ref ca8) "present" = some none)
    (sub_W : PySem.W.subIn K (.ref ca4) (.ref ca1) = some true)
    (is_V : PySem.W.kitOne K (.ref ca4) (.type "ValueError") = some true)
    (is_T : PySem.W.kitOne K (.ref ca4) (.ref ca4) = some true)
    (no_L : PySem.W.kitOne K (.ref ca4) (.ref ca2) = some false)
    (no_R : PySem.W.kitOne K (.ref ca4) (.ref ca3) = some false)
    (no_N : PySem.W.kitOne K (.ref ca4) (.ref ca5) = some false)
    (no_K : PySem.W.kitOne K (.ref ca4) (.ref ca6) = some false)
    (no_W : PySem.W.kitOne K (.ref ca4) (.ref ca7) = some false)
    (z1 : PySem.W.nsIn K mainGlobals "ValueError" = some none)
    (z2 : PySem.W.nsIn K mainGlobals "any" = some none)
    (z3 : PySem.W.nsIn K mainGlobals "bool" = some none)
    (z4 : PySem.W.nsIn K mainGlobals "int" = some none)
    (z5 : PySem.W.nsIn K mainGlobals "isinstance" = some none)
    (z6 : PySem.W.nsIn K mainGlobals "len" = some none)
    (z7 : PySem.W.nsIn K mainGlobals "list" = some none)
    (z8 : PySem.W.nsIn K mainGlobals "max" = some none)
    (z9 : PySem.W.nsIn K mainGlobals "min" = some none)
    (z10 : PySem.W.nsIn K mainGlobals "range" = some none)
    (z11 : PySem.W.nsIn K mainGlobals "tuple" = some none)
    : ∃ fd : FuncData, (∀ (s : Shared) (v : Value), BindsTo s fd ⟨[v], []⟩ [("_law_script", v)]) ∧ ∀ base : Heap, K.In base → base.Ns mainGlobals mg → FnOk l.prog w K mg base CX0 9 fa fd ["_law_script"] (sp_law K) := by
  have e := hfa.symm.trans (PySem.W.mg_of X G a37)
  cases e
  let cl : Cl := ⟨ca1, ca2, ca3, ca4, ca5, ca6, ca7, ca8⟩
  have T : Txt K mg cl := ⟨PySem.W.mg_none_of X G z1, PySem.W.mg_none_of X G z2, PySem.W.mg_none_of X G z3, PySem.W.mg_none_of X G z4, PySem.W.mg_none_of X G z5, PySem.W.mg_none_of X G z6, PySem.W.mg_none_of X G z7, PySem.W.mg_none_of X G z8, PySem.W.mg_none_of X G z9, PySem.W.mg_none_of X G z10, PySem.W.mg_none_of X G z11, PySem.W.mg_of X G g1, PySem.W.mg_of X G g2, PySem.W.mg_of X G g3, PySem.W.mg_of X G g4, PySem.W.mg_of X G g5, PySem.W.mg_of X G g6, PySem.W.mg_of X G g7, PySem.W.mg_of X G g8, x_NoTime, ⟨k0_NoTime, k1_NoTime, k2_NoTime, k3_NoTime, k4_NoTime, cls_of_dict k5_NoTime⟩, ⟨h0_WaitError, cls_of_dict h1_WaitError, h2_WaitError⟩, ⟨pg_Clock, hd_Clock, po_Clock, sa_Clock⟩, n_Clock_rows, n_Clock_times, n_Clock_present, sub_W, is_V, is_T, no_L, no_R, no_N, no_K, no_W⟩
  have F1 := fun_mk (st := s_lies_between) l1 c1 k1
  have b1 := F1.binds (ps := ["time", "low", "high"]) fun _ _ _ _ _ _ us hl => by obtain ⟨_, _, _, rfl⟩ := lenE3 hl; rfl
  have F2 := fun_mk (st := s_least_time) l2 c2 k2
  have b2 := F2.binds (ps := ["table", "setting", "x"]) fun _ _ _ _ _ _ us hl => by obtain ⟨_, _, _, rfl⟩ := lenE3 hl; rfl
  have F3 := fun_mk (st := s_greatest_time) l3 c3 k3
  have b3 := F3.binds (ps := ["table", "setting", "x"]) fun _ _ _ _ _ _ us hl => by obtain ⟨_, _, _, rfl⟩ := lenE3 hl; rfl
  have F4 := fun_mk (st := s_points_set) l4 c4 k4
  have b4 := F4.binds (ps := ["setting"]) fun _ _ _ _ _ _ us hl => by obtain ⟨_, rfl⟩ := lenE1 hl; rfl
  have F5 := fun_mk (st := s_points_open) l5 c5 k5
  have b5 := F5.binds (ps := ["setting"]) fun _ _ _ _ _ _ us hl => by obtain ⟨_, rfl⟩ := lenE1 hl; rfl
  have F6 := fun_mk (st := s_limit) l6 c6 k6
  have b6 := F6.binds (ps := ["table", "setting"]) fun _ _ _ _ _ _ us hl => by obtain ⟨_, _, rfl⟩ := lenE2 hl; rfl
  have F7 := fun_mk (st := s_course) l7 c7 k7
  have b7 := F7.binds (ps := ["table", "setting", "now"]) fun _ _ _ _ _ _ us hl => by obtain ⟨_, _, _, rfl⟩ := lenE3 hl; rfl
  have F8 := fun_mk (st := s_turn) l8 c8 k8
  have b8 := F8.binds (ps := ["table", "setting", "now", "x"]) fun _ _ _ _ _ _ us hl => by obtain ⟨_, _, _, _, rfl⟩ := lenE4 hl; rfl
  have F9 := fun_mk (st := s_must_follow) l9 c9 k9
  have b9 := F9.binds (ps := ["table", "setting", "x"]) fun _ _ _ _ _ _ us hl => by obtain ⟨_, _, _, rfl⟩ := lenE3 hl; rfl
  have F10 := fun_mk (st := s_wide) l10 c10 k10
  have b10 := F10.binds (ps := ["count"]) fun _ _ _ _ _ _ us hl => by obtain ⟨_, rfl⟩ := lenE1 hl; rfl
  have F11 := fun_mk (st := s_wide_row) l11 c11 k11
  have b11 := F11.binds (ps := ["count", "a"]) fun _ _ _ _ _ _ us hl => by obtain ⟨_, _, rfl⟩ := lenE2 hl; rfl
  have F12 := fun_mk (st := s_table_of) l12 c12 k12
  have b12 := F12.binds (ps := ["count", "bounds"]) fun _ _ _ _ _ _ us hl => by obtain ⟨_, _, rfl⟩ := lenE2 hl; rfl
  have F13 := fun_mk (st := s_held) l13 c13 k13
  have b13 := F13.binds (ps := ["table", "bound"]) fun _ _ _ _ _ _ us hl => by obtain ⟨_, _, rfl⟩ := lenE2 hl; rfl
  have F14 := fun_mk (st := s_shuts) l14 c14 k14
  have b14 := F14.binds (ps := ["bound", "table"]) fun _ _ _ _ _ _ us hl => by obtain ⟨_, _, rfl⟩ := lenE2 hl; rfl
  have F15 := fun_mk (st := s_held_row) l15 c15 k15
  have b15 := F15.binds (ps := ["table", "a", "bound"]) fun _ _ _ _ _ _ us hl => by obtain ⟨_, _, _, rfl⟩ := lenE3 hl; rfl
  have F16 := fun_mk (st := s_total) l16 c16 k16
  have b16 := F16.binds (ps := ["one", "other"]) fun _ _ _ _ _ _ us hl => by obtain ⟨_, _, rfl⟩ := lenE2 hl; rfl
  have F17 := fun_mk (st := s_lesser) l17 c17 k17
  have b17 := F17.binds (ps := ["one", "other"]) fun _ _ _ _ _ _ us hl => by obtain ⟨_, _, rfl⟩ := lenE2 hl; rfl
  have F18 := fun_mk (st := s_law_cell) l18 c18 k18
  have b18 := F18.binds (ps := ["_law_script", "_law_k"]) fun _ _ _ _ _ _ us hl => by obtain ⟨_, _, rfl⟩ := lenE2 hl; rfl
  have F19 := fun_mk (st := s_law_whole) l19 c19 k19
  have b19 := F19.binds (ps := ["_law_found"]) fun _ _ _ _ _ _ us hl => by obtain ⟨_, rfl⟩ := lenE1 hl; rfl
  have F20 := fun_mk (st := s_law_big) l20 c20 k20
  have b20 := F20.binds (ps := ["_law_cell_here"]) fun _ _ _ _ _ _ us hl => by obtain ⟨_, rfl⟩ := lenE1 hl; rfl
  have F21 := fun_mk (st := s_law_times) l21 c21 k21
  have b21 := F21.binds (ps := ["_law_script", "_law_at", "_law_count"]) fun _ _ _ _ _ _ us hl => by obtain ⟨_, _, _, rfl⟩ := lenE3 hl; rfl
  have F22 := fun_mk (st := s_law_cells) l22 c22 k22
  have b22 := F22.binds (ps := ["_law_script", "_law_at", "_law_many"]) fun _ _ _ _ _ _ us hl => by obtain ⟨_, _, _, rfl⟩ := lenE3 hl; rfl
  have F23 := fun_mk (st := s_law_bounds) l23 c23 k23
  have b23 := F23.binds (ps := ["_law_cells_here", "_law_count", "_law_times_here"]) fun _ _ _ _ _ _ us hl => by obtain ⟨_, _, _, rfl⟩ := lenE3 hl; rfl
  have F24 := fun_mk (st := s_law_least) l24 c24 k24
  have b24 := F24.binds (ps := ["_law_numbers"]) fun _ _ _ _ _ _ us hl => by obtain ⟨_, rfl⟩ := lenE1 hl; rfl
  have F25 := fun_mk (st := s_law_high) l25 c25 k25
  have b25 := F25.binds (ps := ["_law_table", "_law_setting", "_law_x"]) fun _ _ _ _ _ _ us hl => by obtain ⟨_, _, _, rfl⟩ := lenE3 hl; rfl
  have F26 := fun_mk (st := s_law_low) l26 c26 k26
  have b26 := F26.binds (ps := ["_law_table", "_law_setting", "_law_x"]) fun _ _ _ _ _ _ us hl => by obtain ⟨_, _, _, rfl⟩ := lenE3 hl; rfl
  have F27 := fun_mk (st := s_law_limit) l27 c27 k27
  have b27 := F27.binds (ps := ["_law_table", "_law_setting"]) fun _ _ _ _ _ _ us hl => by obtain ⟨_, _, rfl⟩ := lenE2 hl; rfl
  have F28 := fun_mk (st := s_law_turn) l28 c28 k28
  have b28 := F28.binds (ps := ["_law_table", "_law_setting", "_law_now", "_law_x"]) fun _ _ _ _ _ _ us hl => by obtain ⟨_, _, _, _, rfl⟩ := lenE4 hl; rfl
  have F29 := fun_mk (st := s_law_number_like) l29 c29 k29
  have b29 := F29.binds (ps := ["_law_found", "_law_due"]) fun _ _ _ _ _ _ us hl => by obtain ⟨_, _, rfl⟩ := lenE2 hl; rfl
  have F30 := fun_mk (st := s_law_turn_like) l30 c30 k30
  have b30 := F30.binds (ps := ["_law_found", "_law_due"]) fun _ _ _ _ _ _ us hl => by obtain ⟨_, _, rfl⟩ := lenE2 hl; rfl
  have F31 := fun_mk (st := s_law_course_good) l31 c31 k31
  have b31 := F31.binds (ps := ["_law_times_here", "_law_bounds_here", "_law_setting", "_law_now"]) fun _ _ _ _ _ _ us hl => by obtain ⟨_, _, _, _, rfl⟩ := lenE4 hl; rfl
  have F32 := fun_mk (st := s_law_shown) l32 c32 k32
  have b32 := F32.binds (ps := ["_law_clock", "_law_table", "_law_bounds_here", "_law_state"]) fun _ _ _ _ _ _ us hl => by obtain ⟨_, _, _, _, rfl⟩ := lenE4 hl; rfl
  have F33 := fun_mk (st := s_law_near) l33 c33 k33
  have b33 := F33.binds (ps := ["_law_cell_here", "_law_ends", "_law_plain"]) fun _ _ _ _ _ _ us hl => by obtain ⟨_, _, _, rfl⟩ := lenE3 hl; rfl
  have F34 := fun_mk (st := s_law_refusal) l34 c34 k34
  have b34 := F34.binds (ps := ["_law_clock", "_law_x", "_law_time"]) fun _ _ _ _ _ _ us hl => by obtain ⟨_, _, _, rfl⟩ := lenE3 hl; rfl
  have F35 := fun_mk (st := s_law_only_time) l35 c35 k35
  have b35 := F35.binds (ps := ["_law_some"]) fun _ _ _ _ _ _ us hl => by obtain ⟨_, rfl⟩ := lenE1 hl; rfl
  have F36 := fun_mk (st := s_law_deed) l36 c36 k36
  have b36 := F36.binds (ps := ["_law_clock", "_law_table", "_law_state", "_law_cell_here", "_law_times_here"]) fun _ _ _ _ _ _ us hl => by obtain ⟨_, _, _, _, _, rfl⟩ := lenE5 hl; rfl
  have F37 := fun_mk (st := s_law) l37 c37 k37
  have F38 := fun_mk (st := s_Clock___init__) l38 c38 k38
  have b38 := F38.binds (ps := ["self", "table", "start"]) fun _ _ _ _ _ _ us hl => by obtain ⟨_, _, _, rfl⟩ := lenE3 hl; rfl
  have F39 := fun_mk (st := s_Clock_now) l39 c39 k39
  have b39 := F39.binds (ps := ["self"]) fun _ _ _ _ _ _ us hl => by obtain ⟨_, rfl⟩ := lenE1 hl; rfl
  have F40 := fun_mk (st := s_Clock_setting) l40 c40 k40
  have b40 := F40.binds (ps := ["self"]) fun _ _ _ _ _ _ us hl => by obtain ⟨_, rfl⟩ := lenE1 hl; rfl
  have F41 := fun_mk (st := s_Clock_limit) l41 c41 k41
  have b41 := F41.binds (ps := ["self"]) fun _ _ _ _ _ _ us hl => by obtain ⟨_, rfl⟩ := lenE1 hl; rfl
  have F42 := fun_mk (st := s_Clock_turn) l42 c42 k42
  have b42 := F42.binds (ps := ["self", "x"]) fun _ _ _ _ _ _ us hl => by obtain ⟨_, _, rfl⟩ := lenE2 hl; rfl
  have F43 := fun_mk (st := s_Clock_course) l43 c43 k43
  have b43 := F43.binds (ps := ["self"]) fun _ _ _ _ _ _ us hl => by obtain ⟨_, rfl⟩ := lenE1 hl; rfl
  have F44 := fun_mk (st := s_Clock_wait) l44 c44 k44
  have b44 := F44.binds (ps := ["self", "time"]) fun _ _ _ _ _ _ us hl => by obtain ⟨_, _, rfl⟩ := lenE2 hl; rfl
  have F45 := fun_mk (st := s_Clock_mark) l45 c45 k45
  have b45 := F45.binds (ps := ["self", "x", "time"]) fun _ _ _ _ _ _ us hl => by obtain ⟨_, _, _, rfl⟩ := lenE3 hl; rfl
  refine ⟨PySem.W.fnOf "law" "law" (defArgs s_law) (defBody s_law) (defScope s_law) .none kV37 dc37 pm37 an37 cd37 ct37, fun s v => .of_eq rfl, fun base _ _ => ?_⟩
  have C_lies_between : Cal l.prog w K mg base 1 "lies_between" ["time", "low", "high"] (sp_lies_between K) := ⟨f1, _, ok_lies_between F1 T , b1, k1, PySem.W.mg_of X G a1⟩
  have C_points_set : Cal l.prog w K mg base 1 "points_set" ["setting"] (sp_points_set K) := ⟨f4, _, ok_points_set F4 T , b4, k4, PySem.W.mg_of X G a4⟩
  have C_points_open : Cal l.prog w K mg base 1 "points_open" ["setting"] (sp_points_open K) := ⟨f5, _, ok_points_open F5 T , b5, k5, PySem.W.mg_of X G a5⟩
  have C_must_follow : Cal l.prog w K mg base 2 "must_follow" ["table", "setting", "x"] (sp_must_follow K) := ⟨f9, _, ok_must_follow F9 T C_points_open, b9, k9, PySem.W.mg_of X G a9⟩
  have C_wide_row : Cal l.prog w K mg base 1 "wide_row" ["count", "a"] (sp_wide_row K) := ⟨f11, _, ok_wide_row F11 T , b11, k11, PySem.W.mg_of X G a11⟩
  have C_shuts : Cal l.prog w K mg base 1 "shuts" ["bound", "table"] (sp_shuts K) := ⟨f14, _, ok_shuts F14 T , b14, k14, PySem.W.mg_of X G a14⟩
  have C_total : Cal l.prog w K mg base 1 "total" ["one", "other"] (sp_total K) := ⟨f16, _, ok_total F16 T , b16, k16, PySem.W.mg_of X G a16⟩
  have C_lesser : Cal l.prog w K mg base 1 "lesser" ["one", "other"] (sp_lesser K) := ⟨f17, _, ok_lesser F17 T , b17, k17, PySem.W.mg_of X G a17⟩
  have C_law_cell : Cal l.prog w K mg base 1 "_law_cell" ["_law_script", "_law_k"] (sp_law_cell K) := ⟨f18, _, ok_law_cell F18 T , b18, k18, PySem.W.mg_of X G a18⟩
  have C_law_whole : Cal l.prog w K mg base 1 "_law_whole" ["_law_found"] (sp_law_whole K) := ⟨f19, _, ok_law_whole F19 T , b19, k19, PySem.W.mg_of X G a19⟩
  have C_law_big : Cal l.prog w K mg base 1 "_law_big" ["_law_cell_here"] (sp_law_big K) := ⟨f20, _, ok_law_big F20 T , b20, k20, PySem.W.mg_of X G a20⟩
  have C_law_times : Cal l.prog w K mg base 2 "_law_times" ["_law_script", "_law_at", "_law_count"] (sp_law_times K) := ⟨f21, _, ok_law_times F21 T C_law_cell C_law_big, b21, k21, PySem.W.mg_of X G a21⟩
  have C_law_cells : Cal l.prog w K mg base 2 "_law_cells" ["_law_script", "_law_at", "_law_many"] (sp_law_cells K) := ⟨f22, _, ok_law_cells F22 T C_law_cell, b22, k22, PySem.W.mg_of X G a22⟩
  have C_law_bounds : Cal l.prog w K mg base 1 "_law_bounds" ["_law_cells_here", "_law_count", "_law_times_here"] (sp_law_bounds K) := ⟨f23, _, ok_law_bounds F23 T , b23, k23, PySem.W.mg_of X G a23⟩
  have C_law_least : Cal l.prog w K mg base 1 "_law_least" ["_law_numbers"] (sp_law_least K) := ⟨f24, _, ok_law_least F24 T , b24, k24, PySem.W.mg_of X G a24⟩
  have C_law_high : Cal l.prog w K mg base 2 "_law_high" ["_law_table", "_law_setting", "_law_x"] (sp_law_high K) := ⟨f25, _, ok_law_high F25 T C_law_least, b25, k25, PySem.W.mg_of X G a25⟩
  have C_law_low : Cal l.prog w K mg base 2 "_law_low" ["_law_table", "_law_setting", "_law_x"] (sp_law_low K) := ⟨f26, _, ok_law_low F26 T C_law_least, b26, k26, PySem.W.mg_of X G a26⟩
  have C_law_limit : Cal l.prog w K mg base 3 "_law_limit" ["_law_table", "_law_setting"] (sp_law_limit K) := ⟨f27, _, ok_law_limit F27 T C_law_least C_law_high, b27, k27, PySem.W.mg_of X G a27⟩
  have C_law_turn : Cal l.prog w K mg base 4 "_law_turn" ["_law_table", "_law_setting", "_law_now", "_law_x"] (sp_law_turn K) := ⟨f28, _, ok_law_turn F28 T C_law_low C_law_limit, b28, k28, PySem.W.mg_of X G a28⟩
  have C_law_number_like : Cal l.prog w K mg base 2 "_law_number_like" ["_law_found", "_law_due"] (sp_law_number_like K) := ⟨f29, _, ok_law_number_like F29 T C_law_whole, b29, k29, PySem.W.mg_of X G a29⟩
  have C_law_turn_like : Cal l.prog w K mg base 3 "_law_turn_like" ["_law_found", "_law_due"] (sp_law_turn_like K) := ⟨f30, _, ok_law_turn_like F30 T C_law_number_like, b30, k30, PySem.W.mg_of X G a30⟩
  have C_law_course_good : Cal l.prog w K mg base 2 "_law_course_good" ["_law_times_here", "_law_bounds_here", "_law_setting", "_law_now"] (sp_law_course_good K) := ⟨f31, _, ok_law_course_good F31 T C_law_whole, b31, k31, PySem.W.mg_of X G a31⟩
  have C_law_near : Cal l.prog w K mg base 1 "_law_near" ["_law_cell_here", "_law_ends", "_law_plain"] (sp_law_near K) := ⟨f33, _, ok_law_near F33 T , b33, k33, PySem.W.mg_of X G a33⟩
  have C_law_only_time : Cal l.prog w K mg base 1 "_law_only_time" ["_law_some"] (sp_law_only_time K cl) := ⟨f35, _, ok_law_only_time F35 T , b35, k35, PySem.W.mg_of X G a35⟩
  have MK_Clock : MkCal l.prog w K mg base cl.Clock 1 "Clock" ["self", "table", "start"] (sp_Clock___init__ K cl) := ⟨f38, _, ok_Clock___init__ F38 T , b38, ⟨mk_Clock, a38, i38, kc_Clock⟩, T.g_Clock⟩
  have M_Clock_now : MCal l.prog w K mg base cl.Clock 1 "now" ["self"] (sp_Clock_now K cl) := ⟨f39, _, ok_Clock_now F39 T , b39, ⟨a39, i39, k39⟩⟩
  have M_Clock_setting : MCal l.prog w K mg base cl.Clock 1 "setting" ["self"] (sp_Clock_setting K cl) := ⟨f40, _, ok_Clock_setting F40 T , b40, ⟨a40, i40, k40⟩⟩
  have C_least_time : Cal l.prog w K mg base 2 "least_time" ["table", "setting", "x"] (sp_least_time K) := ⟨f2, _, ok_least_time F2 T C_points_set, b2, k2, PySem.W.mg_of X G a2⟩
  have C_greatest_time : Cal l.prog w K mg base 2 "greatest_time" ["table", "setting", "x"] (sp_greatest_time K) := ⟨f3, _, ok_greatest_time F3 T C_points_set, b3, k3, PySem.W.mg_of X G a3⟩
  have C_limit : Cal l.prog w K mg base 3 "limit" ["table", "setting"] (sp_limit K) := ⟨f6, _, ok_limit F6 T C_greatest_time C_points_open, b6, k6, PySem.W.mg_of X G a6⟩
  have C_limit_turns : Cal l.prog w K mg base 3 "limit_turns" ["table", "setting"] (sp_limit K) := ⟨f6, _, ok_limit F6 T C_greatest_time C_points_open, b6, k6, PySem.W.mg_of X G al_limit_turns⟩
  have C_course : Cal l.prog w K mg base 3 "course" ["table", "setting", "now"] (sp_course K) := ⟨f7, _, ok_course F7 T C_least_time, b7, k7, PySem.W.mg_of X G a7⟩
  have C_course_turns : Cal l.prog w K mg base 3 "course_turns" ["table", "setting", "now"] (sp_course K) := ⟨f7, _, ok_course F7 T C_least_time, b7, k7, PySem.W.mg_of X G al_course_turns⟩
  have C_turn : Cal l.prog w K mg base 4 "turn" ["table", "setting", "now", "x"] (sp_turn K) := ⟨f8, _, ok_turn F8 T C_limit_turns C_course_turns C_must_follow, b8, k8, PySem.W.mg_of X G a8⟩
  have C_turn_turns : Cal l.prog w K mg base 4 "turn_turns" ["table", "setting", "now", "x"] (sp_turn K) := ⟨f8, _, ok_turn F8 T C_limit_turns C_course_turns C_must_follow, b8, k8, PySem.W.mg_of X G al_turn_turns⟩
  have C_wide : Cal l.prog w K mg base 2 "wide" ["count"] (sp_wide K) := ⟨f10, _, ok_wide F10 T C_wide_row, b10, k10, PySem.W.mg_of X G a10⟩
  have C_held_row : Cal l.prog w K mg base 2 "held_row" ["table", "a", "bound"] (sp_held_row K) := ⟨f15, _, ok_held_row F15 T C_total C_lesser, b15, k15, PySem.W.mg_of X G a15⟩
  have M_Clock_limit : MCal l.prog w K mg base cl.Clock 4 "limit" ["self"] (sp_Clock_limit K cl) := ⟨f41, _, ok_Clock_limit F41 T C_limit_turns, b41, ⟨a41, i41, k41⟩⟩
  have M_Clock_turn : MCal l.prog w K mg base cl.Clock 5 "turn" ["self", "x"] (sp_Clock_turn K cl) := ⟨f42, _, ok_Clock_turn F42 T C_turn_turns, b42, ⟨a42, i42, k42⟩⟩
  have M_Clock_course : MCal l.prog w K mg base cl.Clock 4 "course" ["self"] (sp_Clock_course K cl) := ⟨f43, _, ok_Clock_course F43 T C_course_turns, b43, ⟨a43, i43, k43⟩⟩
  have M_Clock_wait : MCalX l.prog w K mg base cl.Clock 5 "wait" ["self", "time"] (sp_Clock_wait K cl) := ⟨f44, _, ok_Clock_wait F44 T C_lies_between M_Clock_limit, b44, ⟨a44, i44, k44⟩⟩
  have M_Clock_mark : MCalX l.prog w K mg base cl.Clock 6 "mark" ["self", "x", "time"] (sp_Clock_mark K cl) := ⟨f45, _, ok_Clock_mark F45 T C_lies_between M_Clock_turn, b45, ⟨a45, i45, k45⟩⟩
  have C_held : Cal l.prog w K mg base 3 "held" ["table", "bound"] (sp_held K) := ⟨f13, _, ok_held F13 T C_shuts C_held_row, b13, k13, PySem.W.mg_of X G a13⟩
  have C_law_shown : Cal l.prog w K mg base 6 "_law_shown" ["_law_clock", "_law_table", "_law_bounds_here", "_law_state"] (sp_law_shown K cl) := ⟨f32, _, ok_law_shown F32 T C_law_limit C_law_turn C_law_number_like C_law_turn_like C_law_course_good M_Clock_now M_Clock_setting M_Clock_limit M_Clock_turn M_Clock_course, b32, k32, PySem.W.mg_of X G a32⟩
  have C_law_refusal : Cal l.prog w K mg base 7 "_law_refusal" ["_law_clock", "_law_x", "_law_time"] (sp_law_refusal K cl) := ⟨f34, _, ok_law_refusal F34 T M_Clock_wait M_Clock_mark, b34, k34, PySem.W.mg_of X G a34⟩
  have C_law_deed : Cal l.prog w K mg base 8 "_law_deed" ["_law_clock", "_law_table", "_law_state", "_law_cell_here", "_law_times_here"] (sp_law_deed K cl) := ⟨f36, _, ok_law_deed F36 T C_law_limit C_law_turn C_law_near C_law_refusal C_law_only_time, b36, k36, PySem.W.mg_of X G a36⟩
  have C_table_of : Cal l.prog w K mg base 4 "table_of" ["count", "bounds"] (sp_table_of K) := ⟨f12, _, ok_table_of F12 T C_wide C_held, b12, k12, PySem.W.mg_of X G a12⟩
  exact ok_law F37 T C_table_of C_law_cell C_law_times C_law_cells C_law_bounds C_law_shown C_law_deed MK_Clock
theorem walk {l : PySem.W.OpenLaw} {q : Program} {loose : List Str} {XP : (Str → Option Value) → Heap → Prop} {YP : World → Heap → Prop} {d : DefRec} {K : Params → PySem.W.Frag} (hn : l.most = some 63) (hdf : d.params.defaults = [])
    (hY : ∀ (w : World) (h : Heap), YP w h → (K w.params).In h)
    (F : ∀ (w : World) (mg : Str → Option Value) (fa : Addr) (h : Heap), (K w.params).In h → h.Ns mainGlobals mg → mg d.name = some (.ref fa) →
      ∃ fd : FuncData, (∀ (s : Shared) (u : Value), BindsTo s fd ⟨[u], []⟩ [("_law_script", u)]) ∧ ∀ base : Heap, (K w.params).In base → base.Ns mainGlobals mg → FnOk l.prog w (K w.params) mg base CX0 9 fa fd ["_law_script"] (sp_law (K w.params))) :
    PySem.W.WalkO q loose XP YP l.row.toRowW d [] (fun f vs => PySem.call f vs) :=
  L2.walk_of (n := 63) (k := 9) (x := "_law_script") (CX := fun _ => CX0) (sp := fun w => sp_law (K w.params)) hn (by decide) hdf ⟨rfl, by decide, by decide⟩ hY F (fun _ _ a ns hl _ hS => ⟨a, ns, rfl, hS, hl, fun _ => rfl⟩) fun _ _ _ _ _ z => z
end Toy
open PySem PySem.W PyProof.Rows
set_option maxRecDepth 100000 in
set_option maxHeartbeats 0 in
theorem PySem.Challenge.cw_waithouse_k24_clock_holds : PySem.Challenge.rw_waithouse_k24_clock.Holds := by
  w_on; o_law
  refine holds_open (q := Hd.QV) (loose := ["limit_turns", "course_turns", "turn_turns"]) (Xt := fun s => xlAt Hd.QV [] s && recOk (RowW.records (OpenRow.toRowW (OpenLaw.row PySem.Challenge.rw_waithouse_k24_clock))) s) (XP := XL Hd.QV []) (Yf := Hook.obs (kHook Hd.KF Hd.KA Hd.KA_eq)) (Ya := Hook.val (kHook Hd.KF Hd.KA Hd.KA_eq)) (YP := Hook.says (kHook Hd.KF Hd.KA Hd.KA_eq)) (N := 6368) Hd.left (Hook.of (kHook Hd.KF Hd.KA Hd.KA_eq)) (Hook.keeps (kHook Hd.KF Hd.KA Hd.KA_eq)) (fun s e => xl_of s (Bool.and_eq_true_iff.mp e).1) XL.keeps (by rfl) (by rfl) (by rfl) (fun s e => recFacts_of (Bool.and_eq_true_iff.mp e).2) (by rfl) (by first | assumption | decide +kernel) (by decide +kernel) ⟨rfl, rfl, rfl, rfl, rfl, by decide +kernel⟩ ?hw ?hc
  case hw => w_witness2
  k_fill
  refine Toy.walk (l := PySem.Challenge.rw_waithouse_k24_clock) rfl rfl (fun w h Y => PySem.W.kIn_of Y) ?F
  case F =>
    intro w mg fa h KX G hmg
    refine' Toy.all_mk KX G hmg ?g1 ?g2 ?g3 ?g4 ?g5 ?g6 ?g7 ?g8 ?a1 ?l1 ?c1 ?k1 ?a2 ?l2 ?c2 ?k2 ?a3 ?l3 ?c3 ?k3 ?a4 ?l4 ?c4 ?k4 ?a5 ?l5 ?c5 ?k5 ?a6 ?l6 ?c6 ?k6 ?a7 ?l7 ?c7 ?k7 ?a8 ?l8 ?c8 ?k8 ?a9 ?l9 ?c9 ?k9 ?a10 ?l10 ?c10 ?k10 ?a11 ?l11 ?c11 ?k11 ?a12 ?l12 ?c12 ?k12 ?a13 ?l13 ?c13 ?k13 ?a14 ?l14 ?c14 ?k14 ?a15 ?l15 ?c15 ?k15 ?a16 ?l16 ?c16 ?k16 ?a17 ?l17 ?c17 ?k17 ?a18 ?l18 ?c18 ?k18 ?a19 ?l19 ?c19 ?k19 ?a20 ?l20 ?c20 ?k20 ?a21 ?l21 ?c21 ?k21 ?a22 ?l22 ?c22 ?k22 ?a23 ?l23 ?c23 ?k23 ?a24 ?l24 ?c24 ?k24 ?a25 ?l25 ?c25 ?k25 ?a26 ?l26 ?c26 ?k26 ?a27 ?l27 ?c27 ?k27 ?a28 ?l28 ?c28 ?k28 ?a29 ?l29 ?c29 ?k29 ?a30 ?l30 ?c30 ?k30 ?a31 ?l31 ?c31 ?k31 ?a32 ?l32 ?c32 ?k32 ?a33 ?l33 ?c33 ?k33 ?a34 ?l34 ?c34 ?k34 ?a35 ?l35 ?c35 ?k35 ?a36 ?l36 ?c36 ?k36 ?a37 ?l37 ?c37 ?k37 ?a38 ?i38 ?l38 ?c38 ?k38 ?a39 ?i39 ?l39 ?c39 ?k39 ?a40 ?i40 ?l40 ?c40 ?k40 ?a41 ?i41 ?l41 ?c41 ?k41 ?a42 ?i42 ?l42 ?c42 ?k42 ?a43 ?i43 ?l43 ?c43 ?k43 ?a44 ?i44 ?l44 ?c44 ?k44 ?a45 ?i45 ?l45 ?c45 ?k45 ?al_course_turns ?al_limit_turns ?al_turn_turns ?x_NoTime ?k0_NoTime ?k1_NoTime ?k2_NoTime ?k3_NoTime ?k4_NoTime ?k5_NoTime ?h0_WaitError ?h1_WaitError ?h2_WaitError ?pg_Clock ?hd_Clock ?po_Clock ?sa_Clock ?mk_Clock ?kc_Clock ?n_Clock_rows ?n_Clock_times ?n_Clock_present ?sub_W ?is_V ?is_T ?no_L ?no_R ?no_N ?no_K ?no_W ?z1 ?z2 ?z3 ?z4 ?z5 ?z6 ?z7 ?z8 ?z9 ?z10 ?z11
    (case g1 => k_is)
    (case g2 => k_is)
    (case g3 => k_is)
    (case g4 => k_is)
    (case g5 => k_is)
    (case g6 => k_is)
    (case g7 => k_is)
    (case g8 => k_is)
    (case a1 => k_is)
    (case l1 => k_is)
    (case c1 => k_is)
    (case k1 => k_is)
    (case a2 => k_is)
    (case l2 => k_is)
    (case c2 => k_is)
    (case k2 => k_is)
    (case a3 => k_is)
    (case l3 => k_is)
    (case c3 => k_is)
    (case k3 => k_is)
    (case a4 => k_is)
    (case l4 => k_is)
    (case c4 => k_is)
    (case k4 => k_is)
    (case a5 => k_is)
    (case l5 => k_is)
    (case c5 => k_is)
    (case k5 => k_is)
    (case a6 => k_is)
    (case l6 => k_is)
    (case c6 => k_is)
    (case k6 => k_is)
    (case a7 => k_is)
    (case l7 => k_is)
    (case c7 => k_is)
    (case k7 => k_is)
    (case a8 => k_is)
    (case l8 => k_is)
    (case c8 => k_is)
    (case k8 => k_is)
    (case a9 => k_is)
    (case l9 => k_is)
    (case c9 => k_is)
    (case k9 => k_is)
    (case a10 => k_is)
    (case l10 => k_is)
    (case c10 => k_is)
    (case k10 => k_is)
    (case a11 => k_is)
    (case l11 => k_is)
    (case c11 => k_is)
    (case k11 => k_is)
    (case a12 => k_is)
    (case l12 => k_is)
    (case c12 => k_is)
    (case k12 => k_is)
    (case a13 => k_is)
    (case l13 => k_is)
    (case c13 => k_is)
    (case k13 => k_is)
    (case a14 => k_is)
    (case l14 => k_is)
    (case c14 => k_is)
    (case k14 => k_is)
    (case a15 => k_is)
    (case l15 => k_is)
    (case c15 => k_is)
    (case k15 => k_is)
    (case a16 => k_is)
    (case l16 => k_is)
    (case c16 => k_is)
    (case k16 => k_is)
    (case a17 => k_is)
    (case l17 => k_is)
    (case c17 => k_is)
    (case k17 => k_is)
    (case a18 => k_is)
    (case l18 => k_is)
    (case c18 => k_is)
    (case k18 => k_is)
    (case a19 => k_is)
    (case l19 => k_is)
    (case c19 => k_is)
    (case k19 => k_is)
    (case a20 => k_is)
    (case l20 => k_is)
    (case c20 => k_is)
    (case k20 => k_is)
    (case a21 => k_is)
    (case l21 => k_is)
    (case c21 => k_is)
    (case k21 => k_is)
    (case a22 => k_is)
    (case l22 => k_is)
    (case c22 => k_is)
    (case k22 => k_is)
    (case a23 => k_is)
    (case l23 => k_is)
    (case c23 => k_is)
    (case k23 => k_is)
    (case a24 => k_is)
    (case l24 => k_is)
    (case c24 => k_is)
    (case k24 => k_is)
    (case a25 => k_is)
    (case l25 => k_is)
    (case c25 => k_is)
    (case k25 => k_is)
    (case a26 => k_is)
    (case l26 => k_is)
    (case c26 => k_is)
    (case k26 => k_is)
    (case a27 => k_is)
    (case l27 => k_is)
    (case c27 => k_is)
    (case k27 => k_is)
    (case a28 => k_is)
    (case l28 => k_is)
    (case c28 => k_is)
    (case k28 => k_is)
    (case a29 => k_is)
    (case l29 => k_is)
    (case c29 => k_is)
    (case k29 => k_is)
    (case a30 => k_is)
    (case l30 => k_is)
    (case c30 => k_is)
    (case k30 => k_is)
    (case a31 => k_is)
    (case l31 => k_is)
    (case c31 => k_is)
    (case k31 => k_is)
    (case a32 => k_is)
    (case l32 => k_is)
    (case c32 => k_is)
    (case k32 => k_is)
    (case a33 => k_is)
    (case l33 => k_is)
    (case c33 => k_is)
    (case k33 => k_is)
    (case a34 => k_is)
    (case l34 => k_is)
    (case c34 => k_is)
    (case k34 => k_is)
    (case a35 => k_is)
    (case l35 => k_is)
    (case c35 => k_is)
    (case k35 => k_is)
    (case a36 => k_is)
    (case l36 => k_is)
    (case c36 => k_is)
    (case k36 => k_is)
    (case a37 => k_is)
    (case l37 => k_is)
    (case c37 => k_is)
    (case k37 => k_is)
    (case a38 => k_is)
    (case i38 => k_is)
    (case l38 => k_is)
    (case c38 => k_is)
    (case k38 => k_is)
    (case a39 => k_is)
    (case i39 => k_is)
    (case l39 => k_is)
    (case c39 => k_is)
    (case k39 => k_is)
    (case a40 => k_is)
    (case i40 => k_is)
    (case l40 => k_is)
    (case c40 => k_is)
    (case k40 => k_is)
    (case a41 => k_is)
    (case i41 => k_is)
    (case l41 => k_is)
    (case c41 => k_is)
    (case k41 => k_is)
    (case a42 => k_is)
    (case i42 => k_is)
    (case l42 => k_is)
    (case c42 => k_is)
    (case k42 => k_is)
    (case a43 => k_is)
    (case i43 => k_is)
    (case l43 => k_is)
    (case c43 => k_is)
    (case k43 => k_is)
    (case a44 => k_is)
    (case i44 => k_is)
    (case l44 => k_is)
    (case c44 => k_is)
    (case k44 => k_is)
    (case a45 => k_is)
    (case i45 => k_is)
    (case l45 => k_is)
    (case c45 => k_is)
    (case k45 => k_is)
    (case al_course_turns => k_is)
    (case al_limit_turns => k_is)
    (case al_turn_turns => k_is)
    (case x_NoTime => k_exc)
    (case k0_NoTime => k_is)
    (case k1_NoTime => k_is)
    (case k2_NoTime => k_is)
    (case k3_NoTime => k_is)
    (case k4_NoTime => k_is)
    (case k5_NoTime => k_is)
    (case h0_WaitError => k_is)
    (case h1_WaitError => k_is)
    (case h2_WaitError => k_is)
    (case pg_Clock => k_is)
    (case hd_Clock => k_is)
    (case po_Clock => k_is)
    (case sa_Clock => k_is)
    (case mk_Clock => k_is)
    (case kc_Clock => k_is)
    (case n_Clock_rows => k_is)
    (case n_Clock_times => k_is)
    (case n_Clock_present => k_is)
    (case sub_W => k_is)
    (case is_V => kit_is)
    (case is_T => kit_is)
    (case no_L => kit_is)
    (case no_R => kit_is)
    (case no_N => kit_is)
    (case no_K => kit_is)
    (case no_W => kit_is)
    (case z1 => k_is)
    (case z2 => k_is)
    (case z3 => k_is)
    (case z4 => k_is)
    (case z5 => k_is)
    (case z6 => k_is)
    (case z7 => k_is)
    (case z8 => k_is)
    (case z9 => k_is)
    (case z10 => k_is)
    (case z11 => k_is)

