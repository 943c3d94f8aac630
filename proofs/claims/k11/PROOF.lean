import PyProof.Rows.All
import Wide.All
import OpenK.AllK
import Wide.FinOn
import PySem.Challenge.RW_keptnest_k11_read_question
import Lean
import PyProof.EqAt
import PyProof.EqKinds
import PyProof.TupleCall
import PyProof.DictWalks
import PyProof.DictKeyH
import PySem.Str
import PyProof.NeKinds
import KE.KRevSl
import KE.KDictSum
import PyProof.Rows.SortStr
import PyProof.IsiPairs
import PyProof.IsiHeapPairs
import PyProof.ZipIter
import KE.KSortAsk
import KE.KSortTup
import PyProof.EnumFor
import PyProof.EnumMake
import PyProof.StrWalks
import PyProof.Rows.EnumRows
import PyProof.Rows.FStr
import PyProof.Rows.SetFrom
import PyProof.CallStr
import PyProof.FitsBits
import KE.KUnpack
import KE.KTupSum
import KE.KDictOf
import KE.KNestM
import KE.KRevIter
import KE.KLam
import PyProof.AttrMissHeap
import KE.KItemsList
import KE.KPairComp
import PyProof.Draws
import PyProof.ListRange
import KE.KIntText
import PyProof.FString5
import PyProof.StrBlock
import PyProof.StrLawsReplace
set_option Elab.async false
set_option linter.all false
set_option maxRecDepth 100000
set_option maxHeartbeats 4000000
section
namespace Hq
open PySem PySem.W
def vS (s:PySem.Str) (n:Tok):Value:=.str s n
def vI (i:Int) (n:Tok):Value:=.int i n
def vR (a:Addr):Value:=.ref a
def vN:Value:=.none
def sO (s:String):PySem.Str:=PySem.Str.ofString s
def eN (P:Params) (k:PySem.Str) (n:Tok) (v:Value):DictEntry:=⟨PyData.keyHash P k,.str k n,v⟩
def dA (s:Stmt):Arguments:=match s with
 | .FunctionDef _ a _ _ _ _ _ _ _ _=>a
 | _=>{ posonlyargs:=[],args:=[],vararg:=none,kwonlyargs:=[],kw_defaults:=[],kwarg:=none,defaults:=[] }
def dB (s:Stmt):List Stmt:=match s with
 | .FunctionDef _ _ b _ _ _ _ _ _ _=>b
 | _=>[]
def dS (s:Stmt):Scope:=match s with
 | .FunctionDef _ _ _ _ _ _ sc _ _ _=>sc
 | _=>{ kind:=.function,names:=[],isGenerator:=false,isCoroutine:=false }
def cB (s:Stmt):List Stmt:=match s with
 | .ClassDef _ _ _ b _ _ _ _ _ _ _=>b
 | _=>[]
def fO (nm qual:PySem.Str) (st:Stmt) (m cd:Value):Obj:={ cls:=.type "function",data:=.func (PySem.W.fnOf nm qual (dA st) (dB st) (dS st) .none .none .none m none cd .none) }
def RunTo (p q:Program) (loose:List PySem.Str) (Xt:Shared->Bool) {α:Type} (Yf:Shared->α) (Ya:World->α) (N:Nat) (row:String) (b:Bool):Prop:=
 ∀ w:World,(fencedOpening treeTable p w N).map (fun s₀=>(topFrom treeTable p (w.withFollow row b) N s₀).map fun s=>(openSeen q loose (importedModules p.main.body) Xt true s,Yf s))=some (some (openGood q loose,Ya (w.withFollow row b)))
theorem left_two {p q:Program}{loose:List PySem.Str}{Xt:Shared->Bool} {α:Type} {Yf:Shared->α}{Ya:World->α}{N:Nat} (row:String) (h0:RunTo p q loose Xt Yf Ya N row false) (h1:RunTo p q loose Xt Yf Ya N row true):LeftO p q loose Xt Yf Ya N:=fun w=>by
 obtain⟨s₀,a,b1⟩:=Option.map_eq_some_iff.mp (h0 w)
 obtain⟨s₁,a',b2⟩:=Option.map_eq_some_iff.mp (h1 w)
 rw[a]at a'
 cases a'
 have e:=World.withFollow_self w row
 unfold openEnds
 rw[a]
 cases hb:w.params.followText row <;> rw[hb]at e
 ·rw[e]at b1;exact b1
 ·rw[e]at b2;exact b2
end Hq
end
section
set_option maxHeartbeats 0
namespace K11
open PySem Hq
def zT (i:Nat):Stmt:=PySem.Challenge.pw_keptnest_k11_read_question.main.body.getD i (.Pass ⟨0,0,0,0⟩)
def zM (i j:Nat):Stmt:=(cB (zT i)).getD j (.Pass ⟨0,0,0,0⟩)
def zK (P:Params):PySem.W.Frag:=(nat_lit 3,{ cls:=PySem.Value.type "dict",data:=PySem.Data.dict #[eN P "__name__" 165 (vS "law_keptnest_k11_read_question" 473),eN P "__doc__" 166 (vN),eN P "__package__" 167 (vN),eN P "__loader__" 168 (PySem.Value.builtin "__main__.__loader__#opaque"),eN P "__spec__" 169 (vN),eN P "__annotations__" 170 (vR 6),eN P "__builtins__" 171 (vR 4),eN P "__file__" 173 (vS "/claim/cut.py" 172),eN P "__cached__" 174 (vN),eN P "NestError" 206 (vR 24),eN P "NoQuestion" 222 (vR 37),eN P "LETTERS" 226 (vS "abcdefghijklmnopqrstuvwxyz" 225),eN P "FIGURES" 228 (vS "0123456789" 227),eN P "LONGEST_NAME" 230 (vI 8 229),eN P "TAKEN_WORDS" 252 (vR 40),eN P "only_of" 258 (vR 45),eN P "is_name" 265 (vR 52),eN P "number_of" 273 (vR 59),eN P "DEEPEST_QUESTION" 277 (vI 20 276),eN P "DEEPEST_KIND" 279 (vI 12 278),eN P "QUESTIONS" 335 (vR 60),eN P "CLAIMS" 355 (vR 76),eN P "Words" 424 (vR 133),eN P "read_question" 433 (vR 144),eN P "read_knot" 439 (vR 149),eN P "read_part" 450 (vR 156),eN P "read_kind" 461 (vR 163),eN P "read_fields" 472 (vR 170),eN P "_law_hand" 481 (vR 177),eN P "_law_draw" 493 (vR 184),eN P "_law_name" 504 (vR 191),eN P "_law_number" 511 (vR 198),eN P "_law_fields" 517 (vR 203),eN P "_law_many_fields" 523 (vR 208),eN P "_law_kind" 529 (vR 213),eN P "_law_any_claim" 538 (vR 220),eN P "_law_any_leaf" 546 (vR 227),eN P "_law_any" 552 (vR 232),eN P "_law_drawn" 559 (vR 239),eN P "_law_kind_words" 569 (vR 246),eN P "_law_words" 581 (vR 253),eN P "_law_same" 587 (vR 258),eN P "law" 599 (vR 265)] 43 }) ::
 (nat_lit 4,{ cls:=PySem.Value.type "module",data:=PySem.Data.plain,dict:=some 0 }) ::
 (nat_lit 23,{ cls:=PySem.Value.type "dict",data:=PySem.Data.dict #[eN P "__module__" 196 (vS "keptnest.errors" 187),eN P "__firstlineno__" 200 (vI 2 199),eN P "__static_attributes__" 201 (vR 22),eN P "__weakref__" 203 (vR 25),eN P "__doc__" 204 (vN)] 3 }) ::
 (nat_lit 24,{ cls:=PySem.Value.type "type",data:=PySem.Data.cls { name:=sO "NestError",bases:=[PySem.Value.type "ValueError"],mro:=[vR 24,PySem.Value.type "ValueError",PySem.Value.type "Exception",PySem.Value.type "BaseException",PySem.Value.type "object"],ns:=23,qualname:=sO "NestError",subclasses:=[vR 37] },slots:=#[Option.some (vR 15),Option.none,Option.some (vS "NestError" 189),Option.some (vS "NestError" 197),Option.some (PySem.Value.builtin "ValueError.__new__"),Option.some (PySem.Value.bool Bool.true)] }) ::
 (nat_lit 36,{ cls:=PySem.Value.type "dict",data:=PySem.Data.dict #[eN P "__module__" 214 (vS "keptnest.errors" 187),eN P "__firstlineno__" 218 (vI 4 217),eN P "__static_attributes__" 219 (vR 35),eN P "__doc__" 220 (vN)] 2 }) ::
 (nat_lit 37,{ cls:=PySem.Value.type "type",data:=PySem.Data.cls { name:=sO "NoQuestion",bases:=[vR 24],mro:=[vR 37,vR 24,PySem.Value.type "ValueError",PySem.Value.type "Exception",PySem.Value.type "BaseException",PySem.Value.type "object"],ns:=36,qualname:=sO "NoQuestion" },slots:=#[Option.some (vR 28),Option.none,Option.some (vS "NoQuestion" 207),Option.some (vS "NoQuestion" 215),Option.some (PySem.Value.builtin "ValueError.__new__"),Option.some (PySem.Value.bool Bool.true)] }) ::
 (nat_lit 40,{ cls:=PySem.Value.type "tuple",data:=PySem.Data.seq #[vS "num" 231,vS "word" 232,vS "row" 233,vS "bag" 234,vS "var" 235,vS "table" 236,vS "at" 237,vS "add" 238,vS "mul" 239,vS "none" 240,vS "one" 241,vS "both" 242,vS "times" 243,vS "for" 244,vS "when" 245,vS "let" 246,vS "same" 247,vS "under" 248,vS "and" 249,vS "or" 250,vS "not" 251] }) ::
 (nat_lit 44,{ cls:=PySem.Value.type "code",data:=PySem.Data.fields #[vS "only_of" 253,vS "only_of" 254,vS "/claim/cut.py" 255,vI 11 0,vI 2 0,vI 0 0,vI 0 0,vI 3 0,vR 41,PySem.Value.bool Bool.true,vI 181 0,vR 42,vN,vN,vN,vR 43,vI 256 0,vI 11 0,vS "/claim/cut.py" 257] }) ::
 (nat_lit 45,fO "only_of" "only_of" (zT 8) (vS "keptnest.data.signs" 223) (vR 44)) ::
 (nat_lit 51,{ cls:=PySem.Value.type "code",data:=PySem.Data.fields #[vS "is_name" 259,vS "is_name" 260,vS "/claim/cut.py" 261,vI 13 0,vI 1 0,vI 0 0,vI 0 0,vI 3 0,vR 46,PySem.Value.bool Bool.true,vI 181 0,vR 47,vN,vR 48,vR 49,vR 50,vI 263 0,vI 13 0,vS "/claim/cut.py" 264] }) ::
 (nat_lit 52,fO "is_name" "is_name" (zT 9) (vS "keptnest.data.signs" 223) (vR 51)) ::
 (nat_lit 58,{ cls:=PySem.Value.type "code",data:=PySem.Data.fields #[vS "number_of" 266,vS "number_of" 267,vS "/claim/cut.py" 268,vI 15 0,vI 1 0,vI 0 0,vI 0 0,vI 3 0,vR 53,PySem.Value.bool Bool.true,vI 181 0,vR 54,vN,vR 55,vR 56,vR 57,vI 271 0,vI 15 0,vS "/claim/cut.py" 272] }) ::
 (nat_lit 59,fO "number_of" "number_of" (zT 10) (vS "keptnest.data.signs" 223) (vR 58)) ::
 (nat_lit 60,{ cls:=PySem.Value.type "dict",data:=PySem.Data.dict #[eN P "num" 280 (vR 61),eN P "word" 282 (vR 62),eN P "var" 284 (vR 63),eN P "table" 286 (vR 64),eN P "row" 288 (vR 65),eN P "at" 290 (vR 66),eN P "add" 293 (vR 67),eN P "mul" 296 (vR 68),eN P "none" 299 (vR 69),eN P "one" 301 (vR 70),eN P "both" 303 (vR 71),eN P "times" 306 (vR 72),eN P "for" 309 (vR 73),eN P "when" 313 (vR 74),eN P "let" 316 (vR 75)] 15 }) ::
 (nat_lit 61,{ cls:=PySem.Value.type "tuple",data:=PySem.Data.seq #[vS "number" 281] }) ::
 (nat_lit 62,{ cls:=PySem.Value.type "tuple",data:=PySem.Data.seq #[vS "name" 283] }) ::
 (nat_lit 63,{ cls:=PySem.Value.type "tuple",data:=PySem.Data.seq #[vS "name" 285] }) ::
 (nat_lit 64,{ cls:=PySem.Value.type "tuple",data:=PySem.Data.seq #[vS "name" 287] }) ::
 (nat_lit 65,{ cls:=PySem.Value.type "tuple",data:=PySem.Data.seq #[vS "fields" 289] }) ::
 (nat_lit 66,{ cls:=PySem.Value.type "tuple",data:=PySem.Data.seq #[vS "name" 291,vS "question" 292] }) ::
 (nat_lit 67,{ cls:=PySem.Value.type "tuple",data:=PySem.Data.seq #[vS "question" 294,vS "question" 295] }) ::
 (nat_lit 68,{ cls:=PySem.Value.type "tuple",data:=PySem.Data.seq #[vS "question" 297,vS "question" 298] }) ::
 (nat_lit 69,{ cls:=PySem.Value.type "tuple",data:=PySem.Data.seq #[vS "kind" 300] }) ::
 (nat_lit 70,{ cls:=PySem.Value.type "tuple",data:=PySem.Data.seq #[vS "question" 302] }) ::
 (nat_lit 71,{ cls:=PySem.Value.type "tuple",data:=PySem.Data.seq #[vS "question" 304,vS "question" 305] }) ::
 (nat_lit 72,{ cls:=PySem.Value.type "tuple",data:=PySem.Data.seq #[vS "number" 307,vS "question" 308] }) ::
 (nat_lit 73,{ cls:=PySem.Value.type "tuple",data:=PySem.Data.seq #[vS "name" 310,vS "question" 311,vS "question" 312] }) ::
 (nat_lit 74,{ cls:=PySem.Value.type "tuple",data:=PySem.Data.seq #[vS "claim" 314,vS "question" 315] }) ::
 (nat_lit 75,{ cls:=PySem.Value.type "tuple",data:=PySem.Data.seq #[vS "name" 317,vS "question" 318,vS "question" 319] }) ::
 (nat_lit 76,{ cls:=PySem.Value.type "dict",data:=PySem.Data.dict #[eN P "same" 336 (vR 77),eN P "under" 339 (vR 78),eN P "and" 342 (vR 79),eN P "or" 345 (vR 80),eN P "not" 348 (vR 81)] 5 }) ::
 (nat_lit 77,{ cls:=PySem.Value.type "tuple",data:=PySem.Data.seq #[vS "question" 337,vS "question" 338] }) ::
 (nat_lit 78,{ cls:=PySem.Value.type "tuple",data:=PySem.Data.seq #[vS "question" 340,vS "question" 341] }) ::
 (nat_lit 79,{ cls:=PySem.Value.type "tuple",data:=PySem.Data.seq #[vS "claim" 343,vS "claim" 344] }) ::
 (nat_lit 80,{ cls:=PySem.Value.type "tuple",data:=PySem.Data.seq #[vS "claim" 346,vS "claim" 347] }) ::
 (nat_lit 81,{ cls:=PySem.Value.type "tuple",data:=PySem.Data.seq #[vS "claim" 349] }) ::
 (nat_lit 94,{ cls:=PySem.Value.type "code",data:=PySem.Data.fields #[vS "__init__" 368,vS "Words.__init__" 369,vS "/claim/cut.py" 370,vI 29 0,vI 2 0,vI 0 0,vI 0 0,vI 3 0,vR 89,PySem.Value.bool Bool.true,vI 181 0,vR 90,vN,vR 91,vR 92,vR 93,vI 373 0,vI 29 0,vS "/claim/cut.py" 374] }) ::
 (nat_lit 95,fO "__init__" "Words.__init__" (zM 16 0) (vS "keptnest.asks.questions" 274) (vR 94)) ::
 (nat_lit 108,{ cls:=PySem.Value.type "code",data:=PySem.Data.fields #[vS "at_end" 385,vS "Words.at_end" 386,vS "/claim/cut.py" 387,vI 37 0,vI 1 0,vI 0 0,vI 0 0,vI 3 0,vR 103,PySem.Value.bool Bool.true,vI 181 0,vR 104,vN,vR 105,vR 106,vR 107,vI 389 0,vI 37 0,vS "/claim/cut.py" 390] }) ::
 (nat_lit 109,fO "at_end" "Words.at_end" (zM 16 2) (vS "keptnest.asks.questions" 274) (vR 108)) ::
 (nat_lit 115,{ cls:=PySem.Value.type "code",data:=PySem.Data.fields #[vS "word" 392,vS "Words.word" 393,vS "/claim/cut.py" 394,vI 40 0,vI 1 0,vI 0 0,vI 0 0,vI 3 0,vR 110,PySem.Value.bool Bool.true,vI 181 0,vR 111,vN,vR 112,vR 113,vR 114,vI 396 0,vI 40 0,vS "/claim/cut.py" 397] }) ::
 (nat_lit 116,fO "word" "Words.word" (zM 16 3) (vS "keptnest.asks.questions" 274) (vR 115)) ::
 (nat_lit 122,{ cls:=PySem.Value.type "code",data:=PySem.Data.fields #[vS "name" 399,vS "Words.name" 400,vS "/claim/cut.py" 401,vI 46 0,vI 1 0,vI 0 0,vI 0 0,vI 3 0,vR 117,PySem.Value.bool Bool.true,vI 181 0,vR 118,vN,vR 119,vR 120,vR 121,vI 404 0,vI 46 0,vS "/claim/cut.py" 405] }) ::
 (nat_lit 123,fO "name" "Words.name" (zM 16 4) (vS "keptnest.asks.questions" 274) (vR 122)) ::
 (nat_lit 129,{ cls:=PySem.Value.type "code",data:=PySem.Data.fields #[vS "number" 407,vS "Words.number" 408,vS "/claim/cut.py" 409,vI 52 0,vI 1 0,vI 0 0,vI 0 0,vI 3 0,vR 124,PySem.Value.bool Bool.true,vI 181 0,vR 125,vN,vR 126,vR 127,vR 128,vI 412 0,vI 52 0,vS "/claim/cut.py" 413] }) ::
 (nat_lit 130,fO "number" "Words.number" (zM 16 5) (vS "keptnest.asks.questions" 274) (vR 129)) ::
 (nat_lit 132,{ cls:=PySem.Value.type "dict",data:=PySem.Data.dict #[eN P "__module__" 363 (vS "keptnest.asks.questions" 274),eN P "__firstlineno__" 367 (vI 27 366),eN P "__init__" 375 (vR 95),eN P "refuse" 384 (vR 102),eN P "at_end" 391 (vR 109),eN P "word" 398 (vR 116),eN P "name" 406 (vR 123),eN P "number" 414 (vR 130),eN P "__static_attributes__" 417 (vR 131),eN P "__dict__" 419 (vR 134),eN P "__weakref__" 421 (vR 135),eN P "__doc__" 422 (vN)] 4 }) ::
 (nat_lit 133,{ cls:=PySem.Value.type "type",data:=PySem.Data.cls { name:=sO "Words",bases:=[PySem.Value.type "object"],mro:=[vR 133,PySem.Value.type "object"],ns:=132,qualname:=sO "Words" },slots:=#[Option.none,Option.none,Option.some (vS "Words" 356),Option.some (vS "Words" 364),Option.some (PySem.Value.builtin "object.__new__"),Option.some (PySem.Value.bool Bool.true)] }) ::
 (nat_lit 143,{ cls:=PySem.Value.type "code",data:=PySem.Data.fields #[vS "read_question" 425,vS "read_question" 426,vS "/claim/cut.py" 427,vI 57 0,vI 1 0,vI 0 0,vI 0 0,vI 3 0,vR 138,PySem.Value.bool Bool.true,vI 181 0,vR 139,vN,vR 140,vR 141,vR 142,vI 431 0,vI 57 0,vS "/claim/cut.py" 432] }) ::
 (nat_lit 144,fO "read_question" "read_question" (zT 17) (vS "keptnest.asks.questions" 274) (vR 143)) ::
 (nat_lit 148,{ cls:=PySem.Value.type "code",data:=PySem.Data.fields #[vS "read_knot" 434,vS "read_knot" 435,vS "/claim/cut.py" 436,vI 63 0,vI 3 0,vI 0 0,vI 0 0,vI 3 0,vR 145,PySem.Value.bool Bool.true,vI 181 0,vR 146,vN,vN,vN,vR 147,vI 437 0,vI 63 0,vS "/claim/cut.py" 438] }) ::
 (nat_lit 149,fO "read_knot" "read_knot" (zT 18) (vS "keptnest.asks.questions" 274) (vR 148)) ::
 (nat_lit 155,{ cls:=PySem.Value.type "code",data:=PySem.Data.fields #[vS "read_part" 440,vS "read_part" 441,vS "/claim/cut.py" 442,vI 71 0,vI 3 0,vI 0 0,vI 0 0,vI 3 0,vR 150,PySem.Value.bool Bool.true,vI 181 0,vR 151,vN,vR 152,vR 153,vR 154,vI 448 0,vI 71 0,vS "/claim/cut.py" 449] }) ::
 (nat_lit 156,fO "read_part" "read_part" (zT 19) (vS "keptnest.asks.questions" 274) (vR 155)) ::
 (nat_lit 162,{ cls:=PySem.Value.type "code",data:=PySem.Data.fields #[vS "read_kind" 451,vS "read_kind" 452,vS "/claim/cut.py" 453,vI 81 0,vI 2 0,vI 0 0,vI 0 0,vI 3 0,vR 157,PySem.Value.bool Bool.true,vI 181 0,vR 158,vN,vR 159,vR 160,vR 161,vI 459 0,vI 81 0,vS "/claim/cut.py" 460] }) ::
 (nat_lit 163,fO "read_kind" "read_kind" (zT 20) (vS "keptnest.asks.questions" 274) (vR 162)) ::
 (nat_lit 169,{ cls:=PySem.Value.type "code",data:=PySem.Data.fields #[vS "read_fields" 462,vS "read_fields" 463,vS "/claim/cut.py" 464,vI 92 0,vI 2 0,vI 0 0,vI 0 0,vI 3 0,vR 164,PySem.Value.bool Bool.true,vI 181 0,vR 165,vN,vR 166,vR 167,vR 168,vI 470 0,vI 92 0,vS "/claim/cut.py" 471] }) ::
 (nat_lit 170,fO "read_fields" "read_fields" (zT 21) (vS "keptnest.asks.questions" 274) (vR 169)) ::
 (nat_lit 176,{ cls:=PySem.Value.type "code",data:=PySem.Data.fields #[vS "_law_hand" 475,vS "_law_hand" 476,vS "/claim/cut.py" 477,vI 104 0,vI 1 0,vI 0 0,vI 0 0,vI 3 0,vR 171,PySem.Value.bool Bool.true,vI 181 0,vR 172,vN,vR 173,vR 174,vR 175,vI 479 0,vI 104 0,vS "/claim/cut.py" 480] }) ::
 (nat_lit 177,fO "_law_hand" "_law_hand" (zT 23) (vS "law_keptnest_k11_read_question" 473) (vR 176)) ::
 (nat_lit 183,{ cls:=PySem.Value.type "code",data:=PySem.Data.fields #[vS "_law_draw" 482,vS "_law_draw" 483,vS "/claim/cut.py" 484,vI 106 0,vI 2 0,vI 0 0,vI 0 0,vI 3 0,vR 178,PySem.Value.bool Bool.true,vI 181 0,vR 179,vN,vR 180,vR 181,vR 182,vI 491 0,vI 106 0,vS "/claim/cut.py" 492] }) ::
 (nat_lit 184,fO "_law_draw" "_law_draw" (zT 24) (vS "law_keptnest_k11_read_question" 473) (vR 183)) ::
 (nat_lit 190,{ cls:=PySem.Value.type "code",data:=PySem.Data.fields #[vS "_law_name" 494,vS "_law_name" 495,vS "/claim/cut.py" 496,vI 121 0,vI 1 0,vI 0 0,vI 0 0,vI 3 0,vR 185,PySem.Value.bool Bool.true,vI 181 0,vR 186,vN,vR 187,vR 188,vR 189,vI 502 0,vI 121 0,vS "/claim/cut.py" 503] }) ::
 (nat_lit 191,fO "_law_name" "_law_name" (zT 25) (vS "law_keptnest_k11_read_question" 473) (vR 190)) ::
 (nat_lit 197,{ cls:=PySem.Value.type "code",data:=PySem.Data.fields #[vS "_law_number" 505,vS "_law_number" 506,vS "/claim/cut.py" 507,vI 130 0,vI 1 0,vI 0 0,vI 0 0,vI 3 0,vR 192,PySem.Value.bool Bool.true,vI 181 0,vR 193,vN,vR 194,vR 195,vR 196,vI 509 0,vI 130 0,vS "/claim/cut.py" 510] }) ::
 (nat_lit 198,fO "_law_number" "_law_number" (zT 26) (vS "law_keptnest_k11_read_question" 473) (vR 197)) ::
 (nat_lit 202,{ cls:=PySem.Value.type "code",data:=PySem.Data.fields #[vS "_law_fields" 512,vS "_law_fields" 513,vS "/claim/cut.py" 514,vI 132 0,vI 1 0,vI 0 0,vI 0 0,vI 3 0,vR 199,PySem.Value.bool Bool.true,vI 181 0,vR 200,vN,vN,vN,vR 201,vI 515 0,vI 132 0,vS "/claim/cut.py" 516] }) ::
 (nat_lit 203,fO "_law_fields" "_law_fields" (zT 27) (vS "law_keptnest_k11_read_question" 473) (vR 202)) ::
 (nat_lit 207,{ cls:=PySem.Value.type "code",data:=PySem.Data.fields #[vS "_law_many_fields" 518,vS "_law_many_fields" 519,vS "/claim/cut.py" 520,vI 135 0,vI 1 0,vI 0 0,vI 0 0,vI 3 0,vR 204,PySem.Value.bool Bool.true,vI 181 0,vR 205,vN,vN,vN,vR 206,vI 521 0,vI 135 0,vS "/claim/cut.py" 522] }) ::
 (nat_lit 208,fO "_law_many_fields" "_law_many_fields" (zT 28) (vS "law_keptnest_k11_read_question" 473) (vR 207)) ::
 (nat_lit 212,{ cls:=PySem.Value.type "code",data:=PySem.Data.fields #[vS "_law_kind" 524,vS "_law_kind" 525,vS "/claim/cut.py" 526,vI 137 0,vI 2 0,vI 0 0,vI 0 0,vI 3 0,vR 209,PySem.Value.bool Bool.true,vI 181 0,vR 210,vN,vN,vN,vR 211,vI 527 0,vI 137 0,vS "/claim/cut.py" 528] }) ::
 (nat_lit 213,fO "_law_kind" "_law_kind" (zT 29) (vS "law_keptnest_k11_read_question" 473) (vR 212)) ::
 (nat_lit 219,{ cls:=PySem.Value.type "code",data:=PySem.Data.fields #[vS "_law_any_claim" 530,vS "_law_any_claim" 531,vS "/claim/cut.py" 532,vI 146 0,vI 2 0,vI 0 0,vI 0 0,vI 3 0,vR 214,PySem.Value.bool Bool.true,vI 181 0,vR 215,vN,vR 216,vR 217,vR 218,vI 536 0,vI 146 0,vS "/claim/cut.py" 537] }) ::
 (nat_lit 220,fO "_law_any_claim" "_law_any_claim" (zT 30) (vS "law_keptnest_k11_read_question" 473) (vR 219)) ::
 (nat_lit 226,{ cls:=PySem.Value.type "code",data:=PySem.Data.fields #[vS "_law_any_leaf" 539,vS "_law_any_leaf" 540,vS "/claim/cut.py" 541,vI 156 0,vI 2 0,vI 0 0,vI 0 0,vI 3 0,vR 221,PySem.Value.bool Bool.true,vI 181 0,vR 222,vN,vR 223,vR 224,vR 225,vI 544 0,vI 156 0,vS "/claim/cut.py" 545] }) ::
 (nat_lit 227,fO "_law_any_leaf" "_law_any_leaf" (zT 31) (vS "law_keptnest_k11_read_question" 473) (vR 226)) ::
 (nat_lit 231,{ cls:=PySem.Value.type "code",data:=PySem.Data.fields #[vS "_law_any" 547,vS "_law_any" 548,vS "/claim/cut.py" 549,vI 164 0,vI 2 0,vI 0 0,vI 0 0,vI 3 0,vR 228,PySem.Value.bool Bool.true,vI 181 0,vR 229,vN,vN,vN,vR 230,vI 550 0,vI 164 0,vS "/claim/cut.py" 551] }) ::
 (nat_lit 232,fO "_law_any" "_law_any" (zT 32) (vS "law_keptnest_k11_read_question" 473) (vR 231)) ::
 (nat_lit 238,{ cls:=PySem.Value.type "code",data:=PySem.Data.fields #[vS "_law_drawn" 553,vS "_law_drawn" 554,vS "/claim/cut.py" 555,vI 188 0,vI 1 0,vI 0 0,vI 0 0,vI 3 0,vR 233,PySem.Value.bool Bool.true,vI 181 0,vR 234,vN,vR 235,vR 236,vR 237,vI 557 0,vI 188 0,vS "/claim/cut.py" 558] }) ::
 (nat_lit 239,fO "_law_drawn" "_law_drawn" (zT 33) (vS "law_keptnest_k11_read_question" 473) (vR 238)) ::
 (nat_lit 245,{ cls:=PySem.Value.type "code",data:=PySem.Data.fields #[vS "_law_kind_words" 560,vS "_law_kind_words" 561,vS "/claim/cut.py" 562,vI 191 0,vI 1 0,vI 0 0,vI 0 0,vI 3 0,vR 240,PySem.Value.bool Bool.true,vI 181 0,vR 241,vN,vR 242,vR 243,vR 244,vI 567 0,vI 191 0,vS "/claim/cut.py" 568] }) ::
 (nat_lit 246,fO "_law_kind_words" "_law_kind_words" (zT 34) (vS "law_keptnest_k11_read_question" 473) (vR 245)) ::
 (nat_lit 252,{ cls:=PySem.Value.type "code",data:=PySem.Data.fields #[vS "_law_words" 570,vS "_law_words" 571,vS "/claim/cut.py" 572,vI 200 0,vI 1 0,vI 0 0,vI 0 0,vI 3 0,vR 247,PySem.Value.bool Bool.true,vI 181 0,vR 248,vN,vR 249,vR 250,vR 251,vI 579 0,vI 200 0,vS "/claim/cut.py" 580] }) ::
 (nat_lit 253,fO "_law_words" "_law_words" (zT 35) (vS "law_keptnest_k11_read_question" 473) (vR 252)) ::
 (nat_lit 257,{ cls:=PySem.Value.type "code",data:=PySem.Data.fields #[vS "_law_same" 582,vS "_law_same" 583,vS "/claim/cut.py" 584,vI 218 0,vI 2 0,vI 0 0,vI 0 0,vI 3 0,vR 254,PySem.Value.bool Bool.true,vI 181 0,vR 255,vN,vN,vN,vR 256,vI 585 0,vI 218 0,vS "/claim/cut.py" 586] }) ::
 (nat_lit 258,fO "_law_same" "_law_same" (zT 36) (vS "law_keptnest_k11_read_question" 473) (vR 257)) ::
 (nat_lit 264,{ cls:=PySem.Value.type "code",data:=PySem.Data.fields #[vS "law" 588,vS "law" 589,vS "/claim/cut.py" 590,vI 226 0,vI 1 0,vI 0 0,vI 0 0,vI 3 0,vR 259,PySem.Value.bool Bool.true,vI 181 0,vR 260,vN,vR 261,vR 262,vR 263,vI 597 0,vI 226 0,vS "/claim/cut.py" 598] }) ::
 (nat_lit 265,fO "law" "law" (zT 37) (vS "law_keptnest_k11_read_question" 473) (vR 264))::[]
def zA:List Addr:=[3,4,23,24,36,37,40,44,45,51,52,58,59,60,61,62,63,64,65,66,67,68,69,70,71,72,73,74,75,76,77,78,79,80,81,94,95,108,109,115,116,122,123,129,130,132,133,143,144,148,149,155,156,162,163,169,170,176,177,183,184,190,191,197,198,202,203,207,208,212,213,219,220,226,227,231,232,238,239,245,246,252,253,257,258,264,265]
def zV:Program:={ PySem.Challenge.pw_keptnest_k11_read_question with main:={ PySem.Challenge.pw_keptnest_k11_read_question.main with body:=[1,2,4,5,6,7,8,9,10,12,13,14,15,16,17,18,19,20,21,23,24,25,26,27,28,29,30,31,32,33,34,35,36,37].filterMap fun i=>PySem.Challenge.pw_keptnest_k11_read_question.main.body[i]? } }
theorem zE:∀ P,zA=(zK P).map (·.1):=fun _=>rfl
def zTs:List Addr:=[151,158]
def zL:List PySem.Str:=["QUESTIONS","CLAIMS"]
end K11
end
section
set_option maxHeartbeats 0
namespace K11
open PySem Hq
theorem zR_false:RunTo PySem.Challenge.pw_keptnest_k11_read_question zV zL (fun s=>PySem.W.xlAt zV [] s && PySem.W.recOk (PySem.W.RowW.records (PySem.W.OpenRow.toRowW PySem.Challenge.rw_keptnest_k11_read_question.row)) s) (PySem.W.Hook.obs (PySem.W.kmHook zK zA zE zTs)) (PySem.W.Hook.val (PySem.W.kmHook zK zA zE zTs)) 4032 "special-get-raises" false:=by
 intro w
 kernel_rfl
theorem zR_true:RunTo PySem.Challenge.pw_keptnest_k11_read_question zV zL (fun s=>PySem.W.xlAt zV [] s && PySem.W.recOk (PySem.W.RowW.records (PySem.W.OpenRow.toRowW PySem.Challenge.rw_keptnest_k11_read_question.row)) s) (PySem.W.Hook.obs (PySem.W.kmHook zK zA zE zTs)) (PySem.W.Hook.val (PySem.W.kmHook zK zA zE zTs)) 4032 "special-get-raises" true:=by
 intro w
 kernel_rfl
theorem zS:PySem.Challenge.rw_keptnest_k11_read_question.wellSaid=true:=by kernel_rfl
end K11
end
section
-- CHANGE: your row's module here,as the last of these rows
namespace L2
open PySem PySem.Spec PyProof.Rows
abbrev Key:=Sum Int Str
def keyIs:Key->Value->Bool
 | .inl k,v=>Value.isInt k v
 | .inr x,v=>Value.isStrOf x v
def keyH (w:World):Key->Int
 | .inl k=>hashInt k
 | .inr x=>hashStr w x
theorem keyIs_shape:∀ {k:Key}{v:Value},keyIs k v=true->(∃ i t,k=Sum.inl i/\v=Value.int i t)\/(∃ x t,k=Sum.inr x/\v=Value.str x t)
 | .inl i,v,h=>by
  obtain⟨t,e⟩:=Value.isInt_shape (k:=i) (v:=v) h
  exact .inl ⟨i,t,rfl,e⟩
 | .inr x,v,h=>by
  obtain⟨t,e⟩:=Value.isStrOf_shape (x:=x) (v:=v) h
  exact .inr ⟨x,t,rfl,e⟩
theorem keyIs_int (i:Int) (t:Tok):keyIs (.inl i) (.int i t)=true:=by simp [keyIs,Value.isInt]
theorem keyIs_str (x:Str) (t:Tok):keyIs (.inr x) (.str x t)=true:=by simp [keyIs,Value.isStrOf]
theorem key_ll (a b:Int):decide ((Sum.inl a:Key)=Sum.inl b)=(a == b):=by
 by_cases e:a=b
 ·subst e;simp
 ·have h:¬(Sum.inl a:Key)=Sum.inl b:=fun q=>e (Sum.inl.inj q)
  rw[decide_eq_false h]
  exact (beq_eq_false_iff_ne.mpr e).symm
theorem key_rr (a b:Str):decide ((Sum.inr a:Key)=Sum.inr b)=decide (a=b):=by
 by_cases e:a=b
 ·subst e;simp
 ·have h:¬(Sum.inr a:Key)=Sum.inr b:=fun q=>e (Sum.inr.inj q)
  rw[decide_eq_false h,decide_eq_false e]
theorem key_lr (a:Int) (b:Str):decide ((Sum.inl a:Key)=Sum.inr b)=false:=decide_eq_false (fun q=>nomatch q)
theorem key_rl (a:Str) (b:Int):decide ((Sum.inr a:Key)=Sum.inl b)=false:=decide_eq_false (fun q=>nomatch q)
def mixKind (prog:Program) (w:World):PySem.KeyKind prog w Key where
 is:=keyIs
 hash:=keyH w
 inj:=fun v a b ha hb=>by
  rcases keyIs_shape ha with ⟨i,t,rfl,rfl⟩ | ⟨x,t,rfl,rfl⟩
  ·rcases keyIs_shape hb with ⟨j,u,rfl,e⟩ | ⟨y,u,rfl,e⟩
   ·injection e with e1 _;rw[e1]
   ·exact nomatch e
  ·rcases keyIs_shape hb with ⟨j,u,rfl,e⟩ | ⟨y,u,rfl,e⟩
   ·exact nomatch e
   ·injection e with e1 _;rw[e1]
 byValue:=fun k v h=>by
  rcases keyIs_shape h with ⟨i,t,rfl,rfl⟩ | ⟨x,t,rfl,rfl⟩ <;> rfl
 pyHash:=fun hv h=>by
  rcases keyIs_shape hv with ⟨i,t,rfl,rfl⟩ | ⟨x,t,rfl,rfl⟩
  ·exact wpAny_pyHash_int h
  ·exact wpAny_pyHash_str h
 eqBool:=fun hu hv h=>by
  rcases keyIs_shape hu with ⟨i,t,rfl,rfl⟩ | ⟨x,t,rfl,rfl⟩
  ·rcases keyIs_shape hv with ⟨j,u,rfl,rfl⟩ | ⟨y,u,rfl,rfl⟩
   ·rw[key_ll]at h;exact wpAny_eqBool_int h
   ·rw[key_lr]at h;exact SeqAt.EqAt.int_str i t y u _ _ _ _ h
  ·rcases keyIs_shape hv with ⟨j,u,rfl,rfl⟩ | ⟨y,u,rfl,rfl⟩
   ·rw[key_rl]at h;exact SeqAt.EqAt.str_int x t j u _ _ _ _ h
   ·rw[key_rr]at h;exact wpAny_eqBool_str h
 «strs»:=fun k x t v h=>by
  rcases keyIs_shape h with ⟨i,u,rfl,e⟩ | ⟨y,u,rfl,e⟩
  ·exact nomatch e
  ·injection e with e1 _
   subst e1
   cases v <;> rfl
theorem mixKind_int (prog:Program) (w:World) (i:Int) (t:Tok):(mixKind prog w).is (.inl i) (.int i t)=true:=keyIs_int i t
theorem mixKind_str (prog:Program) (w:World) (x:Str) (t:Tok):(mixKind prog w).is (.inr x) (.str x t)=true:=keyIs_str x t
end L2
namespace L2
open PySem PySem.Spec PyProof.Rows
inductive V where
 | non | bl (b:Bool) | int (i:Int) | str (x:Str) | byt (b:Array UInt8) | flt (b:UInt64) | ref (a:Addr) | ty (n:String)
 deriving DecidableEq
def RelV:V->Value->Prop
 | .non,u=>u=Value.none
 | .bl b,u=>u=Value.bool b
 | .int i,u=>∃ t,u=Value.int i t
 | .str x,u=>∃ t,u=Value.str x t
 | .byt b,u=>∃ t,u=Value.bytes b t
 | .flt b,u=>∃ t,u=Value.float b t
 | .ref a,u=>u=Value.ref a
 | .ty n,u=>u=Value.type n
abbrev Vals:List V->List Value->Prop:=Paired RelV
theorem Vals.length {xs:List V}{us:List Value} (r:Vals xs us):xs.length=us.length:=Paired.length r
theorem Vals.get:∀ {xs:List V}{us:List Value}{i:Nat}{x:V},Vals xs us->xs[i]?=some x->∃ u,us[i]?=some u/\RelV x u
 | _,_,_,_,.nil,e=>by simp at e
 | _,_,0,_,.cons r _,e=>by simp at e;subst e;exact⟨_,rfl,r⟩
 | _,_,i+1,x,.cons _ t,e=>by
  obtain⟨u,h1,h2⟩:=Vals.get (i:=i) (x:=x) t (by simpa using e)
  exact⟨u,by simpa using h1,h2⟩
theorem Vals.set {x:V}{u:Value} (r:RelV x u):∀ {xs:List V}{us:List Value} (i:Nat),Vals xs us->Vals (xs.set i x) (us.set i u)
 | _,_,_,.nil=>.nil
 | _,_,0,.cons _ t=>.cons r t
 | _,_,i+1,.cons q t=>.cons q (Vals.set r i t)
theorem Vals.append {xs ys:List V}{us ws:List Value} (h:Vals xs us) (s:Vals ys ws):Vals (xs++ys) (us++ws):=by
 induction h with
 | nil=>exact s
 | cons r t ih=>exact .cons r ih
theorem Vals.take:∀ {xs:List V}{us:List Value} (n:Nat),Vals xs us->Vals (xs.take n) (us.take n)
 | _,_,0,_=>.nil
 | _,_,_+1,.nil=>.nil
 | _,_,n+1,.cons r t=>.cons r (Vals.take n t)
theorem Vals.drop:∀ {xs:List V}{us:List Value} (n:Nat),Vals xs us->Vals (xs.drop n) (us.drop n)
 | _,_,0,r=>r
 | _,_,_+1,.nil=>.nil
 | _,_,n+1,.cons _ t=>Vals.drop n t
def RelO:Option V->Option Value->Prop
 | some v,some u=>RelV v u
 | none,none=>True
 | _,_=>False
def KV {κ:Type}:List (κ×V)->List (κ×Value)->Prop:=Paired fun (p:κ×V) (q:κ×Value)=>p.1=q.1/\RelV p.2 q.2
def kV:Key->V
 | .inl i=>.int i
 | .inr x=>.str x
inductive HO where
  | lst (xs:List V)
  | tup (xs:List V)
  | dK (kvs:List (Key×V)) | dT (kvs:List (List Key×V))
  | set (S:Int->Bool) (n:Nat)
  | ins (C dx:Addr) (fs:List (Str×V))
  | own (x:Addr)
  | xd (fs:List (Str×V))
  | met (f x:Addr)
  | rng (lo hi:Int)
  | frz (o:Obj) (u:HO)
  | tbl (ps:Array Value)
  | ext (φ:Heap->Prop)
abbrev Hp:=Addr->Option HO
def upd (H:Hp) (a:Addr) (o:HO):Hp:=fun b=>if b=a then some o else H b
theorem upd_same {H:Hp}{a:Addr}{o:HO}:upd H a o a=some o:=by unfold upd;rw[if_pos rfl]
theorem upd_ne {H:Hp}{a b:Addr}{o:HO} (h:b≠a):upd H a o b=H b:=by unfold upd;rw[if_neg h]
theorem ne_of {H:Hp}{a b:Addr}{o u:HO} (h:H a=some o) (h':H b=some u) (d:o≠u):a≠b:=by
 intro e;subst e;rw[h]at h';exact d (Option.some.inj h')
theorem ne_of_none {H:Hp}{a b:Addr}{o:HO} (h:H a=some o) (h':H b=none):a≠b:=by
 intro e;subst e;rw[h]at h';cases h'
def TupD (h:Heap) (a:Addr) (n:Nat):Prop:=n<=sizeLine/\∀ o,h.get? a=some o->o.dict=none
theorem tupD_new {h:Heap}{its:Array Value}{k n:Nat} (z:n<=sizeLine):TupD (h.push { cls:=.type "tuple",data:=.seq its k }) h.objs.size n:=
 ⟨z,fun o q=>by rw[Heap.get?_push_size _ rfl]at q;cases q;rfl⟩
theorem tupD_at {h:Heap}{a:Addr}{o:Obj}{n:Nat} (z:n<=sizeLine) (e:h.get? a=some o) (d:o.dict=none):TupD h a n:=
 ⟨z,fun o' q=>by rw[e]at q;cases q;exact d⟩
section
variable (P:Program) (w:World)
def ObjOk (H:Hp) (h:Heap) (a:Addr):HO->Prop
 | .lst xs=>xs.length<=sizeLine/\∃ (its:List Value) (n:Nat),Vals xs its/\h.get? a=some { cls:=.type "list",data:=.seq its.toArray n }
 | .tup xs=>TupD h a xs.length/\∃ its:List Value,Vals xs its/\IsTup h a its.toArray
 | .dK kvs=>kvs.length<=sizeLine/\(a == sysModules)=false/\∃ vs,KV kvs vs/\h.DictOf (mixKind P w) a vs
 | .dT kvs=>kvs.length<=sizeLine/\(a == sysModules)=false/\∃ xs:List (List Key×Addr×Value),
   Paired (fun (p:List Key×V) (q:List Key×Addr×Value)=>p.1=q.1/\H q.2.1=some (.tup (p.1.map kV))/\RelV p.2 q.2.2) kvs xs /\
   ∃ o es ep,h.get? a=some o/\o.ExactDict/\o.data=.dict es ep/\es.toList=xs.map (entryOfKey (tupleKind (mixKind P w)))/\(xs.map (·.1)).Nodup
 | .set S n=>h.SetOf (intKind P w) a S n
 | .ins C dx fs=>H dx=some (.own a)/\fs.length<=1000/\dx≠a/\h.get? a=some (PySem.W.instObj C dx) /\
   ∃ mA,h.Ns1 dx mA/\(∀ f,RelO (fs.lookup f) (mA f))/\PySem.Within mA (fs.map (·.1))
 | .own _=>∃ o,h.get? a=some o
 | .xd fs=>∃ mA,h.Ns1 a mA/\∀ f,RelO (fs.lookup f) (mA f)
 | .rng lo hi=>∃ t u v,h.get? a=some { cls:=.type "range",data:=.fields #[.int lo t,.int hi u,.int 1 v] }
 | .frz o u=>h.get? a=some o/\ObjOk H h a u
 | .tbl ps=>h.get? a=some { cls:=.none,data:=.fields ps }
 | .met f x=>h.get? a=some (PySem.W.methodObj (.ref f) (.ref x))
 | .ext φ=>φ h/\(∃ o,h.get? a=some o)/\∀ h1 h2:Heap,φ h1->(∀ o,h1.get? a=some o->h2.get? a=some o)->φ h2
def HOk (H:Hp) (h:Heap):Prop:=∀ a o,H a=some o->ObjOk P w H h a o
end
section
variable {P:Program}{w:World}{H H':Hp}{h h':Heap}{a:Addr}{o:HO}
theorem ObjOk.lt (x:ObjOk P w H h a o):a<h.objs.size:=by
 cases o with
 | lst xs=>obtain⟨_,_,_,_,e⟩:=x;exact Heap.lt_size e
 | tup xs=>obtain⟨_,_,_,p⟩:=x;exact p.lt
 | dK kvs=>obtain⟨_,_,_,_,o,_,_,e,_⟩:=x;exact Heap.lt_size e
 | dT kvs=>obtain⟨_,_,_,_,o,_,_,e,_⟩:=x;exact Heap.lt_size e
 | set S n=>obtain⟨o,_,_,_,e,_⟩:=x;exact Heap.lt_size e
 | ins C dx fs=>obtain⟨_,_,_,e,_⟩:=x;exact Heap.lt_size e
 | own y=>obtain⟨_,e⟩:=x;exact Heap.lt_size e
 | xd fs=>obtain⟨_,⟨_,_,_,e,_⟩,_⟩:=x;exact Heap.lt_size e
 | rng lo hi=>obtain⟨_,_,_,e⟩:=x;exact Heap.lt_size e
 | frz ob u=>obtain⟨e,_⟩:=x;exact Heap.lt_size e
 | tbl ps=>exact Heap.lt_size (show h.get? a=some _ from x)
 | met f y=>exact Heap.lt_size (show h.get? a=some _ from x)
 | ext φ=>obtain⟨_,⟨_,e⟩,_⟩:=x;exact Heap.lt_size e
theorem Paired.mapP {α β:Type} {F G:α->β->Prop}:∀ {l₁:List α}{l₂:List β},Paired F l₁ l₂->(∀ a b,F a b->G a b)->Paired G l₁ l₂
 | _,_,.nil,_=>.nil
 | _,_,.cons r t,f=>.cons (f _ _ r) (Paired.mapP t f)
theorem ObjOk.stay (x:ObjOk P w H h a o) (k:∀ b u,(b=a\/H b=some (.own a))->h.get? b=some u->h'.get? b=some u)
  (ho:∀ b,H b=some (.own a)->H' b=some (.own a)) (ht:∀ b xs,H b=some (.tup xs)->H' b=some (.tup xs)):ObjOk P w H' h' a o:=by
 induction o with
 | lst xs=>obtain⟨z,its,n,r,e⟩:=x;exact⟨z,its,n,r,k _ _ (.inl rfl) e⟩
 | tup xs=>obtain⟨z,its,r,ob,e,c⟩:=x;exact⟨tupD_at z.1 (k _ _ (.inl rfl) e) (z.2 _ e),its,r,ob,k _ _ (.inl rfl) e,c⟩
 | dK kvs=>obtain⟨z,y,vs,r,ob,es,ep,e,c⟩:=x;exact⟨z,y,vs,r,ob,es,ep,k _ _ (.inl rfl) e,c⟩
 | dT kvs=>
  obtain⟨z,y,xs,r,ob,es,ep,e,c⟩:=x
  exact⟨z,y,xs,Paired.mapP r fun p q z=>⟨z.1,ht _ _ z.2.1,z.2.2⟩,ob,es,ep,k _ _ (.inl rfl) e,c⟩
 | set S n=>obtain⟨ob,es,ep,t,e,c⟩:=x;exact⟨ob,es,ep,t,k _ _ (.inl rfl) e,c⟩
 | ins C dx fs=>
  obtain⟨d,z,ne,e,mA,⟨od,es,ep,e2,c⟩,r⟩:=x
  exact⟨ho _ d,z,ne,k _ _ (.inl rfl) e,mA,⟨od,es,ep,k _ _ (.inr d) e2,c⟩,r⟩
 | own y=>obtain⟨ob,e⟩:=x;exact⟨ob,k _ _ (.inl rfl) e⟩
 | xd fs=>obtain⟨mA,⟨od,es,ep,e,c⟩,r⟩:=x;exact⟨mA,⟨od,es,ep,k _ _ (.inl rfl) e,c⟩,r⟩
 | rng lo hi=>obtain⟨t,u,v,e⟩:=x;exact⟨t,u,v,k _ _ (.inl rfl) e⟩
 | frz ob u ih=>obtain⟨e,q⟩:=x;exact⟨k _ _ (.inl rfl) e,ih q⟩
 | tbl ps=>
  have e:h.get? a=some { cls:=.none,data:=.fields ps }:=x
  show h'.get? a=some { cls:=.none,data:=.fields ps }
  exact k a _ (.inl rfl) e
 | met f y=>
  have e:h.get? a=some (PySem.W.methodObj (.ref f) (.ref y)):=x
  show h'.get? a=some (PySem.W.methodObj (.ref f) (.ref y))
  exact k a _ (.inl rfl) e
 | ext φ=>obtain⟨p,⟨o,e⟩,st⟩:=x;exact⟨st _ _ p fun o q=>k _ _ (.inl rfl) q,⟨o,k _ _ (.inl rfl) e⟩,st⟩
theorem HOk.lt (x:HOk P w H h) (e:H a=some o):a<h.objs.size:=(x a o e).lt
theorem HOk.fresh (x:HOk P w H h) (e:h.objs.size<=a):H a=none:=by
 cases q:H a with
 | none=>rfl
 | some u=>exact absurd (Nat.lt_of_lt_of_le (x.lt q) e) (Nat.lt_irrefl _)
theorem HOk.kept (x:HOk P w H h) (k:∀ b u,h.get? b=some u->h'.get? b=some u):HOk P w H h':=fun a o e=>
 (x a o e).stay (fun b u _ q=>k b u q) (fun _ q=>q) fun _ _ q=>q
theorem HOk.laid (x:HOk P w H h) (k:∀ b u,h.get? b=some u->h'.get? b=some u) (hp:h.objs.size<=a) (new:ObjOk P w (upd H a o) h' a o):HOk P w (upd H a o) h':=fun b u e=>by
 have hn:=x.fresh hp
 by_cases hb:b=a
 ·subst hb;rw[upd_same]at e;cases e;exact new
 ·rw[upd_ne hb]at e
  exact (x b u e).stay (fun c v _ q=>k c v q) (fun c q=>by rw[upd_ne (ne_of_none q hn)];exact q) fun c xs q=>by rw[upd_ne (ne_of_none q hn)];exact q
end
def Rd (H:Hp) (a:Addr) (u:HO):Prop:=H a=some u\/∃ o,H a=some (.frz o u)
theorem Rd.ok {P:Program}{w:World}{H:Hp}{h:Heap}{a:Addr}{u:HO} (r:Rd H a u) (x:HOk P w H h):ObjOk P w H h a u:=by
 rcases r with r | ⟨o,r⟩
 ·exact x a u r
 ·obtain⟨_,q⟩:=x a _ r
  exact q
def Mut:Option HO->Prop
 | some (.lst _)=>True
 | some (.dK _)=>True
 | some (.dT _)=>True
 | some (.set _ _)=>True
 | some (.ins _ _ _)=>True
 | some (.ext _)=>True
 | _=>False
section
variable {P:Program}{w:World}{H:Hp}{h h':Heap}{x e:Addr}{o':HO}
theorem HOk.write (ok:HOk P w H h) (mu:Mut (H x)) (he:e=x\/H e=some (.own x)) (k:∀ b u,b≠e->h.get? b=some u->h'.get? b=some u) (heo:∃ u,h'.get? e=some u)
  (new:ObjOk P w (upd H x o') h' x o'):HOk P w (upd H x o') h':=fun b u q=>by
 have nown:∀ c y,H c=some (.own y)->c≠x:=fun c y r z=>by subst z;rw[r]at mu;exact mu
 have ntup:∀ c xs,H c=some (.tup xs)->c≠x:=fun c xs r z=>by subst z;rw[r]at mu;exact mu
 by_cases hb:b=x
 ·subst hb;rw[upd_same]at q;cases q;exact new
 ·rw[upd_ne hb]at q
  by_cases hbe:b=e
  ·have q':H b=some (.own x):=by
    rcases he with z | z
    ·exact absurd (hbe.trans z) hb
    ·rw[hbe];exact z
   rw[q]at q';cases q'
   obtain⟨v,hv⟩:=heo
   exact⟨v,by rw[hbe];exact hv⟩
  ·refine (ok b u q).stay (fun c v hc r=>k c v ?_ r) (fun c r=>by rw[upd_ne (nown c b r)];exact r) fun c xs r=>by rw[upd_ne (ntup c xs r)];exact r
   rcases hc with rfl | hc
   ·exact hbe
   ·rintro rfl
    rcases he with z | z
    ·exact nown c b hc z
    ·rw[hc]at z;cases z;exact hb rfl
end
structure Un (fs ex:List Addr) (H H':Hp) (h h':Heap):Prop where
 keep:∀ b o,h.get? b=some o->H b=none->b ∉ fs->b ∉ ex->h'.get? b=some o
 slot:∀ b o,h.get? b=some o->H b=none->b∈fs->b ∉ ex->∃ sl,h'.get? b=some { o with slots:=sl }
 free:∀ b o,h.get? b=some o->H b=none->b ∉ ex->H' b=none
 there:∀ b o,h.get? b=some o->b ∉ ex->∃ o',h'.get? b=some o'
 tups:∀ b xs,H b=some (.tup xs)->H' b=some (.tup xs)
 frzs:∀ b o u,H b=some (.frz o u)->H' b=some (.frz o u)
 tbls:∀ b ps,H b=some (.tbl ps)->∃ more,H' b=some (.tbl (ps++more))
section
variable {fs fs' ex ex':List Addr}{H H1 H2:Hp}{h h1 h2 h':Heap}{a x e:Addr}{o:HO}
theorem Un.any (u:Un fs ex H H1 h h1) {b:Addr}{ob:Obj} (q:h.get? b=some ob) (n:H b=none) (hx:b ∉ ex):∃ sl,h1.get? b=some { ob with slots:=sl }:=by
 by_cases hb:b∈fs
 ·exact u.slot b ob q n hb hx
 ·exact⟨ob.slots,u.keep b ob q n hb hx⟩
theorem Un.kept (k:∀ b u,h.get? b=some u->h'.get? b=some u):Un fs ex H H h h':=
 ⟨fun b ob q _ _ _=>k b ob q,fun b ob q _ _ _=>⟨ob.slots,k b ob q⟩,fun _ _ _ n _=>n,fun b ob q _=>⟨ob,k b ob q⟩,fun _ _ q=>q,fun _ _ _ q=>q,fun _ ps q=>⟨#[],by rw[q];simp⟩⟩
theorem Un.refl:Un fs ex H H h h:=Un.kept fun _ _ q=>q
theorem Un.laid (k:∀ b u,h.get? b=some u->h'.get? b=some u) (hp:h.objs.size<=a) (hn:H a=none):Un fs ex H (upd H a o) h h' where
 keep:=fun b u q _ _ _=>k b u q
 slot:=fun b u q _ _ _=>⟨u.slots,k b u q⟩
 free:=fun b u q n _=>by rw[upd_ne (Nat.ne_of_lt (Nat.lt_of_lt_of_le (Heap.lt_size q) hp))];exact n
 there:=fun b u q _=>⟨u,k b u q⟩
 tups:=fun b xs q=>by rw[upd_ne (ne_of_none q hn)];exact q
 frzs:=fun b u xs q=>by rw[upd_ne (ne_of_none q hn)];exact q
 tbls:=fun b ps q=>⟨#[],by rw[upd_ne (ne_of_none q hn),q];simp⟩
theorem Un.write (mu:Mut (H x)) (he:e=x\/H e=some (.own x)) (k:∀ b u,b≠e->h.get? b=some u->h'.get? b=some u) (heo:∃ u,h'.get? e=some u):Un fs ex H (upd H x o) h h':=by
 have hx:∀ b,H b=none->b≠x:=fun b n z=>by subst z;rw[n]at mu;exact mu
 have hb:∀ b,H b=none->b≠e:=fun b n z=>by
  subst z
  rcases he with r | r
  ·exact hx b n r
  ·rw[n]at r;cases r
 have hm:∀ b u,H b=some u->¬Mut (some u)->b≠x:=fun b u q nm z=>by subst z;rw[q]at mu;exact nm mu
 refine⟨fun b u q n _ _=>k b u (hb b n) q,fun b u q n _ _=>⟨u.slots,k b u (hb b n) q⟩,fun b u q n _=>by rw[upd_ne (hx b n)];exact n,fun b u q _=>?_,
  fun b xs q=>by rw[upd_ne (hm b _ q fun z=>z)];exact q,fun b u xs q=>by rw[upd_ne (hm b _ q fun z=>z)];exact q,fun b ps q=>⟨#[],by rw[upd_ne (hm b _ q fun z=>z),q];simp⟩⟩
 by_cases hbe:b=e
 ·subst hbe;exact heo
 ·exact⟨u,k b u hbe q⟩
end
def trk (h:Heap) (H:Hp):List Addr:=(List.range h.objs.size).filter fun a=>(H a).isSome
def hidT (h:Heap) (H:Hp):Heap:=PySem.W.hideAll h (trk h H)
theorem hidT_size (h:Heap) (H:Hp):(hidT h H).objs.size=h.objs.size:=PySem.W.hideAll_size _ _
theorem hidT_get {h:Heap}{H:Hp}{b:Addr}{o:Obj} (e:h.get? b=some o) (n:H b=none):(hidT h H).get? b=some o:=
 PySem.W.hideAll_get _ e fun hm=>by
  have q:(H b).isSome=true:=(List.mem_filter.mp hm).2
  rw[n]at q;simp at q
theorem of_hidT {h:Heap}{H:Hp}{b:Addr}{o:Obj} (e:(hidT h H).get? b=some o):h.get? b=some o/\H b=none:=by
 have e':h.get? b=some o:=PySem.W.of_hideAll (trk h H) e
 refine⟨e',?_⟩
 cases q:H b with
 | none=>rfl
 | some x=>
  have hm:b∈trk h H:=List.mem_filter.mpr ⟨List.mem_range.mpr (Heap.lt_size e'),by simp [q]⟩
  have z:(hidT h H).get? b=none:=PySem.W.hideAll_none (trk h H) hm
  rw[z]at e;cases e
def allNews (g h:Heap) (L:Addr):List (Addr×Obj):=(List.range h.objs.size).filterMap fun a=>if a=L\/(g.get? a).isSome=true then none else (h.get? a).map fun o=>(a,o)
def rest (g h:Heap) (L d:Addr):List (Addr×Obj):=(allNews g h L).filter fun p=>decide (p.1≠d)
end L2
namespace L2
open PySem PySem.Spec PyProof.Rows
structure Mod (K:PySem.W.Frag) (mg:Str->Option Value) (base:Heap):Prop where
 kin:K.In base
 glob:base.Ns mainGlobals mg
 blt:∃ mb,base.Ns builtinsNs mb/\∀ x:Str,x≠"__name__"->mb x=bootBuiltins x
 nolimit:base.NoLimit
structure Cx where
 prog:Program
 w:World
 K:PySem.W.Frag
 mg:Str->Option Value
 base:Heap
 A:Around
 N:List Str
 s₀:Shared
 H₀:Hp
 env:Env
 outer:List Env
 stack:List Env
 ex:List Addr
 fn:Str->Bool
 calm:Bool
 pn:List (Addr×Obj)
 xe:Value->Shared->Prop
def frs (l:List Env):List Addr:=l.filterMap (·.frame)
abbrev Cx.fs (X:Cx):List Addr:=frs X.outer
def Vis (sc:Scope) (x:Str):Prop:=sc.names.lookup x=some .local\/sc.names.lookup x=some .cell\/sc.names.lookup x=some .free
def Loc (sc:Scope) (x:Str):Prop:=sc.names.lookup x=some .local\/sc.names.lookup x=some .cell
def Look (env:Env) (h:Heap) (m:Str->Option Value) (x:Str) (u:Value):Prop:=
 (env.kindOf x=some .local/\m x=some u)\/((env.kindOf x=some .cell\/env.kindOf x=some .free)/\∃ c,env.cells.lookup x=some c/\h.IsCell c (some u))
structure Cx.Ok (X:Cx):Prop where
 mod:Mod X.K X.mg X.base
 kind:X.env.scope.kind=.function
 glob:X.env.globals=mainGlobals
 blt:X.env.builtins=builtinsNs
 above:X.s₀.heap.objs.size<=X.env.locals
 inj:∀ x y c,X.env.cells.lookup x=some c->X.env.cells.lookup y=some c->x=y
 has:∀ x,(X.env.kindOf x=some .cell\/X.env.kindOf x=some .free)->∃ c,X.env.cells.lookup x=some c
 cab:∀ x c,X.fn x=true->X.env.cells.lookup x=some c->X.s₀.heap.objs.size<=c
 hd:X.calm=true->X.A.handled=none
 frames:X.A.frames=some X.stack
 stk:X.stack=X.outer\/(X.stack=X.env::X.outer/\X.env.frame=some X.env.locals)
 exf:∀ b∈X.ex,b≠X.env.locals/\∀ x c,X.env.cells.lookup x=some c->c≠b
 bs:∀ b o,X.base.get? b=some o->X.s₀.heap.get? b=some o/\X.H₀ b=none
 bsz:X.base.objs.size<=X.s₀.heap.objs.size
 noex:∀ b o,X.base.get? b=some o->b ∉ X.ex
 exfs:∀ b∈X.ex,b ∉ X.fs
 funs:X.s₀.heap.FunFrames X.base X.outer
 frf:∀ b∈X.fs,X.H₀ b=none
structure Inv (X:Cx) (pins:List (Addr×Obj)) (σ:List (Option V)) (H:Hp) (s:Shared):Prop where
 ok:X.Ok
 os:s.os=X.s₀.os
 bare:AllBare s.gens
 base:Un X.fs X.ex X.H₀ H X.s₀.heap s.heap
 loc:∃ m,s.heap.Ns X.env.locals m/\∀ (i:Nat) (x:Str) (v:V),X.N[i]?=some x->σ[i]?=some (some v)->Vis X.env.scope x->∃ u,RelV v u/\Look X.env s.heap m x u
 cell:∀ x c,X.env.cells.lookup x=some c->∃ v,s.heap.IsCell c v
 free:H X.env.locals=none
 freeC:∀ x c,X.env.cells.lookup x=some c->H c=none
 pin:∀ p∈X.pn++pins,s.heap.get? p.1=some p.2/\H p.1=none/\p.1≠X.env.locals/\p.1 ∉ X.fs/\∀ v,p.2.data≠.cell v
 hok:HOk X.prog X.w H s.heap
 len:σ.length=X.N.length
section
variable {X:Cx}{pins:List (Addr×Obj)} {σ:List (Option V)} {H H':Hp}{s:Shared}{h':Heap}
theorem Cx.Ok.nofr (ok:X.Ok) {b:Addr}{o:Obj} (e:X.base.get? b=some o):b ∉ X.fs:=fun hb=>by
 have:=(ok.funs.mem hb).1
 rw[e]at this;cases this
theorem Inv.bs (I:Inv X pins σ H s):∀ b o,X.base.get? b=some o->s.heap.get? b=some o/\H b=none:=fun b o e=>
 ⟨I.base.keep b o (I.ok.bs b o e).1 (I.ok.bs b o e).2 (I.ok.nofr e) (I.ok.noex b o e),I.base.free b o (I.ok.bs b o e).1 (I.ok.bs b o e).2 (I.ok.noex b o e)⟩
theorem Inv.bk (I:Inv X pins σ H s):∀ b o,X.base.get? b=some o->s.heap.get? b=some o:=fun b o e=>(I.bs b o e).1
theorem Inv.mod (I:Inv X pins σ H s):Mod X.K X.mg X.base:=I.ok.mod
theorem Inv.kIn (I:Inv X pins σ H s):X.K.In s.heap:=I.ok.mod.kin.keeps I.bk
theorem Inv.lt (I:Inv X pins σ H s):X.env.locals<s.heap.objs.size:=let ⟨_,hn,_⟩:=I.loc;hn.lt
theorem Inv.sz (I:Inv X pins σ H s):X.s₀.heap.objs.size<=s.heap.objs.size:=Nat.le_trans I.ok.above (Nat.le_of_lt I.lt)
theorem Inv.nofs (I:Inv X pins σ H s) {a:Addr} (h:s.heap.objs.size<=a):a ∉ X.fs:=fun hb=>by
 obtain⟨_,o,ho,_⟩:=I.ok.funs.mem hb
 exact absurd (Nat.lt_of_lt_of_le (Heap.lt_size ho) (Nat.le_trans I.sz h)) (Nat.lt_irrefl _)
theorem Inv.cne (I:Inv X pins σ H s):∀ x c,X.env.cells.lookup x=some c->c≠X.env.locals:=fun x c e z=>by
 obtain⟨v,o,ho,hd⟩:=I.cell x c e
 obtain⟨m,⟨o',es,ep,ho',hd',_⟩,_⟩:=I.loc
 rw[z,ho']at ho;cases ho;rw[hd']at hd;cases hd
theorem Inv.funs (I:Inv X pins σ H s):s.heap.FunFrames X.base X.outer:=by
 have all:∀ (l:List Env),(∀ b∈frs l,b∈X.fs)->X.s₀.heap.FunFrames X.base l->s.heap.FunFrames X.base l:=by
  intro l
  induction l with
  | nil=>intro _ _;trivial
  | cons env r ih=>
   intro hs hl
   obtain⟨hk,⟨L,o,hf,hn,ho,hd⟩,hr⟩:=hl
   have hL:L∈X.fs:=hs L (by unfold frs;rw[List.filterMap_cons,hf];exact List.mem_cons_self)
   obtain⟨sl,e⟩:=I.base.slot L o ho (I.ok.frf L hL) hL fun z=>I.ok.exfs L z hL
   exact⟨hk,⟨L,_,hf,hn,e,hd⟩,ih (fun b hb=>hs b (by unfold frs;rw[List.filterMap_cons,hf];exact List.mem_cons_of_mem _ hb)) hr⟩
 exact all X.outer (fun _ hb=>hb) I.ok.funs
theorem Inv.stack (I:Inv X pins σ H s):s.heap.FunFrames X.base X.stack:=by
 rcases I.ok.stk with e | ⟨e,hf⟩
 ·rw[e];exact I.funs
 ·rw[e]
  obtain⟨m,hn,_⟩:=I.loc
  refine .cons (by rw[I.ok.kind];decide) hf hn ?_ I.funs
  exact Heap.get?_none_of_le (Nat.le_trans I.ok.bsz I.ok.above)
theorem Inv.stkSub (I:Inv X pins σ H s):∀ b∈frs X.stack,b∈X.env.locals::X.fs:=fun b hb=>by
 rcases I.ok.stk with e | ⟨e,hf⟩
 ·rw[e]at hb;exact List.mem_cons_of_mem _ hb
 ·rw[e]at hb
  unfold frs at hb
  rw[List.filterMap_cons,hf]at hb
  exact hb
theorem Inv.stkFree (I:Inv X pins σ H s):∀ b∈frs X.stack,H b=none:=fun b hb=>by
 rcases List.mem_cons.mp (I.stkSub b hb) with e | hb
 ·rw[e];exact I.free
 ·obtain⟨_,o,ho,_⟩:=I.ok.funs.mem hb
  exact I.base.free b o ho (I.ok.frf b hb) fun z=>I.ok.exfs b z hb
theorem Inv.step {g':Array GenState}{t':Nat}{d':Drawn}{ch:List Addr} (I:Inv X pins σ H s)
  (hch:∀ b∈ch,(b∈X.ex\/X.s₀.heap.objs.size<=b)/\b≠X.env.locals/\(∀ x c,X.env.cells.lookup x=some c->c≠b)/\∀ p∈X.pn++pins,p.1≠b)
  (keep:∀ b o,b≠X.env.locals->b ∉ X.fs->b ∉ ch->s.heap.get? b=some o->H b=none->h'.get? b=some o)
  (slot:∀ b o,b≠X.env.locals->b∈X.fs->b ∉ ch->s.heap.get? b=some o->H b=none->∃ sl,h'.get? b=some { o with slots:=sl }) (free:∀ b o,b ∉ ch->s.heap.get? b=some o->H b=none->H' b=none)
  (there:∀ b o,b ∉ ch->s.heap.get? b=some o->∃ o',h'.get? b=some o')
  (tups:∀ b xs,H b=some (.tup xs)->H' b=some (.tup xs)) (frzs:∀ b o u,H b=some (.frz o u)->H' b=some (.frz o u)) (tbls:∀ b ps,H b=some (.tbl ps)->∃ more,H' b=some (.tbl (ps++more)))
  (ns:∀ m,s.heap.Ns X.env.locals m->h'.Ns X.env.locals m) (hok:HOk X.prog X.w H' h') (hg:AllBare g') :
  Inv X pins σ H' { s with heap:=h',gens:=g',drawn:=d',toks:=t' }:=by
 have neL:∀ b o,X.s₀.heap.get? b=some o->b≠X.env.locals:=fun b o e=>Nat.ne_of_lt (Nat.lt_of_lt_of_le (Heap.lt_size e) I.ok.above)
 have neC:∀ b o,X.s₀.heap.get? b=some o->b ∉ X.ex->b ∉ ch:=fun b o e hx hb=>by
  rcases (hch b hb).1 with z | z
  ·exact hx z
  ·exact absurd (Nat.lt_of_lt_of_le (Heap.lt_size e) z) (Nat.lt_irrefl _)
 have cellK:∀ x c,X.env.cells.lookup x=some c->∀ v,s.heap.IsCell c v->h'.IsCell c v:=fun x c e v ⟨o,ho,hd⟩=>by
  have nch:c ∉ ch:=fun z=>(hch c z).2.2.1 x c e rfl
  by_cases hc:c∈X.fs
  ·obtain⟨sl,q⟩:=slot c o (I.cne x c e) hc nch ho (I.freeC x c e)
   exact⟨_,q,hd⟩
  ·exact⟨o,keep c o (I.cne x c e) hc nch ho (I.freeC x c e),hd⟩
 refine⟨I.ok,I.os,hg,⟨fun b o e n hb hx=>?_,fun b o e n hb hx=>?_,fun b o e n hx=>?_,fun b o e hx=>?_,fun b xs e=>tups b xs (I.base.tups b xs e),fun b o xs e=>frzs b o xs (I.base.frzs b o xs e),fun b ps e=>?_⟩,?_,fun x c e=>?_,?_,fun x c e=>?_,fun p hp=>?_,hok,I.len⟩
 ·exact keep b o (neL b o e) hb (neC b o e hx) (I.base.keep b o e n hb hx) (I.base.free b o e n hx)
 ·obtain⟨sl,e1⟩:=I.base.slot b o e n hb hx
  obtain⟨sl',e2⟩:=slot b _ (neL b o e) hb (neC b o e hx) e1 (I.base.free b o e n hx)
  exact⟨sl',e2⟩
 ·obtain⟨o',e1⟩:=I.base.there b o e hx
  exact free b o' (neC b o e hx) e1 (I.base.free b o e n hx)
 ·obtain⟨o',e1⟩:=I.base.there b o e hx
  exact there b o' (neC b o e hx) e1
 ·obtain⟨m1,e1⟩:=I.base.tbls b ps e
  obtain⟨m2,e2⟩:=tbls b _ e1
  exact⟨m1++m2,by rw[e2,Array.append_assoc]⟩
 ·obtain⟨m,hn,hl⟩:=I.loc
  refine⟨m,ns m hn,fun i x v e1 e2 e3=>?_⟩
  obtain⟨u,r,l⟩:=hl i x v e1 e2 e3
  refine⟨u,r,?_⟩
  rcases l with l | ⟨k,c,e,z⟩
  ·exact .inl l
  ·exact .inr ⟨k,c,e,cellK x c e _ z⟩
 ·obtain⟨v,z⟩:=I.cell x c e
  exact⟨v,cellK x c e v z⟩
 ·obtain⟨m,⟨o,_,_,ho,_⟩,_⟩:=I.loc
  exact free _ o (fun z=>(hch _ z).2.1 rfl) ho I.free
 ·obtain⟨v,o,ho,hd⟩:=I.cell x c e
  exact free c o (fun z=>(hch c z).2.2.1 x c e rfl) ho (I.freeC x c e)
 ·obtain⟨e,n,ne,nf,d⟩:=I.pin p hp
  have nch:p.1 ∉ ch:=fun z=>(hch p.1 z).2.2.2 p hp rfl
  exact⟨keep p.1 p.2 ne nf nch e n,free p.1 p.2 nch e n,ne,nf,d⟩
theorem Inv.un {t':Nat} (I:Inv X pins σ H s) (u:Un X.fs [] H H' s.heap h') (hok:HOk X.prog X.w H' h'):Inv X pins σ H' { s with heap:=h',toks:=t' }:=by
 obtain⟨m,⟨o,es,ep,ho,r⟩,_⟩:=id I.loc
 obtain⟨sl,hL⟩:=u.any ho I.free (by simp)
 exact I.step (g':=s.gens) (d':=s.drawn) (ch:=[]) (fun _ z=>nomatch z) (fun b o _ hb _ e n=>u.keep b o e n hb (by simp)) (fun b o _ hb _ e n=>u.slot b o e n hb (by simp)) (fun b o _ e n=>u.free b o e n (by simp)) (fun b o _ e=>u.there b o e (by simp)) u.tups u.frzs u.tbls (fun m' hm=>by
  obtain⟨o',es',ep',ho',r'⟩:=hm
  rw[ho]at ho';cases ho'
  exact⟨_,es',ep',hL,r'⟩) hok I.bare
theorem Inv.call {g':Array GenState}{t':Nat}{d':Drawn}{ch:List Addr} (I:Inv X pins σ H s) (u:Un (frs X.stack) ch H H' s.heap h') (hok:HOk X.prog X.w H' h') (hg:AllBare g')
  (hch:∀ b∈ch,(b∈X.ex\/X.s₀.heap.objs.size<=b)/\b≠X.env.locals/\(∀ x c,X.env.cells.lookup x=some c->c≠b)/\∀ p∈X.pn++pins,p.1≠b) :
  Inv X pins σ H' { s with heap:=h',gens:=g',drawn:=d',toks:=t' }:=by
 obtain⟨m,⟨o,es,ep,ho,r⟩,_⟩:=id I.loc
 obtain⟨sl,hL⟩:=u.any ho I.free fun z=>(hch _ z).2.1 rfl
 exact I.step (ch:=ch) hch (fun b o hL hb hc e n=>u.keep b o e n (fun z=>(List.mem_cons.mp (I.stkSub b z)).elim hL hb) hc) (fun b o _ _ hc e n=>u.any e n hc) (fun b o hc e n=>u.free b o e n hc) (fun b o hc e=>u.there b o e hc) u.tups u.frzs u.tbls (fun m' hm=>by
  obtain⟨o',es',ep',ho',r'⟩:=hm
  rw[ho]at ho';cases ho'
  exact⟨_,es',ep',hL,r'⟩) hok hg
theorem Inv.turned {t':Nat}{it:Addr} (I:Inv X pins σ H s) (k:∀ b o,b≠it->s.heap.get? b=some o->h'.get? b=some o) (hn:H it=none) (hL:it≠X.env.locals)
  (h1:it∈X.ex\/X.s₀.heap.objs.size<=it) (h2:∀ x c,X.env.cells.lookup x=some c->c≠it) (h3:∀ p∈X.pn++pins,p.1≠it):Inv X pins σ H { s with heap:=h',toks:=t' }:=by
 have nit:∀ b u,H b=some u->b≠it:=fun b u e z=>by rw[z,hn]at e;cases e
 refine I.step (g':=s.gens) (d':=s.drawn) (ch:=[it]) (fun b hb=>?_) (fun b o _ _ hc e _=>k b o (fun z=>hc (by simp [z])) e) (fun b o _ _ hc e _=>⟨o.slots,k b o (fun z=>hc (by simp [z])) e⟩) (fun _ _ _ _ n=>n)
  (fun b o hc e=>⟨o,k b o (fun z=>hc (by simp [z])) e⟩) (fun _ _ e=>e) (fun _ _ _ e=>e) (fun b ps e=>⟨#[],by rw[e];simp⟩) (fun m hm=>?_) (fun b u e=>?_) I.bare
 ·have e:b=it:=by simpa using hb
  subst e
  exact⟨h1,hL,h2,h3⟩
 ·obtain⟨o,es,ep,ho,r⟩:=hm
  exact⟨o,es,ep,k _ o (Ne.symm hL) ho,r⟩
 ·refine (I.hok b u e).stay (fun c v hc q=>k c v ?_ q) (fun _ q=>q) fun _ _ q=>q
  rcases hc with z | z
  ·rw[z];exact nit b u e
  ·exact nit c _ z
theorem Inv.tok (I:Inv X pins σ H s) (t:Nat):Inv X pins σ H { s with toks:=t }:=I.un (h':=s.heap) (t':=t) Un.refl I.hok
theorem Inv.kept {t':Nat} (I:Inv X pins σ H s) (k:∀ b u,s.heap.get? b=some u->h'.get? b=some u):Inv X pins σ H { s with heap:=h',toks:=t' }:=I.un (Un.kept k) (I.hok.kept k)
theorem Inv.laid {a:Addr}{o:HO}{t':Nat} (I:Inv X pins σ H s) (k:∀ b u,s.heap.get? b=some u->h'.get? b=some u) (hp:s.heap.objs.size<=a) (new:ObjOk X.prog X.w (upd H a o) h' a o) :
  Inv X pins σ (upd H a o) { s with heap:=h',toks:=t' }:=I.un (Un.laid k hp (I.hok.fresh hp)) (I.hok.laid k hp new)
theorem Inv.write {x e:Addr}{o:HO}{t':Nat} (I:Inv X pins σ H s) (mu:Mut (H x)) (he:e=x\/H e=some (.own x)) (k:∀ b u,b≠e->s.heap.get? b=some u->h'.get? b=some u) (heo:∃ u,h'.get? e=some u)
  (new:ObjOk X.prog X.w (upd H x o) h' x o):Inv X pins σ (upd H x o) { s with heap:=h',toks:=t' }:=I.un (Un.write mu he k heo) (I.hok.write mu he k heo new)
theorem Inv.weak {σ':List (Option V)} (I:Inv X pins σ H s) (hl:σ'.length=σ.length) (w:∀ (i:Nat) v,σ'[i]?=some (some v)->σ[i]?=some (some v)):Inv X pins σ' H s:=
 ⟨I.ok,I.os,I.bare,I.base,let ⟨m,hn,hl'⟩:=I.loc;⟨m,hn,fun i x v e1 e2 e3=>hl' i x v e1 (w i v e2) e3⟩,I.cell,I.free,I.freeC,I.pin,I.hok,hl.trans I.len⟩
theorem Inv.pins_of {pins':List (Addr×Obj)} (I:Inv X pins σ H s) (h:∀ p∈pins',s.heap.get? p.1=some p.2/\H p.1=none/\p.1≠X.env.locals/\p.1 ∉ X.fs/\∀ v,p.2.data≠.cell v):Inv X pins' σ H s:=
 ⟨I.ok,I.os,I.bare,I.base,I.loc,I.cell,I.free,I.freeC,fun p hp=>(List.mem_append.mp hp).elim (fun z=>I.pin p (List.mem_append_left _ z)) (h p),I.hok,I.len⟩
theorem nodup_ix {N:List Str} (hN:N.Nodup) {i j:Nat}{x:Str} (a:N[i]?=some x) (b:N[j]?=some x):i=j:=by
 obtain⟨h1,e1⟩:=List.getElem?_eq_some_iff.mp a
 obtain⟨h2,e2⟩:=List.getElem?_eq_some_iff.mp b
 exact (List.getElem_inj hN).mp (e1.trans e2.symm)
theorem store_ok2 {M:Model}{A:Around}{E:Value->Shared->Prop}{i:Nat}{x:Str}{v:V}{u:Value}{Q:Unit->Shared->Prop} (I:Inv X pins σ H s) (hN:X.N.Nodup) (hi:X.N[i]?=some x) (hx:Loc X.env.scope x) (r:RelV v u)
  (h:∀ s',Inv X pins (σ.set i (some v)) H s'->(∃ a,Heap.SameBut a s.heap s'.heap/\(a=X.env.locals\/X.env.cells.lookup x=some a))->Q () s') (hf:X.fn x=true\/X.env.scope.names.lookup x=some .local:=by first | exact .inl rfl | exact .inr rfl | assumption):wpAny M A (storeName X.env x u) Q E s:=by
 obtain⟨m,hn,hl⟩:=id I.loc
 have hcls:(X.env.scope.kind == .class || (X.env.scope.kind == .module && X.env.locals != X.env.globals))=false:=by rw[I.ok.kind];rfl
 have hiσ:i < σ.length:=by rw[I.len];exact (List.getElem?_eq_some_iff.mp hi).1
 have cne:=I.cne
 have tracked:∀ {a:Addr}{h':Heap},(∃ o,s.heap.get? a=some o/\H a=none)->Heap.SameBut a s.heap h'->HOk X.prog X.w H h':=fun {a h'} ha hs b ob e=>by
  obtain⟨_,_,hfree⟩:=ha
  refine (I.hok b ob e).stay (fun c w' hc q=>(hs.2 c ?_).trans q) (fun _ q=>q) fun _ _ q=>q
  rintro rfl
  rcases hc with rfl | hc
  ·rw[hfree]at e;cases e
  ·rw[hfree]at hc;cases hc
 rcases hx with hk | hk
 ·refine wpAny_storeName_local hk hn (fun h' hn' hs=>?_) hcls
  obtain⟨oL,_,_,hoL,_⟩:=id hn
  refine h _ ⟨I.ok,I.os,I.bare,⟨fun b o e n hb hx=>?_,fun b o e n hb hx=>?_,I.base.free,fun b o e hx=>?_,I.base.tups,I.base.frzs,I.base.tbls⟩,⟨_,hn',fun j y v' e1 e2 e3=>?_⟩,fun y c e=>?_,I.free,I.freeC,fun p hp=>?_,tracked ⟨oL,hoL,I.free⟩ hs,by simpa using I.len⟩ ⟨_,hs,.inl rfl⟩
  ·exact (hs.2 b (Nat.ne_of_lt (Nat.lt_of_lt_of_le (Heap.lt_size e) I.ok.above))).trans (I.base.keep b o e n hb hx)
  ·obtain⟨sl,e1⟩:=I.base.slot b o e n hb hx
   exact⟨sl,(hs.2 b (Nat.ne_of_lt (Nat.lt_of_lt_of_le (Heap.lt_size e) I.ok.above))).trans e1⟩
  ·obtain⟨o',e1⟩:=I.base.there b o e hx
   exact⟨o',(hs.2 b (Nat.ne_of_lt (Nat.lt_of_lt_of_le (Heap.lt_size e) I.ok.above))).trans e1⟩
  ·by_cases hj:j=i
   ·subst hj
    rw[hi]at e1;cases e1
    rw[List.getElem?_set_self hiσ]at e2
    cases e2
    exact⟨u,r,.inl ⟨hk,by simp⟩⟩
   ·rw[List.getElem?_set_ne (Ne.symm hj)]at e2
    obtain⟨u',r',q⟩:=hl j y v' e1 e2 e3
    refine⟨u',r',?_⟩
    rcases q with ⟨k,e⟩ | ⟨k,c,e,z⟩
    ·refine .inl ⟨k,?_⟩
     have:y≠x:=fun e=>hj (nodup_ix hN e1 (e ▸ hi))
     simp [this,e]
    ·exact .inr ⟨k,c,e,z.sameBut hs (cne y c e)⟩
  ·obtain⟨w',z⟩:=I.cell y c e
   exact⟨w',z.sameBut hs (cne y c e)⟩
  ·obtain⟨e,n,ne,nf,d⟩:=I.pin p hp
   exact⟨(hs.2 p.1 ne).trans e,n,ne,nf,d⟩
 ·have hfn:X.fn x=true:=by
   rcases hf with z | z
   ·exact z
   ·rw[z]at hk;cases hk
  obtain⟨c,hc⟩:=I.ok.has x (.inl hk)
  obtain⟨w',z⟩:=I.cell x c hc
  refine wpAny_storeName_cell I.ok.kind hk hc z (fun h' hc' hs=>?_)
  obtain⟨oc,hoc,hocd⟩:=id z
  refine h { s with heap:=h' } ⟨I.ok,I.os,I.bare,⟨fun b o e n hb hx=>?_,fun b o e n hb hx=>?_,I.base.free,fun b o e hx=>?_,I.base.tups,I.base.frzs,I.base.tbls⟩,⟨m,hn.sameBut hs (Ne.symm (cne x c hc)),fun j y v' e1 e2 e3=>?_⟩,fun y c' e=>?_,I.free,I.freeC,fun p hp=>?_,tracked ⟨oc,hoc,I.freeC x c hc⟩ hs,by simpa using I.len⟩ ⟨c,hs,.inr hc⟩
  ·exact (hs.2 b (Nat.ne_of_lt (Nat.lt_of_lt_of_le (Heap.lt_size e) (I.ok.cab x c hfn hc)))).trans (I.base.keep b o e n hb hx)
  ·obtain⟨sl,e1⟩:=I.base.slot b o e n hb hx
   exact⟨sl,(hs.2 b (Nat.ne_of_lt (Nat.lt_of_lt_of_le (Heap.lt_size e) (I.ok.cab x c hfn hc)))).trans e1⟩
  ·obtain⟨o',e1⟩:=I.base.there b o e hx
   exact⟨o',(hs.2 b (Nat.ne_of_lt (Nat.lt_of_lt_of_le (Heap.lt_size e) (I.ok.cab x c hfn hc)))).trans e1⟩
  ·by_cases hj:j=i
   ·subst hj
    rw[hi]at e1;cases e1
    rw[List.getElem?_set_self hiσ]at e2
    cases e2
    exact⟨u,r,.inr ⟨.inl hk,c,hc,hc'⟩⟩
   ·rw[List.getElem?_set_ne (Ne.symm hj)]at e2
    obtain⟨u',r',q⟩:=hl j y v' e1 e2 e3
    refine⟨u',r',?_⟩
    rcases q with q | ⟨k,c',e,z'⟩
    ·exact .inl q
    ·refine .inr ⟨k,c',e,z'.sameBut hs ?_⟩
     rintro rfl
     exact hj (nodup_ix hN e1 (I.ok.inj _ _ _ e hc ▸ hi))
  ·by_cases hcc:c'=c
   ·subst hcc;exact⟨_,hc'⟩
   ·obtain⟨w2,z2⟩:=I.cell y c' e
    exact⟨w2,z2.sameBut hs hcc⟩
  ·obtain⟨e,n,ne,nf,d⟩:=I.pin p hp
   refine⟨(hs.2 p.1 ?_).trans e,n,ne,nf,d⟩
   intro q
   rw[q,hoc]at e
   have q':oc=p.2:=Option.some.inj e
   exact d w' (by rw[<- q'];exact hocd)
theorem store_ok {M:Model}{A:Around}{E:Value->Shared->Prop}{i:Nat}{x:Str}{v:V}{u:Value}{Q:Unit->Shared->Prop} (I:Inv X pins σ H s) (hN:X.N.Nodup) (hi:X.N[i]?=some x) (hx:Loc X.env.scope x) (r:RelV v u)
  (h:∀ s',Inv X pins (σ.set i (some v)) H s'->Q () s') (hf:X.fn x=true\/X.env.scope.names.lookup x=some .local:=by first | exact .inl rfl | exact .inr rfl | assumption):wpAny M A (storeName X.env x u) Q E s:=
 store_ok2 I hN hi hx r (fun s' I' _=>h s' I') hf
theorem Inv.call' {s':Shared}{ch:List Addr} (I:Inv X pins σ H s) (ho:s'.os=s.os) (u:Un (frs X.stack) ch H H' s.heap s'.heap) (hok:HOk X.prog X.w H' s'.heap) (hg:AllBare s'.gens)
  (hch:∀ b∈ch,(b∈X.ex\/X.s₀.heap.objs.size<=b)/\b≠X.env.locals/\(∀ x c,X.env.cells.lookup x=some c->c≠b)/\∀ p∈X.pn++pins,p.1≠b):Inv X pins σ H' s':=by
 obtain⟨h',g',d',t',o'⟩:=s'
 have e:o'=s.os:=ho
 subst e
 exact I.call (g':=g') (t':=t') (d':=d') u hok hg hch
end
abbrev XK:=Value->Option Addr->Hp->Prop
abbrev St:=List (Option V)
abbrev VK:=V->Hp->Prop
abbrev TE:=St->Hp->VK->Prop
abbrev TT:=St->Hp->(Bool->Hp->Prop)->Prop
abbrev TA:=St->Hp->(List V->Hp->Prop)->Prop
structure Ends where
 nx:St->Hp->Prop
 rt:VK
 bk:St->Hp->Prop:=fun _ _=>False
 ct:St->Hp->Prop:=fun _ _=>False
abbrev TS:=Ends->St->Hp->Prop
def EP (X:Cx) (pins:List (Addr×Obj)) (σ:St) (Q:VK) (u:Value) (s':Shared):Prop:=∃ v H',Inv X pins σ H' s'/\RelV v u/\Q v H'
def TP (X:Cx) (pins:List (Addr×Obj)) (σ:St) (Q:Bool->Hp->Prop) (b:Bool) (s':Shared):Prop:=∃ H',Inv X pins σ H' s'/\Q b H'
def AP (X:Cx) (pins:List (Addr×Obj)) (σ:St) (Q:List V->Hp->Prop) (us:List Value) (s':Shared):Prop:=∃ vs H',Inv X pins σ H' s'/\Vals vs us/\Q vs H'
def SP (X:Cx) (pins:List (Addr×Obj)) (D:Ends) (f:Flow) (s':Shared):Prop:=
 match f with
 | .next=>∃ σ' H',Inv X pins σ' H' s'/\D.nx σ' H'
 | .brk=>∃ σ' H',Inv X pins σ' H' s'/\D.bk σ' H'
 | .cont=>∃ σ' H',Inv X pins σ' H' s'/\D.ct σ' H'
 | .ret u=>∃ v σ' H',Inv X pins σ' H' s'/\RelV v u/\D.rt v H'
def PE (X:Cx) (e:Expr) (t:TE):Prop:=
 ∀ (pins:List (Addr×Obj)) (s:Shared) (σ:St) (H:Hp) (Q:VK),Inv X pins σ H s->t σ H Q->wpAny (model X.prog X.w) X.A (eval e X.env) (EP X pins σ Q) X.xe s
def PT (X:Cx) (e:Expr) (t:TT):Prop:=
 ∀ (pins:List (Addr×Obj)) (s:Shared) (σ:St) (H:Hp) (Q:Bool->Hp->Prop),Inv X pins σ H s->t σ H Q->wpAny (model X.prog X.w) X.A (isTrue e X.env (eval e X.env)) (TP X pins σ Q) X.xe s
def PW (X:Cx) (e:Expr) (t:TT):Prop:=
 ∀ (whole:Sem Value) (pins:List (Addr×Obj)) (s:Shared) (σ:St) (H:Hp) (Q:Bool->Hp->Prop),Inv X pins σ H s->t σ H Q->wpAny (model X.prog X.w) X.A (isTrue e X.env whole) (TP X pins σ Q) X.xe s
theorem PW.pt {X:Cx}{e:Expr}{t:TT} (h:PW X e t):PT X e t:=h _
def PA (X:Cx) (es:List Expr) (t:TA):Prop:=
 ∀ (pos:Pos) (pins:List (Addr×Obj)) (s:Shared) (σ:St) (H:Hp) (Q:List V->Hp->Prop),Inv X pins σ H s->t σ H Q->wpAny (model X.prog X.w) X.A (spliced (backTo pos (starEach es X.env))) (AP X pins σ Q) X.xe s
def PS (X:Cx) (st:Stmt) (t:TS):Prop:=
 ∀ (pins:List (Addr×Obj)) (s:Shared) (σ:St) (H:Hp) (D:Ends),Inv X pins σ H s->t D σ H->wpAny (model X.prog X.w) X.A (exec st X.env) (SP X pins D) X.xe s
def PSs (X:Cx) (st:List Stmt) (t:TS):Prop:=
 ∀ (pins:List (Addr×Obj)) (s:Shared) (σ:St) (H:Hp) (D:Ends),Inv X pins σ H s->t D σ H->wpAny (model X.prog X.w) X.A (execs st X.env) (SP X pins D) X.xe s
theorem thn {α:Type} {t:Sem α}{Q Q':α->Shared->Prop}{M:Model}{A:Around}{E:Value->Shared->Prop}{s:Shared} (h:wpAny M A t Q E s) (hQ:∀ a s,Q a s->Q' a s):wpAny M A t Q' E s:=wpAny_mono h hQ fun _ _ x=>x
end L2
namespace L2
open PySem PySem.Spec PyProof.Rows
section
variable {X:Cx}
def tVar (i:Nat):TE:=fun σ H Q=>∃ v,σ[i]?=some (some v)/\Q v H
def tC (v:V):TE:=fun _ H Q=>Q v H
theorem pe_var {i:Nat}{x:Str}{pos:Pos} (hN:X.N[i]?=some x) (hv:Vis X.env.scope x) (hd:(x == ("__debug__" : Str))=false:=by decide) (hcd:(x == ("__classdict__" : Str))=false:=by decide):PE X (.Name x pos) (tVar i):=by
 intro pins s σ H Q I h
 obtain⟨v,e,h⟩:=h
 obtain⟨m,hn,hl⟩:=I.loc
 obtain⟨u,r,l⟩:=hl i x v hN e hv
 have fin:EP X pins σ Q u s:=⟨v,H,I,r,h⟩
 rcases l with ⟨hk,hm⟩ | ⟨hk,c,hc,hcell⟩
 ·exact wpAny_Name (wpAny_loadName_local I.ok.kind hk hn hm fin) hd
 ·rcases hk with hk | hk
  ·exact wpAny_Name (wpAny_loadName_cell I.ok.kind hk hc hcell fin) hd
  ·exact wpAny_Name (wpAny_loadName_free I.ok.kind hk hc hcell fin hcd) hd
theorem pe_int {i j pos}:PE X (.Constant (.int i) j pos) (tC (.int i)):=fun _ _ _ H _ I h=>wpAny_Constant_int ⟨.int i,H,I.tok _,⟨_,rfl⟩,h⟩
theorem pe_bl {b j pos}:PE X (.Constant (.bool b) j pos) (tC (.bl b)):=fun _ _ _ H _ I h=>Constant_bool ⟨.bl b,H,I,rfl,h⟩
theorem pe_non {j pos}:PE X (.Constant .none j pos) (tC .non):=fun _ _ _ H _ I h=>Constant_none ⟨.non,H,I,rfl,h⟩
theorem pe_str {x j pos}:PE X (.Constant (.str x) j pos) (tC (.str x)):=fun _ _ _ H _ I h=>Calls.Constant_str ⟨.str x,H,I.tok _,⟨_,rfl⟩,h⟩
def Gl (X:Cx) (x:Str):Prop:=X.env.kindOf x=some .globalImplicit
theorem ld_glob {E:Value->Shared->Prop}{pins:List (Addr×Obj)}{s:Shared} {σ:St} {H:Hp}{x:Str}{u:Value}{pos:Pos}{Q:Value->Shared->Prop} (I:Inv X pins σ H s) (hg:Gl X x) (hm:X.mg x=some u) (h:Q u s)
  (hd:(x == ("__debug__" : Str))=false:=by decide):wpAny (model X.prog X.w) X.A (eval (.Name x pos) X.env) Q E s:=
 Calls.Name_function_global I.ok.kind hg (Calls.loadGlobal_global (by rw[I.ok.glob];exact I.mod.glob.keeps I.bk) hm h) hd
theorem ld_blt {E:Value->Shared->Prop}{pins:List (Addr×Obj)}{s:Shared} {σ:St} {H:Hp}{x:Str}{u:Value}{pos:Pos}{Q:Value->Shared->Prop} (I:Inv X pins σ H s) (hg:Gl X x) (hm:X.mg x=none) (hv:bootBuiltins x=some u) (h:Q u s)
  (hn:x≠"__name__":=by decide) (hd:(x == ("__debug__" : Str))=false:=by decide):wpAny (model X.prog X.w) X.A (eval (.Name x pos) X.env) Q E s:=by
 obtain⟨mb,h1,h2⟩:=I.mod.blt
 exact Calls.Name_function_global I.ok.kind hg (Calls.loadGlobal_builtin (by rw[I.ok.glob];exact I.mod.glob.keeps I.bk) hm (by rw[I.ok.blt];exact h1.keeps I.bk) ((h2 x hn).trans hv) h) hd
theorem pe_glob {x:Str}{v:V}{u:Value}{pos:Pos} (hg:Gl X x) (hm:X.mg x=some u) (r:RelV v u) (hd:(x == ("__debug__" : Str))=false:=by decide):PE X (.Name x pos) (tC v):=
 fun _ _ _ H _ I h=>ld_glob I hg hm ⟨v,H,I,r,h⟩ hd
theorem pe_bltn {x:Str}{v:V}{u:Value}{pos:Pos} (hg:Gl X x) (hm:X.mg x=none) (hv:bootBuiltins x=some u) (r:RelV v u) (hn:x≠"__name__":=by decide) (hd:(x == ("__debug__" : Str))=false:=by decide):PE X (.Name x pos) (tC v):=
 fun _ _ _ H _ I h=>ld_blt I hg hm hv ⟨v,H,I,r,h⟩ hn hd
variable {a b:Expr}{ta tb:TE}{pos:Pos}
def tB (t:TE):TT:=fun σ H Q=>t σ H fun x H1=>∃ c,x=.bl c/\Q c H1
theorem pt_val {e:Expr}{t:TE} (h:PE X e t) (he:∀ whole,isTrue e X.env whole=(do let v <- whole;standAt e.pos;holding [v] (truthy v)):=by intro _;rfl):PT X e (tB t):=by
 intro pins s σ H Q I hw
 refine isTrue_plain (thn (h pins s σ H _ I hw) fun v s1 ⟨x,H1,I1,r1,q1⟩=>?_) (he _)
 obtain⟨d,rfl,q⟩:=q1
 cases r1
 exact wpAny_truthy_bool ⟨H1,I1,q⟩
variable {tA tB':TT}{rest:List Expr}
def tAnd (t u:TT):TT:=fun σ H Q=>t σ H fun c H1=>if c=true then u σ H1 Q else Q false H1
def tOr (t u:TT):TT:=fun σ H Q=>t σ H fun c H1=>if c=true then Q true H1 else u σ H1 Q
def tNot (t:TT):TT:=fun σ H Q=>t σ H fun c H1=>Q (!c) H1
theorem pw_and1 (ha:PT X a tA):PW X (.BoolOp .And [a] pos) tA:=by
 intro wh pins s σ H Q I h
 refine isTrue_and (thn (ha pins s σ H Q I h) fun c s1 e=>?_)
 cases c with
 | true=>exact isTrue_and_nil e
 | false=>exact e
theorem pw_or1 (ha:PT X a tA):PW X (.BoolOp .Or [a] pos) tA:=by
 intro wh pins s σ H Q I h
 refine isTrue_or (thn (ha pins s σ H Q I h) fun c s1 e=>?_)
 cases c with
 | false=>exact isTrue_or_nil e
 | true=>exact e
theorem pw_and (ha:PT X a tA) (hb:PW X (.BoolOp .And (b::rest) pos) tB'):PW X (.BoolOp .And (a::b::rest) pos) (tAnd tA tB'):=by
 intro wh pins s σ H Q I h
 refine isTrue_and (thn (ha pins s σ H _ I h) fun c s1 ⟨H1,I1,q1⟩=>?_)
 cases c with
 | true=>exact hb wh pins s1 σ H1 Q I1 q1
 | false=>exact⟨H1,I1,q1⟩
theorem pw_or (ha:PT X a tA) (hb:PW X (.BoolOp .Or (b::rest) pos) tB'):PW X (.BoolOp .Or (a::b::rest) pos) (tOr tA tB'):=by
 intro wh pins s σ H Q I h
 refine isTrue_or (thn (ha pins s σ H _ I h) fun c s1 ⟨H1,I1,q1⟩=>?_)
 cases c with
 | true=>exact⟨H1,I1,q1⟩
 | false=>exact hb wh pins s1 σ H1 Q I1 q1
theorem pt_not (ha:PT X a tA):PT X (.UnaryOp .Not a pos) (tNot tA):=by
 intro pins s σ H Q I h
 exact isTrue_not (ha pins s σ H (fun c H1=>Q (!c) H1) I h)
def tAndV (ta tb:TE):TE:=fun σ H Q=>ta σ H fun x H1=>∃ c,x=.bl c/\if c=true then tb σ H1 Q else Q (.bl false) H1
theorem pe_one {op} {t:TE} (h:PE X a t):PE X (.BoolOp op [a] pos) t:=fun pins s σ H Q I hw=>BoolOp_one (h pins s σ H Q I hw)
theorem pe_and (ha:PE X a ta) (hb:PE X (.BoolOp .And (b::rest) pos) tb):PE X (.BoolOp .And (a::b::rest) pos) (tAndV ta tb):=by
 intro pins s σ H Q I h
 refine BoolOp_and (thn (ha pins s σ H _ I h) fun v s1 ⟨x,H1,I1,r1,q1⟩=>?_)
 obtain⟨c,rfl,q1⟩:=q1
 cases r1
 refine wpAny_truthy_bool ?_
 cases c with
 | true=>exact hb pins s1 σ H1 Q I1 q1
 | false=>exact⟨.bl false,H1,I1,rfl,q1⟩
def tIf (t:TT) (ta tb:TE):TE:=fun σ H Q=>t σ H fun c H1=>if c=true then ta σ H1 Q else tb σ H1 Q
theorem pe_ifExp {c:Expr} (hc:PT X c tA) (ha:PE X a ta) (hb:PE X b tb):PE X (.IfExp c a b pos) (tIf tA ta tb):=by
 intro pins s σ H Q I h
 refine wpAny_IfExp (thn (hc pins s σ H _ I h) fun d s1 ⟨H1,I1,q1⟩=>?_)
 cases d with
 | true=>exact ha pins s1 σ H1 Q I1 q1
 | false=>exact hb pins s1 σ H1 Q I1 q1
end
end L2
namespace L2
open PySem PySem.Spec PyProof.Rows
def SqL (K:PySem.W.Frag) (H:Hp) (a:Addr) (xs:List V):Prop:=
 Rd H a (.lst xs) \/
  ∃ (o:Obj) (its:Array Value) (n:Nat),K.lookup a=some o/\o.cls=.type "list"/\o.dict=none/\o.data=.seq its n/\its.size<=sizeLine/\Vals xs its.toList
def SqT (K:PySem.W.Frag) (H:Hp) (a:Addr) (xs:List V):Prop:=
 Rd H a (.tup xs) \/
  ∃ (o:Obj) (its:Array Value) (n:Nat),K.lookup a=some o/\o.cls=.type "tuple"/\o.data=.seq its n/\its.size<=sizeLine/\Vals xs its.toList
def absV:Value->Option V
 | .none=>some .non
 | .bool b=>some (.bl b)
 | .int i _=>some (.int i)
 | .str x _=>some (.str x)
 | .bytes b _=>some (.byt b)
 | .float b _=>some (.flt b)
 | .ref a=>some (.ref a)
 | .type n=>some (.ty n)
 | _=>none
theorem RelV.abs {x:V}{u:Value} (r:RelV x u):absV u=some x:=by
 cases x with
 | non=>cases r;rfl
 | bl _=>cases r;rfl
 | int _=>obtain⟨t,rfl⟩:=r;rfl
 | str _=>obtain⟨t,rfl⟩:=r;rfl
 | byt _=>obtain⟨t,rfl⟩:=r;rfl
 | flt _=>obtain⟨t,rfl⟩:=r;rfl
 | ref _=>cases r;rfl
 | ty _=>cases r;rfl
theorem RelV.inj {x y:V}{u:Value} (r:RelV x u) (q:RelV y u):x=y:=Option.some.inj (r.abs.symm.trans q.abs)
theorem Vals.inj:∀ {xs ys:List V}{us:List Value},Vals xs us->Vals ys us->xs=ys
 | _,_,_,.nil,.nil=>rfl
 | _,_,_,.cons r t,.cons r' t'=>by rw[r.inj r',Vals.inj t t']
section
variable {X:Cx}{pins:List (Addr×Obj)} {σ:St} {H:Hp}{s:Shared}{a:Addr}{xs ys:List V}
theorem SqL.of {K:PySem.W.Frag} (h:H a=some (.lst xs)):SqL K H a xs:=.inl (.inl h)
theorem SqT.of {K:PySem.W.Frag} (h:H a=some (.tup xs)):SqT K H a xs:=.inl (.inl h)
theorem Inv.list (I:Inv X pins σ H s) (h:SqL X.K H a xs):∃ its:List Value,Vals xs its/\PlainL s.heap a its.toArray/\xs.length<=sizeLine:=by
 rcases h with h | ⟨o,its,n,hk,hc,hd,hs,hz,r⟩
 ·obtain⟨z,its,n,r,e⟩:=h.ok I.hok
  exact⟨its,r,⟨_,n,e,rfl,rfl,rfl⟩,z⟩
 ·refine⟨its.toList,r,⟨o,n,I.kIn a o hk,hc,hd,by simpa using hs⟩,?_⟩
  have e:=r.length
  simp only[Array.length_toList]at e
  lia
theorem Inv.tuple (I:Inv X pins σ H s) (h:SqT X.K H a xs):∃ its:List Value,Vals xs its/\IsTup s.heap a its.toArray/\xs.length<=sizeLine:=by
 rcases h with h | ⟨o,its,n,hk,hc,hs,hz,r⟩
 ·obtain⟨z,its,r,p⟩:=h.ok I.hok
  exact⟨its,r,p,z.1⟩
 ·refine⟨its.toList,r,⟨o,I.kIn a o hk,hc,n,by simpa using hs⟩,?_⟩
  have e:=r.length
  simp only[Array.length_toList]at e
  lia
theorem Inv.list_inj (I:Inv X pins σ H s) (h:SqL X.K H a xs) (h':SqL X.K H a ys):xs=ys:=by
 obtain⟨its,r,⟨o,n,e,_,_,d⟩,_⟩:=I.list h
 obtain⟨its',r',⟨o',n',e',_,_,d'⟩,_⟩:=I.list h'
 rw[e]at e';cases e'
 rw[d]at d'
 injection d' with d1 _
 have:its=its':=by simpa using congrArg Array.toList d1
 subst this
 exact r.inj r'
theorem Inv.tuple_inj (I:Inv X pins σ H s) (h:SqT X.K H a xs) (h':SqT X.K H a ys):xs=ys:=by
 obtain⟨its,r,⟨o,e,_,n,d⟩,_⟩:=I.tuple h
 obtain⟨its',r',⟨o',e',_,n',d'⟩,_⟩:=I.tuple h'
 rw[e]at e';cases e'
 rw[d]at d'
 injection d' with d1 _
 have:its=its':=by simpa using congrArg Array.toList d1
 subst this
 exact r.inj r'
end
abbrev Cx.wish (X:Cx) (E:Value->Shared->Prop):Cx:={ X with xe:=E }
abbrev Cx.nox (X:Cx):Cx:=X.wish fun _ _=>False
theorem Cx.Ok.wish {X:Cx} (ok:X.Ok) (E:Value->Shared->Prop):(X.wish E).Ok:=
 ⟨ok.mod,ok.kind,ok.glob,ok.blt,ok.above,ok.inj,ok.has,ok.cab,ok.hd,ok.frames,ok.stk,ok.exf,ok.bs,ok.bsz,ok.noex,ok.exfs,ok.funs,ok.frf⟩
theorem Cx.Ok.unwish {X:Cx}{E:Value->Shared->Prop} (ok:(X.wish E).Ok):X.Ok:=
 ⟨ok.mod,ok.kind,ok.glob,ok.blt,ok.above,ok.inj,ok.has,ok.cab,ok.hd,ok.frames,ok.stk,ok.exf,ok.bs,ok.bsz,ok.noex,ok.exfs,ok.funs,ok.frf⟩
section
variable {X:Cx}{pins:List (Addr×Obj)} {σ:St} {H:Hp}{s:Shared}{E:Value->Shared->Prop}
theorem Inv.wish (I:Inv X pins σ H s) (E:Value->Shared->Prop):Inv (X.wish E) pins σ H s:=⟨I.ok.wish E,I.os,I.bare,I.base,I.loc,I.cell,I.free,I.freeC,I.pin,I.hok,I.len⟩
theorem Inv.unwish (I:Inv (X.wish E) pins σ H s):Inv X pins σ H s:=⟨I.ok.unwish,I.os,I.bare,I.base,I.loc,I.cell,I.free,I.freeC,I.pin,I.hok,I.len⟩
theorem SP.unwish {D:Ends}{f:Flow}{s':Shared} (h:SP (X.wish E) pins D f s'):SP X pins D f s':=by
 cases f with
 | next=>obtain⟨σ',H',I,q⟩:=h;exact⟨σ',H',I.unwish,q⟩
 | brk=>obtain⟨σ',H',I,q⟩:=h;exact⟨σ',H',I.unwish,q⟩
 | cont=>obtain⟨σ',H',I,q⟩:=h;exact⟨σ',H',I.unwish,q⟩
 | ret u=>obtain⟨v,σ',H',I,r,q⟩:=h;exact⟨v,σ',H',I.unwish,r,q⟩
theorem PSs.nox {st:List Stmt}{t:TS} (h:PSs X.nox st t):PSs X st t:=fun pins s σ H D I hw=>
 wpAny_mono (h pins s σ H D (I.wish _) hw) (fun _ _ q=>q.unwish) fun _ _ z=>False.elim z
end
section
variable {X:Cx}{st:Stmt}{rest:List Stmt}{t u:TS}{e:Expr}{te:TE}{pos:Pos}
def tNext:TS:=fun D σ H=>D.nx σ H
def tSeq (t u:TS):TS:=fun D σ H=>t { D with nx:=u D } σ H
theorem pss_nil:PSs X [] tNext:=fun _ _ σ H _ I h=>wpAny_execs_nil ⟨σ,H,I,h⟩
theorem pss_cons (h1:PS X st t) (h2:PSs X rest u):PSs X (st::rest) (tSeq t u):=by
 intro pins s σ H D I h
 refine wpAny_execs_cons (thn (h1 pins s σ H { D with nx:=u D } I h) fun f s1 q=>?_)
 cases f with
 | next=>
  obtain⟨σ',H',I',q⟩:=q
  exact h2 pins s1 σ' H' D I' q
 | ret v=>exact q
 | brk=>exact q
 | cont=>exact q
theorem pss_one (h1:PS X st t):PSs X [st] t:=by
 intro pins s σ H D I h
 refine wpAny_execs_cons (thn (h1 pins s σ H D I h) fun f s1 q=>?_)
 cases f with
 | next=>exact wpAny_execs_nil q
 | ret v=>exact q
 | brk=>exact q
 | cont=>exact q
theorem Inv.quiet {pins:List (Addr×Obj)} {σ:St} {H:Hp}{s:Shared} (I:Inv X pins σ H s):interactive X.env=false:=by simp [interactive,I.ok.kind]
def tDrop (te:TE):TS:=fun D σ H=>te σ H fun _ H1=>D.nx σ H1
theorem ps_expr (he:PE X e te) (hs:swapsWith e none pos.line X.env=pure false:=by rfl):PS X (.Expr e pos) (tDrop te):=by
 intro pins s σ H D I h
 exact wpAny_Expr_any (thn (he pins s σ H _ I h) fun v s1 ⟨x,H1,I1,r1,q1⟩=>⟨σ,H1,I1,q1⟩) I.quiet hs
def tRet (te:TE):TS:=fun D σ H=>te σ H D.rt
theorem ps_ret (he:PE X e te):PS X (.Return (some e) pos) (tRet te):=by
 intro pins s σ H D I h
 exact wpAny_Return_some (thn (he pins s σ H _ I h) fun v s1 ⟨x,H1,I1,r1,q1⟩=>⟨x,σ,H1,I1,r1,q1⟩)
def tIfS (c:TT) (t u:TS):TS:=fun D σ H=>c σ H fun b H1=>if b=true then t D σ H1 else u D σ H1
theorem ps_if {c:Expr}{a b:List Stmt}{tc:TT} (hc:PT X c tc) (ha:PSs X a t) (hb:PSs X b u):PS X (.If c a b pos) (tIfS tc t u):=by
 intro pins s σ H D I h
 refine wpAny_If (thn (hc pins s σ H _ I h) fun d s1 ⟨H1,I1,q1⟩=>?_)
 cases d with
 | true=>exact ha pins s1 σ H1 D I1 q1
 | false=>exact hb pins s1 σ H1 D I1 q1
end
abbrev TG:=V->St->Hp->(St->Hp->Prop)->Prop
abbrev TGs:=List V->St->Hp->(St->Hp->Prop)->Prop
def PG (X:Cx) (target:Expr) (t:TG):Prop:=
 ∀ (pins:List (Addr×Obj)) (s:Shared) (σ:St) (H:Hp) (v:V) (u:Value) (Q:St->Hp->Prop),Inv X pins σ H s->RelV v u->t v σ H Q ->
  wpAny (model X.prog X.w) X.A (assign target X.env u) (fun _ s'=>∃ σ' H',Inv X pins σ' H' s'/\Q σ' H') X.xe s
def PGs (X:Cx) (ts:List Expr) (t:TGs):Prop:=
 ∀ (pins:List (Addr×Obj)) (s:Shared) (σ:St) (H:Hp) (vs:List V) (us:List Value) (Q:St->Hp->Prop),Inv X pins σ H s->Vals vs us->t vs σ H Q ->
  wpAny (model X.prog X.w) X.A (assignInOrder ((assignEach ts X.env).map (·.2)) us) (fun _ s'=>∃ σ' H',Inv X pins σ' H' s'/\Q σ' H') X.xe s
abbrev TSet:=V->V->V->Hp->(Hp->Prop)->Prop
def PSet (X:Cx) (t:TSet):Prop:=
 ∀ (pins:List (Addr×Obj)) (s:Shared) (σ:St) (H:Hp) (o i v:V) (ov iv u:Value) (Q:Hp->Prop),Inv X pins σ H s->RelV o ov->RelV i iv->RelV v u->t o i v H Q ->
  wpAny (model X.prog X.w) X.A (setItem ov iv u) (fun _ s'=>∃ H',Inv X pins σ H' s'/\Q H') X.xe s
section
variable {X:Cx}{pos:Pos}
def gName (i:Nat):TG:=fun v σ H Q=>Q (σ.set i (some v)) H
theorem pg_name {i:Nat}{x:Str} (hN:X.N.Nodup) (hi:X.N[i]?=some x) (hx:Loc X.env.scope x) (hf:X.fn x=true\/X.env.scope.names.lookup x=some .local:=by first | exact .inl rfl | exact .inr rfl | assumption):PG X (.Name x pos) (gName i):=by
 intro pins s σ H v u Q I r h
 exact wpAny_assign_Name (store_ok I hN hi hx r (fun s' I'=>⟨_,H,I',h⟩) hf)
def gNil:TGs:=fun vs σ H Q=>vs=[]/\Q σ H
def gCons (t:TG) (u:TGs):TGs:=fun vs σ H Q=>∃ v r,vs=v::r/\t v σ H fun σ' H'=>u r σ' H' Q
theorem pgs_nil:PGs X [] gNil:=by
 intro pins s σ H vs us Q I r h
 obtain⟨e,h⟩:=h
 subst e
 cases r
 exact assignInOrder_nil ⟨σ,H,I,h⟩
theorem pgs_cons {e:Expr}{es:List Expr}{t:TG}{u:TGs} (h1:PG X e t) (h2:PGs X es u)
  (hs:(assignEach (e::es) X.env).map (·.2)=assign e X.env::(assignEach es X.env).map (·.2):=by rfl):PGs X (e::es) (gCons t u):=by
 intro pins s σ H vs us Q I r h
 obtain⟨v,vr,e1,h⟩:=h
 subst e1
 cases r with
 | cons r rr=>
  rw[hs]
  refine assignInOrder_cons (thn (h1 pins s σ H _ _ _ I r h) fun _ s1 ⟨σ1,H1,I1,q1⟩=>?_)
  exact h2 pins s1 σ1 H1 _ _ Q I1 rr q1
def gTup (K:PySem.W.Frag) (n:Nat) (t:TGs):TG:=fun v σ H Q=>∃ a xs,v=.ref a/\SqT K H a xs/\xs.length=n/\t xs σ H Q
theorem pg_tup {es:List Expr}{k:Nat}{t:TGs}{n:Nat} (hc:X.calm=true) (h:PGs X es t)
  (hn:(assignEach es X.env).length=n:=by rfl) (hst:(assignEach es X.env).findIdx? (·.1)=none:=by rfl):PG X (.Tuple es k pos) (gTup X.K n t):=by
 intro pins s σ H v u Q I r hw
 obtain⟨a,xs,e1,hq,hl,hw⟩:=hw
 subst e1
 cases r
 obtain⟨its,rv,ht,hz⟩:=I.tuple hq
 refine assign_Tuple_tuple (I.ok.hd hc) ht (by simp [hn,<- hl,rv.length]) hst fun h' hx=>?_
 have I1:Inv X pins σ H { s with heap:=h' }:=I.kept (t':=s.toks) fun b o e=>hx b o (Nat.ne_of_lt (Heap.lt_size e)) e
 exact h pins _ σ H xs _ Q I1 (by simpa using rv) hw
def gSub (to ti:TE) (t:TSet):TG:=fun v σ H Q=>to σ H fun o H1=>ti σ H1 fun i H2=>t o i v H2 fun H3=>Q σ H3
theorem pg_sub {o i:Expr}{to ti:TE}{t:TSet} (ho:PE X o to) (hi:PE X i ti) (hs:PSet X t)
  (ha:∀ v,assign (.Subscript o i pos) X.env v=(do
   let ov <- holding [v] (eval o X.env)
   let iv <- holding [v,ov] (eval i X.env)
   standAt pos
   holding [v,ov,iv] (setItem ov iv v)
   release [v,ov,iv] []):=by intro _;rfl):PG X (.Subscript o i pos) (gSub to ti t):=by
 intro pins s σ H v u Q I r h
 rw[ha]
 refine wpAny_bind (wpAny_holding (thn (ho pins s σ H _ I h) fun ov s1 ⟨x,H1,I1,r1,q1⟩=>?_))
 refine wpAny_bind (wpAny_holding (thn (hi pins s1 σ H1 _ I1 q1) fun iv s2 ⟨y,H2,I2,r2,q2⟩=>?_))
 refine wpAny_bind (wpAny_standAt (wpAny_bind (wpAny_holding (thn (hs pins s2 σ H2 x y v ov iv u _ I2 r1 r2 r q2) fun _ s3 ⟨H3,I3,q3⟩=>?_))))
 exact wpAny_release ⟨σ,H3,I3,q3⟩
def tAsg (te:TE) (g:TG):TS:=fun D σ H=>te σ H fun x H1=>g x σ H1 D.nx
theorem ps_asg {tg e:Expr}{te:TE}{g:TG} (he:PE X e te) (hg:PG X tg g) (hs:swapsWithSole [tg] e pos.line X.env=pure false:=by rfl) (hw:swappedStores [tg] e X.env=pure none:=by rfl)
  (h1:(assignEach [tg] X.env).map (·.2)=[assign tg X.env]:=by rfl):PS X (.Assign [tg] e pos) (tAsg te g):=by
 intro pins s σ H D I h
 refine wpAny_Assign_stores (thn (he pins s σ H _ I h) fun v s1 ⟨x,H1,I1,r1,q1⟩=>?_) hs hw
 rw[h1]
 exact thn (hg pins s1 σ H1 x v _ I1 r1 q1) fun _ s2 q=>q
theorem ps_set {i:Nat}{x:Str}{e:Expr}{te:TE}{pos':Pos} (hN:X.N.Nodup) (hi:X.N[i]?=some x) (hx:Loc X.env.scope x) (he:PE X e te) (hs:swapsWith e (some (.Name x pos')) pos.line X.env=pure false:=by rfl) (hf:X.fn x=true\/X.env.scope.names.lookup x=some .local:=by first | exact .inl rfl | exact .inr rfl | assumption) :
  PS X (.Assign [.Name x pos'] e pos) (tAsg te (gName i)):=by
 intro pins s σ H D I h
 refine wpAny_Assign_Name (thn (he pins s σ H _ I h) fun v s1 ⟨y,H1,I1,r1,q1⟩=>?_) hs
 exact store_ok I1 hN hi hx r1 (fun s2 I2=>⟨_,H1,I2,q1⟩) hf
end
section
variable {X:Cx}{pos:Pos}
def tWhile (c:TT) (tb:TS):TS:=fun D σ H=>∃ W:Nat->St->Hp->Prop,(∃ m,W m σ H)/\∀ m σ H,W m σ H ->
 c σ H fun b H1=>if b=true then ∃ N:St->Hp->Prop,(∀ σ' H',N σ' H'->∃ m',m'<m/\W m' σ' H')/\tb { D with nx:=N,ct:=N,bk:=D.nx } σ H1 else D.nx σ H1
theorem ps_while {c:Expr}{body:List Stmt}{tc:TT}{tb:TS} (hp:PassesOwn (model X.prog X.w) X.A X.env X.xe) (hc:PT X c tc) (hb:PSs X body tb):PS X (.While c body [] pos) (tWhile tc tb):=by
 intro pins s σ H D I h
 obtain⟨W,⟨m0,w0⟩,turn⟩:=h
 refine wpAny_While (codeAny_whileLoop (fun n s'=>∃ σ' H',Inv X pins σ' H' s'/\W n σ' H') ?_ m0 ⟨σ,H,I,w0⟩)
 rintro n s1 ⟨σ1,H1,I1,w1⟩
 refine wpAny_passesOwn hp (thn (hc pins s1 σ1 H1 _ I1 (turn n σ1 H1 w1)) fun b s2 ⟨H2,I2,q2⟩=>?_)
 cases b with
 | true=>
  obtain⟨N,hN,q2⟩:=q2
  rw[if_pos rfl]
  refine wpAny_passesOwn hp (thn (hb pins s2 σ1 H2 _ I2 q2) fun f s3 q3=>?_)
  cases f with
  | next=>
   obtain⟨σ3,H3,I3,n3⟩:=q3
   obtain⟨m',hm,w3⟩:=hN σ3 H3 n3
   exact⟨m',hm,σ3,H3,I3,w3⟩
  | cont=>
   obtain⟨σ3,H3,I3,n3⟩:=q3
   obtain⟨m',hm,w3⟩:=hN σ3 H3 n3
   exact⟨m',hm,σ3,H3,I3,w3⟩
  | brk=>exact q3
  | ret v=>exact q3
 | false=>
  rw[if_neg Bool.false_ne_true]
  exact wpAny_execs_nil ⟨σ1,H2,I2,q2⟩
end
structure It where
 go:Nat->Hp->Prop
 yld:Nat->Hp->V->Hp->Prop
 stop:Nat->Hp->Prop
def FpOk (X:Cx) (pins:List (Addr×Obj)) (H:Hp) (b:Addr):Prop:=
 H b=none/\b≠X.env.locals/\b ∉ X.fs/\(b∈X.ex\/X.s₀.heap.objs.size<=b)/\(∀ x c,X.env.cells.lookup x=some c->c≠b)/\∀ p∈X.pn++pins,p.1≠b
theorem Inv.fpOk {X:Cx}{pins:List (Addr×Obj)} {σ:St} {H H':Hp}{s:Shared}{b:Addr} (I:Inv X pins σ H s) (hb:s.heap.objs.size<=b) (hn:H' b=none):FpOk X pins H' b:=by
 refine⟨hn,Nat.ne_of_gt (Nat.lt_of_lt_of_le I.lt hb),I.nofs hb,.inr (Nat.le_trans I.sz hb),fun x c e z=>?_,fun p hp z=>?_⟩
 ·obtain⟨v,q⟩:=I.cell x c e
  exact absurd (Nat.lt_of_lt_of_le q.lt (by rw[z];exact hb)) (Nat.lt_irrefl _)
 ·exact absurd (Nat.lt_of_lt_of_le (Heap.lt_size (I.pin p hp).1) (by rw[z];exact hb)) (Nat.lt_irrefl _)
structure Turn (P:Program) (w:World) (K:PySem.W.Frag) (tg:Expr) (J:It) (fp:List Addr) (it:Addr) (tn:Nat->Heap->Prop):Prop where
 mem:it∈fp
 obj:∀ i h,tn i h->∀ b∈fp,∃ o,h.get? b=some o/\∀ v,o.data≠.cell v
 keep:∀ i h h',tn i h->(∀ b∈fp,∀ o,h.get? b=some o->h'.get? b=some o)->tn i h'
 item:∀ (X:Cx),X.prog=P->X.w=w->X.K=K->X.calm=true->∀ (i:Nat) (pins:List (Addr×Obj)) (s:Shared) (σ:St) (H:Hp) (E:Value->Shared->Prop),Inv X pins σ H s->(∀ b∈fp,FpOk X pins H b)->tn i s.heap->J.go i H ->
  wpAny (model P w) X.A (pyNext (.ref it)) (fun r s1=>∃ u,r=some u /\
   wpAny (model P w) X.A (letOwnedTupleGo tg (.ref it) u) (fun _ s2=>∃ x H',Inv X pins σ H' s2/\RelV x u/\J.yld i H x H'/\tn (i+1) s2.heap/\∀ b∈fp,H' b=none) E s1) E s
 done:∀ (X:Cx),X.prog=P->X.w=w->X.K=K->X.calm=true->∀ (i:Nat) (pins:List (Addr×Obj)) (s:Shared) (σ:St) (H:Hp) (E:Value->Shared->Prop),Inv X pins σ H s->(∀ b∈fp,FpOk X pins H b)->tn i s.heap->J.stop i H ->
  wpAny (model P w) X.A (pyNext (.ref it)) (fun r s1=>r=none/\Inv X pins σ H s1) E s
 self:∀ (A:Around) (i:Nat) (s:Shared) (Q:Value->Shared->Prop) (E:Value->Shared->Prop),tn i s.heap->Q (.ref it) s->wpAny (model P w) A (pyIter (.ref it)) Q E s
abbrev TI:=St->Hp->(It->Hp->Prop)->Prop
def PIE (X:Cx) (pins:List (Addr×Obj)) (σ:St) (tg:Expr) (R:It->Hp->Prop) (itv:Value) (s2:Shared):Prop:=
 ∃ (it:Addr) (fp:List Addr) (tn:Nat->Heap->Prop) (J:It) (H':Hp),itv=.ref it/\Inv X pins σ H' s2/\Turn X.prog X.w X.K tg J fp it tn/\tn 0 s2.heap/\(∀ b∈fp,FpOk X pins H' b)/\R J H'
def PI (X:Cx) (tg iter:Expr) (wi:TI):Prop:=
 ∀ (pins:List (Addr×Obj)) (s:Shared) (σ:St) (H:Hp) (R:It->Hp->Prop),Inv X pins σ H s->wi σ H R ->
  wpAny (model X.prog X.w) X.A (eval iter X.env) (fun v s1=>wpAny (model X.prog X.w) X.A (pyIter v) (PIE X pins σ tg R) X.xe s1) X.xe s
theorem go_of {M:Model}{A:Around}{E:Value->Shared->Prop}{s:Shared}{tg:Expr}{it:Addr}{u:Value}{o:Obj}{n:String}{vs:Array Value}{Q:Unit->Shared->Prop} (ho:s.heap.get? it=some o) (hc:o.cls=.type n) (hd:o.data=.fields vs)
    (hn:["enumerate","zip","dict_itemiterator","dict_reverseitemiterator","odict_iterator","itertools.zip_longest","itertools.pairwise"].contains n=false) (hQ:Q () s):wpAny M A (letOwnedTupleGo tg (.ref it) u) Q E s:=by
  unfold letOwnedTupleGo
  cases tg <;> first
    | exact wpAny_pure hQ
    | (cases u <;> first
        | exact wpAny_pure hQ
        | (refine wpAny_bind (wpAny_load ho ?_)
           rw[hc,hd]
           show wpAny M A (if (["enumerate","zip","dict_itemiterator","dict_reverseitemiterator","odict_iterator","itertools.zip_longest","itertools.pairwise"].contains n && vs[0]? == some (rawInt _))=true then _ else _) Q E s
           rw[if_neg (by intro h;rw[hn,Bool.false_and]at h;cases h)]
           exact wpAny_pure hQ))
def Itl (K:PySem.W.Frag) (a:Addr):It:=
 ⟨fun i H=>∃ xs x,SqL K H a xs/\xs[i]?=some x,fun i H x H'=>H'=H/\∀ xs,SqL K H a xs->xs[i]?=some x,fun i H=>∃ xs,SqL K H a xs/\xs.length<=i⟩
def Itt (K:PySem.W.Frag) (a:Addr):It:=
 ⟨fun i H=>∃ xs x,SqT K H a xs/\xs[i]?=some x,fun i H x H'=>H'=H/\∀ xs,SqT K H a xs->xs[i]?=some x,fun i H=>∃ xs,SqT K H a xs/\xs.length<=i⟩
def Itr (lo:Int) (n:Nat):It:=⟨fun i _=>i<n,fun i H x H'=>H'=H/\x=.int (lo+i),fun i _=>n<=i⟩
theorem turn_list {P:Program}{w:World}{K:PySem.W.Frag}{tg:Expr} (a it:Addr):Turn P w K tg (Itl K a) [it] it (fun i h=>h.IsListIter it a i) where
 mem:=by simp
 obj:=fun i h st b hb=>by
  have e:b=it:=by simpa using hb
  subst e
  obtain⟨o,e,c,d⟩:=st
  exact⟨o,e,fun v z=>by rw[d]at z;cases z⟩
 keep:=fun i h h' st k=>st.at fun o e=>k it (by simp) o e
 item:=by
  intro X hP hw hK hc i pins s σ H E I hf st hg
  subst hP hw hK
  obtain⟨xs,x,hq,hx⟩:=hg
  obtain⟨its,rv,p,hz⟩:=I.list hq
  obtain⟨u,hu,ru⟩:=rv.get hx
  obtain⟨f0,f1,f2,f3,f4,f5⟩:=hf it (by simp)
  refine wpAny_pyNext_list_item st p.isList (x:=u) (by simpa using hu) fun h' st' sb=>?_
  have I1:Inv X pins σ H { s with heap:=h' }:=I.turned (t':=s.toks) (fun b o hb e=>(sb.2 b hb).trans e) f0 f1 f3 f4 f5
  obtain⟨o,e,c,d⟩:=id st'
  exact⟨u,rfl,go_of (s:={ s with heap:=h' }) e c d (by decide) ⟨x,H,I1,ru,⟨rfl,fun ys hy=>by rw[I.list_inj hy hq];exact hx⟩,st',fun b hb=>(hf b hb).1⟩⟩
 done:=by
  intro X hP hw hK hc i pins s σ H E I hf st hg
  subst hP hw hK
  obtain⟨xs,hq,hx⟩:=hg
  obtain⟨its,rv,p,hz⟩:=I.list hq
  obtain⟨f0,f1,f2,f3,f4,f5⟩:=hf it (by simp)
  have hl:=rv.length
  exact wpAny_pyNext_list_end (I.ok.hd hc) st p.isList (by simp;lia) fun h' eb=>⟨rfl,I.turned (t':=s.toks) (fun b o hb e=>eb b o hb e) f0 f1 f3 f4 f5⟩
 self:=fun _ _ _ _ _ st h=>wpAny_pyIter_listiter st h
theorem turn_tuple {P:Program}{w:World}{K:PySem.W.Frag}{tg:Expr} (a it:Addr):Turn P w K tg (Itt K a) [it] it (fun i h=>h.IsTupleIter it a i) where
 mem:=by simp
 obj:=fun i h st b hb=>by
  have e:b=it:=by simpa using hb
  subst e
  obtain⟨o,e,c,d⟩:=st
  exact⟨o,e,fun v z=>by rw[d]at z;cases z⟩
 keep:=fun i h h' st k=>st.at fun o e=>k it (by simp) o e
 item:=by
  intro X hP hw hK hc i pins s σ H E I hf st hg
  subst hP hw hK
  obtain⟨xs,x,hq,hx⟩:=hg
  obtain⟨its,rv,p,hz⟩:=I.tuple hq
  obtain⟨u,hu,ru⟩:=rv.get hx
  obtain⟨f0,f1,f2,f3,f4,f5⟩:=hf it (by simp)
  refine wpAny_pyNext_tuple_item st (show s.heap.IsTuple a its.toArray from p) (x:=u) (by simpa using hu) fun h' st' sb=>?_
  have I1:Inv X pins σ H { s with heap:=h' }:=I.turned (t':=s.toks) (fun b o hb e=>(sb.2 b hb).trans e) f0 f1 f3 f4 f5
  obtain⟨o,e,c,d⟩:=id st'
  exact⟨u,rfl,go_of (s:={ s with heap:=h' }) e c d (by decide) ⟨x,H,I1,ru,⟨rfl,fun ys hy=>by rw[I.tuple_inj hy hq];exact hx⟩,st',fun b hb=>(hf b hb).1⟩⟩
 done:=by
  intro X hP hw hK hc i pins s σ H E I hf st hg
  subst hP hw hK
  obtain⟨xs,hq,hx⟩:=hg
  obtain⟨its,rv,p,hz⟩:=I.tuple hq
  obtain⟨f0,f1,f2,f3,f4,f5⟩:=hf it (by simp)
  have hl:=rv.length
  exact wpAny_pyNext_tuple_end (I.ok.hd hc) st (show s.heap.IsTuple a its.toArray from p) (by simp;lia) fun h' eb=>⟨rfl,I.turned (t':=s.toks) (fun b o hb e=>eb b o hb e) f0 f1 f3 f4 f5⟩
 self:=fun _ _ _ _ _ st h=>wpAny_pyIter_tupleiter st h
theorem turn_range {P:Program}{w:World}{K:PySem.W.Frag}{tg:Expr} (it:Addr) (lo:Int) (n:Nat):Turn P w K tg (Itr lo n) [it] it (fun i h=>IsRangeIter h it (lo+(i:Nat) * 1) ((n:Int)-(i:Nat)) 1) where
 mem:=by simp
 obj:=fun i h st b hb=>by
  have e:b=it:=by simpa using hb
  subst e
  exact⟨_,st,fun v z=>by
   have z':Data.fields _=Data.cell v:=z
   cases z'⟩
 keep:=fun i h h' st k=>k it (by simp) _ st
 item:=by
  intro X hP hw hK hc i pins s σ H E I hf st hg
  subst hP hw hK
  obtain⟨f0,f1,f2,f3,f4,f5⟩:=hf it (by simp)
  have W:=Walks.range (prog:=X.prog) (w:=X.w) (I.ok.hd hc) it lo 1 n
  refine W.item i s _ _ hg st fun v h' tk hv st' kk=>?_
  obtain⟨t,rfl⟩:=hv
  have I1:Inv X pins σ H { s with heap:=h',toks:=tk }:=I.turned (fun b o hb e=>kk b o (by simpa using hb) e) f0 f1 f3 f4 f5
  refine⟨_,rfl,go_of (s:={ s with heap:=h',toks:=tk }) (n:="range_iterator") st' rfl rfl (by decide) ⟨.int (lo+i),H,I1,⟨t,?_⟩,⟨rfl,rfl⟩,st',fun b hb=>(hf b hb).1⟩⟩
  rw[Int.mul_one]
 done:=by
  intro X hP hw hK hc i pins s σ H E I hf st hg
  subst hP hw hK
  obtain⟨f0,f1,f2,f3,f4,f5⟩:=hf it (by simp)
  exact wpAny_pyNext_range_end (I.ok.hd hc) st (by have:n<=i:=hg;lia) fun h' eb=>⟨rfl,I.turned (t':=s.toks) (fun b o hb e=>eb b o hb e) f0 f1 f3 f4 f5⟩
 self:=fun _ _ _ _ _ st h=>wpAny_pyIter_rangeiter st h
end L2
namespace L2
open PySem PySem.Spec PyProof.Rows
section
variable {X:Cx}{tg:Expr}
def iList (K:PySem.W.Frag) (tl:TE):TI:=fun σ H R=>tl σ H fun x H1=>∃ a,x=.ref a/\(∃ xs,SqL K H1 a xs)/\R (Itl K a) H1
def iTup (K:PySem.W.Frag) (tl:TE):TI:=fun σ H R=>tl σ H fun x H1=>∃ a,x=.ref a/\(∃ xs,SqT K H1 a xs)/\R (Itt K a) H1
theorem pi_list {l:Expr}{tl:TE} (hl:PE X l tl):PI X tg l (iList X.K tl):=by
 intro pins s σ H R I h
 refine thn (hl pins s σ H _ I h) fun v s1 ⟨x,H1,I1,r1,q1⟩=>?_
 obtain⟨a,e,⟨xs,hq⟩,q⟩:=q1
 subst e
 cases r1
 obtain⟨its,rv,p,hz⟩:=I1.list hq
 refine wpAny_pyIter_list p.isList ?_
 refine⟨s1.heap.objs.size,[s1.heap.objs.size],_,_,H1,rfl,I1.kept (t':=s1.toks) fun b o e=>Heap.get?_push_of_some _ e,turn_list a _,⟨_,Heap.get?_push_size _ rfl,rfl,rfl⟩,fun b hb=>?_,q⟩
 have e:b=s1.heap.objs.size:=by simpa using hb
 subst e
 exact I1.fpOk (Nat.le_refl _) (I1.hok.fresh (Nat.le_refl _))
theorem pi_tup {l:Expr}{tl:TE} (hl:PE X l tl):PI X tg l (iTup X.K tl):=by
 intro pins s σ H R I h
 refine thn (hl pins s σ H _ I h) fun v s1 ⟨x,H1,I1,r1,q1⟩=>?_
 obtain⟨a,e,⟨xs,hq⟩,q⟩:=q1
 subst e
 cases r1
 obtain⟨its,rv,p,hz⟩:=I1.tuple hq
 refine wpAny_pyIter_tuple (show s1.heap.IsTuple a its.toArray from p) ?_
 refine⟨s1.heap.objs.size,[s1.heap.objs.size],_,_,H1,rfl,I1.kept (t':=s1.toks) fun b o e=>Heap.get?_push_of_some _ e,turn_tuple a _,⟨_,Heap.get?_push_size _ rfl,rfl,rfl⟩,fun b hb=>?_,q⟩
 have e:b=s1.heap.objs.size:=by simpa using hb
 subst e
 exact I1.fpOk (Nat.le_refl _) (I1.hok.fresh (Nat.le_refl _))
theorem range_it {pins:List (Addr×Obj)} {σ:St} {H:Hp}{s:Shared}{R:It->Hp->Prop}{E:Value->Shared->Prop}{lo hi:Int}{t u v:Tok}{tk:Nat} (I:Inv X pins σ H s) (h1:-(2 ^ 62)<=lo) (h2:lo<2 ^ 62) (h3:-(2 ^ 62)<=hi) (h4:hi<2 ^ 62)
  (q:R (Itr lo (hi-lo).toNat) H):wpAny (model X.prog X.w) X.A (pyIter (.ref s.heap.objs.size)) (PIE X pins σ tg R) E { s with heap:=s.heap.push { cls:=.type "range",data:=.fields #[.int lo t,.int hi u,.int 1 v] },toks:=tk }:=by
 refine wpAny_pyIter_range (IsRange.new ..) (small_one h1 h2 h3 h4) ?_
 have I1:Inv X pins σ H { s with heap:=s.heap.push { cls:=.type "range",data:=.fields #[.int lo t,.int hi u,.int 1 v] },toks:=tk }:=I.kept fun b o e=>Heap.get?_push_of_some _ e
 refine⟨(s.heap.push { cls:=.type "range",data:=.fields #[.int lo t,.int hi u,.int 1 v] }).objs.size,[(s.heap.push { cls:=.type "range",data:=.fields #[.int lo t,.int hi u,.int 1 v] }).objs.size],_,_,H,rfl,
  I1.kept (t':=tk) fun b o e=>Heap.get?_push_of_some _ e,turn_range _ lo (hi-lo).toNat,?_,fun b hb=>?_,q⟩
 ·have e1:lo+((0:Nat):Int) * 1=lo:=by simp
  have e2:(((hi-lo).toNat:Nat):Int)-((0:Nat):Int)=Builtin.Range.rangeSize lo hi 1:=by rw[rangeSize_one];split <;> lia
  show IsRangeIter _ _ (lo+((0:Nat):Int) * 1) ((((hi-lo).toNat:Nat):Int)-((0:Nat):Int)) 1
  rw[e1,e2]
  exact Heap.get?_push_size _ rfl
 ·have e:b=(s.heap.push { cls:=.type "range",data:=.fields #[.int lo t,.int hi u,.int 1 v] }).objs.size:=by simpa using hb
  subst e
  exact I1.fpOk (Nat.le_refl _) (I1.hok.fresh (Nat.le_refl _))
def iRng1 (ta:TA):TI:=fun σ H R=>ta σ H fun vs H1=>∃ j:Int,vs=[.int j]/\-(2 ^ 62)<=j/\j<2 ^ 62/\R (Itr 0 j.toNat) H1
theorem pi_range1 {a:Expr}{ta:TA}{p pos:Pos} (hg:Gl X "range") (hm:X.mg "range"=none) (ha:PA X [a] ta) (hs:starEach [a] X.env=[(false,eval a X.env)]:=by rfl):PI X tg (.Call (.Name "range" p) [a] [] pos) (iRng1 ta):=by
 intro pins s σ H R I h
 refine Call_ (ld_blt I hg hm boot_range (PyProof.Rows.callWith_type1 (thn (ha pos pins s σ H _ I h) fun us s1 ⟨vs,H1,I1,r1,q1⟩=>?_) hs rfl))
 obtain⟨j,e,q1,q2,q⟩:=q1
 subst e
 cases r1 with
 | cons r rr=>
  cases rr
  obtain⟨t,rfl⟩:=r
  exact call_range_1 (range_it I1 (by lia) (by lia) q1 q2 (by simpa using q))
def tFor (wi:TI) (g:TG) (tb:TS):TS:=fun D σ H=>wi σ H fun J H1=>∃ W:Nat->Nat->St->Hp->Prop,(∃ m,W 0 m σ H1)/\∀ i m σ H,W i m σ H ->
 (J.stop i H/\D.nx σ H)\/(J.go i H/\∃ N:St->Hp->Prop,(∀ σ' H',N σ' H'->∃ m',m'<m/\W (i+1) m' σ' H')/\∀ x H',J.yld i H x H'->g x σ H' fun σ2 H2=>tb { D with nx:=N,ct:=N,bk:=D.nx } σ2 H2)
def pinsAt (fp:List Addr) (h:Heap):List (Addr×Obj):=fp.filterMap fun b=>(h.get? b).map fun o=>(b,o)
theorem mem_pinsAt {fp:List Addr}{h:Heap}{b:Addr}{o:Obj} (hb:b∈fp) (e:h.get? b=some o):(b,o)∈pinsAt fp h:=List.mem_filterMap.mpr ⟨b,hb,by rw[e];rfl⟩
theorem of_pinsAt {fp:List Addr}{h:Heap}{p:Addr×Obj} (hp:p∈pinsAt fp h):p.1∈fp/\h.get? p.1=some p.2:=by
 obtain⟨b,hb,e⟩:=List.mem_filterMap.mp hp
 cases q:h.get? b with
 | none=>rw[q]at e;cases e
 | some o=>
  rw[q]at e
  have e':(b,o)=p:=Option.some.inj e
  subst e'
  exact⟨hb,q⟩
theorem Inv.pinned {pins:List (Addr×Obj)} {σ:St} {H:Hp}{s:Shared}{fp:List Addr} (I:Inv X pins σ H s) (hf:∀ b∈fp,FpOk X pins H b) (ho:∀ b∈fp,∃ o,s.heap.get? b=some o/\∀ v,o.data≠.cell v):Inv X (pins++pinsAt fp s.heap) σ H s:=
 I.pins_of fun p hp=>(List.mem_append.mp hp).elim (fun z=>I.pin p (List.mem_append_right _ z)) fun z=>by
  obtain⟨hb,e⟩:=of_pinsAt z
  obtain⟨f0,f1,f2,_⟩:=hf p.1 hb
  obtain⟨o,e',d⟩:=ho p.1 hb
  rw[e]at e';cases e'
  exact⟨e,f0,f1,f2,d⟩
theorem Inv.unpinned {pins pl:List (Addr×Obj)} {σ:St} {H:Hp}{s:Shared} (I:Inv X (pins++pl) σ H s):Inv X pins σ H s:=I.pins_of fun p hp=>I.pin p (List.mem_append_right _ (List.mem_append_left _ hp))
theorem ps_for {iter:Expr}{body:List Stmt}{wi:TI}{g:TG}{tb:TS}{pos:Pos} (hp:PassesOwn (model X.prog X.w) X.A X.env X.xe) (hc:X.calm=true) (hi:PI X tg iter wi) (hg:PG X tg g) (hb:PSs X body tb)
  (hs:∀ x,foldedSetIterable iter X.env x=pure x:=by intro _;rfl):PS X (.For tg iter body [] pos) (tFor wi g tb):=by
 intro pins s σ H D I h
 refine wpAny_For (thn (hi pins s σ H _ I h) fun v s1 h1=>thn h1 fun itv s2 h2=>?_) hs
 obtain⟨it,fp,tn,J,H2,e,I2,T,st2,f2,W,⟨m0,w0⟩,turn⟩:=h2
 subst e
 -- what stays true of the iterator's objects through the loop
 have stat:∀ {H':Hp},(∀ b∈fp,H' b=none)->∀ b∈fp,FpOk X pins H' b:=fun hn b hb=>⟨hn b hb,(f2 b hb).2⟩
 refine codeAny_forLoop_any (fun n s'=>∃ i σ' H',Inv X pins σ' H' s'/\tn i s'.heap/\(∀ b∈fp,H' b=none)/\W i n σ' H') ?_ m0 ⟨0,σ,H2,I2,st2,fun b hb=>(f2 b hb).1,w0⟩
 rintro n s3 ⟨i,σ3,H3,I3,st3,fr3,w3⟩
 rcases turn i n σ3 H3 w3 with ⟨stop,qn⟩ | ⟨go,N,hN,step⟩
 ·refine wpAny_passesOwn hp (thn (T.done X rfl rfl rfl hc i pins s3 σ3 H3 X.xe I3 (stat fr3) st3 stop) fun r s4 ⟨hr,I4⟩=>?_)
  subst hr
  exact wpAny_execs_nil ⟨σ3,H3,I4,qn⟩
 ·refine wpAny_passesOwn hp (thn (T.item X rfl rfl rfl hc i pins s3 σ3 H3 X.xe I3 (stat fr3) st3 go) fun r s4 ⟨u,hr,h4⟩=>?_)
  subst hr
  refine wpAny_passesOwn hp (thn h4 fun _ s5 ⟨x,H5,I5,r5,y5,st5,fr5⟩=>?_)
  have I5':=I5.pinned (stat fr5) (T.obj _ _ st5)
  refine wpAny_passesOwn hp (thn (hg _ s5 σ3 H5 x u _ I5' r5 (step x H5 y5)) fun _ s6 ⟨σ6,H6,I6,q6⟩=>?_)
  refine wpAny_passesOwn hp (thn (hb _ s6 σ6 H6 _ I6 q6) fun f s7 q7=>?_)
  have again:∀ {σ7:St} {H7:Hp},Inv X (pins++pinsAt fp s5.heap) σ7 H7 s7->N σ7 H7->∃ m,m<n/\∃ i σ' H',Inv X pins σ' H' s7/\tn i s7.heap/\(∀ b∈fp,H' b=none)/\W i m σ' H':=fun {σ7 H7} I7 n7=>by
   obtain⟨m',hm,w7⟩:=hN σ7 H7 n7
   refine⟨m',hm,i+1,σ7,H7,I7.unpinned,T.keep _ _ _ st5 fun b hb o e=>(I7.pin (b,o) (List.mem_append_right _ (List.mem_append_right _ (mem_pinsAt hb e)))).1,fun b hb=>?_,w7⟩
   obtain⟨o,e,d⟩:=T.obj _ _ st5 b hb
   exact (I7.pin (b,o) (List.mem_append_right _ (List.mem_append_right _ (mem_pinsAt hb e)))).2.1
  cases f with
  | next=>obtain⟨σ7,H7,I7,n7⟩:=q7;exact again I7 n7
  | cont=>obtain⟨σ7,H7,I7,n7⟩:=q7;exact again I7 n7
  | brk=>obtain⟨σ7,H7,I7,q7⟩:=q7;exact⟨σ7,H7,I7.unpinned,q7⟩
  | ret v=>obtain⟨x7,σ7,H7,I7,r7,q7⟩:=q7;exact⟨x7,σ7,H7,I7.unpinned,r7,q7⟩
end
theorem for_tup {K:PySem.W.Frag}{a:Addr}{xs:List V}{g:TG}{tb:TS}{D:Ends} {σ:St} {H:Hp} (Pv:Nat->St->Hp->Prop) (h0:Pv 0 σ H) (hl:∀ i σ H,i<=xs.length->Pv i σ H->SqT K H a xs)
  (hs:∀ i x σ H,xs[i]?=some x->Pv i σ H->g x σ H fun σ2 H2=>tb { D with nx:=Pv (i+1),ct:=Pv (i+1),bk:=D.nx } σ2 H2) (hd:∀ σ H,Pv xs.length σ H->D.nx σ H) :
  ∃ W:Nat->Nat->St->Hp->Prop,(∃ m,W 0 m σ H)/\∀ i m σ H,W i m σ H ->
   ((Itt K a).stop i H/\D.nx σ H)\/((Itt K a).go i H/\∃ N:St->Hp->Prop,(∀ σ' H',N σ' H'->∃ m',m'<m/\W (i+1) m' σ' H')/\∀ x H',(Itt K a).yld i H x H'->g x σ H' fun σ2 H2=>tb { D with nx:=N,ct:=N,bk:=D.nx } σ2 H2):=by
 refine⟨fun i m σ H=>m=xs.length-i/\i<=xs.length/\Pv i σ H,⟨xs.length,by simp,Nat.zero_le _,h0⟩,?_⟩
 rintro i m σ H ⟨rfl,hi,p⟩
 have q:=hl i σ H hi p
 by_cases hlt:i<xs.length
 ·refine .inr ⟨⟨xs,xs[i],q,by simp [hlt]⟩,Pv (i+1),fun σ' H' p'=>⟨xs.length-(i+1),by lia,rfl,hlt,p'⟩,fun x H' y=>?_⟩
  obtain⟨e,y⟩:=y
  subst e
  exact hs i x σ _ (y xs q) p
 ·have e:i=xs.length:=by lia
  subst e
  exact .inl ⟨⟨xs,q,Nat.le_refl _⟩,hd σ H p⟩
theorem for_range {lo:Int}{n:Nat}{g:TG}{tb:TS}{D:Ends} {σ:St} {H:Hp} (Pv:Nat->St->Hp->Prop) (h0:Pv 0 σ H)
  (hs:∀ i σ H,i<n->Pv i σ H->g (.int (lo+i)) σ H fun σ2 H2=>tb { D with nx:=Pv (i+1),ct:=Pv (i+1),bk:=D.nx } σ2 H2) (hd:∀ σ H,Pv n σ H->D.nx σ H) :
  ∃ W:Nat->Nat->St->Hp->Prop,(∃ m,W 0 m σ H)/\∀ i m σ H,W i m σ H ->
   ((Itr lo n).stop i H/\D.nx σ H)\/((Itr lo n).go i H/\∃ N:St->Hp->Prop,(∀ σ' H',N σ' H'->∃ m',m'<m/\W (i+1) m' σ' H')/\∀ x H',(Itr lo n).yld i H x H'->g x σ H' fun σ2 H2=>tb { D with nx:=N,ct:=N,bk:=D.nx } σ2 H2):=by
 refine⟨fun i m σ H=>m=n-i/\i<=n/\Pv i σ H,⟨n,by simp,Nat.zero_le _,h0⟩,?_⟩
 rintro i m σ H ⟨rfl,hi,p⟩
 by_cases hlt:i<n
 ·refine .inr ⟨hlt,Pv (i+1),fun σ' H' p'=>⟨n-(i+1),by lia,rfl,hlt,p'⟩,fun x H' y=>?_⟩
  obtain⟨e,y⟩:=y
  subst e y
  exact hs i σ _ hlt p
 ·have e:i=n:=by lia
  subst e
  exact .inl ⟨Nat.le_refl _,hd σ H p⟩
end L2
namespace L2
open PySem PySem.Spec PyProof.Rows
abbrev R2:=V->V->Hp->VK->Prop
def OpR (X:Cx) (f:Value->Value->Sem Value) (r:R2):Prop:=
 ∀ (pins:List (Addr×Obj)) (s:Shared) (σ:St) (H:Hp) (x y:V) (v u:Value) (Q:VK),Inv X pins σ H s->RelV x v->RelV y u->r x y H Q ->
  wpAny (model X.prog X.w) X.A (f v u) (EP X pins σ Q) X.xe s
def UnR (X:Cx) (f:Value->Sem Value) (r:V->Hp->VK->Prop):Prop:=
 ∀ (pins:List (Addr×Obj)) (s:Shared) (σ:St) (H:Hp) (x:V) (v:Value) (Q:VK),Inv X pins σ H s->RelV x v->r x H Q ->
  wpAny (model X.prog X.w) X.A (f v) (EP X pins σ Q) X.xe s
def CallR (X:Cx) (f:Value) (r:List V->Hp->VK->Prop):Prop:=
 ∀ (pins:List (Addr×Obj)) (s:Shared) (σ:St) (H:Hp) (xs:List V) (us:List Value) (Q:VK),Inv X pins σ H s->Vals xs us->r xs H Q ->
  wpAny (model X.prog X.w) X.A (call f us) (EP X pins σ Q) X.xe s
def TruR (X:Cx) (r:V->Hp->(Bool->Hp->Prop)->Prop):Prop:=
 ∀ (pins:List (Addr×Obj)) (s:Shared) (σ:St) (H:Hp) (x:V) (v:Value) (Q:Bool->Hp->Prop),Inv X pins σ H s->RelV x v->r x H Q ->
  wpAny (model X.prog X.w) X.A (truthy v) (TP X pins σ Q) X.xe s
def tOp (r:R2) (ta tb:TE):TE:=fun σ H Q=>ta σ H fun x H1=>tb σ H1 fun y H2=>r x y H2 Q
def tUn (r:V->Hp->VK->Prop) (ta:TE):TE:=fun σ H Q=>ta σ H fun x H1=>r x H1 Q
def rI (C:Int->Int->Prop) (g:Int->Int->V):R2:=fun x y H Q=>∃ i j,x=.int i/\y=.int j/\C i j/\Q (g i j) H
def rI0 (g:Int->Int->V):R2:=fun x y H Q=>∃ i j,x=.int i/\y=.int j/\Q (g i j) H
def rU (g:Int->V):V->Hp->VK->Prop:=fun x H Q=>∃ i,x=.int i/\Q (g i) H
section
variable {X:Cx}{a b c:Expr}{ta tb tc:TE}{pos:Pos}
theorem binT (ha:PE X a ta) (hb:PE X b tb) {pins:List (Addr×Obj)}{s:Shared} {σ:St} {H:Hp}{R:V->V->Hp->Prop} (I:Inv X pins σ H s)
  (h:ta σ H fun x H1=>tb σ H1 fun y H2=>R x y H2) {Q:Value->Shared->Prop}{f:Value->Value->Sem Value}
  (hf:∀ v u s2 x y H2,Inv X pins σ H2 s2->RelV x v->RelV y u->R x y H2->wpAny (model X.prog X.w) X.A (f v u) Q X.xe s2) :
  wpAny (model X.prog X.w) X.A (eval a X.env) (fun v s₁=>wpAny (model X.prog X.w) X.A (eval b X.env) (fun u s₂=>wpAny (model X.prog X.w) X.A (f v u) Q X.xe s₂) X.xe s₁) X.xe s:=by
 refine thn (ha pins s σ H _ I h) fun v s1 ⟨x,H1,I1,r1,q1⟩=>?_
 refine thn (hb pins s1 σ H1 _ I1 q1) fun u s2 ⟨y,H2,I2,r2,q2⟩=>?_
 exact hf v u s2 x y H2 I2 r1 r2 q2
theorem pe_op {op:Operator}{r:R2} (ho:OpR X (binaryOp op) r) (ha:PE X a ta) (hb:PE X b tb):PE X (.BinOp a op b pos) (tOp r ta tb):=by
 intro pins s σ H Q I h
 exact wpAny_BinOp (binT ha hb I h fun v u s2 x y H2 I2 rx ry q=>ho pins s2 σ H2 x y v u Q I2 rx ry q)
theorem pe_un {op:UnaryOp}{r:V->Hp->VK->Prop} (ho:UnR X (unaryOp op) r) (ha:PE X a ta):PE X (.UnaryOp op a pos) (tUn r ta):=by
 intro pins s σ H Q I h
 exact UnaryOp_ (thn (ha pins s σ H _ I h) fun v s1 ⟨x,H1,I1,r1,q1⟩=>ho pins s1 σ H1 x v Q I1 r1 q1)
theorem opI {f:Value->Value->Sem Value}{C:Int->Int->Prop}{g:Int->Int->Int}
  (rule:∀ (i j:Int) (t u:Tok) (s:Shared) (Q:Value->Shared->Prop) (E:Value->Shared->Prop),C i j->Q (.int (g i j) s.toks) { s with toks:=s.toks+1 }->wpAny (model X.prog X.w) X.A (f (.int i t) (.int j u)) Q E s) :
  OpR X f (rI C fun i j=>.int (g i j)):=by
 intro pins s σ H x y v u Q I rx ry h
 obtain⟨i,j,rfl,rfl,hc,q⟩:=h
 obtain⟨t,rfl⟩:=rx
 obtain⟨t',rfl⟩:=ry
 exact rule i j t t' s _ _ hc ⟨.int (g i j),H,I.tok _,⟨_,rfl⟩,q⟩
theorem opI0 {f:Value->Value->Sem Value}{g:Int->Int->Int}
  (rule:∀ (i j:Int) (t u:Tok) (s:Shared) (Q:Value->Shared->Prop) (E:Value->Shared->Prop),Q (.int (g i j) s.toks) { s with toks:=s.toks+1 }->wpAny (model X.prog X.w) X.A (f (.int i t) (.int j u)) Q E s) :
  OpR X f (rI0 fun i j=>.int (g i j)):=by
 intro pins s σ H x y v u Q I rx ry h
 obtain⟨i,j,rfl,rfl,q⟩:=h
 obtain⟨t,rfl⟩:=rx
 obtain⟨t',rfl⟩:=ry
 exact rule i j t t' s _ _ ⟨.int (g i j),H,I.tok _,⟨_,rfl⟩,q⟩
theorem opB0 {f:Value->Value->Sem Value}{g:Int->Int->Bool}
  (rule:∀ (i j:Int) (t u:Tok) (s:Shared) (Q:Value->Shared->Prop) (E:Value->Shared->Prop),Q (.bool (g i j)) s->wpAny (model X.prog X.w) X.A (f (.int i t) (.int j u)) Q E s) :
  OpR X f (rI0 fun i j=>.bl (g i j)):=by
 intro pins s σ H x y v u Q I rx ry h
 obtain⟨i,j,rfl,rfl,q⟩:=h
 obtain⟨t,rfl⟩:=rx
 obtain⟨t',rfl⟩:=ry
 exact rule i j t t' s _ _ ⟨.bl (g i j),H,I,rfl,q⟩
def CPow (i j:Int):Prop:=0<=j/\j<=1000000/\i.natAbs<2 ^ 64
def CMul (i j:Int):Prop:=(-(2 ^ 64)<i/\i<2 ^ 64)\/(-(2 ^ 64)<j/\j<2 ^ 64)
theorem CMul.ok {i j:Int} (h:CMul i j):IntMulOk i j:=by
 rcases h with ⟨h1,h2⟩ | ⟨h1,h2⟩
 ·exact .of_left (intBits_le_64 h1 h2)
 ·exact .of_right (intBits_le_64 h1 h2)
theorem op_add:OpR X (binaryOp .Add) (rI0 fun i j=>.int (i+j)):=opI0 fun _ _ _ _ _ _ _ q=>add_int q
theorem op_sub:OpR X (binaryOp .Sub) (rI0 fun i j=>.int (i-j)):=opI0 fun _ _ _ _ _ _ _ q=>sub_int q
theorem op_mul:OpR X (binaryOp .Mult) (rI CMul fun i j=>.int (i * j)):=opI fun _ _ _ _ _ _ _ hc q=>mul_int q hc.ok
theorem op_mod:OpR X (binaryOp .Mod) (rI (fun _ j=>0<j) fun i j=>.int (i % j)):=opI fun i j _ _ _ _ _ hc q=>by
 have h1:(0:Int)<j:=hc
 exact mod_int' (by lia) (by rw[Int.fmod_eq_emod_of_nonneg i (by lia)];exact q)
theorem op_pow:OpR X (binaryOp .Pow) (rI CPow fun i j=>.int (i ^ j.toNat)):=opI fun _ _ _ _ _ _ _ hc q=>pow_int_small hc.1 hc.2.1 hc.2.2 q
theorem unI {f:Value->Sem Value}{g:Int->Int}
  (rule:∀ (i:Int) (t:Tok) (s:Shared) (Q:Value->Shared->Prop) (E:Value->Shared->Prop),Q (.int (g i) s.toks) { s with toks:=s.toks+1 }->wpAny (model X.prog X.w) X.A (f (.int i t)) Q E s) :
  UnR X f (rU fun i=>.int (g i)):=by
 intro pins s σ H x v Q I rx h
 obtain⟨i,rfl,q⟩:=h
 obtain⟨t,rfl⟩:=rx
 exact rule i t s _ _ ⟨.int (g i),H,I.tok _,⟨_,rfl⟩,q⟩
theorem un_neg:UnR X (unaryOp .USub) (rU fun i=>.int (-i)):=unI fun _ _ _ _ _ q=>neg_int q
end
def scal:V->V->Bool
 | .non,.non=>true | .non,.int _=>true | .int _,.non=>true | .non,.bl _=>true | .bl _,.non=>true | .non,.str _=>true | .str _,.non=>true
 | .int _,.int _=>true | .bl _,.bl _=>true | .str _,.str _=>true | .byt _,.byt _=>true
 | .int _,.str _=>true | .str _,.int _=>true | .bl _,.str _=>true | .str _,.bl _=>true
 | _,_=>false
def rEq:R2:=fun x y H Q=>scal x y=true/\Q (.bl (decide (x=y))) H
def rNe:R2:=fun x y H Q=>scal x y=true/\Q (.bl (!decide (x=y))) H
theorem dec_int {i j:Int}:decide (V.int i=V.int j)=(i == j):=by
 rw[Bool.eq_iff_iff]
 simp
theorem dec_bl {i j:Bool}:decide (V.bl i=V.bl j)=(i == j):=by
 rw[Bool.eq_iff_iff]
 simp
theorem dec_str {i j:Str}:decide (V.str i=V.str j)=(i == j):=by
 rw[Bool.eq_iff_iff]
 simp
theorem dec_byt {i j:Array UInt8}:decide (V.byt i=V.byt j)=(i.toList == j.toList):=by
 rw[Bool.eq_iff_iff]
 cases i
 cases j
 simp
section
variable {X:Cx}{a b c:Expr}{ta tb tc:TE}{pos:Pos}
theorem fin_bl {pins:List (Addr×Obj)} {σ:St} {H:Hp}{s:Shared}{Q:VK}{k k':Bool} (I:Inv X pins σ H s) (q:Q (.bl k) H) (e:k=k'):EP X pins σ Q (.bool k') s:=by
 subst e
 exact⟨.bl k,H,I,rfl,q⟩
theorem op_eq:OpR X (compareOp .Eq) rEq:=by
 intro pins s σ H x y v u Q I rx ry h
 obtain⟨hs,q⟩:=h
 cases x with
 | non=>
  cases rx
  cases y with
  | non=>cases ry;exact PySem.EqNone.eq_none_none (fin_bl I q (by simp))
  | bl j=>cases ry;exact PySem.EqNone.eq_none_bool (fin_bl I q (by simp))
  | int j=>obtain⟨t',rfl⟩:=ry;exact PySem.EqNone.eq_none_int (fin_bl I q (by simp))
  | str j=>obtain⟨t',rfl⟩:=ry;exact PySem.EqNone.eq_none_str (fin_bl I q (by simp))
  | _=>exact absurd (show false=true from hs) Bool.false_ne_true
 | bl i=>
  cases rx
  cases y with
  | non=>cases ry;exact PySem.EqNone.eq_bool_none (fin_bl I q (by simp))
  | bl j=>cases ry;exact eq_bool (fin_bl I q dec_bl)
  | str j=>obtain⟨t',rfl⟩:=ry;exact PySem.EqMixed.eq_bool_str (fin_bl I q (by simp))
  | _=>exact absurd (show false=true from hs) Bool.false_ne_true
 | int i=>
  obtain⟨t,rfl⟩:=rx
  cases y with
  | non=>cases ry;exact PySem.EqNone.eq_int_none (fin_bl I q (by simp))
  | int j=>obtain⟨t',rfl⟩:=ry;exact eq_int (fin_bl I q dec_int)
  | str j=>obtain⟨t',rfl⟩:=ry;exact PySem.EqMixed.eq_int_str (fin_bl I q (by simp))
  | _=>exact absurd (show false=true from hs) Bool.false_ne_true
 | str i=>
  obtain⟨t,rfl⟩:=rx
  cases y with
  | non=>cases ry;exact PySem.EqNone.eq_str_none (fin_bl I q (by simp))
  | bl j=>cases ry;exact PySem.EqMixed.eq_str_bool (fin_bl I q (by simp))
  | int j=>obtain⟨t',rfl⟩:=ry;exact PySem.EqMixed.eq_str_int (fin_bl I q (by simp))
  | str j=>obtain⟨t',rfl⟩:=ry;exact eq_str (fin_bl I q dec_str)
  | _=>exact absurd (show false=true from hs) Bool.false_ne_true
 | byt i=>
  obtain⟨t,rfl⟩:=rx
  cases y with
  | byt j=>obtain⟨t',rfl⟩:=ry;exact PySem.W.eq_bytes (fin_bl I q dec_byt)
  | _=>exact absurd (show false=true from hs) Bool.false_ne_true
 | _=>cases y <;> exact absurd (show false=true from hs) Bool.false_ne_true
theorem op_ne:OpR X (compareOp .NotEq) rNe:=by
 intro pins s σ H x y v u Q I rx ry h
 obtain⟨hs,q⟩:=h
 cases x with
 | non=>
  cases rx
  cases y with
  | non=>cases ry;exact PySem.EqNone.ne_none_none (fin_bl I q (by simp))
  | bl j=>cases ry;exact PySem.EqNone.ne_none_bool (fin_bl I q (by simp))
  | int j=>obtain⟨t',rfl⟩:=ry;exact PySem.EqNone.ne_none_int (fin_bl I q (by simp))
  | str j=>obtain⟨t',rfl⟩:=ry;exact PySem.EqNone.ne_none_str (fin_bl I q (by simp))
  | _=>exact absurd (show false=true from hs) Bool.false_ne_true
 | bl i=>
  cases rx
  cases y with
  | non=>cases ry;exact PySem.EqNone.ne_bool_none (fin_bl I q (by simp))
  | bl j=>cases ry;exact ne_bool (fin_bl I q (congrArg not dec_bl))
  | str j=>obtain⟨t',rfl⟩:=ry;exact PySem.EqMixed.ne_bool_str (fin_bl I q (by simp))
  | _=>exact absurd (show false=true from hs) Bool.false_ne_true
 | int i=>
  obtain⟨t,rfl⟩:=rx
  cases y with
  | non=>cases ry;exact PySem.EqNone.ne_int_none (fin_bl I q (by simp))
  | int j=>obtain⟨t',rfl⟩:=ry;exact ne_int (fin_bl I q (congrArg not dec_int))
  | str j=>obtain⟨t',rfl⟩:=ry;exact PySem.EqMixed.ne_int_str (fin_bl I q (by simp))
  | _=>exact absurd (show false=true from hs) Bool.false_ne_true
 | str i=>
  obtain⟨t,rfl⟩:=rx
  cases y with
  | non=>cases ry;exact PySem.EqNone.ne_str_none (fin_bl I q (by simp))
  | bl j=>cases ry;exact PySem.EqMixed.ne_str_bool (fin_bl I q (by simp))
  | int j=>obtain⟨t',rfl⟩:=ry;exact PySem.EqMixed.ne_str_int (fin_bl I q (by simp))
  | str j=>obtain⟨t',rfl⟩:=ry;exact ne_str (fin_bl I q (congrArg not dec_str))
  | _=>exact absurd (show false=true from hs) Bool.false_ne_true
 | byt i=>
  obtain⟨t,rfl⟩:=rx
  cases y with
  | byt j=>obtain⟨t',rfl⟩:=ry;exact PySem.W.ne_bytes (fin_bl I q (congrArg not dec_byt))
  | _=>exact absurd (show false=true from hs) Bool.false_ne_true
 | _=>cases y <;> exact absurd (show false=true from hs) Bool.false_ne_true
theorem op_lt:OpR X (compareOp .Lt) (rI0 fun i j=>.bl (decide (i<j))):=opB0 fun _ _ _ _ _ _ _ q=>lt_int q
theorem op_le:OpR X (compareOp .LtE) (rI0 fun i j=>.bl (decide (i<=j))):=opB0 fun _ _ _ _ _ _ _ q=>le_int q
theorem op_gt:OpR X (compareOp .Gt) (rI0 fun i j=>.bl (decide (j<i))):=opB0 fun _ _ _ _ _ _ _ q=>gt_int q
theorem op_ge:OpR X (compareOp .GtE) (rI0 fun i j=>.bl (decide (j<=i))):=opB0 fun _ _ _ _ _ _ _ q=>ge_int q
theorem op_isN:OpR X (compareOp .Is) (fun x y H Q=>y=.non/\Q (.bl (decide (x=.non))) H):=by
 intro pins s σ H x y v u Q I rx ry h
 obtain⟨rfl,q⟩:=h
 cases ry
 refine is_none_gen (fin_bl I q ?_)
 cases x <;> first
  | (cases rx;rfl)
  | (obtain⟨t,rfl⟩:=rx;rfl)
theorem OpR.or {f:Value->Value->Sem Value}{r r':R2} (h:OpR X f r) (h':OpR X f r'):OpR X f (fun x y H Q=>r x y H Q\/r' x y H Q):=by
 intro pins s σ H x y v u Q I rx ry q
 rcases q with q | q
 ·exact h pins s σ H x y v u Q I rx ry q
 ·exact h' pins s σ H x y v u Q I rx ry q
theorem nomark (b:Expr) {op:CmpOp} (h:op≠.In:=by decide) (h2:op≠.NotIn:=by decide):behindInMarks op b=false:=by
 have e1:(op == CmpOp.In)=false:=by cases op <;> first | rfl | exact absurd rfl h
 have e2:(op == CmpOp.NotIn)=false:=by cases op <;> first | rfl | exact absurd rfl h2
 cases b <;> simp [behindInMarks,e1,e2]
theorem pe_cmpR {op:CmpOp}{r:R2} (ho:OpR X (compareOp op) r) (ha:PE X a ta) (hb:PE X b tb) (hm:behindInMarks op b=false):PE X (.Compare a [op] [b] pos) (tOp r ta tb):=by
 intro pins s σ H Q I h
 exact wpAny_Compare1 (binT ha hb I h fun v u s2 x y H2 I2 rx ry q=>ho pins s2 σ H2 x y v u Q I2 rx ry q) hm
def tTest (t:TE):TT:=fun σ H Q=>t σ H fun x H'=>∃ k,x=.bl k/\Q k H'
theorem pt_cmpR {op:CmpOp}{r:R2} (ho:OpR X (compareOp op) r) (ha:PE X a ta) (hb:PE X b tb) (hm:behindInMarks op b=false):PT X (.Compare a [op] [b] pos) (tTest (tOp r ta tb)):=by
 intro pins s σ H Q I h
 refine wpAny_isTrue_Compare1 (thn (ha pins s σ H _ I h) fun v s1 ⟨x,H1,I1,r1,q1⟩=>thn (hb pins s1 σ H1 _ I1 q1) fun u s2 ⟨y,H2,I2,r2,q2⟩=>
  thn (ho pins s2 σ H2 x y v u _ I2 r1 r2 q2) fun c s3 ⟨z,H3,I3,r3,k,e,q3⟩=>?_) hm
 subst e
 cases r3
 exact wpAny_truthy_bool ⟨H3,I3,q3⟩
def tChain (r r':R2) (ta tb tc:TE):TE:=fun σ H Q=>ta σ H fun x H1=>tb σ H1 fun y H2=>r x y H2 fun z H3=>∃ k,z=.bl k /\
 (if k=true then tc σ H3 fun w' H4=>r' y w' H4 Q else Q (.bl false) H3)
theorem pe_chain {op op':CmpOp}{r r':R2} (ho:OpR X (compareOp op) r) (ho':OpR X (compareOp op') r') (ha:PE X a ta) (hb:PE X b tb) (hc:PE X c tc)
  (hm:lastMarks [op,op'] [b,c]=false:=by with_unfolding_all rfl):PE X (.Compare a [op,op'] [b,c] pos) (tChain r r' ta tb tc):=by
 intro pins s σ H Q I h
 refine Compare_chain (thn (ha pins s σ H _ I h) fun v s1 ⟨x,H1,I1,r1,q1⟩=>chain_link (thn (hb pins s1 σ H1 _ I1 q1) fun u s2 ⟨y,H2,I2,r2,q2⟩=>
  thn (ho pins s2 σ H2 x y v u _ I2 r1 r2 q2) fun d s3 ⟨z,H3,I3,r3,k,e,q3⟩=>?_)) hm
 subst e
 cases r3
 refine wpAny_truthy_bool ?_
 cases k with
 | false=>exact ite_ff ⟨.bl false,H3,I3,rfl,q3⟩
 | true=>exact ite_tt (chain_last (thn (hc pins s3 σ H3 _ I3 q3) fun w' s4 ⟨z',H4,I4,r4,q4⟩=>ho' pins s4 σ H4 y z' u w' Q I4 r2 r4 q4))
def TruV (K:PySem.W.Frag) (x:V) (H:Hp) (k:Bool):Prop:=
 match x with
 | .non=>k=false
 | .bl b=>k=b
 | .int i=>k=(i != 0)
 | .str y=>y.length<=sizeLine/\k=((y.length:Int) != 0)
 | .byt y=>y.size<=sizeLine/\k=((y.size:Int) != 0)
 | .ref p=>(∃ xs,SqL K H p xs/\k=!xs.isEmpty)\/(∃ xs,SqT K H p xs/\k=!xs.isEmpty)\/∃ kvs,H p=some (.dK kvs)/\k=!kvs.isEmpty
 | _=>False
theorem isEmpty_kv {κ:Type} {kvs:List (κ×V)}{vs:List (κ×Value)} (r:KV kvs vs):(!vs.isEmpty)=!kvs.isEmpty:=by
 cases r <;> rfl
theorem isEmpty_of {xs:List V}{its:List Value} (r:Vals xs its):(!its.toArray.isEmpty)=!xs.isEmpty:=by
 cases r <;> simp
theorem line63:(sizeLine:Nat)<2 ^ 63:=by rw[sizeLine_eq];decide
theorem tru_ok:TruR X (fun x H Q=>∃ k,TruV X.K x H k/\Q k H):=by
 intro pins s σ H x v Q I rx h
 obtain⟨k,e,q⟩:=h
 have hl:=line63
 have hs:sizeLine=16777216:=sizeLine_eq
 cases x with
 | non=>
  cases rx
  have e':k=false:=e
  subst e'
  exact truthy_none ⟨H,I,q⟩
 | bl b=>
  cases rx
  have e':k=b:=e
  subst e'
  exact wpAny_truthy_bool ⟨H,I,q⟩
 | int i=>
  obtain⟨t,rfl⟩:=rx
  have e':k=(i != 0):=e
  subst e'
  exact PySem.P.truthy_int ⟨H,I,q⟩
 | str y=>
  obtain⟨t,rfl⟩:=rx
  obtain⟨hy,e'⟩:y.length<=sizeLine/\k=((y.length:Int) != 0):=e
  subst e'
  exact PySem.P.truthy_str (by lia) ⟨H,I.tok _,q⟩
 | byt y=>
  obtain⟨t,rfl⟩:=rx
  obtain⟨hy,e'⟩:y.size<=sizeLine/\k=((y.size:Int) != 0):=e
  subst e'
  exact PySem.W.truthy_bytes (by lia) ⟨H,I.tok _,q⟩
 | ref p=>
  cases rx
  have e':(∃ xs,SqL X.K H p xs/\k=!xs.isEmpty)\/(∃ xs,SqT X.K H p xs/\k=!xs.isEmpty)\/∃ kvs,H p=some (.dK kvs)/\k=!kvs.isEmpty:=e
  rcases e' with ⟨xs,hx,e'⟩ | ⟨xs,hx,e'⟩ | ⟨kvs,hx,e'⟩
  ·subst e'
   obtain⟨its,r,pl,hz⟩:=I.list hx
   have hlen:=r.length
   exact wpAny_truthy_list pl.isList (by simp only[List.size_toArray];lia) ⟨H,I.tok _,by rw[isEmpty_of r];exact q⟩
  ·subst e'
   obtain⟨its,r,pl,hz⟩:=I.tuple hx
   have hlen:=r.length
   exact truthy_tuple pl (by simp only[List.size_toArray];lia) ⟨H,I.tok _,by rw[isEmpty_of r];exact q⟩
  ·subst e'
   obtain⟨hz,hS,vs,r,m⟩:kvs.length<=sizeLine/\(p == sysModules)=false/\∃ vs,KV kvs vs/\s.heap.DictOf (mixKind X.prog X.w) p vs:=I.hok p _ hx
   have hlen:kvs.length=vs.length:=Paired.length r
   exact wpAny_truthy_dict hS m (by lia) ⟨H,I.tok _,by rw[isEmpty_kv r];exact q⟩
 | _=>exact (show False from e).elim
theorem pt_truth (ha:PE X a ta) (he:∀ whole,isTrue a X.env whole=(do let v <- whole;standAt a.pos;holding [v] (truthy v))) :
  PT X a (fun σ H Q=>ta σ H fun x H'=>∃ k,TruV X.K x H' k/\Q k H'):=by
 intro pins s σ H Q I h
 exact isTrue_plain (thn (ha pins s σ H _ I h) fun v s1 ⟨x,H1,I1,r1,q1⟩=>tru_ok pins s1 σ H1 x v Q I1 r1 q1) (he _)
theorem op_add_str:OpR X (binaryOp .Add) (fun x y H Q=>∃ i j,x=.str i/\y=.str j/\i.length+j.length<=sizeLine/\Q (.str (i++j)) H):=by
 intro pins s σ H x y v u Q I rx ry h
 obtain⟨i,j,rfl,rfl,hz,q⟩:=h
 obtain⟨t,rfl⟩:=rx
 obtain⟨t',rfl⟩:=ry
 exact add_str (fun t' tk=>⟨.str (i++j),H,I.tok _,⟨_,rfl⟩,q⟩) hz
theorem vals1 {x:V}{us:List Value} (r:Vals [x] us):∃ u,us=[u]/\RelV x u:=by
 cases r with
 | cons r1 r2=>cases r2;exact⟨_,rfl,r1⟩
theorem vals2 {x y:V}{us:List Value} (r:Vals [x,y] us):∃ u w',us=[u,w']/\RelV x u/\RelV y w':=by
 cases r with
 | cons r1 r2=>
  cases r2 with
  | cons r3 r4=>cases r4;exact⟨_,_,rfl,r1,r3⟩
theorem call_max2 (hc:X.calm=true):CallR X (.builtin "max") (fun xs H Q=>∃ i j,xs=[.int i,.int j]/\Q (.int (if j > i then j else i)) H):=by
 intro pins s σ H xs us Q I r h
 obtain⟨i,j,rfl,q⟩:=h
 obtain⟨u,w',rfl,⟨t,rfl⟩,⟨t',rfl⟩⟩:=vals2 r
 refine max_two_ints (I.ok.hd hc) fun h' tk k=>⟨_,H,I.kept k,?_,q⟩
 by_cases hj:j > i
 ·rw[if_pos hj,if_pos hj];exact⟨_,rfl⟩
 ·rw[if_neg hj,if_neg hj];exact⟨_,rfl⟩
theorem call_int1:CallR X (.type "int") (fun xs H Q=>(∃ i,xs=[.int i]/\Q (.int i) H)\/∃ k,xs=[.bl k]/\Q (.int (if k then 1 else 0)) H):=by
 intro pins s σ H xs us Q I r h
 rcases h with ⟨i,rfl,q⟩ | ⟨k,rfl,q⟩
 ·obtain⟨u,rfl,t,rfl⟩:=vals1 r
  exact call_int_int ⟨.int i,H,I,⟨_,rfl⟩,q⟩
 ·obtain⟨u,rfl,r1⟩:=vals1 r
  cases r1
  exact call_int_bool ⟨.int (if k then 1 else 0),H,I.tok _,⟨_,rfl⟩,q⟩
theorem call_str_int:CallR X (.type "str") (fun xs H Q=>∃ i,xs=[.int i]/\i.natAbs.log2<1920/\Q (.str (toString i)) H):=by
 intro pins s σ H xs us Q I r h
 obtain⟨i,rfl,hz,q⟩:=h
 obtain⟨u,rfl,t,rfl⟩:=vals1 r
 exact PySem.P.str_of_int hz ⟨.str _,H,I.tok _,⟨_,rfl⟩,q⟩
end
end L2
namespace L2
open PySem PySem.Spec PyProof.Rows
structure ObjM (h:Heap) (x dx C:Addr) (mA:Str->Option Value):Prop where
 obj:h.get? x=some (PySem.W.instObj C dx)
 ns:h.Ns1 dx mA
 ne:dx≠x
theorem lookIn_ns {h:Heap}{dx:Addr}{mA:Str->Option Value} (n:h.Ns1 dx mA):∃ od,h.get? dx=some od/\∀ name,PySem.W.lookIn name od=some (mA name):=by
 obtain⟨o,es,ep,ho,hd,hk,_,hm⟩:=n
 refine⟨o,ho,fun name=>?_⟩
 have e:=hm name
 unfold nsFind findBy at e
 rw[<- Array.find?_toList]at e
 unfold PySem.W.lookIn
 rw[hd]
 dsimp only
 split
 ·rename_i y q
  rw[q]at e
  exact congrArg some e
 ·rename_i q
  rw[q]at e
  have a:es.toList.any (·.refKey)=false:=by
   rw[List.any_eq_false]
   intro y hy
   obtain⟨z,t,hkey⟩:=hk y (Array.mem_toList_iff.mp hy)
   simp [DictEntry.refKey,hkey]
  have a':¬es.toList.any (·.refKey)=true:=by rw[a];exact Bool.false_ne_true
  rw[if_neg a']
  exact congrArg some e
theorem ObjM.look {h:Heap}{x dx C:Addr}{mA:Str->Option Value} (I:ObjM h x dx C mA):∃ od,PySem.W.InstAt h x (PySem.W.instObj C dx) C (some od)/\∀ name,PySem.W.lookIn name od=some (mA name):=
 let ⟨od,ho,hl⟩:=lookIn_ns I.ns
 ⟨od,⟨I.obj,rfl,rfl,ho⟩,hl⟩
section
variable {prog:Program}{w:World}{A:Around}{E:Value->Shared->Prop}{s:Shared}{K:PySem.W.Frag}{x dx C f:Addr}{mA:Str->Option Value}{name:Str}{v:Value}
theorem get_map {expr:Bool}{Q:Value->Shared->Prop} (X:K.In s.heap) (I:ObjM s.heap x dx C mA) (hg:PySem.W.plainGet K C name=true) (hh:PySem.W.hasDictIn K C=true)
  (ha:PySem.W.findIn K (.ref C) name=some none) (hv:mA name=some v) (hv':PySem.W.handedIn v=true) (h:Q v { s with toks:=s.toks+1 }) :
  wpAny (model prog w) A (getAttr (.ref x) name expr) Q E s:=by
 obtain⟨od,J,hl⟩:=I.look
 exact PySem.W.get_value X J (PySem.W.plainGet_of hg).1 (PySem.W.findObj_own hh ha rfl (by rw[hl,hv])) hv' h
theorem get_meth {pl:Sem Bool}{Q:Value×List Value->Shared->Prop} (X:K.In s.heap) (I:ObjM s.heap x dx C mA) (hg:PySem.W.plainGet K C name=true)
  (hf:PySem.W.findIn K (.ref C) name=some (some (.ref f))) (ht:PySem.W.isFn K (.ref f)=true) (hv:mA name=none) (h:Q (.ref f,[.ref x]) s) :
  wpAny (model prog w) A (getMethod (.ref x) name pl) Q E s:=by
 obtain⟨od,J,hl⟩:=I.look
 exact PySem.W.method_fn X J (PySem.W.plainGet_of hg).1 (PySem.W.plainGet_of hg).2 hf (beq_iff_eq.mp ht) (by show (PySem.W.lookIn name od).map (·.isSome)=some false;rw[hl,hv];rfl) h
theorem set_map {ns:List Str}{Q:Unit->Shared->Prop} (X:K.In s.heap) (I:ObjM s.heap x dx C mA)
  (hs:PySem.W.findIn K (.ref C) "__setattr__"=some (some (.builtin "object.__setattr__"))) (hp:PySem.W.plainOver K C=true) (ht:PySem.W.takerIn K C name=some none) (hh:PySem.W.hasDictIn K C=true)
  (hw:PySem.Within mA ns) (hsz:ns.length<=sizeLine)
  (h:∀ h',ObjM h' x dx C (fun y=>if y=name then some v else mA y)->Heap.SameBut dx s.heap h'->Q () { s with heap:=h',toks:=s.toks+2 }) :
  wpAny (model prog w) A (setAttr (.ref x) name v) Q E s:=by
 obtain⟨od,J,hl⟩:=I.look
 refine PySem.W.set_plain X J hs (PySem.W.osa_open (s:={ s with toks:=s.toks+1 }) (r:=none) X J hp ht fun b=>?_)
 obtain⟨cd,hc,hd'⟩:=PySem.W.any_some hh
 have hx:s.heap.get? x=some ⟨.ref C,some dx,.plain,#[]⟩:=I.obj
 refine wpAny_bind (wpAny_pure (wpAny_bind (wpAny_bind (wpAny_loadPart hx (wpAny_bind (PySem.W.Looks.here (s:={ s with toks:=s.toks+1 }) (PySem.W.looks_clsIn X hc) ?_))))))
 rw[hd']
 refine wpAny_pure (a:=some dx) (wpAny_bind (wpAny_pure (wpAny_bind ?_)))
 refine wpAny_nsSet1 (s:={ s with toks:=s.toks+1 }) I.ns fun h' hn2 hs2=>?_
 obtain⟨oD,esD,epD,hoD,hdD,hcD⟩:=hn2.count (PySem.Within.cons name v hw)
 refine wpAny_bind (wpAny_lookBehind hoD (by rw[hdD];exact pastItsLine_dict (Nat.le_trans hcD (by rw[List.length_cons];lia))) ?_)
 exact wpAny_pure (h _ ⟨(hs2.2 _ (Ne.symm I.ne)).trans I.obj,hn2,I.ne⟩ hs2)
theorem make_map {R:Result->Shared->Prop}{vs:List Value}{kw:List (Str×Value)} (X:K.In s.heap) (hm:PySem.W.makesIn K C=true)
  (hi:PySem.W.findIn K (.ref C) "__init__"=some (some (.ref f))) (hf:PySem.W.typeIn K (.ref f)=some (.type "function"))
  (h:codeAny (model prog w) (A.under (.builtin "type.__call__" ⟨.ref C::vs,kw⟩)) (.call (.ref f) ⟨.ref (s.heap.objs.size+1)::vs,kw⟩) (PySem.W.InitBack (s.heap.objs.size+1) R)
   { s with heap:=(s.heap.push PySem.W.emptyDict).push (PySem.W.instObj C s.heap.objs.size) }) :
  codeAny (model prog w) A (.call (.ref C) ⟨vs,kw⟩) R s:=by
 obtain⟨hh,g,d,t,os⟩:=s
 exact PySem.W.make_core (PySem.W.makes_of X hm) (PySem.W.looks_findIn X hi) (fun self=>PySem.W.bind_fn X self hf) (.inl rfl) h
end
def putF (f:Str) (v:V):List (Str×V)->List (Str×V)
 | []=>[(f,v)]
 | (g,x)::r=>if g=f then (g,v)::r else (g,x)::putF f v r
theorem lookup_putF (f g:Str) (v:V):∀ fs:List (Str×V),(putF f v fs).lookup g=if g=f then some v else fs.lookup g
 | []=>by
  show List.lookup g [(f,v)]=_
  by_cases h:g=f
  ·have hb:(g == f)=true:=beq_iff_eq.mpr h
   simp only[List.lookup,hb,if_pos h]
  ·have hb:(g == f)=false:=beq_eq_false_iff_ne.mpr h
   simp only[List.lookup,hb,if_neg h]
 | (k,x)::r=>by
  have ih:=lookup_putF f g v r
  rw[show putF f v ((k,x)::r)=(if k=f then (k,v)::r else (k,x)::putF f v r) from rfl]
  by_cases hk:k=f
  ·rw[if_pos hk]
   by_cases h:g=k
   ·have hb:(g == k)=true:=beq_iff_eq.mpr h
    simp only[List.lookup,hb,if_pos (h.trans hk)]
   ·have hb:(g == k)=false:=beq_eq_false_iff_ne.mpr h
    simp only[List.lookup,hb,if_neg (fun e:g=f=>h (e.trans hk.symm))]
  ·rw[if_neg hk]
   by_cases h:g=k
   ·have hb:(g == k)=true:=beq_iff_eq.mpr h
    simp only[List.lookup,hb,if_neg (fun e:g=f=>hk (h.symm.trans e))]
   ·have hb:(g == k)=false:=beq_eq_false_iff_ne.mpr h
    simp only[List.lookup,hb]
    exact ih
theorem keys_putF (f:Str) (v:V):∀ fs:List (Str×V),f∈(putF f v fs).map (·.1)/\∀ g,g∈fs.map (·.1)->g∈(putF f v fs).map (·.1)
 | []=>⟨by simp [putF],fun g h=>by simp at h⟩
 | (k,x)::r=>by
  obtain⟨i1,i2⟩:=keys_putF f v r
  rw[show putF f v ((k,x)::r)=(if k=f then (k,v)::r else (k,x)::putF f v r) from rfl]
  by_cases hk:k=f
  ·rw[if_pos hk]
   subst hk
   exact⟨by simp,fun g h=>by simpa using h⟩
  ·rw[if_neg hk]
   refine⟨?_,fun g h=>?_⟩
   ·rw[List.map_cons]
    exact List.mem_cons_of_mem _ i1
   ·rw[List.map_cons]at h ⊢
    rcases List.mem_cons.mp h with e | e
    ·exact List.mem_cons.mpr (.inl e)
    ·exact List.mem_cons_of_mem _ (i2 g e)
theorem length_putF (f:Str) (v:V):∀ fs:List (Str×V),(putF f v fs).length<=fs.length+1
 | []=>by simp [putF]
 | (k,x)::r=>by
  have ih:=length_putF f v r
  rw[show putF f v ((k,x)::r)=(if k=f then (k,v)::r else (k,x)::putF f v r) from rfl]
  by_cases hk:k=f
  ·rw[if_pos hk,List.length_cons,List.length_cons];lia
  ·rw[if_neg hk,List.length_cons,List.length_cons];lia
theorem RelO.some_of {v:V}{o:Option Value} (r:RelO (some v) o):∃ u,o=some u/\RelV v u:=by
 cases o with
 | none=>exact (show False from r).elim
 | some u=>exact⟨u,rfl,r⟩
theorem RelO.none_of {o:Option Value} (r:RelO none o):o=none:=by
 cases o with
 | none=>rfl
 | some u=>exact (show False from r).elim
theorem handed_of {v:V}{u:Value} (r:RelV v u):PySem.W.handedIn u=true:=by
 cases v with
 | non=>cases (show u=Value.none from r);rfl
 | bl b=>cases (show u=Value.bool b from r);rfl
 | int i=>obtain⟨t,e⟩:=(show ∃ t,u=Value.int i t from r);cases e;rfl
 | str x=>obtain⟨t,e⟩:=(show ∃ t,u=Value.str x t from r);cases e;rfl
 | byt b=>obtain⟨t,e⟩:=(show ∃ t,u=Value.bytes b t from r);cases e;rfl
 | flt b=>obtain⟨t,e⟩:=(show ∃ t,u=Value.float b t from r);cases e;rfl
 | ref a=>cases (show u=Value.ref a from r);rfl
 | ty n=>cases (show u=Value.type n from r);rfl
section
variable {P:Program}{w:World}{H H':Hp}{h h':Heap}{a C dx:Addr}{fs fs':List (Str×V)}
theorem ins_get (hok:HOk P w H h) (e:H a=some (.ins C dx fs)):∃ mA,ObjM h a dx C mA/\(∀ f,RelO (fs.lookup f) (mA f))/\PySem.Within mA (fs.map (·.1))/\fs.length<=1000/\H dx=some (.own a):=by
 obtain⟨d,z,ne,ob,mA,n,r,q⟩:=(show ObjOk P w H h a (.ins C dx fs) from hok a _ e)
 exact⟨mA,⟨ob,n,ne⟩,r,q,z,d⟩
end
structure Cls (K:PySem.W.Frag) (C:Addr):Prop where
 pg:PySem.W.plainGet K C Str.empty=true
 hd:PySem.W.hasDictIn K C=true
 po:PySem.W.plainOver K C=true
 sa:PySem.W.findIn K (.ref C) "__setattr__"=some (some (.builtin "object.__setattr__"))
theorem Cls.get {K:PySem.W.Frag}{C:Addr} (c:Cls K C) (f:Str):PySem.W.plainGet K C f=true:=c.pg
def NoAttr (K:PySem.W.Frag) (C:Addr) (f:Str):Prop:=PySem.W.findIn K (.ref C) f=some none
theorem NoAttr.taker {K:PySem.W.Frag}{C:Addr}{f:Str} (n:NoAttr K C f):PySem.W.takerIn K C f=some none:=by
 unfold PySem.W.takerIn
 rw[show PySem.W.findIn K (.ref C) f=some none from n]
 rfl
structure Meth (K:PySem.W.Frag) (C:Addr) (m:Str) (f:Addr):Prop where
 at_:PySem.W.findIn K (.ref C) m=some (some (.ref f))
 fn:PySem.W.isFn K (.ref f)=true
 kp:PySem.W.keepIn K (.ref f)=true
section
variable {X:Cx}{pins:List (Addr×Obj)} {σ:St} {H:Hp}{s:Shared}{a C dx:Addr}{fs:List (Str×V)}{f:Str}{v:V}{A:Around}{E:Value->Shared->Prop}
theorem getattr_ok {b:Bool}{Q:Value->Shared->Prop} (I:Inv X pins σ H s) (e:H a=some (.ins C dx fs)) (c:Cls X.K C) (n:NoAttr X.K C f) (l:fs.lookup f=some v)
  (h:∀ u s',Inv X pins σ H s'->RelV v u->Q u s'):wpAny (model X.prog X.w) A (getAttr (.ref a) f b) Q E s:=by
 obtain⟨mA,O,r,_,_,_⟩:=ins_get I.hok e
 obtain⟨u,hu,ru⟩:=RelO.some_of (v:=v) (o:=mA f) (by rw[<- l];exact r f)
 exact get_map I.kIn O (c.get f) c.hd n hu (handed_of ru) (h u _ (I.tok _) ru)
theorem getmeth_ok {m:Str}{g:Addr}{pl:Sem Bool}{Q:Value×List Value->Shared->Prop} (I:Inv X pins σ H s) (e:H a=some (.ins C dx fs)) (c:Cls X.K C) (k:Meth X.K C m g) (l:fs.lookup m=none)
  (h:Q (.ref g,[.ref a]) s):wpAny (model X.prog X.w) A (getMethod (.ref a) m pl) Q E s:=by
 obtain⟨mA,O,r,_,_,_⟩:=ins_get I.hok e
 have hn:mA m=none:=RelO.none_of (by rw[<- l];exact r m)
 exact get_meth I.kIn O (c.get m) k.at_ k.fn hn h
theorem setattr_ok {y:V}{u:Value}{Q:Unit->Shared->Prop} (I:Inv X pins σ H s) (e:H a=some (.ins C dx fs)) (c:Cls X.K C) (n:NoAttr X.K C f) (hl:fs.length<1000) (ry:RelV y u)
  (h:∀ s',Inv X pins σ (upd H a (.ins C dx (putF f y fs))) s'->Q () s'):wpAny (model X.prog X.w) A (setAttr (.ref a) f u) Q E s:=by
 obtain⟨mA,O,r,wi,_,ho⟩:=ins_get I.hok e
 have hz:(fs.map (·.1)).length<=sizeLine:=by rw[List.length_map,sizeLine_eq];lia
 refine set_map I.kIn O c.sa c.po n.taker c.hd wi hz fun h' O' sb=>h _ ?_
 have hd:∃ o,h'.get? dx=some o:=let ⟨o,_,_,e',_⟩:=O'.ns;⟨o,e'⟩
 refine I.write (x:=a) (e:=dx) (by rw[e];exact True.intro) (.inr ho) (fun b q hb z=>(sb.2 b hb).trans z) hd ?_
 refine⟨by rw[upd_ne O.ne];exact ho,?_,O.ne,O'.obj,_,O'.ns,fun g=>?_,fun g hg=>?_⟩
 ·have:=length_putF f y fs;lia
 ·show RelO ((putF f y fs).lookup g) (if g=f then some u else mA g)
  rw[lookup_putF]
  by_cases q:g=f
  ·rw[if_pos q,if_pos q];exact ry
  ·rw[if_neg q,if_neg q];exact r g
 ·by_cases q:g=f
  ·rw[q];exact (keys_putF f y fs).1
  ·refine (keys_putF f y fs).2 g (wi g fun z=>hg ?_)
   show (if g=f then some u else mA g)=none
   rw[if_neg q];exact z
theorem Inv.made (I:Inv X pins σ H s):Inv X pins σ (upd (upd H s.heap.objs.size (.own (s.heap.objs.size+1))) (s.heap.objs.size+1) (.ins C s.heap.objs.size []))
  { s with heap:=(s.heap.push PySem.W.emptyDict).push (PySem.W.instObj C s.heap.objs.size) }:=by
 have e1:(s.heap.push PySem.W.emptyDict).get? s.heap.objs.size=some PySem.W.emptyDict:=Heap.get?_push_size s.heap rfl
 have e2:((s.heap.push PySem.W.emptyDict).push (PySem.W.instObj C s.heap.objs.size)).get? (s.heap.objs.size+1)=some (PySem.W.instObj C s.heap.objs.size):=by
  have:=Heap.get?_push_size (s.heap.push PySem.W.emptyDict) (o:=PySem.W.instObj C s.heap.objs.size) rfl
  rwa [Heap.size_push]at this
 have e3:(s.heap.push PySem.W.emptyDict).Ns s.heap.objs.size (fun _=>none):=⟨PySem.W.emptyDict,#[],_,e1,rfl,(fun e he=>absurd he (by simp)),fun _=>rfl⟩
 have I1:=I.laid (a:=s.heap.objs.size) (o:=.own (s.heap.objs.size+1)) (h':=s.heap.push PySem.W.emptyDict) (t':=s.toks) (fun b u q=>Heap.get?_push_of_some _ q) (Nat.le_refl _) ⟨_,e1⟩
 refine I1.laid (a:=s.heap.objs.size+1) (o:=.ins C s.heap.objs.size []) (t':=s.toks) (fun b u q=>Heap.get?_push_of_some _ q) (Nat.le_of_eq (Heap.size_push _ _)) ?_
 have ne:s.heap.objs.size≠s.heap.objs.size+1:=Nat.ne_of_lt (Nat.lt_succ_self _)
 refine⟨by rw[upd_ne ne,upd_same],Nat.zero_le _,ne,e2,fun _=>none,(Heap.Ns1.of_empty e3).at fun o q=>Heap.get?_push_of_some _ q,fun _=>True.intro,fun y hy=>absurd rfl hy⟩
theorem attr_of {prog:Program}{w:World}{env:Env}{e:Expr}{f:Str}{pos:Pos}{s:Shared}{Q:Value->Shared->Prop} (hb:attributeBase e f env (eval e env)=eval e env)
  (h:wpAny (model prog w) A (eval e env) (fun o s₁=>wpAny (model prog w) A (getAttr o f true) Q E s₁) E s):wpAny (model prog w) A (eval (.Attribute e f pos) env) Q E s:=
 Attribute_any_ h (by rw[arm_eval_Attribute,hb])
end
def tFld (K:PySem.W.Frag) (ta:TE) (f:Str):TE:=fun σ H Q=>ta σ H fun x H1=>∃ a C dx fs v,x=.ref a/\H1 a=some (.ins C dx fs)/\Cls K C/\NoAttr K C f/\fs.lookup f=some v/\Q v H1
def sFld (K:PySem.W.Frag) (ta tv:TE) (f:Str):TS:=fun D σ H=>tv σ H fun y H1=>ta σ H1 fun x H2=>∃ a C dx fs,x=.ref a/\H2 a=some (.ins C dx fs)/\Cls K C/\NoAttr K C f/\fs.length<1000 /\
 D.nx σ (upd H2 a (.ins C dx (putF f y fs)))
def InOp (X:Cx) (op:Operator) (rd:V->V->Hp->VK->Prop):Prop:=
 ∀ (pins:List (Addr×Obj)) (s:Shared) (σ:St) (H:Hp) (x y:V) (u v:Value) (Q:VK),Inv X pins σ H s->RelV x u->RelV y v->rd x y H Q->wpAny (model X.prog X.w) X.A (inplaceOp op u v) (EP X pins σ Q) X.xe s
def sFldAug (K:PySem.W.Frag) (ta tv:TE) (rd:V->V->Hp->VK->Prop) (f:Str):TS:=fun D σ H=>ta σ H fun x H1=>∃ a C dx fs v,x=.ref a/\H1 a=some (.ins C dx fs)/\Cls K C/\NoAttr K C f/\fs.lookup f=some v /\
 tv σ H1 fun y H2=>rd v y H2 fun z H3=>∃ dx' fs',H3 a=some (.ins C dx' fs')/\fs'.length<1000/\D.nx σ (upd H3 a (.ins C dx' (putF f z fs')))
section
variable {X:Cx}{o e value:Expr}{f:Str}{pos pos' tpos:Pos}{ta tv:TE}
theorem pe_fld (he:PE X e ta) (hb:attributeBase e f X.env (eval e X.env)=eval e X.env):PE X (.Attribute e f pos) (tFld X.K ta f):=by
 intro pins s σ H Q I h
 refine attr_of hb (thn (he pins s σ H _ I h) fun u s1 ⟨x,H1,I1,rx,a,C,dx,fs,v,ex,ea,c,n,l,q⟩=>?_)
 subst ex
 obtain rfl:u=Value.ref a:=rx
 exact getattr_ok I1 ea c n l fun u' s2 I2 ru=>⟨v,H1,I2,ru,q⟩
theorem ps_fld (ha:PE X o ta) (hv:PE X value tv) (hs:swapsWith value (some (.Attribute o f pos')) pos.line X.env=pure false):PS X (.Assign [.Attribute o f pos'] value pos) (sFld X.K ta tv f):=by
 intro pins s σ H D I h
 refine plainObj_wpAny_Assign_Attribute (thn (hv pins s σ H _ I h) fun u s1 ⟨y,H1,I1,ry,q⟩=>thn (ha pins s1 σ H1 _ I1 q) fun ov s2 ⟨x,H2,I2,rx,a,C,dx,fs,ex,ea,c,n,l,q2⟩=>?_) hs
 subst ex
 obtain rfl:ov=Value.ref a:=rx
 exact setattr_ok I2 ea c n l ry fun s3 I3=>⟨σ,_,I3,q2⟩
theorem ps_fldaug {op:Operator}{rd:V->V->Hp->VK->Prop} (ha:PE X o ta) (hv:PE X value tv) (hop:InOp X op rd):PS X (.AugAssign (.Attribute o f tpos) op value pos) (sFldAug X.K ta tv rd f):=by
 intro pins s σ H D I h
 refine wpAny_AugAssign_AttributeAny (thn (ha pins s σ H _ I h) fun ov s1 ⟨x,H1,I1,rx,a,C,dx,fs,v,ex,ea,c,n,l,q⟩=>?_)
 subst ex
 obtain rfl:ov=Value.ref a:=rx
 refine getattr_ok I1 ea c n l fun u s2 I2 ru=>thn (hv pins s2 σ H1 _ I2 q) fun w3 s3 ⟨y,H2,I3,ry,q3⟩=>thn (hop pins s3 σ H2 v y u w3 _ I3 ru ry q3) fun w4 s4 ⟨z,H3,I4,rz,dx',fs',ea',l',q4⟩=>?_
 exact setattr_ok I4 ea' c n l' rz fun s5 I5=>⟨σ,_,I5,q4⟩
def rAdd:V->V->Hp->VK->Prop:=fun x y H Q=>∃ i j,x=.int i/\y=.int j/\Q (.int (i+j)) H
theorem in_add:InOp X .Add rAdd:=by
 rintro pins s σ H x y u v Q I rx ry ⟨i,j,rfl,rfl,q⟩
 obtain⟨t,rfl⟩:=(show ∃ t,u=Value.int i t from rx)
 obtain⟨t',rfl⟩:=(show ∃ t',v=Value.int j t' from ry)
 exact PyProof.Rows.iadd_int ⟨.int (i+j),H,I.tok _,⟨_,rfl⟩,q⟩
end
section
variable {X:Cx}{pins:List (Addr×Obj)} {σ:St} {H:Hp}{s:Shared}{A:Around}{E:Value->Shared->Prop}{Q:Value->Shared->Prop}{c:Value}{b:Bool}
inductive TyOf (K:PySem.W.Frag) (H:Hp):V->Value->Prop where
 | non:TyOf K H .non (.type "NoneType")
 | bl (x:Bool):TyOf K H (.bl x) (.type "bool")
 | int (i:Int):TyOf K H (.int i) (.type "int")
 | str (x:Str):TyOf K H (.str x) (.type "str")
 | flt (x:UInt64):TyOf K H (.flt x) (.type "float")
 | lst {a:Addr}{xs:List V} (e:H a=some (.lst xs)):TyOf K H (.ref a) (.type "list")
 | frz {a:Addr}{o:Obj}{xs:List V} (e:H a=some (.frz o (.lst xs))):TyOf K H (.ref a) (.type "list")
 | tup {a:Addr}{xs:List V} (e:H a=some (.tup xs)):TyOf K H (.ref a) (.type "tuple")
 | dK {a:Addr}{kvs:List (Key×V)} (e:H a=some (.dK kvs)):TyOf K H (.ref a) (.type "dict")
 | dT {a:Addr}{kvs:List (List Key×V)} (e:H a=some (.dT kvs)):TyOf K H (.ref a) (.type "dict")
 | ins {a C dx:Addr}{fs:List (Str×V)} (e:H a=some (.ins C dx fs)) (cl:Cls K C) (ha:PySem.W.findIn K (.ref C) "__class__"=some (some (.builtin "object.__class__")))
   (hn:PySem.W.specialIn K (.builtin "object.__class__") "__get__"=some (some (.builtin "getset_descriptor.__get__"))) (htk:PySem.W.takesIn K (.builtin "object.__class__")=some true)
   (hm:PySem.W.mroIn K C (.type "object")=some true):TyOf K H (.ref a) (.ref C)
theorem isinst_ok {x:V}{u t:Value} (I:Inv X pins σ H s) (rx:RelV x u) (ty:TyOf X.K H x t) (e:PySem.W.kitOne X.K t c=some b) (h:∀ tk,Q (.bool b) { s with toks:=tk }) :
  wpAny (model X.prog X.w) A (call (.builtin "isinstance") [u,c]) Q E s:=by
 cases ty with
 | non=>cases (show u=Value.none from rx);exact PySem.W.kia_one PySem.W.kitx_none I.kIn True.intro e (fun z=>nomatch z) h
 | bl y=>cases (show u=Value.bool y from rx);exact PySem.W.kia_one PySem.W.kitx_bool I.kIn True.intro e (fun z=>nomatch z) h
 | int i=>obtain⟨t,q⟩:=(show ∃ t,u=Value.int i t from rx);cases q;exact PySem.W.kia_one PySem.W.kitx_int I.kIn True.intro e (fun z=>nomatch z) h
 | str y=>obtain⟨t,q⟩:=(show ∃ t,u=Value.str y t from rx);cases q;exact PySem.W.kia_one PySem.W.kitx_str I.kIn True.intro e (fun z=>nomatch z) h
 | flt y=>obtain⟨t,q⟩:=(show ∃ t,u=Value.float y t from rx);cases q;exact PySem.W.kia_one PySem.W.kitx_float I.kIn True.intro e (fun z=>nomatch z) h
 | @lst a xs ea=>
  cases (show u=Value.ref a from rx)
  obtain⟨_,_,n,_,h1⟩:=(show ObjOk X.prog X.w H s.heap a (.lst xs) from I.hok a _ ea)
  exact PySem.W.kia_one PySem.W.kitx_list I.kIn ⟨_,h1,rfl⟩ e (fun z=>nomatch z) h
 | @frz a ob xs ea=>
  cases (show u=Value.ref a from rx)
  obtain⟨_,_,_,n,_,h1⟩:=(show ObjOk X.prog X.w H s.heap a (.frz ob (.lst xs)) from I.hok a _ ea)
  exact PySem.W.kia_one PySem.W.kitx_list I.kIn ⟨_,h1,rfl⟩ e (fun z=>nomatch z) h
 | @tup a xs ea=>
  cases (show u=Value.ref a from rx)
  obtain⟨_,_,_,p⟩:=(show ObjOk X.prog X.w H s.heap a (.tup xs) from I.hok a _ ea)
  obtain⟨o,h1,h2,_⟩:=p
  exact PySem.W.kia_one PySem.W.kitx_tuple I.kIn ⟨o,h1,h2⟩ e (fun z=>nomatch z) h
 | @dK a kvs ea=>
  cases (show u=Value.ref a from rx)
  obtain⟨_,_,vs,_,p⟩:=(show ObjOk X.prog X.w H s.heap a (.dK kvs) from I.hok a _ ea)
  obtain⟨o,es,ep,h1,h2,_⟩:=p
  exact PySem.W.kia_one PySem.W.kitx_dict I.kIn ⟨o,h1,h2.1⟩ e (fun z=>nomatch z) h
 | @dT a kvs ea=>
  cases (show u=Value.ref a from rx)
  obtain⟨_,_,xs,_,o,es,ep,h1,h2,_⟩:=(show ObjOk X.prog X.w H s.heap a (.dT kvs) from I.hok a _ ea)
  exact PySem.W.kia_one PySem.W.kitx_dict I.kIn ⟨o,h1,h2.1⟩ e (fun z=>nomatch z) h
 | @ins a C dx fs ea cl ha hn htk hm=>
  cases (show u=Value.ref a from rx)
  obtain⟨mA,O,_⟩:=ins_get I.hok ea
  obtain⟨od,J,_⟩:=O.look
  exact PySem.W.kia_one (PySem.W.kitx_own (cl.get _) cl.hd ha hn htk hm) I.kIn J e (fun z=>nomatch z) h
end
end L2
namespace L2
open PySem PySem.Spec PyProof.Rows
structure Room (k:Nat) (A:Around):Prop where
 hd:A.handled=none
 dp:A.depth+3 * k+5<recursionLimit
 un:A.units+16 * k+200<cLine
theorem Room.mono {j k:Nat}{A:Around} (r:Room k A) (h:j<=k):Room j A:=⟨r.hd,by have:=r.dp;lia,by have:=r.un;lia⟩
theorem Room.deeper {k:Nat}{A:Around} (r:Room (k+1) A) (env:Env):Room k (A.deeper env):=
 ⟨r.hd,by have:=r.dp;show A.depth+1+3 * k+5<_;lia,by have:=r.un;show A.units+3+16 * k+200<_;lia⟩
theorem make_depth {A:Around}{C:Addr}{us:List Value}{kw:List (Str×Value)}:(A.under (.builtin "type.__call__" ⟨.ref C::us,kw⟩)).depth=A.depth+1:=by
 first | rfl | simp [Around.under,Code.weight,Code.isCreation,Code.isGuard,Code.isCaller,Code.frames,Code.isFrame,guardIds]
theorem make_units {A:Around}{C:Addr}{us:List Value}{kw:List (Str×Value)}:(A.under (.builtin "type.__call__" ⟨.ref C::us,kw⟩)).units=A.units+1:=by
 first | rfl | simp [Around.under,Code.cUnits,Code.frames,Code.isFrame]
theorem Room.make {k:Nat}{A:Around} (r:Room (k+1) A) (C:Addr) (us:List Value) (kw:List (Str×Value)):Room k (A.under (.builtin "type.__call__" ⟨.ref C::us,kw⟩)):=
 ⟨r.hd,by have:=r.dp;rw[make_depth];lia,by have:=r.un;rw[make_units];lia⟩
theorem Room.depth {k:Nat}{A:Around} (r:Room k A):A.depth<recursionLimit:=by have:=r.dp;lia
theorem Room.units {k:Nat}{A:Around} (r:Room k A):A.units+64<cLine:=by have:=r.un;lia
def tNil:TA:=fun _ H Q=>Q [] H
def tCons (ta:TE) (tr:TA):TA:=fun σ H Q=>ta σ H fun x H1=>tr σ H1 fun xs H2=>Q (x::xs) H2
section
variable {X:Cx}{e:Expr}{es:List Expr}{te:TE}{t:TA}{pos:Pos}
theorem pa_nil:PA X [] tNil:=fun _ _ _ _ H Q I h=>Calls.spliced_nil ⟨[],H,I,.nil,h⟩
theorem pa_cons (ha:PE X e te) (hr:PA X es t) (hs:starEach (e::es) X.env=(false,eval e X.env)::starEach es X.env:=by rfl):PA X (e::es) (tCons te t):=by
 intro pos pins s σ H Q I h
 rw[hs]
 show wpAny _ _ (spliced ((false,eval e X.env)::backTo pos (starEach es X.env))) _ _ s
 refine Calls.spliced_cons (thn (ha pins s σ H _ I h) fun u s1 ⟨x,H1,I1,r1,q1⟩=>?_)
 exact thn (hr pos pins s1 σ H1 _ I1 q1) fun us s2 ⟨xs,H2,I2,r2,q2⟩=>⟨x::xs,H2,I2,.cons r1 r2,q2⟩
def tTup (t:TA):TE:=fun σ H Q=>t σ H fun xs H1=>xs.length<=sizeLine/\∀ p,H1 p=none->Q (.ref p) (upd H1 p (.tup xs))
def tLst (t:TA):TE:=fun σ H Q=>t σ H fun xs H1=>xs.length<=sizeLine/\∀ p,H1 p=none->Q (.ref p) (upd H1 p (.lst xs))
theorem pe_tup {x1} (h:PA X es t):PE X (.Tuple es x1 pos) (tTup t):=by
 intro pins s σ H Q I hq
 refine wpAny_Tuple_spliced (thn (h pos pins s σ H _ I hq) fun us s1 ⟨xs,H1,I1,r,z,q⟩=>⟨by rw[<- r.length];exact z,?_⟩)
 have hf:H1 s1.heap.objs.size=none:=I1.hok.fresh (Nat.le_refl _)
 refine⟨.ref s1.heap.objs.size,upd H1 s1.heap.objs.size (.tup xs),I1.laid (t':=s1.toks) (fun b u e=>Heap.get?_push_of_some _ e) (Nat.le_refl _) ?_,rfl,q _ hf⟩
 exact⟨tupD_new z,us,r,⟨_,Heap.get?_push_size _ rfl,rfl,_,rfl⟩⟩
theorem pe_lst (h:PA X es t):PE X (.List es pos) (tLst t):=by
 intro pins s σ H Q I hq
 refine wpAny_List_spliced (thn (h pos pins s σ H _ I hq) fun us s1 ⟨xs,H1,I1,r,z,q⟩=>⟨by rw[<- r.length];exact z,?_⟩)
 have hf:H1 s1.heap.objs.size=none:=I1.hok.fresh (Nat.le_refl _)
 refine⟨.ref s1.heap.objs.size,upd H1 s1.heap.objs.size (.lst xs),I1.laid (t':=s1.toks) (fun b u e=>Heap.get?_push_of_some _ e) (Nat.le_refl _) ?_,rfl,q _ hf⟩
 exact⟨z,us,0,r,Heap.get?_push_size _ rfl⟩
end
abbrev Sp:=List V->Hp->VK->XK->Prop
abbrev CXT:=List Env->Hp->Shared->XK->Value->Shared->Prop
structure Env0 (P:Program) (w:World) (K:PySem.W.Frag) (mg:Str->Option Value) (base:Heap) (A:Around) (outer:List Env) (s:Shared) (H:Hp):Prop where
 frames:A.frames=some outer
 mod:Mod K mg base
 bs:∀ b o,base.get? b=some o->s.heap.get? b=some o/\H b=none
 bsz:base.objs.size<=s.heap.objs.size
 funs:s.heap.FunFrames base outer
 frf:∀ b∈frs outer,H b=none
 hok:HOk P w H s.heap
 bare:AllBare s.gens
def CE (outer:List Env) (P:Program) (w:World) (H:Hp) (s:Shared) (Q:VK) (u:Value) (s':Shared):Prop:=
 ∃ v H',s'.os=s.os/\AllBare s'.gens/\Un (frs outer) [] H H' s.heap s'.heap/\HOk P w H' s'.heap/\RelV v u/\Q v H'
def CR (CX:CXT) (outer:List Env) (P:Program) (w:World) (H:Hp) (s:Shared) (Q:VK) (E:XK) (r:Result) (s':Shared):Prop:=
 match r with
 | .ok (.ret u)=>CE outer P w H s Q u s'
 | .ok _=>False
 | .error e=>CX outer H s E e s'
structure FnOk (P:Program) (w:World) (K:PySem.W.Frag) (mg:Str->Option Value) (base:Heap) (CX:CXT) (k:Nat) (f:Addr) (fd:FuncData) (ps:List Str) (sp:Sp):Prop where
 len:∀ vs H Q E,sp vs H Q E->vs.length=ps.length
 run:∀ (A:Around) (outer:List Env) (s:Shared) (H:Hp) (args:Args) (us:List Value) (vs:List V) (Q:VK) (E:XK),Room k A->Env0 P w K mg base A outer s H->BindsTo s fd args (ps.zip us)->Vals vs us->sp vs H Q E ->
  codeAny (model P w) A (.call (.ref f) args) (CR CX outer P w H s Q E) s
theorem FnOk.mono {P:Program}{w:World}{K:PySem.W.Frag}{mg:Str->Option Value}{base:Heap}{CX:CXT}{j k:Nat}{f:Addr}{fd:FuncData}{ps:List Str}{sp:Sp} (F:FnOk P w K mg base CX j f fd ps sp) (h:j<=k) :
  FnOk P w K mg base CX k f fd ps sp:=⟨F.len,fun A outer s H args us vs Q E hr=>F.run A outer s H args us vs Q E (hr.mono h)⟩
theorem Env0.make {P:Program}{w:World}{K:PySem.W.Frag}{mg:Str->Option Value}{base:Heap}{A:Around}{outer:List Env}{s:Shared}{H:Hp} (e:Env0 P w K mg base A outer s H) (C:Addr) (us:List Value) (kw:List (Str×Value)) :
  Env0 P w K mg base (A.under (.builtin "type.__call__" ⟨.ref C::us,kw⟩)) outer s H:=⟨by first | exact e.frames | (simpa [Around.under,Code.envs,Code.isFrame,pushEnvs] using e.frames),e.mod,e.bs,e.bsz,e.funs,e.frf,e.hok,e.bare⟩
section
variable {X:Cx}{pins:List (Addr×Obj)} {σ:St} {H:Hp}{s s':Shared}
theorem Inv.env0 (I:Inv X pins σ H s):Env0 X.prog X.w X.K X.mg X.base X.A X.stack s H:=
 ⟨I.ok.frames,I.ok.mod,I.bs,Nat.le_trans I.ok.bsz I.sz,I.stack,I.stkFree,I.hok,I.bare⟩
theorem Inv.after {Q:VK}{u:Value} (I:Inv X pins σ H s) (h:CE X.stack X.prog X.w H s Q u s'):EP X pins σ Q u s':=by
 obtain⟨v,H',os,bare,un,hok,r,q⟩:=h
 obtain⟨hh,g,d,t,os'⟩:=s'
 obtain rfl:os'=s.os:=os
 exact⟨v,H',I.call (h':=hh) (g':=g) (d':=d) (t':=t) (ch:=[]) un hok bare (fun b z=>absurd z (by simp)),r,q⟩
end
def tCall (sp:Sp) (dvs:List V) (E:XK) (t:TA):TE:=fun σ H Q=>t σ H fun vs H1=>sp (vs++dvs) H1 Q E
def tMeth (C:Addr) (m:Str) (sp:Sp) (dvs:List V) (E:XK) (ta:TE) (t:TA):TE:=fun σ H Q=>ta σ H fun x H1=>∃ a dx fs,x=.ref a/\H1 a=some (.ins C dx fs)/\fs.lookup m=none /\
 t σ H1 fun vs H2=>sp (x::(vs++dvs)) H2 Q E
def tMake (C:Addr) (sp:Sp) (dvs:List V) (E:XK) (t:TA):TE:=fun σ H Q=>t σ H fun vs H1=>∀ x dx,H1 x=none->H1 dx=none->dx≠x ->
 sp (.ref x::(vs++dvs)) (upd (upd H1 dx (.own x)) x (.ins C dx [])) (fun v H2=>v=.non/\Q (.ref x) H2) E
def Binds (K:PySem.W.Frag) (fd:FuncData) (ps:List Str) (ds:List Value):Prop:=
 ∀ (s:Shared) (us:List Value),K.In s.heap->(us++ds).length=ps.length->BindsTo s fd ⟨us,[]⟩ (ps.zip (us++ds))
theorem Binds.all {K:PySem.W.Frag}{fd:FuncData}{ps:List Str} (h:∀ us:List Value,us.length=ps.length->bindArgs fd ⟨us,[]⟩=pure (ps.zip us)):Binds K fd ps []:=fun s us _ hl=>by
 rw[List.append_nil]at hl ⊢
 exact .of_eq (h us hl)
def Passes (CX:CXT) (X:Cx) (E:XK):Prop:=∀ (pins:List (Addr×Obj)) (σ:St) (H:Hp) (s:Shared) (e:Value) (s':Shared),Inv X pins σ H s->CX X.stack H s E e s'->X.xe e s'
section
variable {X:Cx}{CX:CXT}{k:Nat}{f C:Addr}{fd:FuncData}{ps:List Str}{sp:Sp}{dvs:List V}{ds:List Value}{E:XK}{x m:Str}{p pos apos:Pos}{e o:Expr}{es:List Expr}{ta:TE}{t:TA}
theorem run_fn {pins:List (Addr×Obj)} {σ:St} {H:Hp}{s:Shared}{Q:VK}{us:List Value}{vs:List V} (F:FnOk X.prog X.w X.K X.mg X.base CX k f fd ps sp) (hr:Room k X.A) (hb:Binds X.K fd ps ds) (hd:Vals dvs ds) (hx:Passes CX X E)
  (I:Inv X pins σ H s) (r:Vals vs us) (h:sp (vs++dvs) H Q E):wpAny (model X.prog X.w) X.A (call (.ref f) us) (EP X pins σ Q) X.xe s:=by
 have r2:Vals (vs++dvs) (us++ds):=r.append hd
 have hl:(us++ds).length=ps.length:=by rw[<- r2.length];exact F.len _ _ _ _ h
 refine wpAny_call (codeAny_mono (F.run X.A X.stack s H ⟨us,[]⟩ (us++ds) (vs++dvs) Q E hr I.env0 (hb s us I.kIn hl) r2 h) fun r s' hq=>?_)
 cases r with
 | error e=>exact hx pins σ H s e s' I hq
 | ok fl=>
  cases fl with
  | ret u=>exact I.after hq
  | next=>exact False.elim hq
  | brk=>exact False.elim hq
  | cont=>exact False.elim hq
theorem pe_call (F:FnOk X.prog X.w X.K X.mg X.base CX k f fd ps sp) (hr:Room k X.A) (hg:Gl X x) (hm:X.mg x=some (.ref f)) (hk:PySem.W.keepIn X.K (.ref f)=true) (hb:Binds X.K fd ps ds) (hd:Vals dvs ds) (hx:Passes CX X E)
  (ha:PA X (e::es) t) (hdb:(x == ("__debug__" : Str))=false:=by decide) (he:starEach (e::es) X.env=(false,eval e X.env)::starEach es X.env:=by rfl) (hpl:(backTo pos (starEach es X.env)).any (·.1)=false:=by rfl) :
  PE X (.Call (.Name x p) (e::es) [] pos) (tCall sp dvs E t):=by
 intro pins s σ H Q I h
 refine wpAny_Call_Name_kw (ld_glob I hg hm ?_ hdb)
 refine PySem.W.callWith_K (h₀:=X.base) I.ok.mod.kin hk (thn (ha pos pins s σ H _ I h) fun us s1 ⟨vs,H1,I1,r,q⟩=>⟨I1.kIn,?_⟩) he hpl
 exact run_fn F hr hb hd hx I1 r q
theorem pe_meth0 {pl:Sem Bool} (he:PE X o ta) (c:Cls X.K C) (hm:Meth X.K C m f) (F:FnOk X.prog X.w X.K X.mg X.base CX k f fd ps sp) (hr:Room k X.A) (hb:Binds X.K fd ps ds) (hd:Vals dvs ds) (hx:Passes CX X E)
  (ht:eval (.Call (.Attribute o m apos) [] [] pos) X.env=(do
   let ov <- eval o X.env
   standAt apos.atName
   let (f,first) <- holding [ov] (getMethod ov m pl)
   callWith pos f first (backTo pos (starEach [] X.env)) (backToKw pos (keywordEach [] X.env))):=by rfl) :
  PE X (.Call (.Attribute o m apos) [] [] pos) (tMeth C m sp dvs E ta tNil):=by
 intro pins s σ H Q I h
 refine PySem.W.methodCall_KW (pl:=pl) (thn (he pins s σ H _ I h) fun u s1 ⟨x,H1,I1,rx,a,dx,fs,ex,ea,l,q⟩=>?_) ht
 subst ex
 obtain rfl:u=Value.ref a:=rx
 refine getmeth_ok I1 ea c hm l ?_
 exact PySem.W.callWith_K0 (first:=[.ref a]) I1.kIn hm.kp (run_fn (us:=[.ref a]) (vs:=[.ref a]) F hr hb hd hx I1 (.cons rfl .nil) q)
structure Mk (K:PySem.W.Frag) (C f:Addr):Prop where
 makes:PySem.W.makesIn K C=true
 init:PySem.W.findIn K (.ref C) "__init__"=some (some (.ref f))
 fn:PySem.W.isFn K (.ref f)=true
 kp:PySem.W.keepIn K (.ref C)=true
theorem run_make {pins:List (Addr×Obj)} {σ:St} {H:Hp}{s:Shared}{Q:VK}{us:List Value}{vs:List V} (M:Mk X.K C f) (F:FnOk X.prog X.w X.K X.mg X.base CX k f fd ps sp) (hr:Room (k+1) X.A) (hb:Binds X.K fd ps ds) (hd:Vals dvs ds)
  (hx:Passes CX X E) (I:Inv X pins σ H s) (r:Vals vs us)
  (h:∀ x dx,H x=none->H dx=none->dx≠x->sp (.ref x::(vs++dvs)) (upd (upd H dx (.own x)) x (.ins C dx [])) (fun v H2=>v=.non/\Q (.ref x) H2) E) :
  wpAny (model X.prog X.w) X.A (call (.ref C) us) (EP X pins σ Q) X.xe s:=by
 have hq:=h (s.heap.objs.size+1) s.heap.objs.size (I.hok.fresh (Nat.le_succ _)) (I.hok.fresh (Nat.le_refl _)) (Nat.ne_of_lt (Nat.lt_succ_self _))
 have I2:=Inv.made (C:=C) I
 have r2:Vals (V.ref (s.heap.objs.size+1)::(vs++dvs)) (Value.ref (s.heap.objs.size+1)::(us++ds)):=.cons rfl (r.append hd)
 have hl:(Value.ref (s.heap.objs.size+1)::us++ds).length=ps.length:=by
  have e:=r2.length
  rw[F.len _ _ _ _ hq]at e
  exact e.symm
 refine wpAny_call (make_map (f:=f) I.kIn M.makes M.init (beq_iff_eq.mp M.fn) (codeAny_mono (F.run _ X.stack _ _ ⟨Value.ref (s.heap.objs.size+1)::us,[]⟩ (Value.ref (s.heap.objs.size+1)::(us++ds)) _ _ E (hr.make C us [])
  (I2.env0.make C us []) (hb _ (Value.ref (s.heap.objs.size+1)::us) I2.kIn hl) r2 hq) fun r s' hq'=>?_))
 cases r with
 | error e=>exact hx pins σ _ _ e s' I2 hq'
 | ok fl=>
  cases fl with
  | ret u=>
   obtain⟨v,H',I3,rv,ev,q3⟩:=I2.after hq'
   subst ev
   exact⟨rv,⟨V.ref (s.heap.objs.size+1),H',I3,rfl,q3⟩⟩
  | next=>exact False.elim hq'
  | brk=>exact False.elim hq'
  | cont=>exact False.elim hq'
theorem pe_make (M:Mk X.K C f) (F:FnOk X.prog X.w X.K X.mg X.base CX k f fd ps sp) (hr:Room (k+1) X.A) (hg:Gl X x) (hm:X.mg x=some (.ref C)) (hb:Binds X.K fd ps ds) (hd:Vals dvs ds) (hx:Passes CX X E)
  (ha:PA X (e::es) t) (hdb:(x == ("__debug__" : Str))=false:=by decide) (he:starEach (e::es) X.env=(false,eval e X.env)::starEach es X.env:=by rfl) (hpl:(backTo pos (starEach es X.env)).any (·.1)=false:=by rfl) :
  PE X (.Call (.Name x p) (e::es) [] pos) (tMake C sp dvs E t):=by
 intro pins s σ H Q I h
 refine wpAny_Call_Name_kw (ld_glob I hg hm ?_ hdb)
 refine PySem.W.callWith_K (h₀:=X.base) I.ok.mod.kin M.kp (thn (ha pos pins s σ H _ I h) fun us s1 ⟨vs,H1,I1,r,q⟩=>⟨I1.kIn,?_⟩) he hpl
 exact run_make M F hr hb hd hx I1 r q
end
section
variable {X:Cx}{CX:CXT}{k:Nat}{f C:Addr}{fd:FuncData}{ps ks:List Str}{sp:Sp}{E:XK}{x m:Str}{p pos apos kpos:Pos}{e o:Expr}{es:List Expr}{kws:List Keyword}{te ta:TE}{t tk:TA}{nm:Option Str}
variable {g:List Value->List Value->List Value}{gV:List V->List V->List V}
end
structure FnScope (N P:List Str) (sc:Scope):Prop where
 kind:sc.kind=.function
 co:sc.isCoroutine=false
 gen:sc.isGenerator=false
 nd:N.Nodup
 pre:N.take P.length=P
 par:∀ x∈P,sc.names.lookup x=some .local\/sc.names.lookup x=some .cell
 nofree:∀ y∈sc.names,y.2≠.free
theorem bindL_out {kindOf:Str->Option NameKind}{x:Str}:∀ {binds:List (Str×Value)}{m:Str->Option Value},(∀ v,(x,v) ∉ binds)->bindL kindOf binds m x=m x
 | [],_,_=>rfl
 | (n,v)::r,m,h=>by
  unfold bindL
  rw[bindL_out fun w hw=>h w (List.mem_cons_of_mem _ hw)]
  split
  ·have:x≠n:=by rintro rfl;exact h v List.mem_cons_self
   simp [this]
  ·rfl
theorem bindC_out {kindOf:Str->Option NameKind}{x:Str}:∀ {binds:List (Str×Value)}{m:Str->Option Value},(∀ v,(x,v) ∉ binds)->bindC kindOf binds m x=m x
 | [],_,_=>rfl
 | (n,v)::r,m,h=>by
  unfold bindC
  rw[bindC_out fun w hw=>h w (List.mem_cons_of_mem _ hw)]
  split
  ·rfl
  ·have:x≠n:=by rintro rfl;exact h v List.mem_cons_self
   simp [this]
theorem bindL_get {kindOf:Str->Option NameKind}{x:Str}{v:Value}:∀ {P:List Str}{vs:List Value}{i:Nat}{m:Str->Option Value},P.Nodup->P[i]?=some x->vs[i]?=some v->kindOf x=some .local ->
  bindL kindOf (P.zip vs) m x=some v
 | [],_,_,_,_,h,_,_=>by simp at h
 | _::_,[],_,_,_,_,h,_=>by simp at h
 | p::P,w::vs,0,m,nd,h1,h2,hk=>by
  simp at h1 h2;subst h1;subst h2
  show bindL kindOf ((p,w)::P.zip vs) m p=_
  unfold bindL
  rw[bindL_out fun v hv=>(List.nodup_cons.mp nd).1 (List.of_mem_zip hv).1,if_pos hk]
  simp
 | p::P,w::vs,i+1,m,nd,h1,h2,hk=>by
  show bindL kindOf ((p,w)::P.zip vs) m x=_
  unfold bindL
  exact bindL_get (i:=i) (List.nodup_cons.mp nd).2 (by simpa using h1) (by simpa using h2) hk
theorem bindC_get {kindOf:Str->Option NameKind}{x:Str}{v:Value}:∀ {P:List Str}{vs:List Value}{i:Nat}{m:Str->Option Value},P.Nodup->P[i]?=some x->vs[i]?=some v->kindOf x≠some .local ->
  bindC kindOf (P.zip vs) m x=some v
 | [],_,_,_,_,h,_,_=>by simp at h
 | _::_,[],_,_,_,_,h,_=>by simp at h
 | p::P,w::vs,0,m,nd,h1,h2,hk=>by
  simp at h1 h2;subst h1;subst h2
  show bindC kindOf ((p,w)::P.zip vs) m p=_
  unfold bindC
  rw[bindC_out fun v hv=>(List.nodup_cons.mp nd).1 (List.of_mem_zip hv).1,if_neg hk]
  simp
 | p::P,w::vs,i+1,m,nd,h1,h2,hk=>by
  show bindC kindOf ((p,w)::P.zip vs) m x=_
  unfold bindC
  exact bindC_get (i:=i) (List.nodup_cons.mp nd).2 (by simpa using h1) (by simpa using h2) hk
def start (N:List Str) (vs:List V):St:=vs.map some++List.replicate (N.length-vs.length) none
def cxOf (CX:CXT) (P:Program) (w:World) (K:PySem.W.Frag) (mg:Str->Option Value) (base:Heap) (N:List Str) (qual:Str) (scope:Scope) (f:Addr) (cd:Value) (A:Around) (outer:List Env) (s:Shared) (H:Hp) (E:XK):Cx where
 prog:=P
 w:=w
 K:=K
 mg:=mg
 base:=base
 A:=A.deeper (envOfC qual scope s.heap.objs.size f cd)
 N:=N
 s₀:=s
 H₀:=H
 env:=envOfC qual scope s.heap.objs.size f cd
 outer:=outer
 stack:=envOfC qual scope s.heap.objs.size f cd::outer
 ex:=[]
 calm:=true
 fn:=fun _=>true
 pn:=[]
 xe:=fun e s'=>wpAny (model P w) (A.deeper (envOfC qual scope s.heap.objs.size f cd)) (leaving (envOfC qual scope s.heap.objs.size f cd) e) (fun _ s''=>CX outer H s E e s'') (fun e' s''=>CX outer H s E e' s'') s'
theorem cell_has {sc:Scope}{n:Nat}{x:Str} (h:sc.names.lookup x=some .cell):∃ c,(cellsFrom n sc.names []).lookup x=some c:=by
 have q:=PySem.W.cellsFrom_some sc.names n [] (.inl h)
 exact Option.isSome_iff_exists.mp q
theorem inv_start {CX:CXT}{P:Program}{w:World}{K:PySem.W.Frag}{mg:Str->Option Value}{base:Heap}{N ps:List Str}{qual:Str}{scope:Scope}{f:Addr}{cd:Value}{A:Around}{outer:List Env}{s s1:Shared}{H:Hp}{E:XK}{us:List Value}{vs:List V}
  (S:FnScope N ps scope) (hd:A.handled=none) (e0:Env0 P w K mg base A outer s H) (hl:vs.length=ps.length) (r:Vals vs us)
  (x:InCallC s s.heap.objs.size (bindL (envOfC qual scope s.heap.objs.size f cd).kindOf (ps.zip us) fun _=>none) (cellsFrom (s.heap.objs.size+1) scope.names []) (bindC (envOfC qual scope s.heap.objs.size f cd).kindOf (ps.zip us) fun _=>none) s1) :
  Inv (cxOf CX P w K mg base N qual scope f cd A outer s H E) [] (start N vs) H s1:=by
 have hpl:ps.length<=N.length:=by have:=congrArg List.length S.pre;rw[List.length_take]at this;lia
 obtain⟨h1,tk,rfl,hk⟩:=x.done
 have noA:∀ b:Addr,b ∉ (cxOf CX P w K mg base N qual scope f cd A outer s H E).ex:=fun b z=>absurd (show b∈([]:List Addr) from z) (by simp)
 refine⟨⟨e0.mod,S.kind,rfl,rfl,Nat.le_refl _,fun y z c h1 h2=>?_,fun y hy=>?_,fun y c _ h=>?_,fun _=>hd,Around.frames_deeper e0.frames,.inr ⟨rfl,rfl⟩,fun b z=>absurd z (noA b),e0.bs,e0.bsz,fun b _ _=>noA b,fun b z=>absurd z (noA b),e0.funs,e0.frf⟩,
  rfl,e0.bare,Un.kept hk,⟨_,x.toInCall.ns,fun i y v h1 h2 h3=>?_⟩,fun y c h=>⟨_,x.cell y c h⟩,e0.hok.fresh (Nat.le_refl _),fun y c h=>?_,fun p hp=>absurd (show p∈([]:List (Addr×Obj)) from hp) (by simp),e0.hok.kept hk,?_⟩
 ·exact name_of_addr x.apart (PySem.mem_of_lookup h1) (PySem.mem_of_lookup h2)
 ·have hy:scope.names.lookup y=some .cell\/scope.names.lookup y=some .free:=hy
  rcases hy with hy | hy
  ·exact cell_has hy
  ·exact absurd rfl (S.nofree _ (PySem.mem_of_lookup hy))
 ·exact Nat.le_of_lt (x.above y c (PySem.mem_of_lookup h))
 ·have hi:i<vs.length:=by
   unfold start at h2
   by_cases hi:i<vs.length
   ·exact hi
   ·rw[List.getElem?_append_right (by simpa using hi)]at h2
    rw[List.getElem?_replicate]at h2
    split at h2 <;> cases h2
  have ha:vs[i]?=some v:=by
   unfold start at h2
   rw[List.getElem?_append_left (by simpa using hi),List.getElem?_map]at h2
   cases e:vs[i]? with
   | none=>rw[e]at h2;cases h2
   | some a=>rw[e]at h2;cases h2;rfl
  obtain⟨u,hu,rv⟩:=r.get ha
  have hp:ps[i]?=some y:=by
   rw[<- S.pre,List.getElem?_take_of_lt (by lia)];exact h1
  have ndP:ps.Nodup:=by rw[<- S.pre];exact S.nd.sublist (List.take_sublist _ _)
  refine⟨u,rv,?_⟩
  rcases S.par y (List.mem_of_getElem? hp) with k | k
  ·exact .inl ⟨k,bindL_get ndP hp hu k⟩
  ·obtain⟨c,e⟩:=cell_has (n:=s.heap.objs.size+1) k
   refine .inr ⟨.inl k,c,e,?_⟩
   have q:=x.cell y c e
   rw[bindC_get ndP hp hu (by show scope.names.lookup y≠_;rw[k];decide)]at q
   exact q
 ·exact e0.hok.fresh (Nat.le_of_lt (x.above y c (PySem.mem_of_lookup h)))
 ·unfold start
  show _=N.length
  rw[List.length_append,List.length_map,List.length_replicate]
  lia
theorem fn_of {CX:CXT}{P:Program}{w:World}{K:PySem.W.Frag}{mg:Str->Option Value}{base:Heap}{k:Nat}{f:Addr}{name qual:Str}{params:Arguments}{body:List Stmt}{scope:Scope}{dV kV doc pm cdv ct oc:Value}{an od:Option Addr}
  {osl:Array (Option Value)}{N ps:List Str}{sp:Sp} (lk:K.lookup f=some ⟨oc,od,.func (PySem.W.fnOf name qual params body scope dV kV doc pm an cdv ct),osl⟩) (hcd:PySem.W.codeIn K cdv qual=true) (S:FnScope N ps scope)
  (len:∀ vs H Q E,sp vs H Q E->vs.length=ps.length)
  (hbody:∀ (A:Around) (outer:List Env) (s:Shared) (H:Hp) (vs:List V) (Q:VK) (E:XK),Room k (A.deeper (envOfC qual scope s.heap.objs.size f cdv))->sp vs H Q E ->
   ∃ t,PSs (cxOf CX P w K mg base N qual scope f cdv A outer s H E) body t/\t { nx:=fun _ H'=>Q .non H',rt:=Q } (start N vs) H) :
  FnOk P w K mg base CX (k+1) f (PySem.W.fnOf name qual params body scope dV kV doc pm an cdv ct) ps sp:=by
 refine⟨len,fun A outer s H args us vs Q E hr e0 hb r hsp=>?_⟩
 have hl:=len _ _ _ _ hsp
 have KX:K.In s.heap:=e0.mod.kin.keeps fun b o e=>(e0.bs b o e).1
 have lim:s.heap.NoLimit:=e0.mod.nolimit.keeps fun b o e=>(e0.bs b o e).1
 have hkind:∀ y∈ps.zip us,scope.names.lookup y.1=some .local\/(scope.names.lookup y.1=some .cell/\((cellsFrom (s.heap.objs.size+1) scope.names []).lookup y.1).isSome=true):=fun⟨n,v⟩ hy=>by
  rcases S.par n (List.of_mem_zip hy).1 with q | q
  ·exact .inl q
  ·exact .inr ⟨q,PySem.W.cellsFrom_some _ _ _ (.inl q)⟩
 refine codeAny_call_function hr.depth (KX _ _ lk) rfl S.co S.gen rfl (PySem.W.codeRec_of KX hcd) (hb _ _ _ _ ?_)
 refine wpAny_newFunctionEnv_cells S.kind hkind fun env he s1 x=>?_
 subst he
 refine⟨lim.keeps x.toInCall.keep,codeAny_func ?_⟩
 obtain⟨t,ht,hq⟩:=hbody A outer s H vs Q E (hr.deeper _) hsp
 have I:Inv (cxOf CX P w K mg base N qual scope f cdv A outer s H E) [] (start N vs) H s1:=inv_start S hr.hd e0 hl r x
 refine wpAny_mono (ht [] s1 (start N vs) H _ I hq) (fun fl s' hs=>?_) fun e s' hs=>hs
 have fin:∀ {σ':St} {H':Hp}{v:V}{u:Value},Inv (cxOf CX P w K mg base N qual scope f cdv A outer s H E) [] σ' H' s'->RelV v u->Q v H'->CE outer P w H s Q u s':=
  fun {σ' H' v u} J rv q=>⟨v,H',J.os,J.bare,J.base,J.hok,rv,q⟩
 cases fl with
 | ret u=>
  obtain⟨v,σ',H',J,rv,q⟩:=hs
  exact fin J rv q
 | next=>
  obtain⟨σ',H',J,q⟩:=hs
  exact fin (v:=V.non) (u:=Value.none) J rfl q
 | brk=>
  obtain⟨_,_,_,q⟩:=hs
  exact False.elim q
 | cont=>
  obtain⟨_,_,_,q⟩:=hs
  exact False.elim q
end L2
namespace L2
open PySem PySem.Spec PyProof.Rows
section
variable {X:Cx}{x:Str}{p pos:Pos}{e:Expr}{es:List Expr}{t:TA}{id T:String}{r:List V->Hp->VK->Prop}
def tCB (r:List V->Hp->VK->Prop) (t:TA):TE:=fun σ H Q=>t σ H fun vs H1=>r vs H1 Q
theorem pe_callB (hc:CallR X (.builtin id) r) (hg:Gl X x) (hm:X.mg x=none) (hv:bootBuiltins x=some (.builtin id)) (ha:PA X (e::es) t) (hn:x≠"__name__":=by decide) (hdb:(x == ("__debug__" : Str))=false:=by decide)
  (he:starEach (e::es) X.env=(false,eval e X.env)::starEach es X.env:=by rfl) (hpl:(backTo pos (starEach es X.env)).any (·.1)=false:=by rfl):PE X (.Call (.Name x p) (e::es) [] pos) (tCB r t):=by
 intro pins s σ H Q I h
 refine wpAny_Call_Name_kw (ld_blt I hg hm hv ?_ hn hdb)
 exact PyProof.Rows.callWith_builtin1 (thn (ha pos pins s σ H _ I h) fun us s1 ⟨vs,H1,I1,r1,q1⟩=>hc pins s1 σ H1 vs us Q I1 r1 q1) he hpl
theorem pe_callTy (hc:CallR X (.type T) r) (hg:Gl X x) (hm:X.mg x=none) (hv:bootBuiltins x=some (.type T)) (ha:PA X (e::es) t) (hn:x≠"__name__":=by decide) (hdb:(x == ("__debug__" : Str))=false:=by decide)
  (he:starEach (e::es) X.env=(false,eval e X.env)::starEach es X.env:=by rfl) (hpl:(backTo pos (starEach es X.env)).any (·.1)=false:=by rfl):PE X (.Call (.Name x p) (e::es) [] pos) (tCB r t):=by
 intro pins s σ H Q I h
 refine wpAny_Call_Name_kw (ld_blt I hg hm hv ?_ hn hdb)
 exact PyProof.Rows.callWith_type1 (thn (ha pos pins s σ H _ I h) fun us s1 ⟨vs,H1,I1,r1,q1⟩=>hc pins s1 σ H1 vs us Q I1 r1 q1) he hpl
end
end L2
namespace L2
open PySem PySem.Spec PyProof.Rows
section
variable {κ:Type} [DecidableEq κ]
def valV (kvs:List (κ×V)) (k:κ):Option V:=(kvs.find? fun kv=>decide (kv.1=k)).map (·.2)
def putK (kvs:List (κ×V)) (k:κ) (v:V):List (κ×V):=
 if (kvs.any fun kv=>decide (kv.1=k))=true then kvs.map (fun kv=>if kv.1=k then (kv.1,v) else kv) else kvs++[(k,v)]
theorem valV_pos {p:κ×V}{r:List (κ×V)}{k:κ} (e:p.1=k):valV (p::r) k=some p.2:=by simp [valV,List.find?_cons,e]
theorem valV_neg {p:κ×V}{r:List (κ×V)}{k:κ} (e:¬p.1=k):valV (p::r) k=valV r k:=by simp [valV,List.find?_cons,e]
theorem valV_any (k:κ):∀ kvs:List (κ×V),(kvs.any fun kv=>decide (kv.1=k))=(valV kvs k).isSome
 | []=>rfl
 | p::r=>by
  rw[List.any_cons]
  by_cases e:p.1=k
  ·simp only[valV_pos e,decide_eq_true e,Bool.true_or,Option.isSome_some]
  ·rw[valV_neg e,decide_eq_false e,Bool.false_or];exact valV_any k r
theorem valV_map (k j:κ) (y:V):∀ kvs:List (κ×V),valV (kvs.map fun kv=>if kv.1=k then (kv.1,y) else kv) j=(valV kvs j).map fun x=>if j=k then y else x
 | []=>rfl
 | p::r=>by
  have ih:=valV_map k j y r
  rw[List.map_cons]
  by_cases h:p.1=k
  ·rw[if_pos h]
   by_cases e:p.1=j
   ·rw[valV_pos (p:=(p.1,y)) e,valV_pos e,Option.map_some,if_pos (e.symm.trans h)]
   ·rw[valV_neg (p:=(p.1,y)) e,valV_neg e,ih]
  ·rw[if_neg h]
   by_cases e:p.1=j
   ·rw[valV_pos (p:=p) e,valV_pos e,Option.map_some,if_neg (fun z=>h (e.trans z))]
   ·rw[valV_neg (p:=p) e,valV_neg e,ih]
theorem valV_snoc (k j:κ) (y:V):∀ kvs:List (κ×V),valV kvs k=none->valV (kvs++[(k,y)]) j=if j=k then some y else valV kvs j
 | [],_=>by
  by_cases e:k=j
  ·rw[if_pos e.symm];exact valV_pos (p:=(k,y)) e
  ·rw[if_neg (fun z=>e z.symm)];exact valV_neg (p:=(k,y)) e
 | p::r,hn=>by
  rw[List.cons_append]
  have hk:¬p.1=k:=fun z=>by rw[valV_pos z]at hn;cases hn
  rw[valV_neg hk]at hn
  have ih:=valV_snoc k j y r hn
  by_cases e:p.1=j
  ·rw[valV_pos e,valV_pos e,if_neg (fun z=>hk (e.trans z))]
  ·rw[valV_neg e,valV_neg e,ih]
theorem valV_put (kvs:List (κ×V)) (k j:κ) (y:V):valV (putK kvs k y) j=if j=k then some y else valV kvs j:=by
 unfold putK
 by_cases a:(kvs.any fun kv=>decide (kv.1=k))=true
 ·rw[if_pos a,valV_map]
  rw[valV_any]at a
  by_cases e:j=k
  ·obtain⟨x,hx⟩:=Option.isSome_iff_exists.mp a
   rw[if_pos e,e,hx,Option.map_some,if_pos rfl]
  ·rw[if_neg e]
   cases valV kvs j with
   | none=>rfl
   | some x=>rw[Option.map_some,if_neg e]
 ·rw[if_neg a]
  refine valV_snoc k j y kvs ?_
  rw[valV_any]at a
  cases q:valV kvs k with
  | none=>rfl
  | some x=>rw[q]at a;exact (a rfl).elim
theorem length_putK (kvs:List (κ×V)) (k:κ) (v:V):(putK kvs k v).length<=kvs.length+1:=by
 unfold putK
 split
 ·rw[List.length_map];lia
 ·rw[List.length_append,List.length_cons,List.length_nil];lia
theorem RelO.isSome_eq {o:Option V}{u:Option Value} (r:RelO o u):o.isSome=u.isSome:=by
 cases o with
 | none=>cases u with
  | none=>rfl
  | some _=>exact (show False from r).elim
 | some _=>cases u with
  | none=>exact (show False from r).elim
  | some _=>rfl
theorem KV.val {kvs:List (κ×V)}{vs:List (κ×Value)} (r:KV kvs vs) (k:κ):RelO (valV kvs k) (valueAt vs k):=by
 unfold KV at r
 induction r with
 | nil=>exact True.intro
 | @cons p q ps qs h t ih=>
  obtain⟨h1,h2⟩:=h
  by_cases e:p.1=k
  ·have e':q.1=k:=h1.symm.trans e
   have b:valueAt (q::qs) k=some q.2:=by simp [valueAt,List.find?_cons,e']
   rw[valV_pos e,b];exact h2
  ·have e':¬q.1=k:=fun z=>e (h1.trans z)
   have b:valueAt (q::qs) k=valueAt qs k:=by simp [valueAt,List.find?_cons,e']
   rw[valV_neg e,b];exact ih
theorem KV.any {kvs:List (κ×V)}{vs:List (κ×Value)} (r:KV kvs vs) (k:κ):(kvs.any fun kv=>decide (kv.1=k))=vs.any fun kv=>decide (kv.1=k):=by
 unfold KV at r
 induction r with
 | nil=>rfl
 | cons h t ih=>rw[List.any_cons,List.any_cons,ih,h.1]
theorem KV.repl {kvs:List (κ×V)}{vs:List (κ×Value)} (r:KV kvs vs) (k:κ) {y:V}{u:Value} (ry:RelV y u) :
  KV (kvs.map fun kv=>if kv.1=k then (kv.1,y) else kv) (vs.map fun kv=>if kv.1=k then (kv.1,u) else kv):=by
 unfold KV at r ⊢
 induction r with
 | nil=>exact .nil
 | @cons p q ps qs h t ih=>
  rw[List.map_cons,List.map_cons]
  refine .cons ?_ ih
  obtain⟨h1,h2⟩:=h
  by_cases e:p.1=k
  ·rw[if_pos e,if_pos (h1.symm.trans e)];exact⟨h1,ry⟩
  ·rw[if_neg e,if_neg (fun z=>e (h1.trans z))];exact⟨h1,h2⟩
theorem KV.put {kvs:List (κ×V)}{vs:List (κ×Value)} (r:KV kvs vs) (k:κ) {y:V}{u:Value} (ry:RelV y u):KV (putK kvs k y) (stored vs k u):=by
 unfold putK stored
 rw[r.any k]
 by_cases e:(vs.any fun kv=>decide (kv.1=k))=true
 ·rw[if_pos e,if_pos e];exact r.repl k ry
 ·rw[if_neg e,if_neg e];exact Paired.snoc r ⟨rfl,ry⟩
theorem KV.length {kvs:List (κ×V)}{vs:List (κ×Value)} (r:KV kvs vs):kvs.length=vs.length:=Paired.length r
end
theorem kV_is {P:Program}{w:World}{k:Key}{u:Value} (r:RelV (kV k) u):(mixKind P w).is k u=true:=by
 cases k with
 | inl i=>obtain⟨t,e⟩:=(show ∃ t,u=Value.int i t from r);subst e;exact mixKind_int P w i t
 | inr x=>obtain⟨t,e⟩:=(show ∃ t,u=Value.str x t from r);subst e;exact mixKind_str P w x t
theorem items_are {P:Program}{w:World}:∀ {ks:List Key}{us:List Value},Vals (ks.map kV) us->ItemsAre (mixKind P w) ks us
 | [],_,r=>by rw[List.map_nil]at r;cases r;exact .nil
 | k::ks,_,r=>by
  rw[List.map_cons]at r
  cases r with
  | cons h t=>exact .cons (kV_is h) (items_are t)
abbrev KT (H:Hp):List (List Key×V)->List (List Key×Addr×Value)->Prop:=Paired fun p q=>p.1=q.1/\H q.2.1=some (.tup (p.1.map kV))/\RelV p.2 q.2.2
theorem KT.val {H:Hp}{kvs:List (List Key×V)}{xs:List (List Key×Addr×Value)} (r:KT H kvs xs) (k:List Key):RelO (valV kvs k) ((atKey xs k).map (·.2)):=by
 induction r with
 | nil=>exact True.intro
 | @cons p q ps qs h t ih=>
  obtain⟨h1,_,h2⟩:=h
  by_cases e:p.1=k
  ·have e':q.1=k:=h1.symm.trans e
   have b:atKey (q::qs) k=some q.2:=by simp [atKey,List.find?_cons,e']
   rw[valV_pos e,b];exact h2
  ·have e':¬q.1=k:=fun z=>e (h1.trans z)
   have b:atKey (q::qs) k=atKey qs k:=by simp [atKey,List.find?_cons,e']
   rw[valV_neg e,b];exact ih
theorem KT.repl {H:Hp}{kvs:List (List Key×V)}{xs:List (List Key×Addr×Value)} (r:KT H kvs xs) (k:List Key) {y:V}{u:Value} (ry:RelV y u) :
  KT H (kvs.map fun kv=>if kv.1=k then (kv.1,y) else kv) (xs.map (putAt k u)):=by
 induction r with
 | nil=>exact .nil
 | @cons p q ps qs h t ih=>
  rw[List.map_cons,List.map_cons]
  refine .cons ?_ ih
  obtain⟨h1,h2,h3⟩:=h
  unfold putAt
  by_cases e:p.1=k
  ·rw[if_pos e,if_pos (h1.symm.trans e)];exact⟨h1,h2,ry⟩
  ·rw[if_neg e,if_neg (fun z=>e (h1.trans z))];exact⟨h1,h2,h3⟩
theorem KT.put {H:Hp}{kvs:List (List Key×V)}{xs:List (List Key×Addr×Value)} (r:KT H kvs xs) (k:List Key) {b:Addr}{y:V}{u:Value} (hb:H b=some (.tup (k.map kV))) (ry:RelV y u) :
  KT H (putK kvs k y) (storedH xs k b u):=by
 have e:(kvs.any fun kv=>decide (kv.1=k))=(atKey xs k).isSome:=by
  rw[valV_any,(r.val k).isSome_eq,Option.isSome_map]
 unfold putK storedH
 rw[e]
 by_cases q:(atKey xs k).isSome=true
 ·rw[if_pos q,if_pos q];exact r.repl k ry
 ·rw[if_neg q,if_neg q];exact Paired.snoc r ⟨rfl,hb,ry⟩
theorem KT.keeps {H H':Hp}{kvs:List (List Key×V)}{xs:List (List Key×Addr×Value)} (r:KT H kvs xs) (ht:∀ b ys,H b=some (.tup ys)->H' b=some (.tup ys)):KT H' kvs xs:=
 Paired.mapP r fun _ _ z=>⟨z.1,ht _ _ z.2.1,z.2.2⟩
section
variable {P:Program}{w:World}{H:Hp}{h:Heap}{a:Addr}
theorem rd_of {u:HO} (ok:HOk P w H h) (e:Rd H a u):ObjOk P w H h a u:=e.ok ok
theorem dk_rd {kvs:List (Key×V)} (ok:HOk P w H h) (e:Rd H a (.dK kvs)):kvs.length<=sizeLine/\(a == sysModules)=false/\∃ vs,KV kvs vs/\h.DictOf (mixKind P w) a vs:=
 show ObjOk P w H h a (.dK kvs) from rd_of ok e
theorem dk_of {kvs:List (Key×V)} (ok:HOk P w H h) (e:H a=some (.dK kvs)):kvs.length<=sizeLine/\(a == sysModules)=false/\∃ vs,KV kvs vs/\h.DictOf (mixKind P w) a vs:=dk_rd ok (.inl e)
theorem key_of {ks:List Key} (ok:HOk P w H h) (e:H a=some (.tup (ks.map kV))):(tupleKind (mixKind P w)).is h ks a:=by
 obtain⟨_,its,r,o,h1,h2,n,h3⟩:=(show ObjOk P w H h a (.tup (ks.map kV)) from ok a _ e)
 exact⟨o,its.toArray,n,h1,h2,h3,by simpa using items_are r⟩
theorem dt_rd {kvs:List (List Key×V)} (ok:HOk P w H h) (e:Rd H a (.dT kvs)):kvs.length<=sizeLine/\(a == sysModules)=false /\
  ∃ xs,KT H kvs xs/\h.DictOfH (tupleKind (mixKind P w)) a xs:=by
 obtain⟨z,y,xs,r,o,es,ep,h1,h2,h3,h4,h5⟩:=(show ObjOk P w H h a (.dT kvs) from rd_of ok e)
 refine⟨z,y,xs,r,o,es,ep,h1,h2,h3,h4,fun x hx=>?_,h5⟩
 have all:∀ {l:List (List Key×V)}{m:List (List Key×Addr×Value)},KT H l m->∀ x∈m,(tupleKind (mixKind P w)).is h x.1 x.2.1:=by
  intro l m q
  induction q with
  | nil=>intro x hx;exact nomatch hx
  | @cons p q ps qs hq t ih=>
   intro x hx
   rcases List.mem_cons.mp hx with e | hx
   ·subst e
    exact key_of ok (by rw[<- hq.1];exact hq.2.1)
   ·exact ih x hx
 exact all r x hx
theorem dt_of {kvs:List (List Key×V)} (ok:HOk P w H h) (e:H a=some (.dT kvs)):kvs.length<=sizeLine/\(a == sysModules)=false /\
  ∃ xs,KT H kvs xs/\h.DictOfH (tupleKind (mixKind P w)) a xs:=dt_rd ok (.inl e)
end
def DGet (H:Hp) (a:Addr) (y:V) (r:Option V):Prop:=
 (∃ kvs k,Rd H a (.dK kvs)/\y=kV k/\r=valV kvs k)\/∃ kvs k b,Rd H a (.dT kvs)/\y=.ref b/\H b=some (.tup (k.map kV))/\r=valV kvs k
def DPut (H:Hp) (a:Addr) (y v:V) (H':Hp):Prop:=
 (∃ kvs k,H a=some (.dK kvs)/\y=kV k/\kvs.length<sizeLine/\H'=upd H a (.dK (putK kvs k v))) \/
 ∃ kvs k b,H a=some (.dT kvs)/\y=.ref b/\H b=some (.tup (k.map kV))/\kvs.length<sizeLine/\H'=upd H a (.dT (putK kvs k v))
theorem DGet.k {H:Hp}{a:Addr}{kvs:List (Key×V)}{k:Key} (e:H a=some (.dK kvs)):DGet H a (kV k) (valV kvs k):=.inl ⟨kvs,k,.inl e,rfl,rfl⟩
theorem DPut.k {H:Hp}{a:Addr}{kvs:List (Key×V)}{k:Key}{v:V} (e:H a=some (.dK kvs)) (hl:kvs.length<sizeLine):DPut H a (kV k) v (upd H a (.dK (putK kvs k v))):=.inl ⟨kvs,k,e,rfl,hl,rfl⟩
section
variable {X:Cx}{pins:List (Addr×Obj)} {σ:St} {H:Hp}{s:Shared}{a:Addr}{y v:V}{u r:Value}{o:Option V}{A:Around}{E:Value->Shared->Prop}
theorem Inv.big (I:Inv X pins σ H s):sysModules<s.heap.objs.size:=by
 have h:mainGlobals<s.heap.objs.size:=(I.mod.glob.keeps I.bk).lt
 exact Nat.lt_trans (by decide) h
theorem d_getItem {Q:Value->Shared->Prop} (hu:A.units+1<cLine) (I:Inv X pins σ H s) (g:DGet H a y (some v)) (ry:RelV y u) (h:∀ w' s',Inv X pins σ H s'->RelV v w'->Q w' s') :
  wpAny (model X.prog X.w) A (getItem (.ref a) u) Q E s:=by
 rcases g with ⟨kvs,k,e,ey,l⟩ | ⟨kvs,k,b,e,ey,eb,l⟩
 ·subst ey
  obtain⟨z,hd,vs,rel,dd⟩:=dk_rd I.hok e
  obtain⟨w',hw,rw'⟩:=RelO.some_of (v:=v) (o:=valueAt vs k) (by rw[l];exact rel.val k)
  exact wpAny_getItem_of (kV_is ry) dd.mapOf hw (h w' _ (I.tok _) rw')
 ·subst ey
  cases (show u=Value.ref b from ry)
  obtain⟨z,hd,xs,rel,dd⟩:=dt_rd I.hok e
  obtain⟨w',hw,rw'⟩:=RelO.some_of (v:=v) (o:=(atKey xs k).map (·.2)) (by rw[l];exact rel.val k)
  obtain⟨p,hp,hp2⟩:=Option.map_eq_some_iff.mp hw
  refine wpAny_getItem_heap (tupleKind_room_in1 hu) (key_of I.hok eb) dd hp ?_
  rw[hp2]
  exact h w' _ (I.tok _) rw'
theorem d_write {h':Heap}{t':Nat}{ob:HO} (I:Inv X pins σ H s) (mu:Mut (H a)) (hs:Heap.SameBut a s.heap h') (he:∃ q,h'.get? a=some q) (new:ObjOk X.prog X.w (upd H a ob) h' a ob) :
  Inv X pins σ (upd H a ob) { s with heap:=h',toks:=t' }:=
 I.write (x:=a) (e:=a) mu (.inl rfl) (fun b q hb z=>(hs.2 b hb).trans z) he new
theorem dk_new {P:Program}{w:World}{H':Hp}{h':Heap}{kvs:List (Key×V)}{vs:List (Key×Value)} (z:kvs.length<=sizeLine) (hd:(a == sysModules)=false) (rel:KV kvs vs) (dd:h'.DictOf (mixKind P w) a vs) :
  ObjOk P w H' h' a (.dK kvs):=⟨z,hd,vs,rel,dd⟩
theorem d_setItem {H':Hp}{Q:Unit->Shared->Prop} (hu:A.units+1<cLine) (I:Inv X pins σ H s) (g:DPut H a y v H') (ry:RelV y u) (rv:RelV v r) (h:∀ s',Inv X pins σ H' s'->Q () s') :
  wpAny (model X.prog X.w) A (setItem (.ref a) u r) Q E s:=by
 rcases g with ⟨kvs,k,e,ey,l,eH⟩ | ⟨kvs,k,b,e,ey,eb,l,eH⟩
 ·subst ey eH
  obtain⟨z,hd,vs,rel,dd⟩:=dk_of I.hok e
  have hz:vs.length<=sizeLine:=by rw[<- rel.length];exact z
  have hl:(putK kvs k v).length<=sizeLine:=by have:=length_putK kvs k v;lia
  refine wpAny_setItem_pairs (hsz:=hz) (kV_is ry) dd fun h' dd' hs=>h _ ?_
  have he:∃ q,h'.get? a=some q:=let ⟨q,_,_,hq,_⟩:=dd';⟨q,hq⟩
  exact d_write I (by rw[e];exact True.intro) hs he (dk_new hl hd (rel.put k rv) dd')
 ·subst ey eH
  cases (show u=Value.ref b from ry)
  obtain⟨z,hd,xs,rel,dd⟩:=dt_of I.hok e
  have hz:xs.length<=sizeLine:=by rw[<- Paired.length rel];exact z
  have hl:(putK kvs k v).length<=sizeLine:=by have:=length_putK kvs k v;lia
  refine wpAny_setItem_heap (hsz:=hz) (tupleKind_room_in1 hu) (key_of I.hok eb) dd fun h' dd' hs=>h _ ?_
  obtain⟨q,es,ep,hq,h2,h3,h4,_,h5⟩:=dd'
  refine d_write I (by rw[e];exact True.intro) hs ⟨q,hq⟩ ⟨hl,hd,_,(rel.put k eb rv).keeps fun c ys ec=>?_,q,es,ep,hq,h2,h3,h4,h5⟩
  rw[upd_ne (ne_of ec e (fun z=>nomatch z))]
  exact ec
end
section
variable {X:Cx}{pins:List (Addr×Obj)} {σ:St} {H:Hp}{s:Shared}{a:Addr}{kvs:List (Key×V)}{k:Key}{u:Value}{A:Around}{E:Value->Shared->Prop}
end
theorem dict_typeIs {X:Cx}{pins:List (Addr×Obj)} {σ:St} {H:Hp}{s:Shared}{a:Addr}{y:V}{o:Option V} (I:Inv X pins σ H s) (g:DGet H a y o):s.TypeIs (.ref a) "dict":=by
 rcases g with ⟨kvs,k,e,_,_⟩ | ⟨kvs,k,b,e,_,_,_⟩
 ·obtain⟨_,_,vs,_,dd⟩:=dk_rd I.hok e
  exact dd.typeIs
 ·obtain⟨_,_,xs,_,dd⟩:=dt_rd I.hok e
  exact dd.typeIs
section
variable {X:Cx}{o i e value:Expr}{pos pos' tpos:Pos}{td ty tv:TE}
end
theorem dk_empty {P:Program}{w:World}{H:Hp} (h:Heap) (hb:sysModules<h.objs.size):ObjOk P w H (h.push { cls:=.type "dict",data:=.dict #[] }) h.objs.size (.dK []):=
 ⟨Nat.zero_le _,beq_eq_false_iff_ne.mpr (Ne.symm (Nat.ne_of_lt hb)),[],.nil,Heap.DictOf.new h⟩
section
variable {X:Cx}{pos:Pos}
end
def tPairs:List (TE×TE)->St->Hp->(List (V×V)->Hp->Prop)->Prop
 | [],_,H,Q=>Q [] H
 | (tk,tv)::r,σ,H,Q=>tk σ H fun x H1=>tv σ H1 fun y H2=>tPairs r σ H2 fun ps H3=>Q ((x,y)::ps) H3
abbrev VV:List (V×V)->List (Value×Value)->Prop:=Paired fun p q=>RelV p.1 q.1/\RelV p.2 q.2
def PPs (X:Cx) (pos:Pos) (keys:List (Option Expr)) (values:List Expr) (trs:List (TE×TE)):Prop:=
 ∀ (pins:List (Addr×Obj)) (s:Shared) (σ:St) (H:Hp) (Q:List (V×V)->Hp->Prop),Inv X pins σ H s->tPairs trs σ H Q ->
  wpAny (model X.prog X.w) X.A (evalPairs (pairTrees keys values X.env pos)) (fun vs s'=>∃ ps H',Inv X pins σ H' s'/\VV ps vs/\Q ps H') X.xe s
theorem pps_nil {X:Cx}{pos:Pos}:PPs X pos [] [] []:=fun pins s σ H Q I h=>pairTrees_nil_walk ⟨[],H,I,.nil,h⟩
theorem pps_cons {X:Cx}{pos:Pos}{k v:Expr}{ks:List (Option Expr)}{vs:List Expr}{tk tv:TE}{trs:List (TE×TE)} (hk:PE X k tk) (hv:PE X v tv) (hr:PPs X pos ks vs trs) :
  PPs X pos (some k::ks) (v::vs) ((tk,tv)::trs):=fun pins s σ H Q I h=>
 pairTrees_cons_walk (thn (hk pins s σ H _ I h) fun u s1 ⟨x,H1,I1,rx,q1⟩=>thn (hv pins s1 σ H1 _ I1 q1) fun w2 s2 ⟨y,H2,I2,ry,q2⟩=>
  thn (hr pins s2 σ H2 _ I2 q2) fun ws s3 ⟨ps,H3,I3,rel,q3⟩=>⟨(x,y)::ps,H3,I3,.cons ⟨rx,ry⟩ rel,q3⟩)
def mergeK (kvs more:List (Key×V)):List (Key×V):=more.foldl (fun acc kv=>putK acc kv.1 kv.2) kvs
theorem KV.merge:∀ {more:List (Key×V)}{rs:List (Key×Value)}{kvs:List (Key×V)}{vs:List (Key×Value)},KV more rs->KV kvs vs->KV (mergeK kvs more) (merged vs rs):=by
 intro more rs kvs vs r
 unfold KV at r
 induction r generalizing kvs vs with
 | nil=>intro q;exact q
 | @cons p q ps qs h t ih=>
  intro r0
  have e:KV (putK kvs p.1 p.2) (stored vs q.1 q.2):=by
   have:=r0.put p.1 h.2
   rw[<- h.1];exact this
  exact ih e
theorem length_mergeK:∀ (more kvs:List (Key×V)),(mergeK kvs more).length<=kvs.length+more.length
 | [],kvs=>by show kvs.length<=kvs.length+0;lia
 | p::r,kvs=>by
  have h1:=length_mergeK r (putK kvs p.1 p.2)
  have h2:=length_putK kvs p.1 p.2
  show (mergeK (putK kvs p.1 p.2) r).length<=_
  rw[List.length_cons];lia
theorem carries_of {P:Program}{w:World}:∀ {kvs:List (Key×V)}{ws:List (Value×Value)},VV (kvs.map fun kv=>(kV kv.1,kv.2)) ws->∃ rs,Carries (mixKind P w) ws rs/\KV kvs rs
 | [],_,r=>by rw[List.map_nil]at r;cases r;exact⟨[],True.intro,.nil⟩
 | p::kvs,_,r=>by
  rw[List.map_cons]at r
  cases r with
  | @cons a b as bs h t=>
   obtain⟨rs,c,q⟩:=carries_of (P:=P) (w:=w) t
   obtain⟨b1,b2⟩:=b
   exact⟨(p.1,b2)::rs,⟨kV_is h.1,rfl,c⟩,.cons ⟨rfl,h.2⟩ q⟩
def tDisp (trs:List (TE×TE)):TE:=fun σ H Q=>∀ p,H p=none->tPairs trs σ (upd H p (.dK [])) fun ps H2=>H2 p=some (.dK [])/\∃ kvs:List (Key×V),ps=kvs.map (fun kv=>(kV kv.1,kv.2))/\kvs.length<=15/\Q (.ref p) (upd H2 p (.dK (mergeK [] kvs)))
theorem pe_disp {X:Cx}{pos:Pos}{keys:List (Option Expr)}{values:List Expr}{trs:List (TE×TE)} (h:PPs X pos keys values trs) (hall:keys.all (·.isSome)=true) (hl:keys.length=values.length) (h0:keys≠[])
  (h15:keys.length<=15):PE X (.Dict keys values pos) (tDisp trs):=by
 intro pins s σ H Q I q
 have hn:=I.hok.fresh (Nat.le_refl s.heap.objs.size)
 have I1:=I.laid (a:=s.heap.objs.size) (o:=.dK []) (h':=s.heap.push { cls:=.type "dict",data:=.dict #[] }) (t':=s.toks) (fun _ _ q=>Heap.get?_push_of_some _ q) (Nat.le_refl _) (dk_empty s.heap I.big)
 refine wpAny_Dict_walk (knd:=mixKind X.prog X.w) hall hl h0 h15 (thn (h pins _ σ _ _ I1 (q _ hn)) fun ws s2 ⟨ps,H2,I2,rel,e,kvs,ep,lk,q2⟩=>?_)
 subst ep
 obtain⟨rs,c,rk⟩:=carries_of (P:=X.prog) (w:=X.w) rel
 obtain⟨z,hd,vs0,r0,dd⟩:=dk_of I2.hok e
 cases r0
 refine⟨rs,c,dd,fun h' dd' hs=>⟨.ref s.heap.objs.size,_,?_,rfl,q2⟩⟩
 have hz:(mergeK [] kvs).length<=sizeLine:=by
  have h1:=length_mergeK kvs []
  rw[List.length_nil]at h1
  rw[sizeLine_eq];lia
 have he:∃ q,h'.get? s.heap.objs.size=some q:=let ⟨q,_,_,hq,_⟩:=dd';⟨q,hq⟩
 exact d_write I2 (by rw[e];exact True.intro) hs he (dk_new hz hd (rk.merge .nil) dd')
structure M1 (X:Cx) (o:Expr) (m:Str) (apos:Pos) (e:Expr) (cpos:Pos):Prop where
 base:attributeBase o m X.env (eval o X.env)=eval o X.env
 few:((backTo cpos (starEach [e] X.env)).all (fun x=>!x.1) && (backToKw cpos (keywordEach [] X.env)).all (fun x=>x.1.isSome)
  && decide (([e]:List Expr).length+([]:List Keyword).length+(if ([]:List Keyword).isEmpty then 0 else 1)<30))=true
 line:(apos.endLine == cpos.line)=true
 trees:backTo cpos (starEach [e] X.env)=[(false,eval e X.env)]
section
variable {X:Cx}{pins:List (Addr×Obj)} {σ:St} {H:Hp}{s:Shared}{a:Addr}{y d:V}{u r:Value}{o:Option V}{A:Around}{E:Value->Shared->Prop}
end
section
variable {X:Cx}{o e f:Expr}{apos cpos:Pos}{td ty tx:TE}
end
section
variable {X:Cx}{pins:List (Addr×Obj)} {σ:St} {H:Hp}{s:Shared}{a:Addr}{kvs:List (Key×V)}{A:Around}{E:Value->Shared->Prop}
end
section
variable {X:Cx}{pins:List (Addr×Obj)} {σ:St} {H:Hp}{s:Shared}{a:Addr}{y:V}{u:Value}{A:Around}{E:Value->Shared->Prop}
end
end L2
namespace HT
open PySem PyProof.Rows
theorem rcLt_int (A:Around) (s:Shared) (a:Int) (t:Tok) (c:Int) (u:Tok) (prog:Program) (w:World) (E:Value->Shared->Prop) (Q:Value->Shared->Prop) (h:Q (.bool (decide (a<c))) s) :
  wpAny (model prog w) A (richCompare .Lt (.int a t) (.int c u)) Q E s:=
 (PyProof.Rows.lt_int h:wpAny (model prog w) A (compareOp .Lt (.int a t) (.int c u)) Q E s)
section
open PySem.SeqAt
open PySem.AutoSeq1 (wpAny_loadPart')
open PySem.MeetsSeq PySem.MeetsSeq2 PySem.MeetsSeq3
end
section
variable {prog:Program}{w:World}{A:Around}{E:Value->Shared->Prop}{s:Shared}
theorem cat_tup {t b:Addr}{vs ws:List Value}{Q:Value->Shared->Prop} (ht:IsTup s.heap t vs.toArray) (hb:IsTup s.heap b ws.toArray) (hv:vs≠[])
  (h1:ws=[]->Q (.ref t) s) (h2:ws≠[]->Q (.ref s.heap.objs.size) { s with heap:=s.heap.push { cls:=.type "tuple",data:=.seq (vs++ws).toArray } })
  (hsz:vs.length+ws.length<=sizeLine):wpAny (model prog w) A (binaryOp .Add (.ref t) (.ref b)) Q E s:=by
 obtain⟨⟨cls,dd,data,sl⟩,ho,hc,n,hd⟩:=id ht
 obtain⟨⟨cls2,dd2,data2,sl2⟩,ho2,hc2,n2,hd2⟩:=id hb
 simp only at hc hd hc2 hd2
 subst hc hd hc2 hd2
 have e:vs.toArray++ws.toArray=(vs++ws).toArray:=by simp
 by_cases hw:ws=[]
 ·exact concat_meets ⟨_,ho,rfl⟩ ⟨_,ho2,rfl⟩ noFill_tuple_add seq_tuple_add PySem.F.slot_tuple_add PySem.F.entry_tuple_add (PySem.F.args_tuple_add_2 _ _)
   (tuple_addW1 t b vs.toArray ws.toArray n n2 dd dd2 sl sl2 (by simpa using hv) (by simp [hw])) ⟨ho,ho2,h1 hw⟩
 ·refine concat_meets ⟨_,ho,rfl⟩ ⟨_,ho2,rfl⟩ noFill_tuple_add seq_tuple_add PySem.F.slot_tuple_add PySem.F.entry_tuple_add (PySem.F.args_tuple_add_2 _ _)
   (tuple_addW2 t b vs.toArray ws.toArray n n2 dd dd2 sl sl2 (by simpa using hv) (by simpa using hw) (by rw[List.size_toArray,List.size_toArray];exact hsz)) ⟨ho,ho2,?_⟩
  rw[e]
  exact h2 hw
def sIx (n d:Nat):Option Int->Nat
 | none=>d
 | some v=>if v<0 then (v+(n:Int)).toNat else min v.toNat n
theorem sIx_nat (n d k:Nat):sIx n d (some (k:Int))=min k n:=by
 show (if (k:Int)<0 then ((k:Int)+(n:Int)).toNat else min (k:Int).toNat n)=min k n
 rw[if_neg (by lia),Int.toNat_natCast]
theorem sIx_le (n d:Nat) (hd:d<=n) (o:Option Int):sIx n d o<=n:=by
 cases o with
 | none=>exact hd
 | some v=>
  show (if v<0 then (v+(n:Int)).toNat else min v.toNat n)<=n
  by_cases hv:v<0
  ·rw[if_pos hv];lia
  ·rw[if_neg hv];exact Nat.min_le_right _ _
theorem clip_eq (v:Int) (n d:Nat):(if v<0 then max (v+(n:Int)) 0 else min v (n:Int))=((sIx n d (some v):Nat):Int):=by
 show (if v<0 then max (v+(n:Int)) 0 else min v (n:Int))=(((if v<0 then (v+(n:Int)).toNat else min v.toNat n):Nat):Int)
 by_cases hv:v<0
 ·simp only[if_pos hv];lia
 ·simp only[if_neg hv];lia
theorem adjust_gen (lo hi:Option Int) (n:Nat):Builtin.Slice.sliceAdjust lo hi 1 (n:Int)=(((sIx n 0 lo:Nat):Int),((sIx n n hi:Nat):Int)):=by
 have h1:¬((1:Int)<0):=by lia
 unfold Builtin.Slice.sliceAdjust
 simp only[h1,if_false]
 refine Prod.ext ?_ ?_
 ·cases lo with
  | none=>rfl
  | some v=>exact clip_eq v n 0
 ·cases hi with
  | none=>rfl
  | some v=>exact clip_eq v n n
theorem places_gen (i j:Nat):Builtin.Slice.slicePlaces (i:Int) (j:Int) 1=j-i:=by
 unfold Builtin.Slice.slicePlaces
 have h1:(1:Int) > 0:=by lia
 simp only[h1,if_true,Int.ediv_one]
 split <;> lia
theorem slicePart_ {v:Value}{o:Option Int}{Q:Option Int->Shared->Prop} (p:IsPart v o) (h:Q o s):wpAny (model prog w) A (Builtin.Slice.slicePartIndex v) Q E s:=by
 cases p with
 | none=>exact slicePart_none h
 | int i t=>exact slicePart_int h
theorem sliceApplied_gen {sl:Addr}{vl vu:Value}{lo hi:Option Int}{n:Nat}{Q:Int×Int×Nat->Shared->Prop} (hs:s.heap.IsSliceOf sl vl vu .none) (pl:IsPart vl lo) (pu:IsPart vu hi)
  (h:Q (((sIx n 0 lo:Nat):Int),1,sIx n n hi-sIx n 0 lo) s):wpAny (model prog w) A (Builtin.Slice.sliceApplied (.ref sl) (pure (n:Int))) Q E s:=by
 obtain⟨os,hos,hcs,hds⟩:=id hs
 unfold Builtin.Slice.sliceApplied Builtin.Slice.sliceFields
 refine wpAny_bind (wpAny_bind (wpAny_field hos hds (x:=vl) rfl (wpAny_bind (wpAny_field hos hds (x:=vu) rfl (wpAny_bind (wpAny_field hos hds (x:=.none) rfl (wpAny_pure ?_)))))))
 refine wpAny_bind (slicePart_none ?_)
 show wpAny _ _ (if ((1:Int) == 0)=true then _ else _) _ _ s
 rw[if_neg (by decide)]
 refine wpAny_bind (slicePart_ pl (wpAny_bind (slicePart_ pu (wpAny_bind (wpAny_pure ?_)))))
 show wpAny _ _ (match Builtin.Slice.sliceAdjust lo hi 1 (n:Int) with | (lo,hi)=>pure (lo,(1:Int),Builtin.Slice.slicePlaces lo hi 1)) _ _ s
 rw[adjust_gen lo hi n]
 show wpAny _ _ (pure (((sIx n 0 lo:Nat):Int),(1:Int),Builtin.Slice.slicePlaces ((sIx n 0 lo:Nat):Int) ((sIx n n hi:Nat):Int) 1)) _ _ s
 rw[places_gen]
 exact wpAny_pure h
theorem pick_gen (xs:Array Value) (i k:Nat):((List.range k).filterMap fun (m:Nat)=>xs[((i:Int)+(m:Int) * 1).toNat]?).toArray=((xs.toList.drop i).take k).toArray:=by
 have e:(fun (m:Nat)=>xs[((i:Int)+(m:Int) * 1).toNat]?)=fun m=>xs[i+m]?:=by
  funext m
  have:((i:Int)+(m:Int) * 1).toNat=i+m:=by lia
  rw[this]
 rw[e]
 have:=pick_run xs i k
 rw[List.filterMap_map]at this
 have e2:((fun x=>xs[x]?) ∘ fun x=>i+x)=fun m=>xs[i+m]?:=rfl
 rw[e2]at this
 rw[this]
theorem getItem_tuple_cut {t sl:Addr}{items:Array Value}{vl vu:Value}{lo hi:Option Int}{Q:Value->Shared->Prop} (ht:IsTup s.heap t items) (hs:s.heap.IsSliceOf sl vl vu .none) (pl:IsPart vl lo) (pu:IsPart vu hi)
  (hw:¬(sIx items.size 0 lo=0/\sIx items.size items.size hi=items.size))
  (h:Q (.ref s.heap.objs.size) { s with heap:=s.heap.push { cls:=.type "tuple",data:=.seq ((items.toList.drop (sIx items.size 0 lo)).take (sIx items.size items.size hi-sIx items.size 0 lo)).toArray } })
  (hsz:items.size<=sizeLine):wpAny (model prog w) A (getItem (.ref t) (.ref sl)) Q E s:=by
 have htake:sizeOk (.seq ((items.toList.drop (sIx items.size 0 lo)).take (sIx items.size items.size hi-sIx items.size 0 lo)).toArray):=by
  show ((items.toList.drop (sIx items.size 0 lo)).take (sIx items.size items.size hi-sIx items.size 0 lo)).toArray.size<=sizeLine
  rw[List.size_toArray,List.length_take,List.length_drop,Array.length_toList]
  lia
 have hj:sIx items.size items.size hi<=items.size:=sIx_le _ _ (Nat.le_refl _) hi
 obtain⟨os,hos,hcs,hds⟩:=id hs
 have hTs:s.TypeIs (.ref sl) "slice":=⟨os,hos,hcs⟩
 unfold getItem
 try with_reducible refine wpAny_holding ?_
 first | refine wpAny_bind (wpAny_pure ?_) | skip
 refine wpAny_bind (wpAny_sequenceKey ht.typeIs (by decide) ?_)
 refine wpAny_bind (wpAny_callSpecial?_slot (name:=Str.ofString "__getitem__") ht.typeIs PyProof.Rows.slot_tuple_getitem
  (wpAny_call_entry PyProof.Rows.slot_tuple_getitem ht.typeIs entry_tuple_getitem ?_ (args_tuple_getitem _ _)))
 show wpAny _ _ (Builtin.Tuple.tupleItemsOf (.ref t) >>= _) _ _ s
 refine wpAny_bind (tupleItemsOf_ ht ?_)
 refine wpAny_bind (wpAny_typeOf hTs ?_)
 rw[if_pos (by decide)]
 refine wpAny_bind (sliceApplied_gen hs pl pu ?_)
 have hno:¬((((sIx items.size 0 lo:Nat):Int) == 0 && (1:Int) == 1 && (sIx items.size items.size hi-sIx items.size 0 lo) == items.size)=true):=by
  intro q
  rw[Bool.and_eq_true,Bool.and_eq_true]at q
  have q1:((sIx items.size 0 lo:Nat):Int)=0:=eq_of_beq q.1.1
  have q2:sIx items.size items.size hi-sIx items.size 0 lo=items.size:=eq_of_beq q.2
  exact hw ⟨by lia,by lia⟩
 show wpAny _ _ (if (((sIx items.size 0 lo:Nat):Int) == 0 && (1:Int) == 1 && (sIx items.size items.size hi-sIx items.size 0 lo) == items.size)=true then _ else _) _ _ s
 rw[if_neg hno,pick_gen]
 first
  | exact wpAny_bind (m:=Builtin.Tuple.tupleExact _) (wpAny_newObj_type (wpAny_pure ⟨_,rfl,wpAny_pure h⟩) htake)
  | exact wpAny_bind (m:=Builtin.Tuple.tupleExact _) (wpAny_newObj_type (wpAny_bind (wpAny_pure (wpAny_pure ⟨_,rfl,wpAny_pure h⟩))) htake)
  | exact wpAny_bind (wpAny_bind (m:=Builtin.Tuple.tupleExact _) (wpAny_newObj_type (wpAny_pure (wpAny_pure ⟨_,rfl,wpAny_pure h⟩)) htake))
  | exact wpAny_bind (wpAny_bind (m:=Builtin.Tuple.tupleExact _) (wpAny_newObj_type (wpAny_pure ⟨_,rfl,wpAny_pure h⟩) htake))
end
end HT
namespace L2
open PySem PySem.Spec PyProof.Rows
abbrev TO:=St->Hp->(Option Int->Hp->Prop)->Prop
def PO (X:Cx) (e:Option Expr) (t:TO):Prop:=
 ∀ (pins:List (Addr×Obj)) (s:Shared) (σ:St) (H:Hp) (Q:Option Int->Hp->Prop),Inv X pins σ H s->t σ H Q ->
  wpAny (model X.prog X.w) X.A (evalPart e X.env) (fun u s'=>∃ o H',Inv X pins σ H' s'/\IsPart u o/\Q o H') X.xe s
def tNoPart:TO:=fun _ H Q=>Q none H
def tPart (t:TE):TO:=fun σ H Q=>t σ H fun x H1=>∃ i,x=.int i/\Q (some i) H1
section
variable {X:Cx}{e:Expr}{te:TE}{lo hi:Option Expr}{tl th:TO}{pos p2:Pos}
theorem po_none:PO X none tNoPart:=by
 intro pins s σ H Q I h
 rw[evalPart_none]
 exact wpAny_pure ⟨none,H,I,.none,h⟩
theorem po_some (h:PE X e te):PO X (some e) (tPart te):=by
 intro pins s σ H Q I hw
 rw[evalPart_some]
 refine thn (h pins s σ H _ I hw) fun u s1 ⟨x,H1,I1,r1,q1⟩=>?_
 obtain⟨i,rfl,q⟩:=q1
 obtain⟨t,rfl⟩:=r1
 exact⟨some i,H1,I1,.int i t,q⟩
def SlR (X:Cx) (r:V->Option Int->Option Int->Hp->VK->Prop):Prop:=
 ∀ (pins:List (Addr×Obj)) (s:Shared) (σ:St) (H:Hp) (x:V) (v vl vu:Value) (lo hi:Option Int) (sl:Addr) (Q:VK),Inv X pins σ H s->RelV x v->s.heap.IsSliceOf sl vl vu .none->IsPart vl lo->IsPart vu hi->r x lo hi H Q ->
  ∃ T id,typeLookup (.type T) "__getitem__"=pure (some (.builtin id))/\s.TypeIs v T/\wpAny (model X.prog X.w) X.A (getItem v (.ref sl)) (EP X pins σ Q) X.xe s
theorem SlR.or {r r':V->Option Int->Option Int->Hp->VK->Prop} (h:SlR X r) (h':SlR X r'):SlR X (fun x lo hi H Q=>r x lo hi H Q\/r' x lo hi H Q):=by
 intro pins s σ H x v vl vu lo hi sl Q I rx hs pl pu q
 rcases q with q | q
 ·exact h pins s σ H x v vl vu lo hi sl Q I rx hs pl pu q
 ·exact h' pins s σ H x v vl vu lo hi sl Q I rx hs pl pu q
def tSl (r:V->Option Int->Option Int->Hp->VK->Prop) (te:TE) (tl th:TO):TE:=fun σ H Q=>te σ H fun x H1=>tl σ H1 fun l H2=>th σ H2 fun u H3=>r x l u H3 Q
theorem pe_slice {r:V->Option Int->Option Int->Hp->VK->Prop} (hr:SlR X r) (he:PE X e te) (hl:PO X lo tl) (hu:PO X hi th):PE X (.Subscript e (.Slice lo hi none p2) pos) (tSl r te tl th):=by
 intro pins s σ H Q I h
 refine Subscript_ (thn (he pins s σ H _ I h) fun v s1 ⟨x,H1,I1,r1,q1⟩=>?_)
 refine wpAny_Slice (thn (hl pins s1 σ H1 _ I1 q1) fun vl s2 ⟨l,H2,I2,pl,q2⟩=>thn (hu pins s2 σ H2 _ I2 q2) fun vu s3 ⟨u,H3,I3,pu,q3⟩=>?_)
 rw[evalPart_none]
 refine wpAny_pure ?_
 have I4:Inv X pins σ H3 { s3 with heap:=s3.heap.push { cls:=.type "slice",data:=.fields #[vl,vu,.none] } }:=I3.kept (t':=s3.toks) fun b ob q=>Heap.get?_push_of_some _ q
 obtain⟨T,id,hT,ht,hg⟩:=hr pins { s3 with heap:=s3.heap.push { cls:=.type "slice",data:=.fields #[vl,vu,.none] } } σ H3 x v vl vu l u s3.heap.objs.size Q I4 r1 (Heap.IsSliceOf.new ..) pl pu q3
 show wpAny (model X.prog X.w) X.A (subscriptTail e (.Slice lo hi none p2) v (.ref s3.heap.objs.size)) (EP X pins σ Q) X.xe { s3 with heap:=s3.heap.push { cls:=.type "slice",data:=.fields #[vl,vu,.none] } }
 exact tail_any (ops:=[.ref s3.heap.objs.size,v]) ht hT hg (by with_unfolding_all rfl)
def cutV (xs:List V) (lo hi:Option Int):List V:=(xs.drop (HT.sIx xs.length 0 lo)).take (HT.sIx xs.length xs.length hi-HT.sIx xs.length 0 lo)
theorem cutV_length (xs:List V) (lo hi:Option Int):(cutV xs lo hi).length<=xs.length:=by
 unfold cutV
 rw[List.length_take,List.length_drop]
 lia
def rSlT (K:PySem.W.Frag):V->Option Int->Option Int->Hp->VK->Prop:=fun x lo hi H Q=>∃ a xs,x=.ref a/\SqT K H a xs /\
 ¬(HT.sIx xs.length 0 lo=0/\HT.sIx xs.length xs.length hi=xs.length)/\∀ p,H p=none->Q (.ref p) (upd H p (.tup (cutV xs lo hi)))
theorem sl_tup:SlR X (rSlT X.K):=by
 intro pins s σ H x v vl vu lo hi sl Q I rx hs pl pu h
 obtain⟨a,xs,rfl,hx,hw,q⟩:=h
 cases rx
 obtain⟨its,r,ht,hz⟩:=I.tuple hx
 have hlen:its.toArray.size=xs.length:=by rw[List.size_toArray];exact r.length.symm
 refine⟨"tuple",_,PyProof.Rows.slot_tuple_getitem.lookup,ht.typeIs,?_⟩
 refine HT.getItem_tuple_cut ht hs pl pu (by rw[hlen];exact hw) ?_ (by rw[hlen];exact hz)
 rw[hlen]
 refine⟨.ref s.heap.objs.size,_,I.laid (t':=s.toks) (o:=.tup (cutV xs lo hi)) (fun b ob q=>Heap.get?_push_of_some _ q) (Nat.le_refl _) ?_,rfl,q _ (I.hok.fresh (Nat.le_refl _))⟩
 exact⟨tupD_new (Nat.le_trans (cutV_length xs lo hi) hz),_,(r.drop (HT.sIx xs.length 0 lo)).take (HT.sIx xs.length xs.length hi-HT.sIx xs.length 0 lo),IsTup.new _ _⟩
def rCatT (K:PySem.W.Frag):R2:=fun x y H Q=>∃ a b xs ys,x=.ref a/\y=.ref b/\SqT K H a xs/\SqT K H b ys/\xs≠[]/\xs.length+ys.length<=sizeLine /\
 (ys=[]->Q (.ref a) H)/\(ys≠[]->∀ p,H p=none->Q (.ref p) (upd H p (.tup (xs++ys))))
theorem Vals.nil_iff {xs:List V}{us:List Value} (r:Vals xs us):us=[] ↔ xs=[]:=by
 cases r with
 | nil=>simp
 | cons _ _=>simp
theorem op_catT:OpR X (binaryOp .Add) (rCatT X.K):=by
 intro pins s σ H x y v u Q I rx ry h
 obtain⟨a,b,xs,ys,rfl,rfl,ha,hb,hx,hz,q1,q2⟩:=h
 cases rx
 cases ry
 obtain⟨its,r1,p1,_⟩:=I.tuple ha
 obtain⟨its2,r2,p2,_⟩:=I.tuple hb
 refine HT.cat_tup p1 p2 (fun z=>hx (r1.nil_iff.mp z)) (fun z=>⟨.ref a,H,I,rfl,q1 (r2.nil_iff.mp z)⟩) (fun z=>?_) (by rw[<- r1.length,<- r2.length];exact hz)
 refine⟨.ref s.heap.objs.size,_,I.laid (t':=s.toks) (o:=.tup (xs++ys)) (fun b ob q=>Heap.get?_push_of_some _ q) (Nat.le_refl _) ?_,rfl,q2 (fun w=>z (r2.nil_iff.mpr w)) _ (I.hok.fresh (Nat.le_refl _))⟩
 exact⟨tupD_new (by rw[List.length_append];exact hz),_,r1.append r2,IsTup.new _ _⟩
end
end L2
namespace L2
open PySem PySem.Spec PyProof.Rows
def ixN (n:Nat) (i:Int):Option Nat:=if 0<=i then (if i<n then some i.toNat else none) else if -(n:Int)<=i then some (i+n).toNat else none
def atI {α:Type} (xs:List α) (i:Int):Option α:=(ixN xs.length i).bind fun j=>xs[j]?
theorem ixN_seq {n:Nat}{i:Int}{j:Nat} (h:ixN n i=some j):seqIndex? i n=some j/\j<n/\-(n:Int)<=i/\i<n:=by
 unfold ixN at h
 by_cases h0:0<=i
 ·rw[if_pos h0]at h
  by_cases h1:i<n
  ·rw[if_pos h1]at h
   have e:i.toNat=j:=Option.some.inj h
   exact⟨by rw[seqIndex_of h0 h1,e],by lia,by lia,h1⟩
  ·rw[if_neg h1]at h;cases h
 ·rw[if_neg h0]at h
  by_cases h1:-(n:Int)<=i
  ·rw[if_pos h1]at h
   have e:(i+n).toNat=j:=Option.some.inj h
   exact⟨by rw[seqIndex_neg (by lia) h1,e],by lia,h1,by lia⟩
  ·rw[if_neg h1]at h;cases h
theorem atI_get {α:Type} {xs:List α}{i:Int}{v:α} (h:atI xs i=some v):∃ j,seqIndex? i xs.length=some j/\xs[j]?=some v/\j<xs.length/\-(xs.length:Int)<=i/\i<xs.length:=by
 unfold atI at h
 cases e:ixN xs.length i with
 | none=>rw[e]at h;cases h
 | some j=>
  rw[e]at h
  obtain⟨h1,h2,h3,h4⟩:=ixN_seq e
  exact⟨j,h1,h,h2,h3,h4⟩
theorem atI_nat {α:Type} {xs:List α}{j:Nat}{v:α} (h:xs[j]?=some v):atI xs (j:Int)=some v:=by
 have hj:j<xs.length:=(List.getElem?_eq_some_iff.mp h).1
 have e:ixN xs.length (j:Int)=some j:=by
  unfold ixN
  rw[if_pos (by lia),if_pos (by lia)];simp
 unfold atI;rw[e];exact h
theorem atI_last {α:Type} (xs:List α) (v:α):atI (xs++[v]) (-1)=some v:=by
 have hl:(xs++[v]).length=xs.length+1:=by simp
 have e:ixN (xs++[v]).length (-1)=some xs.length:=by
  unfold ixN
  rw[hl,if_neg (by decide),if_pos (by lia)]
  congr 1
  lia
 unfold atI
 rw[e]
 show (xs++[v])[xs.length]?=some v
 simp
def PlainIx (b:Expr):Prop:=∀ o i,subscripted b false o i=operate [o,i] (getItem o i)
def IxR (X:Cx) (r:R2):Prop:=
 ∀ (value slice:Expr) (pins:List (Addr×Obj)) (s:Shared) (σ:St) (H:Hp) (x y:V) (v u:Value) (Q:VK),Inv X pins σ H s->RelV x v->RelV y u->r x y H Q ->
  subscripted slice false v u=operate [v,u] (getItem v u)->wpAny (model X.prog X.w) X.A (subscriptTail value slice v u) (EP X pins σ Q) X.xe s
def MtR (X:Cx) (id:String) (r:V->List V->Hp->VK->Prop):Prop:=
 ∀ (pins:List (Addr×Obj)) (s:Shared) (σ:St) (H:Hp) (x:V) (xs:List V) (v:Value) (us:List Value) (Q:VK),Inv X pins σ H s->RelV x v->Vals xs us->r x xs H Q ->
  wpAny (model X.prog X.w) X.A (call (.builtin id) (v::us)) (EP X pins σ Q) X.xe s
section
variable {X:Cx}{a b:Expr}{ta tb:TE}{pos:Pos}
theorem IxR.or {r r':R2} (h:IxR X r) (h':IxR X r'):IxR X (fun x y H Q=>r x y H Q\/r' x y H Q):=by
 intro value slice pins s σ H x y v u Q I rx ry q hs
 rcases q with q | q
 ·exact h value slice pins s σ H x y v u Q I rx ry q hs
 ·exact h' value slice pins s σ H x y v u Q I rx ry q hs
theorem pe_ix {r:R2} (hr:IxR X r) (ha:PE X a ta) (hb:PE X b tb) (hs:PlainIx b):PE X (.Subscript a b pos) (tOp r ta tb):=by
 intro pins s σ H Q I h
 exact Subscript_ (binT ha hb I h fun v u s2 x y H2 I2 rx ry q=>hr a b pins s2 σ H2 x y v u Q I2 rx ry q (hs _ _))
def rIxL (K:PySem.W.Frag):R2:=fun x y H Q=>∃ p xs i v,x=.ref p/\y=.int i/\SqL K H p xs/\atI xs i=some v/\Q v H
def rIxT (K:PySem.W.Frag):R2:=fun x y H Q=>∃ p xs i v,x=.ref p/\y=.int i/\SqT K H p xs/\atI xs i=some v/\Q v H
def rIxS:R2:=fun x y H Q=>∃ z i c,x=.str z/\y=.int i/\z.length<=sizeLine/\atI z.cps.toList i=some c/\Q (.str ⟨#[c]⟩) H
theorem ix_list:IxR X (rIxL X.K):=by
 intro value slice pins s σ H x y v u Q I rx ry h hs
 obtain⟨p,xs,i,z,rfl,rfl,hq,he,q⟩:=h
 cases rx
 obtain⟨t,rfl⟩:=ry
 obtain⟨its,r,pl,hz⟩:=I.list hq
 obtain⟨j,h1,h2,h3,h4,h5⟩:=atI_get he
 obtain⟨w,ew,rw'⟩:=r.get h2
 have hl:=r.length
 have hn:=line63
 have fin:EP X pins σ Q w s:=⟨z,H,I,rw',q⟩
 by_cases h0:0<=i
 ·have hj:i.toNat=j:=by
   rw[seqIndex_of h0 h5]at h1
   exact Option.some.inj h1
  exact item_listR pl.isList h0 (by lia) (by rw[hj];simpa using ew) fin hs
 ·have hj:(i+(its.toArray.size:Int)).toNat=j:=by
   rw[seqIndex_neg (by lia) h4]at h1
   rw[List.size_toArray,<- hl]
   exact Option.some.inj h1
  exact subscriptTail_builtinR (x:=w) pl.isList.typeIs slot_list_getitem.lookup
   (wpAny_getItem_list_neg (Q:=fun r s'=>r=w/\EP X pins σ Q r s') pl.isList (by lia) (by rw[List.size_toArray] <;> lia) (by lia) (by rw[hj];simpa using ew) ⟨rfl,fin⟩) hs
theorem ix_tup:IxR X (rIxT X.K):=by
 intro value slice pins s σ H x y v u Q I rx ry h hs
 obtain⟨p,xs,i,z,rfl,rfl,hq,he,q⟩:=h
 cases rx
 obtain⟨t,rfl⟩:=ry
 obtain⟨its,r,pl,hz⟩:=I.tuple hq
 obtain⟨j,h1,h2,h3,h4,h5⟩:=atI_get he
 obtain⟨w,ew,rw'⟩:=r.get h2
 have hl:=r.length
 have hn:=line63
 have fin:EP X pins σ Q w s:=⟨z,H,I,rw',q⟩
 exact subscriptTail_builtinR (x:=w) pl.typeIs slot_tuple_getitem.lookup
  (getItem_tuple (j:=j) (Q:=fun r s'=>r=w/\EP X pins σ Q r s') pl (by lia) (by lia) (by rw[List.size_toArray,<- hl];exact h1) (by simpa using ew) ⟨rfl,fin⟩) hs
theorem ix_str:IxR X rIxS:=by
 intro value slice pins s σ H x y v u Q I rx ry h hs
 obtain⟨z,i,c,rfl,rfl,hz,he,q⟩:=h
 obtain⟨t,rfl⟩:=rx
 obtain⟨t',rfl⟩:=ry
 obtain⟨j,h1,h2,h3,h4,h5⟩:=atI_get he
 have hl:z.cps.toList.length=z.length:=by simp [Str.length]
 rw[hl]at h1 h4 h5
 have hn:=line63
 exact tail_any (typeIs_str s z t) slot_str_getitem.lookup (getItem_str (c:=c) (by
  have e1:decide (i < -(2 ^ 63:Int))=false:=decide_eq_false (by lia)
  have e2:decide (i ≥ 2 ^ 63)=false:=decide_eq_false (by lia)
  rw[e1,e2,Bool.or_false]) (by rw[h1];simpa using h2) ⟨.str ⟨#[c]⟩,H,I.tok _,⟨_,rfl⟩,q⟩) hs
theorem mapSeq_set (its:List Value) (n j:Nat) (u:Value):Obj.mapSeq (·.setIfInBounds j u) { cls:=.type "list",data:=.seq its.toArray n }={ cls:=.type "list",data:=.seq (its.set j u).toArray n }:=by
 simp [Obj.mapSeq]
theorem Inv.lst {pins:List (Addr×Obj)} {σ:St} {H:Hp}{s:Shared}{p:Addr}{xs:List V} (I:Inv X pins σ H s) (h:H p=some (.lst xs)) :
  ∃ (its:List Value) (n:Nat),Vals xs its/\s.heap.get? p=some { cls:=.type "list",data:=.seq its.toArray n }/\xs.length<=sizeLine:=by
 obtain⟨z,its,n,r,e⟩:=I.hok p _ h
 exact⟨its,n,r,e,z⟩
theorem Inv.lstUpd {pins:List (Addr×Obj)} {σ:St} {H:Hp}{s:Shared}{p:Addr}{xs ys:List V}{its its':List Value}{n n':Nat}{f:Obj->Obj} (I:Inv X pins σ H s) (h:H p=some (.lst xs))
  (ho:s.heap.get? p=some { cls:=.type "list",data:=.seq its.toArray n }) (hf:f { cls:=.type "list",data:=.seq its.toArray n }={ cls:=.type "list",data:=.seq its'.toArray n' }) (r:Vals ys its') (hz:ys.length<=sizeLine) (t:Nat) :
  Inv X pins σ (upd H p (.lst ys)) { s with heap:=s.heap.update p f,toks:=t }:=by
 have e:(s.heap.update p f).get? p=some { cls:=.type "list",data:=.seq its'.toArray n' }:=by
  rw[Heap.get?_update_self f ho (by rw[hf] <;> rfl),hf]
 refine I.write (x:=p) (e:=p) (by rw[h];trivial) (.inl rfl) (fun b u hb q=>(Heap.get?_update_other _ _ (Ne.symm hb)).trans q) ⟨_,e⟩ ?_
 exact⟨hz,its',n',r,e⟩
def rSetL:V->V->V->Hp->(Hp->Prop)->Prop:=fun o i v H Q=>∃ p xs k j,o=.ref p/\i=.int k/\H p=some (.lst xs)/\ixN xs.length k=some j/\Q (upd H p (.lst (xs.set j v)))
theorem set_list:PSet X rSetL:=by
 intro pins s σ H o i v ov iv u Q I ro ri rv h
 obtain⟨p,xs,k,j,rfl,rfl,hp,hj,q⟩:=h
 cases ro
 obtain⟨t,rfl⟩:=ri
 obtain⟨its,n,r,ho,hz⟩:=I.lst hp
 obtain⟨h1,h2,h3,h4⟩:=ixN_seq hj
 have hl:=r.length
 have hn:=line63
 have I':Inv X pins σ (upd H p (.lst (xs.set j v))) { s with heap:=s.heap.update p (Obj.mapSeq (·.setIfInBounds j u)) }:=
  I.lstUpd hp ho (mapSeq_set its n j u) (r.set rv j) (by rw[List.length_set];exact hz) s.toks
 by_cases h0:0<=k
 ·have hk:k.toNat=j:=by
   rw[seqIndex_of h0 h4]at h1
   exact Option.some.inj h1
  exact PySem.W.ki_setAt ho h0 (by lia) (by rw[List.size_toArray,<- hl];exact h4) (by rw[hk];exact⟨_,I',q⟩)
 ·have hk:(k+(its.toArray.size:Int)).toNat=j:=by
   rw[seqIndex_neg (by lia) h3]at h1
   rw[List.size_toArray,<- hl]
   exact Option.some.inj h1
  exact PySem.W.ki_setBack ho (by lia) (by rw[List.size_toArray,<- hl];exact h3) (by lia) (by rw[hk];exact⟨_,I',q⟩)
theorem slice_bounds (lo hi:Option Int) (n:Nat):(sliceBounds lo hi none n).1=((HT.sIx n 0 lo:Nat):Int)/\(sliceBounds lo hi none n).2.1=((HT.sIx n n hi:Nat):Int)/\(sliceBounds lo hi none n).2.2=1:=by
 refine⟨?_,?_,rfl⟩
 ·cases lo with
  | none=>simp [sliceBounds,HT.sIx]
  | some i=>
   simp only[sliceBounds,HT.sIx,Option.getD_none,show (1:Int) > 0 by decide,if_true]
   by_cases h:i<0
   ·simp only[h,if_true] <;> lia
   ·simp only[h,if_false] <;> lia
 ·cases hi with
  | none=>simp [sliceBounds,HT.sIx]
  | some i=>
   simp only[sliceBounds,HT.sIx,Option.getD_none,show (1:Int) > 0 by decide,if_true]
   by_cases h:i<0
   ·simp only[h,if_true] <;> lia
   ·simp only[h,if_false] <;> lia
theorem slicePick_cut (its:List Value) (lo hi:Option Int):slicePick its.toArray lo hi none=((its.drop (HT.sIx its.length 0 lo)).take (HT.sIx its.length its.length hi-HT.sIx its.length 0 lo)).toArray:=by
 obtain⟨h1,h2,h3⟩:=slice_bounds lo hi its.toArray.size
 unfold slicePick
 rw[h1,h2,h3]
 simp only[sliceRange_one,pick_run,List.size_toArray] <;> rfl
def rSlL (K:PySem.W.Frag):V->Option Int->Option Int->Hp->VK->Prop:=fun x lo hi H Q=>∃ a xs,x=.ref a/\SqL K H a xs/\∀ p,H p=none->Q (.ref p) (upd H p (.lst (cutV xs lo hi)))
theorem sl_list:SlR X (rSlL X.K):=by
 intro pins s σ H x v vl vu lo hi sl Q I rx hs pl pu h
 obtain⟨a,xs,rfl,hx,q⟩:=h
 cases rx
 obtain⟨its,r,ht,hz⟩:=I.list hx
 have hlen:=r.length
 refine⟨"list",_,slot_list_getitem.lookup,ht.isList.typeIs,?_⟩
 refine wpAny_getItem_list_slice ht.isList hs pl pu .none (by simp) ?_ (by rw[List.size_toArray] <;> lia)
 rw[slicePick_cut,<- hlen]
 refine⟨.ref s.heap.objs.size,_,I.laid (t':=s.toks) (o:=.lst (cutV xs lo hi)) (fun b ob q=>Heap.get?_push_of_some _ q) (Nat.le_refl _) ?_,rfl,q _ (I.hok.fresh (Nat.le_refl _))⟩
 exact⟨Nat.le_trans (cutV_length xs lo hi) hz,_,0,(r.drop (HT.sIx xs.length 0 lo)).take (HT.sIx xs.length xs.length hi-HT.sIx xs.length 0 lo),Heap.get?_push_size _ rfl⟩
def flatV:V->Bool
 | .non=>true
 | .bl _=>true
 | .int _=>true
 | .str _=>true
 | _=>false
def eqV:V->V->Bool
 | .non,.non=>true
 | .bl a,.bl b=>a == b
 | .bl a,.int b=>(if a then 1 else 0) == b
 | .int a,.bl b=>a == (if b then 1 else 0)
 | .int a,.int b=>a == b
 | .str a,.str b=>a == b
 | _,_=>false
theorem eqAt_V {A:Around}{s:Shared}{y x:V}{u v:Value} (ry:RelV y u) (rx:RelV x v) (fy:flatV y=true) (fx:flatV x=true):SeqAt.EqAt A s u v (eqV y x):=by
 cases y with
 | non=>
  cases ry
  cases x with
  | non=>cases rx;exact SeqAt.EqAt.same _
  | bl b=>cases rx;exact SeqAt.EqAt.none_bool b
  | int b=>obtain⟨t,rfl⟩:=rx;exact SeqAt.EqAt.none_int b t
  | str b=>obtain⟨t,rfl⟩:=rx;exact SeqAt.EqAt.none_str b t
  | _=>exact absurd (show false=true from fx) Bool.false_ne_true
 | bl a=>
  cases ry
  cases x with
  | non=>cases rx;exact SeqAt.EqAt.bool_none a
  | bl b=>cases rx;exact SeqAt.EqAt.bool_bool a b
  | int b=>obtain⟨t,rfl⟩:=rx;exact SeqAt.EqAt.bool_int a b t
  | str b=>obtain⟨t,rfl⟩:=rx;exact SeqAt.EqAt.bool_str a b t
  | _=>exact absurd (show false=true from fx) Bool.false_ne_true
 | int a=>
  obtain⟨t',rfl⟩:=ry
  cases x with
  | non=>cases rx;exact SeqAt.EqAt.int_none a t'
  | bl b=>cases rx;exact SeqAt.EqAt.int_bool a t' b
  | int b=>obtain⟨t,rfl⟩:=rx;exact SeqAt.EqAt.int_int a t' b t
  | str b=>obtain⟨t,rfl⟩:=rx;exact SeqAt.EqAt.int_str a t' b t
  | _=>exact absurd (show false=true from fx) Bool.false_ne_true
 | str a=>
  obtain⟨t',rfl⟩:=ry
  cases x with
  | non=>cases rx;exact SeqAt.EqAt.str_none a t'
  | bl b=>cases rx;exact SeqAt.EqAt.str_bool a t' b
  | int b=>obtain⟨t,rfl⟩:=rx;exact SeqAt.EqAt.str_int a t' b t
  | str b=>obtain⟨t,rfl⟩:=rx;exact SeqAt.EqAt.str_str a t' b t
  | _=>exact absurd (show false=true from fx) Bool.false_ne_true
 | _=>exact absurd (show false=true from fy) Bool.false_ne_true
def eqU (x:V) (u:Value):Bool:=match u with
 | .none=>eqV .non x
 | .bool b=>eqV (.bl b) x
 | .int i _=>eqV (.int i) x
 | .str z _=>eqV (.str z) x
 | _=>false
theorem eqU_of {x y:V}{u:Value} (r:RelV y u) (f:flatV y=true):eqU x u=eqV y x:=by
 cases y with
 | non=>cases r;rfl
 | bl b=>cases r;rfl
 | int i=>obtain⟨t,rfl⟩:=r;rfl
 | str z=>obtain⟨t,rfl⟩:=r;rfl
 | _=>exact absurd (show false=true from f) Bool.false_ne_true
theorem any_eqU {x:V}:∀ {xs:List V}{us:List Value},Vals xs us->xs.all flatV=true->us.any (eqU x)=xs.any fun y=>eqV y x
 | _,_,.nil,_=>rfl
 | y::xs,u::us,.cons r t,f=>by
  rw[List.all_cons,Bool.and_eq_true]at f
  rw[List.any_cons,List.any_cons,eqU_of r f.1,any_eqU t f.2]
theorem mem_eqAt {A:Around}{s:Shared}{x:V}{v:Value} (rx:RelV x v) (fx:flatV x=true):∀ {xs:List V}{us:List Value},Vals xs us->xs.all flatV=true->∀ u∈us,SeqAt.EqAt A s u v (eqU x u)
 | _,_,.nil,_=>fun u hu=>by cases hu
 | y::xs,u::us,.cons r t,f=>fun u' hu=>by
  rw[List.all_cons,Bool.and_eq_true]at f
  rcases List.mem_cons.mp hu with rfl | hu
  ·rw[eqU_of r f.1];exact eqAt_V r rx f.1 fx
  ·exact mem_eqAt rx fx t f.2 u' hu
def inV (x:V) (xs:List V):Bool:=xs.any fun y=>eqV y x
def rIn (K:PySem.W.Frag) (neg:Bool):R2:=fun x y H Q=>∃ p xs,y=.ref p/\(SqL K H p xs\/SqT K H p xs)/\flatV x=true/\xs.all flatV=true/\Q (.bl (if neg then !inV x xs else inV x xs)) H
theorem op_in_seq:OpR X (compareOp .In) (rIn X.K false):=by
 intro pins s σ H x y v u Q I rx ry h
 obtain⟨p,xs,rfl,hq,fx,fs,q⟩:=h
 cases ry
 rcases hq with hq | hq
 ·obtain⟨its,r,pl,hz⟩:=I.list hq
  refine SeqAt.in_listAt (eqU x) pl.isList (fun w hw=>mem_eqAt rx fx r fs w (by simpa using hw)) ⟨.bl _,H,I,rfl,?_⟩
  rw[show its.toArray.any (eqU x)=its.any (eqU x) by simp,any_eqU r fs]
  exact q
 ·obtain⟨its,r,pl,hz⟩:=I.tuple hq
  refine SeqAt.in_tupleAt (eqU x) pl (fun w hw=>mem_eqAt rx fx r fs w (by simpa using hw)) ⟨.bl _,H,I,rfl,?_⟩
  rw[show its.toArray.any (eqU x)=its.any (eqU x) by simp,any_eqU r fs]
  exact q
theorem op_notIn_seq:OpR X (compareOp .NotIn) (rIn X.K true):=by
 intro pins s σ H x y v u Q I rx ry h
 obtain⟨p,xs,rfl,hq,fx,fs,q⟩:=h
 cases ry
 rcases hq with hq | hq
 ·obtain⟨its,r,pl,hz⟩:=I.list hq
  refine SeqAt.notIn_listAt (eqU x) pl.isList (fun w hw=>mem_eqAt rx fx r fs w (by simpa using hw)) ⟨.bl _,H,I,rfl,?_⟩
  rw[show its.toArray.any (eqU x)=its.any (eqU x) by simp,any_eqU r fs]
  exact q
 ·obtain⟨its,r,pl,hz⟩:=I.tuple hq
  refine SeqAt.notIn_tupleAt (eqU x) pl (fun w hw=>mem_eqAt rx fx r fs w (by simpa using hw)) ⟨.bl _,H,I,rfl,?_⟩
  rw[show its.toArray.any (eqU x)=its.any (eqU x) by simp,any_eqU r fs]
  exact q
theorem call_len_seq:CallR X (.builtin "len") (fun xs H Q=>∃ p ys,xs=[.ref p]/\(SqL X.K H p ys\/SqT X.K H p ys)/\Q (.int ys.length) H):=by
 intro pins s σ H xs us Q I r h
 obtain⟨p,ys,rfl,hq,q⟩:=h
 obtain⟨u,rfl,rx⟩:=vals1 r
 cases rx
 have hn:=line63
 rcases hq with hq | hq
 ·obtain⟨its,r',pl,hz⟩:=I.list hq
  have hlen:=r'.length
  exact Calls.call_len_list pl.isList (by simp only[List.size_toArray] <;> lia) ⟨.int ys.length,H,I.tok _,⟨s.toks+1,by rw[List.size_toArray,hlen]⟩,q⟩
 ·obtain⟨its,r',pl,hz⟩:=I.tuple hq
  have hlen:=r'.length
  exact len_tuple pl (by simp only[List.size_toArray] <;> lia) ⟨.int ys.length,H,I.tok _,⟨s.toks+1,by rw[List.size_toArray,hlen]⟩,q⟩
theorem call_len_str:CallR X (.builtin "len") (fun xs H Q=>∃ z,xs=[.str z]/\z.length<=sizeLine/\Q (.int z.length) H):=by
 intro pins s σ H xs us Q I r h
 obtain⟨z,rfl,hz,q⟩:=h
 obtain⟨u,rfl,t,rfl⟩:=vals1 r
 have hn:=line63
 exact len_str (by lia) ⟨.int z.length,H,I.tok _,⟨_,rfl⟩,q⟩
theorem CallR.or {f:Value}{r r':List V->Hp->VK->Prop} (h:CallR X f r) (h':CallR X f r'):CallR X f (fun xs H Q=>r xs H Q\/r' xs H Q):=by
 intro pins s σ H xs us Q I rs q
 rcases q with q | q
 ·exact h pins s σ H xs us Q I rs q
 ·exact h' pins s σ H xs us Q I rs q
theorem call_list_of:CallR X (.type "list") (fun xs H Q=>∃ p ys,xs=[.ref p]/\(SqL X.K H p ys\/SqT X.K H p ys)/\∀ l,H l=none->Q (.ref l) (upd H l (.lst ys))):=by
 intro pins s σ H xs us Q I r h
 obtain⟨p,ys,rfl,hq,q⟩:=h
 obtain⟨u,rfl,rx⟩:=vals1 r
 cases rx
 have fin:∀ (its:List Value),Vals ys its->ys.length<=sizeLine->∀ (h':Heap) (c':Nat),(∀ b o',s.heap.get? b=some o'->h'.get? b=some o') ->
   h'.get? s.heap.objs.size=some { cls:=.type "list",dict:=none,data:=.seq its.toArray c',slots:=#[] }->EP X pins σ Q (.ref s.heap.objs.size) { s with heap:=h' }:=fun its r' hz h' c' kp e=>
  ⟨.ref s.heap.objs.size,_,I.laid (t':=s.toks) kp (Nat.le_refl _) (show ObjOk X.prog X.w _ h' _ (.lst ys) from ⟨hz,its,c',r',e⟩),rfl,q _ (I.hok.fresh (Nat.le_refl _))⟩
 rcases hq with hq | hq
 ·obtain⟨its,r',pl,hz⟩:=I.list hq
  have hlen:=r'.length
  obtain⟨o,ho,hc,n,hd⟩:=pl.isList
  exact call_list_seq p (.inl rfl) ho hc hd (fun h' c' kp e=>fin its r' hz h' c' kp e) (by simp only[List.size_toArray] <;> lia)
 ·obtain⟨its,r',pl,hz⟩:=I.tuple hq
  have hlen:=r'.length
  obtain⟨o,ho,hc,n,hd⟩:=pl
  exact call_list_seq p (.inr rfl) ho hc hd (fun h' c' kp e=>fin its r' hz h' c' kp e) (by simp only[List.size_toArray] <;> lia)
theorem call_tuple_of:CallR X (.type "tuple") (fun xs H Q=>∃ p ys,xs=[.ref p]/\((SqL X.K H p ys/\∀ l,H l=none->Q (.ref l) (upd H l (.tup ys)))\/(SqT X.K H p ys/\Q (.ref p) H))):=by
 intro pins s σ H xs us Q I r h
 obtain⟨p,ys,rfl,h⟩:=h
 obtain⟨u,rfl,rx⟩:=vals1 r
 cases rx
 rcases h with ⟨hq,q⟩ | ⟨hq,q⟩
 ·obtain⟨its,r',pl,hz⟩:=I.list hq
  have hlen:=r'.length
  refine call_tuple_list pl.isList (fun h' kp=>?_) (by simp only[List.size_toArray] <;> lia)
  have I1:Inv X pins σ H { s with heap:=h' }:=I.kept (t':=s.toks) kp
  have I2:Inv X pins σ (upd H h'.objs.size (.tup ys)) { s with heap:=h'.push { cls:=.type "tuple",data:=.seq its.toArray } }:=
   I1.laid (t':=s.toks) (fun b o e=>Heap.get?_push_of_some _ e) (Nat.le_refl _) (show ObjOk X.prog X.w _ _ _ (.tup ys) from ⟨tupD_new hz,its,r',IsTup.new _ _⟩)
  exact⟨.ref h'.objs.size,_,I2,rfl,q _ (I1.hok.fresh (Nat.le_refl _))⟩
 ·obtain⟨its,r',pl,hz⟩:=I.tuple hq
  exact call_tuple_same pl ⟨.ref p,H,I,rfl,q⟩
def tyV (K:PySem.W.Frag) (T:String) (x:V) (H:Hp):Prop:=match x with
 | .str _=>T="str"
 | .int _=>T="int"
 | .ref p=>(T="list"/\∃ xs,SqL K H p xs)\/(T="tuple"/\∃ o,K.lookup p=some o/\o.cls=.type "tuple"/\o.dict=none) \/
   (T="dict"/\((∃ kvs,H p=some (.dK kvs))\/∃ kvs,H p=some (.dT kvs)))\/(T="set"/\∃ S n,H p=some (.set S n))
 | _=>False
theorem tyV_is {pins:List (Addr×Obj)} {σ:St} {H:Hp}{s:Shared}{T:String}{x:V}{v:Value} (I:Inv X pins σ H s) (r:RelV x v) (ty:tyV X.K T x H) :
  s.TypeIs v T/\∀ a,v=.ref a->∃ ob,s.heap.get? a=some ob/\ob.dict=none:=by
 cases x with
 | str z=>
  obtain⟨t,rfl⟩:=r
  cases (show T="str" from ty)
  exact⟨typeIs_str s z t,fun _ e=>nomatch e⟩
 | int i=>
  obtain⟨t,rfl⟩:=r
  cases (show T="int" from ty)
  exact⟨typeIs_int s i t,fun _ e=>nomatch e⟩
 | ref p=>
  cases r
  rcases ty with ⟨rfl,xs,hq⟩ | ⟨rfl,o,hk,hc,hd⟩ | ⟨rfl,hk⟩ | ⟨rfl,S,n,hk⟩
  ·obtain⟨its,_,pl,_⟩:=I.list hq
   refine⟨pl.isList.typeIs,fun a e=>?_⟩
   cases e
   obtain⟨o,n,e,c,hd,_⟩:=pl
   exact⟨o,e,hd⟩
  ·refine⟨⟨o,I.kIn p o hk,hc⟩,fun a e=>?_⟩
   cases e
   exact⟨o,I.kIn _ o hk,hd⟩
  ·have z:∃ o,s.heap.get? p=some o/\o.ExactDict:=by
    rcases hk with ⟨kvs,hk⟩ | ⟨kvs,hk⟩
    ·obtain⟨_,_,_,_,o,_,_,e,ex,_⟩:=I.hok p _ hk
     exact⟨o,e,ex⟩
    ·obtain⟨_,_,_,_,o,_,_,e,ex,_⟩:=I.hok p _ hk
     exact⟨o,e,ex⟩
   obtain⟨o,e,ex⟩:=z
   refine⟨⟨o,e,ex.1⟩,fun a e2=>?_⟩
   cases e2
   exact⟨o,e,ex.2.1⟩
  ·obtain⟨o,_,_,_,e,ex,_⟩:=I.hok p _ hk
   refine⟨⟨o,e,ex.1⟩,fun a e2=>?_⟩
   cases e2
   exact⟨o,e,ex.2.1⟩
 | _=>exact False.elim ty
def tBM (K:PySem.W.Frag) (T:String) (r:V->List V->Hp->VK->Prop) (to:TE) (t:TA):TE:=fun σ H Q=>to σ H fun x H1=>tyV K T x H1/\t σ H1 fun xs H2=>r x xs H2 Q
variable {o e:Expr}{es:List Expr}{to:TE}{t:TA}{name:Str}{apos cpos:Pos}{T id:String}{r:V->List V->Hp->VK->Prop}
theorem pe_bm (pa:PlainAttrs T) (slot:Slot T name id) (hty:typeOf (.builtin id)=pure (.type "method_descriptor")) (hm:MtR X id r) (ho:PE X o to) (ha:PA X (e::es) t)
  (hbase:attributeBase o name X.env (eval o X.env)=eval o X.env:=by rfl)
  (hfew:((backTo cpos (starEach (e::es) X.env)).all (fun x=>!x.1) && (backToKw cpos (keywordEach [] X.env)).all (fun x=>x.1.isSome)
   && decide ((e::es).length+([]:List Keyword).length+(if ([]:List Keyword).isEmpty then 0 else 1)<30))=true:=by rfl)
  (hline:(apos.endLine == cpos.line)=true:=by rfl) (hs:starEach (e::es) X.env=(false,eval e X.env)::starEach es X.env:=by rfl) (hplain:(backTo cpos (starEach es X.env)).any (·.1)=false:=by rfl) :
  PE X (.Call (.Attribute o name apos) (e::es) [] cpos) (tBM X.K T r to t):=by
 intro pins s σ H Q I h
 refine wpAny_Call_method_late hbase hfew hline rfl (thn (ho pins s σ H _ I h) fun v s1 ⟨x,H1,I1,r1,ty,q1⟩=>?_)
 obtain⟨h1,h2⟩:=tyV_is I1 r1 ty
 refine⟨T,id,pa,slot,hty,h1,h2,?_⟩
 have hA:=ha cpos pins s1 σ H1 _ I1 q1
 rw[hs]at hA ⊢
 refine Calls.callWith_builtin (by show (false || (backTo cpos (starEach es X.env)).any (·.1))=false;rw[hplain] <;> rfl) (Calls.evalArgs_plain ?_)
 exact thn hA fun us s2 ⟨vs,H2,I2,r2,q2⟩=>hm pins s2 σ H2 x vs v us Q I2 r1 r2 q2
/- xs.append(e),list.index on a module's tuple .. are MtR facts of 06m -/
end
end L2
namespace L2
open PySem PySem.Spec PyProof.Rows
def MtM (X:Cx) (id:String) (r:V->List V->Hp->VK->Prop):Prop:=
 ∀ (pins:List (Addr×Obj)) (s:Shared) (σ:St) (H:Hp) (x:V) (xs:List V) (v:Value) (us:List Value) (Q:VK),Inv X pins σ H s->RelV x v->Vals xs us->r x xs H Q ->
  wpAny (model X.prog X.w) X.A (call (.builtin id) (v::us)) (EP X pins σ Q) X.xe s
theorem Vals.one {x:V}{us:List Value} (h:Vals [x] us):∃ u,us=[u]/\RelV x u:=by
 cases h with
 | cons r t=>cases t;exact⟨_,rfl,r⟩
theorem Vals.two {x y:V}{us:List Value} (h:Vals [x,y] us):∃ u v,us=[u,v]/\RelV x u/\RelV y v:=by
 cases h with
 | cons r t=>
  obtain⟨v,rfl,q⟩:=Vals.one t
  exact⟨_,_,rfl,r,q⟩
theorem Vals.rep {xs:List V}{us:List Value} (h:Vals xs us):∀ k:Nat,Vals (List.replicate k xs).flatten (List.replicate k us).flatten
 | 0=>.nil
 | k+1=>by
  rw[List.replicate_succ,List.replicate_succ,List.flatten_cons,List.flatten_cons]
  exact Vals.append h (Vals.rep h k)
theorem foldl_rep (its:List Value):∀ (k:Nat) (acc:List Value),
  List.foldl (fun x1 x2=>x1++x2) acc.toArray (List.replicate k its.toArray)=(acc++(List.replicate k its).flatten).toArray
 | 0,acc=>by simp
 | k+1,acc=>by
  have e:acc.toArray++its.toArray=(acc++its).toArray:=by simp
  have e2:(acc++its)++(List.replicate k its).flatten=acc++(List.replicate (k+1) its).flatten:=by
   rw[List.replicate_succ,List.flatten_cons,List.append_assoc]
  rw[<- e2,<- foldl_rep its k (acc++its),<- e,List.replicate_succ,List.foldl_cons]
section
variable {X:Cx}{pins:List (Addr×Obj)} {σ:St} {H:Hp}{s:Shared}{l b:Addr}{xs ys zs:List V}
theorem Inv.lset {its its':List Value}{n:Nat}{f:Array Value->Array Value}{t':Nat} (I:Inv X pins σ H s) (hH:H l=some (.lst xs))
  (e:s.heap.get? l=some { cls:=.type "list",data:=.seq its.toArray n }) (hf:f its.toArray=its'.toArray) (hv:Vals ys its') (hz:ys.length<=sizeLine) :
  Inv X pins σ (upd H l (.lst ys)) { s with heap:=s.heap.update l (Obj.mapSeq f),toks:=t' }:=by
 have q:=PySem.IsL.update e f
 rw[hf]at q
 refine I.write (x:=l) (e:=l) (by rw[hH];exact trivial) (.inl rfl) (fun b' u hb hu=>(Heap.get?_update_other s.heap (Obj.mapSeq f) (Ne.symm hb)).trans hu) ⟨_,q⟩ ?_
 exact⟨hz,its',_,hv,q⟩
theorem Inv.lnew {its:List Value}{t':Nat} (I:Inv X pins σ H s) (hv:Vals ys its) (hz:ys.length<=sizeLine) :
  Inv X pins σ (upd H s.heap.objs.size (.lst ys)) { s with heap:=s.heap.push { cls:=.type "list",data:=.seq its.toArray },toks:=t' }:=
 I.laid (fun _ _ q=>Heap.get?_push_of_some _ q) (Nat.le_refl _) ⟨hz,its,0,hv,Heap.get?_push_size _ rfl⟩
theorem Inv.fresh (I:Inv X pins σ H s):H s.heap.objs.size=none:=I.hok.fresh (Nat.le_refl _)
theorem Inv.lstM (I:Inv X pins σ H s) (hH:H l=some (.lst xs)):xs.length<=sizeLine/\∃ (its:List Value) (n:Nat),Vals xs its/\xs.length=its.length/\s.heap.get? l=some { cls:=.type "list",data:=.seq its.toArray n }:=by
 obtain⟨z,its,n,r,e⟩:=I.hok l _ hH
 exact⟨z,its,n,r,r.length,e⟩
theorem notLongL {n:Nat} (h:n<=sizeLine):Builtin.List.listTooLong n=false:=by
 unfold Builtin.List.listTooLong
 exact decide_eq_false (by lia)
end
section
variable {X:Cx}
def rAppend:V->List V->Hp->VK->Prop:=fun x vs H Q=>∃ l xs y,x=.ref l/\vs=[y]/\H l=some (.lst xs)/\xs.length<sizeLine/\Q .non (upd H l (.lst (xs++[y])))
theorem mt_append:MtM X "list.append" rAppend:=by
 intro pins s σ H x vs v us Q I rx rv h
 obtain⟨l,xs,y,rfl,rfl,hH,hz,q⟩:=h
 cases rx
 obtain⟨u,rfl,ru⟩:=rv.one
 obtain⟨z,its,n,r,hl,e⟩:=I.lstM hH
 refine call_meets F.slot_list_append ⟨_,e,rfl⟩ F.entry_list_append (F.args_list_append_2 _ _) (PySem.list_append l its.toArray n u (by rw[List.size_toArray];lia)) ⟨e,?_⟩
 refine⟨.non,_,I.lset (its':=its++[u]) hH e (by simp) (r.append (.cons ru .nil)) ?_,rfl,q⟩
 rw[List.length_append,List.length_singleton]
 lia
def rCat:R2:=fun x y H Q=>∃ l b xs zs,x=.ref l/\y=.ref b/\H l=some (.lst xs)/\H b=some (.lst zs)/\xs.length+zs.length<=sizeLine/\∀ p,H p=none->Q (.ref p) (upd H p (.lst (xs++zs)))
theorem op_cat:OpR X (binaryOp .Add) rCat:=by
 intro pins s σ H x y v u Q I rx ry h
 obtain⟨l,b,xs,zs,rfl,rfl,hH,hB,hz,q⟩:=h
 cases rx
 cases ry
 obtain⟨z,its,n,r,hl,e⟩:=I.lstM hH
 obtain⟨z2,its2,n2,r2,hl2,e2⟩:=I.lstM hB
 refine PySem.P.add_list e e2 ?_ (by rw[List.size_toArray,List.size_toArray];lia)
 have ea:its.toArray++its2.toArray=(its++its2).toArray:=by simp
 rw[ea]
 exact⟨.ref _,_,I.lnew (t':=s.toks) (r.append r2) (by rw[List.length_append];lia),rfl,q _ I.fresh⟩
def rRep:R2:=fun x y H Q=>∃ l k xs,x=.ref l/\y=.int k/\H l=some (.lst xs)/\-(2 ^ 63)<=k/\k<2 ^ 63/\xs.length * k.toNat<=sizeLine /\
 ∀ p,H p=none->Q (.ref p) (upd H p (.lst (List.replicate k.toNat xs).flatten))
theorem len_rep {α:Type} (xs:List α) (k:Nat):(List.replicate k xs).flatten.length=k * xs.length:=by
 induction k with
 | zero=>simp
 | succ k ih=>rw[List.replicate_succ,List.flatten_cons,List.length_append,ih,Nat.succ_mul,Nat.add_comm]
theorem op_rep:OpR X (binaryOp .Mult) rRep:=by
 intro pins s σ H x y v u Q I rx ry h
 obtain⟨l,k,xs,rfl,rfl,hH,h1,h2,hz,q⟩:=h
 cases rx
 obtain⟨t,rfl⟩:=ry
 obtain⟨z,its,n,r,hl,e⟩:=I.lstM hH
 have hlen:its.toArray.size * k.toNat<=sizeLine:=by rw[List.size_toArray,<- hl];exact hz
 have hcap:¬its.toArray.size * k.toNat > (2 ^ 63-1) / 8:=by
  have:(sizeLine:Nat)<=(2 ^ 63-1) / 8:=by decide
  lia
 have hfit:¬(!Builtin.List.listFitsIndex k)=true:=by
  rw[fitsIndex_both h1 h2]
  exact Bool.false_ne_true
 have hlong:¬Builtin.List.listTooLong (its.toArray.size * k.toNat)=true:=by
  rw[notLongL hlen]
  exact Bool.false_ne_true
 have hnew:List.foldl (fun x1 x2=>x1++x2) #[] (List.replicate (if its.toArray.isEmpty=true then 0 else k.toNat) its.toArray)=(List.replicate k.toNat its).flatten.toArray:=by
  have f0:∀ m:Nat,List.foldl (fun x1 x2=>x1++x2) #[] (List.replicate m its.toArray)=(List.replicate m its).flatten.toArray:=fun m=>by
   have:=foldl_rep its m []
   rw[List.nil_append]at this
   exact this
  rw[f0]
  cases its with
  | nil=>simp
  | cons a r'=>rw[if_neg (by simp)]
 refine wpAny_binaryOp_repeat_ref (T:="list") (U:="int") (by decide) ⟨_,e,rfl⟩ (fun s'=>typeIs_int s' k t) noFill_list_mul F.fills_int_mul F.slot_int_rmul repeat_list F.slot_int_index.lookup
  (call_meets F.slot_int_rmul (typeIs_int s k t) F.entry_int_rmul (F.args_int_rmul_2 _ _) (int___rmul___int_list k t l its.toArray n)
   ⟨e,rfl,⟨_,e,rfl⟩,call_meets F.slot_list_mul ⟨_,e,rfl⟩ F.entry_list_mul (F.args_list_mul_2 _ _) (AutoListH.list___mul___list_int_3 l its.toArray n k t hfit hcap hlong) ⟨e,?_⟩⟩)
 rw[hnew]
 exact⟨.ref _,_,I.lnew (t':=s.toks) (r.rep k.toNat) (by rw[len_rep,Nat.mul_comm];exact hz),rfl,q _ I.fresh⟩
end
section
variable {prog:Program}{w:World}{A:Around}{E:Value->Shared->Prop}{s:Shared}
set_option maxRecDepth 100000 in
end
section
variable {X:Cx}
end
end L2
namespace Att
open PySem PySem.W PySem.Calls PyProof.Rows
theorem ints_of_wellAll {P:Params}{h:Heap}:∀ (ns:List Int) (vs:List Value),WellAll P h vs (ns.map WData.int)->IntsAre vs ns:=by
 intro ns
 induction ns with
 | nil=>
  intro vs w
  rw[List.map_nil]at w
  cases w
  exact .nil
 | cons n ns ih=>
  intro vs w
  rw[List.map_cons]at w
  cases w with
  | cons a b=>
   cases a
   exact .cons _ _ (ih _ b)
theorem script_of {l:OpenLaw}{n:Nat} (hn:l.most=some n) {P:Params}{h:Heap}{args:List WData}{vals:List Value}
  (hpre:l.row.toRowW.claim.pre args=true) (hwl:WellAll P h vals args) :
  ∃ a vs ns,vals=[Value.ref a]/\args=[WData.list (ns.map WData.int)]/\h.get? a=some { cls:=.type "list",data:=.seq vs.toArray }/\IntsAre vs ns/\ns.length<=n:=by
 have hsh:WShape.hasAll [] args [.list .int]=true:=(pre_splitW hpre).1
 have hc:l.pre.holds [] { args:=args }=true:=(pre_splitW hpre).2
 obtain⟨d,r,rfl,h1,h2⟩:=hasAllW_cons hsh
 obtain rfl:=hasAllW_nil h2
 obtain⟨xs,rfl,h3⟩:=hasW_list h1
 obtain⟨ns,rfl⟩:=items_int h3
 have hlen:ns.length<=n:=by
  unfold OpenLaw.pre at hc
  have h4:(WTm.not (.lt (.lit (.int (n:Int))) (.len (.arg 0)))).holds [] { args:=[.list (ns.map .int)] }=true:=by
   have h4:=(holds_andW hc).1
   rw[hn]at h4
   exact h4
  have h5:=condW_of h4 (w_not (w_lt w_lit (w_len_list (w_arg rfl))))
  rw[List.length_map]at h5
  refine Nat.le_of_not_lt fun q=>?_
  have q':(n:Int)<((ns.length:Nat):Int):=by lia
  first
   | (rw[decide_eq_true q']at h5;exact absurd h5 (by decide))
   | (simp at h5;lia)
 cases hwl with
 | cons w1 w2=>
  cases w2
  cases w1 with
  | list ho hall=>exact⟨_,_,ns,rfl,rfl,ho,ints_of_wellAll ns _ hall,hlen⟩
theorem post_true (l:OpenLaw) (args:List WData):l.row.toRowW.claim.post args (.bool true) args=true:=
 postW_of (r:=l.row.toRowW) (X:=(true == true))
  (show WShape.has [] (.bool true) .bool=true by first | rfl | decide | simp [WShape.has,WShape.arms,WShape.armsAll])
  (show (WTm.eq .res (.lit (.bool true))).value [] { args:=args,res:=some (.bool true),after:=args }=some (.bool (true == true)) from w_eq_bool (w_res rfl) w_lit) rfl
theorem attach_call {l:OpenLaw}{n:Nat}{q:Program}{loose:List Str}{XP:(Str->Option Value)->Heap->Prop}{YP:World->Heap->Prop}{d:DefRec}
  (hn:l.most=some n) (hdf:d.params.defaults=[])
  (call:∀ (w:World) (s₀ s₁:Shared) (mg mb:Str->Option Value) (fa:Addr) (o:Obj) (pm cd doc:Value) (a:Addr) (vs:List Value) (ns:List Int),
   Ground q loose [] XP w s₀ mg mb s₁.heap->YP w s₁.heap ->
   s₁.heap.get? fa=some o->o.data=.func (docDef d.name d.params d.body d.scope pm cd doc)->s₁.heap.CodeRec cd d.name->mg d.name=some (.ref fa) ->
   s₁.heap.get? a=some { cls:=.type "list",data:=.seq vs.toArray }->IntsAre vs ns->ns.length<=n->s₁.gens=#[] ->
   codeAny (model l.prog w) callerA (.call (.ref fa) ⟨[.ref a],[]⟩) (fun r s'=>r=.ok (.ret (.bool true))/\OldK s₁.heap s'.heap/\s'.os=s₁.os/\AllBare s'.gens) s₁) :
  WalkO q loose XP YP l.row.toRowW d [] (fun f vs=>PySem.call f vs):=by
 intro w s₀ s₁ mg mb G Y fa o pm cd doc dV kV ho hd hcd hD hmg hg args vals as hpre hlay hrd hwl hlo
 obtain rfl:dV=.none:=Dflts.none hD hdf
 obtain rfl:kV=.none:=Dflts.noKw hD
 obtain⟨a,vs,ns,rfl,rfl,hobj,hints,hlen⟩:=script_of hn hpre hwl
 refine enter_call (codeAny_mono (call w s₀ s₁ mg mb fa o pm cd doc a vs ns G Y ho (fd_plain hd) hcd hmg hobj hints hlen hg) fun r s' hq=>?_)
 obtain⟨rfl,h2,h3,h4⟩:=hq
 exact⟨.inl ⟨.bool true,.bool true,[],rfl,fun _=>rfl,.bool true,post_true l _,fun _=>⟨List.Pairwise.nil,fun _ hm=>(nomatch hm)⟩⟩,h2,h3,h4⟩
section
variable {prog:Program}{w:World}{A:Around}{E:Value->Shared->Prop}{s:Shared}{K:Frag}
end
end Att
namespace L2
open PySem PySem.Spec PyProof.Rows
theorem vals_ints:∀ {vs:List Value}{ns:List Int},IntsAre vs ns->Vals (ns.map V.int) vs
 | _,_,.nil=>.nil
 | _,_,.cons n t h=>.cons ⟨t,rfl⟩ (vals_ints h)
def Only (H:Hp):Prop:=∀ b,H b=none\/∃ o xs,H b=some (.frz o (.lst xs))
theorem law_call {P:Program}{w:World}{K:PySem.W.Frag}{mg mb:Str->Option Value}{CX:CXT}{k:Nat}{fa a:Addr}{fd:FuncData}{x:Str}{sp:Sp}{s₁:Shared}{vs:List Value}{ns:List Int}
  (KX:K.In s₁.heap) (hns:s₁.heap.Ns mainGlobals mg) (hb:s₁.heap.Ns builtinsNs mb) (hbb:∀ x:Str,x≠"__name__"->mb x=bootBuiltins x) (hlim:s₁.heap.NoLimit) (hg:s₁.gens=#[])
  (ha:s₁.heap.get? a=some { cls:=.type "list",data:=.seq vs.toArray }) (hi:IntsAre vs ns) (hl:ns.length<=sizeLine) (hr:Room k callerA)
  (F:∀ base:Heap,K.In base->base.Ns mainGlobals mg->FnOk P w K mg base CX k fa fd [x] sp) (hbind:∀ (s:Shared) (u:Value),BindsTo s fd ⟨[u],[]⟩ [(x,u)])
  (hsp:∀ H:Hp,Only H->SqL K H a (ns.map V.int)->sp [.ref a] H (fun v _=>v=.bl true) fun _ _ _=>False)
  (hCX:∀ H e s',CX [] H s₁ (fun _ _ _=>False) e s'->False) :
  codeAny (model P w) callerA (.call (.ref fa) ⟨[.ref a],[]⟩) (fun r s'=>r=.ok (.ret (.bool true))/\OldK s₁.heap s'.heap/\s'.os=s₁.os/\AllBare s'.gens) s₁:=by
 have rv:=vals_ints hi
 have lenV:=hi.length
 -- from an abstract heap in which nothing but the script may be tracked
 have core:∀ H:Hp,Only H->SqL K H a (ns.map V.int)->HOk P w H s₁.heap->(∀ b,H b≠none->b=a)->(H a≠none->K.lookup a=none) ->
   codeAny (model P w) callerA (.call (.ref fa) ⟨[.ref a],[]⟩) (fun r s'=>r=.ok (.ret (.bool true))/\OldK s₁.heap s'.heap/\s'.os=s₁.os/\AllBare s'.gens) s₁:=by
  intro H hO hS hok hA hK
  have base_of:∀ {b:Addr}{o:Obj},s₁.heap.get? b=some o->H b=none->(hidT s₁.heap H).get? b=some o:=fun e n=>hidT_get e n
  have noA:∀ {b:Addr}{o:Obj}{es:Array DictEntry}{ep:Nat},s₁.heap.get? b=some o->o.data=.dict es ep->H b=none:=fun {b o es ep} e d=>by
   cases q:H b with
   | none=>rfl
   | some u=>
    have e':b=a:=hA b (by rw[q];simp)
    subst e'
    rw[ha]at e;cases e
    have d':Data.seq vs.toArray _=Data.dict es ep:=d
    cases d'
  have nsK:∀ {b:Addr}{m:Str->Option Value},s₁.heap.Ns b m->(hidT s₁.heap H).Ns b m:=fun {b m} ⟨o,es,ep,e,d,r⟩=>⟨o,es,ep,base_of e (noA e d),d,r⟩
  have hKb:K.In (hidT s₁.heap H):=fun b o e=>base_of (KX b o e) (by
   cases q:H b with
   | none=>rfl
   | some u=>
    have e':b=a:=hA b (by rw[q];simp)
    subst e'
    rw[hK (by rw[q];simp)]at e;cases e)
  have hM:Mod K mg (hidT s₁.heap H):=⟨hKb,nsK hns,⟨mb,nsK hb,hbb⟩,let ⟨mc,h1,h2⟩:=hlim;⟨mc,nsK h1,h2⟩⟩
  have e0:Env0 P w K mg (hidT s₁.heap H) callerA [] s₁ H:=⟨rfl,hM,fun b o e=>of_hidT e,Nat.le_of_eq (hidT_size _ _),trivial,fun b hb=>absurd (show b∈([]:List Addr) from hb) (by simp),hok,.of_eq hg⟩
  refine codeAny_mono ((F _ hKb (nsK hns)).run callerA [] s₁ H ⟨[.ref a],[]⟩ [.ref a] [.ref a] _ _ hr e0 (hbind s₁ (.ref a)) (.cons rfl .nil) (hsp H hO hS)) fun r s' h=>?_
  cases r with
  | error e=>exact (hCX H e s' h).elim
  | ok fl=>
   cases fl with
   | next=>exact False.elim h
   | brk=>exact False.elim h
   | cont=>exact False.elim h
   | ret u=>
    obtain⟨v,H',os,bare,un,hok',r',q⟩:=h
    have q':v=.bl true:=q
    subst q'
    obtain rfl:u=Value.bool true:=r'
    refine⟨rfl,OldK.of_keep fun b o e=>?_,os,bare⟩
    cases q:H b with
    | none=>exact un.keep b o e q (by intro z;exact absurd (show b∈([]:List Addr) from z) (by simp)) (by simp)
    | some u=>
     rcases hO b with z | ⟨ob,xs,z⟩
     ·rw[q]at z;cases z
     ·have z2:=un.frzs b ob _ z
      obtain⟨e1,_⟩:=hok b _ z
      obtain⟨e2,_⟩:=hok' b _ z2
      rw[e]at e1;cases e1
      exact e2
 cases hk:K.lookup a with
 | some o=>
  -- the script is one of the module's own objects
  have e:=KX a o hk
  rw[ha]at e
  cases e
  refine core (fun _=>none) (fun _=>.inl rfl) (.inr ⟨_,vs.toArray,_,hk,rfl,rfl,rfl,by rw[List.size_toArray,lenV];exact hl,by simpa using rv⟩) (fun b u z=>by have z':(none:Option HO)=some u:=z;cases z') (fun b z=>absurd rfl z) fun z=>absurd rfl z
 | none=>
  refine core (fun b=>if b=a then some (.frz { cls:=.type "list",data:=.seq vs.toArray } (.lst (ns.map V.int))) else none) (fun b=>?_) (.inl (.inr ⟨{ cls:=.type "list",data:=.seq vs.toArray },if_pos rfl⟩)) (fun b u z=>?_) (fun b z=>?_) fun _=>hk
  ·by_cases hb:b=a
   ·exact .inr ⟨_,_,if_pos hb⟩
   ·exact .inl (if_neg hb)
  ·by_cases hb:b=a
   ·have z':=(if_pos hb).symm.trans z
    cases z'
    subst hb
    exact⟨ha,by rw[List.length_map];exact hl,vs,_,rv,ha⟩
   ·have z':=(if_neg hb).symm.trans z
    cases z'
  ·by_cases hb:b=a
   ·exact hb
   ·exact absurd (if_neg hb) z
end L2
namespace L2
open PySem PySem.Spec PyProof.Rows
abbrev KOf {K:PySem.W.Frag}{h:Heap} (_:K.In h):PySem.W.Frag:=K
theorem walk_of {l:PySem.W.OpenLaw}{n k:Nat}{q:Program}{loose:List Str}{XP:(Str->Option Value)->Heap->Prop}{YP:World->Heap->Prop}{d:DefRec}{K:Params->PySem.W.Frag}{CX:World->CXT}{sp:World->Sp}{x:Str}
  (hn:l.most=some n) (hn2:n<=sizeLine) (hdf:d.params.defaults=[]) (hr:Room k callerA)
  (hY:∀ (w:World) (h:Heap),YP w h->(K w.params).In h)
  (F:∀ (w:World) (mg:Str->Option Value) (fa:Addr) (h:Heap),(K w.params).In h->h.Ns mainGlobals mg->mg d.name=some (.ref fa) ->
   ∃ fd:FuncData,(∀ (s:Shared) (u:Value),BindsTo s fd ⟨[u],[]⟩ [(x,u)]) /\
    ∀ base:Heap,(K w.params).In base->base.Ns mainGlobals mg->FnOk l.prog w (K w.params) mg base (CX w) k fa fd [x] (sp w))
  (hsp:∀ (w:World) (H:Hp) (a:Addr) (ns:List Int),ns.length<=n->Only H->SqL (K w.params) H a (ns.map V.int)->sp w [.ref a] H (fun v _=>v=.bl true) fun _ _ _=>False)
  (hCX:∀ (w:World) (H:Hp) (s:Shared) (e:Value) (s':Shared),CX w [] H s (fun _ _ _=>False) e s'->False) :
  PySem.W.WalkO q loose XP YP l.row.toRowW d [] (fun f vs=>PySem.call f vs):=by
 refine Att.attach_call hn hdf fun w s₀ s₁ mg mb fa o pm cd doc a vs ns G Y ho hd hcd hmg hobj hints hlen hg=>?_
 have KX:=hY w _ Y
 obtain⟨fd,hb,hF⟩:=F w mg fa _ KX G.T.g hmg
 exact law_call KX G.T.g G.T.b G.T.builtins G.T.nolimit hg hobj hints (Nat.le_trans hlen hn2) hr hF hb (fun H hO hS=>hsp w H a ns hlen hO hS) fun H e s'=>hCX w H s₁ e s'
end L2
/- THE LAST THEOREM (shape;LID,My.* are yours):
   My.Adr: a structure of the addresses that your layer names (classes,functions);My.Txt K t: a structure (Prop) of the equations over K;
   My.txt_mk:{K} {implicit addresses ..} (e1:nsIn K mainGlobals "law"=some (some (.ref f))) (e2:K.lookup f=some ⟨oc,od,.func (fnOf "law" "law" params body scope dV kV doc pm an cdv ct),sl⟩) (e3:codeIn K cdv "law"=true) ..:∃ t,My.Txt K t
set_option maxRecDepth 100000 in
set_option maxHeartbeats 0 in
theorem PySem.Challenge.cw_LID_holds : PySem.Challenge.rw_LID.Holds := by
 w_on;o_law;k_head;(case hw=>w_witness2)
 k_fill
 refine L2.walk_of (l:=PySem.Challenge.rw_LID) (n:=63) (k:=40) (x:="script") (CX:=fun w=>..) (sp:=fun _=>My.sp_law) rfl (by decide) rfl ⟨rfl,by decide,by decide⟩ (fun w h Y=>PySem.W.kIn_of Y) ?F ?S ?C
 case F=>
  intro w mg fa h KX G hmg
  have T:∃ t,My.Txt (L2.KOf KX) t:=by
   dsimp only[L2.KOf]                          -- K must stand as «<heap const> w.params» for k_is
   refine' My.txt_mk ?e1 ?e2 ?e3 ..
   (case e1=>PySem.W.k_is)                    -- in the order: a name->its address->its object->its parts
   (case e2=>PySem.W.k_is)
   ..
  obtain⟨t,T⟩:=T
  have e0:=hmg.symm.trans (PySem.W.mg_of KX G T.law)
  cases e0                                       -- fa is the law's own address
  exact⟨_,fun s u=>.of_eq rfl,fun base kb nb=>My.law_fn T kb nb⟩     -- if «.of_eq rfl» comes too early: refine' ⟨_,?b,fun base kb nb=>My.law_fn T kb nb⟩;exact fun s u=>.of_eq rfl
 case S=>exact fun w H a ns hl hO hS=>..
 case C=>exact ..
(the tactic k_is has no namespace: write k_is) -/
namespace L2
open PySem PySem.Spec PyProof.Rows
def defArgs (s:Stmt):Arguments:=match s with
 | .FunctionDef _ a _ _ _ _ _ _ _ _=>a
 | _=>{ posonlyargs:=[],args:=[],vararg:=none,kwonlyargs:=[],kw_defaults:=[],kwarg:=none,defaults:=[] }
def defBody (s:Stmt):List Stmt:=match s with
 | .FunctionDef _ _ b _ _ _ _ _ _ _=>b
 | _=>[]
def defScope (s:Stmt):Scope:=match s with
 | .FunctionDef _ _ _ _ _ _ sc _ _ _=>sc
 | _=>{ kind:=.function,names:=[],isGenerator:=false,isCoroutine:=false }
abbrev CX0:CXT:=fun _ _ _ _ _ _=>False
abbrev E0:XK:=fun _ _ _=>False
theorem pass0 {X:Cx}:Passes CX0 X E0:=fun _ _ _ _ _ _ _ h=>h.elim
structure Fun (K:PySem.W.Frag) (x qual:Str) (st:Stmt) (f:Addr) (fd:FuncData):Prop where
 ex:∃ (oc:Value) (od:Option Addr) (kV doc pm:Value) (an:Option Addr) (cdv ct:Value) (osl:Array (Option Value)),
  fd=PySem.W.fnOf x qual (defArgs st) (defBody st) (defScope st) .none kV doc pm an cdv ct/\K.lookup f=some ⟨oc,od,.func fd,osl⟩/\PySem.W.codeIn K cdv qual=true
 kp:PySem.W.keepIn K (.ref f)=true
section
variable {P:Program}{w:World}{K:PySem.W.Frag}{mg:Str->Option Value}{base:Heap}
theorem Fun.ok {x qual:Str}{st:Stmt}{f:Addr}{fd:FuncData}{N ps:List Str}{k:Nat}{sp:Sp} (F:Fun K x qual st f fd) (S:FnScope N ps (defScope st)) (len:∀ vs H Q E,sp vs H Q E->vs.length=ps.length)
  (hbody:∀ (cdv:Value) (A:Around) (outer:List Env) (s:Shared) (H:Hp) (vs:List V) (Q:VK) (E:XK),Room k (A.deeper (envOfC qual (defScope st) s.heap.objs.size f cdv))->sp vs H Q E ->
   ∃ t,PSs (cxOf CX0 P w K mg base N qual (defScope st) f cdv A outer s H E).nox (defBody st) t/\t { nx:=fun _ H'=>Q .non H',rt:=Q } (start N vs) H):FnOk P w K mg base CX0 (k+1) f fd ps sp:=by
 obtain⟨oc,od,kV,doc,pm,an,cdv,ct,osl,rfl,lk,hcd⟩:=F.ex
 refine fn_of lk hcd S len fun A outer s H vs Q E hr hsp=>?_
 obtain⟨t,h,q⟩:=hbody cdv A outer s H vs Q E hr hsp
 exact⟨t,h.nox,q⟩
theorem Fun.binds {x qual:Str}{st:Stmt}{f:Addr}{fd:FuncData}{ps:List Str} (F:Fun K x qual st f fd)
  (h:∀ (kV doc pm:Value) (an:Option Addr) (cdv ct:Value) (us:List Value),us.length=ps.length->bindArgs (PySem.W.fnOf x qual (defArgs st) (defBody st) (defScope st) .none kV doc pm an cdv ct) ⟨us,[]⟩=pure (ps.zip us)):Binds K fd ps []:=by
 obtain⟨oc,od,kV,doc,pm,an,cdv,ct,osl,rfl,lk,hcd⟩:=F.ex
 exact .all (h kV doc pm an cdv ct)
theorem fun_mk {x qual:Str}{st:Stmt}{f:Addr}{oc:Value}{od an:Option Addr}{osl:Array (Option Value)}{kV doc pm cdv ct:Value} (l:K.lookup f=some ⟨oc,od,.func (PySem.W.fnOf x qual (defArgs st) (defBody st) (defScope st) .none kV doc pm an cdv ct),osl⟩)
  (c:PySem.W.codeIn K cdv qual=true) (k:PySem.W.keepIn K (.ref f)=true):Fun K x qual st f (PySem.W.fnOf x qual (defArgs st) (defBody st) (defScope st) .none kV doc pm an cdv ct):=⟨⟨oc,od,kV,doc,pm,an,cdv,ct,osl,rfl,l,c⟩,k⟩
end
theorem hu_of {A:Around}{k:Nat} (hr:Room k A):A.units+1<cLine:=Nat.lt_of_le_of_lt (Nat.add_le_add_left (by decide:1<=64) _) hr.units
section
variable {X:Cx}
end
theorem iteF {A B:Prop} (h:B):if false=true then A else B:=by
 rw[if_neg Bool.false_ne_true]
 exact h
theorem iteT {A B:Prop} (h:A):if true=true then A else B:=by
 rw[if_pos rfl]
 exact h
theorem ite2 {c A B:Prop} [Decidable c] (h1:c->A) (h2:¬c->B):if c then A else B:=by
 by_cases h:c
 ·rw[if_pos h]
  exact h1 h
 ·rw[if_neg h]
  exact h2 h
def Same (H H':Hp):Prop:=∀ b o,H b=some o->H' b=some o
theorem Same.refl (H:Hp):Same H H:=fun _ _ h=>h
theorem Same.trans {H H1 H2:Hp} (a:Same H H1) (b:Same H1 H2):Same H H2:=fun c o h=>b c o (a c o h)
theorem Same.seq {K:PySem.W.Frag}{H H':Hp}{a:Addr}{xs:List V} (e:Same H H') (h:SqL K H a xs):SqL K H' a xs:=by
 rcases h with (h | ⟨o,h⟩) | h
 ·exact .inl (.inl (e _ _ h))
 ·exact .inl (.inr ⟨o,e _ _ h⟩)
 ·exact .inr h
end L2
namespace L2
open PySem PySem.Spec PyProof.Rows
section
variable {X:Cx}
end
end L2
namespace L2
open PySem PySem.Spec PyProof.Rows
section
variable {κ:Type} [DecidableEq κ]
end
end L2
end
section
namespace L2
open PySem
section
variable {prog:Program}{w:World}{A:Around}{E:Value->Shared->Prop}{s:Shared}
end
end L2
end
section
namespace Kn
open PySem
inductive Val where
 | num (i:Int)
 | word (s:Str)
 | row (ps:List (Str×Val))
 | bag (ps:List (Val×Int))
inductive KE where
 | i (n:Int)
 | s (x:Str)
noncomputable instance:DecidableEq Val:=fun a b=>Classical.propDecidable (a=b)
noncomputable instance:DecidableEq KE:=fun a b=>Classical.propDecidable (a=b)
def sLt (a b:Str):Bool:=decide (a.cps.toList<b.cps.toList)
def rank:Val->Int
 | .num _=>0
 | .word _=>1
 | .row _=>2
 | .bag _=>3
mutual
def key:Val->List KE
 | .num i=>[.i 0,.i i]
 | .word s=>[.i 1,.s s]
 | .row ps=>.i 2::keyR ps
 | .bag ps=>.i 3::keyB ps
def keyR:List (Str×Val)->List KE
 | []=>[.i 0]
 | p::ps=>.i 1::.s p.1::(key p.2++keyR ps)
def keyB:List (Val×Int)->List KE
 | []=>[.i 0]
 | p::ps=>.i 1::(key p.1++.i p.2::keyB ps)
end
mutual
noncomputable def ltV:Val->Val->Bool
 | .num i,.num j=>decide (i<j)
 | .word s,.word t=>sLt s t
 | .row ps,.row qs=>ltR ps qs
 | .bag ps,.bag qs=>ltB ps qs
 | x,y=>decide (rank x<rank y)
noncomputable def ltR:List (Str×Val)->List (Str×Val)->Bool
 | [],[]=>false
 | [],_::_=>true
 | _::_,[]=>false
 | p::ps,q::qs=>if p=q then ltR ps qs else if p.1=q.1 then ltV p.2 q.2 else sLt p.1 q.1
noncomputable def ltB:List (Val×Int)->List (Val×Int)->Bool
 | [],[]=>false
 | [],_::_=>true
 | _::_,[]=>false
 | p::ps,q::qs=>if p=q then ltB ps qs else if p.1=q.1 then decide (p.2<q.2) else ltV p.1 q.1
end
def kEl:KE->KE->Option Bool
 | .i m,.i n=>some (decide (m<n))
 | .s x,.s y=>some (sLt x y)
 | _,_=>none
noncomputable def cmpK:List KE->List KE->Option Bool
 | [],[]=>some false
 | [],_::_=>some true
 | _::_,[]=>some false
 | a::as,b::bs=>if a=b then cmpK as bs else kEl a b
noncomputable def aheadB (x y:Val):Bool:=if x=y then false else ltV x y
theorem sLt_irrefl (x:Str):sLt x x=false:=by
 unfold sLt
 exact decide_eq_false (List.lt_irrefl _)
end Kn
end
section
namespace L2
open PySem PySem.Spec PyProof.Rows
inductive Dt where
 | int (i:Int)
 | str (x:Str)
 | tup (ds:List Dt)
noncomputable instance:DecidableEq Dt:=fun a b=>Classical.propDecidable (a=b)
mutual
def Dt.dep:Dt->Nat
 | .int _=>0
 | .str _=>0
 | .tup ds=>depL ds+1
def depL:List Dt->Nat
 | []=>0
 | d::ds=>max d.dep (depL ds)
end
theorem dep_mem:∀ {ds:List Dt}{d:Dt},d∈ds->d.dep<=depL ds
 | d::ds,e,h=>by
  rw[depL]
  rcases List.mem_cons.mp h with rfl | h
  ·exact Nat.le_max_left _ _
  ·exact Nat.le_trans (dep_mem h) (Nat.le_max_right _ _)
mutual
def IsDt (H:Hp):Dt->V->Prop
 | .int i,v=>v=.int i
 | .str x,v=>v=.str x
 | .tup ds,v=>∃ a xs,v=.ref a/\H a=some (.tup xs)/\IsDts H ds xs
def IsDts (H:Hp):List Dt->List V->Prop
 | [],xs=>xs=[]
 | d::ds,xs=>∃ y ys,xs=y::ys/\IsDt H d y/\IsDts H ds ys
end
def Tups (H H':Hp):Prop:=∀ b xs,H b=some (.tup xs)->H' b=some (.tup xs)
theorem Tups.trans {H H1 H2:Hp} (a:Tups H H1) (b:Tups H1 H2):Tups H H2:=fun c xs h=>b c xs (a c xs h)
theorem Same.tups {H H':Hp} (h:Same H H'):Tups H H':=fun b xs e=>h b _ e
theorem Tups.new {H:Hp}{p:Addr} (h:H p=none) (o:HO):Tups H (upd H p o):=fun b xs e=>by rw[upd_ne (ne_of_none e h)];exact e
mutual
theorem IsDt.mono {H H':Hp} (t:Tups H H'):∀ {d:Dt}{v:V},IsDt H d v->IsDt H' d v
 | .int i,v,h=>by rw[IsDt]at h ⊢;exact h
 | .str x,v,h=>by rw[IsDt]at h ⊢;exact h
 | .tup ds,v,h=>by
  rw[IsDt]at h ⊢
  obtain⟨a,xs,e,h1,h2⟩:=h
  exact⟨a,xs,e,t a xs h1,IsDts.mono t h2⟩
theorem IsDts.mono {H H':Hp} (t:Tups H H'):∀ {ds:List Dt}{xs:List V},IsDts H ds xs->IsDts H' ds xs
 | [],xs,h=>by rw[IsDts]at h ⊢;exact h
 | d::ds,xs,h=>by
  rw[IsDts]at h ⊢
  obtain⟨y,ys,e,h1,h2⟩:=h
  exact⟨y,ys,e,IsDt.mono t h1,IsDts.mono t h2⟩
end
mutual
theorem IsDt.inj {H:Hp}:∀ {d e:Dt}{v:V},IsDt H d v->IsDt H e v->d=e
 | .int i,e,v,h,h'=>by
  rw[IsDt]at h;subst h
  cases e with
  | int j=>rw[IsDt]at h';cases h';rfl
  | str y=>rw[IsDt]at h';cases h'
  | tup es=>rw[IsDt]at h';obtain⟨_,_,z,_⟩:=h';cases z
 | .str i,e,v,h,h'=>by
  rw[IsDt]at h;subst h
  cases e with
  | int j=>rw[IsDt]at h';cases h'
  | str y=>rw[IsDt]at h';cases h';rfl
  | tup es=>rw[IsDt]at h';obtain⟨_,_,z,_⟩:=h';cases z
 | .tup ds,e,v,h,h'=>by
  rw[IsDt]at h
  obtain⟨a,xs,rfl,h1,h2⟩:=h
  cases e with
  | int j=>rw[IsDt]at h';cases h'
  | str y=>rw[IsDt]at h';cases h'
  | tup es=>
   rw[IsDt]at h'
   obtain⟨b,ys,z,g1,g2⟩:=h'
   cases z
   rw[h1]at g1
   cases g1
   rw[IsDts.inj h2 g2]
theorem IsDts.inj {H:Hp}:∀ {ds es:List Dt}{xs:List V},IsDts H ds xs->IsDts H es xs->ds=es
 | [],es,xs,h,h'=>by
  rw[IsDts]at h;subst h
  cases es with
  | nil=>rfl
  | cons e es=>rw[IsDts]at h';obtain⟨_,_,z,_⟩:=h';cases z
 | d::ds,es,xs,h,h'=>by
  rw[IsDts]at h
  obtain⟨y,ys,rfl,h1,h2⟩:=h
  cases es with
  | nil=>rw[IsDts]at h';cases h'
  | cons e es=>
   rw[IsDts]at h'
   obtain⟨y',ys',z,g1,g2⟩:=h'
   cases z
   rw[IsDt.inj h1 g1,IsDts.inj h2 g2]
end
theorem IsDts.length {H:Hp}:∀ {ds:List Dt}{xs:List V},IsDts H ds xs->xs.length=ds.length
 | [],xs,h=>by rw[IsDts]at h;subst h;rfl
 | d::ds,xs,h=>by
  rw[IsDts]at h
  obtain⟨y,ys,rfl,h1,h2⟩:=h
  simp [IsDts.length h2]
theorem IsDts.get {H:Hp}:∀ {ds:List Dt}{xs:List V}{i:Nat}{d:Dt},IsDts H ds xs->ds[i]?=some d->∃ y,xs[i]?=some y/\IsDt H d y
 | [],xs,i,d,h,e=>by simp at e
 | c::ds,xs,0,d,h,e=>by
  rw[IsDts]at h
  obtain⟨y,ys,rfl,h1,h2⟩:=h
  simp at e;subst e
  exact⟨y,rfl,h1⟩
 | c::ds,xs,i+1,d,h,e=>by
  rw[IsDts]at h
  obtain⟨y,ys,rfl,h1,h2⟩:=h
  obtain⟨z,q,r⟩:=IsDts.get (i:=i) h2 (by simpa using e)
  exact⟨z,by simpa using q,r⟩
theorem IsDts.append {H:Hp}:∀ {ds es:List Dt}{xs ys:List V},IsDts H ds xs->IsDts H es ys->IsDts H (ds++es) (xs++ys)
 | [],es,xs,ys,h,h'=>by rw[IsDts]at h;subst h;exact h'
 | d::ds,es,xs,ys,h,h'=>by
  rw[IsDts]at h
  obtain⟨z,zs,rfl,h1,h2⟩:=h
  rw[List.cons_append,List.cons_append,IsDts]
  exact⟨z,zs++ys,rfl,h1,IsDts.append h2 h'⟩
theorem IsDts.one {H:Hp}{d:Dt}{v:V} (h:IsDt H d v):IsDts H [d] [v]:=by
 rw[IsDts];exact⟨v,[],rfl,h,by rw[IsDts]⟩
theorem IsDts.cons {H:Hp}{d:Dt}{v:V}{ds:List Dt}{vs:List V} (h:IsDt H d v) (h':IsDts H ds vs):IsDts H (d::ds) (v::vs):=by
 rw[IsDts];exact⟨v,vs,rfl,h,h'⟩
theorem IsDts.nil {H:Hp}:IsDts H [] []:=by rw[IsDts]
theorem isDt_tup {H:Hp}{a:Addr}{xs:List V}{ds:List Dt} (h:H a=some (.tup xs)) (h':IsDts H ds xs):IsDt H (.tup ds) (.ref a):=by rw[IsDt];exact⟨a,xs,rfl,h,h'⟩
theorem isDt_new {H:Hp}{p:Addr}{xs:List V}{ds:List Dt} (hp:H p=none) (h':IsDts H ds xs):IsDt (upd H p (.tup xs)) (.tup ds) (.ref p):=
 isDt_tup upd_same (h'.mono (.new hp _))
section
variable {P:Program}{w:World}{H:Hp}
theorem all_eq (ds es:List Dt):((List.range (min ds.length es.length)).all (fun j=>decide (ds[j]?=es[j]?)) && ds.length == es.length)=decide (ds=es):=by
 rw[Bool.eq_iff_iff]
 simp only[Bool.and_eq_true,List.all_eq_true,List.mem_range,decide_eq_true_eq,beq_iff_eq]
 constructor
 ·rintro⟨h1,h2⟩
  refine List.ext_getElem? fun i=>?_
  by_cases hi:i<min ds.length es.length
  ·exact h1 i hi
  ·rw[List.getElem?_eq_none (by lia),List.getElem?_eq_none (by lia)]
 ·rintro rfl
  exact⟨fun _ _=>rfl,rfl⟩
theorem eqAt_D:∀ (n:Nat) (A:Around) (s:Shared) (d e:Dt) (v u:V) (x y:Value),HOk P w H s.heap->d.dep<=n->A.units+n<cLine->IsDt H d v->IsDt H e u->RelV v x->RelV u y->SeqAt.EqAt A s x y (decide (d=e)):=by
 intro n
 induction n with
 | zero=>
  intro A s d e v u x y ok hd hu iv iu rv ru
  cases d with
  | int i=>
   rw[IsDt]at iv;subst iv
   obtain⟨t,rfl⟩:=rv
   cases e with
   | int j=>
    rw[IsDt]at iu;subst iu
    obtain⟨t',rfl⟩:=ru
    have z:decide (Dt.int i=Dt.int j)=(i == j):=by rw[Bool.eq_iff_iff];simp
    rw[z];exact SeqAt.EqAt.int_int i t j t'
   | str z=>
    rw[IsDt]at iu;subst iu
    obtain⟨t',rfl⟩:=ru
    rw[decide_eq_false (by intro q;cases q)];exact SeqAt.EqAt.int_str i t z t'
   | tup es=>
    rw[IsDt]at iu
    obtain⟨a,xs,rfl,h1,h2⟩:=iu
    cases ru
    obtain⟨hz,its,r,p⟩:=ok a _ h1
    rw[decide_eq_false (by intro q;cases q)];exact SeqAt.EqAt.int_tuple i t p (by lia)
  | str i=>
   rw[IsDt]at iv;subst iv
   obtain⟨t,rfl⟩:=rv
   cases e with
   | int j=>
    rw[IsDt]at iu;subst iu
    obtain⟨t',rfl⟩:=ru
    rw[decide_eq_false (by intro q;cases q)];exact SeqAt.EqAt.str_int i t j t'
   | str z=>
    rw[IsDt]at iu;subst iu
    obtain⟨t',rfl⟩:=ru
    have q:decide (Dt.str i=Dt.str z)=(i == z):=by rw[Bool.eq_iff_iff];simp
    rw[q];exact SeqAt.EqAt.str_str i t z t'
   | tup es=>
    rw[IsDt]at iu
    obtain⟨a,xs,rfl,h1,h2⟩:=iu
    cases ru
    obtain⟨hz,its,r,p⟩:=ok a _ h1
    rw[decide_eq_false (by intro q;cases q)];exact SeqAt.EqAt.str_tuple i t p (by lia)
  | tup ds=>rw[Dt.dep]at hd;lia
 | succ n ih=>
  intro A s d e v u x y ok hd hu iv iu rv ru
  cases d with
  | int i=>exact ih A s _ e v u x y ok (by rw[Dt.dep];lia) (by lia) iv iu rv ru
  | str i=>exact ih A s _ e v u x y ok (by rw[Dt.dep];lia) (by lia) iv iu rv ru
  | tup ds=>
   rw[IsDt]at iv
   obtain⟨a,xs,rfl,h1,h2⟩:=iv
   cases rv
   obtain⟨hz,its,r,p⟩:=ok a _ h1
   cases e with
   | int j=>
    rw[IsDt]at iu;subst iu
    obtain⟨t',rfl⟩:=ru
    rw[decide_eq_false (by intro q;cases q)];exact SeqAt.EqAt.tuple_int j t' p (by lia)
   | str z=>
    rw[IsDt]at iu;subst iu
    obtain⟨t',rfl⟩:=ru
    rw[decide_eq_false (by intro q;cases q)];exact SeqAt.EqAt.tuple_str z t' p (by lia)
   | tup es=>
    have iu':=iu
    rw[IsDt]at iu
    obtain⟨b,ys,rfl,g1,g2⟩:=iu
    cases ru
    obtain⟨hz2,its2,r2,p2⟩:=ok b _ g1
    by_cases hab:a=b
    ·subst hab
     rw[h1]at g1
     cases g1
     rw[IsDts.inj h2 g2,decide_eq_true rfl]
     exact SeqAt.EqAt.same _
    ·have l1:its.toArray.size=ds.length:=by rw[List.size_toArray,<- r.length,h2.length]
     have l2:its2.toArray.size=es.length:=by rw[List.size_toArray,<- r2.length,g2.length]
     have q:=SeqAt.RcAt.tuples (s:=s) (A:=A) (e:=fun j=>decide (ds[j]?=es[j]?)) p p2 (by lia) fun j hj1 hj2=>by
      have k1:j<ds.length:=by rw[<- l1];exact hj1
      have k2:j<es.length:=by rw[<- l2];exact hj2
      obtain⟨y1,e1,i1⟩:=h2.get (i:=j) (List.getElem?_eq_getElem k1)
      obtain⟨y2,e2,i2⟩:=g2.get (i:=j) (List.getElem?_eq_getElem k2)
      obtain⟨u1,f1,q1⟩:=r.get e1
      obtain⟨u2,f2,q2⟩:=r2.get e2
      have w1:its.toArray[j]=u1:=by
       have:=(List.getElem?_eq_some_iff.mp f1).2
       simpa using this
      have w2:its2.toArray[j]=u2:=by
       have:=(List.getElem?_eq_some_iff.mp f2).2
       simpa using this
      rw[w1,w2,List.getElem?_eq_getElem k1,List.getElem?_eq_getElem k2]
      have z:decide (some ds[j]=some es[j])=decide (ds[j]=es[j]):=by rw[Bool.eq_iff_iff];simp
      rw[z]
      have hdep:ds[j].dep<=n:=by
       have:=dep_mem (List.getElem_mem k1)
       rw[Dt.dep]at hd
       lia
      exact ih A.in1 s _ _ y1 y2 u1 u2 ok hdep (by show A.units+1+n<cLine;lia) i1 i2 q1 q2
     rw[l1,l2,all_eq]at q
     have z:decide (Dt.tup ds=Dt.tup es)=decide (ds=es):=by rw[Bool.eq_iff_iff];simp
     rw[z]
     exact SeqAt.EqAt.of_refs hab q
end
section
variable {X:Cx}
def depMax:Nat:=100
def rEqD:R2:=fun x y H Q=>∃ d e,IsDt H d x/\IsDt H e y/\d.dep<=depMax/\Q (.bl (decide (d=e))) H
theorem items_eq {P:Program}{w:World}{H:Hp}{s:Shared}{A:Around}{ds es:List Dt}{xs ys:List V}{its its2:List Value}{n:Nat} (ok:HOk P w H s.heap) (hd:depL ds<=n) (hu:A.units+n<cLine) (h2:IsDts H ds xs) (g2:IsDts H es ys) (r:Vals xs its) (r2:Vals ys its2) :
  ∀ j (h1:j<its.toArray.size) (h2:j<its2.toArray.size),SeqAt.EqAt A s its.toArray[j] its2.toArray[j] (decide (ds[j]?=es[j]?)):=fun j hj1 hj2=>by
 have l1:its.toArray.size=ds.length:=by rw[List.size_toArray,<- r.length,h2.length]
 have l2:its2.toArray.size=es.length:=by rw[List.size_toArray,<- r2.length,g2.length]
 have k1:j<ds.length:=by rw[<- l1];exact hj1
 have k2:j<es.length:=by rw[<- l2];exact hj2
 obtain⟨y1,e1,i1⟩:=h2.get (i:=j) (List.getElem?_eq_getElem k1)
 obtain⟨y2,e2,i2⟩:=g2.get (i:=j) (List.getElem?_eq_getElem k2)
 obtain⟨u1,f1,q1⟩:=r.get e1
 obtain⟨u2,f2,q2⟩:=r2.get e2
 have w1:its.toArray[j]=u1:=by
  have:=(List.getElem?_eq_some_iff.mp f1).2
  simpa using this
 have w2:its2.toArray[j]=u2:=by
  have:=(List.getElem?_eq_some_iff.mp f2).2
  simpa using this
 rw[w1,w2,List.getElem?_eq_getElem k1,List.getElem?_eq_getElem k2]
 have z:decide (some ds[j]=some es[j])=decide (ds[j]=es[j]):=by rw[Bool.eq_iff_iff];simp
 rw[z]
 exact eqAt_D n A s _ _ y1 y2 u1 u2 ok (Nat.le_trans (dep_mem (List.getElem_mem k1)) hd) hu i1 i2 q1 q2
theorem op_eqD (hu:X.A.units+110<cLine):OpR X (compareOp .Eq) rEqD:=by
 intro pins s σ H x y v u Q I rx ry h
 obtain⟨d,e,ix,iy,hd,q⟩:=h
 cases d with
 | int i=>
  rw[IsDt]at ix;subst ix
  cases e with
  | int j=>
   rw[IsDt]at iy;subst iy
   refine op_eq pins s σ H _ _ v u Q I rx ry ⟨rfl,?_⟩
   have z:decide (V.int i=V.int j)=decide (Dt.int i=Dt.int j):=by rw[Bool.eq_iff_iff];simp
   rw[z];exact q
  | str j=>
   rw[IsDt]at iy;subst iy
   refine op_eq pins s σ H _ _ v u Q I rx ry ⟨rfl,?_⟩
   have z:decide (V.int i=V.str j)=decide (Dt.int i=Dt.str j):=by rw[Bool.eq_iff_iff];simp
   rw[z];exact q
  | tup es=>
   rw[IsDt]at iy
   obtain⟨a,xs,rfl,h1,h2⟩:=iy
   cases ry
   obtain⟨t,rfl⟩:=rx
   obtain⟨hz,its,r,p⟩:=I.hok a _ h1
   rw[decide_eq_false (by intro q;cases q)]at q
   exact SeqAt.RcAt.int_tuple i t p (by lia) _ _ _ _ ⟨.bl false,H,I,rfl,q⟩
 | str i=>
  rw[IsDt]at ix;subst ix
  cases e with
  | int j=>
   rw[IsDt]at iy;subst iy
   refine op_eq pins s σ H _ _ v u Q I rx ry ⟨rfl,?_⟩
   have z:decide (V.str i=V.int j)=decide (Dt.str i=Dt.int j):=by rw[Bool.eq_iff_iff];simp
   rw[z];exact q
  | str j=>
   rw[IsDt]at iy;subst iy
   refine op_eq pins s σ H _ _ v u Q I rx ry ⟨rfl,?_⟩
   have z:decide (V.str i=V.str j)=decide (Dt.str i=Dt.str j):=by rw[Bool.eq_iff_iff];simp
   rw[z];exact q
  | tup es=>
   rw[IsDt]at iy
   obtain⟨a,xs,rfl,h1,h2⟩:=iy
   cases ry
   obtain⟨t,rfl⟩:=rx
   obtain⟨hz,its,r,p⟩:=I.hok a _ h1
   rw[decide_eq_false (by intro q;cases q)]at q
   exact SeqAt.RcAt.str_tuple i t p (by lia) _ _ _ _ ⟨.bl false,H,I,rfl,q⟩
 | tup ds=>
  rw[IsDt]at ix
  obtain⟨a,xs,rfl,h1,h2⟩:=ix
  cases rx
  obtain⟨hz,its,r,p⟩:=I.hok a _ h1
  cases e with
  | int j=>
   rw[IsDt]at iy;subst iy
   obtain⟨t,rfl⟩:=ry
   rw[decide_eq_false (by intro q;cases q)]at q
   exact SeqAt.RcAt.tuple_int j t p (by lia) _ _ _ _ ⟨.bl false,H,I,rfl,q⟩
  | str j=>
   rw[IsDt]at iy;subst iy
   obtain⟨t,rfl⟩:=ry
   rw[decide_eq_false (by intro q;cases q)]at q
   exact SeqAt.RcAt.tuple_str j t p (by lia) _ _ _ _ ⟨.bl false,H,I,rfl,q⟩
  | tup es=>
   rw[IsDt]at iy
   obtain⟨b,ys,rfl,g1,g2⟩:=iy
   cases ry
   obtain⟨hz2,its2,r2,p2⟩:=I.hok b _ g1
   have l1:its.toArray.size=ds.length:=by rw[List.size_toArray,<- r.length,h2.length]
   have l2:its2.toArray.size=es.length:=by rw[List.size_toArray,<- r2.length,g2.length]
   rw[Dt.dep]at hd
   have z:decide (Dt.tup ds=Dt.tup es)=decide (ds=es):=by rw[Bool.eq_iff_iff];simp
   rw[z]at q
   refine SeqAt.RcAt.tuples (s:=s) (A:=X.A) (e:=fun j=>decide (ds[j]?=es[j]?)) p p2 (by lia) (items_eq (n:=depMax) (A:=X.A.in1) I.hok (by lia) (by show X.A.units+1+depMax<cLine;unfold depMax;lia) h2 g2 r r2) _ _ _ _ ?_
   rw[l1,l2,all_eq]
   exact⟨.bl _,H,I,rfl,q⟩
theorem op_neD (hu:X.A.units+110<cLine):OpR X (compareOp .NotEq) (fun x y H Q=>∃ ds es,IsDt H (.tup ds) x/\IsDt H (.tup es) y/\depL ds<=depMax/\Q (.bl (!decide (ds=es))) H):=by
 intro pins s σ H x y v u Q I rx ry h
 obtain⟨ds,es,ix,iy,hd,q⟩:=h
 rw[IsDt]at ix iy
 obtain⟨a,xs,rfl,h1,h2⟩:=ix
 obtain⟨b,ys,rfl,g1,g2⟩:=iy
 cases rx
 cases ry
 obtain⟨hz,its,r,p⟩:=I.hok a _ h1
 obtain⟨hz2,its2,r2,p2⟩:=I.hok b _ g1
 have l1:its.toArray.size=ds.length:=by rw[List.size_toArray,<- r.length,h2.length]
 have l2:its2.toArray.size=es.length:=by rw[List.size_toArray,<- r2.length,g2.length]
 refine SeqAt.RcNeAt.tuples (s:=s) (A:=X.A) (e:=fun j=>decide (ds[j]?=es[j]?)) p p2 (by lia) (items_eq (n:=depMax) (A:=X.A.in1) I.hok (by lia) (by show X.A.units+1+depMax<cLine;unfold depMax;lia) h2 g2 r r2) _ _ _ _ ?_
 rw[l1,l2,all_eq]
 exact⟨.bl _,H,I,rfl,q⟩
noncomputable def eqDv (H:Hp) (d:Dt) (u:Value):Bool:=@decide (∃ v,RelV v u/\IsDt H d v) (Classical.propDecidable _)
theorem relV_inj {v v':V}{u:Value} (h:RelV v u) (h':RelV v' u):v=v':=by
 cases v <;> cases v' <;> simp only[RelV]at h h' <;> first
  | rfl
  | (obtain⟨t,rfl⟩:=h;obtain⟨t',h'⟩:=h';injection h' with h' _;subst h';rfl)
  | (obtain⟨t,rfl⟩:=h;obtain⟨t',h'⟩:=h';cases h';done)
  | (subst h;cases h';rfl)
  | (subst h;obtain⟨t',h'⟩:=h';cases h')
  | (obtain⟨t,rfl⟩:=h;cases h')
theorem eqDv_of {H:Hp}{d e:Dt}{v:V}{u:Value} (r:RelV v u) (i:IsDt H e v):eqDv H d u=decide (e=d):=by
 unfold eqDv
 rw[Bool.eq_iff_iff]
 simp only[decide_eq_true_eq]
 constructor
 ·rintro⟨v',r',i'⟩
  rw[relV_inj r' r]at i'
  exact i.inj i'
 ·rintro rfl
  exact⟨v,r,i⟩
theorem mem_eqD {P:Program}{w:World}{H:Hp}{s:Shared}{A:Around}{d:Dt}{x:V}{v:Value}{n:Nat} (ok:HOk P w H s.heap) (hu:A.units+n<cLine) (rx:RelV x v) (ix:IsDt H d x) :
  ∀ {ds:List Dt}{xs:List V}{us:List Value},depL ds<=n->IsDts H ds xs->Vals xs us->(∀ u∈us,SeqAt.EqAt A s u v (eqDv H d u))/\us.map (eqDv H d)=ds.map fun e=>decide (e=d)
 | [],xs,us,hd,hi,r=>by
  rw[IsDts]at hi;subst hi;cases r
  exact⟨fun u hu=>(nomatch hu),rfl⟩
 | e::ds,xs,us,hd,hi,r=>by
  rw[IsDts]at hi
  obtain⟨y,ys,rfl,h1,h2⟩:=hi
  cases r with
  | cons r1 r2=>
   rw[depL]at hd
   obtain⟨m1,m2⟩:=mem_eqD ok hu rx ix (by lia) h2 r2
   have e1:=eqDv_of (d:=d) r1 h1
   refine⟨fun u hu'=>?_,by rw[List.map_cons,List.map_cons,e1,m2]⟩
   rcases List.mem_cons.mp hu' with rfl | hu'
   ·rw[e1];exact eqAt_D n A s e d y x _ v ok (by lia) hu h1 ix r1 rx
   ·exact m1 u hu'
theorem any_map_of {α:Type} {us:List α}{f:α->Bool}{ds:List Dt}{d:Dt} (h:us.map f=ds.map fun e=>decide (e=d)):us.any f=decide (d∈ds):=by
 have e1:us.any f=(us.map f).any id:=by simp
 have e2:(ds.map fun e=>decide (e=d)).any id=decide (d∈ds):=by
  rw[Bool.eq_iff_iff]
  simp
 rw[e1,h,e2]
def rInD (K:PySem.W.Frag) (neg:Bool):R2:=fun x y H Q=>∃ p xs d ds,y=.ref p/\SqL K H p xs/\IsDt H d x/\IsDts H ds xs/\depL ds<=depMax/\Q (.bl (if neg then !decide (d∈ds) else decide (d∈ds))) H
theorem op_notInD (hu:X.A.units+110<cLine):OpR X (compareOp .NotIn) (rInD X.K true):=by
 intro pins s σ H x y v u Q I rx ry h
 obtain⟨p,xs,d,ds,rfl,hq,ix,is,hd,q⟩:=h
 cases ry
 obtain⟨its,r,pl,hz⟩:=I.list hq
 obtain⟨m1,m2⟩:=mem_eqD (A:=X.A.in1) I.hok (by show X.A.units+1+depMax<cLine;unfold depMax;lia) rx ix hd is r
 refine SeqAt.notIn_listAt (eqDv H d) pl.isList (fun w hw=>m1 w (by simpa using hw)) ⟨.bl _,H,I,rfl,?_⟩
 rw[show its.toArray.any (eqDv H d)=its.any (eqDv H d) by simp,any_map_of m2]
 exact q
theorem op_inD (hu:X.A.units+110<cLine):OpR X (compareOp .In) (rInD X.K false):=by
 intro pins s σ H x y v u Q I rx ry h
 obtain⟨p,xs,d,ds,rfl,hq,ix,is,hd,q⟩:=h
 cases ry
 obtain⟨its,r,pl,hz⟩:=I.list hq
 obtain⟨m1,m2⟩:=mem_eqD (A:=X.A.in1) I.hok (by show X.A.units+1+depMax<cLine;unfold depMax;lia) rx ix hd is r
 refine SeqAt.in_listAt (eqDv H d) pl.isList (fun w hw=>m1 w (by simpa using hw)) ⟨.bl _,H,I,rfl,?_⟩
 rw[show its.toArray.any (eqDv H d)=its.any (eqDv H d) by simp,any_map_of m2]
 exact q
def rIndexD:V->List V->Hp->VK->Prop:=fun o vs H Q=>∃ l xs x d ds,o=.ref l/\vs=[x]/\H l=some (.lst xs)/\IsDt H d x/\IsDts H ds xs/\depL ds<=depMax/\d∈ds/\∀ j:Nat,ds[j]?=some d->Q (.int j) H
theorem mt_indexD (hu:X.A.units+110<cLine):MtM X "list.index" rIndexD:=by
 intro pins s σ H o vs v us Q I rx rv h
 obtain⟨l,xs,x,d,ds,rfl,rfl,hH,ix,is,hd,hmem,q⟩:=h
 cases rx
 obtain⟨u,rfl,ru⟩:=rv.one
 obtain⟨z,its,n,r,hl,e⟩:=I.lstM hH
 obtain⟨m1,m2⟩:=mem_eqD (A:=X.A.in1) I.hok (by show X.A.units+1+depMax<cLine;unfold depMax;lia) ru ix hd is r
 have hex:∃ j,∃ hj:j<its.length,eqDv H d its[j]=true/\∀ m (hm:m<its.length),m<j->eqDv H d its[m]=false:=by
  have hany:its.any (eqDv H d)=true:=by rw[any_map_of m2];exact decide_eq_true hmem
  have hfi:its.findIdx (eqDv H d)<its.length:=by
   rw[List.findIdx_lt_length]
   obtain⟨a,ha,hb⟩:=List.any_eq_true.mp hany
   exact⟨a,ha,hb⟩
  exact⟨its.findIdx (eqDv H d),hfi,List.findIdx_getElem (w:=hfi),fun m hm hlt=>by
   have:=List.not_of_lt_findIdx hlt
   simpa using this⟩
 obtain⟨j,hj,hit,hno⟩:=hex
 have hds:ds[j]?=some d:=by
  have l1:ds.length=its.length:=by rw[<- is.length,r.length]
  have z1:(its.map (eqDv H d))[j]?=some true:=by rw[List.getElem?_map,List.getElem?_eq_getElem hj,Option.map_some,hit]
  rw[m2,List.getElem?_map,List.getElem?_eq_getElem (by lia),Option.map_some]at z1
  have z2:ds[j]'(by lia)=d:=of_decide_eq_true (Option.some.inj z1)
  rw[List.getElem?_eq_getElem (by lia),z2]
 refine call_meets PySem.F.slot_list_index ⟨_,e,rfl⟩ PySem.F.entry_list_index (PySem.F.args_list_index_2 _ _)
  (SeqAt.list_indexAt l its.toArray n none #[] u (eqDv H d) j (by simpa using hj) (by have:=line63;lia) (by simpa using hit) (fun m hm hlt=>by simpa using hno m (by simpa using hm) hlt)) ⟨e,fun y hy=>m1 y (by simpa using hy),?_⟩
 exact⟨.int j,H,I.tok _,⟨_,rfl⟩,q j hds⟩
end
end L2
end
section
namespace L2
open PySem PySem.Spec PyProof.Rows
open Kn (KE cmpK kEl sLt)
def kv:KE->V
 | .i n=>.int n
 | .s x=>.str x
theorem eqAt_K {A:Around}{s:Shared}{a c:KE}{y x:Value} (ra:RelV (kv a) y) (rc:RelV (kv c) x):∃ e,SeqAt.EqAt A s y x e/\(e=true ↔ a=c):=by
 cases a with
 | i m=>
  obtain⟨t,rfl⟩:=ra
  cases c with
  | i n=>obtain⟨u,rfl⟩:=rc;exact⟨(m == n),SeqAt.EqAt.int_int m t n u,by simp⟩
  | s z=>obtain⟨u,rfl⟩:=rc;exact⟨false,SeqAt.EqAt.int_str m t z u,by simp⟩
 | s w=>
  obtain⟨t,rfl⟩:=ra
  cases c with
  | i n=>obtain⟨u,rfl⟩:=rc;exact⟨false,SeqAt.EqAt.str_int w t n u,by simp⟩
  | s z=>obtain⟨u,rfl⟩:=rc;exact⟨(w == z),SeqAt.EqAt.str_str w t z u,by simp⟩
theorem rcLt_K {A:Around}{s:Shared}{a c:KE}{y x:Value}{r:Bool} (ra:RelV (kv a) y) (rc:RelV (kv c) x) (h:kEl a c=some r) (prog:Program) (w:World) (E:Value->Shared->Prop) (Q:Value->Shared->Prop) (q:Q (.bool r) s) :
  wpAny (model prog w) A (richCompare .Lt y x) Q E s:=by
 cases a with
 | i m=>
  obtain⟨t,rfl⟩:=ra
  cases c with
  | i n=>
   obtain⟨u,rfl⟩:=rc
   cases h
   exact HT.rcLt_int A s m t n u prog w E Q q
  | s z=>cases h
 | s v=>
  obtain⟨t,rfl⟩:=ra
  cases c with
  | i n=>cases h
  | s z=>
   obtain⟨u,rfl⟩:=rc
   cases h
   exact (PyProof.Rows.lt_str q:wpAny (model prog w) A (compareOp .Lt (.str v t) (.str z u)) Q E s)
section
open PySem.SeqAt
open PySem.AutoSeq1 (wpAny_loadPart')
open PySem.MeetsSeq PySem.MeetsSeq2 PySem.MeetsSeq3
theorem tuple_ltK (l b:Addr) (items items2:Array Value) (n n2:Nat) (dd dd2:Option Addr) (sl sl2:Array (Option Value)) (ks js:List KE) (hi:Vals (ks.map kv) items.toList) (hj:Vals (js.map kv) items2.toList) (r:Bool) (hr:cmpK ks js=some r) :
  Meets (Builtin.«tuple.__lt__» ⟨[.ref l,.ref b],[]⟩)
   (fun _ R s=>s.heap.get? l=some { cls:=.type "tuple",dict:=dd,data:=.seq items n,slots:=sl }/\s.heap.get? b=some { cls:=.type "tuple",dict:=dd2,data:=.seq items2 n2,slots:=sl2 } /\
    R (.ok (.ret (.bool r))) s):=
 .of_wp fun prog w A R s h=>by
  obtain⟨hp,g,d,tk,os⟩:=s;obtain⟨hl,hb,h⟩:=h
  have f2:=AutoSeq1.sub_tuple_tuple
  have z1:items.size=ks.length:=by have:=hi.length;simpa using this.symm
  have z2:items2.size=js.length:=by have:=hj.length;simpa using this.symm
  wp_walk using wpAny_loadPart' hl,wpAny_loadPart' hb,wpAny_forIn_list _ (fun rest b s'=>b.1=none/\s'=⟨hp,g,d,tk,os⟩/\∃ (vs ws:List Value) (ks' js':List KE),rest=vs.zip ws /\
   Vals (ks'.map kv) vs/\Vals (js'.map kv) ws/\ks'.length+items2.size=js'.length+items.size/\cmpK ks' js'=some r) _
  case turn=>
   rintro⟨y,x⟩ rest b s' ⟨hb',rfl,vs,ws,ks',js',hz,hvi,hwi,hlen,hR⟩
   cases ks' with
   | nil=>cases hvi;rw[List.zip_nil_left]at hz;cases hz
   | cons a ks'=>
    cases js' with
    | nil=>cases hwi;rw[List.zip_nil_right]at hz;cases hz
    | cons c js'=>
     rw[List.map_cons]at hvi hwi
     cases hvi with
     | cons ra hvi'=>
      cases hwi with
      | cons rc hwi'=>
       rw[List.zip_cons_cons]at hz
       injection hz with hyx hrest
       injection hyx with hy hx
       subst hy hx
       rw[Kn.cmpK]at hR
       simp only[List.length_cons]at hlen
       obtain⟨e,he,hiff⟩:=eqAt_K (A:=A.in1) (s:=⟨hp,g,d,tk,os⟩) ra rc
       refine wpAny_bind (he prog w _ _ ?_)
       cases e with
       | true=>
        rw[if_pos (hiff.mp rfl)]at hR
        wp_walk
        exact⟨rfl,rfl,_,_,_,_,hrest,hvi',hwi',by lia,hR⟩
       | false=>
        rw[if_neg (fun q=>absurd (hiff.mpr q) Bool.false_ne_true)]at hR
        have hri:=rcLt_K (A:=A.in1) (s:=⟨hp,g,d,tk,os⟩) ra rc hR prog w
        wp_walk using hri
        exact⟨_,rfl,by simpa using h⟩
  case fin=>
   rintro⟨b1,b2⟩ s' ⟨hb',rfl,vs,ws,ks',js',hz,hvi,hwi,hlen,hR⟩
   simp only at hb'
   subst hb'
   have hv:r=decide (items.size<items2.size):=by
    cases ks' with
    | nil=>
     cases js' with
     | nil=>
      simp only[List.length_nil]at hlen
      cases hR
      exact (decide_eq_false (by lia)).symm
     | cons c js'=>
      simp only[List.length_nil,List.length_cons]at hlen
      cases hR
      exact (decide_eq_true (by lia)).symm
    | cons a ks'=>
     cases js' with
     | nil=>
      simp only[List.length_nil,List.length_cons]at hlen
      cases hR
      exact (decide_eq_false (by lia)).symm
     | cons c js'=>
      rw[List.map_cons]at hvi hwi
      cases hvi
      cases hwi
      rw[List.zip_cons_cons]at hz
      cases hz
   rw[hv]at h
   wp_walk
   exact⟨_,rfl,by simpa [Builtin.Tuple.tupleCompareSizes] using h⟩
  case h=>
   exact⟨rfl,rfl,items.toList,items2.toList,ks,js,rfl,hi,hj,by lia,hr⟩
end
section
variable {X:Cx}
def rLtK (K:PySem.W.Frag):R2:=fun x y H Q=>∃ a b ks js r,x=.ref a/\y=.ref b/\SqT K H a (ks.map kv)/\SqT K H b (js.map kv)/\cmpK ks js=some r/\Q (.bl r) H
theorem op_ltK (hu:X.A.units<cLine):OpR X (compareOp .Lt) (rLtK X.K):=by
 intro pins s σ H x y v u Q I rx ry h
 obtain⟨a,b,ks,js,r,rfl,rfl,ha,hb,hr,q⟩:=h
 cases rx
 cases ry
 obtain⟨its,r1,p1,_⟩:=I.tuple ha
 obtain⟨its2,r2,p2,_⟩:=I.tuple hb
 obtain⟨⟨cls,dd,data,sl⟩,ho,hc,n,hd⟩:=id p1
 obtain⟨⟨cls2,dd2,data2,sl2⟩,ho2,hc2,n2,hd2⟩:=id p2
 simp only at hc hd hc2 hd2
 subst hc hd hc2 hd2
 exact richCompare_meets_room (op:=.Lt) ⟨_,ho,rfl⟩ ⟨_,ho2,rfl⟩ PySem.F.slot_tuple_lt PySem.F.entry_tuple_lt (PySem.F.args_tuple_lt_2 _ _) (tuple_ltK a b its.toArray its2.toArray n n2 dd dd2 sl sl2 ks js (by simpa using r1) (by simpa using r2) r hr)
  ⟨ho,ho2,show Value.bool r≠Value.notImplemented/\EP X pins σ Q (.bool r) s from ⟨(fun x=>nomatch x),⟨.bl r,H,I,rfl,q⟩⟩⟩ hu
def rLtE:R2:=fun x y H Q=>∃ a c r,x=kv a/\y=kv c/\kEl a c=some r/\Q (.bl r) H
theorem op_ltE:OpR X (compareOp .Lt) rLtE:=by
 intro pins s σ H x y v u Q I rx ry h
 obtain⟨a,c,r,rfl,rfl,hr,q⟩:=h
 show wpAny (model X.prog X.w) X.A (richCompare .Lt v u) (EP X pins σ Q) X.xe s
 exact rcLt_K rx ry hr X.prog X.w _ _ ⟨.bl r,H,I,rfl,q⟩
def isiV (H:Hp) (x:V) (T:String) (b:Bool):Prop:=
 (T="tuple"/\((∃ i,x=.int i)/\b=false\/(∃ z,x=.str z)/\b=false\/(∃ a xs,x=.ref a/\H a=some (.tup xs))/\b=true))\/(T="bool"/\(∃ c,x=.bl c)/\b=true)
theorem call_isi:CallR X (.builtin "isinstance") (fun xs H Q=>∃ x T b,xs=[x,.ty T]/\isiV H x T b/\Q (.bl b) H):=by
 intro pins s σ H xs us Q I r h
 obtain⟨x,T,b,rfl,hi,q⟩:=h
 obtain⟨u,v,rfl,ru,rv⟩:=r.two
 cases rv
 rcases hi with ⟨rfl,⟨⟨i,rfl⟩,rfl⟩ | ⟨⟨z,rfl⟩,rfl⟩ | ⟨⟨a,ys,rfl,ha⟩,rfl⟩⟩ | ⟨rfl,⟨c,rfl⟩,rfl⟩
 ·obtain⟨t,rfl⟩:=ru
  exact IsiPair.int_tuple ⟨.bl false,H,I.tok _,rfl,q⟩
 ·obtain⟨t,rfl⟩:=ru
  exact IsiPair.str_tuple ⟨.bl false,H,I.tok _,rfl,q⟩
 ·cases ru
  obtain⟨hz,its,r',o,ho,hc,_⟩:=I.hok a _ ha
  exact IsiPair.tuple_tuple ho hc ⟨.bl true,H,I,rfl,q⟩
 ·cases ru
  exact IsiPair.bool_bool ⟨.bl true,H,I,rfl,q⟩
theorem strsAre_of {ys:List Str}:∀ {us:List Value},Vals (ys.map V.str) us->StrsAre us ys:=by
 induction ys with
 | nil=>intro us r;rw[List.map_nil]at r;cases r;exact .nil
 | cons n ns ih=>
  intro us r
  rw[List.map_cons]at r
  cases r with
  | cons r1 r2=>
   obtain⟨t,e⟩:=r1
   subst e
   exact .cons n t (ih r2)
theorem ofStrs:∀ {us:List Value}{ys:List Str},StrsAre us ys->Vals (ys.map V.str) us
 | _,_,.nil=>.nil
 | _,_,.cons x t r=>.cons ⟨t,rfl⟩ (ofStrs r)
def rJoin (K:PySem.W.Frag):V->List V->Hp->VK->Prop:=fun o vs H Q=>∃ sep p ys,o=.str sep/\vs=[.ref p]/\SqL K H p (ys.map V.str)/\(ys.map (·.length)).sum+ys.length * sep.length<=16777216/\Q (.str (Txt.join sep ys)) H
theorem mt_join:MtR X "str.join" (rJoin X.K):=by
 intro pins s σ H o vs v us Q I rx rv h
 obtain⟨sep,p,ys,rfl,rfl,hq,hz,q⟩:=h
 obtain⟨t,rfl⟩:=rx
 obtain⟨u,rfl,ru⟩:=rv.one
 cases ru
 obtain⟨its,r,pl,_⟩:=I.list hq
 exact join_list pl.isList (by simpa using strsAre_of r) hz fun t' k=>⟨.str _,H,I.tok _,⟨_,rfl⟩,q⟩
def rCatT' (K:PySem.W.Frag):R2:=fun x y H Q=>∃ a b xs ys,x=.ref a/\y=.ref b/\H a=some (.tup xs)/\H b=some (.tup ys)/\xs.length+ys.length<=sizeLine /\
 ∀ p H',(∀ c o,H c=some o->H' c=some o)->H' p=some (.tup (xs++ys))->Q (.ref p) H'
theorem op_catT':OpR X (binaryOp .Add) (rCatT' X.K):=by
 intro pins s σ H x y v u Q I rx ry h
 obtain⟨a,b,xs,ys,rfl,rfl,ha0,hb0,hz,q⟩:=h
 have ha:SqT X.K H a xs:=SqT.of ha0
 have hb:SqT X.K H b ys:=SqT.of hb0
 by_cases hx:xs=[]
 ·subst hx
  cases rx
  cases ry
  obtain⟨its,r1,p1,_⟩:=I.tuple ha
  obtain⟨its2,r2,p2,_⟩:=I.tuple hb
  cases r1
  obtain⟨⟨cls,dd,data,sl⟩,ho,hc,n,hd⟩:=id p1
  obtain⟨⟨cls2,dd2,data2,sl2⟩,ho2,hc2,n2,hd2⟩:=id p2
  simp only at hc hd hc2 hd2
  subst hc hd hc2 hd2
  exact concat_meets ⟨_,ho,rfl⟩ ⟨_,ho2,rfl⟩ noFill_tuple_add seq_tuple_add PySem.F.slot_tuple_add PySem.F.entry_tuple_add (PySem.F.args_tuple_add_2 _ _)
   (tuple_addW0 a b _ its2.toArray n n2 dd dd2 sl sl2 (by simp)) ⟨ho,ho2,⟨.ref b,H,I,rfl,q b H (fun _ _ z=>z) hb0⟩⟩
 ·exact op_catT pins s σ H _ _ v u Q I rx ry ⟨a,b,xs,ys,rfl,rfl,ha,hb,hx,hz,fun e=>q a H (fun _ _ z=>z) (by subst e;rw[List.append_nil];exact ha0),fun e p hp=>q p _ (fun c o z=>by rw[upd_ne (ne_of_none z hp)];exact z) upd_same⟩
end
end L2
end
section
namespace L2
open PySem PySem.Spec PyProof.Rows
open PySem.W (kdu_collect kdl_dict)
section
variable {X:Cx}
end
section
variable {X:Cx}
theorem op_plus:OpR X (binaryOp .Add) (fun x y H Q=>rI0 (fun i j=>.int (i+j)) x y H Q\/((∃ i j,x=.str i/\y=.str j/\i.length+j.length<=sizeLine/\Q (.str (i++j)) H)\/(rCat x y H Q\/rCatT' X.K x y H Q))):=op_add.or (op_add_str.or (op_cat.or op_catT'))
theorem op_ltU (hu:X.A.units<cLine):OpR X (compareOp .Lt) (fun x y H Q=>rI0 (fun i j=>.bl (decide (i<j))) x y H Q\/(rLtE x y H Q\/rLtK X.K x y H Q)):=op_lt.or (op_ltE.or (op_ltK hu))
theorem op_eqU (hu:X.A.units+110<cLine):OpR X (compareOp .Eq) (fun x y H Q=>rEq x y H Q\/rEqD x y H Q):=op_eq.or (op_eqD hu)
def rNeL:R2:=fun x y H Q=>∃ a b xs,x=.ref a/\y=.ref b/\H a=some (.lst xs)/\H b=some (.lst [])/\Q (.bl (decide (xs≠[]))) H
theorem op_neL (hu:X.A.units<cLine):OpR X (compareOp .NotEq) rNeL:=by
 intro pins s σ H x y v u Q I rx ry h
 obtain⟨a,b,xs,rfl,rfl,ha,hb,q⟩:=h
 cases rx
 cases ry
 obtain⟨its,r,p,_⟩:=I.list (SqL.of ha)
 obtain⟨its2,r2,p2,_⟩:=I.list (SqL.of hb)
 cases r2
 by_cases hx:xs=[]
 ·subst hx
  cases r
  refine SeqAt.RcNeAt.lists (A:=X.A) (e:=fun _=>true) p.isList p2.isList rfl hu (fun j h1=>by simp at h1) _ _ _ _ ⟨.bl false,H,I,rfl,?_⟩
  simpa using q
 ·refine SeqAt.RcNeAt.lists_lengths (A:=X.A) p.isList p2.isList ?_ hu _ _ _ _ ⟨.bl true,H,I,rfl,?_⟩
  ·have:=r.length
   have h0:its≠[]:=fun z=>hx (by subst z;cases xs with | nil=>rfl | cons _ _=>simp at this)
   cases its with
   | nil=>exact absurd rfl h0
   | cons _ _=>simp
  ·rw[decide_eq_true hx]at q
   exact q
theorem op_neU (hu:X.A.units+110<cLine):OpR X (compareOp .NotEq) (fun x y H Q=>rNe x y H Q\/((∃ ds es,IsDt H (.tup ds) x/\IsDt H (.tup es) y/\depL ds<=depMax/\Q (.bl (!decide (ds=es))) H)\/rNeL x y H Q)):=op_ne.or ((op_neD hu).or (op_neL (by lia)))
theorem op_inU (hu:X.A.units+110<cLine):OpR X (compareOp .In) (fun x y H Q=>rIn X.K false x y H Q\/rInD X.K false x y H Q):=op_in_seq.or (op_inD hu)
theorem op_notInU (hu:X.A.units+110<cLine):OpR X (compareOp .NotIn) (fun x y H Q=>rIn X.K true x y H Q\/rInD X.K true x y H Q):=op_notIn_seq.or (op_notInD hu)
theorem call_lenU:CallR X (.builtin "len") (fun xs H Q=>(∃ p ys,xs=[.ref p]/\(SqL X.K H p ys\/SqT X.K H p ys)/\Q (.int ys.length) H)\/∃ z,xs=[.str z]/\z.length<=sizeLine/\Q (.int z.length) H):=call_len_seq.or call_len_str
def rIxD:R2:=fun x y H Q=>∃ a v,x=.ref a/\DGet H a y (some v)/\Q v H
theorem ix_dict (hu:X.A.units+1<cLine):IxR X rIxD:=by
 intro value slice pins s σ H x y v u Q I rx ry h hs
 obtain⟨a,w,rfl,g,q⟩:=h
 cases rx
 exact tail_any (ops:=[.ref a,u]) (dict_typeIs I g) PySem.F.slot_dict_getitem.lookup (d_getItem hu I g ry fun w' s3 I3 rw'=>⟨w,H,I3,rw',q⟩) hs
theorem ix_U (hu:X.A.units+1<cLine):IxR X (fun x y H Q=>rIxL X.K x y H Q\/(rIxT X.K x y H Q\/(rIxS x y H Q\/rIxD x y H Q))):=ix_list.or (ix_tup.or (ix_str.or (ix_dict hu)))
def rSetD:TSet:=fun o i v H Q=>∃ a H',o=.ref a/\DPut H a i v H'/\Q H'
theorem set_dict (hu:X.A.units+1<cLine):PSet X rSetD:=by
 intro pins s σ H o i v ov iv u Q I ro ri rv h
 obtain⟨a,H',rfl,g,q⟩:=h
 cases ro
 exact d_setItem hu I g ri rv fun s4 I4=>⟨H',I4,q⟩
theorem PSet.or {r r':TSet} (h:PSet X r) (h':PSet X r'):PSet X (fun o i v H Q=>r o i v H Q\/r' o i v H Q):=by
 intro pins s σ H o i v ov iv u Q I ro ri rv q
 rcases q with q | q
 ·exact h pins s σ H o i v ov iv u Q I ro ri rv q
 ·exact h' pins s σ H o i v ov iv u Q I ro ri rv q
theorem set_U (hu:X.A.units+1<cLine):PSet X (fun o i v H Q=>rSetL o i v H Q\/rSetD o i v H Q):=set_list.or (set_dict hu)
theorem pi_U {tg l:Expr}{tl:TE} (hl:PE X l tl):PI X tg l (fun σ H R=>iList X.K tl σ H R\/iTup X.K tl σ H R):=by
 intro pins s σ H R I h
 rcases h with h | h
 ·exact pi_list hl pins s σ H R I h
 ·exact pi_tup hl pins s σ H R I h
end
end L2
end
section
namespace L2
open PySem PySem.Spec PyProof.Rows
structure ZC where
 cl:List (Str×Addr)
 C:Addr
 fp:List Addr
 s:Shared
 H:Hp
def cxC (X:Cx) (scope:Scope) (N':List Str) (z:ZC):Cx where
 prog:=X.prog
 w:=X.w
 K:=X.K
 mg:=X.mg
 base:=X.base
 A:=X.A
 N:=N'
 s₀:=z.s
 H₀:=z.H
 env:=compEnvC scope z.cl z.C X.env
 outer:=X.stack
 stack:=X.stack
 ex:=z.fp
 fn:=fun _=>false
 calm:=X.calm
 pn:=[]
 xe:=fun _ _=>False
theorem clos_loop {env:Env}:∀ (names:List (Str×NameKind)) (acc:List (Str×Addr)),(∀ y∈names,y.2=.free->∃ c,env.cells.lookup y.1=some c) ->
  (∀ x c,acc.lookup x=some c->env.cells.lookup x=some c) ->
  ∃ cl,(forIn names acc (fun y cs=>if (y.2 == NameKind.free)=true then (cellOf env y.1 >>= fun c=>pure (ForInStep.yield ((y.1,c)::cs))) else pure (ForInStep.yield cs)):Sem (List (Str×Addr)))=pure cl /\
   (∀ x c,cl.lookup x=some c->env.cells.lookup x=some c)/\(∀ y∈names,y.2=.free->∃ c,cl.lookup y.1=some c)/\∀ x c,acc.lookup x=some c->∃ c',cl.lookup x=some c'
 | [],acc,_,ha=>⟨acc,rfl,ha,fun y hy=>(nomatch hy),fun x c h=>⟨c,h⟩⟩
 | (n,k)::r,acc,h,ha=>by
  by_cases hk:k=.free
  ·subst hk
   obtain⟨c,hc⟩:=h (n,.free) List.mem_cons_self rfl
   have hac:∀ x c',((n,c)::acc).lookup x=some c'->env.cells.lookup x=some c':=fun x c' q=>by
    rw[List.lookup_cons]at q
    cases e:x == n with
    | true=>
     rw[e]at q
     cases q
     rw[eq_of_beq e]
     exact hc
    | false=>
     rw[e]at q
     exact ha x c' q
   obtain⟨cl,e1,e2,e3,e4⟩:=clos_loop r ((n,c)::acc) (fun y hy=>h y (List.mem_cons_of_mem _ hy)) hac
   refine⟨cl,?_,e2,fun y hy hf=>?_,fun x c' q=>?_⟩
   ·rw[List.forIn_cons]
    have ec:cellOf env n=pure c:=by unfold cellOf;rw[hc]
    simp only[beq_self_eq_true,if_true,ec,pure_bind]
    exact e1
   ·rcases List.mem_cons.mp hy with rfl | hy
    ·exact e4 n c (by simp)
    ·exact e3 y hy hf
   ·cases e:x == n with
    | true=>exact e4 x c (by rw[List.lookup_cons,e])
    | false=>exact e4 x c' (by rw[List.lookup_cons,e];exact q)
  ·obtain⟨cl,e1,e2,e3,e4⟩:=clos_loop r acc (fun y hy=>h y (List.mem_cons_of_mem _ hy)) ha
   refine⟨cl,?_,e2,fun y hy hf=>?_,e4⟩
   ·rw[List.forIn_cons]
    have hb:(k == NameKind.free)=false:=by simpa using hk
    simp only[hb,Bool.false_eq_true,if_false,pure_bind]
    exact e1
   ·rcases List.mem_cons.mp hy with rfl | hy
    ·exact absurd hf hk
    ·exact e3 y hy hf
theorem clos_of {scope:Scope}{env:Env} (h:∀ y∈scope.names,y.2=.free->∃ c,env.cells.lookup y.1=some c) :
  ∃ cl,closureFor scope env=pure cl/\(∀ x c,cl.lookup x=some c->env.cells.lookup x=some c)/\∀ y∈scope.names,y.2=.free->∃ c,cl.lookup y.1=some c:=by
 obtain⟨cl,e1,e2,e3,_⟩:=clos_loop (env:=env) scope.names [] h (fun x c q=>by simp at q)
 refine⟨cl,?_,e2,e3⟩
 unfold closureFor
 first
  | exact e1
  | (simp only[bind_pure_comp,map_pure,bind_pure]at e1 ⊢;exact e1)
  | (rw[show (forIn scope.names [] _:Sem (List (Str×Addr)))=pure cl from e1];rfl)
theorem rel_free {env:Env}:∀ {names:List (Str×NameKind)}{x:Str},names.lookup x=some .free ->
  let l:=(names.map fun (n,k)=>if (k == NameKind.free && env.scope.kind == .function && env.kindOf n == some .cell) then (n,NameKind.cell) else (n,k)).lookup x
  l=some .cell\/l=some .free
 | [],_,h=>by simp at h
 | (n,k)::r,x,h=>by
  have ih:=@rel_free env r x
  simp only at ih ⊢
  rw[List.map_cons]
  cases hx:x == n with
  | true=>
   rw[List.lookup_cons,hx]at h
   cases h
   by_cases hc:(NameKind.free == NameKind.free && env.scope.kind == .function && env.kindOf n == some .cell)=true
   ·left
    simp only[hc,if_true,List.lookup_cons,hx]
   ·right
    simp only[if_neg hc,List.lookup_cons,hx]
  | false=>
   rw[List.lookup_cons,hx]at h
   by_cases hc:(k == NameKind.free && env.scope.kind == .function && env.kindOf n == some .cell)=true
   ·simp only[if_pos hc,List.lookup_cons,hx];exact ih h
   ·simp only[if_neg hc,List.lookup_cons,hx];exact ih h
theorem rel_back {env:Env}:∀ {names:List (Str×NameKind)}{x:Str}{k':NameKind},(∀ y∈names,y.2≠.cell)->(k'=.cell\/k'=.free) ->
  (names.map fun (n,k)=>if (k == NameKind.free && env.scope.kind == .function && env.kindOf n == some .cell) then (n,NameKind.cell) else (n,k)).lookup x=some k'->(x,NameKind.free)∈names
 | [],_,_,_,_,h=>by simp at h
 | (n,k)::r,x,k',hn,hk,h=>by
  rw[List.map_cons]at h
  cases hx:x == n with
  | true=>
   have e:x=n:=eq_of_beq hx
   subst e
   by_cases hc:(k == NameKind.free && env.scope.kind == .function && env.kindOf x == some .cell)=true
   ·have hf:k=.free:=by
     simp only[Bool.and_eq_true,beq_iff_eq]at hc
     exact hc.1.1
    subst hf
    exact List.mem_cons_self
   ·simp only[if_neg hc,List.lookup_cons,hx]at h
    have e2:k=k':=Option.some.inj h
    subst e2
    rcases hk with rfl | rfl
    ·exact absurd rfl (hn _ List.mem_cons_self)
    ·exact List.mem_cons_self
  | false=>
   have ih:=@rel_back env r x k' (fun y hy=>hn y (List.mem_cons_of_mem _ hy)) hk
   by_cases hc:(k == NameKind.free && env.scope.kind == .function && env.kindOf n == some .cell)=true
   ·simp only[if_pos hc,List.lookup_cons,hx]at h
    exact List.mem_cons_of_mem _ (ih h)
   ·simp only[if_neg hc,List.lookup_cons,hx]at h
    exact List.mem_cons_of_mem _ (ih h)
theorem comp_loop {prog:Program}{w:World}{A:Around}{s:Shared}{elt tg iter:Expr}{ifs:List Expr}{scope:Scope}{pos:Pos}{it acc:Value}{env:Env}{P:Shared->Prop}{R:Result->Shared->Prop}
  (hR:∀ s',P s'->R (.ok .next) s') (J:Nat->Shared->Prop)
  (turn:∀ n s,J n s->wpAny (model prog w) A (pyNext it) (fun r s1=>match r with
   | none=>P s1
   | some v=>wpAny (model prog w) A (letOwnedTupleGo tg it v) (fun _ s2=>wpAny (model prog w) A (assign tg env v) (fun _ s3=>
     wpAny (model prog w) A (forIn ifs true fun c r=>if r=true then do let ok <- isTrue c env (eval c env);pure (ForInStep.yield ok) else pure (ForInStep.yield r)) (fun ok s4=>
      if ok=true then wpAny (model prog w) A (eval elt env) (fun x s5=>
       wpAny (model prog w) A (call (.builtin "list.append") [acc,x]) (fun _ s6=>∃ m,m<n/\J m s6) (fun _ _=>False) s5) (fun _ _=>False) s4
      else ∃ m,m<n/\J m s4) (fun _ _=>False) s3) (fun _ _=>False) s2) (fun _ _=>False) s1) (fun _ _=>False) s)
  (n:Nat) (h:J n s):codeAny (model prog w) A (.compLoop (.ListComp elt [⟨tg,iter,ifs,0⟩] scope pos) 0 it acc env) R s:=by
 refine codeAny_loop rfl J (fun n s hJ=>?_) n h
 show wpAny _ A ((compTurn (.ListComp elt [⟨tg,iter,ifs,0⟩] scope pos) 0 it acc env).onRaise (fun x=>do noteFrame x env;theTreesLotGoes x)) _ _ s
 refine wpAny_noted (wpAny_mono (E:=fun _ _=>False) ?_ (fun _ _ q=>q) fun _ _ q=>q.elim)
 rw[compTurn_list]
 refine wpAny_bind (wpAny_standAt (wpAny_bind (thn (turn n s hJ) fun r s1 h1=>?_)))
 cases r with
 | none=>exact wpAny_pure (hR _ h1)
 | some v=>
  refine wpAny_bind (thn h1 fun _ s2 h2=>wpAny_bind (thn h2 fun _ s3 h3=>wpAny_bind (thn h3 fun ok s4 h4=>?_)))
  cases ok with
  | false=>exact wpAny_pure ⟨rfl,h4⟩
  | true=>exact wpAny_bind (wpAny_bind (thn h4 fun x s5 h5=>wpAny_bind (thn h5 fun _ s6 h6=>wpAny_pure (wpAny_pure ⟨rfl,h6⟩))))
def PIfs (X:Cx) (ifs:List Expr) (t:TT):Prop:=
 ∀ (pins:List (Addr×Obj)) (s:Shared) (σ:St) (H:Hp) (Q:Bool->Hp->Prop),Inv X pins σ H s->t σ H Q ->
  wpAny (model X.prog X.w) X.A (forIn ifs true fun c r=>if r=true then do let ok <- isTrue c X.env (eval c X.env);pure (ForInStep.yield ok) else pure (ForInStep.yield r)) (TP X pins σ Q) X.xe s
def tAll:TT:=fun _ H Q=>Q true H
theorem pif_nil {X:Cx}:PIfs X [] tAll:=fun pins s σ H Q I h=>wpAny_tests_nil ⟨H,I,h⟩
def sigC (k:Nat) (fr:List (Str×Nat)) (σ:St):St:=List.replicate k none++fr.map fun p=>(σ[p.2]?).join
def Tgt (k:Nat) (g:TG):Prop:=∀ x σ H Q,g x σ H Q->g x σ H fun σ2 H2=>Q σ2 H2/\σ2.length=σ.length/\σ2.drop k=σ.drop k
theorem tgt_name {i k:Nat} (h:i<k):Tgt k (gName i):=fun x σ H Q q=>⟨q,by simp,by rw[List.drop_set_of_lt h]⟩
theorem tgt_two {K:PySem.W.Frag}{i j k:Nat} (hi:i<k) (hj:j<k):Tgt k (gTup K 2 (gCons (gName i) (gCons (gName j) gNil))):=fun x σ H Q q=>by
 obtain⟨a,xs,e1,e2,e3,v,r,e4,v2,r2,e5,e6,q⟩:=q
 exact⟨a,xs,e1,e2,e3,v,r,e4,v2,r2,e5,e6,q,by simp,by rw[List.drop_set_of_lt hj,List.drop_set_of_lt hi]⟩
def lcStep (J:It) (k:Nat) (fr:List (Str×Nat)) (g:ZC->TG) (tc:ZC->TT) (te:ZC->TE) (σ:St) (W:Nat->Nat->List V->Hp->Prop) (fin:List V->Hp->Prop):Prop:=
 ∀ i m ys H,W i m ys H->ys.length<sizeLine/\((J.stop i H/\fin ys H)\/(J.go i H/\∀ (z:ZC) x H1,J.yld i H x H1->g z x (sigC k fr σ) H1 fun σ2 H2=>tc z σ2 H2 fun b H3=>
  if b=true then te z σ2 H3 fun y H4=>∃ m',m'<m/\W (i+1) m' (ys++[y]) H4 else ∃ m',m'<m/\W (i+1) m' ys H3))
def tLC (wi:TI) (k:Nat) (fr:List (Str×Nat)) (g:ZC->TG) (tc:ZC->TT) (te:ZC->TE):TE:=fun σ H Q=>wi σ H fun J H1=>
 ∃ W:Nat->Nat->List V->Hp->Prop,(∃ m,W 0 m [] H1)/\lcStep J k fr g tc te σ W fun ys H2=>∀ p,H2 p=none->Q (.ref p) (upd H2 p (.lst ys))
section
variable {X:Cx}{tg elt iter:Expr}{ifs:List Expr}{scope:Scope}{pos:Pos}{k:Nat}{Nt:List Str}{fr:List (Str×Nat)}{g:ZC->TG}{tc:ZC->TT}{te:ZC->TE}
structure LcOk (X:Cx) (scope:Scope) (Nt:List Str) (fr:List (Str×Nat)):Prop where
 kind:scope.kind=.function
 cell:∀ y∈scope.names,y.2≠.cell
 names:∀ y∈scope.names,y.2=.local->scope.names.lookup y.1=some .local
 free:∀ y∈scope.names,y.2=.free->X.env.kindOf y.1=some .cell
 fr:∀ p∈fr,X.N[p.2]?=some p.1/\scope.names.lookup p.1=some .free
theorem lc_start {pins:List (Addr×Obj)} {σ:St} {H:Hp}{s2:Shared}{cl:List (Str×Addr)}{fp:List Addr}{h1:Heap}{t1:Nat}{C D:Addr}{m:Str->Option Value} (L:LcOk X scope Nt fr) (I:Inv X pins σ H s2)
  (hcl:∀ x c,cl.lookup x=some c->X.env.cells.lookup x=some c) (hcl2:∀ y∈scope.names,y.2=.free->∃ c,cl.lookup y.1=some c) (hf:∀ b∈fp,FpOk X pins H b) (hlt:∀ b∈fp,b<s2.heap.objs.size)
  (hC:s2.heap.objs.size<=C) (hD:s2.heap.objs.size<=D) (hCD:D≠C) (old:∀ b o,s2.heap.get? b=some o->h1.get? b=some o) (hn:h1.Ns C m) (ho:h1.get? D=some { cls:=.type "list",data:=.seq #[] 0 }) :
  Inv (cxC X scope (Nt++fr.map (·.1)) ⟨cl,C,fp,s2,H⟩) [(D,{ cls:=.type "list",data:=.seq #[] 0 })] (sigC Nt.length fr σ) H { s2 with heap:=h1,toks:=t1 }:=by
 have hstk:∀ b∈frs X.stack,b<s2.heap.objs.size:=fun b hb=>by
  rcases List.mem_cons.mp (I.stkSub b hb) with e | e
  ·rw[e];exact I.lt
  ·exact Nat.lt_of_not_le fun z=>I.nofs z e
 have cdn:∀ x c,cl.lookup x=some c->c<s2.heap.objs.size:=fun x c e=>by
  obtain⟨v,q⟩:=I.cell x c (hcl x c e)
  exact q.lt
 refine⟨⟨I.mod,L.kind,I.ok.glob,I.ok.blt,hC,fun x y c e1 e2=>I.ok.inj x y c (hcl _ _ e1) (hcl _ _ e2),fun x hx=>?_,fun x c hf' _=>(nomatch hf'),I.ok.hd,I.ok.frames,.inl rfl,fun b hb=>⟨Nat.ne_of_lt (Nat.lt_of_lt_of_le (hlt b hb) hC),fun x c e=>(hf b hb).2.2.2.2.1 x c (hcl x c e)⟩,
   I.bs,Nat.le_trans I.ok.bsz I.sz,fun b o e hb=>?_,fun b hb z=>?_,I.stack,I.stkFree⟩,
  rfl,I.bare,Un.kept old,⟨m,hn,fun i x v h1' h2 h3=>?_⟩,fun x c e=>?_,I.hok.fresh hC,fun x c e=>I.freeC x c (hcl x c e),fun p hp=>?_,I.hok.kept old,?_⟩
 ·have hx':((relabel scope X.env).names.lookup x=some .cell\/(relabel scope X.env).names.lookup x=some .free):=hx
  rcases hx' with q | q
  ·exact hcl2 _ (rel_back L.cell (.inl rfl) q) rfl
  ·exact hcl2 _ (rel_back L.cell (.inr rfl) q) rfl
 ·rcases (hf b hb).2.2.2.1 with q | q
  ·exact I.ok.noex b o e q
  ·exact absurd (Nat.lt_of_lt_of_le (Heap.lt_size e) (Nat.le_trans I.ok.bsz q)) (Nat.lt_irrefl _)
 ·rcases List.mem_cons.mp (I.stkSub b z) with e | e
  ·exact (hf b hb).2.1 e
  ·exact (hf b hb).2.2.1 e
 ·have h1'':(Nt++fr.map (·.1))[i]?=some x:=h1'
  have hi:¬i<Nt.length:=fun hi=>by
   unfold sigC at h2
   rw[List.getElem?_append_left (by simpa using hi),List.getElem?_replicate]at h2
   split at h2 <;> cases h2
  unfold sigC at h2
  rw[List.getElem?_append_right (by simpa using hi),List.length_replicate,List.getElem?_map]at h2
  rw[List.getElem?_append_right (by lia),List.getElem?_map]at h1''
  cases e:fr[i-Nt.length]? with
  | none=>rw[e]at h2;cases h2
  | some p=>
   rw[e]at h2 h1''
   have ex:p.1=x:=Option.some.inj h1''
   have ev:(σ[p.2]?).join=some v:=Option.some.inj h2
   obtain⟨hN,hfr⟩:=L.fr p (List.mem_of_getElem? e)
   have es:σ[p.2]?=some (some v):=by
    cases q:σ[p.2]? with
    | none=>rw[q]at ev;cases ev
    | some o=>rw[q]at ev;exact congrArg some ev
   have hkc:=L.free (p.1,.free) (PySem.mem_of_lookup hfr) rfl
   obtain⟨mo,hmo,hloc⟩:=I.loc
   obtain⟨u,ru,lk⟩:=hloc p.2 p.1 v hN es (.inr (.inl hkc))
   refine⟨u,ru,?_⟩
   rcases lk with ⟨kk,_⟩ | ⟨_,c,hc,hcell⟩
   ·rw[hkc]at kk;cases kk
   ·obtain⟨c',hc'⟩:=hcl2 _ (PySem.mem_of_lookup hfr) rfl
    have hcc:=hcl _ _ hc'
    rw[hc]at hcc
    cases hcc
    subst ex
    refine .inr ⟨?_,c,hc',?_⟩
    ·exact rel_free hfr
    ·obtain⟨o,q1,q2⟩:=hcell
     exact⟨o,old _ _ q1,q2⟩
 ·obtain⟨v,q⟩:=I.cell x c (hcl x c e)
  obtain⟨o,q1,q2⟩:=q
  exact⟨v,o,old _ _ q1,q2⟩
 ·have hp':p∈([(D,({ cls:=.type "list",data:=.seq #[] 0 }:Obj))]:List (Addr×Obj)):=hp
  rw[List.mem_singleton]at hp'
  subst hp'
  exact⟨ho,I.hok.fresh hD,hCD,fun z=>absurd (Nat.lt_of_lt_of_le (hstk _ z) hD) (Nat.lt_irrefl _),fun v z=>by cases z⟩
 ·unfold sigC
  show _=(Nt++fr.map (·.1)).length
  simp
structure LcEnd (X:Cx) (fp:List Addr) (H1:Hp) (s2:Shared) (fin:List V->Hp->Prop) (D C:Addr) (s':Shared) (ys:List V) (its:List Value) (n:Nat) (H':Hp) (m':Str->Option Value):Prop where
 ns:s'.heap.Ns C m'
 fc:H' C=none
 fd:H' D=none
 gc:s2.heap.objs.size<=C
 gd:s2.heap.objs.size<=D
 cd:D≠C
 un:Un (frs X.stack) fp H1 H' s2.heap s'.heap
 ok:HOk X.prog X.w H' s'.heap
 os:s'.os=s2.os
 bare:AllBare s'.gens
 obj:s'.heap.get? D=some { cls:=.type "list",data:=.seq its.toArray n }
 vals:Vals ys its
 size:ys.length<=sizeLine
 fin:fin ys H'
theorem lc_close {pins:List (Addr×Obj)} {σ:St} {fp:List Addr}{H1 H':Hp}{s2 s':Shared}{fin:List V->Hp->Prop}{D C:Addr}{ys:List V}{its:List Value}{n:Nat}{m':Str->Option Value}{h':Heap}
  (I:Inv X pins σ H1 s2) (hf:∀ b∈fp,FpOk X pins H1 b) (e:LcEnd X fp H1 s2 fin D C s' ys its n H' m') (sb:Heap.SameBut C s'.heap h'):Inv X pins σ (upd H' D (.lst ys)) { s' with heap:=h' }:=by
 have old:∀ b o,s2.heap.get? b=some o->b≠C/\b≠D:=fun b o q=>⟨Nat.ne_of_lt (Nat.lt_of_lt_of_le (Heap.lt_size q) e.gc),Nat.ne_of_lt (Nat.lt_of_lt_of_le (Heap.lt_size q) e.gd)⟩
 have at':∀ b,b≠C->h'.get? b=s'.heap.get? b:=fun b hb=>sb.2 b hb
 refine I.call' (s':={ s' with heap:=h' }) (ch:=fp) e.os ?_ ?_ e.bare fun b hb=>⟨(hf b hb).2.2.2.1,(hf b hb).2.1,(hf b hb).2.2.2.2.1,(hf b hb).2.2.2.2.2⟩
 ·have u:=e.un
  refine⟨fun b o q n hb hx=>?_,fun b o q n hb hx=>?_,fun b o q n hx=>?_,fun b o q hx=>?_,fun b xs q=>?_,fun b o v q=>?_,fun b ps q=>?_⟩
  ·exact (at' b (old b o q).1).trans (u.keep b o q n hb hx)
  ·obtain⟨sl,z⟩:=u.slot b o q n hb hx
   exact⟨sl,(at' b (old b o q).1).trans z⟩
  ·rw[upd_ne (old b o q).2]
   exact u.free b o q n hx
  ·obtain⟨o',z⟩:=u.there b o q hx
   exact⟨o',(at' b (old b o q).1).trans z⟩
  ·have z:=u.tups b xs q
   rw[upd_ne (ne_of_none z e.fd)]
   exact z
  ·have z:=u.frzs b o v q
   rw[upd_ne (ne_of_none z e.fd)]
   exact z
  ·obtain⟨more,z⟩:=u.tbls b ps q
   refine⟨more,?_⟩
   rw[upd_ne (ne_of_none z e.fd)]
   exact z
 ·intro b o q
  by_cases hb:b=D
  ·subst hb
   rw[upd_same]at q
   cases q
   exact⟨e.size,its,n,e.vals,(at' _ e.cd).trans e.obj⟩
  ·rw[upd_ne hb]at q
   refine (e.ok b o q).stay (fun c v hc z=>?_) (fun c z=>?_) fun c xs z=>?_
   ·have hcC:c≠C:=by
     rcases hc with rfl | hc
     ·exact ne_of_none q e.fc
     ·exact ne_of_none hc e.fc
    exact (at' c hcC).trans z
   ·rw[upd_ne (ne_of_none z e.fd)]
    exact z
   ·rw[upd_ne (ne_of_none z e.fd)]
    exact z
theorem lc_block {pins:List (Addr×Obj)} {σ:St} {H1:Hp}{s2:Shared}{cl:List (Str×Addr)}{fp:List Addr}{it:Addr}{tn:Nat->Heap->Prop}{J:It}{W:Nat->Nat->List V->Hp->Prop}{fin:List V->Hp->Prop}{E:Value->Shared->Prop}{RR:Value->Addr->Result->Shared->Prop}{m0:Nat}
  (L:LcOk X scope Nt fr) (hcalm:X.calm=true) (I:Inv X pins σ H1 s2) (hcl:∀ x c,cl.lookup x=some c->X.env.cells.lookup x=some c) (hcl2:∀ y∈scope.names,y.2=.free->∃ c,cl.lookup y.1=some c)
  (T:Turn X.prog X.w X.K tg J fp it tn) (st0:tn 0 s2.heap) (hf:∀ b∈fp,FpOk X pins H1 b)
  (hg:∀ z,PG (cxC X scope (Nt++fr.map (·.1)) z) tg (g z)) (hgt:∀ z,Tgt Nt.length (g z)) (hc:∀ z,PIfs (cxC X scope (Nt++fr.map (·.1)) z) ifs (tc z)) (he:∀ z,PE (cxC X scope (Nt++fr.map (·.1)) z) elt (te z))
  (w0:W 0 m0 [] H1) (step:lcStep J Nt.length fr g tc te σ W fin)
  (hRR:∀ D C s' ys its n H' m',LcEnd X fp H1 s2 fin D C s' ys its n H' m'->RR (.ref D) C (.ok .next) s') :
  wpAny (model X.prog X.w) X.A (newList []) (fun acc s3=>wpAny (model X.prog X.w) X.A (newFunctionEnv scope X.env.globals cl [] X.env.qual none .none (some X.env)) (fun cenv s4=>
   codeAny (model X.prog X.w) X.A (.compStart (.ListComp elt [⟨tg,iter,ifs,0⟩] scope pos) 0 (.ref it) acc { cenv with scope:=relabel scope X.env }) (RR acc cenv.locals) s4) E s3) E s2:=by
 refine wpAny_newObj_type (wpAny_newFunctionEnv L.cell (by intro y hy;simp at hy) (fun h1 hns hsb=>?_) L.kind)
 dsimp only at hns hsb ⊢
 generalize hH2:s2.heap.push { cls:=.type "list",dict:=none,data:=.seq ([]:List Value).toArray }=G at hns hsb ⊢
 have hC:G.objs.size=s2.heap.objs.size+1:=by rw[<- hH2,Heap.size_push]
 have hlt:∀ b∈fp,b<s2.heap.objs.size:=fun b hb=>by
  obtain⟨o,q,_⟩:=T.obj 0 _ st0 b hb
  exact Heap.lt_size q
 have old:∀ b o,s2.heap.get? b=some o->h1.get? b=some o:=fun b o q=>
  hsb.extBut b o (by rw[hC];exact Nat.ne_of_lt (Nat.lt_succ_of_lt (Heap.lt_size q))) (Heap.get?_push_of_some _ (hH2 ▸ Heap.get?_push_of_some _ q))
 have hDC:s2.heap.objs.size≠G.objs.size:=by rw[hC];exact Nat.ne_of_lt (Nat.lt_succ_self _)
 have hacc:h1.get? s2.heap.objs.size=some { cls:=.type "list",data:=.seq #[] 0 }:=hsb.extBut _ _ hDC (Heap.get?_push_of_some _ (hH2 ▸ Heap.get?_push_size _ rfl))
 have hgC:s2.heap.objs.size<=G.objs.size:=by rw[hC];exact Nat.le_succ _
 have I0:=lc_start (t1:=s2.toks+([]:List (Str×Value)).length) (C:=G.objs.size) (D:=s2.heap.objs.size) L I hcl hcl2 hf hlt hgC (Nat.le_refl _) hDC old hns hacc
 have st1:tn 0 h1:=T.keep 0 _ _ st0 fun b _ o q=>old b o q
 generalize hX:cxC X scope (Nt++fr.map (·.1)) ⟨cl,G.objs.size,fp,s2,H1⟩=X' at I0
 have hcd:∀ x c,cl.lookup x=some c->c<s2.heap.objs.size:=fun x c e=>by
  obtain⟨v,q⟩:=I.cell x c (hcl x c e)
  exact q.lt
 have hfr:∀ b∈fp,b ∉ frs X.stack:=fun b hb z=>by
  rcases List.mem_cons.mp (I.stkSub b z) with e | e
  ·exact (hf b hb).2.1 e
  ·exact (hf b hb).2.2.1 e
 have stat:∀ {H':Hp}{ob:Obj},(∀ b∈fp,H' b=none)->∀ b∈fp,FpOk X' [(s2.heap.objs.size,ob)] H' b:=fun {H' ob} hn b hb=>by
  subst hX
  refine⟨hn b hb,Nat.ne_of_lt (Nat.lt_of_lt_of_le (hlt b hb) hgC),hfr b hb,.inl hb,fun x c e=>(hf b hb).2.2.2.2.1 x c (hcl x c e),fun p hp=>?_⟩
  have hp':p∈([(s2.heap.objs.size,ob)]:List (Addr×Obj)):=hp
  rw[List.mem_singleton]at hp'
  subst hp'
  exact Nat.ne_of_gt (hlt b hb)
 have eP:X'.prog=X.prog:=by subst hX;rfl
 have eW:X'.w=X.w:=by subst hX;rfl
 have eK:X'.K=X.K:=by subst hX;rfl
 have eC:X'.calm=true:=by subst hX;exact hcalm
 have hg':PG X' tg (g ⟨cl,G.objs.size,fp,s2,H1⟩):=by subst hX;exact hg _
 have hc':PIfs X' ifs (tc ⟨cl,G.objs.size,fp,s2,H1⟩):=by subst hX;exact hc _
 have he':PE X' elt (te ⟨cl,G.objs.size,fp,s2,H1⟩):=by subst hX;exact he _
 -- what is known of the list that grows
 have grow:∀ {pl:List (Addr×Obj)} {σ':St} {H':Hp}{s':Shared}{ob ob':Obj}{h':Heap},Inv X' pl σ' H' s'->H' s2.heap.objs.size=none->(sigC Nt.length fr σ).length=σ'.length->σ'.drop Nt.length=(sigC Nt.length fr σ).drop Nt.length ->
   Heap.SameBut s2.heap.objs.size s'.heap h'->h'.get? s2.heap.objs.size=some ob'->(∀ v,ob'.data≠.cell v)->Inv X' [(s2.heap.objs.size,ob')] (sigC Nt.length fr σ) H' { s' with heap:=h' }:=fun {pl σ' H' s' ob ob' h'} I' hn hl hd sb ho' hv=>by
  have I1:Inv X' [] σ' H' s':=I'.pins_of fun p hp=>(nomatch hp)
  have g1:s2.heap.objs.size≠X'.env.locals:=by subst hX;exact hDC
  have g2:X'.s₀.heap.objs.size<=s2.heap.objs.size:=by subst hX;exact Nat.le_refl _
  have g3:∀ x c,X'.env.cells.lookup x=some c->c≠s2.heap.objs.size:=by subst hX;exact fun x c e=>Nat.ne_of_lt (hcd x c e)
  have g4:∀ p∈X'.pn++([]:List (Addr×Obj)),p.1≠s2.heap.objs.size:=by subst hX;exact fun p hp=>(nomatch (show p∈([]:List (Addr×Obj)) from hp))
  have g5:s2.heap.objs.size ∉ X'.fs:=by
   subst hX
   intro z
   rcases List.mem_cons.mp (I.stkSub _ z) with e | e
   ·exact absurd (e ▸ I.lt) (Nat.lt_irrefl _)
   ·exact I.nofs (Nat.le_refl _) e
  have I2:Inv X' [] σ' H' { s' with heap:=h' }:=I1.turned (t':=s'.toks) (it:=s2.heap.objs.size) (fun b o hb q=>(sb.2 b hb).trans q) hn g1 (.inr g2) g3 g4
  have I3:Inv X' [(s2.heap.objs.size,ob')] σ' H' { s' with heap:=h' }:=I2.pins_of fun p hp=>by
   rw[List.mem_singleton]at hp
   subst hp
   exact⟨ho',hn,g1,g5,hv⟩
  refine I3.weak hl fun i v q=>?_
  have hi:¬i<Nt.length:=fun hi=>by
   unfold sigC at q
   rw[List.getElem?_append_left (by simpa using hi),List.getElem?_replicate]at q
   split at q <;> cases q
  have z:∀ l:St,l[i]?=(l.drop Nt.length)[i-Nt.length]?:=fun l=>by
   rw[List.getElem?_drop]
   congr 1
   lia
  rw[z,hd,<- z]
  exact q
 have loop:∀ s3:Shared,s3={ s2 with heap:=h1,toks:=s2.toks+([]:List (Str×Value)).length } ->
   codeAny (model X.prog X.w) X.A (.compLoop (.ListComp elt [⟨tg,iter,ifs,0⟩] scope pos) 0 (.ref it) (.ref s2.heap.objs.size) (compEnvC scope cl G.objs.size X.env)) (RR (.ref s2.heap.objs.size) G.objs.size) s3:=by
  rintro s3 rfl
  refine comp_loop (P:=fun s'=>∃ ys its n H' m',LcEnd X fp H1 s2 fin s2.heap.objs.size G.objs.size s' ys its n H' m') (fun s' ⟨ys,its,n,H',m',q⟩=>hRR _ _ s' ys its n H' m' q)
   (fun n s'=>∃ i ys its c H',Inv X' [(s2.heap.objs.size,{ cls:=.type "list",data:=.seq (its:List Value).toArray c })] (sigC Nt.length fr σ) H' s'/\Vals ys its/\tn i s'.heap/\(∀ b∈fp,H' b=none)/\W i n ys H')
   ?_ m0 ⟨0,[],[],0,H1,I0,.nil,st1,fun b hb=>(hf b hb).1,w0⟩
  rintro n s' ⟨i,ys,its,c,H',I',rv,st,fr0,w⟩
  obtain⟨hz,hstep⟩:=step i n ys H' w
  have nD:∀ {pl:List (Addr×Obj)} {σ':St} {H'':Hp}{s'':Shared}{ob:Obj},Inv X' ((s2.heap.objs.size,ob)::pl) σ' H'' s''->s''.heap.get? s2.heap.objs.size=some ob/\H'' s2.heap.objs.size=none:=fun {pl σ' H'' s'' ob} I''=>by
   have q:=I''.pin (s2.heap.objs.size,ob) (List.mem_append_right _ List.mem_cons_self)
   exact⟨q.1,q.2.1⟩
  rcases hstep with ⟨stop,fn⟩ | ⟨go,hgo⟩
  ·have A1:=T.done X' eP eW eK eC i _ s' _ H' (fun _ _=>False) I' (stat fr0) st stop
   have hA:X'.A=X.A:=by subst hX;rfl
   rw[hA]at A1
   refine thn A1 fun r s1 ⟨hr,I1⟩=>?_
   subst hr
   obtain⟨q1,q2⟩:=nD I1
   have hL:X'.env.locals=G.objs.size:=by subst hX;rfl
   obtain⟨m',hm',_⟩:=I1.loc
   have un:Un (frs X.stack) fp H1 H' s2.heap s1.heap:=by subst hX;exact I1.base
   have os:s1.os=s2.os:=by subst hX;exact I1.os
   exact⟨ys,its,c,H',m',⟨hL ▸ hm',hL ▸ I1.free,q2,hgC,Nat.le_refl _,hDC,un,eP ▸ eW ▸ I1.hok,os,I1.bare,q1,rv,Nat.le_of_lt hz,fn⟩⟩
  ·have hA:X'.A=X.A:=by subst hX;rfl
   have hE:X'.env=compEnvC scope cl G.objs.size X.env:=by subst hX;rfl
   have hxe:X'.xe=fun _ _=>False:=by subst hX;rfl
   have A1:=T.item X' eP eW eK eC i _ s' _ H' (fun _ _=>False) I' (stat fr0) st go
   rw[hA]at A1
   refine thn A1 fun r s1 ⟨u,hr,h4⟩=>?_
   subst hr
   refine thn h4 fun _ s5 ⟨x,H5,I5,r5,y5,st5,fr5⟩=>?_
   have I5':=I5.pinned (stat fr5) (T.obj _ _ st5)
   have q5:=hgt _ x _ H5 _ (hgo ⟨cl,G.objs.size,fp,s2,H1⟩ x H5 y5)
   have A2:=hg' _ s5 _ H5 x u _ I5' r5 q5
   rw[eP,eW,hA,hE,hxe]at A2
   refine thn A2 fun _ s6 ⟨σ6,H6,I6,q6,l6,d6⟩=>?_
   have A3:=hc' _ s6 σ6 H6 _ I6 q6
   rw[eP,eW,hA,hE,hxe]at A3
   refine thn A3 fun ok s7 ⟨H7,I7,q7⟩=>?_
   have back:∀ {σ8:St} {H8:Hp}{s8 s9:Shared},Inv X' ([(s2.heap.objs.size,{ cls:=.type "list",data:=.seq its.toArray c })]++pinsAt fp s5.heap) σ8 H8 s8->(∀ b,b≠s2.heap.objs.size->s9.heap.get? b=s8.heap.get? b)->tn (i+1) s9.heap/\∀ b∈fp,H8 b=none:=fun {σ8 H8 s8 s9} I8 h9=>by
    refine⟨T.keep _ _ _ st5 fun b hb o q=>?_,fun b hb=>?_⟩
    ·rw[h9 b (Nat.ne_of_lt (hlt b hb))]
     exact (I8.pin (b,o) (List.mem_append_right _ (List.mem_append_right _ (mem_pinsAt hb q)))).1
    ·obtain⟨o,q,_⟩:=T.obj _ _ st5 b hb
     exact (I8.pin (b,o) (List.mem_append_right _ (List.mem_append_right _ (mem_pinsAt hb q)))).2.1
   cases ok with
   | false=>
    rw[if_neg Bool.false_ne_true]at q7 ⊢
    obtain⟨m',hm',w'⟩:=q7
    obtain⟨e1,e2⟩:=nD I7
    obtain⟨b1,b2⟩:=back (s9:=s7) I7 fun _ _=>rfl
    refine⟨m',hm',i+1,ys,its,c,H7,?_,rv,b1,b2,w'⟩
    exact grow (ob:={ cls:=.type "list",data:=.seq its.toArray c }) (h':=s7.heap) I7 e2 l6.symm d6 (.refl ..) e1 (fun v z=>by cases z)
   | true=>
    rw[if_pos rfl]at q7 ⊢
    have A4:=he' _ s7 σ6 H7 _ I7 q7
    rw[eP,eW,hA,hE,hxe]at A4
    refine thn A4 fun v s8 ⟨y,H8,I8,r8,m',hm',w'⟩=>?_
    obtain⟨e1,e2⟩:=nD I8
    refine append_at (hsz:=by rw[List.size_toArray,<- rv.length];exact Nat.le_of_lt hz) e1 fun h9 sb o9=>?_
    obtain⟨b1,b2⟩:=back (s9:={ s8 with heap:=h9 }) I8 fun b hb=>sb.2 b hb
    have ea:its.toArray.push v=(its++[v]).toArray:=by simp
    rw[ea]at o9
    refine⟨m',hm',i+1,ys++[y],its++[v],c+1,H8,?_,rv.append (.cons r8 .nil),b1,b2,w'⟩
    exact grow (ob:={ cls:=.type "list",data:=.seq its.toArray c }) I8 e2 l6.symm d6 sb o9 (fun v z=>by cases z)
 exact codeAny_compStart_list (loop _ rfl) (T.self X.A 0 _ _ _ st1 (loop _ rfl))
theorem pe_lc {wi:TI} (L:LcOk X scope Nt fr) (hcalm:X.calm=true) (hi:PI X tg iter wi) (hg:∀ z,PG (cxC X scope (Nt++fr.map (·.1)) z) tg (g z)) (hgt:∀ z,Tgt Nt.length (g z))
  (hc:∀ z,PIfs (cxC X scope (Nt++fr.map (·.1)) z) ifs (tc z)) (he:∀ z,PE (cxC X scope (Nt++fr.map (·.1)) z) elt (te z)) (hs:∀ x,foldedSetIterable iter X.env x=pure x:=by intro _;rfl) :
  PE X (.ListComp elt [⟨tg,iter,ifs,0⟩] scope pos) (tLC wi Nt.length fr g tc te):=by
 intro pins s σ H Q I h
 obtain⟨cl,e1,e2,e3⟩:=clos_of (scope:=scope) (env:=X.env) fun y hy hf=>I.ok.has _ (.inl (L.free y hy hf))
 rw[eval_ListComp]
 refine wpAny_comprehension_free (use:=none) rfl hs e1 L.kind L.names (thn (hi pins s σ H _ I h) fun v s1 h1=>thn h1 fun itv s2 h2=>?_)
 obtain⟨it,fp,tn,J,H2,e,I2,T,st2,f2,W,⟨m0,w0⟩,step⟩:=h2
 subst e
 refine lc_block (RR:=fun acc C r s'=>compPost (model X.prog X.w) X.A X.xe none (EP X pins σ Q) acc C r s') L hcalm I2 e2 e3 T st2 f2 hg hgt hc he w0 step fun D C s' ys its n H' m' q=>?_
 exact⟨m',q.ns,fun h' sb=>⟨.ref D,_,lc_close I2 f2 q sb,rfl,q.fin D q.fd⟩⟩
end
end L2
end
section
namespace L2
open PySem PySem.Spec PyProof.Rows
section
variable {prog:Program}{w:World}{A:Around}{E:Value->Shared->Prop}{s:Shared}
theorem nextOf_tup {J t:Addr}{i:Nat}{its:Array Value}{x:Value}{Q:Value->Shared->Prop} (hJ:s.heap.IsTupleIter J t i) (ht:s.heap.IsTuple t its) (hx:its[i]?=some x)
  (q:∀ h',h'.IsTupleIter J t (i+1)->Heap.SameBut J s.heap h'->Q x { s with heap:=h' }):wpAny (model prog w) A (Builtin.SmallTypes.nextOf (.ref J)) Q E s:=by
 obtain⟨ob,h1,h2,h3⟩:=id hJ
 obtain⟨ot,g1,_,nt,g2⟩:=ht
 unfold Builtin.SmallTypes.nextOf
 refine wpAny_bind (wpAny_callSpecial?_slot (name:=Str.ofString "__next__") hJ.typeIs F.slot_tuple_iterator_next (wpAny_call_entry F.slot_tuple_iterator_next hJ.typeIs F.entry_tuple_iterator_next ?_ (F.args_tuple_iterator_next_1 _)))
 show wpAny _ _ (field (.ref J) 0 >>= _) _ _ s
 refine wpAny_bind (wpAny_field h1 h3 (x:=.ref t) rfl ?_)
 show wpAny _ _ (if (Value.ref t == Value.none)=true then _ else _) _ _ s
 rw[if_neg (show ¬((Value.ref t == Value.none)=true) from fun z=>Bool.false_ne_true z)]
 show wpAny _ _ (field (.ref J) 1 >>= _) _ _ s
 refine wpAny_bind (wpAny_field h1 h3 (x:=.int i 0) rfl ?_)
 show wpAny _ _ (seqItems? (.ref t) >>= _) _ _ s
 refine wpAny_bind (wpAny_seqItems g1 g2 ?_)
 simp only[Int.toNat_natCast,hx]
 refine wpAny_bind (wpAny_setField h1 h3 (by simp) (wpAny_pure ⟨x,rfl,wpAny_pure (q _ ?a (Heap.SameBut.update ..))⟩))
 exact⟨_,Heap.get?_update_self _ h1 (Obj.isFreed_of_fields (Obj.data_mapFields h3 _)),Eq.trans (Obj.cls_mapFields ..) h2,by rw[Obj.data_mapFields h3] <;> simp [rawInt]⟩
theorem nextOf_tup_end {J t:Addr}{i:Nat}{its:Array Value}{Q:Value->Shared->Prop} (hh:A.handled=none) (hJ:s.heap.IsTupleIter J t i) (ht:s.heap.IsTuple t its) (hx:its[i]?=none)
  (q:∀ h' e,Heap.ExtBut J s.heap h'->(∃ o,h'.get? e=some o/\o.cls=.type "StopIteration")->E (.ref e) { s with heap:=h' }):wpAny (model prog w) A (Builtin.SmallTypes.nextOf (.ref J)) Q E s:=by
 obtain⟨ob,h1,h2,h3⟩:=id hJ
 obtain⟨ot,g1,_,nt,g2⟩:=ht
 unfold Builtin.SmallTypes.nextOf
 refine wpAny_bind (wpAny_callSpecial?_slot (name:=Str.ofString "__next__") hJ.typeIs F.slot_tuple_iterator_next (wpAny_call_entry F.slot_tuple_iterator_next hJ.typeIs F.entry_tuple_iterator_next ?_ (F.args_tuple_iterator_next_1 _)))
 show wpAny _ _ (field (.ref J) 0 >>= _) _ _ s
 refine wpAny_bind (wpAny_field h1 h3 (x:=.ref t) rfl ?_)
 show wpAny _ _ (if (Value.ref t == Value.none)=true then _ else _) _ _ s
 rw[if_neg (show ¬((Value.ref t == Value.none)=true) from fun z=>Bool.false_ne_true z)]
 show wpAny _ _ (field (.ref J) 1 >>= _) _ _ s
 refine wpAny_bind (wpAny_field h1 h3 (x:=.int i 0) rfl ?_)
 show wpAny _ _ (seqItems? (.ref t) >>= _) _ _ s
 refine wpAny_bind (wpAny_seqItems g1 g2 ?_)
 simp only[Int.toNat_natCast,hx]
 refine wpAny_bind (wpAny_rule (wpAny_bind (wpAny_setField h1 h3 (by simp) ?_)))
 show wpAny _ _ (newExc (.type "StopIteration") [] >>= _) _ _ _
 refine wpAny_bind ?_
 simp only[newExc,newTuple]
 refine wpAny_bind (wpAny_newObj_type ?_ (by size_fits))
 refine wpAny_bind (m:=firstArgMember _ _) (wpAny_of_eq (a:=Value.none) (by first | rfl | (simp only[firstArgMember] <;> rfl)) ?_)
 refine wpAny_newObj_type ?_ (by size_fits)
 simp only[raiseNew]
 refine wpAny_bind (wpAny_handled ?_)
 first | rw[show A.in1.handled=none from hh] | rw[hh]
 refine wpAny_bind (wpAny_pure (wpAny_throw (q _ _ ?_ ⟨_,Heap.get?_push_size _ rfl,rfl⟩)))
 exact ((Heap.SameBut.update ..).extBut.push _).push _
structure ZAt (h:Heap) (z TI TO i1 i2 t1 t2:Addr) (k:Nat) (f:Value):Prop where
 z:IsZip h z TI TO f
 ti:IsPair h TI (.ref i1) (.ref i2)
 to:∃ a b,IsPair h TO a b
 j1:h.IsTupleIter i1 t1 k
 j2:h.IsTupleIter i2 t2 k
structure ZNe (z TI TO i1 i2 t1 t2:Addr):Prop where
 a1:TI≠z
 a2:TO≠z
 a3:i1≠z
 a4:i2≠z
 a5:TI≠TO
 a6:TI≠i1
 a7:TI≠i2
 a8:TO≠i1
 a9:TO≠i2
 b1:i1≠i2
 c1:t1≠z/\t1≠TO/\t1≠i1/\t1≠i2
 c2:t2≠z/\t2≠TO/\t2≠i1/\t2≠i2
theorem zip_item {z TI TO i1 i2 t1 t2:Addr}{k:Nat}{xs ys:Array Value}{x y:Value}{Q:Option Value->Shared->Prop} (D:ZNe z TI TO i1 i2 t1 t2) (Z:ZAt s.heap z TI TO i1 i2 t1 t2 k .none)
  (ht1:s.heap.IsTuple t1 xs) (ht2:s.heap.IsTuple t2 ys) (hx:xs[k]?=some x) (hy:ys[k]?=some y)
  (hQ:∀ h',ZAt h' z TI TO i1 i2 t1 t2 (k+1) (rawInt s.heap.objs.size)->IsPair h' s.heap.objs.size x y->h'.objs.size=s.heap.objs.size+1 ->
   (∀ c o,c≠z->c≠TO->c≠i1->c≠i2->s.heap.get? c=some o->h'.get? c=some o)->Q (some (.ref s.heap.objs.size)) { s with heap:=h' }) :
  wpAny (model prog w) A (pyNext (.ref z)) Q E s:=by
 have hT:s.TypeIs (.ref z) "zip":=⟨_,Z.z,rfl⟩
 obtain⟨u0,v0,hTO⟩:=Z.to
 unfold pyNext
 refine wpAny_bind (wpAny_attempt (wpAny_callSpecial?_slot (name:=Str.ofString "__next__") hT F.slot_zip_next (wpAny_call_entry F.slot_zip_next hT F.entry_zip_next ?_ (F.args_zip_next_1 _))))
 show wpAny _ _ (field (.ref z) 2 >>= _) _ _ _
 refine wpAny_bind (wpAny_field Z.z rfl (x:=.bool false) rfl ?_)
 show wpAny _ _ (field (.ref z) 3 >>= _) _ _ _
 refine wpAny_bind (wpAny_field Z.z rfl (x:=.ref TI) rfl ?_)
 refine wpAny_bind (wpAny_seqItems Z.ti rfl ?_)
 show wpAny _ _ (Builtin.SmallTypes.ownedTupleIsFree (.ref z) >>= _) _ _ _
 refine wpAny_bind ?_
 unfold Builtin.SmallTypes.ownedTupleIsFree
 refine wpAny_bind (wpAny_field Z.z rfl (x:=.none) rfl (wpAny_pure ?_))
 simp only[if_true]
 refine wpAny_bind (wpAny_rule (wpAny_bind (wpAny_field Z.z rfl (x:=.ref TO) rfl ?_)))
 refine wpAny_bind (wpAny_setField_rec Z.z (by simp) fun g1 z1 s1=>?_)
 have z1:IsZip g1 z TI TO .ellipsis:=z1
 refine wpAny_bind ?_
 simp only[List.zipIdx_cons,List.zipIdx_nil,List.forIn_cons,List.forIn_nil]
 refine wpAny_bind (wpAny_bind (wpAny_onRaise ?_))
 show wpAny _ _ (Builtin.SmallTypes.nextOf (.ref i1) >>= _) _ _ _
 refine wpAny_bind (nextOf_tup (Z.j1.extBut s1.extBut D.a3) (ht1.extBut s1.extBut D.c1.1) hx fun g2 j12 s2=>wpAny_pure ?_)
 have o2:IsPair g2 TO u0 v0:=s2.extBut _ _ D.a8 (s1.extBut _ _ D.a2 hTO)
 refine wpAny_bind (wpAny_seqItems o2 rfl ?_)
 refine wpAny_bind (wpAny_updateSeq_pair o2 fun g3 o3 s3=>?_)
 have o3:IsPair g3 TO x v0:=o3
 refine wpAny_bind (wpAny_letGo (wpAny_pure ?_))
 refine wpAny_bind (wpAny_bind (wpAny_onRaise ?_))
 show wpAny _ _ (Builtin.SmallTypes.nextOf (.ref i2) >>= _) _ _ _
 refine wpAny_bind (nextOf_tup (((Z.j2.extBut s1.extBut D.a4).extBut s2.extBut D.b1.symm).extBut s3.extBut D.a9.symm) (((ht2.extBut s1.extBut D.c2.1).extBut s2.extBut D.c2.2.2.1).extBut s3.extBut D.c2.2.1) hy fun g4 j24 s4=>wpAny_pure ?_)
 have o4:IsPair g4 TO x v0:=s4.extBut _ _ D.a9 o3
 refine wpAny_bind (wpAny_seqItems o4 rfl ?_)
 refine wpAny_bind (wpAny_updateSeq_pair o4 fun g5 o5 s5=>?_)
 have o5:IsPair g5 TO x y:=o5
 refine wpAny_bind (wpAny_letGo (wpAny_pure (wpAny_pure ?_)))
 refine wpAny_bind (wpAny_seqItems o5 rfl ?_)
 refine wpAny_bind (wpAny_newTuple ?_)
 have sz:g5.objs.size=s.heap.objs.size:=by rw[s5.1,s4.1,s3.1,s2.1,s1.1]
 have z5:IsZip g5 z TI TO .ellipsis:=s5.extBut _ _ D.a2.symm (s4.extBut _ _ D.a4.symm (s3.extBut _ _ D.a2.symm (s2.extBut _ _ D.a3.symm z1)))
 have k5:∀ c o,c≠z->c≠TO->c≠i1->c≠i2->s.heap.get? c=some o->g5.get? c=some o:=fun c o e1 e2 e3 e4 q=>s5.extBut _ _ e2 (s4.extBut _ _ e4 (s3.extBut _ _ e2 (s2.extBut _ _ e3 (s1.extBut _ _ e1 q))))
 have j15:g5.IsTupleIter i1 t1 (k+1):=((j12.extBut s3.extBut D.a8.symm).extBut s4.extBut D.b1).extBut s5.extBut D.a8.symm
 have j25:g5.IsTupleIter i2 t2 (k+1):=j24.extBut s5.extBut D.a9.symm
 have zlt:z<g5.objs.size:=Heap.lt_size z5
 show wpAny _ _ (Builtin.SmallTypes.ownedTupleHandOut (.ref z) (.ref g5.objs.size) >>= _) _ _ _
 refine wpAny_bind ?_
 unfold Builtin.SmallTypes.ownedTupleHandOut
 have z6:IsZip (g5.push { cls:=.type "tuple",data:=.seq #[x,y] }) z TI TO .ellipsis:=Heap.get?_push_of_some _ z5
 refine wpAny_bind (wpAny_setField_rec z6 (by simp) fun g7 z7 s7=>?_)
 have z7:IsZip g7 z TI TO (rawInt g5.objs.size):=z7
 refine wpAny_setField_rec z7 (by simp) fun g8 z8 s8=>?_
 have z8:IsZip g8 z TI TO (rawInt g5.objs.size):=z8
 have up:∀ c o,c≠z->g5.get? c=some o->g8.get? c=some o:=fun c o e q=>s8.extBut _ _ e (s7.extBut _ _ e (Heap.get?_push_of_some _ q))
 have T8:IsPair g8 g5.objs.size x y:=s8.extBut _ _ (Nat.ne_of_gt zlt) (s7.extBut _ _ (Nat.ne_of_gt zlt) (Heap.get?_push_size _ rfl))
 have n8:g8.objs.size=g5.objs.size+1:=by rw[s8.1,s7.1,Heap.size_push]
 rw[sz]at z8 T8 n8
 refine wpAny_pure ⟨_,rfl,wpAny_pure ?_⟩
 show Q (some (.ref g5.objs.size)) _
 rw[sz]
 refine hQ g8 ⟨z8,up _ _ D.a1 (k5 _ _ D.a1 D.a5 D.a6 D.a7 Z.ti),⟨_,_,up _ _ D.a2 o5⟩,?_,?_⟩ T8 n8 fun c o e1 e2 e3 e4 q=>up c o e1 (k5 c o e1 e2 e3 e4 q)
 ·obtain⟨ob,q1,q2⟩:=j15;exact⟨ob,up _ _ D.a3 q1,q2⟩
 ·obtain⟨ob,q1,q2⟩:=j25;exact⟨ob,up _ _ D.a4 q1,q2⟩
theorem zip_end {z TI TO i1 i2 t1 t2:Addr}{k:Nat}{xs ys:Array Value}{Q:Option Value->Shared->Prop} (hh:A.handled=none) (D:ZNe z TI TO i1 i2 t1 t2) (Z:ZAt s.heap z TI TO i1 i2 t1 t2 k .none)
  (ht1:s.heap.IsTuple t1 xs) (ht2:s.heap.IsTuple t2 ys) (hend:xs[k]?=none\/ys[k]?=none)
  (hQ:∀ h',(∀ c o,c≠z->c≠TO->c≠i1->c≠i2->s.heap.get? c=some o->h'.get? c=some o)->Q none { s with heap:=h' }) :
  wpAny (model prog w) A (pyNext (.ref z)) Q E s:=by
 have hT:s.TypeIs (.ref z) "zip":=⟨_,Z.z,rfl⟩
 obtain⟨u0,v0,hTO⟩:=Z.to
 unfold pyNext
 refine wpAny_bind (wpAny_attempt (wpAny_callSpecial?_slot (name:=Str.ofString "__next__") hT F.slot_zip_next (wpAny_call_entry F.slot_zip_next hT F.entry_zip_next ?_ (F.args_zip_next_1 _))))
 show wpAny _ _ (field (.ref z) 2 >>= _) _ _ _
 refine wpAny_bind (wpAny_field Z.z rfl (x:=.bool false) rfl ?_)
 show wpAny _ _ (field (.ref z) 3 >>= _) _ _ _
 refine wpAny_bind (wpAny_field Z.z rfl (x:=.ref TI) rfl ?_)
 refine wpAny_bind (wpAny_seqItems Z.ti rfl ?_)
 show wpAny _ _ (Builtin.SmallTypes.ownedTupleIsFree (.ref z) >>= _) _ _ _
 refine wpAny_bind ?_
 unfold Builtin.SmallTypes.ownedTupleIsFree
 refine wpAny_bind (wpAny_field Z.z rfl (x:=.none) rfl (wpAny_pure ?_))
 simp only[if_true]
 refine wpAny_bind (wpAny_rule (wpAny_bind (wpAny_field Z.z rfl (x:=.ref TO) rfl ?_)))
 refine wpAny_bind (wpAny_setField_rec Z.z (by simp) fun g1 z1 s1=>?_)
 have z1:IsZip g1 z TI TO .ellipsis:=z1
 refine wpAny_bind ?_
 simp only[List.zipIdx_cons,List.zipIdx_nil,List.forIn_cons,List.forIn_nil]
 refine wpAny_bind (wpAny_bind (wpAny_onRaise ?_))
 show wpAny _ _ (Builtin.SmallTypes.nextOf (.ref i1) >>= _) _ _ _
 cases hx:xs[k]? with
 | none=>
  refine wpAny_bind (nextOf_tup_end hh (Z.j1.extBut s1.extBut D.a3) (ht1.extBut s1.extBut D.c1.1) hx fun g2 e s2 he=>?_)
  obtain⟨oe,q1,q2⟩:=he
  have z2:IsZip g2 z TI TO .ellipsis:=s2 _ _ D.a3.symm z1
  have ne:e≠z:=fun x=>by subst x;rw[z2]at q1;cases q1;simp at q2
  exact wpAny_setField_rec z2 (by simp) fun g3 _ s3=>wpAny_bind (wpAny_isInstance (T:="StopIteration") (b:=true) ⟨oe,s3.extBut _ _ ne q1,q2⟩ isSubtype_stop (wpAny_pure (hQ _ fun c o c1 _ c3 _ x=>s3.extBut _ _ c1 (s2 _ _ c3 (s1.extBut _ _ c1 x)))))
 | some x=>
  have hy:ys[k]?=none:=by
   rcases hend with q | q
   ·rw[hx]at q;cases q
   ·exact q
  refine wpAny_bind (nextOf_tup (Z.j1.extBut s1.extBut D.a3) (ht1.extBut s1.extBut D.c1.1) hx fun g2 j12 s2=>wpAny_pure ?_)
  have o2:IsPair g2 TO u0 v0:=s2.extBut _ _ D.a8 (s1.extBut _ _ D.a2 hTO)
  refine wpAny_bind (wpAny_seqItems o2 rfl ?_)
  refine wpAny_bind (wpAny_updateSeq_pair o2 fun g3 o3 s3=>?_)
  refine wpAny_bind (wpAny_letGo (wpAny_pure ?_))
  refine wpAny_bind (wpAny_bind (wpAny_onRaise ?_))
  show wpAny _ _ (Builtin.SmallTypes.nextOf (.ref i2) >>= _) _ _ _
  refine wpAny_bind (nextOf_tup_end hh (((Z.j2.extBut s1.extBut D.a4).extBut s2.extBut D.b1.symm).extBut s3.extBut D.a9.symm) (((ht2.extBut s1.extBut D.c2.1).extBut s2.extBut D.c2.2.2.1).extBut s3.extBut D.c2.2.1) hy fun g4 e s4 he=>?_)
  obtain⟨oe,q1,q2⟩:=he
  have z4:IsZip g4 z TI TO .ellipsis:=s4 _ _ D.a4.symm (s3.extBut _ _ D.a2.symm (s2.extBut _ _ D.a3.symm z1))
  have ne:e≠z:=fun x=>by subst x;rw[z4]at q1;cases q1;simp at q2
  exact wpAny_setField_rec z4 (by simp) fun g5 _ s5=>wpAny_bind (wpAny_isInstance (T:="StopIteration") (b:=true) ⟨oe,s5.extBut _ _ ne q1,q2⟩ isSubtype_stop (wpAny_pure (hQ _ fun c o c1 c2 c3 c4 x=>s5.extBut _ _ c1 (s4 _ _ c4 (s3.extBut _ _ c2 (s2.extBut _ _ c3 (s1.extBut _ _ c1 x)))))))
abbrev zh1 (h:Heap) (a:Addr):Heap:=h.push { cls:=.type "tuple_iterator",data:=.fields #[.ref a,.int 0 0] }
abbrev zh2 (h:Heap) (a b:Addr):Heap:=(zh1 h a).push { cls:=.type "tuple_iterator",data:=.fields #[.ref b,.int 0 0] }
abbrev zh3 (h:Heap) (a b:Addr):Heap:=(zh2 h a b).push { cls:=.type "tuple",data:=.seq #[.ref h.objs.size,.ref (zh1 h a).objs.size] }
abbrev zh4 (h:Heap) (a b:Addr):Heap:=(zh3 h a b).push { cls:=.type "tuple",data:=.seq #[.none,.none] }
abbrev zh5 (h:Heap) (a b:Addr):Heap:=(zh4 h a b).push { cls:=.type "zip",data:=.fields #[.none,.bool false,.bool false,.ref (zh2 h a b).objs.size,.ref (zh3 h a b).objs.size] }
end
theorem meets_zip_tups (a b:Addr) (xs ys:Array Value) :
  Meets (Builtin.«zip.__new__» ⟨[.type "zip",.ref a,.ref b],[]⟩) (fun _ R s=>s.heap.IsTuple a xs/\s.heap.IsTuple b ys/\R (.ok (.ret (.ref (zh4 s.heap a b).objs.size))) { s with heap:=zh5 s.heap a b }):=
 .of_wp fun prog w A R s h=>by
  obtain⟨hp,g,d,tk,os⟩:=s
  obtain⟨q1,q2,h⟩:=h
  have sub:=sub_zip
  have e1:Heap.IsTuple (Shared.heap ⟨hp,g,d,tk,os⟩) a xs:=q1
  have e2:Heap.IsTuple (Shared.heap ⟨hp.push { cls:=.type "tuple_iterator",data:=.fields #[.ref a,.int 0 0] },g,d,tk,os⟩) b ys:=Heap.IsTuple.push q2 _
  wp_walk using wpAny_pyIter_tuple e1,wpAny_pyIter_tuple e2
  exact⟨_,rfl,h⟩
section
variable {prog:Program}{w:World}{A:Around}{E:Value->Shared->Prop}{s:Shared}
theorem call_zip_tups {a b:Addr}{xs ys:Array Value}{Q:Value->Shared->Prop} (h1:s.heap.IsTuple a xs) (h2:s.heap.IsTuple b ys)
  (h:∀ h',ZAt h' (s.heap.objs.size+4) (s.heap.objs.size+2) (s.heap.objs.size+3) s.heap.objs.size (s.heap.objs.size+1) a b 0 .none->h'.objs.size=s.heap.objs.size+5 ->
   (∀ c o,s.heap.get? c=some o->h'.get? c=some o)->Q (.ref (s.heap.objs.size+4)) { s with heap:=h' }):wpAny (model prog w) A (call (.type "zip") [.ref a,.ref b]) Q E s:=by
 refine callType_new F.called_zip (by decide) (F.typeCall_zip_2 _ _) (F.newCall_zip_2 _ _) (fun obj=>F.args_object_init_3 obj _ _) F.entry_zip_new (meets_zip_tups a b xs ys) ⟨h1,h2,?_⟩
 have n1:(zh1 s.heap a).objs.size=s.heap.objs.size+1:=Heap.size_push ..
 have n2:(zh2 s.heap a b).objs.size=s.heap.objs.size+2:=by rw[Heap.size_push,n1]
 have n3:(zh3 s.heap a b).objs.size=s.heap.objs.size+3:=by rw[Heap.size_push,n2]
 have n4:(zh4 s.heap a b).objs.size=s.heap.objs.size+4:=by rw[Heap.size_push,n3]
 have n5:(zh5 s.heap a b).objs.size=s.heap.objs.size+5:=by rw[Heap.size_push,n4]
 have p5:(zh5 s.heap a b).get? (zh4 s.heap a b).objs.size=some _:=Heap.get?_push_size _ rfl
 have p4:(zh5 s.heap a b).get? (zh3 s.heap a b).objs.size=some _:=Heap.get?_push_of_some _ (Heap.get?_push_size _ rfl)
 have p3:(zh5 s.heap a b).get? (zh2 s.heap a b).objs.size=some _:=Heap.get?_push_of_some _ (Heap.get?_push_of_some _ (Heap.get?_push_size _ rfl))
 have p2:(zh5 s.heap a b).get? (zh1 s.heap a).objs.size=some _:=Heap.get?_push_of_some _ (Heap.get?_push_of_some _ (Heap.get?_push_of_some _ (Heap.get?_push_size _ rfl)))
 have p1:(zh5 s.heap a b).get? s.heap.objs.size=some _:=Heap.get?_push_of_some _ (Heap.get?_push_of_some _ (Heap.get?_push_of_some _ (Heap.get?_push_of_some _ (Heap.get?_push_size _ rfl))))
 show _/\_
 rw[n2,n3,n4]at p5
 rw[n1,n2]at p3
 rw[n3]at p4
 rw[n1]at p2
 rw[n4]
 exact⟨⟨_,p5,rfl⟩,h _ ⟨p5,p3,⟨_,_,p4⟩,⟨_,p1,rfl,rfl⟩,⟨_,p2,rfl,rfl⟩⟩ n5 fun c o x=>
  Heap.get?_push_of_some _ (Heap.get?_push_of_some _ (Heap.get?_push_of_some _ (Heap.get?_push_of_some _ (Heap.get?_push_of_some _ x))))⟩
end
def Itz (K:PySem.W.Frag) (a b:Addr):It:=
  ⟨fun i H=>∃ xs ys x y,SqT K H a xs/\SqT K H b ys/\xs[i]?=some x/\ys[i]?=some y,
   fun i H v H'=>∃ p,v=.ref p/\H p=none/\∃ x y,(∀ xs,SqT K H a xs->xs[i]?=some x)/\(∀ ys,SqT K H b ys->ys[i]?=some y)/\H'=upd H p (.tup [x,y]),
   fun i H=>∃ xs ys,SqT K H a xs/\SqT K H b ys/\(xs.length<=i\/ys.length<=i)⟩
theorem turn_zip {P:Program}{w:World}{K:PySem.W.Frag}{elts:List Expr}{kk:Nat}{tp:Pos}{z TI TO i1 i2 a b:Addr} (D:ZNe z TI TO i1 i2 a b) :
  Turn P w K (.Tuple elts kk tp) (Itz K a b) [z,TI,TO,i1,i2] z (fun i h=>ZAt h z TI TO i1 i2 a b i .none) where
 mem:=by simp
 obj:=fun i h st c hc=>by
  obtain⟨q1,q2,⟨u,v,q3⟩,⟨o4,q4,_,d4⟩,⟨o5,q5,_,d5⟩⟩:=st
  simp only[List.mem_cons,List.not_mem_nil,or_false]at hc
  rcases hc with rfl | rfl | rfl | rfl | rfl
  ·exact⟨_,q1,fun v z=>by cases z⟩
  ·exact⟨_,q2,fun v z=>by cases z⟩
  ·exact⟨_,q3,fun v z=>by cases z⟩
  ·exact⟨_,q4,fun v z=>by rw[d4]at z;cases z⟩
  ·exact⟨_,q5,fun v z=>by rw[d5]at z;cases z⟩
 keep:=fun i h h' st k=>by
  obtain⟨q1,q2,⟨u,v,q3⟩,⟨o4,q4,r4⟩,⟨o5,q5,r5⟩⟩:=st
  exact⟨k z (by simp) _ q1,k TI (by simp) _ q2,⟨u,v,k TO (by simp) _ q3⟩,⟨o4,k i1 (by simp) _ q4,r4⟩,⟨o5,k i2 (by simp) _ q5,r5⟩⟩
 item:=by
  intro X hP hw hK hc i pins s σ H E I hf st hg
  subst hP hw hK
  obtain⟨xs,ys,x,y,hxs,hys,hx,hy⟩:=hg
  obtain⟨its,r1,p1,_⟩:=I.tuple hxs
  obtain⟨its2,r2,p2,_⟩:=I.tuple hys
  obtain⟨u,hu,ru⟩:=r1.get hx
  obtain⟨v,hv,rv⟩:=r2.get hy
  refine zip_item D st p1 p2 (x:=u) (y:=v) (by simpa using hu) (by simpa using hv) fun h' Z' T' n' keep=>⟨_,rfl,?_⟩
  refine wpAny_letOwnedTupleGo_zip Z'.z fun h'' z'' sb=>?_
  have hzlt:z<s.heap.objs.size:=Heap.lt_size st.z
  have hT:h''.get? s.heap.objs.size=some { cls:=.type "tuple",data:=.seq #[u,v] }:=sb.extBut _ _ (Nat.ne_of_gt hzlt) T'
  have k2:∀ c o,c ∉ [z,TO,i1,i2]->s.heap.get? c=some o->h''.get? c=some o:=fun c o hc q=>by
   simp only[List.mem_cons,List.not_mem_nil,or_false,not_or]at hc
   exact sb.extBut _ _ hc.1 (keep c o hc.1 hc.2.1 hc.2.2.1 hc.2.2.2 q)
  have fresh:H s.heap.objs.size=none:=I.hok.fresh (Nat.le_refl _)
  have sub:∀ c∈[z,TO,i1,i2],c∈[z,TI,TO,i1,i2]:=fun c hc=>by
   simp only[List.mem_cons,List.not_mem_nil,or_false]at hc ⊢
   rcases hc with h | h | h | h <;> simp [h]
  have none':∀ c∈[z,TO,i1,i2],H c=none:=fun c hc=>(hf c (sub c hc)).1
  have tne:∀ c o,H c=some o->c≠s.heap.objs.size:=fun c o q=>ne_of_none q fresh
  have new:ObjOk X.prog X.w (upd H s.heap.objs.size (.tup [x,y])) h'' s.heap.objs.size (.tup [x,y]):=
   ⟨tupD_at (by show 2<=sizeLine;decide) hT rfl,[u,v],.cons ru (.cons rv .nil),⟨_,hT,rfl,0,rfl⟩⟩
  have ok:HOk X.prog X.w (upd H s.heap.objs.size (.tup [x,y])) h'':=fun c o q=>by
   by_cases hc:c=s.heap.objs.size
   ·subst hc
    rw[upd_same]at q
    cases q
    exact new
   ·rw[upd_ne hc]at q
    refine (I.hok c o q).stay (fun d v hd e=>k2 d v (fun m=>?_) e) (fun d e=>?_) fun d zs e=>?_
    ·rcases hd with rfl | hd
     ·rw[none' _ m]at q;cases q
     ·rw[none' _ m]at hd;cases hd
    ·rw[upd_ne (tne _ _ e)];exact e
    ·rw[upd_ne (tne _ _ e)];exact e
  obtain⟨m,hm,_⟩:=id I.loc
  have hL:∀ c∈[z,TO,i1,i2],c≠X.env.locals:=fun c hc=>(hf c (sub c hc)).2.1
  have I':Inv X pins σ (upd H s.heap.objs.size (.tup [x,y])) { s with heap:=h'' }:=by
   refine I.step (g':=s.gens) (t':=s.toks) (d':=s.drawn) (ch:=[z,TO,i1,i2]) (fun c hc=>⟨(hf c (sub c hc)).2.2.2.1,(hf c (sub c hc)).2.1,(hf c (sub c hc)).2.2.2.2.1,(hf c (sub c hc)).2.2.2.2.2⟩)
    (fun c o _ _ hc q _=>k2 c o hc q) (fun c o _ _ hc q _=>⟨o.slots,k2 c o hc q⟩) (fun c o hc q n=>?_) (fun c o hc q=>⟨o,k2 c o hc q⟩) (fun c zs q=>?_) (fun c o v q=>?_) (fun c ps q=>⟨#[],?_⟩) (fun m' hm'=>?_) ok I.bare
   ·rw[upd_ne (Nat.ne_of_lt (Heap.lt_size q))];exact n
   ·rw[upd_ne (tne _ _ q)];exact q
   ·rw[upd_ne (tne _ _ q)];exact q
   ·rw[upd_ne (tne _ _ q)];simpa using q
   ·obtain⟨o,es,ep,e,rr⟩:=hm'
    exact⟨o,es,ep,k2 _ _ (fun hc=>hL _ hc rfl) e,rr⟩
  refine⟨.ref s.heap.objs.size,_,I',rfl,⟨_,rfl,fresh,x,y,fun zs hz=>by rw[I.tuple_inj hz hxs];exact hx,fun zs hz=>by rw[I.tuple_inj hz hys];exact hy,rfl⟩,?_,fun c hc=>?_⟩
  ·obtain⟨_,q2,⟨e1,e2,q3⟩,⟨o4,q4,r4⟩,⟨o5,q5,r5⟩⟩:=Z'
   exact⟨z'',sb.extBut _ _ D.a1 q2,⟨e1,e2,sb.extBut _ _ D.a2 q3⟩,⟨o4,sb.extBut _ _ D.a3 q4,r4⟩,⟨o5,sb.extBut _ _ D.a4 q5,r5⟩⟩
  ·have hlt:c<s.heap.objs.size:=by
    obtain⟨q1,q2,⟨e1,e2,q3⟩,⟨o4,q4,r4⟩,⟨o5,q5,r5⟩⟩:=st
    simp only[List.mem_cons,List.not_mem_nil,or_false]at hc
    rcases hc with rfl | rfl | rfl | rfl | rfl
    ·exact Heap.lt_size q1
    ·exact Heap.lt_size q2
    ·exact Heap.lt_size q3
    ·exact Heap.lt_size q4
    ·exact Heap.lt_size q5
   rw[upd_ne (Nat.ne_of_lt hlt)]
   exact (hf c hc).1
 done:=by
  intro X hP hw hK hc i pins s σ H E I hf st hg
  subst hP hw hK
  obtain⟨xs,ys,hxs,hys,hl⟩:=hg
  obtain⟨its,r1,p1,_⟩:=I.tuple hxs
  obtain⟨its2,r2,p2,_⟩:=I.tuple hys
  have l1:=r1.length
  have l2:=r2.length
  have sub:∀ c∈[z,TO,i1,i2],c∈[z,TI,TO,i1,i2]:=fun c hc=>by
   simp only[List.mem_cons,List.not_mem_nil,or_false]at hc ⊢
   rcases hc with h | h | h | h <;> simp [h]
  refine zip_end (I.ok.hd hc) D st p1 p2 (hl.elim (fun q=>.inl (by simp;lia)) fun q=>.inr (by simp;lia)) fun h' keep=>⟨rfl,?_⟩
  have k2:∀ c o,c ∉ [z,TO,i1,i2]->s.heap.get? c=some o->h'.get? c=some o:=fun c o hc q=>by
   simp only[List.mem_cons,List.not_mem_nil,or_false,not_or]at hc
   exact keep c o hc.1 hc.2.1 hc.2.2.1 hc.2.2.2 q
  have none':∀ c∈[z,TO,i1,i2],H c=none:=fun c hc=>(hf c (sub c hc)).1
  have ok:HOk X.prog X.w H h':=fun c o q=>(I.hok c o q).stay (fun d v hd e=>k2 d v (fun m=>by
    rcases hd with rfl | hd
    ·rw[none' _ m]at q;cases q
    ·rw[none' _ m]at hd;cases hd) e) (fun _ e=>e) fun _ _ e=>e
  refine I.step (g':=s.gens) (t':=s.toks) (d':=s.drawn) (ch:=[z,TO,i1,i2]) (fun c hc=>⟨(hf c (sub c hc)).2.2.2.1,(hf c (sub c hc)).2.1,(hf c (sub c hc)).2.2.2.2.1,(hf c (sub c hc)).2.2.2.2.2⟩)
    (fun c o _ _ hc q _=>k2 c o hc q) (fun c o _ _ hc q _=>⟨o.slots,k2 c o hc q⟩) (fun c o hc q n=>n) (fun c o hc q=>⟨o,k2 c o hc q⟩) (fun c zs q=>q) (fun c o v q=>q) (fun c ps q=>⟨#[],by simpa using q⟩) (fun m' hm'=>?_) ok I.bare
  obtain⟨o,es,ep,e,rr⟩:=hm'
  exact⟨o,es,ep,k2 _ _ (fun hc=>(hf _ (sub _ hc)).2.1 rfl) e,rr⟩
 self:=fun _ _ _ _ _ st h=>wpAny_pyIter_zip st.z h
section
variable {X:Cx}
def iZip (K:PySem.W.Frag) (ta:TA):TI:=fun σ H R=>ta σ H fun vs H1=>∃ a b xs ys,vs=[.ref a,.ref b]/\SqT K H1 a xs/\SqT K H1 b ys/\R (Itz K a b) H1
theorem pi_zip {a b:Expr}{ta:TA}{elts:List Expr}{kk:Nat}{tp p pos:Pos} (hg:Gl X "zip") (hm:X.mg "zip"=none) (ha:PA X [a,b] ta) (hs:starEach [a,b] X.env=[(false,eval a X.env),(false,eval b X.env)]:=by rfl) (hs2:starEach [b] X.env=[(false,eval b X.env)]:=by rfl) :
  PI X (.Tuple elts kk tp) (.Call (.Name "zip" p) [a,b] [] pos) (iZip X.K ta):=by
 intro pins s σ H R I h
 refine Call_ (ld_blt I hg hm boot_zip (PyProof.Rows.callWith_type1 (thn (ha pos pins s σ H _ I h) fun us s1 ⟨vs,H1,I1,r1,q1⟩=>?_) (by rw[hs,hs2]) (by rw[hs2];rfl)))
 obtain⟨x,y,xs,ys,e,hx,hy,q⟩:=q1
 subst e
 cases r1 with
 | cons r rr=>
  cases rr with
  | cons r' rr=>
   cases rr
   cases r
   cases r'
   obtain⟨its,v1,p1,_⟩:=I1.tuple hx
   obtain⟨its2,v2,p2,_⟩:=I1.tuple hy
   have l1:x<s1.heap.objs.size:=by obtain⟨_,e,_⟩:=p1;exact Heap.lt_size e
   have l2:y<s1.heap.objs.size:=by obtain⟨_,e,_⟩:=p2;exact Heap.lt_size e
   have f:∀ c:Addr,c<s1.heap.objs.size->∀ k:Nat,c≠s1.heap.objs.size+k:=fun c hc k=>Nat.ne_of_lt (Nat.lt_of_lt_of_le hc (Nat.le_add_right _ _))
   refine call_zip_tups p1 p2 fun h' Z n5 keep=>wpAny_pyIter_zip Z.z ?_
   have I2:Inv X pins σ H1 { s1 with heap:=h' }:=I1.kept (t':=s1.toks) keep
   refine⟨_,[s1.heap.objs.size+4,s1.heap.objs.size+2,s1.heap.objs.size+3,s1.heap.objs.size,s1.heap.objs.size+1],_,_,H1,rfl,I2,turn_zip ⟨?_,?_,?_,?_,?_,?_,?_,?_,?_,?_,⟨f _ l1 4,f _ l1 3,Nat.ne_of_lt l1,f _ l1 1⟩,⟨f _ l2 4,f _ l2 3,Nat.ne_of_lt l2,f _ l2 1⟩⟩,Z,fun c hc=>?_,q⟩
   any_goals (show (_:Nat)≠_;lia)
   have hc':s1.heap.objs.size<=c:=by
    simp only[List.mem_cons,List.not_mem_nil,or_false]at hc
    rcases hc with rfl | rfl | rfl | rfl | rfl
    ·exact Nat.le_add_right _ _
    ·exact Nat.le_add_right _ _
    ·exact Nat.le_add_right _ _
    ·exact Nat.le_refl _
    ·exact Nat.le_add_right _ _
   exact I1.fpOk hc' (I1.hok.fresh hc')
end
end L2
end
section
namespace L2
open PySem PySem.Spec PyProof.Rows
section
variable {prog:Program}{w:World}{A:Around}{E:Value->Shared->Prop}{s:Shared}
theorem getItem_tuple_all {t sl:Addr}{items:Array Value}{vl vu:Value}{lo hi:Option Int}{Q:Value->Shared->Prop} (ht:IsTup s.heap t items) (hs:s.heap.IsSliceOf sl vl vu .none) (pl:IsPart vl lo) (pu:IsPart vu hi)
  (hw:HT.sIx items.size 0 lo=0/\HT.sIx items.size items.size hi=items.size) (h:Q (.ref t) s):wpAny (model prog w) A (getItem (.ref t) (.ref sl)) Q E s:=by
 obtain⟨os,hos,hcs,hds⟩:=id hs
 have hTs:s.TypeIs (.ref sl) "slice":=⟨os,hos,hcs⟩
 unfold getItem
 try with_reducible refine wpAny_holding ?_
 first | refine wpAny_bind (wpAny_pure ?_) | skip
 refine wpAny_bind (wpAny_sequenceKey ht.typeIs (by decide) ?_)
 refine wpAny_bind (wpAny_callSpecial?_slot (name:=Str.ofString "__getitem__") ht.typeIs PyProof.Rows.slot_tuple_getitem
  (wpAny_call_entry PyProof.Rows.slot_tuple_getitem ht.typeIs entry_tuple_getitem ?_ (args_tuple_getitem _ _)))
 show wpAny _ _ (Builtin.Tuple.tupleItemsOf (.ref t) >>= _) _ _ s
 refine wpAny_bind (tupleItemsOf_ ht ?_)
 refine wpAny_bind (wpAny_typeOf hTs ?_)
 rw[if_pos (by decide)]
 refine wpAny_bind (HT.sliceApplied_gen hs pl pu ?_)
 have yes:(((HT.sIx items.size 0 lo:Nat):Int) == 0 && (1:Int) == 1 && (HT.sIx items.size items.size hi-HT.sIx items.size 0 lo) == items.size)=true:=by
  rw[hw.1,hw.2];simp
 show wpAny _ _ (if (((HT.sIx items.size 0 lo:Nat):Int) == 0 && (1:Int) == 1 && (HT.sIx items.size items.size hi-HT.sIx items.size 0 lo) == items.size)=true then _ else _) _ _ s
 rw[if_pos yes]
 obtain⟨o,ho,hc,n,hd⟩:=id ht
 have ex:wpAny (model prog w) A.in1 (Builtin.Tuple.tupleIsExact (.ref t)) (fun b s'=>b=true/\s'=s) E s:=by
  unfold Builtin.Tuple.tupleIsExact
  first
   | exact wpAny_bind (wpAny_typeOf ⟨o,ho,hc⟩ (wpAny_pure ⟨by rfl,rfl⟩))
   | exact wpAny_bind (wpAny_load ho (wpAny_pure ⟨by rw[hc];rfl,rfl⟩))
 refine wpAny_bind (thn ex fun b s' hb=>?_)
 obtain⟨rfl,rfl⟩:=hb
 rw[if_pos rfl]
 exact wpAny_bind (wpAny_rule (wpAny_pure ⟨_,rfl,wpAny_pure h⟩))
end
section
variable {X:Cx}
def rSlW (K:PySem.W.Frag):V->Option Int->Option Int->Hp->VK->Prop:=fun x lo hi H Q=>∃ a xs,x=.ref a/\SqT K H a xs/\HT.sIx xs.length 0 lo=0/\HT.sIx xs.length xs.length hi=xs.length/\Q (.ref a) H
theorem sl_tupW:SlR X (rSlW X.K):=by
 intro pins s σ H x v vl vu lo hi sl Q I rx hs pl pu h
 obtain⟨a,xs,rfl,hx,h1,h2,q⟩:=h
 cases rx
 obtain⟨its,r,ht,hz⟩:=I.tuple hx
 have hlen:its.toArray.size=xs.length:=by rw[List.size_toArray];exact r.length.symm
 refine⟨"tuple",_,PyProof.Rows.slot_tuple_getitem.lookup,ht.typeIs,?_⟩
 exact getItem_tuple_all ht hs pl pu (by rw[hlen];exact⟨h1,h2⟩) ⟨.ref a,H,I,rfl,q⟩
def rSlS:V->Option Int->Option Int->Hp->VK->Prop:=fun x lo hi H Q=>∃ z,x=.str z/\z.length<=sizeLine/\Q (.str (Txt.slice z lo hi)) H
theorem sl_str:SlR X rSlS:=by
 intro pins s σ H x v vl vu lo hi sl Q I rx hs pl pu h
 obtain⟨z,rfl,hz,q⟩:=h
 obtain⟨t,rfl⟩:=rx
 obtain⟨os,hos,hcs,hds⟩:=id hs
 refine⟨"str",_,F.slot_str_getitem.lookup,typeIs_str _ _ _,?_⟩
 have fin:∀ (t':Tok) (k:Nat),EP X pins σ Q (.str (Txt.slice z lo hi) t') { s with toks:=k }:=fun t' k=>⟨.str _,H,I.tok _,⟨_,rfl⟩,q⟩
 cases pl with
 | none=>
  cases pu with
  | none=>exact wpAny_getItem_str_slice (l:=none) (u:=none) (st:=none) ⟨os,hos,hcs,hds⟩ rfl (post_val_or_str ⟨Nat.le_trans (Txt.slice_le z _ _) hz,fin⟩)
  | int j uj=>exact wpAny_getItem_str_slice (l:=none) (u:=some (j,uj)) (st:=none) ⟨os,hos,hcs,hds⟩ rfl (post_val_or_str ⟨Nat.le_trans (Txt.slice_le z _ _) hz,fin⟩)
 | int i ui=>
  cases pu with
  | none=>exact wpAny_getItem_str_slice (l:=some (i,ui)) (u:=none) (st:=none) ⟨os,hos,hcs,hds⟩ rfl (post_val_or_str ⟨Nat.le_trans (Txt.slice_le z _ _) hz,fin⟩)
  | int j uj=>exact wpAny_getItem_str_slice (l:=some (i,ui)) (u:=some (j,uj)) (st:=none) ⟨os,hos,hcs,hds⟩ rfl (post_val_or_str ⟨Nat.le_trans (Txt.slice_le z _ _) hz,fin⟩)
theorem sl_U:SlR X (fun x lo hi H Q=>rSlL X.K x lo hi H Q\/(rSlT X.K x lo hi H Q\/(rSlW X.K x lo hi H Q\/rSlS x lo hi H Q))):=sl_list.or (sl_tup.or (sl_tupW.or sl_str))
end
structure Df (K:PySem.W.Frag) (mg:Str->Option Value) (x:Str) (st:Stmt) (f:Addr) (fd:FuncData) (ps:List Str):Prop where
 fn:Fun K x x st f fd
 b:Binds K fd ps []
 mg:mg x=some (.ref f)
theorem Df.kp {K:PySem.W.Frag}{mg:Str->Option Value}{x:Str}{st:Stmt}{f:Addr}{fd:FuncData}{ps:List Str} (D:Df K mg x st f fd ps):PySem.W.keepIn K (.ref f)=true:=D.fn.kp
end L2
namespace L2
open PySem
theorem bt_len:bootBuiltins "len"=some (.builtin "len"):=by decide +kernel
theorem bt_isinstance:bootBuiltins "isinstance"=some (.builtin "isinstance"):=by decide +kernel
theorem bt_sorted:bootBuiltins "sorted"=some (.builtin "sorted"):=by decide +kernel
theorem bt_int:bootBuiltins "int"=some (.type "int"):=by decide +kernel
theorem bt_tuple:bootBuiltins "tuple"=some (.type "tuple"):=by decide +kernel
theorem bt_bool:bootBuiltins "bool"=some (.type "bool"):=by decide +kernel
theorem bt_str:bootBuiltins "str"=some (.type "str"):=by decide +kernel
theorem bt_list:bootBuiltins "list"=some (.type "list"):=by decide +kernel
end L2
end
section
namespace L2
open PySem
def lcChk (sc:Scope) (N:List Str) (scope:Scope) (fr:List (Str×Nat)):Bool:=
 (scope.kind == .function) && scope.names.all (fun y=>decide (y.2≠.cell)) && scope.names.all (fun y=>decide (y.2=.local->scope.names.lookup y.1=some .local)) &&
  scope.names.all (fun y=>decide (y.2=.free->sc.names.lookup y.1=some .cell)) && fr.all (fun p=>decide (N[p.2]?=some p.1) && decide (scope.names.lookup p.1=some .free))
theorem LcOk.of {X:Cx}{sc:Scope}{N:List Str}{scope:Scope}{Nt:List Str}{fr:List (Str×Nat)} (h1:X.env.scope=sc) (h2:X.N=N) (h:lcChk sc N scope fr=true):LcOk X scope Nt fr:=by
 unfold lcChk at h
 simp only[Bool.and_eq_true,List.all_eq_true,decide_eq_true_eq]at h
 obtain⟨⟨⟨⟨a1,a2⟩,a3⟩,a4⟩,a5⟩:=h
 refine⟨eq_of_beq a1,a2,a3,fun y hy hf=>?_,fun p hp=>?_⟩
 ·show X.env.scope.names.lookup y.1=some .cell
  rw[h1];exact a4 y hy hf
 ·rw[h2];exact a5 p hp
end L2
end
section
namespace L2
open PySem PySem.Spec PyProof.Rows
def notStar:Expr->Bool
 | .Starred _ _=>false
 | _=>true
def noStars:List Expr->Bool
 | []=>true
 | e::es=>notStar e && noStars es
theorem star_cons {env:Env}{e:Expr}{es:List Expr} (h:notStar e=true):starEach (e::es) env=(false,eval e env)::starEach es env:=by
 cases e <;> first | rfl | exact absurd h Bool.false_ne_true
theorem stars_any {env:Env}{pos:Pos}:∀ {es:List Expr},noStars es=true->(backTo pos (starEach es env)).any (·.1)=false
 | [],_=>rfl
 | e::es,h=>by
  have h':(notStar e && noStars es)=true:=h
  rw[Bool.and_eq_true]at h'
  rw[star_cons h'.1]
  show (false || (backTo pos (starEach es env)).any (·.1))=false
  rw[stars_any h'.2];rfl
section
variable {X:Cx}
theorem qa_cons {e:Expr}{es:List Expr}{te:TE}{t:TA} (ha:PE X e te) (hr:PA X es t) (hs:notStar e=true:=by rfl):PA X (e::es) (tCons te t):=pa_cons ha hr (star_cons hs)
def constV:Expr->Option V
 | .Constant (.int i) _ _=>some (.int i)
 | .Constant (.str x) _ _=>some (.str x)
 | .Constant (.bool b) _ _=>some (.bl b)
 | _=>none
def constVs:List Expr->Option (List V)
 | []=>some []
 | e::es=>match constV e,constVs es with
  | some v,some vs=>some (v::vs)
  | _,_=>none
theorem pe_const {e:Expr}{v:V} (h:constV e=some v):PE X e (tC v):=by
 unfold constV at h
 split at h
 ·cases h;exact pe_int
 ·cases h;exact pe_str
 ·cases h;exact pe_bl
 ·cases h
theorem constV_ns {e:Expr}{v:V} (h:constV e=some v):notStar e=true:=by
 cases e <;> first | rfl | (unfold constV at h;cases h)
def tVs (vs:List V):TA:=fun _ H Q=>Q vs H
theorem pa_consts:∀ {es:List Expr}{vs:List V},constVs es=some vs->PA X es (tVs vs)
 | [],vs,h=>by cases h;exact pa_nil
 | e::es,vs,h=>by
  unfold constVs at h
  cases h1:constV e with
  | none=>rw[h1]at h;cases h
  | some v=>
   cases h2:constVs es with
   | none=>rw[h1,h2]at h;cases h
   | some us=>
    rw[h1,h2]at h
    cases h
    exact pa_cons (pe_const h1) (pa_consts h2) (star_cons (constV_ns h1))
theorem qe_call {CX:CXT}{k:Nat}{f:Addr}{fd:FuncData}{ps:List Str}{sp:Sp}{dvs:List V}{ds:List Value}{E:XK}{x:Str}{p pos:Pos}{e:Expr}{es:List Expr}{t:TA}
  (F:FnOk X.prog X.w X.K X.mg X.base CX k f fd ps sp) (hr:Room k X.A) (hg:Gl X x) (hm:X.mg x=some (.ref f)) (hk:PySem.W.keepIn X.K (.ref f)=true) (hb:Binds X.K fd ps ds) (hd:Vals dvs ds) (hx:Passes CX X E)
  (ha:PA X (e::es) t) (hs:noStars (e::es)=true:=by rfl) (hdb:(x == ("__debug__" : Str))=false:=by decide):PE X (.Call (.Name x p) (e::es) [] pos) (tCall sp dvs E t):=by
 have h':(notStar e && noStars es)=true:=hs
 rw[Bool.and_eq_true]at h'
 exact pe_call F hr hg hm hk hb hd hx ha hdb (star_cons h'.1) (stars_any h'.2)
theorem qe_callB {x:Str}{p pos:Pos}{e:Expr}{es:List Expr}{t:TA}{id:String}{r:List V->Hp->VK->Prop} (hc:CallR X (.builtin id) r) (hg:Gl X x) (hm:X.mg x=none) (hv:bootBuiltins x=some (.builtin id)) (ha:PA X (e::es) t)
  (hs:noStars (e::es)=true:=by rfl) (hn:x≠"__name__":=by decide) (hdb:(x == ("__debug__" : Str))=false:=by decide):PE X (.Call (.Name x p) (e::es) [] pos) (tCB r t):=by
 have h':(notStar e && noStars es)=true:=hs
 rw[Bool.and_eq_true]at h'
 exact pe_callB hc hg hm hv ha hn hdb (star_cons h'.1) (stars_any h'.2)
theorem qe_callTy {x:Str}{p pos:Pos}{e:Expr}{es:List Expr}{t:TA}{T:String}{r:List V->Hp->VK->Prop} (hc:CallR X (.type T) r) (hg:Gl X x) (hm:X.mg x=none) (hv:bootBuiltins x=some (.type T)) (ha:PA X (e::es) t)
  (hs:noStars (e::es)=true:=by rfl) (hn:x≠"__name__":=by decide) (hdb:(x == ("__debug__" : Str))=false:=by decide):PE X (.Call (.Name x p) (e::es) [] pos) (tCB r t):=by
 have h':(notStar e && noStars es)=true:=hs
 rw[Bool.and_eq_true]at h'
 exact pe_callTy hc hg hm hv ha hn hdb (star_cons h'.1) (stars_any h'.2)
theorem qi_range1 {tg a:Expr}{ta:TA}{p pos:Pos} (hg:Gl X "range") (hm:X.mg "range"=none) (ha:PA X [a] ta) (hs:notStar a=true:=by rfl):PI X tg (.Call (.Name "range" p) [a] [] pos) (iRng1 ta):=
 pi_range1 hg hm ha (by rw[star_cons hs];rfl)
theorem qi_zip {a b:Expr}{ta:TA}{elts:List Expr}{kk:Nat}{tp p pos:Pos} (hg:Gl X "zip") (hm:X.mg "zip"=none) (ha:PA X [a,b] ta) (hs:notStar a=true:=by rfl) (hs2:notStar b=true:=by rfl) :
  PI X (.Tuple elts kk tp) (.Call (.Name "zip" p) [a,b] [] pos) (iZip X.K ta):=
 pi_zip hg hm ha (by rw[star_cons hs,star_cons hs2];rfl) (by rw[star_cons hs2];rfl)
end
end L2
end
section
namespace L2
open PySem PySem.Spec PyProof.Rows
theorem relv_ref (a:Addr):RelV (.ref a) (.ref a):=rfl
theorem relv_int (i:Int) (t:Tok):RelV (.int i) (.int i t):=⟨t,rfl⟩
theorem relv_ty (n:String):RelV (.ty n) (.type n):=rfl
structure Hd (p:Prop):Prop where
 out:p
section
variable {X:Cx}{pos:Pos}{a b c e o:Expr}{es:List Expr}{ta tb tc te to:TE}{t u:TS}{tt tu:TT}{tA:TA}{st:Stmt}{rest:List Stmt}
theorem wv (i:Nat) {x:Str} (hN:X.N[i]?=some x:=by rfl) (hv:Vis X.env.scope x:=by first | exact Or.inl rfl | exact Or.inr (Or.inl rfl) | exact Or.inr (Or.inr rfl)) (hd:(x == ("__debug__" : Str))=false:=by decide)
  (hcd:(x == ("__classdict__" : Str))=false:=by decide):Hd (PE X (.Name x pos) (tVar i)):=⟨pe_var hN hv hd hcd⟩
theorem we_int {i j pos}:Hd (PE X (.Constant (.int i) j pos) (tC (.int i))):=⟨pe_int⟩
theorem we_str {x j pos}:Hd (PE X (.Constant (.str x) j pos) (tC (.str x))):=⟨pe_str⟩
theorem we_bl {x j pos}:Hd (PE X (.Constant (.bool x) j pos) (tC (.bl x))):=⟨pe_bl⟩
theorem we_non {j pos}:Hd (PE X (.Constant .none j pos) (tC .non)):=⟨pe_non⟩
theorem we_glob {x:Str}{v:V}{y:Value} (hg:Gl X x) (hm:X.mg x=some y) (r:RelV v y) (hd:(x == ("__debug__" : Str))=false:=by decide):Hd (PE X (.Name x pos) (tC v)):=⟨pe_glob hg hm r hd⟩
theorem we_bltn {x:Str}{v:V}{y:Value} (hg:Gl X x) (hm:X.mg x=none) (hv:bootBuiltins x=some y) (r:RelV v y) (hn:x≠"__name__":=by decide) (hd:(x == ("__debug__" : Str))=false:=by decide):Hd (PE X (.Name x pos) (tC v)):=⟨pe_bltn hg hm hv r hn hd⟩
theorem we_op {op:Operator}{r:R2} (ho:OpR X (binaryOp op) r) (ha:Hd (PE X a ta)) (hb:Hd (PE X b tb)):Hd (PE X (.BinOp a op b pos) (tOp r ta tb)):=⟨pe_op ho ha.out hb.out⟩
theorem we_un {op:UnaryOp}{r:V->Hp->VK->Prop} (ho:UnR X (unaryOp op) r) (ha:Hd (PE X a ta)):Hd (PE X (.UnaryOp op a pos) (tUn r ta)):=⟨pe_un ho ha.out⟩
theorem we_cmpR {op:CmpOp}{r:R2} (ho:OpR X (compareOp op) r) (ha:Hd (PE X a ta)) (hb:Hd (PE X b tb)) (hm:behindInMarks op b=false):Hd (PE X (.Compare a [op] [b] pos) (tOp r ta tb)):=⟨pe_cmpR ho ha.out hb.out hm⟩
theorem we_one {op} (h:Hd (PE X a ta)):Hd (PE X (.BoolOp op [a] pos) ta):=⟨pe_one h.out⟩
theorem we_and {more:List Expr} (ha:Hd (PE X a ta)) (hb:Hd (PE X (.BoolOp .And (b::more) pos) tb)):Hd (PE X (.BoolOp .And (a::b::more) pos) (tAndV ta tb)):=⟨pe_and ha.out hb.out⟩
theorem we_ifExp (hc:Hd (PT X c tt)) (ha:Hd (PE X a ta)) (hb:Hd (PE X b tb)):Hd (PE X (.IfExp c a b pos) (tIf tt ta tb)):=⟨pe_ifExp hc.out ha.out hb.out⟩
theorem we_lst (h:Hd (PA X es tA)):Hd (PE X (.List es pos) (tLst tA)):=⟨pe_lst h.out⟩
theorem we_tup {x1} (h:Hd (PA X es tA)):Hd (PE X (.Tuple es x1 pos) (tTup tA)):=⟨pe_tup h.out⟩
theorem wps_nil:Hd (PPs X pos [] [] []):=⟨pps_nil⟩
theorem wps_cons {k v:Expr}{ks:List (Option Expr)}{vs:List Expr}{tk tv:TE}{trs:List (TE×TE)} (hk:Hd (PE X k tk)) (hv:Hd (PE X v tv)) (hr:Hd (PPs X pos ks vs trs)):Hd (PPs X pos (some k::ks) (v::vs) ((tk,tv)::trs)):=⟨pps_cons hk.out hv.out hr.out⟩
theorem we_disp {keys:List (Option Expr)}{values:List Expr}{trs:List (TE×TE)} (h:Hd (PPs X pos keys values trs)) (hall:keys.all (·.isSome)=true) (hl:keys.length=values.length) (h0:keys≠[]) (h15:keys.length<=15) :
  Hd (PE X (.Dict keys values pos) (tDisp trs)):=⟨pe_disp h.out hall hl h0 h15⟩
theorem wo_none:Hd (PO X none tNoPart):=⟨po_none⟩
theorem wo_some (h:Hd (PE X e te)):Hd (PO X (some e) (tPart te)):=⟨po_some h.out⟩
theorem we_slice {r:V->Option Int->Option Int->Hp->VK->Prop}{lo hi:Option Expr}{tl th:TO}{p2:Pos} (hr:SlR X r) (he:Hd (PE X e te)) (hl:Hd (PO X lo tl)) (hu:Hd (PO X hi th)):Hd (PE X (.Subscript e (.Slice lo hi none p2) pos) (tSl r te tl th)):=⟨pe_slice hr he.out hl.out hu.out⟩
theorem we_ix {r:R2} (hr:IxR X r) (ha:Hd (PE X a ta)) (hb:Hd (PE X b tb)) (hs:PlainIx b):Hd (PE X (.Subscript a b pos) (tOp r ta tb)):=⟨pe_ix hr ha.out hb.out hs⟩
theorem wa_nil:Hd (PA X [] tNil):=⟨pa_nil⟩
theorem wa_cons (ha:Hd (PE X e te)) (hr:Hd (PA X es tA)) (hs:notStar e=true:=by rfl):Hd (PA X (e::es) (tCons te tA)):=⟨qa_cons ha.out hr.out hs⟩
theorem wa_consts {vs:List V} (h:constVs es=some vs):Hd (PA X es (tVs vs)):=⟨pa_consts h⟩
theorem we_call {CX:CXT}{k:Nat}{f:Addr}{fd:FuncData}{ps:List Str}{sp:Sp}{dvs:List V}{ds:List Value}{E:XK}{x:Str}{p:Pos}
  (F:FnOk X.prog X.w X.K X.mg X.base CX k f fd ps sp) (hr:Room k X.A) (hg:Gl X x) (hm:X.mg x=some (.ref f)) (hk:PySem.W.keepIn X.K (.ref f)=true) (hb:Binds X.K fd ps ds) (hd:Vals dvs ds) (hx:Passes CX X E)
  (ha:Hd (PA X (e::es) tA)) (hs:noStars (e::es)=true:=by rfl) (hdb:(x == ("__debug__" : Str))=false:=by decide):Hd (PE X (.Call (.Name x p) (e::es) [] pos) (tCall sp dvs E tA)):=⟨qe_call F hr hg hm hk hb hd hx ha.out hs hdb⟩
theorem we_callB {x:Str}{p:Pos}{id:String}{r:List V->Hp->VK->Prop} (hc:CallR X (.builtin id) r) (hg:Gl X x) (hm:X.mg x=none) (hv:bootBuiltins x=some (.builtin id)) (ha:Hd (PA X (e::es) tA))
  (hs:noStars (e::es)=true:=by rfl) (hn:x≠"__name__":=by decide) (hdb:(x == ("__debug__" : Str))=false:=by decide):Hd (PE X (.Call (.Name x p) (e::es) [] pos) (tCB r tA)):=⟨qe_callB hc hg hm hv ha.out hs hn hdb⟩
theorem we_callTy {x:Str}{p:Pos}{T:String}{r:List V->Hp->VK->Prop} (hc:CallR X (.type T) r) (hg:Gl X x) (hm:X.mg x=none) (hv:bootBuiltins x=some (.type T)) (ha:Hd (PA X (e::es) tA))
  (hs:noStars (e::es)=true:=by rfl) (hn:x≠"__name__":=by decide) (hdb:(x == ("__debug__" : Str))=false:=by decide):Hd (PE X (.Call (.Name x p) (e::es) [] pos) (tCB r tA)):=⟨qe_callTy hc hg hm hv ha.out hs hn hdb⟩
theorem few_of {env:Env}{cpos:Pos}{es:List Expr} (h:noStars es=true) (hl:es.length<29) :
  ((backTo cpos (starEach es env)).all (fun x=>!x.1) && (backToKw cpos (keywordEach [] env)).all (fun x=>x.1.isSome)
   && decide (es.length+([]:List Keyword).length+(if ([]:List Keyword).isEmpty then 0 else 1)<30))=true:=by
 have h1:(backTo cpos (starEach es env)).all (fun x=>!x.1)=true:=by
  have:=stars_any (env:=env) (pos:=cpos) h
  rw[List.all_eq_not_any_not]
  simpa using this
 have h2:(backToKw cpos (keywordEach [] env)).all (fun x=>x.1.isSome)=true:=rfl
 rw[h1,h2]
 simp
 lia
theorem we_bm {name:Str}{apos cpos:Pos}{T id:String}{r:V->List V->Hp->VK->Prop} (pa:PlainAttrs T) (slot:Slot T name id) (hty:typeOf (.builtin id)=pure (.type "method_descriptor")) (hm:MtR X id r) (ho:Hd (PE X o to)) (ha:Hd (PA X (e::es) tA))
  (hbase:attributeBase o name X.env (eval o X.env)=eval o X.env:=by rfl) (hs:noStars (e::es)=true:=by rfl) (hl:(e::es).length<29:=by decide) (hline:(apos.endLine == cpos.line)=true:=by rfl) :
  Hd (PE X (.Call (.Attribute o name apos) (e::es) [] cpos) (tBM X.K T r to tA)):=by
 have h':(notStar e && noStars es)=true:=hs
 rw[Bool.and_eq_true]at h'
 exact⟨pe_bm pa slot hty hm ho.out ha.out hbase (few_of hs hl) hline (star_cons h'.1) (stars_any h'.2)⟩
theorem wt_cmpR {op:CmpOp}{r:R2} (ho:OpR X (compareOp op) r) (ha:Hd (PE X a ta)) (hb:Hd (PE X b tb)) (hm:behindInMarks op b=false):Hd (PT X (.Compare a [op] [b] pos) (tTest (tOp r ta tb))):=⟨pt_cmpR ho ha.out hb.out hm⟩
theorem ww_and1 (ha:Hd (PT X a tt)):Hd (PW X (.BoolOp .And [a] pos) tt):=⟨pw_and1 ha.out⟩
theorem ww_or1 (ha:Hd (PT X a tt)):Hd (PW X (.BoolOp .Or [a] pos) tt):=⟨pw_or1 ha.out⟩
theorem ww_and {more:List Expr} (ha:Hd (PT X a tt)) (hb:Hd (PW X (.BoolOp .And (b::more) pos) tu)):Hd (PW X (.BoolOp .And (a::b::more) pos) (tAnd tt tu)):=⟨pw_and ha.out hb.out⟩
theorem ww_or {more:List Expr} (ha:Hd (PT X a tt)) (hb:Hd (PW X (.BoolOp .Or (b::more) pos) tu)):Hd (PW X (.BoolOp .Or (a::b::more) pos) (tOr tt tu)):=⟨pw_or ha.out hb.out⟩
theorem wt_pw (h:Hd (PW X e tt)):Hd (PT X e tt):=⟨h.out.pt⟩
theorem wt_not (ha:Hd (PT X a tt)):Hd (PT X (.UnaryOp .Not a pos) (tNot tt)):=⟨pt_not ha.out⟩
theorem wt_val (h:Hd (PE X e te)) (he:∀ whole,isTrue e X.env whole=(do let v <- whole;standAt e.pos;holding [v] (truthy v)):=by intro _;rfl):Hd (PT X e (tB te)):=⟨pt_val h.out he⟩
theorem wt_truth (ha:Hd (PE X a ta)) (he:∀ whole,isTrue a X.env whole=(do let v <- whole;standAt a.pos;holding [v] (truthy v))):Hd (PT X a (fun σ H Q=>ta σ H fun x H'=>∃ k,TruV X.K x H' k/\Q k H')):=⟨pt_truth ha.out he⟩
variable {tg iter:Expr}{wi:TI}{g:TG}
theorem wi_range1 {p:Pos} (hg:Gl X "range") (hm:X.mg "range"=none) (ha:Hd (PA X [a] tA)) (hs:notStar a=true:=by rfl):Hd (PI X tg (.Call (.Name "range" p) [a] [] pos) (iRng1 tA)):=⟨qi_range1 hg hm ha.out hs⟩
theorem wi_zip {elts:List Expr}{kk:Nat}{tp p:Pos} (hg:Gl X "zip") (hm:X.mg "zip"=none) (ha:Hd (PA X [a,b] tA)) (hs:notStar a=true:=by rfl) (hs2:notStar b=true:=by rfl):Hd (PI X (.Tuple elts kk tp) (.Call (.Name "zip" p) [a,b] [] pos) (iZip X.K tA)):=⟨qi_zip hg hm ha.out hs hs2⟩
theorem wi_U (hl:Hd (PE X e te)):Hd (PI X tg e (fun σ H R=>iList X.K te σ H R\/iTup X.K te σ H R)):=⟨pi_U hl.out⟩
theorem wg_name {i:Nat}{x:Str} (hN:X.N.Nodup) (hi:X.N[i]?=some x) (hx:Loc X.env.scope x) (hf:X.fn x=true\/X.env.scope.names.lookup x=some .local:=by first | exact .inl rfl | exact .inr rfl | assumption):Hd (PG X (.Name x pos) (gName i)):=⟨pg_name hN hi hx hf⟩
theorem wgs_nil:Hd (PGs X [] gNil):=⟨pgs_nil⟩
theorem wgs_cons {gs:TGs} (h1:Hd (PG X e g)) (h2:Hd (PGs X es gs)) (hs:(assignEach (e::es) X.env).map (·.2)=assign e X.env::(assignEach es X.env).map (·.2):=by rfl):Hd (PGs X (e::es) (gCons g gs)):=⟨pgs_cons h1.out h2.out hs⟩
theorem wg_tup {k n:Nat}{gs:TGs} (hc:X.calm=true) (h:Hd (PGs X es gs)) (hn:(assignEach es X.env).length=n:=by rfl) (hst:(assignEach es X.env).findIdx? (·.1)=none:=by rfl):Hd (PG X (.Tuple es k pos) (gTup X.K n gs)):=⟨pg_tup hc h.out hn hst⟩
theorem wg_sub {i:Expr}{ti:TE}{ts:TSet} (ho:Hd (PE X o to)) (hi:Hd (PE X i ti)) (hs:PSet X ts)
  (ha:∀ v,assign (.Subscript o i pos) X.env v=(do
   let ov <- holding [v] (eval o X.env)
   let iv <- holding [v,ov] (eval i X.env)
   standAt pos
   holding [v,ov,iv] (setItem ov iv v)
   release [v,ov,iv] []):=by intro _;rfl):Hd (PG X (.Subscript o i pos) (gSub to ti ts)):=⟨pg_sub ho.out hi.out hs ha⟩
theorem wss_nil:Hd (PSs X [] tNext):=⟨pss_nil⟩
theorem wss_one (h1:Hd (PS X st t)):Hd (PSs X [st] t):=⟨pss_one h1.out⟩
theorem wss_cons (h1:Hd (PS X st t)) (h2:Hd (PSs X rest u)):Hd (PSs X (st::rest) (tSeq t u)):=⟨pss_cons h1.out h2.out⟩
theorem ws_ret (he:Hd (PE X e te)):Hd (PS X (.Return (some e) pos) (tRet te)):=⟨ps_ret he.out⟩
theorem ws_if {sa sb:List Stmt} (hc:Hd (PT X c tt)) (ha:Hd (PSs X sa t)) (hb:Hd (PSs X sb u)):Hd (PS X (.If c sa sb pos) (tIfS tt t u)):=⟨ps_if hc.out ha.out hb.out⟩
theorem ws_expr (he:Hd (PE X e te)) (hs:swapsWith e none pos.line X.env=pure false:=by rfl):Hd (PS X (.Expr e pos) (tDrop te)):=⟨ps_expr he.out hs⟩
theorem ws_set {i:Nat}{x:Str}{pos':Pos} (hN:X.N.Nodup) (hi:X.N[i]?=some x) (hx:Loc X.env.scope x) (he:Hd (PE X e te)) (hs:swapsWith e (some (.Name x pos')) pos.line X.env=pure false:=by rfl) (hf:X.fn x=true\/X.env.scope.names.lookup x=some .local:=by first | exact .inl rfl | exact .inr rfl | assumption) :
  Hd (PS X (.Assign [.Name x pos'] e pos) (tAsg te (gName i))):=⟨ps_set hN hi hx he.out hs hf⟩
theorem ws_asg (he:Hd (PE X e te)) (hg:Hd (PG X tg g)) (hs:swapsWithSole [tg] e pos.line X.env=pure false:=by rfl) (hw:swappedStores [tg] e X.env=pure none:=by rfl) (h1:(assignEach [tg] X.env).map (·.2)=[assign tg X.env]:=by rfl) :
  Hd (PS X (.Assign [tg] e pos) (tAsg te g)):=⟨ps_asg he.out hg.out hs hw h1⟩
theorem ws_for {body:List Stmt} (hp:PassesOwn (model X.prog X.w) X.A X.env X.xe) (hc:X.calm=true) (hi:Hd (PI X tg iter wi)) (hg:Hd (PG X tg g)) (hb:Hd (PSs X body t)) (hs:∀ x,foldedSetIterable iter X.env x=pure x:=by intro _;rfl):Hd (PS X (.For tg iter body [] pos) (tFor wi g t)):=⟨ps_for hp hc hi.out hg.out hb.out hs⟩
theorem ws_while {body:List Stmt} (hp:PassesOwn (model X.prog X.w) X.A X.env X.xe) (hc:Hd (PT X c tt)) (hb:Hd (PSs X body t)):Hd (PS X (.While c body [] pos) (tWhile tt t)):=⟨ps_while hp hc.out hb.out⟩
variable {ifs:List Expr}{scope:Scope}{Nt:List Str}{fr:List (Str×Nat)}{gz:ZC->TG}{tz:ZC->TT}{ez:ZC->TE}
theorem wif_nil:Hd (PIfs X [] tAll):=⟨pif_nil⟩
theorem we_lc (L:LcOk X scope Nt fr) (hcalm:X.calm=true) (hi:Hd (PI X tg iter wi)) (hg:∀ z,Hd (PG (cxC X scope (Nt++fr.map (·.1)) z) tg (gz z))) (hgt:∀ z,Tgt Nt.length (gz z))
  (hc:∀ z,Hd (PIfs (cxC X scope (Nt++fr.map (·.1)) z) ifs (tz z))) (he:∀ z,Hd (PE (cxC X scope (Nt++fr.map (·.1)) z) e (ez z))) (hs:∀ x,foldedSetIterable iter X.env x=pure x:=by intro _;rfl) :
  Hd (PE X (.ListComp e [⟨tg,iter,ifs,0⟩] scope pos) (tLC wi Nt.length fr gz tz ez)):=⟨pe_lc L hcalm hi.out (fun z=>(hg z).out) hgt (fun z=>(hc z).out) (fun z=>(he z).out) hs⟩
end
section
variable {P:Program}{w:World}{K:PySem.W.Frag}{mg:Str->Option Value}{base:Heap}
theorem Fun.okH {x qual:Str}{st:Stmt}{f:Addr}{fd:FuncData}{N ps:List Str}{k:Nat}{sp:Sp} (F:Fun K x qual st f fd) (S:FnScope N ps (defScope st)) (len:∀ vs H Q E,sp vs H Q E->vs.length=ps.length)
  (hbody:∀ (cdv:Value) (A:Around) (outer:List Env) (s:Shared) (H:Hp) (vs:List V) (Q:VK) (E:XK),Room k (A.deeper (envOfC qual (defScope st) s.heap.objs.size f cdv))->sp vs H Q E ->
   ∃ t,Hd (PSs (cxOf CX0 P w K mg base N qual (defScope st) f cdv A outer s H E).nox (defBody st) t)/\t { nx:=fun _ H'=>Q .non H',rt:=Q } (start N vs) H):FnOk P w K mg base CX0 (k+1) f fd ps sp:=
 F.ok S len fun cdv A outer s H vs Q E hr h=>let ⟨t,h1,h2⟩:=hbody cdv A outer s H vs Q E hr h;⟨t,h1.out,h2⟩
end
end L2
end
section
namespace Kn
open PySem PySem.W PyProof.Rows
def krun {α:Type} (lt:Nat->Nat->Bool):KasT α->α
 | .ret a=>a
 | .ask i j k=>krun lt (k (lt i j))
section
variable (r:Nat->Nat)
def kat (p:Array Nat) (i:Nat):Nat:=r (p.getD i 0)
def Srt (p:Array Nat) (m:Nat):Prop:=∀ i j,i<j->j<m->kat r p i<kat r p j
variable {r}
end
end Kn
end
section
namespace Kn
open PySem
theorem sLt_total {x y:Str} (h:x≠y):sLt y x=!sLt x y:=by
 have ne:x.cps.toList≠y.cps.toList:=fun e=>h (by cases x;cases y;congr 1;exact Array.toList_inj.mp e)
 unfold sLt
 by_cases a:x.cps.toList<y.cps.toList
 ·have b:¬y.cps.toList<x.cps.toList:=fun b=>List.lt_irrefl _ (List.lt_trans a b)
  simp [a,b]
 ·have b:y.cps.toList<x.cps.toList:=Classical.byContradiction fun b=>ne (List.le_antisymm (List.not_lt.mp b) (List.not_lt.mp a))
  simp [a,b]
noncomputable def cnt (v:Val):List (Val×Int)->Int
 | []=>0
 | p::ps=>(if p.1=v then p.2 else 0)+cnt v ps
def RiseV (ys:List Val):Prop:=ys.Pairwise fun p q=>aheadB p q=true
end Kn
end
section
namespace Kn
open PySem PySem.W PyProof.Rows
section
variable {n:Nat} (h0:0<n)
include h0
end
def vAt (xs:List Val) (i:Nat):Val:=xs[i]?.getD (.num 0)
end Kn
end
section
namespace L2
open PySem PySem.Spec PyProof.Rows PySem.W
open Kn (KE cmpK kEl sLt key aheadB RiseV vAt)
def kk:KE->Key
 | .i n=>.inl n
 | .s x=>.inr x
section
variable {prog:Program}{w:World}{A:Around}{E:Value->Shared->Prop}{s:Shared}
end
section
variable {X:Cx}
end
end L2
end
section
namespace L2
open PySem PySem.Spec PyProof.Rows
section
variable {X:Cx}
def isiW (x:V) (T:String) (b:Bool):Prop:=
 (T="int"/\(∃ i,x=.int i)/\b=true)\/(T="bool"/\(∃ i,x=.int i)/\b=false)\/(T="str"/\((∃ i,x=.int i)/\b=false\/(∃ z,x=.str z)/\b=true))
theorem call_isiW:CallR X (.builtin "isinstance") (fun xs H Q=>∃ x T b,xs=[x,.ty T]/\isiW x T b/\Q (.bl b) H):=by
 intro pins s σ H xs us Q I r h
 obtain⟨x,T,b,rfl,hi,q⟩:=h
 obtain⟨u,v,rfl,ru,rv⟩:=r.two
 cases rv
 rcases hi with ⟨rfl,⟨i,rfl⟩,rfl⟩ | ⟨rfl,⟨i,rfl⟩,rfl⟩ | ⟨rfl,⟨⟨i,rfl⟩,rfl⟩ | ⟨⟨z,rfl⟩,rfl⟩⟩
 ·obtain⟨t,rfl⟩:=ru
  exact IsiPair.int_int ⟨.bl true,H,I,rfl,q⟩
 ·obtain⟨t,rfl⟩:=ru
  exact IsiPair.int_bool ⟨.bl false,H,I.tok _,rfl,q⟩
 ·obtain⟨t,rfl⟩:=ru
  exact IsiPair.int_str ⟨.bl false,H,I.tok _,rfl,q⟩
 ·obtain⟨t,rfl⟩:=ru
  exact IsiPair.str_str ⟨.bl true,H,I,rfl,q⟩
theorem call_isiU:CallR X (.builtin "isinstance") (fun xs H Q=>(∃ x T b,xs=[x,.ty T]/\isiV H x T b/\Q (.bl b) H)\/∃ x T b,xs=[x,.ty T]/\isiW x T b/\Q (.bl b) H):=call_isi.or call_isiW
variable {pos:Pos}{e f o:Expr}{te tf to:TE}
end
end L2
end
section
namespace L2
open PySem PySem.Spec PyProof.Rows
section
variable {X:Cx}
def Its (x:Str):It:=⟨fun i _=>i<x.cps.size,fun i H v H'=>H'=H/\∃ c,x.cps[i]?=some c/\v=.str ⟨#[c]⟩,fun i _=>x.cps.size<=i⟩
theorem turn_str {P:Program}{w:World}{K:PySem.W.Frag}{tg:Expr} (it:Addr) (x:Str) (t:Tok):Turn P w K tg (Its x) [it] it (fun i h=>h.IsStrIter it "str_ascii_iterator" x t i) where
 mem:=by simp
 obj:=fun i h st b hb=>by
  have e:b=it:=by simpa using hb
  subst e
  obtain⟨o,q,_,d⟩:=st
  exact⟨_,q,fun v z=>by rw[d]at z;cases z⟩
 keep:=fun i h h' st k=>by
  obtain⟨o,q,r⟩:=st
  exact⟨o,k it (by simp) _ q,r⟩
 item:=by
  intro X hP hw hK hc i pins s σ H E I hf st hg
  subst hP hw hK
  obtain⟨f0,f1,f2,f3,f4,f5⟩:=hf it (by simp)
  have hi:i<x.cps.size:=hg
  have hx:x.cps[i]?=some x.cps[i]:=Array.getElem?_eq_getElem hi
  refine wpAny_pyNext_ascii_item st hx fun h' st' sb=>?_
  have I1:Inv X pins σ H { s with heap:=h',toks:=s.toks+1 }:=I.turned (t':=s.toks+1) (fun b o hb e=>(sb.2 b hb).trans e) f0 f1 f3 f4 f5
  obtain⟨o,e,c,d⟩:=id st'
  exact⟨_,rfl,go_of (s:={ s with heap:=h',toks:=s.toks+1 }) e c d (by decide) ⟨.str ⟨#[x.cps[i]]⟩,H,I1,⟨_,rfl⟩,⟨rfl,_,hx,rfl⟩,st',fun b hb=>(hf b hb).1⟩⟩
 done:=by
  intro X hP hw hK hc i pins s σ H E I hf st hg
  subst hP hw hK
  obtain⟨f0,f1,f2,f3,f4,f5⟩:=hf it (by simp)
  have hi:x.cps.size<=i:=hg
  exact wpAny_pyNext_ascii_end (I.ok.hd hc) st (Array.getElem?_eq_none hi) fun h' eb=>⟨rfl,I.turned (t':=s.toks) (fun b o hb e=>eb b o hb e) f0 f1 f3 f4 f5⟩
 self:=fun _ _ _ _ _ st h=>wpAny_pyIter_striter_ascii st h
def iStr (tl:TE):TI:=fun σ H R=>tl σ H fun v H1=>∃ x,v=.str x/\x.cps.all (·<128)=true/\R (Its x) H1
theorem pi_str {tg l:Expr}{tl:TE} (hl:PE X l tl):PI X tg l (iStr tl):=by
 intro pins s σ H R I h
 refine thn (hl pins s σ H _ I h) fun v s1 ⟨x,H1,I1,r1,q1⟩=>?_
 obtain⟨z,e,ha,q⟩:=q1
 subst e
 obtain⟨t,rfl⟩:=r1
 refine wpAny_pyIter_ascii ha ?_
 refine⟨s1.heap.objs.size,[s1.heap.objs.size],_,_,H1,rfl,I1.kept (t':=s1.toks) fun b o e=>Heap.get?_push_of_some _ e,turn_str _ z t,⟨_,Heap.get?_push_size _ rfl,rfl,rfl⟩,fun b hb=>?_,q⟩
 have e:b=s1.heap.objs.size:=by simpa using hb
 subst e
 exact I1.fpOk (Nat.le_refl _) (I1.hok.fresh (Nat.le_refl _))
theorem wi_str {tg l:Expr}{tl:TE} (hl:Hd (PE X l tl)):Hd (PI X tg l (iStr tl)):=⟨pi_str hl.out⟩
end
end L2
end
section
namespace L2
open PySem PySem.Spec PyProof.Rows
section
variable {X:Cx}
end
end L2
end
section
namespace L2
open PySem PySem.Spec PyProof.Rows
theorem stand_led (t:SetTable) (n:Nat):(t.orStandIn n).led=t.led:=by
 unfold SetTable.orStandIn;split <;> rfl
theorem lay_led (t:SetTable) (es:Array (Int×Value)) (h:Int) (x:Value):(layNew t es h x).2.1.led=t.led:=by
 unfold layNew
 split
 ·exact stand_led _ _
 ·rfl
theorem laid_led {mask finger moves:Nat}{led plain:Bool}{hs:Array Int}{r:SetTable×Array Nat} (h:SetTable.laid mask finger moves led plain hs=some r):r.1.led=led/\r.1.plain=plain:=by
 unfold SetTable.laid at h
 cases hc:SetTable.layClean mask hs with
 | none=>rw[hc]at h;cases h
 | some ow=>rw[hc]at h;cases h;exact⟨rfl,rfl⟩
theorem relay_led (t:SetTable) (es:Array (Int×Value)) (n:Nat):(relayAll t es n).2.1.led=t.led:=by
 unfold relayAll
 cases hr:t.relaid (es.map (·.1)) n with
 | none=>rfl
 | some r=>
  obtain⟨t',order⟩:=r
  have:=laid_led hr
  dsimp only
  split
  ·exact this.1
  ·rfl
theorem relay_plain (t:SetTable) (es:Array (Int×Value)) (n:Nat) (hp:t.plain=false):(relayAll t es n).2.1.plain=false:=by
 unfold relayAll
 cases hr:t.relaid (es.map (·.1)) n with
 | none=>rfl
 | some r=>
  obtain⟨t',order⟩:=r
  have:=laid_led hr
  dsimp only
  split
  ·exact this.2.trans hp
  ·rfl
def valS:Value->Str
 | .str x _=>x
 | _=>Str.empty
def strsOf (es:List (Int×Value)):List Str:=es.map fun e=>valS e.2
def SetS (prog:Program) (w:World) (h:Heap) (a:Addr) (zs:List Str):Prop:=
 ∃ (es:Array (Int×Value)) (ep:Nat) (t:SetTable),h.get? a=some { cls:=.type "set",dict:=none,data:=.set es ep t,slots:=#[] }/\ElemsOf (strKind prog w) es.toList/\t.fits es.size=true /\
  t.led=(!w.params.followText "set-order")/\(t.plain=false\/es=#[])/\es.size<4000/\(strsOf es.toList).Nodup/\∀ x,x∈strsOf es.toList ↔ x∈zs
theorem SetS.at {prog:Program}{w:World}{h h':Heap}{a:Addr}{zs:List Str} (S:SetS prog w h a zs) (k:∀ o,h.get? a=some o->h'.get? a=some o):SetS prog w h' a zs:=by
 obtain⟨es,ep,t,ho,r⟩:=S
 exact⟨es,ep,t,k _ ho,r⟩
section
variable {prog:Program}{w:World}{A:Around}{E:Value->Shared->Prop}{s:Shared}{a:Addr}{zs:List Str}
theorem elem_str {es:List (Int×Value)} (h:ElemsOf (strKind prog w) es) {e:Int×Value} (he:e∈es):∃ t,e.2=.str (valS e.2) t/\e.1=(strKind prog w).hash (valS e.2):=by
 obtain⟨⟨k,hk,hh⟩,_⟩:=h e he
 obtain⟨t,ht⟩:=Value.isStrOf_shape (x:=k) (v:=e.2) hk
 have:valS e.2=k:=by rw[ht];rfl
 exact⟨t,by rw[this];exact ht,by rw[this];exact hh⟩
theorem found_iff {es:List (Int×Value)} (h:ElemsOf (strKind prog w) es) (x:Str):(∃ e∈es,(strKind prog w).is x e.2=true) ↔ x∈strsOf es:=by
 constructor
 ·rintro⟨e,he,hx⟩
  obtain⟨t,ht⟩:=Value.isStrOf_shape (x:=x) (v:=e.2) hx
  exact List.mem_map.mpr ⟨e,he,by rw[ht];rfl⟩
 ·intro hx
  obtain⟨e,he,rfl⟩:=List.mem_map.mp hx
  obtain⟨t,ht,_⟩:=elem_str h he
  refine⟨e,he,?_⟩
  rw[ht]
  exact strKind_is _ _ _ _
theorem set_put {es es':Array (Int×Value)}{ep:Nat}{t t':SetTable}{Q:Unit->Shared->Prop} (ho:s.heap.get? a=some { cls:=.type "set",dict:=none,data:=.set es ep t,slots:=#[] }) (hz:es'.size<4096)
  (h:∀ h',Heap.SameBut a s.heap h'->h'.get? a=some { cls:=.type "set",dict:=none,data:=.set es' (ep+1) t',slots:=#[] }->Q () { s with heap:=h' }):wpAny (model prog w) A (storeSet a es' t') Q E s:=by
 refine wpAny_storeSet_of (ep:=ep) (t:=t) ho rfl (h _ (Heap.SameBut.update s.heap a _) ?_) (fits_of_scanBound hz)
 have:=Heap.get?_update_self (Obj.putSet es' t') ho (by rw[putSet_of (ep:=ep) (t:=t) es' t' rfl];rfl)
 rw[this,putSet_of (ep:=ep) (t:=t) es' t' rfl]
theorem nodup_perm_snoc {l l':List Str}{x:Str} (p:List.Perm l' (l++[x])) (nd:l.Nodup) (h:x ∉ l):l'.Nodup:=by
 refine p.nodup_iff.mpr (List.nodup_append.mpr ⟨nd,by simp,fun y hy z hz=>?_⟩)
 rw[List.mem_singleton.mp hz]
 exact fun e=>h (e ▸ hy)
theorem set_add {x:Str}{tk:Tok}{Q:Bool->Shared->Prop} (S:SetS prog w s.heap a zs) (hl:zs.length<3900)
  (h:∀ b h',Heap.SameBut a s.heap h'->SetS prog w h' a (zs++[x])->Q b { s with heap:=h' }):wpAny (model prog w) A (setAddHashed a (.str x tk) ((strKind prog w).hash x)) Q E s:=by
 obtain⟨es,ep,t,ho,hel,hf,hled,hpl,hsz,nd,hm⟩:=S
 have hsz':es.size<3950:=by
  have:=List.Nodup.length_le_of_subset nd fun y hy=>(hm y).mp hy
  rw[strsOf,List.length_map,Array.length_toList]at this
  lia
 have hkey:(strKind prog w).is x (.str x tk)=true:=strKind_is _ _ _ _
 have hsc:(Value.str x tk).scannable=true:=rfl
 unfold setAddHashed setAddHashedIn
 refine wpAny_holding (wpAny_bind (wpAny_setState_of ho rfl hf ?_))
 dsimp only
 rw[byScan_of hsc (by show es.size<4096;lia) hel,if_pos rfl]
 unfold setAddByScan
 refine wpAny_bind (wpAny_bind (wpAny_rule (wpAny_bind (wpAny_setScan_of hkey ho rfl hf hel ?_))))
 cases hr:List.findIdx? (fun e=>(strKind prog w).is x e.2) es.toList with
 | some j=>
  obtain⟨hj,hpj,_⟩:=List.findIdx?_eq_some_iff_getElem.mp hr
  have hx:x∈zs:=(hm x).mp ((found_iff hel x).mp ⟨es.toList[j],List.getElem_mem hj,hpj⟩)
  refine wpAny_pure (wpAny_pure ?_)
  refine h false s.heap (Heap.SameBut.refl a s.heap) ⟨es,ep,t,ho,hel,hf,hled,hpl,hsz,nd,fun y=>?_⟩
  rw[hm y,List.mem_append,List.mem_singleton]
  exact⟨.inl,fun z=>z.elim id fun e=>e ▸ hx⟩
 | none=>
  have hx:x ∉ strsOf es.toList:=fun z=>by
   obtain⟨e,he,q⟩:=(found_iff hel x).mpr z
   have:=List.findIdx?_eq_none_iff.mp hr e he
   rw[q]at this;cases this
  have hperm:=layNew_perm t es ((strKind prog w).hash x) (.str x tk)
  have hfits:=layNew_fits t es ((strKind prog w).hash x) (.str x tk)
  have hled1:=lay_led t es ((strKind prog w).hash x) (.str x tk)
  dsimp only
  generalize layNew t es ((strKind prog w).hash x) (.str x tk)=L at hperm hfits hled1 ⊢
  obtain⟨es1,t1,dum,gave⟩:=L
  dsimp only at hperm hfits hled1 ⊢
  rw[Array.toList_push]at hperm
  have hel1:ElemsOf (strKind prog w) es1.toList:=(hel.push hkey hsc).perm hperm
  have hps:(strsOf es1.toList).Perm (strsOf es.toList++[x]):=by
   have:=hperm.map (fun e:Int×Value=>valS e.2)
   rw[List.map_append]at this
   exact this
  have nd1:=nodup_perm_snoc hps nd hx
  have hm1:∀ y,y∈strsOf es1.toList ↔ y∈zs++[x]:=fun y=>by
   rw[hps.mem_iff,List.mem_append,List.mem_append,hm y]
  have hs1:es1.size=es.size+1:=by
   have:=hperm.length_eq
   rw[List.length_append,Array.length_toList,Array.length_toList]at this
   simpa using this
  have gw:∀ (b:Bool) {s₁:Shared}{Q':Unit->Shared->Prop},Q' () s₁->wpAny (model prog w) A (match b with | true=>rule "set.scan.the-table-gave-way" | false=>pure ()) Q' E s₁:=fun b s₁ Q' q=>by
   cases b
   ·exact wpAny_pure q
   ·exact wpAny_rule q
  refine wpAny_bind (gw _ ?_)
  cases e:t1.plain
  case' false=>
   rw[if_neg Bool.false_ne_true]
   refine wpAny_bind (wpAny_pure ?_)
   simp only[if_true]
   have hf2:=hfits
   have hl2:t1.led=t.led:=hled1
   have hp2:t1.plain=false:=e
   clear e hfits hled1
   generalize t1=t2 at hf2 hl2 hp2 ⊢
  case' true=>
   rw[if_pos rfl,hashByValue_scannable 8 hsc]
   refine wpAny_bind (wpAny_pure ?_)
   simp only[show plainKind (.str x tk)=false from rfl,Bool.false_eq_true,if_false]
   have hf2:=SetTable.fits_plain_off hfits
   have hl2:({ t1 with plain:=false }:SetTable).led=t.led:=hled1
   have hp2:({ t1 with plain:=false }:SetTable).plain=false:=rfl
   clear e hfits hled1
   generalize ({ t1 with plain:=false }:SetTable)=t2 at hf2 hl2 hp2 ⊢
  all_goals
   refine wpAny_bind (set_put ho (by lia) fun h1 hb1 ho1=>?_)
   split
   ·have hp:=relayAll_perm t2 es1 (SetTable.grown es1.size)
    have hfr:=relayAll_fits t2 es1 (SetTable.grown es1.size)
    have hlr:=relay_led t2 es1 (SetTable.grown es1.size)
    have hpr:=relay_plain t2 es1 (SetTable.grown es1.size) hp2
    generalize relayAll t2 es1 (SetTable.grown es1.size)=R at hp hfr hlr hpr ⊢
    obtain⟨es2,t3,g2⟩:=R
    dsimp only at hp hfr hlr hpr ⊢
    have hs2:es2.size=es1.size:=by rw[<- Array.length_toList,hp.length_eq,Array.length_toList]
    have hp':(strsOf es2.toList).Perm (strsOf es1.toList):=hp.map _
    refine wpAny_bind (gw _ (wpAny_bind (set_put (s:={ s with heap:=h1 }) ho1 (by lia) fun h2 hb2 ho2=>wpAny_pure (wpAny_pure ?_))))
    exact h true h2 (hb1.trans hb2) ⟨es2,_,t3,ho2,hel1.perm hp,hfr,by rw[hlr,hl2,hled],.inl hpr,by lia,hp'.nodup_iff.mpr nd1,fun y=>(hp'.mem_iff).trans (hm1 y)⟩
   ·exact wpAny_pure (wpAny_pure (h true h1 hb1 ⟨es1,_,t2,ho1,hel1,hf2,by rw[hl2,hled],.inl hp2,by lia,nd1,hm1⟩))
end
end L2
end
section
namespace L2
open PySem PySem.Spec PyProof.Rows
section
variable {prog:Program}{w:World}{A:Around}{R:Result->Shared->Prop}{I:Addr}{fp wr:List Addr}{G:Array GenState->Array GenState->Prop}{n:Nat}{P:Nat->Value->Prop}{St:Nat->Shared->Prop}
theorem set_fill (W:WalksS prog w A.in1 I fp wr G n P St) (S:Addr) (hS:S ∉ fp) (zs:List Str) (hn:n=zs.length) (hval:∀ i v,P i v->∃ (x:Str) (t:Tok),zs[i]?=some x/\v=.str x t) (hb:zs.length<3900) :
  ∀ (k i:Nat) (s:Shared),n-i=k->i<=n->St i s->SetS prog w s.heap S (zs.take i)->(∀ s',Moved (S::wr) G s s'->SetS prog w s'.heap S zs->R (.ok (.ret .none)) s') ->
   codeAny (model prog w) A (.builtin "set.update.loop" ⟨[.ref S,.ref I],[]⟩) R s:=by
 have hw:S ∉ wr:=fun h=>hS (W.sub _ h)
 have sub:∀ b∈wr,b∈S::wr:=fun b h=>List.mem_cons_of_mem _ h
 intro k
 induction k with
 | zero=>
  intro i s hk hi st hs q
  obtain rfl:i=n:=by lia
  refine codeAny_builtin F.entry_set_update_loop ?_
  rw[Around.under_plainId F.plain_set_update_loop _]
  show wpAny _ A.in1 (pyNext (.ref I) >>= _) _ _ s
  refine wpAny_bind (W.done s _ _ st fun s' m=>?_)
  refine wpAny_pure (q s' (m.mono sub) ?_)
  rw[List.take_of_length_le (by lia)]at hs
  exact hs.at fun o e=>m.heap S o hw e
 | succ k ih=>
  intro i s hk hi st hs q
  have lt:i<n:=by lia
  refine codeAny_builtin F.entry_set_update_loop ?_
  rw[Around.under_plainId F.plain_set_update_loop _]
  show wpAny _ A.in1 (pyNext (.ref I) >>= _) _ _ s
  refine wpAny_bind (W.item i s _ _ lt st fun v s1 hP st1 m=>?_)
  obtain⟨x,t,hx,rfl⟩:=hval i v hP
  have hs1:=hs.at (h':=s1.heap) fun o e=>m.heap S o hw e
  show wpAny _ A.in1 (holding [Value.str x t] (setAdd S (.str x t)) >>= _) _ _ s1
  unfold setAdd
  refine wpAny_bind (wpAny_holding (wpAny_holding (wpAny_bind ((strKind prog w).pyHash (k:=x) (strKind_is _ _ _ _) ?_))))
  refine set_add (s:={ s1 with toks:=s1.toks+1 }) (zs:=zs.take i) hs1 (by rw[List.length_take];lia) fun b h' hb' hs2=>?_
  have e2:zs.take i++[x]=zs.take (i+1):=by rw[List.take_add_one,hx];rfl
  rw[e2]at hs2
  refine wpAny_pure ⟨plainId_quiet F.plain_set_update_loop _,ih (i+1) _ (by lia) lt (W.frame _ s1 _ _ st1 (Nat.le_succ _) fun c hc o e=>?_) hs2 fun s2 m2 q2=>?_⟩
  ·rw[hb'.2 c fun z:c=S=>hS (z ▸ hc)];exact e
  ·exact q s2 (Moved.trans W.gtrans ((m.mono sub).then_heap (Nat.le_succ _) fun c o hc e=>by rw[hb'.2 c fun z:c=S=>hc (z ▸ List.mem_cons_self)];exact e) m2) q2
end
theorem strsAre_at:∀ {vs:List Value}{ss:List Str}{i:Nat}{v:Value},StrsAre vs ss->vs[i]?=some v->∃ (x:Str) (t:Tok),ss[i]?=some x/\v=.str x t
 | _,_,i,v,.nil,e=>by simp at e
 | _,_,0,v,.cons x t _,e=>by simp at e;exact⟨x,t,rfl,e.symm⟩
 | _,_,i+1,v,.cons x t r,e=>by
  obtain⟨y,u,h1,h2⟩:=strsAre_at (i:=i) r (by simpa using e)
  exact⟨y,u,by simpa using h1,h2⟩
section
variable {prog:Program}{w:World}{A:Around}{E:Value->Shared->Prop}{s:Shared}
def emptySet (w:World):Obj:={ cls:=.type "set",dict:=none,data:=.set #[] 0 (.fresh 0 0 (!w.params.followText "set-order")) }
theorem emptySet_is {h:Heap}{a:Addr} (e:h.get? a=some (emptySet w)):SetS prog w h a []:=by
 refine⟨#[],0,_,e,fun x hx=>?_,by rfl,rfl,.inr rfl,by decide,List.nodup_nil,fun x=>Iff.rfl⟩
 simp at hx
theorem set_new_code (a:Value) {Q₁:Value->Shared->Prop} (h:Q₁ (.ref s.heap.objs.size) { s with heap:=s.heap.push (emptySet w) }) :
  codeAny (model prog w) A (.call (.builtin "set.__new__") ⟨[.type "set",a],[]⟩) (wants Q₁ E) s:=by
 refine codeAny_of_tree ?_
 show wpAny _ A.in1 (checkBuiltinCall "set.__new__" ⟨[.type "set",a],[]⟩ >>= fun _=>again (.builtin "set.__new__" ⟨[.type "set",a],[]⟩)) _ _ s
 refine wpAny_bind (wpAny_of_eq (F.newCall_set_1 a) (wpAny_pure ⟨plainId_quiet F.plain_set_new _,codeAny_builtin F.entry_set_new ?_⟩))
 rw[Around.under_plainId F.plain_set_new _]
 unfold Builtin.«set.__new__» Builtin.Frozenset.newClass
 have hsub:=sub_set_self
 obtain⟨hp,g,d,tk,os⟩:=s
 dsimp only at h ⊢
 wp_walk
 refine wpAny_askSetting (wpAny_pure ?_)
 dsimp only
 simp only[newObj]
 exact wpAny_bind (wpAny_alloc (wpAny_pure (wpAny_pure h)))
theorem call_set_str {l:Addr}{its:Array Value}{zs:List Str}{Q:Value->Shared->Prop} (hh:A.handled=none) (hl:s.heap.IsList l its) (hi:StrsAre its.toList zs) (hb:zs.length<3900)
  (h:∀ (h':Heap) (tk:Nat),SetS prog w h' s.heap.objs.size zs->(∀ b o,s.heap.get? b=some o->h'.get? b=some o)->Q (.ref s.heap.objs.size) { s with heap:=h',toks:=tk }) :
  wpAny (model prog w) A (call (.type "set") [.ref l]) Q E s:=by
 obtain⟨c,tl,hmro⟩:=F.called_set.mro
 have made:=F.called_set.made
 have sub:=F.called_set.sub
 refine wpAny_call (codeAny_of_tree ?_)
 show wpAny _ _ (callAny (.type "set") _) _ _ _
 refine wpAny_pure ⟨Code.quiet_builtin _ (by decide +kernel),codeAny_builtin F.entry_type_call ?_⟩
 rw[Around.under_plain (weight_type_call_type "set" [.ref l] []) rfl]
 have g1:=F.called_set.notType
 have g2:=F.called_set.canCreate
 have g3:=F.typeCall_set_1 (.ref l)
 repeat (any_goals (first | assumption | wp_step))
 refine codeAny_mono (set_new_code (.ref l) (E:=E) (Q₁:=fun u s1=>u=.ref s.heap.objs.size/\s1={ s with heap:=s.heap.push (emptySet w) }) ⟨rfl,rfl⟩) fun r s1 hr=>?_
 cases r with
 | error e=>exact hr
 | ok fl=>
  cases fl with
  | ret obj=>
   obtain⟨rfl,rfl⟩:=hr
   have hS:(s.heap.push (emptySet w)).get? s.heap.objs.size=some (emptySet w):=Heap.get?_push_size _ rfl
   have hT:Shared.TypeIs { s with heap:=s.heap.push (emptySet w) } (.ref s.heap.objs.size) "set":=⟨_,hS,rfl⟩
   have hT':∀ {k:Nat},Shared.TypeIs { s with heap:=s.heap.push (emptySet w),toks:=k } (.ref s.heap.objs.size) "set":=⟨_,hS,rfl⟩
   have li:=F.called_set.init.lookup
   have bi:=F.called_set.init.bind (.ref s.heap.objs.size)
   repeat (any_goals (first | assumption | wp_step))
   refine codeAny_mono (codeAny_call_builtin (R:=wants (fun r s2=>r=.none/\∃ h' tk,s2={ s with heap:=h',toks:=tk }/\SetS prog w h' s.heap.objs.size zs/\(∀ b o,s.heap.get? b=some o->h'.get? b=some o)) E) F.called_set.init.plain F.entry_set_init (check_set_init_1 hT ?_)) fun r2 s2 hr2=>?_
   ·obtain⟨ol,hol,hcl,nl,hdl⟩:=hl
    obtain⟨oc,od,oda,os⟩:=ol
    simp only at hcl hdl
    subst hcl;subst hdl
    have hol':(s.heap.push (emptySet w)).get? l=some { cls:=.type "list",dict:=od,data:=.seq its nl,slots:=os }:=Heap.get?_push_of_some _ hol
    have e1:=F.sub_list_set
    have e2:=F.sub_list_frozenset
    have e3:(Value.type "list" == Value.type "dict")=false:=by decide
    have hl1:(s.heap.push (emptySet w)).IsList l its:=⟨_,hol',rfl,nl,rfl⟩
    unfold Builtin.«set.__init__» noKeywords Builtin.Frozenset.updateFrom
    generalize hPI:pyIter=PI
    wp_walk
    subst hPI
    refine wpAny_pyIter_list hl1 (wpAny_bind (wpAny_runValue ?_))
    have lS:l<s.heap.objs.size:=Heap.lt_size hol
    have hh3:A.in1.in1.in1.handled=none:=by simp [hh]
    have nI:l≠(s.heap.push (emptySet w)).objs.size:=by rw[Heap.size_push];exact Nat.ne_of_lt (Nat.lt_succ_of_lt lS)
    have nS:s.heap.objs.size ∉ [(s.heap.push (emptySet w)).objs.size,l]:=by
     rw[Heap.size_push]
     simp only[List.mem_cons,List.not_mem_nil,or_false,not_or]
     exact⟨Nat.ne_of_lt (Nat.lt_succ_self _),Nat.ne_of_gt lS⟩
    have len:its.size=zs.length:=by rw[<- Array.length_toList];exact hi.length
    have val:∀ (i:Nat) (v:Value),its[i]?=some v->∃ (x:Str) (t:Tok),zs[i]?=some x/\v=.str x t:=fun i v e=>strsAre_at hi (by rw[Array.getElem?_toList];exact e)
    refine set_fill ((Walks.list hh3 _ l nI its).toS) s.heap.objs.size nS zs len val hb (its.size-0) 0 _ (by lia) (Nat.zero_le _) ⟨⟨_,Heap.get?_push_size _ rfl,rfl,rfl⟩,(hl1.push _)⟩ ?start ?fin
    case start=>
     rw[List.take_zero]
     exact emptySet_is (Heap.get?_push_of_some _ hS)
    case fin=>
     intro s' m hs'
     obtain⟨h',g',d',tk',os'⟩:=s'
     have eg:g'=s.gens:=m.gens
     have ed:d'=s.drawn:=m.drawn
     have eo:os'=s.os:=m.os
     subst eg;subst ed;subst eo
     refine wpAny_pure ?_
     show wpAny _ _ (ret Value.none) _ _ _
     refine wpAny_pure ⟨rfl,h',tk',rfl,hs',fun b o e=>?_⟩
     have lb:=Heap.lt_size e
     refine m.heap b o ?_ (Heap.get?_push_of_some _ (Heap.get?_push_of_some _ e))
     simp only[List.mem_cons,List.not_mem_nil,or_false,not_or]
     exact⟨Nat.ne_of_lt lb,by rw[Heap.size_push];exact Nat.ne_of_lt (Nat.lt_succ_of_lt lb)⟩
   ·cases r2 with
    | error e=>exact hr2
    | ok f2=>
     cases f2 with
     | ret r=>
      obtain⟨rfl,h',tk,rfl,hs',k⟩:=hr2
      repeat (any_goals (first | assumption | wp_step))
      exact h _ _ hs' k
     | _=>exact hr2.elim
  | _=>exact hr.elim
end
end L2
end
section
namespace L2
open PySem PySem.Spec PyProof.Rows
theorem slot_sit:Slot "set_iterator" "__next__" "set_iterator.__next__":=.of (owner:="set_iterator") (n:="__next__") (by rw[typeLookup_type,builtinLookup_eq_fast];kernel_rfl) (by decide +kernel) (by decide +kernel) (by decide +kernel) (by first | exact .inl (by decide +kernel) | exact .inr (by decide +kernel)) (by rw[isSubtype_type];kernel_rfl)
theorem slot_siti:Slot "set_iterator" "__iter__" "set_iterator.__iter__":=.of (owner:="set_iterator") (n:="__iter__") (by rw[typeLookup_type,builtinLookup_eq_fast];kernel_rfl) (by decide +kernel) (by decide +kernel) (by decide +kernel) (by first | exact .inl (by decide +kernel) | exact .inr (by decide +kernel)) (by rw[isSubtype_type];kernel_rfl)
theorem entry_sit:entryFor table "set_iterator.__next__"=some Builtin.«set_iterator.__next__»:=entryFor_of_tree (by kernel_rfl)
theorem owner_sit:Manifest.owners.lookup (String.ofList ['r','o','t','a','r','e','t','i','_','t','e','s'].reverse)=some Manifest.sig_set_iterator:=by kernel_rfl
theorem args_sit (a:Value):argsOk "set_iterator.__next__" ⟨[a],[]⟩:=by
 unfold argsOk;rw[signature?_of (id:="set_iterator.__next__") (n:=['_','_','t','x','e','n','_','_']) (o:=['r','o','t','a','r','e','t','i','_','t','e','s']) (by kernel_rfl) owner_sit];kernel_rfl
theorem entry_setiter:entryFor table "set.__iter__"=some Builtin.«frozenset.__iter__»:=entryFor_alias (id':="frozenset.__iter__") (by kernel_rfl) rfl (by decide +kernel) (by kernel_rfl)
theorem erase_perm {α:Type}:∀ (l:List α) (i:Nat) (h:i<l.length),(l[i]::l.eraseIdx i).Perm l
 | x::l,0,_=>.refl _
 | x::l,i+1,h=>by
  have hi:i<l.length:=by simpa using h
  have:=erase_perm l i hi
  show (l[i]::x::l.eraseIdx i).Perm (x::l)
  exact (List.Perm.swap x l[i] _).trans (List.Perm.cons x this)
section
variable {M:Model}{prog:Program}{w:World}{A:Around}{E:Value->Shared->Prop}{s:Shared}
theorem wp_choose' {src:Source}{n:Nat}{Q:Nat->Shared->Prop} (h0:n≠0) (h:∀ i d,i<n->Q i { s with drawn:=d }):wpAny M A (choose src n) Q E s:=fun Γ p hΓ=>by
 show Sem.wp M Γ (.choose src n .pure) _ _ p s
 rw[Sem.wp_choose]
 exact⟨h0,h _ _ (Nat.mod_lt _ (by lia))⟩
theorem draw_order {α:Type}:∀ (n:Nat) (xs:List α) (s:Shared) (Q:List α->Shared->Prop),xs.length=n->(∀ ys d,ys.Perm xs->Q ys { s with drawn:=d })->wpAny M A (drawOrder n xs) Q E s
 | 0,xs,s,Q,hl,q=>by
  have:xs=[]:=List.length_eq_zero_iff.mp hl
  subst this
  exact wpAny_pure (q [] s.drawn (.refl _))
 | n+1,[],s,Q,hl,q=>by simp at hl
 | n+1,x::xs,s,Q,hl,q=>by
  unfold drawOrder
  refine wpAny_bind (wp_choose' (by simp) fun i d hi=>?_)
  rw[List.getElem?_eq_getElem hi]
  dsimp only
  refine wpAny_bind (draw_order n _ _ _ (by rw[List.length_eraseIdx,if_pos hi];simp at hl ⊢;lia) fun ys d' p=>wpAny_pure (q _ d' ?_))
  exact (List.Perm.cons _ p).trans (erase_perm _ _ hi)
theorem pick_go {α:Type} (next:Nat->Nat):∀ (fuel k:Nat) (left:List α) (out:Array α),left.length=fuel->(pickOrder.go next fuel k left out).toList.Perm (out.toList++left)
 | 0,k,left,out,hl=>by
  have:left=[]:=List.length_eq_zero_iff.mp hl
  subst this
  unfold pickOrder.go
  simp
 | fuel+1,k,left,out,hl=>by
  have hi:next k % left.length<left.length:=Nat.mod_lt _ (by lia)
  unfold pickOrder.go
  rw[List.getElem?_eq_getElem hi]
  dsimp only
  refine (pick_go next fuel (k+1) _ _ (by rw[List.length_eraseIdx,if_pos hi];lia)).trans ?_
  rw[Array.toList_push,List.append_assoc]
  exact List.Perm.append_left _ (erase_perm _ _ hi)
theorem pick_perm {α:Type} (next:Nat->Nat) (xs:Array α):(pickOrder next xs).toList.Perm xs.toList:=by
 have:=pick_go next xs.size 0 xs.toList #[] (by simp)
 simpa [pickOrder] using this
def sIt (first:Value) (i:Nat) (a:Addr) (n ep:Nat):Obj:={ cls:=.type "set_iterator",data:=.fields #[first,.int i 0,.ref a,.int n 0,.int ep 0] }
theorem stop_end {α:Type} {Q':α->Shared->Prop}{E':Value->Shared->Prop} (hh:A.handled=none) (h:∀ e h',Shared.TypeIs { s with heap:=h' } e "StopIteration"->(∀ b o,s.heap.get? b=some o->h'.get? b=some o)->E' e { s with heap:=h' }) :
  wpAny (model prog w) A.in1 (newExc (.type "StopIteration") [] >>= fun e=>(raiseNew e:Sem α)) Q' E' s:=by
 refine wpAny_bind ?_
 simp only[newExc,newTuple]
 refine wpAny_bind (wpAny_newObj_type ?_ (by size_fits))
 refine wpAny_bind (m:=firstArgMember _ _) (wpAny_of_eq (a:=Value.none) (by first | rfl | (simp only[firstArgMember];rfl)) (wpAny_newObj_type ?_ (by size_fits)))
 simp only[raiseNew]
 refine wpAny_bind (wpAny_handled ?_)
 rw[show A.in1.handled=none from hh]
 refine wpAny_bind (wpAny_pure (wpAny_throw (h (.ref _) _ ⟨_,Heap.get?_push_size _ rfl,rfl⟩ fun b o e=>Heap.get?_push_of_some _ (Heap.get?_push_of_some _ e))))
def SAt (h:Heap) (a:Addr) (es:Array (Int×Value)) (ep:Nat) (t:SetTable):Prop:=h.get? a=some { cls:=.type "set",dict:=none,data:=.set es ep t,slots:=#[] }/\t.fits es.size=true
theorem set_entries {a:Addr}{es:Array (Int×Value)}{ep:Nat}{t:SetTable}{Q:Array (Int×Value)->Shared->Prop} (S:SAt s.heap a es ep t) (h:Q es s):wpAny (model prog w) A (setEntries a) Q E s:=by
 unfold setEntries
 exact wpAny_bind (wpAny_setState_of S.1 rfl S.2 (wpAny_pure h))
theorem fields_put {I:Addr}{vs:Array Value}{k:Nat}{v:Value}{Q:Unit->Shared->Prop} (ho:s.heap.get? I=some { cls:=.type "set_iterator",data:=.fields vs }) (hk:k<vs.size)
  (h:∀ h',(∀ b o,b≠I->s.heap.get? b=some o->h'.get? b=some o)->h'.get? I=some { cls:=.type "set_iterator",data:=.fields (vs.setIfInBounds k v) }->Q () { s with heap:=h' }):wpAny (model prog w) A (setField (.ref I) k v) Q E s:=by
 refine wpAny_setField ho rfl hk (h _ (fun b o hb e=>?_) ?_)
 ·exact (Heap.get?_update_other _ _ (Ne.symm hb)).trans e
 ·have:=Heap.get?_update_self (Obj.mapFields (·.setIfInBounds k v)) ho (Obj.isFreed_of_fields (Obj.data_mapFields rfl _))
  rw[this];rfl
theorem next_int {I a:Addr}{slot i n ep:Nat}{es:Array (Int×Value)}{t:SetTable}{r:Option (Value×Nat)}{Q:Option Value->Shared->Prop} (hh:A.handled=none) (hI:s.heap.get? I=some (sIt (.int slot 0) i a n ep)) (S:SAt s.heap a es ep t) (hn:es.size=n)
  (hr:∀ (A':Around) (E':Value->Shared->Prop) (Q':Option (Value×Nat)->Shared->Prop),Q' r s->wpAny (model prog w) A' (setNext a slot i ep) Q' E' s)
  (h:match r with
   | some (x,nx)=>∀ h',(∀ b o,b≠I->s.heap.get? b=some o->h'.get? b=some o)->h'.get? I=some (sIt (.int nx 0) (i+1) a n ep)->Q (some x) { s with heap:=h' }
   | none=>∀ h',(∀ b o,b≠I->s.heap.get? b=some o->h'.get? b=some o)->Q none { s with heap:=h' }):wpAny (model prog w) A (pyNext (.ref I)) Q E s:=by
 have hT:s.TypeIs (.ref I) "set_iterator":=⟨_,hI,rfl⟩
 unfold pyNext
 refine wpAny_bind (wpAny_attempt (wpAny_callSpecial?_slot (name:=Str.ofString "__next__") hT slot_sit (wpAny_call_entry slot_sit hT entry_sit ?_ (args_sit _))))
 unfold Builtin.«set_iterator.__next__»
 refine wpAny_bind (wpAny_pure ?_)
 refine wpAny_bind (wpAny_fieldsOf hI rfl ?_)
 refine wpAny_bind (set_entries S ?_)
 rw[if_neg (by rw[hn];simp)]
 refine wpAny_bind (hr _ _ _ ?_)
 have et:((slot:Int)).toNat=slot:=Int.toNat_natCast _
 cases r with
 | some p=>
  obtain⟨x,nx⟩:=p
  dsimp only at h ⊢
  refine wpAny_bind (fields_put hI (by simp) fun h1 k1 i1=>wpAny_bind (fields_put (s:={ s with heap:=h1 }) i1 (by simp) fun h2 k2 i2=>?_))
  exact wpAny_pure ⟨_,rfl,wpAny_pure (h h2 (fun b o hb e=>k2 b o hb (k1 b o hb e)) (by rw[i2];simp [sIt,rawInt]))⟩
 | none=>
  dsimp only at h ⊢
  refine wpAny_bind (fields_put hI (by simp) fun h1 k1 i1=>?_)
  refine stop_end (s:={ s with heap:=h1 }) hh fun e h2 hT2 k2=>?_
  refine wpAny_bind (wpAny_isInstance (T:="StopIteration") (b:=true) hT2 isSubtype_stop ?_)
  exact wpAny_pure (h h2 fun b o hb e=>k2 b o (k1 b o hb e))
end
end L2
end
section
namespace L2
open PySem PySem.Spec PyProof.Rows PySem.W
section
variable {prog:Program}{w:World}{A:Around}{E:Value->Shared->Prop}{s:Shared}
theorem next_ref {I a tp:Addr}{i n ep:Nat}{es:Array (Int×Value)}{t:SetTable}{vs:Array Value}{m:Nat}{Q:Option Value->Shared->Prop} (hh:A.handled=none) (hI:s.heap.get? I=some (sIt (.ref tp) i a n ep)) (S:SAt s.heap a es ep t) (hn:es.size=n)
  (hP:s.heap.get? tp=some { cls:=.type "tuple",data:=.seq vs m })
  (h:(∃ (j:Nat) (u:Tok) (e:Int×Value),vs[i]?=some (.int j u)/\es[j]?=some e/\∀ h',(∀ b o,b≠I->s.heap.get? b=some o->h'.get? b=some o)->h'.get? I=some (sIt (.ref tp) (i+1) a n ep)->Q (some e.2) { s with heap:=h' }) \/
   (vs[i]?=none/\∀ h',(∀ b o,b≠I->s.heap.get? b=some o->h'.get? b=some o)->Q none { s with heap:=h' })):wpAny (model prog w) A (pyNext (.ref I)) Q E s:=by
 have hT:s.TypeIs (.ref I) "set_iterator":=⟨_,hI,rfl⟩
 unfold pyNext
 refine wpAny_bind (wpAny_attempt (wpAny_callSpecial?_slot (name:=Str.ofString "__next__") hT slot_sit (wpAny_call_entry slot_sit hT entry_sit ?_ (args_sit _))))
 unfold Builtin.«set_iterator.__next__»
 refine wpAny_bind (wpAny_pure ?_)
 refine wpAny_bind (wpAny_fieldsOf hI rfl ?_)
 refine wpAny_bind (set_entries S ?_)
 rw[if_neg (by rw[hn];simp)]
 dsimp only
 refine wpAny_bind (wpAny_seqItems hP rfl ?_)
 dsimp only
 rw[Int.toNat_natCast]
 rcases h with ⟨j,u,e,h1,h2,h3⟩ | ⟨h1,h2⟩
 ·rw[h1]
  dsimp only
  rw[Int.toNat_natCast,Int.toNat_natCast]
  have sn:∀ {R:Value->Shared->Prop}{E':Value->Shared->Prop}{A':Around},R e.2 s->wpAny (model prog w) A' (setNextDrawn a j ep) R E' s:=fun {R E' A'} q=>by
   unfold setNextDrawn
   refine wpAny_bind (wpAny_setState_of S.1 rfl S.2 ?_)
   dsimp only
   rw[if_neg (by simp),h2]
   exact wpAny_bind (wpAny_pure (wpAny_pure q))
  refine wpAny_bind (sn (wpAny_bind (fields_put hI (by simp) fun h' k1 i1=>?_)))
  exact wpAny_pure ⟨_,rfl,wpAny_pure (h3 h' k1 (by rw[i1];simp [sIt,rawInt]))⟩
 ·rw[h1]
  dsimp only
  refine wpAny_bind (fields_put hI (by simp) fun h3 k3 i3=>wpAny_bind (fields_put (s:={ s with heap:=h3 }) i3 (by simp) fun h4 k4 i4=>?_))
  refine stop_end (s:={ s with heap:=h4 }) hh fun e h5 hT2 k5=>?_
  refine wpAny_bind (wpAny_isInstance (T:="StopIteration") (b:=true) hT2 isSubtype_stop ?_)
  exact wpAny_pure (h2 h5 fun b o hb e=>k5 b o (k4 b o hb (k3 b o hb e)))
theorem by_text {Q:Bool->Shared->Prop} (h:Q (w.params.followText "set-order") s):wpAny (model prog w) A setsByText Q E s:=by
 unfold setsByText
 exact wpAny_bind (wpAny_askSetting (wpAny_pure h))
theorem siti_self {I:Addr}{o:Obj}{Q:Value->Shared->Prop} (hI:s.heap.get? I=some o) (hc:o.cls=.type "set_iterator") (h:Q (.ref I) s):wpAny (model prog w) A (pyIter (.ref I)) Q E s:=by
 have hT:s.TypeIs (.ref I) "set_iterator":=⟨_,hI,hc⟩
 have ent:entryFor table "set_iterator.__iter__"=some Builtin.«dict_keyiterator.__iter__»:=entryFor_alias (id':="dict_keyiterator.__iter__") (by kernel_rfl) rfl (by decide +kernel) (by kernel_rfl)
 have arg:argsOk "set_iterator.__iter__" ⟨[.ref I],[]⟩:=by
  unfold argsOk;rw[signature?_of (id:="set_iterator.__iter__") (n:=['_','_','r','e','t','i','_','_']) (o:=['r','o','t','a','r','e','t','i','_','t','e','s']) (by kernel_rfl) owner_sit];kernel_rfl
 refine wpAny_pyIter_slot hT slot_siti (wpAny_call_entry slot_siti hT ent ?_ arg)
 unfold Builtin.«dict_keyiterator.__iter__»
 refine wpAny_bind (wpAny_pure ?_)
 exact wpAny_pure ⟨_,rfl,"set_iterator",_,hT,slot_sit.lookup,h⟩
theorem walk_text {I a:Addr} (hne:a≠I) {es:Array (Int×Value)}{ep:Nat}{t:SetTable} (bt:w.params.followText "set-order"=true) (hh:A.handled=none) :
  WalksS prog w A I [I,a] [I] (fun x y=>y=x) es.size (fun i v=>((pickOrder (w.params.setOrder a ep) es).toList.map (·.2))[i]?=some v) (fun i s=>s.heap.get? I=some (sIt (.int 0 0) i a es.size ep)/\SAt s.heap a es ep t) where
 sub:=fun b hb=>by simp at hb;simp [hb]
 grefl:=fun _=>rfl
 gtrans:=fun _ _ _ h1 h2=>h2.trans h1
 frame:=fun i s h' tk st _ k=>⟨k I (by simp) _ st.1,k a (by simp) _ st.2.1,st.2.2⟩
 item:=fun i s Q E hi st q=>by
  have hs:(pickOrder (w.params.setOrder a ep) es).toList.length=es.size:=by rw[(pick_perm _ es).length_eq,Array.length_toList]
  have hi':i<(pickOrder (w.params.setOrder a ep) es).toList.length:=by lia
  have hx:(pickOrder (w.params.setOrder a ep) es)[i]?=some ((pickOrder (w.params.setOrder a ep) es).toList[i]):=by rw[<- Array.getElem?_toList];exact List.getElem?_eq_getElem hi'
  refine next_int (slot:=0) (r:=some (((pickOrder (w.params.setOrder a ep) es).toList[i]).2,0)) hh st.1 st.2 rfl (fun A' E' Q' q'=>?_) fun h' k hI=>?_
  ·unfold setNext
   refine wpAny_bind (wpAny_setState_of st.2.1 rfl st.2.2 (wpAny_bind (by_text ?_)))
   rw[bt,if_pos rfl,if_neg (by simp)]
   unfold setWalk
   refine wpAny_bind (wpAny_bind (wpAny_setState_of st.2.1 rfl st.2.2 (wpAny_bind (by_text ?_))))
   rw[bt,if_pos rfl]
   refine wpAny_bind (wpAny_askSetting (wpAny_pure (wpAny_pure ?_)))
   show Q' (((pickOrder (w.params.setOrder a ep) es)[i]?).map fun e=>(e.2,0)) s
   rw[hx];exact q'
  ·refine q _ _ ?_ ⟨hI,k a _ hne st.2.1,st.2.2⟩ ⟨fun b o hb e=>k b o (fun z=>hb (by simp [z])) e,rfl,rfl,rfl,Nat.le_refl _⟩
   rw[List.getElem?_map,List.getElem?_eq_getElem hi'];rfl
 done:=fun s Q E st q=>by
  have hs:(pickOrder (w.params.setOrder a ep) es).toList.length=es.size:=by rw[(pick_perm _ es).length_eq,Array.length_toList]
  have hx:(pickOrder (w.params.setOrder a ep) es)[es.size]?=none:=by rw[<- Array.getElem?_toList];exact List.getElem?_eq_none (by lia)
  refine next_int (slot:=0) (r:=none) hh st.1 st.2 rfl (fun A' E' Q' q'=>?_) fun h' k=>q _ ⟨fun b o hb e=>k b o (fun z=>hb (by simp [z])) e,rfl,rfl,rfl,Nat.le_refl _⟩
  unfold setNext
  refine wpAny_bind (wpAny_setState_of st.2.1 rfl st.2.2 (wpAny_bind (by_text ?_)))
  rw[bt,if_pos rfl,if_neg (by simp)]
  unfold setWalk
  refine wpAny_bind (wpAny_bind (wpAny_setState_of st.2.1 rfl st.2.2 (wpAny_bind (by_text ?_))))
  rw[bt,if_pos rfl]
  refine wpAny_bind (wpAny_askSetting (wpAny_pure (wpAny_pure ?_)))
  show Q' (((pickOrder (w.params.setOrder a ep) es)[es.size]?).map fun e=>(e.2,0)) s
  rw[hx];exact q'
 self:=fun i s Q E st q=>siti_self st.1 rfl q
theorem walk_one {I a:Addr} (hne:a≠I) {es:Array (Int×Value)}{ep:Nat}{t:SetTable} (bt:w.params.followText "set-order"=false) (led:t.led=true) (h1:es.size<=1) (hh:A.handled=none) :
  WalksS prog w A I [I,a] [I] (fun x y=>y=x) es.size (fun i v=>(es.toList.map (·.2))[i]?=some v) (fun i s=>s.heap.get? I=some (sIt (.int (if i=0 then 0 else t.place.getD 0 0+1:Nat) 0) i a es.size ep)/\SAt s.heap a es ep t) where
 sub:=fun b hb=>by simp at hb;simp [hb]
 grefl:=fun _=>rfl
 gtrans:=fun _ _ _ h1 h2=>h2.trans h1
 frame:=fun i s h' tk st _ k=>⟨k I (by simp) _ st.1,k a (by simp) _ st.2.1,st.2.2⟩
 item:=fun i s Q E hi st q=>by
  obtain rfl:i=0:=by lia
  have hz:es.size=1:=by lia
  have hp:t.place.size=1:=by
   have:=st.2.2
   simp only[SetTable.fits,Bool.and_eq_true,beq_iff_eq]at this
   lia
  have hdr:(!t.plain && decide (es.size > 1))=false:=by rw[hz];simp
  refine next_int (slot:=0) (r:=some ((es[0]'(by lia)).2,t.place.getD 0 0+1)) hh (by simpa using st.1) st.2 rfl (fun A' E' Q' q'=>?_) fun h' k hI=>?_
  ·unfold setNext
   refine wpAny_bind (wpAny_setState_of st.2.1 rfl st.2.2 (wpAny_bind (by_text ?_)))
   rw[bt,if_neg Bool.false_ne_true]
   dsimp only
   refine wpAny_ite_split (fun z=>absurd (hdr.symm.trans (show (!t.plain && decide (es.size > 1))=true from z)) Bool.false_ne_true) (fun _=>?_)
   refine wpAny_bind ?_
   show wpAny _ _ (if (!t.led && !es.isEmpty)=true then _ else pure PUnit.unit) _ _ s
   rw[led,if_neg (by simp)]
   refine wpAny_pure (wpAny_pure ?_)
   have eb:SetTable.below t.place 0=0:=by
    unfold SetTable.below
    rw[hp]
    simp [SetTable.below.go]
   rw[eb,Array.getElem?_eq_getElem (show 0<es.size by lia),Array.getElem?_eq_getElem (show 0<t.place.size by lia)]
   have eg:t.place.getD 0 0=t.place[0]'(by lia):=by rw[Array.getD_eq_getD_getElem?,Array.getElem?_eq_getElem (show 0<t.place.size by lia)];rfl
   rw[eg]at q'
   exact q'
  ·refine q _ _ ?_ ⟨by rw[if_neg (by lia)];exact hI,k a _ hne st.2.1,st.2.2⟩ ⟨fun b o hb e=>k b o (fun z=>hb (by simp [z])) e,rfl,rfl,rfl,Nat.le_refl _⟩
   rw[List.getElem?_map,Array.getElem?_toList,Array.getElem?_eq_getElem (show 0<es.size by lia)];rfl
 done:=fun s Q E st q=>by
  have hp:t.place.size=es.size:=by
   have:=st.2.2
   simp only[SetTable.fits,Bool.and_eq_true,beq_iff_eq]at this
   lia
  have hdr:(!t.plain && decide (es.size > 1))=false:=by simp;lia
  refine next_int (r:=none) hh st.1 st.2 rfl (fun A' E' Q' q'=>?_) fun h' k=>q _ ⟨fun b o hb e=>k b o (fun z=>hb (by simp [z])) e,rfl,rfl,rfl,Nat.le_refl _⟩
  unfold setNext
  refine wpAny_bind (wpAny_setState_of st.2.1 rfl st.2.2 (wpAny_bind (by_text ?_)))
  rw[bt,if_neg Bool.false_ne_true]
  dsimp only
  refine wpAny_ite_split (fun z=>absurd (hdr.symm.trans (show (!t.plain && decide (es.size > 1))=true from z)) Bool.false_ne_true) (fun _=>?_)
  refine wpAny_bind ?_
  show wpAny _ _ (if (!t.led && !es.isEmpty)=true then _ else pure PUnit.unit) _ _ s
  rw[led,if_neg (by simp)]
  refine wpAny_pure (wpAny_pure ?_)
  have eb:SetTable.below t.place (if es.size=0 then 0 else t.place.getD 0 0+1)=es.size:=by
   rcases Nat.lt_or_ge es.size 1 with hz | hz
   ·have z0:es.size=0:=by lia
    unfold SetTable.below
    rw[hp,z0]
    simp [SetTable.below.go]
   ·have z1:es.size=1:=by lia
    have eg:∀ d,t.place.getD 0 d=t.place[0]'(by lia):=fun d=>by rw[Array.getD_eq_getD_getElem?,Array.getElem?_eq_getElem (show 0<t.place.size by lia)];rfl
    unfold SetTable.below
    rw[hp,z1]
    simp [SetTable.below.go,eg]
  rw[eb,Array.getElem?_eq_none (Nat.le_refl _)]
  exact q'
 self:=fun i s Q E st q=>siti_self st.1 rfl q
theorem walk_drawn {I a tp:Addr} (hne:a≠I) (hnt:tp≠I) {es:Array (Int×Value)}{ep m:Nat}{t:SetTable}{ps:List Nat} (hp:ps.Perm (List.range es.size)) (hh:A.handled=none) :
  WalksS prog w A I [I,a,tp] [I] (fun x y=>y=x) es.size (fun i v=>(ps.map fun j=>(es.getD j (0,.none)).2)[i]?=some v)
   (fun i s=>s.heap.get? I=some (sIt (.ref tp) i a es.size ep)/\SAt s.heap a es ep t/\s.heap.get? tp=some { cls:=.type "tuple",data:=.seq (ps.map fun i=>rawInt (i:Nat)).toArray m }) where
 sub:=fun b hb=>by simp at hb;simp [hb]
 grefl:=fun _=>rfl
 gtrans:=fun _ _ _ h1 h2=>h2.trans h1
 frame:=fun i s h' tk st _ k=>⟨k I (by simp) _ st.1,⟨k a (by simp) _ st.2.1.1,st.2.1.2⟩,k tp (by simp) _ st.2.2⟩
 item:=fun i s Q E hi st q=>by
  have hl:ps.length=es.size:=by rw[hp.length_eq,List.length_range]
  have hi':i<ps.length:=by lia
  have hj:ps[i]<es.size:=List.mem_range.mp (hp.mem_iff.mp (List.getElem_mem hi'))
  refine next_ref hh st.1 st.2.1 rfl st.2.2 (.inl ⟨ps[i],0,es[ps[i]],?_,Array.getElem?_eq_getElem hj,fun h' k hI=>?_⟩)
  ·simp [List.getElem?_eq_getElem hi',rawInt]
  ·refine q _ _ ?_ ⟨hI,⟨k a _ hne st.2.1.1,st.2.1.2⟩,k tp _ hnt st.2.2⟩ ⟨fun b o hb e=>k b o (fun z=>hb (by simp [z])) e,rfl,rfl,rfl,Nat.le_refl _⟩
   rw[List.getElem?_map,List.getElem?_eq_getElem hi']
   simp [Array.getD_eq_getD_getElem?,Array.getElem?_eq_getElem hj]
 done:=fun s Q E st q=>by
  have hl:ps.length=es.size:=by rw[hp.length_eq,List.length_range]
  refine next_ref hh st.1 st.2.1 rfl st.2.2 (.inr ⟨?_,fun h' k=>q _ ⟨fun b o hb e=>k b o (fun z=>hb (by simp [z])) e,rfl,rfl,rfl,Nat.le_refl _⟩⟩)
  simp [hl]
 self:=fun i s Q E st q=>siti_self st.1 rfl q
end
end L2
end
section
namespace L2
open PySem PySem.Spec PyProof.Rows PySem.W
section
variable {prog:Program}{w:World}{A:Around}{E:Value->Shared->Prop}{s:Shared}
theorem iter_set {a:Addr}{zs:List Str}{Q:Value->Shared->Prop} (S:SetS prog w s.heap a zs)
  (h:∀ (I:Addr) (h':Heap) (d:Drawn) (fp:List Addr) (St:Nat->Shared->Prop) (os:List Value),(∀ b o,s.heap.get? b=some o->h'.get? b=some o)->(∀ b∈fp,s.heap.objs.size<=b\/b=a)->s.heap.objs.size<=I ->
   (∃ ys:List Str,StrsAre os ys/\ys.Nodup/\∀ x,x∈ys ↔ x∈zs)->(∀ A':Around,A'.handled=none->WalksS prog w A' I fp [I] (fun x y=>y=x) os.length (fun i v=>os[i]?=some v) St)->(∀ tk,St 0 { s with heap:=h',drawn:=d,toks:=tk })->Q (.ref I) { s with heap:=h',drawn:=d }) :
  wpAny (model prog w) A (pyIter (.ref a)) Q E s:=by
 obtain⟨es,ep,t,ho,hel,hf,hled,hpl,hsz,nd,hm⟩:=S
 have hT:s.TypeIs (.ref a) "set":=⟨_,ho,rfl⟩
 have S0:SAt s.heap a es ep t:=⟨ho,hf⟩
 have la:a<s.heap.objs.size:=Heap.lt_size ho
 have vals:∀ os:List Value,os.Perm (es.toList.map (·.2))->∃ ys:List Str,StrsAre os ys/\ys.Nodup/\∀ x,x∈ys ↔ x∈zs:=fun os p=>by
  have all:∀ v∈os,∃ u,v=.str (valS v) u:=fun v hv=>by
   obtain⟨e,he,rfl⟩:=List.mem_map.mp (p.mem_iff.mp hv)
   obtain⟨u,h1,_⟩:=elem_str hel he
   exact⟨u,h1⟩
  have are:∀ l:List Value,(∀ v∈l,∃ u,v=.str (valS v) u)->StrsAre l (l.map valS):=by
   intro l
   induction l with
   | nil=>intro _;exact .nil
   | cons v l ih=>
    intro hv
    obtain⟨u,e⟩:=hv v List.mem_cons_self
    have:=ih fun x hx=>hv x (List.mem_cons_of_mem _ hx)
    rw[List.map_cons]
    rw[e]
    exact .cons _ u this
  have pp:(os.map valS).Perm (strsOf es.toList):=by
   have:=p.map valS
   rw[List.map_map]at this
   exact this
  exact⟨os.map valS,are os all,pp.nodup_iff.mpr nd,fun x=>(pp.mem_iff).trans (hm x)⟩
 refine wpAny_pyIter_slot hT F.slot_set_iter (wpAny_call_entry F.slot_set_iter hT entry_setiter ?_ (F.args_set_iter_1 _))
 unfold Builtin.«frozenset.__iter__» Builtin.Frozenset.slot0
 refine wpAny_bind (wpAny_pure ?_)
 unfold Builtin.Frozenset.sizeOf
 refine wpAny_bind (wpAny_bind (set_entries S0 (wpAny_pure ?_)))
 unfold setDrawn
 refine wpAny_bind (wpAny_bind (wpAny_setState_of S0.1 rfl S0.2 (wpAny_bind (by_text (wpAny_pure ?_)))))
 have size_ne:a≠s.heap.objs.size:=Nat.ne_of_lt la
 cases bt:w.params.followText "set-order" with
 | true=>
  refine wpAny_ite_split (fun z=>absurd z (by simp)) (fun _=>?_)
  refine wpAny_bind (wpAny_pure ?_)
  refine wpAny_bind (wpAny_setEpoch_of S0.1 rfl S0.2 ?_)
  unfold newFields
  refine wpAny_bind (wpAny_newObj_type (wpAny_pure ⟨_,rfl,"set_iterator",_,⟨_,Heap.get?_push_size _ rfl,rfl⟩,slot_sit.lookup,?_⟩) (by size_fits))
  have pp:=(pick_perm (w.params.setOrder a ep) es).map (·.2)
  have ol:((pickOrder (w.params.setOrder a ep) es).toList.map (·.2)).length=es.size:=by rw[pp.length_eq];simp
  refine h s.heap.objs.size _ s.drawn [s.heap.objs.size,a] (fun i s'=>s'.heap.get? s.heap.objs.size=some (sIt (.int 0 0) i a es.size ep)/\SAt s'.heap a es ep t) ((pickOrder (w.params.setOrder a ep) es).toList.map (·.2)) (fun b o e=>Heap.get?_push_of_some _ e) (fun b hb=>?_) (Nat.le_refl _) (vals _ pp) (fun A' hA=>by rw[ol];exact walk_text size_ne (t:=t) bt hA) (fun tk=>⟨Heap.get?_push_size _ rfl,Heap.get?_push_of_some _ S0.1,S0.2⟩)
  simp at hb
  rcases hb with rfl | rfl
  ·exact .inl (Nat.le_refl _)
  ·exact .inr rfl
 | false=>
  rw[bt]at hled
  rcases Nat.lt_or_ge 1 es.size with h2 | h1
  ·have pl:t.plain=false:=by
    rcases hpl with z | z
    ·exact z
    ·rw[z]at h2;simp at h2
   refine wpAny_ite_split (fun _=>?_) (fun z=>absurd (show (!false && (!t.plain && decide (es.size > 1)))=true by rw[pl];simp;lia) z)
   refine wpAny_bind (draw_order es.size (List.range es.size) s _ (by simp) fun ps d hp=>?_)
   refine wpAny_bind (wpAny_newTuple ?_ (by rw[List.length_map,hp.length_eq,List.length_range];exact fits_of_scanBound (by show es.size<4096;lia)))
   have o1:∀ {o:Obj}{b:Addr},s.heap.get? b=some o->(s.heap.push { cls:=.type "tuple",data:=.seq (ps.map fun (i:Nat)=>rawInt i).toArray }).get? b=some o:=fun e=>Heap.get?_push_of_some _ e
   refine wpAny_bind (wpAny_setEpoch_of (o1 S0.1) rfl S0.2 ?_)
   unfold newFields
   refine wpAny_bind (wpAny_newObj_type (wpAny_pure ⟨_,rfl,"set_iterator",_,⟨_,Heap.get?_push_size _ rfl,rfl⟩,slot_sit.lookup,?_⟩) (by size_fits))
   have hl:ps.length=es.size:=by rw[hp.length_eq,List.length_range]
   have pp:(ps.map fun j=>(es.getD j (0,.none)).2).Perm (es.toList.map (·.2)):=by
    refine (hp.map _).trans ?_
    have e:(List.range es.size).map (fun j=>(es.getD j (0,.none)).2)=es.toList.map (·.2):=by
     refine List.ext_getElem? fun i=>?_
     rw[List.getElem?_map,List.getElem?_map]
     by_cases hi:i<es.size
     ·have a1:(List.range es.size)[i]?=some i:=by simp [hi]
      have a2:es.toList[i]?=some es[i]:=by simp [hi]
      rw[a1,a2]
      simp [Array.getD_eq_getD_getElem?,Array.getElem?_eq_getElem hi]
     ·have a1:(List.range es.size)[i]?=none:=by simp;lia
      have a2:es.toList[i]?=none:=by simp;lia
      rw[a1,a2];rfl
    rw[e]
   have sz1:(s.heap.push { cls:=.type "tuple",data:=.seq (ps.map fun (i:Nat)=>rawInt i).toArray }).objs.size=s.heap.objs.size+1:=Heap.size_push _ _
   have n1:a≠(s.heap.push { cls:=.type "tuple",data:=.seq (ps.map fun (i:Nat)=>rawInt i).toArray }).objs.size:=by rw[sz1];exact Nat.ne_of_lt (Nat.lt_succ_of_lt la)
   have n2:s.heap.objs.size≠(s.heap.push { cls:=.type "tuple",data:=.seq (ps.map fun (i:Nat)=>rawInt i).toArray }).objs.size:=by rw[sz1];exact Nat.ne_of_lt (Nat.lt_succ_self _)
   refine h (s.heap.push { cls:=.type "tuple",data:=.seq (ps.map fun (i:Nat)=>rawInt i).toArray }).objs.size _ d [(s.heap.push { cls:=.type "tuple",data:=.seq (ps.map fun (i:Nat)=>rawInt i).toArray }).objs.size,a,s.heap.objs.size]
    (fun i s'=>s'.heap.get? (s.heap.push { cls:=.type "tuple",data:=.seq (ps.map fun (i:Nat)=>rawInt i).toArray }).objs.size=some (sIt (.ref s.heap.objs.size) i a es.size ep)/\SAt s'.heap a es ep t/\s'.heap.get? s.heap.objs.size=some { cls:=.type "tuple",data:=.seq (ps.map fun i=>rawInt (i:Nat)).toArray 0 })
    (ps.map fun j=>(es.getD j (0,.none)).2) (fun b o e=>Heap.get?_push_of_some _ (o1 e)) (fun b hb=>?_) (by rw[sz1];exact Nat.le_succ _) (vals _ pp) (fun A' hA=>by rw[List.length_map,hl];exact walk_drawn (m:=0) n1 n2 (t:=t) (ep:=ep) hp hA) (fun tk=>⟨Heap.get?_push_size _ rfl,⟨Heap.get?_push_of_some _ (o1 S0.1),S0.2⟩,Heap.get?_push_of_some _ (Heap.get?_push_size _ rfl)⟩)
   simp only[List.mem_cons,List.not_mem_nil,or_false]at hb
   rcases hb with rfl | rfl | rfl
   ·exact .inl (by rw[sz1];exact Nat.le_succ _)
   ·exact .inr rfl
   ·exact .inl (Nat.le_refl _)
  ·refine wpAny_ite_split (fun z=>absurd (show (!false && (!t.plain && decide (es.size > 1)))=true from z) (by simp;lia)) (fun _=>?_)
   refine wpAny_bind (wpAny_pure ?_)
   refine wpAny_bind (wpAny_setEpoch_of S0.1 rfl S0.2 ?_)
   unfold newFields
   refine wpAny_bind (wpAny_newObj_type (wpAny_pure ⟨_,rfl,"set_iterator",_,⟨_,Heap.get?_push_size _ rfl,rfl⟩,slot_sit.lookup,?_⟩) (by size_fits))
   have ol:(es.toList.map (·.2)).length=es.size:=by simp
   refine h s.heap.objs.size _ s.drawn [s.heap.objs.size,a] (fun i s'=>s'.heap.get? s.heap.objs.size=some (sIt (.int (if i=0 then 0 else t.place.getD 0 0+1:Nat) 0) i a es.size ep)/\SAt s'.heap a es ep t) (es.toList.map (·.2)) (fun b o e=>Heap.get?_push_of_some _ e) (fun b hb=>?_) (Nat.le_refl _) (vals _ (.refl _)) (fun A' hA=>by rw[ol];exact walk_one size_ne (t:=t) bt (by simpa using hled) h1 hA) (fun tk=>⟨Heap.get?_push_size _ rfl,Heap.get?_push_of_some _ S0.1,S0.2⟩)
   simp at hb
   rcases hb with rfl | rfl
   ·exact .inl (Nat.le_refl _)
   ·exact .inr rfl
theorem hint_set {r:Addr}{Q:Bool->Shared->Prop} (hT:s.TypeIs (.ref r) "set") (h:Q false s):wpAny (model prog w) A (Builtin.List.listLengthHint (.ref r)) Q E s:=by
 unfold Builtin.List.listLengthHint
 refine wpAny_bind (wpAny_specialOf hT PySem.F.slot_set_len.lookup ?_)
 generalize hid:("set.__len__" : String)=id0
 wp_delta
 rw[show splitId id0=some ("set","__len__") from by subst hid;decide +kernel]
 subst hid
 refine wpAny_bind (wpAny_isInstance (T:="set") (b:=true) hT (by rw[isSubtype_type];kernel_rfl) ?_)
 refine wpAny_ite_split (fun z=>absurd z (by decide)) (fun _=>wpAny_ite_split (fun _=>wpAny_bind (wpAny_typeOf hT (wpAny_pure h))) (fun z=>absurd (by decide +kernel) z))
theorem collect_set {a : Addr} {zs : List Str} {R : List Value -> Shared -> Prop} (hh : A.handled = none) (S : SetS prog w s.heap a zs) (hz : zs.length < 3900)
    (h : ∀ (h' : Heap) (tk : Nat) (d : Drawn) (os : List Value) (ys : List Str), (∀ b o, s.heap.get? b = some o -> h'.get? b = some o) -> StrsAre os ys -> ys.Nodup -> (∀ x, x ∈ ys ↔ x ∈ zs) -> R os { s with heap := h', toks := tk, drawn := d }) :
    wpAny (model prog w) A (collect (.ref a)) R E s := by
  have la : a < s.heap.objs.size := let ⟨_, _, _, ho, _⟩ := S; Heap.lt_size ho
  unfold collect
  refine wpAny_bind (wpAny_runValue (codeAny_builtin entry_proto_collect' ?_))
  rw [Around.under_plainId PySem.F.plain_proto_collect _]
  show wpAny _ A.in1 (newList [] >>= fun u => again (.builtin "list.__iadd__" ⟨[u, .ref a], []⟩)) _ _ s
  refine wpAny_bind (wpAny_newObj_type (wpAny_pure ⟨plainId_quiet PySem.F.plain_list_iadd _, codeAny_builtin entry_list_iadd' ?_⟩))
  rw [Around.under_plainId PySem.F.plain_list_iadd _]
  have hL : (s.heap.push { cls := .type "list", data := .seq ([] : List Value).toArray }).get? s.heap.objs.size = some { cls := .type "list", data := .seq #[] } := Heap.get?_push_size _ rfl
  have S1 : SetS prog w (s.heap.push { cls := .type "list", data := .seq ([] : List Value).toArray }) a zs := S.at fun o e => Heap.get?_push_of_some _ e
  have hT : Shared.TypeIs { s with heap := s.heap.push { cls := .type "list", data := .seq ([] : List Value).toArray } } (.ref a) "set" := let ⟨_, _, _, ho, _⟩ := S1; ⟨_, ho, rfl⟩
  have sz1 : (s.heap.push { cls := .type "list", data := .seq ([] : List Value).toArray }).objs.size = s.heap.objs.size + 1 := Heap.size_push _ _
  have k0 : ∀ b o, s.heap.get? b = some o -> (s.heap.push { cls := .type "list", data := .seq ([] : List Value).toArray }).get? b = some o := fun b o e => Heap.get?_push_of_some _ e
  show wpAny _ A.in1 (Builtin.List.listExtendWith (.ref s.heap.objs.size) (.ref a) (.ref s.heap.objs.size)) _ _ _
  generalize s.heap.push { cls := .type "list", data := .seq ([] : List Value).toArray } = g1 at hL S1 hT sz1 k0 ⊢
  have nLa : s.heap.objs.size ≠ a := Nat.ne_of_gt la
  unfold Builtin.List.listExtendWith
  refine wpAny_bind (wpAny_typeOf (T := "set") hT ?_)
  have e1 : Builtin.List.listSameRef (.ref s.heap.objs.size) (.ref a) = false := by simp [Builtin.List.listSameRef, nLa]
  simp only [e1, show (Value.type "set" == Value.type "list") = false by decide, show (Value.type "set" == Value.type "tuple") = false by decide, Bool.or_false, Bool.false_eq_true, if_false]
  refine wpAny_bind (iter_set S1 fun I h2 d fp St os k2 hfp hI are W st => ?_)
  obtain ⟨ys, sa, nd, mem⟩ := are
  have hL2 := k2 _ _ hL
  have nf : s.heap.objs.size ∉ fp := fun z => by
    rcases hfp _ z with q | q
    · rw [sz1] at q; lia
    · exact nLa q
  have nI : s.heap.objs.size ≠ I := by rw [sz1] at hI; lia
  have hT2 : Shared.TypeIs { s with heap := h2, drawn := d } (.ref a) "set" := let ⟨_, _, _, ho, _⟩ := S1; ⟨_, k2 _ _ ho, rfl⟩
  refine wpAny_bind (wpAny_holding (hint_set hT2 ?_))
  have lo : os.length = ys.length := sa.length
  have fit : os.length <= sizeLine := by
    have := List.Nodup.length_le_of_subset nd fun y hy => (mem y).mp hy
    exact Nat.le_trans (show os.length <= 4000 by lia) (by decide)
  have key : ∀ (g : Heap) (c tk : Nat), St 0 { s with heap := g, drawn := d, toks := tk } -> (∀ b o, b ≠ s.heap.objs.size -> h2.get? b = some o -> g.get? b = some o) -> g.get? s.heap.objs.size = some { cls := .type "list", data := .seq #[] c } ->
      codeAny (model prog w) A (.builtin "list.extend.loop" ⟨[.ref s.heap.objs.size, .ref I, .ref s.heap.objs.size], []⟩) (fun r s' => ∃ (h' : Heap) (tk : Nat) (acc : Array Value) (c' : Nat), r = .ok (.ret (.ref s.heap.objs.size)) /\ s' = { s with heap := h', toks := tk, drawn := d } /\ (∀ b o, s.heap.get? b = some o -> h'.get? b = some o) /\
        h'.get? s.heap.objs.size = some { cls := .type "list", dict := none, data := .seq acc c', slots := #[] } /\ ItemsOf (fun i v => os[i]? = some v) acc os.length) { s with heap := g, drawn := d, toks := tk } := by
    intro g c tk st' kg hg
    refine codeAny_extend_loopS (W A.in1 (by simpa using hh)) fit s.heap.objs.size nf (.ref s.heap.objs.size) os.length 0 _ #[] c rfl (Nat.zero_le _) st' hg (ItemsOf.nil _) fun s' acc c' m hS' hacc => ?_
    obtain ⟨hx, gx, dx, tx, ox⟩ := s'
    have eg : gx = s.gens := m.gens
    have ed : dx = d := m.drawn
    have eo : ox = s.os := m.os
    subst eg; subst ed; subst eo
    refine ⟨hx, tx, acc, c', rfl, rfl, fun b o e => ?_, hS', hacc⟩
    have lb := Heap.lt_size e
    refine m.heap b o ?_ (kg b o (Nat.ne_of_lt lb) (k2 b o (k0 b o e)))
    simp only [List.mem_cons, List.not_mem_nil, or_false, not_or]
    exact ⟨Nat.ne_of_lt lb, Nat.ne_of_lt (Nat.lt_trans lb (by rw [sz1] at hI; exact hI))⟩
  have fin : ∀ (r : Result) (s' : Shared), (∃ (h' : Heap) (tk : Nat) (acc : Array Value) (c' : Nat), r = .ok (.ret (.ref s.heap.objs.size)) ∧ s' = { s with heap := h', toks := tk, drawn := d } ∧ (∀ b o, s.heap.get? b = some o → h'.get? b = some o) ∧
        h'.get? s.heap.objs.size = some { cls := .type "list", dict := none, data := .seq acc c', slots := #[] } /\ ItemsOf (fun i v => os[i]? = some v) acc os.length) -> ∃ (h' : Heap) (tk c' : Nat), r = .ok (.ret (.ref s.heap.objs.size)) /\ s' = { s with heap := h', toks := tk, drawn := d } /\ h'.get? s.heap.objs.size = some { cls := .type "list", dict := none, data := .seq os.toArray c', slots := #[] } /\ R os { s with heap := h', toks := tk, drawn := d } := by
    rintro r s' ⟨h', tk, acc, c', rfl, rfl, k, hS', hacc⟩
    have e : acc = os.toArray := by
      refine Array.ext (by rw [List.size_toArray]; exact hacc.1) fun i h1 h2 => ?_
      have := hacc.2 i acc[i] (Array.getElem?_eq_getElem h1)
      rw [List.size_toArray] at h2
      rw [List.getElem?_eq_getElem h2] at this
      injection this with this
      rw [<- this]; simp
    subst e
    exact ⟨h', tk, c', rfl, rfl, hS', h h' tk d os ys k sa nd mem⟩
  refine wpAny_ite_split (fun _ => ?touch) (fun _ => wpAny_pure ⟨plainId_quiet PySem.F.plain_extend_loop _, codeAny_mono (key h2 0 s.toks (st _) (fun b o _ e => e) hL2) fun r s' y => ?last⟩)
  case last =>
    obtain ⟨h', tk, c', rfl, rfl, hS', q⟩ := fin r s' y
    show wpAny _ A (load s.heap.objs.size >>= _) _ _ _
    exact wpAny_bind (wpAny_load hS' (wpAny_pure q))
  case touch =>
    refine wpAny_bind (wpAny_rule (wpAny_bind ?_))
    show wpAny _ _ (updateSeq s.heap.objs.size (·.push .none) >>= fun _ => updateSeq s.heap.objs.size (·.pop)) _ _ _
    refine wpAny_bind (wpAny_updateSeq hL2 rfl ?_)
    have u2 := Heap.get?_update_self (Obj.mapSeq (·.push Value.none)) hL2 rfl
    refine wpAny_updateSeq (hz := by seq_fits) u2 rfl ?_
    have u3 := Heap.get?_update_self (Obj.mapSeq (·.pop)) u2 rfl
    have oth : ∀ b o, b ≠ s.heap.objs.size -> h2.get? b = some o -> ((h2.update s.heap.objs.size (Obj.mapSeq (·.push Value.none))).update s.heap.objs.size (Obj.mapSeq (·.pop))).get? b = some o := fun b o hb e => (Heap.get?_update_other _ _ (Ne.symm hb)).trans ((Heap.get?_update_other _ _ (Ne.symm hb)).trans e)
    refine wpAny_pure ⟨plainId_quiet PySem.F.plain_extend_loop _, codeAny_mono (key _ _ s.toks ((W A hh).frame 0 _ _ _ (st s.toks) (Nat.le_refl _) fun b hb o e => oth b o (fun z => nf (z ▸ hb)) e) oth u3) fun r s' y => ?_⟩
    obtain ⟨h', tk, c', rfl, rfl, hS', q⟩ := fin r s' y
    show wpAny _ A (load s.heap.objs.size >>= _) _ _ _
    exact wpAny_bind (wpAny_load hS' (wpAny_pure q))
end
end L2
end
section
namespace L2
open PySem PySem.Spec PyProof.Rows
theorem bt_set:bootBuiltins "set"=some (.type "set"):=by decide +kernel
theorem bt_max:bootBuiltins "max"=some (.builtin "max"):=by decide +kernel
theorem bt_all:bootBuiltins "all"=some (.builtin "all"):=by decide +kernel
section
variable {X:Cx}
theorem op_fdivB:OpR X (binaryOp .FloorDiv) (rI (fun _ j=>0<j/\j<2 ^ 200) fun i j=>.int (i / j)):=opI fun i j _ _ _ _ _ hc q=>by
 have h1:(0:Int)<j:=hc.1
 have h2:j<2 ^ 200:=hc.2
 have h3:j.natAbs<2 ^ 200:=by lia
 exact floordiv_int (by lia) (by rw[Int.fdiv_eq_ediv_of_nonneg i (by lia)];exact q) (.inl (PyProof.noPylong_of_log2 (Nat.lt_of_lt_of_le ((Nat.log2_lt (by lia)).mpr h3) (by decide))))
theorem op_mulU:OpR X (binaryOp .Mult) (fun x y H Q=>rI CMul (fun i j=>.int (i * j)) x y H Q\/rRep x y H Q):=op_mul.or op_rep
def rSplit:V->List V->Hp->VK->Prop:=fun x xs H Q=>∃ a b:Str,x=.str a/\xs=[.str b]/\(b.length == 0)=false/\a.length+2<=sizeLine/\∀ p,H p=none->Q (.ref p) (upd H p (.lst ((Txt.split a b).map V.str)))
theorem mt_split:MtR X "str.split" rSplit:=by
 intro pins s σ H x xs v us Q I rx rxs h
 obtain⟨a,b,rfl,rfl,hb,hz,q⟩:=h
 obtain⟨t,rfl⟩:=rx
 obtain⟨u,rfl,ru⟩:=rxs.one
 obtain⟨t2,rfl⟩:=ru
 have hn:(Builtin.Str.partsBetween a (Builtin.Str.occurrences a b 0 a.length (a.length+1)) b.length).length<=sizeLine:=by
  have e1:=StrLaws.occ_length_le a b 0 a.length (a.length+1)
  rw[length_partsBetween];lia
 have fin:∀ (l:List (Str×Tok)) (k:Nat),l.map (·.1)=Txt.split a b->l.length<=sizeLine->EP X pins σ Q (.ref s.heap.objs.size) { s with heap:=s.heap.push { cls:=.type "list",data:=.seq (strValues l).toArray },toks:=k }:=fun l k e hl=>
  ⟨.ref _,_,I.lnew (t':=k) (ofStrs (strsAre_of_values l)) (by rw[List.length_map,List.length_map];exact hl),rfl,by rw[e];exact q _ I.fresh⟩
 cases h1:(decide (a.length<b.length) || decide (Builtin.Str.strKind a<Builtin.Str.strKind b))
 case true=>exact call_meets F.slot_str_split (typeIs_str _ _ _) F.entry_str_split (F.args_str_split_2 _ _) (meets_str_split_cannot_occur a b t t2 h1) (fin [(a,t)] s.toks (if_pos h1).symm (by show 1<=sizeLine;decide))
 cases hf:(Builtin.Str.occurrences a b 0 a.length (a.length+1)).isEmpty
 case true=>exact call_meets F.slot_str_split (typeIs_str _ _ _) F.entry_str_split (F.args_str_split_2 _ _) (meets_str_split_not_found a b t t2 h1 hb hf) (fin [(a,t)] s.toks ((if_neg (ne_true_of_eq_false h1)).trans (if_pos hf)).symm (by show 1<=sizeLine;decide))
 refine call_meets F.slot_str_split (typeIs_str _ _ _) F.entry_str_split (F.args_str_split_2 _ _) (meets_str_split_sep a b t t2 h1 hb hf (by lia) hn) ?_
 show wants _ _ _ { s with toks:=_,heap:=s.heap.push { cls:=.type "list",data:=.seq (strsFrom s.toks (Builtin.Str.partsBetween a (Builtin.Str.occurrences a b 0 a.length (a.length+1)) b.length)).toArray } }
 rw[strsFrom_eq]
 refine fin (numbered s.toks _) _ ((numbered_texts _ _).trans ((if_neg (ne_true_of_eq_false h1)).trans (if_neg (ne_true_of_eq_false hf))).symm) ?_
 have e:=congrArg List.length (numbered_texts s.toks (Builtin.Str.partsBetween a (Builtin.Str.occurrences a b 0 a.length (a.length+1)) b.length))
 rw[List.length_map]at e
 rw[e];exact hn
theorem Inv.setd {pins:List (Addr×Obj)} {σ:St} {H:Hp}{s:Shared} (I:Inv X pins σ H s) (d:Drawn):Inv X pins σ H { s with drawn:=d }:=⟨I.ok,I.os,I.bare,I.base,I.loc,I.cell,I.free,I.freeC,I.pin,I.hok,I.len⟩
theorem sorted_set {pins:List (Addr×Obj)}{s:Shared} {σ:St} {H:Hp}{a:Addr}{zs:List Str}{Q:VK} (hc:X.calm=true) (I:Inv X pins σ H s) (S:SetS X.prog X.w s.heap a zs) (h64:zs.length<64)
  (q:∀ (p:Addr) (ys:List Str),H p=none->ys.Nodup->(∀ x,x∈ys ↔ x∈zs)->sortedS ys=true->Q (.ref p) (upd H p (.lst (ys.map V.str)))) :
  wpAny (model X.prog X.w) X.A (call (.builtin "sorted") [.ref a]) (EP X pins σ Q) X.xe s:=by
 have hh:=I.ok.hd hc
 refine Calls.call_function_entry kind_sorted plain_sorted entry_sorted (args_sorted1 _) ?_
 unfold Builtin.«sorted»
 refine wpAny_bind (m:=checkCount "sorted" 1 1 _) (wpAny_pure ?_)
 refine wpAny_bind (collect_set (A:=X.A.in1) hh S (by lia) fun h' tk d os ss keep hS nd mem=>?_)
 have hl:os.length=ss.length:=hS.length
 have le:ss.length<=zs.length:=List.Nodup.length_le_of_subset nd fun y hy=>(mem y).mp hy
 have fit:os.length<=sizeLine:=Nat.le_trans (show os.length<=64 by lia) (by decide)
 refine wpAny_bind (wpAny_newList ?_ fit)
 have hoL:(h'.push { cls:=.type "list",data:=.seq os.toArray }).get? h'.objs.size=some (seqObj "list" os.toArray 0):=Heap.get?_push_size _ rfl
 refine wpAny_bind (wpAny_holding (wpAny_call_entry slot_list_sort ⟨_,hoL,rfl⟩ entry_list_sort (list_sort_treeK strKind_oneLt hoL hS.keysOf (fun v₁ v₂ rest e=>keyKind_strs (by rw[<- e];exact hS)) (by lia) fun st' a1 a2=>⟨_,rfl,?_⟩) (args_list_sort _)))
 obtain⟨ys,b1,b2,b3⟩:=sorted_out_str hS a1 a2
 refine wpAny_pure ⟨_,rfl,?_⟩
 have I1:Inv X pins σ H { s with heap:=h',toks:=tk,drawn:=d }:=(I.kept (t':=tk) keep).setd d
 obtain⟨e,hat2⟩:=sortedHeap_at (out:=(arrOf st').map (·.2)) hoL
 have hz:(ys.map V.str).length<=sizeLine:=by rw[List.length_map,b2.length_eq,<- hl];exact fit
 refine⟨.ref h'.objs.size,upd H h'.objs.size (.lst (ys.map V.str)),?_,rfl,q _ ys (I1.hok.fresh (Nat.le_refl _)) (b2.nodup_iff.mpr nd) (fun x=>b2.mem_iff.trans (mem x)) b3⟩
 refine I1.laid (t':=tk) (fun b o hb=>?_) (Nat.le_refl _) ⟨hz,_,e,ofStrs b1,?_⟩
 ·have hlt:b<h'.objs.size:=Heap.lt_size hb
  rw[sortedHeap_old (Nat.ne_of_lt hlt) (by rw[Heap.size_push];exact Nat.lt_succ_of_lt hlt)]
  exact Heap.get?_push_of_some _ hb
 ·rw[hat2]
theorem strsOfVals:∀ {us:List Value}{ys:List Str},Vals (ys.map V.str) us->StrsAre us ys
 | _,[],h=>by cases h;exact .nil
 | _,y::ys,h=>by
  rw[List.map_cons]at h
  cases h with
  | cons r rs=>
   obtain⟨t,rfl⟩:=r
   exact .cons _ _ (strsOfVals rs)
def tSS (te:TE):TE:=fun σ H Q=>te σ H fun x H1=>∃ (a:Addr) (zs:List Str),[x]=[V.ref a]/\H1 a=some (.lst (zs.map V.str))/\zs.length<64 /\
 ∀ (p:Addr) (ys:List Str),H1 p=none->ys.Nodup->(∀ x,x∈ys ↔ x∈zs)->sortedS ys=true->Q (.ref p) (upd H1 p (.lst (ys.map V.str)))
theorem pe_ss {e:Expr}{te:TE}{p1 p2 pos1 pos2:Pos} (hc:X.calm=true) (hg1:Gl X "sorted") (hm1:X.mg "sorted"=none) (hg2:Gl X "set") (hm2:X.mg "set"=none) (he:PE X e te) (hs:notStar e=true) :
  PE X (.Call (.Name "sorted" p1) [.Call (.Name "set" p2) [e] [] pos2] [] pos1) (tSS te):=by
 intro pins s σ H Q I h
 refine wpAny_Call_Name_kw (ld_blt I hg1 hm1 bt_sorted ?_ (by decide) (by decide))
 refine PyProof.Rows.callWith_builtin1 ?_ (star_cons rfl) rfl
 rw[star_cons (e:=.Call (.Name "set" p2) [e] [] pos2) rfl]
 show wpAny _ _ (spliced ((false,eval (.Call (.Name "set" p2) [e] [] pos2) X.env)::backTo pos1 (starEach [] X.env))) _ _ s
 refine Calls.spliced_cons ?_
 refine wpAny_Call_Name_kw (ld_blt I hg2 hm2 bt_set ?_ (by decide) (by decide))
 refine PyProof.Rows.callWith_type1 ?_ (star_cons hs) rfl
 refine thn (qa_cons he pa_nil hs pos2 pins s σ H (fun xs H1=>∃ (a:Addr) (zs:List Str),xs=[.ref a]/\H1 a=some (.lst (zs.map V.str))/\zs.length<64/\∀ (p:Addr) (ys:List Str),H1 p=none->ys.Nodup->(∀ x,x∈ys ↔ x∈zs)->sortedS ys=true->Q (.ref p) (upd H1 p (.lst (ys.map V.str)))) I ?_) fun us s1 ⟨vs,H1,I1,r1,a,zs,ea,hH,h64,q⟩=>?_
 ·exact h
 subst ea
 obtain⟨u,rfl,ru⟩:=r1.one
 cases ru
 obtain⟨z,its,n,r,hl,e⟩:=I1.lstM hH
 have are:StrsAre its zs:=strsOfVals r
 refine call_set_str (A:=X.A) (its:=its.toArray) (I1.ok.hd hc) ⟨_,e,rfl,n,rfl⟩ (by simpa using are) (by lia) fun h' tk S keep=>?_
 refine Calls.spliced_nil ?_
 exact sorted_set hc (I1.kept (t':=tk) keep) S h64 q
theorem we_ss {e:Expr}{te:TE}{p1 p2 pos1 pos2:Pos} (hc:X.calm=true) (hg1:Gl X "sorted") (hm1:X.mg "sorted"=none) (hg2:Gl X "set") (hm2:X.mg "set"=none) (he:Hd (PE X e te)) (hs:notStar e=true:=by rfl) :
  Hd (PE X (.Call (.Name "sorted" p1) [.Call (.Name "set" p2) [e] [] pos2] [] pos1) (tSS te)):=⟨pe_ss hc hg1 hm1 hg2 hm2 he.out hs⟩
end
end L2
end
section
namespace L2
open PySem PySem.Spec PyProof.Rows
section
variable {X:Cx}
theorem call_strU:CallR X (.type "str") (fun xs H Q=>(∃ i,xs=[.int i]/\i.natAbs.log2<1920/\Q (.str (toString i)) H)\/∃ z,xs=[.str z]/\Q (.str z) H):=call_str_int.or fun pins s σ H xs us Q I r h=>by
 obtain⟨z,rfl,q⟩:=h
 obtain⟨u,rfl,ru⟩:=r.one
 obtain⟨t,rfl⟩:=ru
 exact PySem.P.str_of_str ⟨.str z,H,I,⟨t,rfl⟩,q⟩
def rEqLK (K:PySem.W.Frag):R2:=fun x y H Q=>∃ a b xs,x=.ref a/\y=.ref b/\SqL K H a xs/\H b=some (.lst [])/\Q (.bl (decide (xs=[]))) H
theorem op_eqLK (hu:X.A.units<cLine):OpR X (compareOp .Eq) (rEqLK X.K):=by
 intro pins s σ H x y v u Q I rx ry h
 obtain⟨a,b,xs,rfl,rfl,ha,hb,q⟩:=h
 cases rx
 cases ry
 obtain⟨its,r,p,_⟩:=I.list ha
 obtain⟨its2,r2,p2,_⟩:=I.list (SqL.of hb)
 cases r2
 by_cases hx:xs=[]
 ·subst hx
  cases r
  refine SeqAt.RcAt.lists (A:=X.A) (e:=fun _=>true) p.isList p2.isList rfl hu (fun j h1=>by simp at h1) _ _ _ _ ⟨.bl true,H,I,rfl,?_⟩
  simpa using q
 ·refine SeqAt.RcAt.lists_lengths (A:=X.A) p.isList p2.isList ?_ hu _ _ _ _ ⟨.bl false,H,I,rfl,?_⟩
  ·have:=r.length
   have h0:its≠[]:=fun z=>hx (by subst z;cases xs with | nil=>rfl | cons _ _=>simp at this)
   cases its with
   | nil=>exact absurd rfl h0
   | cons _ _=>simp
  ·rw[decide_eq_false hx]at q
   exact q
end
def kyC:Key:=Sum.inr (Str.ofString "cells")
def kyN:Key:=Sum.inr (Str.ofString "next")
def kyR:Key:=Sum.inr (Str.ofString "rest")
def kyT:Key:=Sum.inr (Str.ofString "count")
def kyK:Key:=Sum.inr (Str.ofString "knots")
structure HdIs (H:Hp) (p c:Addr) (cs:List Int) (n r t:Int) (kn:Option Int) (kvs:List (Key×V)):Prop where
 at_:H p=some (.dK kvs)
 len:kvs.length<=20
 cell:valV kvs kyC=some (.ref c)
 nxt:valV kvs kyN=some (.int n)
 rst:valV kvs kyR=some (.int r)
 cnt:valV kvs kyT=some (.int t)
 knt:valV kvs kyK=kn.map V.int
 lst:H c=some (.lst (cs.map V.int))
 c1:1<=cs.length
 c64:cs.length<=64
 n0:0<=n
theorem k_ne1:kyC≠kyN/\kyC≠kyR/\kyC≠kyT/\kyC≠kyK/\kyN≠kyR/\kyN≠kyT/\kyN≠kyK/\kyR≠kyT/\kyR≠kyK/\kyT≠kyK:=by decide +kernel
section
variable {H:Hp}{p c:Addr}{cs:List Int}{n r t:Int}{kn:Option Int}{kvs:List (Key×V)}
theorem HdIs.pc (h:HdIs H p c cs n r t kn kvs):c≠p:=fun e=>by
 have h1:=h.at_
 have h2:=h.lst
 rw[<- e,h2]at h1
 cases h1
theorem put_len {kvs:List (Key×V)}{k:Key}{v:V} (h:(valV kvs k).isSome=true):(putK kvs k v).length=kvs.length:=by
 unfold putK
 rw[valV_any,if_pos h,List.length_map]
theorem HdIs.putN (h:HdIs H p c cs n r t kn kvs) (n':Int) (h0:0<=n'):HdIs (upd H p (.dK (putK kvs kyN (.int n')))) p c cs n' r t kn (putK kvs kyN (.int n')):=by
 obtain⟨a1,a2,a3,a4,a5,a6,a7,a8,a9,a10⟩:=k_ne1
 refine⟨upd_same,by rw[put_len (by rw[h.nxt];rfl)];exact h.len,?_,?_,?_,?_,?_,by rw[upd_ne h.pc];exact h.lst,h.c1,h.c64,h0⟩
 ·rw[valV_put,if_neg a1];exact h.cell
 ·rw[valV_put,if_pos rfl]
 ·rw[valV_put,if_neg a5.symm];exact h.rst
 ·rw[valV_put,if_neg a6.symm];exact h.cnt
 ·rw[valV_put,if_neg a7.symm];exact h.knt
theorem HdIs.putR (h:HdIs H p c cs n r t kn kvs) (r':Int):HdIs (upd H p (.dK (putK kvs kyR (.int r')))) p c cs n r' t kn (putK kvs kyR (.int r')):=by
 obtain⟨a1,a2,a3,a4,a5,a6,a7,a8,a9,a10⟩:=k_ne1
 refine⟨upd_same,by rw[put_len (by rw[h.rst];rfl)];exact h.len,?_,?_,?_,?_,?_,by rw[upd_ne h.pc];exact h.lst,h.c1,h.c64,h.n0⟩
 ·rw[valV_put,if_neg a2];exact h.cell
 ·rw[valV_put,if_neg a5];exact h.nxt
 ·rw[valV_put,if_pos rfl]
 ·rw[valV_put,if_neg a8.symm];exact h.cnt
 ·rw[valV_put,if_neg a9.symm];exact h.knt
theorem HdIs.putT (h:HdIs H p c cs n r t kn kvs) (t':Int):HdIs (upd H p (.dK (putK kvs kyT (.int t')))) p c cs n r t' kn (putK kvs kyT (.int t')):=by
 obtain⟨a1,a2,a3,a4,a5,a6,a7,a8,a9,a10⟩:=k_ne1
 refine⟨upd_same,by rw[put_len (by rw[h.cnt];rfl)];exact h.len,?_,?_,?_,?_,?_,by rw[upd_ne h.pc];exact h.lst,h.c1,h.c64,h.n0⟩
 ·rw[valV_put,if_neg a3];exact h.cell
 ·rw[valV_put,if_neg a6];exact h.nxt
 ·rw[valV_put,if_neg a8];exact h.rst
 ·rw[valV_put,if_pos rfl]
 ·rw[valV_put,if_neg a10.symm];exact h.knt
theorem HdIs.putK' (h:HdIs H p c cs n r t kn kvs) (k':Int) (hl:kn≠none\/kvs.length<=10):HdIs (upd H p (.dK (putK kvs kyK (.int k')))) p c cs n r t (some k') (putK kvs kyK (.int k')):=by
 obtain⟨a1,a2,a3,a4,a5,a6,a7,a8,a9,a10⟩:=k_ne1
 refine⟨upd_same,?_,?_,?_,?_,?_,?_,by rw[upd_ne h.pc];exact h.lst,h.c1,h.c64,h.n0⟩
 ·rcases hl with z | z
  ·rw[put_len]
   ·exact h.len
   ·rw[h.knt]
    cases kn with
    | none=>exact absurd rfl z
    | some _=>rfl
  ·exact Nat.le_trans (length_putK _ _ _) (by lia)
 ·rw[valV_put,if_neg a4];exact h.cell
 ·rw[valV_put,if_neg a7];exact h.nxt
 ·rw[valV_put,if_neg a9];exact h.rst
 ·rw[valV_put,if_neg a10];exact h.cnt
 ·rw[valV_put,if_pos rfl];rfl
end
def Hn (H:Hp) (p c:Addr) (cs:List Int) (kn:Option Int):Prop:=∃ n r t kvs,HdIs H p c cs n r t kn kvs/\(kn=none->kvs.length<=10)
def Ex (p:Addr) (H H':Hp):Prop:=∀ b o,b≠p->H b=some o->H' b=some o
theorem Ex.trans {p:Addr}{H H1 H2:Hp} (a:Ex p H H1) (b:Ex p H1 H2):Ex p H H2:=fun c o n h=>b c o n (a c o n h)
theorem ex_upd {p:Addr}{H:Hp}{o:HO}:Ex p H (upd H p o):=fun b u n h=>by rw[upd_ne n];exact h
theorem ex_new {p q:Addr}{H:Hp}{o:HO} (h:H q=none):Ex p H (upd H q o):=fun b u n e=>by rw[upd_ne (ne_of_none e h)];exact e
theorem HdIs.keep {H H':Hp}{p c:Addr}{cs:List Int}{n r t:Int}{kn:Option Int}{kvs:List (Key×V)} (h:HdIs H p c cs n r t kn kvs) (s:Same H H'):HdIs H' p c cs n r t kn kvs:=
 ⟨s _ _ h.at_,h.len,h.cell,h.nxt,h.rst,h.cnt,h.knt,s _ _ h.lst,h.c1,h.c64,h.n0⟩
theorem Hn.keep {H H':Hp}{p c:Addr}{cs:List Int}{kn:Option Int} (h:Hn H p c cs kn) (s:Same H H'):Hn H' p c cs kn:=by
 obtain⟨n,r,t,kvs,a,b⟩:=h;exact⟨n,r,t,kvs,a.keep s,b⟩
theorem Hn.new {H:Hp}{p c q:Addr}{cs:List Int}{kn:Option Int}{o:HO} (h:Hn H p c cs kn) (hq:H q=none):Hn (upd H q o) p c cs kn:=h.keep fun b u e=>by rw[upd_ne (ne_of_none e hq)];exact e
theorem Hn.ne {H:Hp}{p c q:Addr}{cs:List Int}{kn:Option Int} (h:Hn H p c cs kn) (hq:H q=none):q≠p:=by
 obtain⟨n,r,t,kvs,a,_⟩:=h
 intro z;rw[z,a.at_]at hq;cases hq
theorem Hn.tups {H H':Hp}{p c:Addr}{cs:List Int}{kn:Option Int} (h:Hn H p c cs kn) (x:Ex p H H'):Tups H H':=fun b xs e=>by
 obtain⟨n,r,t,kvs,a,_⟩:=h
 exact x b _ (ne_of e a.at_ (by intro z;cases z)) e
end L2
end
section
namespace Kn
open PySem
def isNum (c:Nat):Bool:=c == 45 || (decide (48<=c) && decide (c<=57))
def isLet (c:Nat):Bool:=decide (97<=c) && decide (c<=122)
def stop (r:List Nat):Prop:=∀ c t,r=c::t->isNum c=false/\isLet c=false
def dg (i:Int):List Nat:=(Str.ofString (toString i)).cps.toList
theorem dg_eq (i:Int):dg i=(toString i).toList.map Char.toNat:=by
 unfold dg
 rw[Str.ofString_eq_toList]
theorem dg_pos (m:Nat):dg (m:Int)=(Nat.toDigits 10 m).map Char.toNat:=by
 rw[dg_eq]
 show (Nat.repr m).toList.map Char.toNat=_
 rw[Nat.toList_repr]
theorem dg_neg (m:Nat):dg (Int.negSucc m)=45::(Nat.toDigits 10 (m+1)).map Char.toNat:=by
 rw[dg_eq]
 show ("-"++Nat.repr (m+1)).toList.map Char.toNat=_
 rw[String.toList_append,Nat.toList_repr,List.map_append]
 rfl
theorem digit_sign {m c:Nat} (h:c∈(Nat.toDigits 10 m).map Char.toNat):48<=c/\c<=57:=by
 obtain⟨ch,hch,e⟩:=List.mem_map.mp h
 have r:=Nat.isDigit_of_mem_toDigits (by decide) (by decide) hch
 subst e
 unfold Char.isDigit at r
 simp only[Bool.and_eq_true,decide_eq_true_eq]at r
 exact⟨r.1,r.2⟩
theorem digits_ne (m:Nat):(Nat.toDigits 10 m).map Char.toNat≠[]:=by
 intro e
 exact Nat.toDigits_ne_nil (List.map_eq_nil_iff.mp e)
def lets (s:Str):Prop:=∀ c∈s.cps.toList,isLet c=true
theorem str_ext {s t:Str} (h:s.cps.toList=t.cps.toList):s=t:=by
 cases s;cases t
 congr 1
 exact Array.toList_inj.mp h
end Kn
end
section
namespace Kn
open PySem L2
end Kn
end
section
namespace Kn
open PySem L2
end Kn
end
section
namespace Kn
open PySem L2
end Kn
end
section
namespace Kn
open PySem L2
end Kn
end
section
namespace Kn
open PySem L2
theorem dg_len {i:Int} (h:i.natAbs<10 ^ 34):(dg i).length<=35:=by
 cases i with
 | ofNat m=>
  rw[show Int.ofNat m=(m:Int) from rfl,dg_pos,List.length_map]
  have h':m<10 ^ 34:=h
  have:=(Nat.length_toDigits_le_iff (b:=10) (n:=m) (k:=34) (by decide) (by decide)).mpr h'
  lia
 | negSucc m=>
  rw[dg_neg,List.length_cons,List.length_map]
  have h':m+1<10 ^ 34:=h
  have:=(Nat.length_toDigits_le_iff (b:=10) (n:=m+1) (k:=34) (by decide) (by decide)).mpr h'
  lia
end Kn
end
section
namespace Kn
open PySem L2
def TKN:List Str:=[Str.ofString "num",Str.ofString "word",Str.ofString "row",Str.ofString "bag",Str.ofString "var",Str.ofString "table",Str.ofString "at",Str.ofString "add",Str.ofString "mul",Str.ofString "none",Str.ofString "one",Str.ofString "both",Str.ofString "times",Str.ofString "for",Str.ofString "when",Str.ofString "let",Str.ofString "same",Str.ofString "under",Str.ofString "and",Str.ofString "or",Str.ofString "not"]
def nmOk (s:Str):Prop:=1<=s.length/\s.length<=8/\lets s/\s ∉ TKN
theorem nmOk.ten {s:Str} (h:nmOk s):s.length<=10:=Nat.le_trans h.2.1 (by decide)
def riseS:List Str->Prop
 | []=>True
 | [_]=>True
 | a::b::r=>a.cps.toList<b.cps.toList/\riseS (b::r)
theorem rise_adj:∀ {l:List Str}{i:Nat} (h:i+1<l.length),riseS l->(l[i]'(by lia)).cps.toList<l[i+1].cps.toList
 | [],_,h,_=>by cases h
 | [_],_,h,_=>by simp at h
 | a::b::r,0,_,q=>by rw[riseS]at q;exact q.1
 | a::b::r,i+1,h,q=>by
  rw[riseS]at q
  exact rise_adj (l:=b::r) (i:=i) (by simpa using h) q.2
theorem rise_of:∀ {l:List Str},PyProof.Rows.sortedS l=true->l.Nodup->riseS l
 | [],_,_=>by rw[riseS];trivial
 | [_],_,_=>by rw[riseS];trivial
 | a::b::r,h,nd=>by
  have h':PyProof.Rows.risingS a (b::r)=true:=h
  rw[PyProof.Rows.risingS,Bool.and_eq_true]at h'
  rw[List.nodup_cons]at nd
  refine⟨?_,rise_of (l:=b::r) h'.2 nd.2⟩
  have h1:¬b.cps.toList<a.cps.toList:=by
   have:=h'.1
   rw[PyProof.Rows.ltCps_eq]at this
   simpa using this
  have ne:a≠b:=fun z=>nd.1 (by rw[z];exact List.mem_cons_self)
  refine Classical.byContradiction fun q=>ne ?_
  have e:=List.le_antisymm (List.not_lt.mp h1) (List.not_lt.mp q)
  cases a;cases b
  congr 1
  exact Array.toList_inj.mp e
inductive At where
 | int (i:Int)
 | txt (s:Str)
inductive Tr where
 | row (ps:List (Str×Tr))
 | node (w:Str) (as:List At) (ps:List Tr)
def atD:At->Dt
 | .int i=>.int i
 | .txt s=>.str s
def numS (i:Int):Str:=Str.ofString (toString i)
def atS:At->Str
 | .int i=>numS i
 | .txt s=>s
mutual
def tdat:Tr->Dt
 | .row ps=>.tup [.str "row",.tup (tdatR ps)]
 | .node w as ps=>.tup (.str w::(as.map atD++tdatL ps))
def tdatR:List (Str×Tr)->List Dt
 | []=>[]
 | p::ps=>.tup [.str p.1,tdat p.2]::tdatR ps
def tdatL:List Tr->List Dt
 | []=>[]
 | p::ps=>tdat p::tdatL ps
end
mutual
def twd:Tr->List Str
 | .row ps=>Str.ofString "row"::numS (ps.length:Int)::twdR ps
 | .node w as ps=>w::(as.map atS++twdL ps)
def twdR:List (Str×Tr)->List Str
 | []=>[]
 | p::ps=>p.1::(twd p.2++twdR ps)
def twdL:List Tr->List Str
 | []=>[]
 | p::ps=>twd p++twdL ps
end
mutual
def tsz:Tr->Nat
 | .row ps=>1+tszR ps
 | .node _ as ps=>1+as.length+tszL ps
def tszR:List (Str×Tr)->Nat
 | []=>0
 | p::ps=>1+tsz p.2+tszR ps
def tszL:List Tr->Nat
 | []=>0
 | p::ps=>tsz p+tszL ps
end
theorem tdatR_map (ps:List (Str×Tr)):tdatR ps=ps.map fun p=>.tup [.str p.1,tdat p.2]:=by
 induction ps with
 | nil=>rw[tdatR];rfl
 | cons p ps ih=>rw[tdatR,ih];rfl
theorem tdatL_map (ps:List Tr):tdatL ps=ps.map tdat:=by
 induction ps with
 | nil=>rw[tdatL];rfl
 | cons p ps ih=>rw[tdatL,ih];rfl
theorem twdR_map (ps:List (Str×Tr)):twdR ps=ps.flatMap fun p=>p.1::twd p.2:=by
 induction ps with
 | nil=>rw[twdR];rfl
 | cons p ps ih=>rw[twdR,ih];rfl
theorem twdL_map (ps:List Tr):twdL ps=ps.flatMap twd:=by
 induction ps with
 | nil=>rw[twdL];rfl
 | cons p ps ih=>rw[twdL,ih];rfl
theorem tszR_map (ps:List (Str×Tr)):tszR ps=(ps.map fun p=>1+tsz p.2).sum:=by
 induction ps with
 | nil=>rw[tszR];rfl
 | cons p ps ih=>rw[tszR,ih,List.map_cons,List.sum_cons]
theorem tszL_map (ps:List Tr):tszL ps=(ps.map tsz).sum:=by
 induction ps with
 | nil=>rw[tszL];rfl
 | cons p ps ih=>rw[tszL,ih,List.map_cons,List.sum_cons]
def atOk:At->Prop
 | .int i=>i.natAbs<10 ^ 34
 | .txt s=>s.length<=10
mutual
def TOk:Tr->Prop
 | .row ps=>ps.length<=14/\TOkR ps
 | .node w as ps=>w≠Str.ofString "row"/\w.length<=10/\as.length<=1/\ps.length<=2/\(∀ a∈as,atOk a)/\TOkL ps
def TOkR:List (Str×Tr)->Prop
 | []=>True
 | p::ps=>(p.1.length<=10/\TOk p.2)/\TOkR ps
def TOkL:List Tr->Prop
 | []=>True
 | p::ps=>TOk p/\TOkL ps
end
theorem TOkR_mem {ps:List (Str×Tr)}:TOkR ps ↔ ∀ p∈ps,p.1.length<=10/\TOk p.2:=by
 induction ps with
 | nil=>simp [TOkR]
 | cons p ps ih=>rw[TOkR,ih];simp
theorem TOkL_mem {ps:List Tr}:TOkL ps ↔ ∀ p∈ps,TOk p:=by
 induction ps with
 | nil=>simp [TOkL]
 | cons p ps ih=>rw[TOkL,ih];simp
theorem numS_len {i:Int} (h:i.natAbs<10 ^ 34):(numS i).length<=35:=dg_len h
mutual
theorem twd_cnt:∀ t:Tr,(twd t).length<=2 * tsz t
 | .row ps=>by
  have:=twdR_cnt ps
  rw[twd,tsz];simp only[List.length_cons];lia
 | .node w as ps=>by
  have:=twdL_cnt ps
  rw[twd,tsz];simp only[List.length_cons,List.length_append,List.length_map];lia
theorem twdR_cnt:∀ ps:List (Str×Tr),(twdR ps).length<=2 * tszR ps
 | []=>by rw[twdR,tszR];simp
 | p::ps=>by
  have h1:=twd_cnt p.2
  have h2:=twdR_cnt ps
  rw[twdR,tszR];simp only[List.length_cons,List.length_append];lia
theorem twdL_cnt:∀ ps:List Tr,(twdL ps).length<=2 * tszL ps
 | []=>by rw[twdL,tszL];simp
 | p::ps=>by
  have h1:=twd_cnt p
  have h2:=twdL_cnt ps
  rw[twdL,tszL];simp only[List.length_append];lia
end
mutual
theorem twd_short : ∀ t : Tr, TOk t -> ∀ w ∈ twd t, w.length <= 35
  | .row ps, h, w, hw => by
    rw [TOk] at h
    rw [twd] at hw
    rcases List.mem_cons.mp hw with rfl | hw
    · decide +kernel
    · rcases List.mem_cons.mp hw with rfl | hw
      · exact numS_len (by have : ((ps.length : Int)).natAbs = ps.length := by lia
                           rw [this]; exact Nat.lt_of_le_of_lt h.1 (by decide))
      · exact twdR_short ps h.2 w hw
  | .node v as ps, h, w, hw => by
    rw [TOk] at h
    rw [twd] at hw
    rcases List.mem_cons.mp hw with rfl | hw
    · lia
    · rcases List.mem_append.mp hw with hw | hw
      · obtain ⟨a, ha, rfl⟩ := List.mem_map.mp hw
        have := h.2.2.2.2.1 a ha
        cases a with
        | int i => exact numS_len this
        | txt s => exact Nat.le_trans (show s.length <= 10 from this) (by decide)
      · exact twdL_short ps h.2.2.2.2.2 w hw
theorem twdR_short:∀ ps:List (Str×Tr),TOkR ps->∀ w∈twdR ps,w.length<=35
 | [],_,w,hw=>by rw[twdR]at hw;cases hw
 | p::ps,h,w,hw=>by
  rw[TOkR]at h
  rw[twdR]at hw
  rcases List.mem_cons.mp hw with rfl | hw
  ·have:=h.1.1;lia
  ·rcases List.mem_append.mp hw with hw | hw
   ·exact twd_short p.2 h.1.2 w hw
   ·exact twdR_short ps h.2 w hw
theorem twdL_short:∀ ps:List Tr,TOkL ps->∀ w∈twdL ps,w.length<=35
 | [],_,w,hw=>by rw[twdL]at hw;cases hw
 | p::ps,h,w,hw=>by
  rw[TOkL]at h
  rw[twdL]at hw
  rcases List.mem_append.mp hw with hw | hw
  ·exact twd_short p h.1 w hw
  ·exact twdL_short ps h.2 w hw
end
inductive KG:Nat->Tr->Prop where
 | num {d:Nat}:KG d (.node (Str.ofString "num") [] [])
 | word {d:Nat}:KG d (.node (Str.ofString "word") [] [])
 | bag {d:Nat}{k:Tr} (h:KG d k):KG (d+1) (.node (Str.ofString "bag") [] [k])
 | row {d:Nat}{ps:List (Str×Tr)} (hl:ps.length<=14) (hn:∀ p∈ps,nmOk p.1) (hs:riseS (ps.map (·.1))) (h:∀ p∈ps,KG d p.2):KG (d+1) (.row ps)
theorem KG.up {d:Nat}{t:Tr} (h:KG d t):KG (d+1) t:=by
 induction h with
 | num=>exact .num
 | word=>exact .word
 | bag _ ih=>exact .bag ih
 | row hl hn hs _ ih=>exact .row hl hn hs ih
theorem KG.mono {d e:Nat}{t:Tr} (l:d<=e) (h:KG d t):KG e t:=by
 induction l with
 | refl=>exact h
 | step _ ih=>exact ih.up
theorem tok_node {w:Str}{as:List At}{ps:List Tr} (h1:w≠Str.ofString "row") (h2:w.length<=10) (h3:as.length<=1) (h4:ps.length<=2) (h5:∀ a∈as,atOk a) (h6:∀ p∈ps,TOk p):TOk (.node w as ps):=by
 rw[TOk];exact⟨h1,h2,h3,h4,h5,TOkL_mem.mpr h6⟩
theorem one_mem {α:Type} {P:α->Prop}{x:α} (h:P x):∀ y∈[x],P y:=fun y hy=>by rw[List.mem_singleton.mp hy];exact h
theorem two_mem {α:Type} {P:α->Prop}{x y:α} (h:P x) (g:P y):∀ z∈[x,y],P z:=fun z hz=>by
 rcases List.mem_cons.mp hz with rfl | hz
 ·exact h
 ·rw[List.mem_singleton.mp hz];exact g
theorem nil_mem {α:Type} {P:α->Prop}:∀ y∈([]:List α),P y:=fun _ h=>nomatch h
theorem KG.ok {d:Nat}{t:Tr} (h:KG d t):TOk t:=by
 induction h with
 | num=>exact tok_node (by decide +kernel) (by decide +kernel) (by simp) (by simp) nil_mem nil_mem
 | word=>exact tok_node (by decide +kernel) (by decide +kernel) (by simp) (by simp) nil_mem nil_mem
 | bag _ ih=>exact tok_node (by decide +kernel) (by decide +kernel) (by simp) (by simp) nil_mem (one_mem ih)
 | row hl hn hs h ih=>rw[TOk];exact⟨hl,TOkR_mem.mpr fun p hp=>⟨(hn p hp).ten,ih p hp⟩⟩
inductive QG:Nat->Bool->Tr->Prop where
 | num {d:Nat}{i:Int} (h:i.natAbs<10 ^ 34):QG d false (.node (Str.ofString "num") [.int i] [])
 | leaf {d:Nat}{w s:Str} (hw:w=Str.ofString "word"\/w=Str.ofString "var"\/w=Str.ofString "table") (h:nmOk s):QG d false (.node w [.txt s] [])
 | none {d:Nat}{k:Tr} (h:KG 2 k):QG d false (.node (Str.ofString "none") [] [k])
 | row0 {d:Nat}:QG d false (.row [])
 | row {d:Nat}{ps:List (Str×Tr)} (hl:ps.length<=14) (hn:∀ p∈ps,nmOk p.1) (hs:riseS (ps.map (·.1))) (h:∀ p∈ps,QG d false p.2):QG (d+1) false (.row ps)
 | at {d:Nat}{s:Str}{q:Tr} (h:nmOk s) (hq:QG d false q):QG (d+1) false (.node (Str.ofString "at") [.txt s] [q])
 | times {d:Nat}{i:Int}{q:Tr} (h:i.natAbs<10 ^ 34) (hq:QG d false q):QG (d+1) false (.node (Str.ofString "times") [.int i] [q])
 | one {d:Nat}{q:Tr} (hq:QG d false q):QG (d+1) false (.node (Str.ofString "one") [] [q])
 | when {d:Nat}{c q:Tr} (hc:QG d true c) (hq:QG d false q):QG (d+1) false (.node (Str.ofString "when") [] [c,q])
 | bind {d:Nat}{w s:Str}{q r:Tr} (hw:w=Str.ofString "for"\/w=Str.ofString "let") (h:nmOk s) (hq:QG d false q) (hr:QG d false r):QG (d+1) false (.node w [.txt s] [q,r])
 | two {d:Nat}{w:Str}{q r:Tr} (hw:w=Str.ofString "add"\/w=Str.ofString "mul"\/w=Str.ofString "both") (hq:QG d false q) (hr:QG d false r):QG (d+1) false (.node w [] [q,r])
 | cmp {d:Nat}{w:Str}{q r:Tr} (hw:w=Str.ofString "same"\/w=Str.ofString "under") (hq:QG d false q) (hr:QG d false r):QG (d+1) true (.node w [] [q,r])
 | logic {d:Nat}{w:Str}{q r:Tr} (hw:w=Str.ofString "and"\/w=Str.ofString "or") (hq:QG d true q) (hr:QG d true r):QG (d+1) true (.node w [] [q,r])
 | not {d:Nat}{c:Tr} (hc:QG d true c):QG (d+1) true (.node (Str.ofString "not") [] [c])
theorem QG.up {d:Nat}{b:Bool}{t:Tr} (h:QG d b t):QG (d+1) b t:=by
 induction h with
 | num h=>exact .num h
 | leaf hw h=>exact .leaf hw h
 | none h=>exact .none h
 | row0=>exact .row0
 | row hl hn hs _ ih=>exact .row hl hn hs ih
 | «at» h _ ih=>exact .at h ih
 | times h _ ih=>exact .times h ih
 | one _ ih=>exact .one ih
 | when _ _ i1 i2=>exact .when i1 i2
 | bind hw h _ _ i1 i2=>exact .bind hw h i1 i2
 | two hw _ _ i1 i2=>exact .two hw i1 i2
 | cmp hw _ _ i1 i2=>exact .cmp hw i1 i2
 | logic hw _ _ i1 i2=>exact .logic hw i1 i2
 | not _ ih=>exact .not ih
theorem QG.mono {d e:Nat}{b:Bool}{t:Tr} (l:d<=e) (h:QG d b t):QG e b t:=by
 induction l with
 | refl=>exact h
 | step _ ih=>exact ih.up
theorem QG.ok {d:Nat}{b:Bool}{t:Tr} (h:QG d b t):TOk t:=by
 induction h with
 | num h=>exact tok_node (by decide +kernel) (by decide +kernel) (by simp) (by simp) (one_mem h) nil_mem
 | leaf hw h=>rcases hw with rfl | rfl | rfl <;> exact tok_node (by decide +kernel) (by decide +kernel) (by simp) (by simp) (one_mem h.ten) nil_mem
 | none h=>exact tok_node (by decide +kernel) (by decide +kernel) (by simp) (by simp) nil_mem (one_mem h.ok)
 | row0=>rw[TOk];exact⟨by decide,by rw[TOkR];trivial⟩
 | row hl hn hs h ih=>rw[TOk];exact⟨hl,TOkR_mem.mpr fun p hp=>⟨(hn p hp).ten,ih p hp⟩⟩
 | «at» h _ ih=>exact tok_node (by decide +kernel) (by decide +kernel) (by simp) (by simp) (one_mem h.ten) (one_mem ih)
 | times h _ ih=>exact tok_node (by decide +kernel) (by decide +kernel) (by simp) (by simp) (one_mem h) (one_mem ih)
 | one _ ih=>exact tok_node (by decide +kernel) (by decide +kernel) (by simp) (by simp) nil_mem (one_mem ih)
 | when _ _ i1 i2=>exact tok_node (by decide +kernel) (by decide +kernel) (by simp) (by simp) nil_mem (two_mem i1 i2)
 | bind hw h _ _ i1 i2=>rcases hw with rfl | rfl <;> exact tok_node (by decide +kernel) (by decide +kernel) (by simp) (by simp) (one_mem h.ten) (two_mem i1 i2)
 | two hw _ _ i1 i2=>rcases hw with rfl | rfl | rfl <;> exact tok_node (by decide +kernel) (by decide +kernel) (by simp) (by simp) nil_mem (two_mem i1 i2)
 | cmp hw _ _ i1 i2=>rcases hw with rfl | rfl <;> exact tok_node (by decide +kernel) (by decide +kernel) (by simp) (by simp) nil_mem (two_mem i1 i2)
 | logic hw _ _ i1 i2=>rcases hw with rfl | rfl <;> exact tok_node (by decide +kernel) (by decide +kernel) (by simp) (by simp) nil_mem (two_mem i1 i2)
 | not _ ih=>exact tok_node (by decide +kernel) (by decide +kernel) (by simp) (by simp) nil_mem (one_mem ih)
end Kn
end
section
namespace L2
open PySem PySem.Spec PyProof.Rows
section
variable {X:Cx}
end
end L2
end
section
namespace L2
open PySem PySem.Spec PyProof.Rows PyProof.V
section
variable {X:Cx}
variable {pos:Pos}
end
end L2
end
section
namespace L2
open PySem PySem.Spec PyProof.Rows
section
variable {X:Cx}{pos pos' apos:Pos}{o e value:Expr}{es:List Expr}{f:Str}{ta tv to te:TE}{tA:TA}
theorem we_fld (he:Hd (PE X e ta)) (hb:attributeBase e f X.env (eval e X.env)=eval e X.env:=by rfl):Hd (PE X (.Attribute e f pos) (tFld X.K ta f)):=⟨pe_fld he.out hb⟩
theorem ws_fld (ha:Hd (PE X o ta)) (hv:Hd (PE X value tv)) (hs:swapsWith value (some (.Attribute o f pos')) pos.line X.env=pure false:=by rfl):Hd (PS X (.Assign [.Attribute o f pos'] value pos) (sFld X.K ta tv f)):=⟨ps_fld ha.out hv.out hs⟩
theorem we_meth0 {CX:CXT}{k:Nat}{C fa:Addr}{fd:FuncData}{ps:List Str}{sp:Sp}{dvs:List V}{ds:List Value}{E:XK}{m:Str}{pl:Sem Bool} (he:Hd (PE X o ta)) (c:Cls X.K C) (hm:Meth X.K C m fa) (F:FnOk X.prog X.w X.K X.mg X.base CX k fa fd ps sp) (hr:Room k X.A) (hb:Binds X.K fd ps ds) (hd:Vals dvs ds) (hx:Passes CX X E)
  (ht:eval (.Call (.Attribute o m apos) [] [] pos) X.env=(do
   let ov <- eval o X.env
   standAt apos.atName
   let (f,first) <- holding [ov] (getMethod ov m pl)
   callWith pos f first (backTo pos (starEach [] X.env)) (backToKw pos (keywordEach [] X.env))):=by rfl):Hd (PE X (.Call (.Attribute o m apos) [] [] pos) (tMeth C m sp dvs E ta tNil)):=⟨pe_meth0 he.out c hm F hr hb hd hx ht⟩
theorem we_make {CX:CXT}{k:Nat}{C fa:Addr}{fd:FuncData}{ps:List Str}{sp:Sp}{dvs:List V}{ds:List Value}{E:XK}{x:Str}{p:Pos} (M:Mk X.K C fa) (F:FnOk X.prog X.w X.K X.mg X.base CX k fa fd ps sp) (hr:Room (k+1) X.A) (hg:Gl X x) (hm:X.mg x=some (.ref C)) (hb:Binds X.K fd ps ds) (hd:Vals dvs ds) (hx:Passes CX X E)
  (ha:Hd (PA X (e::es) tA)) (hs:noStars (e::es)=true:=by rfl) (hdb:(x == ("__debug__" : Str))=false:=by decide):Hd (PE X (.Call (.Name x p) (e::es) [] pos) (tMake C sp dvs E tA)):=by
 have h':(notStar e && noStars es)=true:=hs
 rw[Bool.and_eq_true]at h'
 exact⟨pe_make M F hr hg hm hb hd hx ha.out hdb (star_cons h'.1) (stars_any h'.2)⟩
theorem we_chain {a b c:Expr}{tb tc:TE}{op op':CmpOp}{r r':R2} (ho:OpR X (compareOp op) r) (ho':OpR X (compareOp op') r') (ha:Hd (PE X a ta)) (hb:Hd (PE X b tb)) (hc:Hd (PE X c tc)) (hm:lastMarks [op,op'] [b,c]=false:=by with_unfolding_all rfl) :
  Hd (PE X (.Compare a [op,op'] [b,c] pos) (tChain r r' ta tb tc)):=⟨pe_chain ho ho' ha.out hb.out hc.out hm⟩
theorem ws_dead {st:Stmt}:Hd (PS X st (fun _ _ _=>False)):=⟨fun _ _ _ _ _ _ h=>h.elim⟩
theorem vals_get:∀ {xs:List V}{us:List Value}{i:Nat}{v:Value},Vals xs us->us[i]?=some v->∃ x,xs[i]?=some x/\RelV x v
 | _,_,i,v,.nil,e=>by simp at e
 | _,_,0,v,.cons r _,e=>by simp at e;subst e;exact⟨_,rfl,r⟩
 | _,_,i+1,v,.cons _ t,e=>by
  obtain⟨x,h1,h2⟩:=vals_get (i:=i) t (by simpa using e)
  exact⟨x,by simpa using h1,h2⟩
def rAll (K:PySem.W.Frag):List V->Hp->VK->Prop:=fun ws H Q=>∃ (p:Addr) (bs:List Bool),ws=[.ref p]/\SqL K H p (bs.map V.bl)/\Q (.bl (bs.all id)) H
theorem call_all (hc:X.calm=true):CallR X (.builtin "all") (rAll X.K):=by
 intro pins s σ H ws us Q I r h
 obtain⟨p,bs,rfl,hq,q⟩:=h
 obtain⟨u,rfl,ru⟩:=r.one
 cases ru
 have hh:=I.ok.hd hc
 obtain⟨its,rv,pl,_⟩:=I.list hq
 have hl:s.heap.IsList p its.toArray:=pl.isList
 obtain⟨ob,o1,o2,k,o3⟩:=id hl
 have ne:p≠s.heap.objs.size:=Nat.ne_of_lt (Heap.lt_size o1)
 have W:=(Walks.list (prog:=X.prog) (w:=X.w) (A:=X.A.in1) hh s.heap.objs.size p ne its.toArray).toS
 have lb:its.length=bs.length:=by have:=rv.length;rw[List.length_map]at this;exact this.symm
 have bv:∀ (i:Nat) (v:Value),its.toArray[i]?=some v->v=.bool (bs.getD i false):=fun i v e=>by
  have e':its[i]?=some v:=by simpa using e
  have hi:i<bs.length:=by have:=(List.getElem?_eq_some_iff.mp e').1;lia
  obtain⟨x,h1,h2⟩:=vals_get rv e'
  rw[List.getElem?_map,List.getElem?_eq_getElem hi]at h1
  cases h1
  rw[List.getD_eq_getElem?_getD,List.getElem?_eq_getElem hi]
  exact h2
 refine call_all_walkS (wpAny_pyIter_list hl ?_)
 refine⟨s.heap.objs.size,_,_,_,_,_,_,fun i=>bs.getD i false,rfl,W,⟨⟨_,Heap.get?_push_size _ rfl,rfl,rfl⟩,hl.push _⟩,?_,fun s' hm=>?_⟩
 ·intro i v s' Q' E' hP hq'
  rw[bv i v hP]
  exact wpAny_truthy_bool hq'
 ·obtain⟨h',g',d',tk',os'⟩:=s'
  have z1:g'=s.gens:=hm.gens
  have z2:d'=s.drawn:=hm.drawn
  have z3:os'=s.os:=hm.os
  subst z1 z2 z3
  have keep:∀ b o,s.heap.get? b=some o->h'.get? b=some o:=fun b o e=>hm.heap b o (fun hb=>absurd (Heap.lt_size e) ((List.mem_singleton.mp hb) ▸ Nat.lt_irrefl _)) (Heap.get?_push_of_some _ e)
  refine⟨.bl (bs.all id),H,I.kept (t':=tk') keep,?_,q⟩
  have e:(List.range its.toArray.size).all (fun i=>bs.getD i false)=bs.all id:=by
   rw[List.size_toArray,lb]
   have:(List.range bs.length).map (fun i=>bs.getD i false)=bs:=by
    refine List.ext_getElem? fun i=>?_
    by_cases hi:i<bs.length
    ·rw[List.getElem?_map,List.getElem?_eq_getElem (by simpa using hi),List.getElem?_eq_getElem hi]
     simp [List.getD_eq_getElem?_getD,List.getElem?_eq_getElem hi]
    ·rw[List.getElem?_eq_none (by simpa using hi),List.getElem?_eq_none (by lia)]
   conv=>rhs;rw[<- this]
   rw[List.all_map];rfl
  rw[e];rfl
end
end L2
end
section
namespace L2
open PySem PySem.Spec PyProof.Rows
section
variable {X:Cx}
end
end L2
end
section
namespace L2
open PySem PySem.Spec PyProof.Rows
def OnlyT (ts:List Addr) (H:Hp):Prop:=(∀ P∈ts,H P=some (.tbl #[]))/\∀ b,H b=none\/(∃ o xs,H b=some (.frz o (.lst xs)))\/(H b=some (.tbl #[])/\b∈ts)
theorem law_callT {P:Program}{w:World}{K:PySem.W.Frag}{mg mb:Str->Option Value}{CX:CXT}{k:Nat}{fa a:Addr}{fd:FuncData}{x:Str}{sp:Sp}{s₁:Shared}{vs:List Value}{ns:List Int}{ts:List Addr}
  (KX:K.In s₁.heap) (hT:∀ P∈ts,s₁.heap.get? P=some (PySem.W.tabObj #[])) (hKT:∀ P∈ts,K.lookup P=none/\∃ c,PySem.W.CodeHd s₁.heap c P)
  (hns:s₁.heap.Ns mainGlobals mg) (hb:s₁.heap.Ns builtinsNs mb) (hbb:∀ x:Str,x≠"__name__"->mb x=bootBuiltins x) (hlim:s₁.heap.NoLimit) (hg:s₁.gens=#[])
  (ha:s₁.heap.get? a=some { cls:=.type "list",data:=.seq vs.toArray }) (hi:IntsAre vs ns) (hl:ns.length<=sizeLine) (hr:Room k callerA)
  (F:∀ base:Heap,K.In base->base.Ns mainGlobals mg->FnOk P w K mg base CX k fa fd [x] sp) (hbind:∀ (s:Shared) (u:Value),BindsTo s fd ⟨[u],[]⟩ [(x,u)])
  (hsp:∀ H:Hp,OnlyT ts H->SqL K H a (ns.map V.int)->sp [.ref a] H (fun v _=>v=.bl true) fun _ _ _=>False)
  (hCX:∀ H e s',CX [] H s₁ (fun _ _ _=>False) e s'->False) :
  codeAny (model P w) callerA (.call (.ref fa) ⟨[.ref a],[]⟩) (fun r s'=>r=.ok (.ret (.bool true))/\OldK s₁.heap s'.heap/\s'.os=s₁.os/\AllBare s'.gens) s₁:=by
 have rv:=vals_ints hi
 have lenV:=hi.length
 have nat:a ∉ ts:=fun z=>by have:=hT a z;rw[ha]at this;cases this
 have core:∀ H:Hp,OnlyT ts H->SqL K H a (ns.map V.int)->HOk P w H s₁.heap->(∀ b,H b≠none->b=a\/b∈ts)->(H a≠none->K.lookup a=none) ->
   codeAny (model P w) callerA (.call (.ref fa) ⟨[.ref a],[]⟩) (fun r s'=>r=.ok (.ret (.bool true))/\OldK s₁.heap s'.heap/\s'.os=s₁.os/\AllBare s'.gens) s₁:=by
  intro H hO hS hok hA hK
  have base_of:∀ {b:Addr}{o:Obj},s₁.heap.get? b=some o->H b=none->(hidT s₁.heap H).get? b=some o:=fun e n=>hidT_get e n
  have noA:∀ {b:Addr}{o:Obj}{es:Array DictEntry}{ep:Nat},s₁.heap.get? b=some o->o.data=.dict es ep->H b=none:=fun {b o es ep} e d=>by
   cases q:H b with
   | none=>rfl
   | some u=>
    rcases hA b (by rw[q];simp) with e' | e'
    ·subst e'
     rw[ha]at e;cases e
     have d':Data.seq vs.toArray _=Data.dict es ep:=d
     cases d'
    ·rw[hT b e']at e;cases e
     have d':Data.fields #[]=Data.dict es ep:=d
     cases d'
  have nsK:∀ {b:Addr}{m:Str->Option Value},s₁.heap.Ns b m->(hidT s₁.heap H).Ns b m:=fun {b m} ⟨o,es,ep,e,d,r⟩=>⟨o,es,ep,base_of e (noA e d),d,r⟩
  have hKb:K.In (hidT s₁.heap H):=fun b o e=>base_of (KX b o e) (by
   cases q:H b with
   | none=>rfl
   | some u=>
    rcases hA b (by rw[q];simp) with e' | e'
    ·subst e'
     rw[hK (by rw[q];simp)]at e;cases e
    ·rw[(hKT b e').1]at e;cases e)
  have hM:Mod K mg (hidT s₁.heap H):=⟨hKb,nsK hns,⟨mb,nsK hb,hbb⟩,let ⟨mc,h1,h2⟩:=hlim;⟨mc,nsK h1,h2⟩⟩
  have e0:Env0 P w K mg (hidT s₁.heap H) callerA [] s₁ H:=⟨rfl,hM,fun b o e=>of_hidT e,Nat.le_of_eq (hidT_size _ _),trivial,fun b hb=>absurd (show b∈([]:List Addr) from hb) (by simp),hok,.of_eq hg⟩
  refine codeAny_mono ((F _ hKb (nsK hns)).run callerA [] s₁ H ⟨[.ref a],[]⟩ [.ref a] [.ref a] _ _ hr e0 (hbind s₁ (.ref a)) (.cons rfl .nil) (hsp H hO hS)) fun r s' h=>?_
  cases r with
  | error e=>exact (hCX H e s' h).elim
  | ok fl=>
   cases fl with
   | next=>exact False.elim h
   | brk=>exact False.elim h
   | cont=>exact False.elim h
   | ret u=>
    obtain⟨v,H',os,bare,un,hok',r',q⟩:=h
    have q':v=.bl true:=q
    subst q'
    obtain rfl:u=Value.bool true:=r'
    refine⟨rfl,⟨fun b o e=>?_,fun b o e=>un.there b o e (by simp)⟩,os,bare⟩
    rcases hO.2 b with z | ⟨ob,xs,z⟩ | ⟨z,hm⟩
    ·exact .inl (un.keep b o e z (by intro z;exact absurd (show b∈([]:List Addr) from z) (by simp)) (by simp))
    ·have z2:=un.frzs b ob _ z
     obtain⟨e1,_⟩:=hok b _ z
     obtain⟨e2,_⟩:=hok' b _ z2
     rw[e]at e1;cases e1
     exact .inl e2
    ·obtain⟨more,z2⟩:=un.tbls b _ z
     have e1:=hok b _ z
     have e2:=hok' b _ z2
     obtain⟨c,C⟩:=(hKT b hm).2
     have e0:s₁.heap.get? b=some (PySem.W.tabObj #[]):=hT b hm
     rw[e]at e0;cases e0
     exact .inr (.inl ⟨(C.tab e).isCodeTable,rfl,#[],more,rfl,e2⟩)
 have tb:∀ b,b∈ts->ObjOk P w (fun _=>none) s₁.heap b (.tbl #[]):=fun b hb=>hT b hb
 cases hk:K.lookup a with
 | some o=>
  have e:=KX a o hk
  rw[ha]at e
  cases e
  refine core (fun b=>if b∈ts then some (.tbl #[]) else none) ⟨fun P hP=>if_pos hP,fun b=>?_⟩ (.inr ⟨_,vs.toArray,_,hk,rfl,rfl,rfl,by rw[List.size_toArray,lenV];exact hl,by simpa using rv⟩) (fun b u z=>?_) (fun b z=>?_) fun z=>absurd (if_neg nat) z
  ·by_cases hb:b∈ts
   ·exact .inr (.inr ⟨if_pos hb,hb⟩)
   ·exact .inl (if_neg hb)
  ·by_cases hb:b∈ts
   ·have z':=(if_pos hb).symm.trans z
    cases z'
    exact hT b hb
   ·have z':=(if_neg hb).symm.trans z
    cases z'
  ·by_cases hb:b∈ts
   ·exact .inr hb
   ·exact absurd (if_neg hb) z
 | none=>
  have h1:∀ {b:Addr},b=a->(if b=a then some (HO.frz { cls:=.type "list",data:=.seq vs.toArray } (.lst (ns.map V.int))) else if b∈ts then some (.tbl #[]) else none)=some (HO.frz { cls:=.type "list",data:=.seq vs.toArray } (.lst (ns.map V.int))):=fun h=>if_pos h
  have h2:∀ {b:Addr},b≠a->b∈ts->(if b=a then some (HO.frz { cls:=.type "list",data:=.seq vs.toArray } (.lst (ns.map V.int))) else if b∈ts then some (.tbl #[]) else none)=some (.tbl #[]):=fun h g=>by rw[if_neg h,if_pos g]
  have h3:∀ {b:Addr},b≠a->b ∉ ts->(if b=a then some (HO.frz { cls:=.type "list",data:=.seq vs.toArray } (.lst (ns.map V.int))) else if b∈ts then some (.tbl #[]) else none)=none:=fun h g=>by rw[if_neg h,if_neg g]
  refine core (fun b=>if b=a then some (.frz { cls:=.type "list",data:=.seq vs.toArray } (.lst (ns.map V.int))) else if b∈ts then some (.tbl #[]) else none) ⟨fun P hP=>h2 (fun z=>nat (z ▸ hP)) hP,fun b=>?_⟩ (.inl (.inr ⟨{ cls:=.type "list",data:=.seq vs.toArray },if_pos rfl⟩)) (fun b u z=>?_) (fun b z=>?_) fun _=>hk
  ·by_cases hb:b=a
   ·exact .inr (.inl ⟨_,_,h1 hb⟩)
   ·by_cases hc:b∈ts
    ·exact .inr (.inr ⟨h2 hb hc,hc⟩)
    ·exact .inl (h3 hb hc)
  ·by_cases hb:b=a
   ·have z':=(h1 hb).symm.trans z
    cases z'
    subst hb
    exact⟨ha,by rw[List.length_map];exact hl,vs,_,rv,ha⟩
   ·by_cases hc:b∈ts
    ·have z':=(h2 hb hc).symm.trans z
     cases z'
     exact hT b hc
    ·have z':=(h3 hb hc).symm.trans z
     cases z'
  ·by_cases hb:b=a
   ·exact .inl hb
   ·by_cases hc:b∈ts
    ·exact .inr hc
    ·exact absurd (h3 hb hc) z
theorem walk_ofT {l:PySem.W.OpenLaw}{n k:Nat}{q:Program}{loose:List Str}{XP:(Str->Option Value)->Heap->Prop}{YP:World->Heap->Prop}{d:DefRec}{K:Params->PySem.W.Frag}{CX:World->CXT}{sp:World->Sp}{x:Str}{ts:List Addr}
  (hn:l.most=some n) (hn2:n<=sizeLine) (hdf:d.params.defaults=[]) (hr:Room k callerA)
  (hY:∀ (w:World) (h:Heap),YP w h->(K w.params).In h/\∀ P∈ts,h.get? P=some (PySem.W.tabObj #[]))
  (hKT:∀ (w:World),∀ P∈ts,(K w.params).lookup P=none/\∃ c,PySem.W.codeHdIn (K w.params) c P=true)
  (F:∀ (w:World) (mg:Str->Option Value) (fa:Addr) (h:Heap),(K w.params).In h->h.Ns mainGlobals mg->mg d.name=some (.ref fa) ->
   ∃ fd:FuncData,(∀ (s:Shared) (u:Value),BindsTo s fd ⟨[u],[]⟩ [(x,u)]) /\
    ∀ base:Heap,(K w.params).In base->base.Ns mainGlobals mg->FnOk l.prog w (K w.params) mg base (CX w) k fa fd [x] (sp w))
  (hsp:∀ (w:World) (H:Hp) (a:Addr) (ns:List Int),ns.length<=n->OnlyT ts H->SqL (K w.params) H a (ns.map V.int)->sp w [.ref a] H (fun v _=>v=.bl true) fun _ _ _=>False)
  (hCX:∀ (w:World) (H:Hp) (s:Shared) (e:Value) (s':Shared),CX w [] H s (fun _ _ _=>False) e s'->False) :
  PySem.W.WalkO q loose XP YP l.row.toRowW d [] (fun f vs=>PySem.call f vs):=by
 refine Att.attach_call hn hdf fun w s₀ s₁ mg mb fa o pm cd doc a vs ns G Y ho hd hcd hmg hobj hints hlen hg=>?_
 obtain⟨KX,hT⟩:=hY w _ Y
 obtain⟨fd,hb,hF⟩:=F w mg fa _ KX G.T.g hmg
 exact law_callT KX hT (fun P hP=>⟨(hKT w P hP).1,let ⟨c,e⟩:=(hKT w P hP).2;⟨c,PySem.W.codeHd_of_K KX e⟩⟩) G.T.g G.T.b G.T.builtins G.T.nolimit hg hobj hints (Nat.le_trans hlen hn2) hr hF hb (fun H hO hS=>hsp w H a ns hlen hO hS) fun H e s'=>hCX w H s₁ e s'
end L2
end
section
namespace Kn
open PySem PySem.W PyProof.Rows
section
variable {lt:Nat->Nat->Bool}
end
end Kn
namespace L2
open PySem PySem.Spec PyProof.Rows PySem.W
open Kn (sLt krun)
mutual
noncomputable def ltD:Dt->Dt->Option Bool
 | .int i,e=>match e with | .int j=>some (decide (i<j)) | _=>none
 | .str x,e=>match e with | .str y=>some (sLt x y) | _=>none
 | .tup ds,e=>match e with | .tup es=>ltDs ds es | _=>none
noncomputable def ltDs:List Dt->List Dt->Option Bool
 | [],es=>some (decide (es≠[]))
 | d::ds,es=>match es with | []=>some false | e::es=>if d=e then ltDs ds es else ltD d e
end
section
open PySem.SeqAt
open PySem.AutoSeq1 (wpAny_loadPart')
open PySem.MeetsSeq PySem.MeetsSeq2 PySem.MeetsSeq3
variable {P:Program}{w:World}{H:Hp}
end
end L2
end
section
namespace L2
open PySem PySem.Spec PyProof.Rows PySem.W
open Kn (sLt krun)
section
variable {prog:Program}{w:World}{A:Around}{E:Value->Shared->Prop}{s:Shared}{H:Hp}
noncomputable def ltB (ds:List (List Dt)) (i j:Nat):Bool:=(ltDs (ds.getD i []) (ds.getD j [])).getD false
end
section
variable {X:Cx}
end
end L2
end
section
namespace Tm
open PySem PySem.W PyProof.Rows
section
variable {M:Model}{A:Around}{E:Value->Shared->Prop}{s:Shared} {κ:SortKind} {S:Keyed->Prop}{L:Keyed->Keyed->Bool}
end
end Tm
end
section
namespace Tm
open PySem PySem.W PyProof.Rows
def Srt (L:Keyed->Keyed->Bool) (l:List Keyed):Prop:=l.Pairwise fun x y=>L y x=false
section
variable {S:Keyed->Prop}{L:Keyed->Keyed->Bool}{la lb out:List Keyed}{ia ib:Nat}
end
end Tm
end
section
namespace Tm
open PySem PySem.W PyProof.Rows
section
variable {M:Model}{A:Around}{E:Value->Shared->Prop}{s:Shared} {κ:SortKind} {S:Keyed->Prop}{L:Keyed->Keyed->Bool}
end
end Tm
end
section
namespace Tm
open PySem PySem.W PyProof.Rows
section
variable {S:Keyed->Prop}{L:Keyed->Keyed->Bool}{la lb lo:List Keyed}{na nb:Nat}
end
section
variable {M:Model}{A:Around}{E:Value->Shared->Prop}{s:Shared} {κ:SortKind} {S:Keyed->Prop}{L:Keyed->Keyed->Bool}
end
end Tm
end
section
namespace Tm
open PySem PySem.W PyProof.Rows
section
variable {S:Keyed->Prop}{L:Keyed->Keyed->Bool}
end
section
variable {M:Model}{A:Around}{E:Value->Shared->Prop}{s:Shared} {κ:SortKind} {S:Keyed->Prop}{L:Keyed->Keyed->Bool}
def At (L:Keyed->Keyed->Bool) (arr arr':Array Keyed) (sa n:Nat):Prop:=∃ seg:List Keyed,arr'.toList=arr.toList.take sa++seg++arr.toList.drop (sa+n)/\Srt L seg/\seg.Perm (arr.extract sa (sa+n)).toList
end
end Tm
end
section
namespace Tm
open PySem PySem.W PyProof.Rows
section
variable {L:Keyed->Keyed->Bool}
end
section
variable {M:Model}{A:Around}{E:Value->Shared->Prop}{s:Shared} {κ:SortKind} {S:Keyed->Prop}{L:Keyed->Keyed->Bool}
end
end Tm
end
section
namespace Tm
open PySem PySem.W PyProof.Rows
section
variable {S:Keyed->Prop}{L:Keyed->Keyed->Bool}
end
section
variable {M:Model}{A:Around}{E:Value->Shared->Prop}{s:Shared} {κ:SortKind} {S:Keyed->Prop}{L:Keyed->Keyed->Bool}
end
end Tm
end
section
namespace Tm
open PySem PySem.W PyProof.Rows
section
variable {L:Keyed->Keyed->Bool}
end
section
variable {M:Model}{A:Around}{E:Value->Shared->Prop}{s:Shared} {κ:SortKind} {S:Keyed->Prop}{L:Keyed->Keyed->Bool}
end
end Tm
end
section
namespace L2
open PySem PySem.Spec PyProof.Rows PySem.W Kn
theorem s1 (x y:Str) (h:sLt x y=true):sLt y x=false:=by
 by_cases e:x=y
 ·subst e;exact sLt_irrefl x
 ·rw[sLt_total e,h];rfl
theorem s2 (x y:Str) (h:sLt x y=false):x=y\/sLt y x=true:=by
 by_cases e:x=y
 ·exact .inl e
 ·exact .inr (by rw[sLt_total e,h];rfl)
end L2
end
section
namespace L2
open PySem PySem.Spec PyProof.Rows PySem.W Kn
section
variable {prog:Program}{w:World}{A:Around}{E:Value->Shared->Prop}{s:Shared}{H:Hp}
end
section
variable {X:Cx}
end
end L2
end
section
namespace L2
open PySem PySem.Spec PyProof.Rows PySem.W
section
variable {prog:Program}{w:World}{A:Around}{E:Value->Shared->Prop}{s:Shared}
end
section
variable {X:Cx}
end
end L2
end
section
namespace L2
open PySem PySem.Spec PyProof.Rows PySem.W
def IsTy (t T:String) (b:Bool):Prop:=∀ K:PySem.W.Frag,PySem.W.kitOne K (.type t) (.type T)=some b
theorem ist_self (t:String):IsTy t t true:=fun K=>by unfold PySem.W.kitOne;rw[if_pos (by simp)]
theorem ist_int_tuple:IsTy "int" "tuple" false:=fun K=>by kernel_rfl
theorem ist_str_tuple:IsTy "str" "tuple" false:=fun K=>by kernel_rfl
theorem ist_int_bool:IsTy "int" "bool" false:=fun K=>by kernel_rfl
theorem ist_str_bool:IsTy "str" "bool" false:=fun K=>by kernel_rfl
theorem ist_int_str:IsTy "int" "str" false:=fun K=>by kernel_rfl
section
variable {X:Cx}
def rIsT (K:PySem.W.Frag):List V->Hp->VK->Prop:=fun xs H Q=>∃ x T t b,xs=[x,.ty T]/\TyOf K H x (.type t)/\IsTy t T b/\Q (.bl b) H
theorem call_isT:CallR X (.builtin "isinstance") (rIsT X.K):=by
 intro pins s σ H xs us Q I r h
 obtain⟨x,T,t,b,rfl,ty,e,q⟩:=h
 obtain⟨u,v,rfl,ru,rv⟩:=r.two
 cases rv
 exact isinst_ok I ru ty (e X.K) fun tk=>⟨.bl b,H,I.tok _,rfl,q⟩
def rIsSI:List V->Hp->VK->Prop:=fun xs H Q=>∃ x tp,xs=[x,.ref tp]/\H tp=some (.tup [.ty "str",.ty "int"])/\((∃ i,x=.int i)\/∃ z,x=.str z)/\Q (.bl true) H
theorem call_isSI:CallR X (.builtin "isinstance") rIsSI:=by
 intro pins s σ H xs us Q I r h
 obtain⟨x,tp,rfl,ht,hx,q⟩:=h
 obtain⟨u,v,rfl,ru,rv⟩:=r.two
 cases rv
 obtain⟨_,its,r2,o,h1,h2,n,h3⟩:=(show ObjOk X.prog X.w H s.heap tp (.tup [.ty "str",.ty "int"]) from I.hok tp _ ht)
 obtain⟨u1,u2,rfl,q1,q2⟩:=r2.two
 cases q1
 cases q2
 obtain⟨cls,dd,data,sl⟩:=o
 simp only at h2 h3
 subst h2 h3
 rcases hx with ⟨i,rfl⟩ | ⟨z,rfl⟩
 ·obtain⟨t,rfl⟩:=ru
  refine PySem.W.kia_tup (its:=[.type "str",.type "int"]) PySem.W.kitx_int I.kIn True.intro h1 ?_ (fun z=>nomatch z) fun tk=>⟨.bl true,H,I.tok _,rfl,q⟩
  unfold PySem.W.kitAny
  rw[ist_int_str X.K]
  show PySem.W.kitAny X.K (.type "int") [.type "int"]=_
  unfold PySem.W.kitAny
  rw[ist_self "int" X.K]
 ·obtain⟨t,rfl⟩:=ru
  refine PySem.W.kia_tup (its:=[.type "str",.type "int"]) PySem.W.kitx_str I.kIn True.intro h1 ?_ (fun z=>nomatch z) fun tk=>⟨.bl true,H,I.tok _,rfl,q⟩
  unfold PySem.W.kitAny
  rw[ist_self "str" X.K]
theorem call_isA:CallR X (.builtin "isinstance") (fun xs H Q=>rIsT X.K xs H Q\/rIsSI xs H Q):=call_isT.or call_isSI
section
open PySem.AutoSeq1 (wpAny_loadPart')
open PySem.MeetsSeq PySem.MeetsSeq2 PySem.MeetsSeq3 PySem.SeqAt
end
end
end L2
end
section
namespace L2
open PySem PySem.Spec PyProof.Rows PySem.W
section
open AutoSeq1 (wpAny_loadPart')
end
section
variable {prog:Program}{w:World}{A:Around}{E:Value->Shared->Prop}{s:Shared}
end
section
variable {X:Cx}
end
end L2
end
section
namespace L2
open PySem PySem.Spec PyProof.Rows PySem.W
section
variable {X:Cx}
structure TopD (K:PySem.W.Frag) (w:World) (a:Addr):Prop where
 ex:∃ (es:Array DictEntry) (n:Nat),K.lookup a=some ⟨.type "dict",none,.dict es n,#[]⟩/\PySem.W.KeysLit w.params es.toList
 lo:(a == sysModules)=false
end
end L2
end
section
namespace L2
open PySem PySem.Spec PyProof.Rows
section
variable {P:Program}{w:World}{fs ex:List Addr}{H:Hp}{h h':Heap}{T c:Addr}{ps more:Array Value}{o:HO}
theorem Un.tblNew (hT:H T=some (.tbl ps)) (k:∀ b u,b≠T->h.get? b=some u->h'.get? b=some u) (e:∃ u,h'.get? T=some u) (hp:h.objs.size<=c) (hn:H c=none):Un fs ex H (upd (upd H T (.tbl (ps++more))) c o) h h':=by
 have cT:T≠c:=ne_of_none hT hn
 have nT:∀ b,H b=none->b≠T:=fun b n z=>by rw[z,hT]at n;cases n
 have oth:∀ b u,H b=some u->b≠T->upd (upd H T (.tbl (ps++more))) c o b=some u:=fun b u q z=>by rw[upd_ne (ne_of_none q hn),upd_ne z];exact q
 refine⟨fun b u q n _ _=>k b u (nT b n) q,fun b u q n _ _=>⟨u.slots,k b u (nT b n) q⟩,fun b u q n _=>?_,fun b u q _=>?_,fun b xs q=>oth b _ q fun z=>?_,fun b u xs q=>oth b _ q fun z=>?_,fun b qs q=>?_⟩
 ·rw[upd_ne (Nat.ne_of_lt (Nat.lt_of_lt_of_le (Heap.lt_size q) hp)),upd_ne (nT b n)];exact n
 ·by_cases z:b=T
  ·rw[z];exact e
  ·exact⟨u,k b u z q⟩
 ·rw[z,hT]at q;cases q
 ·rw[z,hT]at q;cases q
 ·by_cases z:b=T
  ·rw[z,hT]at q;cases q
   exact⟨more,by rw[z,upd_ne cT,upd_same]⟩
  ·exact⟨#[],by rw[oth b _ q z];simp⟩
theorem HOk.tblNew (x:HOk P w H h) (hT:H T=some (.tbl ps)) (k:∀ b u,b≠T->h.get? b=some u->h'.get? b=some u) (e:h'.get? T=some (PySem.W.tabObj (ps++more))) (hn:H c=none) (new:∀ H',ObjOk P w H' h' c o):HOk P w (upd (upd H T (.tbl (ps++more))) c o) h':=fun b u q=>by
 have cT:T≠c:=ne_of_none hT hn
 by_cases z:b=c
 ·rw[z,upd_same]at q;cases q;rw[z];exact new _
 rw[upd_ne z]at q
 by_cases y:b=T
 ·rw[y,upd_same]at q;cases q;rw[y];exact e
 rw[upd_ne y]at q
 have oth:∀ b u,H b=some u->b≠T->upd (upd H T (.tbl (ps++more))) c o b=some u:=fun b u q z=>by rw[upd_ne (ne_of_none q hn),upd_ne z];exact q
 have nT:∀ d v,H d=some v->(∀ qs,v≠.tbl qs)->d≠T:=fun d v r m z=>by rw[z,hT]at r;cases r;exact m _ rfl
 refine (x b u q).stay (fun d v hd r=>k d v ?_ r) (fun d r=>oth d _ r (nT d _ r fun _ z=>by cases z)) fun d xs r=>oth d _ r (nT d _ r fun _ z=>by cases z)
 rcases hd with rfl | hd
 ·exact y
 ·exact nT d _ hd fun _ z=>by cases z
end
section
variable {X:Cx}
def CodeO (c:Addr) (qual:Str):Heap->Prop:=fun h=>h.CodeRec (.ref c) qual
def LamT (H:Hp) (T:Addr) (pos:Pos) (qual:Str):Prop:=H T=some (.tbl #[])\/∃ c,H T=some (.tbl #[rawInt pos.line,rawInt pos.col,.ref c])/\H c=some (.ext (CodeO c qual))
theorem codeO_ok {P:Program}{w:World}{h:Heap}{c:Addr}{qual:Str} (x:h.CodeRec (.ref c) qual) (H':Hp):ObjOk P w H' h c (.ext (CodeO c qual)):=by
 refine⟨x,?_,fun h1 h2 y k=>?_⟩
 ·obtain⟨d,o,vs,t,e,e1,e2,e3⟩:=x
  cases e
  exact⟨o,e1⟩
 ·obtain⟨d,o,vs,t,e,e1,e2,e3⟩:=y
  cases e
  exact⟨c,o,vs,t,rfl,k _ e1,e2,e3⟩
structure LmK (K:PySem.W.Frag) (mg:Str->Option Value) (c T:Addr):Prop where
 cd:PySem.W.codeHdIn K c T=true
 bi:∃ (bm:Addr) (ob:Obj),mg "__builtins__"=some (.ref bm)/\K.lookup bm=some ob/\bm≠builtinsNs/\bm≠mainGlobals/\bm≠T/\ob.cls=.type "module"/\ob.dict=some builtinsNs/\ob.data=.plain
 gT:mainGlobals≠T
theorem Fun.okC {P:Program}{w:World}{K:PySem.W.Frag}{mg:Str->Option Value}{base:Heap}{x qual:Str}{st:Stmt}{f c:Addr}{fd:FuncData}{N ps:List Str}{k:Nat}{sp:Sp} (F:Fun K x qual st f fd) (hc:fd.code=.ref c) (S:FnScope N ps (defScope st)) (len:∀ vs H Q E,sp vs H Q E->vs.length=ps.length)
  (body:∀ (A:Around) (outer:List Env) (s:Shared) (H:Hp) (vs:List V) (Q:VK) (E:XK),Room k (A.deeper (envOfC qual (defScope st) s.heap.objs.size f (.ref c)))->sp vs H Q E ->
   ∃ t,Hd (PSs (cxOf CX0 P w K mg base N qual (defScope st) f (.ref c) A outer s H E).nox (defBody st) t)/\t { nx:=fun _ H'=>Q .non H',rt:=Q } (start N vs) H):FnOk P w K mg base CX0 (k+1) f fd ps sp:=by
 obtain⟨oc,od,kV,doc,pm,an,cdv,ct,osl,rfl,lk,hcd⟩:=F.ex
 obtain rfl:cdv=.ref c:=hc
 refine fn_of lk hcd S len fun A outer s H vs Q E hr h=>?_
 obtain⟨t,h1,h2⟩:=body A outer s H vs Q E hr h
 exact⟨t,h1.out.nox,h2⟩
end
end L2
end
section
namespace L2
open PySem PySem.Spec PyProof.Rows
def CellO (c:Addr) (o:Obj):Heap->Prop:=fun h=>h.get? c=some o
def CellIs (o:Obj) (v:V):Prop:=∃ u,RelV v u/\o.data=.cell (some u)
abbrev Clos:=List (Str×Addr)
def inC (clos:Clos) (b:Addr):Prop:=b∈clos.map (·.2)
instance (clos:Clos) (b:Addr):Decidable (inC clos b):=by unfold inC;infer_instance
def addG (H:Hp) (clos:Clos) (g:Addr->Obj):Hp:=fun b=>if inC clos b then some (.ext (CellO b (g b))) else H b
def remC (H:Hp) (clos:Clos):Hp:=fun b=>if inC clos b then none else H b
def backC (H' H:Hp) (clos:Clos):Hp:=fun b=>if inC clos b then H b else H' b
def CellsG (H:Hp) (clos:Clos) (g:Addr->Obj) (ws:List V):Prop:=(∀ b,inC clos b->H b=some (.ext (CellO b (g b))))/\Paired (fun (p:Str×Addr) v=>CellIs (g p.2) v) clos ws
def ClosInj (clos:Clos):Prop:=∀ x y c,clos.lookup x=some c->clos.lookup y=some c->x=y
def LamOC (qual:Str) (params:Arguments) (body:Expr) (scope:Scope) (clos:Clos) (pm:Value) (c:Addr) (ctv:Value) (f:Addr):Heap->Prop:=fun h=>h.get? f=some (PySem.W.kla_obj "<lambda>" qual params body scope clos pm c ctv)
section
variable {P:Program}{w:World}{H H':Hp}{h h':Heap}{clos:Clos}{g:Addr->Obj}
theorem remC_in {b:Addr} (i:inC clos b):remC H clos b=none:=if_pos i
theorem remC_ne {b:Addr} (i:¬inC clos b):remC H clos b=H b:=if_neg i
theorem remC_some {b:Addr}{o:HO} (e:remC H clos b=some o):¬inC clos b/\H b=some o:=by
 by_cases i:inC clos b
 ·rw[remC_in i]at e;cases e
 ·exact⟨i,(remC_ne i).symm.trans e⟩
theorem cellO_ok {c:Addr}{o:Obj} (x:h.get? c=some o) (H':Hp):ObjOk P w H' h c (.ext (CellO c o)):=⟨x,⟨o,x⟩,fun h1 h2 y k=>k _ y⟩
theorem HOk.rem (x:HOk P w H h) (hc:∀ b,inC clos b->∃ q,H b=some (.ext q)):HOk P w (remC H clos) h:=fun b u e=>by
 obtain⟨_,e⟩:=remC_some e
 refine (x b u e).stay (fun d v _ r=>r) (fun d r=>?_) fun d xs r=>?_
 ·rw[remC_ne fun i=>by obtain⟨q,z⟩:=hc d i;rw[z]at r;cases r];exact r
 ·rw[remC_ne fun i=>by obtain⟨q,z⟩:=hc d i;rw[z]at r;cases r];exact r
theorem HOk.addG (x:HOk P w H h) (hn:∀ b,inC clos b->H b=none) (hg:∀ b,inC clos b->h.get? b=some (g b)):HOk P w (addG H clos g) h:=fun b u e=>by
 by_cases i:inC clos b
 ·have e':L2.addG H clos g b=some (.ext (CellO b (g b))):=if_pos i
  rw[e']at e;cases e
  exact cellO_ok (hg b i) _
 ·have e':L2.addG H clos g b=H b:=if_neg i
  rw[e']at e
  have old:∀ d u,H d=some u->L2.addG H clos g d=some u:=fun d u r=>by
   have:L2.addG H clos g d=H d:=if_neg fun i=>by rw[hn d i]at r;cases r
   rw[this];exact r
  exact (x b u e).stay (fun d v _ r=>r) (fun d r=>old _ _ r) fun d xs r=>old _ _ r
theorem HOk.back (x:HOk P w H' h') (hn:∀ b,inC clos b->H' b=none) (hc:∀ b,inC clos b->H b=some (.ext (CellO b (g b)))) (hg:∀ b,inC clos b->h'.get? b=some (g b)):HOk P w (backC H' H clos) h':=fun b u e=>by
 by_cases i:inC clos b
 ·have e':backC H' H clos b=H b:=if_pos i
  rw[e',hc b i]at e;cases e
  exact cellO_ok (hg b i) _
 ·have e':backC H' H clos b=H' b:=if_neg i
  rw[e']at e
  have old:∀ d u,H' d=some u->backC H' H clos d=some u:=fun d u r=>by
   have:backC H' H clos d=H' d:=if_neg fun i=>by rw[hn d i]at r;cases r
   rw[this];exact r
  exact (x b u e).stay (fun d v _ r=>r) (fun d r=>old _ _ r) fun d xs r=>old _ _ r
end
structure LamScope (ps fr:List Str) (scope:Scope):Prop where
 kind:scope.kind=.function
 co:scope.isCoroutine=false
 gen:scope.isGenerator=false
 nd:(ps++fr).Nodup
 nocell:∀ y∈scope.names,y.2≠.cell
 free:∀ y∈scope.names,y.2=.free->y.1∈fr
 isfree:∀ x∈fr,scope.names.lookup x=some .free
 isloc:∀ x∈ps,scope.names.lookup x=some .local
theorem rev_lookup:∀ {ps:List Str}{us:List Value}{i:Nat}{x:Str}{u:Value},ps.Nodup->ps[i]?=some x->us[i]?=some u->(ps.zip us).reverse.lookup x=some u
 | [],_,_,_,_,_,h,_=>by simp at h
 | _::_,[],_,_,_,_,_,h=>by simp at h
 | p::ps,w::us,0,x,u,nd,h1,h2=>by
  simp only[List.getElem?_cons_zero,Option.some.injEq]at h1 h2
  subst h1 h2
  rw[List.zip_cons_cons,List.reverse_cons,List.lookup_append]
  have:(ps.zip us).reverse.lookup p=none:=by
   rw[List.lookup_eq_none_iff]
   rintro⟨a,b⟩ hab
   have ha:=(List.of_mem_zip (List.mem_reverse.mp hab)).1
   have:p≠a:=fun z=>(List.nodup_cons.mp nd).1 (z ▸ ha)
   simpa using this
  rw[this];simp
 | p::ps,w::us,i+1,x,u,nd,h1,h2=>by
  rw[List.zip_cons_cons,List.reverse_cons,List.lookup_append,rev_lookup (List.nodup_cons.mp nd).2 (by simpa using h1) (by simpa using h2)]
  rfl
def envL (qual:Str) (scope:Scope) (clos:Clos) (L f:Addr) (cd:Value):Env:=newEnv scope L mainGlobals clos (qual++".<locals>.") (some f) cd none builtinsNs
def cxL (P:Program) (w:World) (K:PySem.W.Frag) (mg:Str->Option Value) (base:Heap) (N:List Str) (qual:Str) (scope:Scope) (clos:Clos) (f:Addr) (cd:Value) (A:Around) (outer:List Env) (s:Shared) (H:Hp):Cx where
 prog:=P
 w:=w
 K:=K
 mg:=mg
 base:=base
 A:=A.deeper (envL qual scope clos s.heap.objs.size f cd)
 N:=N
 s₀:=s
 H₀:=H
 env:=envL qual scope clos s.heap.objs.size f cd
 outer:=outer
 stack:=envL qual scope clos s.heap.objs.size f cd::outer
 ex:=[]
 calm:=true
 fn:=fun _=>false
 pn:=[]
 xe:=fun _ _=>False
theorem inC_of {clos:Clos}{x:Str}{c:Addr} (e:clos.lookup x=some c):inC clos c:=List.mem_map.mpr ⟨(x,c),PySem.mem_of_lookup e,rfl⟩
theorem lookup_fr:∀ {clos:Clos}{i:Nat}{p:Str×Addr},(clos.map (·.1)).Nodup->clos[i]?=some p->clos.lookup p.1=some p.2
 | [],_,_,_,h=>by simp at h
 | q::r,0,p,_,h=>by
  simp only[List.getElem?_cons_zero,Option.some.injEq]at h
  subst h;simp [List.lookup]
 | q::r,i+1,p,nd,h=>by
  rw[List.map_cons,List.nodup_cons]at nd
  have h':r[i]?=some p:=by simpa using h
  have ne:(p.1 == q.1)=false:=by
   have:p.1≠q.1:=fun z=>nd.1 (by rw[<- z];exact List.mem_map.mpr ⟨p,List.mem_of_getElem? h',rfl⟩)
   simpa using this
  show (match p.1 == q.1 with | true=>some q.2 | false=>r.lookup p.1)=some p.2
  rw[ne];exact lookup_fr nd.2 h'
theorem pair_getC {α β:Type} {F:α->β->Prop}:∀ {l:List α}{m:List β}{i:Nat}{y:β},Paired F l m->m[i]?=some y->∃ x,l[i]?=some x/\F x y
 | _,_,_,_,.nil,h=>by simp at h
 | _,_,0,y,.cons r t,h=>by simp at h;subst h;exact⟨_,rfl,r⟩
 | _,_,i+1,y,.cons r t,h=>by
  obtain⟨x,h1,h2⟩:=pair_getC (i:=i) t (by simpa using h)
  exact⟨x,by simpa using h1,h2⟩
theorem inv_startL {P:Program}{w:World}{K:PySem.W.Frag}{mg:Str->Option Value}{base:Heap}{ps:List Str}{qual:Str}{scope:Scope}{clos:Clos}{f:Addr}{cd:Value}{A:Around}{outer:List Env}{s:Shared}{H:Hp}{us:List Value}{vs ws:List V}{g:Addr->Obj}{h':Heap}{tk:Nat}
  (S:LamScope ps (clos.map (·.1)) scope) (inj:ClosInj clos) (hd:A.handled=none) (e0:Env0 P w K mg base A outer s H) (hl:vs.length=ps.length) (r:Vals vs us) (cg:CellsG H clos g ws)
  (hns:h'.Ns s.heap.objs.size (fun x=>(ps.zip us).reverse.lookup x)) (hsb:Heap.SameBut s.heap.objs.size (s.heap.push { cls:=.type "frame",data:=.dict #[] }) h') :
  Inv (cxL P w K mg base (ps++clos.map (·.1)) qual scope clos f cd A outer s (remC H clos)) [] (vs.map some++ws.map some) (remC H clos) { s with heap:=h',toks:=tk }:=by
 have hk:∀ b o,s.heap.get? b=some o->h'.get? b=some o:=fun b o e=>by
  rw[hsb.2 b (Nat.ne_of_lt (Heap.lt_size e))];exact Heap.get?_push_of_some _ e
 have cells:∀ b,inC clos b->s.heap.get? b=some (g b):=fun b i=>(e0.hok b _ (cg.1 b i)).1
 have hok1:HOk P w (remC H clos) s.heap:=e0.hok.rem fun b i=>⟨_,cg.1 b i⟩
 have bne:∀ b,H b=none->remC H clos b=none:=fun b e=>by
  by_cases i:inC clos b
  ·exact remC_in i
  ·rw[remC_ne i];exact e
 have noA:∀ b:Addr,b ∉ (cxL P w K mg base (ps++clos.map (·.1)) qual scope clos f cd A outer s (remC H clos)).ex:=fun b z=>absurd (show b∈([]:List Addr) from z) (by simp)
 have lw:ws.length=clos.length:=(Paired.length cg.2).symm
 have ndc:(clos.map (·.1)).Nodup:=(List.nodup_append.mp S.nd).2.1
 have isc:∀ x c,clos.lookup x=some c->∃ v,h'.IsCell c v:=fun x c e=>by
  have hm:=PySem.mem_of_lookup e
  obtain⟨i,hi,ei⟩:=List.mem_iff_getElem.mp hm
  have:ws[i]?=some (ws[i]'(by lia)):=List.getElem?_eq_getElem _
  obtain⟨p,e1,u,_,e2⟩:=pair_getC cg.2 this
  have ep:p=(x,c):=by rw[List.getElem?_eq_getElem hi,ei]at e1;exact (Option.some.inj e1).symm
  subst ep
  exact⟨_,_,hk _ _ (cells c (inC_of e)),e2⟩
 refine⟨⟨e0.mod,S.kind,rfl,rfl,Nat.le_refl _,inj,fun y hy=>?_,fun y c z=>(nomatch z),fun _=>hd,Around.frames_deeper e0.frames,.inr ⟨rfl,rfl⟩,fun b z=>absurd z (noA b),fun b o e=>⟨(e0.bs b o e).1,bne _ (e0.bs b o e).2⟩,e0.bsz,fun b _ _=>noA b,fun b z=>absurd z (noA b),e0.funs,fun b hb=>bne _ (e0.frf b hb)⟩,
  rfl,e0.bare,Un.kept hk,⟨_,hns,fun i y v h1 h2 h3=>?_⟩,isc,hok1.fresh (Nat.le_refl _),fun y c h=>remC_in (inC_of h),fun p hp=>absurd (show p∈([]:List (Addr×Obj)) from hp) (by simp),hok1.kept hk,?_⟩
 ·have hy:scope.names.lookup y=some .cell\/scope.names.lookup y=some .free:=hy
  rcases hy with hy | hy
  ·exact absurd rfl (S.nocell _ (PySem.mem_of_lookup hy))
  ·have:=S.free _ (PySem.mem_of_lookup hy) rfl
   obtain⟨p,hp,e⟩:=List.mem_map.mp this
   obtain⟨i,hi,ei⟩:=List.mem_iff_getElem.mp hp
   have:=lookup_fr ndc (List.getElem?_eq_getElem hi)
   rw[ei,e]at this
   exact⟨_,this⟩
 ·have h1:(ps++clos.map (·.1))[i]?=some y:=h1
  by_cases hi:i<ps.length
  ·rw[List.getElem?_append_left hi]at h1
   rw[List.getElem?_append_left (by rw[List.length_map];lia),List.getElem?_map]at h2
   cases e:vs[i]? with
   | none=>rw[e]at h2;cases h2
   | some a=>
    rw[e]at h2;cases h2
    obtain⟨u,hu,rv⟩:=r.get e
    exact⟨u,rv,.inl ⟨S.isloc y (List.mem_of_getElem? h1),rev_lookup (List.nodup_append.mp S.nd).1 h1 hu⟩⟩
  ·rw[List.getElem?_append_right (by lia),List.getElem?_map]at h1
   rw[List.getElem?_append_right (by rw[List.length_map];lia),List.getElem?_map,List.length_map,hl]at h2
   cases e:ws[i-ps.length]? with
   | none=>rw[e]at h2;cases h2
   | some a=>
    rw[e]at h2;cases h2
    obtain⟨p,e1,u,rv,e2⟩:=pair_getC cg.2 e
    rw[e1]at h1;cases h1
    have lk:=lookup_fr ndc e1
    exact⟨u,rv,.inr ⟨.inr (S.isfree _ (List.mem_map.mpr ⟨p,List.mem_of_getElem? e1,rfl⟩)),p.2,lk,_,hk _ _ (cells p.2 (inC_of lk)),e2⟩⟩
 ·show _=(ps++clos.map (·.1)).length
  rw[List.length_append,List.length_append,List.length_map,List.length_map,List.length_map,hl,lw]
theorem lam_ofC {P:Program}{w:World}{K:PySem.W.Frag}{mg:Str->Option Value}{base:Heap}{k:Nat}{f c:Addr}{qual:Str}{params:Arguments}{body:Expr}{scope:Scope}{clos:Clos}{pm ctv:Value}{ps:List Str}{sp:Sp}
  (S:LamScope ps (clos.map (·.1)) scope) (inj:ClosInj clos) (len:∀ vs H Q E,sp vs H Q E->vs.length=ps.length)
  (at_:∀ vs H Q E,sp vs H Q E->H f=some (.ext (LamOC qual params body scope clos pm c ctv f))/\H c=some (.ext (CodeO c qual))/\∃ g ws,CellsG H clos g ws)
  (one:∀ (A:Around) (out:List Env) (s:Shared) (H:Hp) (vs ws:List V) (g:Addr->Obj) (Q:VK) (E:XK),Room k (A.deeper (envL qual scope clos s.heap.objs.size f (.ref c)))->sp vs H Q E->CellsG H clos g ws ->
   ∃ te,Hd (PE (cxL P w K mg base (ps++clos.map (·.1)) qual scope clos f (.ref c) A out s (remC H clos)) body te)/\te (vs.map some++ws.map some) (remC H clos) fun v H'=>(∀ b,inC clos b->H' b=none)->Q v (backC H' H clos)) :
  FnOk P w K mg base CX0 (k+1) f (PySem.W.kla_fn "<lambda>" qual params body scope clos pm (.ref c) ctv) ps sp:=by
 refine⟨len,fun A out s H args us vs Q E room en bnd rel spec=>?_⟩
 obtain⟨hf,hc,g,ws,cg⟩:=at_ _ _ _ _ spec
 have ho:s.heap.get? f=some _:=(en.hok f _ hf).1
 have hr:s.heap.CodeRec (.ref c) qual:=(en.hok c _ hc).1
 have hl:=len _ _ _ _ spec
 refine PySem.W.kla_callFunE room.depth ho rfl S.co S.gen rfl hr (bnd _ _ _ _ ?_)
 refine wpAny_newFunctionEnv S.nocell (fun y hy=>S.isloc _ (List.of_mem_zip (show (y.1,y.2)∈ps.zip us from hy)).1) (fun h' hns hsb=>?_) S.kind
 have hk:∀ b o,s.heap.get? b=some o->h'.get? b=some o:=fun b o e=>by
  rw[hsb.2 b (Nat.ne_of_lt (Heap.lt_size e))];exact Heap.get?_push_of_some _ e
 refine⟨(en.mod.nolimit.keeps fun b o e=>(en.bs b o e).1).keeps hk,PySem.W.kla_codeExpr ?_⟩
 obtain⟨te,ht,hq⟩:=one A out s H vs ws g Q E (room.deeper _) spec cg
 have cells:∀ b,inC clos b->s.heap.get? b=some (g b):=fun b i=>(en.hok b _ (cg.1 b i)).1
 refine wpAny_mono (ht.out [] _ _ _ _ (inv_startL S inj room.hd en hl rel cg hns hsb) hq) (fun u s' ⟨v,H',J,rv,q⟩=>?_) fun e s' z=>z.elim
 have un:=J.base
 have nfr:∀ b,inC clos b->b ∉ frs out:=fun b i z=>by have:=en.frf b z;rw[cg.1 b i]at this;cases this
 have hfree:∀ b,inC clos b->H' b=none:=fun b i=>un.free b _ (cells b i) (remC_in i) (by simp [cxL])
 have bno:∀ {b:Addr}{o:HO},H b=some o->(∀ q,o≠.ext q)->¬inC clos b:=fun e n i=>by rw[cg.1 _ i]at e;cases e;exact n _ rfl
 have bb:∀ {b:Addr},¬inC clos b->backC H' H clos b=H' b:=fun i=>if_neg i
 refine⟨v,backC H' H clos,J.os,J.bare,⟨fun b o e n hb hx=>un.keep b o e ?_ hb hx,fun b o e n hb hx=>un.slot b o e ?_ hb hx,fun b o e n hx=>?_,un.there,fun b xs e=>?_,fun b o v e=>?_,fun b qs e=>?_⟩,J.hok.back hfree cg.1 (fun b i=>un.keep b _ (cells b i) (remC_in i) (nfr b i) (by simp [cxL])),rv,q hfree⟩
 ·by_cases i:inC clos b
  ·exact remC_in i
  ·exact (remC_ne i).trans n
 ·by_cases i:inC clos b
  ·exact remC_in i
  ·exact (remC_ne i).trans n
 ·have i:¬inC clos b:=fun i=>by rw[cg.1 b i]at n;cases n
  rw[bb i]
  exact un.free b o e ((remC_ne i).trans n) hx
 ·have i:=bno e (fun q z=>by cases z)
  rw[bb i];exact un.tups b xs ((remC_ne i).trans e)
 ·have i:=bno e (fun q z=>by cases z)
  rw[bb i];exact un.frzs b o v ((remC_ne i).trans e)
 ·have i:=bno e (fun q z=>by cases z)
  obtain⟨more,z⟩:=un.tbls b qs ((remC_ne i).trans e)
  exact⟨more,by rw[bb i];exact z⟩
section
variable {X:Cx}
theorem lamOC_ok {P:Program}{w:World}{h:Heap}{c f:Addr}{qual:Str}{params:Arguments}{body:Expr}{scope:Scope}{clos:Clos}{pm ctv:Value} (x:h.get? f=some (PySem.W.kla_obj "<lambda>" qual params body scope clos pm c ctv)) (H':Hp):ObjOk P w H' h f (.ext (LamOC qual params body scope clos pm c ctv f)):=
 ⟨x,⟨_,x⟩,fun h1 h2 y k=>k _ y⟩
def tLamC (T:Addr) (qual:Str) (params:Arguments) (body:Expr) (scope:Scope) (clos:Clos) (pm:Value) (pos:Pos):TE:=fun _ H Q=>LamT H T pos qual /\
 ∀ (f c:Addr) (ctv:Value) (H':Hp),H f=none->H' f=some (.ext (LamOC qual params body scope clos pm c ctv f))->H' c=some (.ext (CodeO c qual))->H' T=some (.tbl #[rawInt pos.line,rawInt pos.col,.ref c])->(∀ b o,b≠T->H b=some o->H' b=some o)->Q (.ref f) H'
theorem pe_lamC {clos:Clos}{params:Arguments}{body:Expr}{scope:Scope}{pos:Pos}{c T bm:Addr}{ob:Obj} (hdef:defaultsOf params X.env=([],[])) (hcl:closureFor scope X.env=pure clos) (hge:X.env.globals=mainGlobals) (hcode:X.env.code=.ref c) (hcd:PySem.W.codeHdIn X.K c T=true)
  (hbi:X.mg "__builtins__"=some (.ref bm)) (hbk:X.K.lookup bm=some ob) (h1:bm≠builtinsNs) (h2:bm≠mainGlobals) (h3:bm≠T) (h4:ob.cls=.type "module") (h5:ob.dict=some builtinsNs) (h6:ob.data=.plain) (hgT:mainGlobals≠T) :
  PE X (.Lambda params body scope pos) (tLamC T (X.env.qual++"<lambda>") params body scope clos ((X.mg "__name__").getD .none) pos):=by
 intro pins s σ H Q I ⟨hL,q⟩
 have hg:s.heap.Ns mainGlobals X.mg:=I.mod.glob.keeps I.bk
 have C:PySem.W.CodeHd s.heap c T:=PySem.W.codeHd_of_K I.kIn hcd
 have hb:s.heap.BuiltinsAt X.mg T:=⟨bm,ob,hbi,h1,h2,h3,I.kIn _ _ hbk,h4,h5,h6⟩
 refine PySem.W.kla_eval hdef ?_
 rcases hL with hT | ⟨c',hT,hC⟩
 ·have hP:s.heap.get? T=some (PySem.W.tabObj #[]):=I.hok T _ hT
  refine PySem.W.kla_makeFunction hcl hge hg hcode C hP trivial rfl hgT hb fun c' ctv h' tk ext hc1 hc2 rec tab=>?_
  have hcn:H c'=none:=I.hok.fresh hc1
  have cT:T≠c':=ne_of_none hT hcn
  have I1:Inv X pins σ (upd (upd H T (.tbl (#[]++#[rawInt pos.line,rawInt pos.col,.ref c']))) c' (.ext (CodeO c' (X.env.qual++"<lambda>")))) { s with heap:=h',toks:=tk }:=
   I.un (Un.tblNew hT (fun b u z e=>ext b u z e) ⟨_,tab⟩ hc1 hcn) (I.hok.tblNew hT (fun b u z e=>ext b u z e) tab hcn (codeO_ok rec))
  have hf1:(upd (upd H T (.tbl (#[]++#[rawInt pos.line,rawInt pos.col,.ref c']))) c' (.ext (CodeO c' (X.env.qual++"<lambda>")))) h'.objs.size=none:=I1.hok.fresh (Nat.le_refl _)
  have hf:H h'.objs.size=none:=by
   rw[upd_ne (fun z=>by rw[z,upd_same]at hf1;cases hf1)]at hf1
   rw[upd_ne (fun z=>by rw[z,upd_same]at hf1;cases hf1)]at hf1
   exact hf1
  have fc:c'≠h'.objs.size:=fun z=>by rw[<- z,upd_same]at hf1;cases hf1
  have fT:T≠h'.objs.size:=ne_of_none hT hf
  refine⟨.ref h'.objs.size,upd _ h'.objs.size (.ext (LamOC (X.env.qual++"<lambda>") params body scope clos ((X.mg "__name__").getD .none) c' ctv h'.objs.size)),I1.laid (t':=tk) (fun b u e=>Heap.get?_push_of_some _ e) (Nat.le_refl _) (lamOC_ok (Heap.get?_push_size _ rfl) _),rfl,q _ c' ctv _ hf upd_same ?_ ?_ fun b o z e=>?_⟩
  ·rw[upd_ne fc,upd_same]
  ·rw[upd_ne fT,upd_ne cT,upd_same];simp
  ·rw[upd_ne (ne_of_none e hf),upd_ne (ne_of_none e hcn),upd_ne z];exact e
 ·have hP:s.heap.get? T=some (PySem.W.tabObj #[rawInt pos.line,rawInt pos.col,.ref c']):=I.hok T _ hT
  refine PySem.W.kla_makeFunctionHit (cv:=.ref c') hcl hge hg hcode C hP ?_ ?_ hb fun ctv h' tk k hs=>?_
  ·simp [TriplesOk,rawInt]
  ·simp [codeAmong,rawInt]
  have I1:Inv X pins σ H { s with heap:=h',toks:=tk }:=I.kept k
  have hf:H h'.objs.size=none:=I1.hok.fresh (Nat.le_refl _)
  exact⟨.ref h'.objs.size,upd H h'.objs.size (.ext (LamOC (X.env.qual++"<lambda>") params body scope clos ((X.mg "__name__").getD .none) c' ctv h'.objs.size)),I1.laid (t':=tk) (fun b u e=>Heap.get?_push_of_some _ e) (Nat.le_refl _) (lamOC_ok (Heap.get?_push_size _ rfl) _),rfl,q _ c' ctv _ hf upd_same (by rw[upd_ne (ne_of_none hC hf)];exact hC) (by rw[upd_ne (ne_of_none hT hf)];exact hT) fun b o z e=>by rw[upd_ne (ne_of_none e hf)];exact e⟩
structure CapOk (X:Cx) (clos:Clos) (ix:List Nat):Prop where
 cells:∀ p∈clos,X.env.cells.lookup p.1=some p.2
 at_:Paired (fun (p:Str×Addr) i=>X.N[i]?=some p.1/\X.env.scope.names.lookup p.1=some .cell) clos ix
 fn:∀ x,X.fn x=true
def tCallC (sp:Sp) (clos:Clos) (ix:List Nat) (E:XK) (t:TA):TE:=fun σ H Q=>t σ H fun vs H1=>∃ ws:List V,(ix.map fun i=>(σ[i]?).join)=ws.map some /\
 ∀ g:Addr->Obj,Paired (fun (p:Str×Addr) v=>CellIs (g p.2) v) clos ws->(∀ b,inC clos b->H1 b=none)->sp vs (addG H1 clos g) (fun v H'=>(∀ b,inC clos b->H' b=some (.ext (CellO b (g b))))/\Q v (remC H' clos)) E
theorem cells_are {pins:List (Addr×Obj)} {σ:St} {H:Hp}{s:Shared}{clos:Clos}{ix:List Nat}{ws:List V}{g:Addr->Obj} (I:Inv X pins σ H s) (cc:∀ p∈clos,X.env.cells.lookup p.1=some p.2) (hg:∀ b o,s.heap.get? b=some o->g b=o)
  (at_:Paired (fun (p:Str×Addr) i=>X.N[i]?=some p.1/\X.env.scope.names.lookup p.1=some .cell) clos ix) (e:(ix.map fun i=>(σ[i]?).join)=ws.map some):Paired (fun (p:Str×Addr) v=>CellIs (g p.2) v) clos ws:=by
 induction at_ generalizing ws with
 | nil=>
  cases ws with
  | nil=>exact .nil
  | cons w r=>cases e
 | @cons p i l1 l2 h t ih=>
  cases ws with
  | nil=>cases e
  | cons w r=>
   rw[List.map_cons,List.map_cons]at e
   injection e with e1 e2
   refine .cons ?_ (ih (fun q hq=>cc q (List.mem_cons_of_mem _ hq)) e2)
   have es:σ[i]?=some (some w):=by
    cases q:σ[i]? with
    | none=>rw[q]at e1;cases e1
    | some o=>rw[q]at e1;exact congrArg some e1
   obtain⟨m,_,hloc⟩:=I.loc
   obtain⟨u,ru,lk⟩:=hloc i p.1 w h.1 es (.inr (.inl h.2))
   rcases lk with ⟨kk,_⟩ | ⟨_,c,hc,o,ho,hd⟩
   ·have kk:X.env.scope.names.lookup p.1=some .local:=kk
    rw[h.2]at kk;cases kk
   ·rw[cc p List.mem_cons_self]at hc
    cases hc
    exact⟨u,ru,by rw[hg _ _ ho];exact hd⟩
theorem run_fnC {pins:List (Addr×Obj)} {σ:St} {H:Hp}{s:Shared}{Q:VK}{us:List Value}{vs:List V}{k:Nat}{f:Addr}{fd:FuncData}{ps:List Str}{sp:Sp}{E:XK}{clos:Clos}{ix:List Nat}{ws:List V} (C:CapOk X clos ix) (F:FnOk X.prog X.w X.K X.mg X.base CX0 k f fd ps sp) (hr:Room k X.A) (hb:Binds X.K fd ps [])
  (I:Inv X pins σ H s) (r:Vals vs us) (ew:(ix.map fun i=>(σ[i]?).join)=ws.map some)
  (h:∀ g:Addr->Obj,Paired (fun (p:Str×Addr) v=>CellIs (g p.2) v) clos ws->(∀ b,inC clos b->H b=none)->sp vs (addG H clos g) (fun v H'=>(∀ b,inC clos b->H' b=some (.ext (CellO b (g b))))/\Q v (remC H' clos)) E) :
  wpAny (model X.prog X.w) X.A (call (.ref f) us) (EP X pins σ Q) X.xe s:=by
 obtain⟨g,hg⟩:∃ g:Addr->Obj,∀ b o,s.heap.get? b=some o->g b=o:=⟨fun b=>(s.heap.get? b).getD { cls:=.none,data:=.plain },fun b o e=>by show (s.heap.get? b).getD _=o;rw[e];rfl⟩
 have lk:∀ b,inC clos b->∃ x,X.env.cells.lookup x=some b:=fun b i=>by
  obtain⟨p,hp,e⟩:=List.mem_map.mp i
  exact⟨p.1,by rw[<- e];exact C.cells p hp⟩
 have free:∀ b,inC clos b->H b=none:=fun b i=>by obtain⟨x,e⟩:=lk b i;exact I.freeC x b e
 have there:∀ b,inC clos b->s.heap.get? b=some (g b):=fun b i=>by
  obtain⟨x,e⟩:=lk b i
  obtain⟨v,o,ho,_⟩:=I.cell x b e
  rw[ho,hg b o ho]
 have above:∀ b,inC clos b->X.s₀.heap.objs.size<=b:=fun b i=>by obtain⟨x,e⟩:=lk b i;exact I.ok.cab x b (C.fn x) e
 have spec:=h g (cells_are I C.cells hg C.at_ ew) free
 have addN:∀ {b:Addr},¬inC clos b->addG H clos g b=H b:=fun i=>if_neg i
 have hl:us.length=ps.length:=by rw[<- r.length];exact F.len _ _ _ _ spec
 have en:Env0 X.prog X.w X.K X.mg X.base X.A X.stack s (addG H clos g):=by
  refine⟨I.ok.frames,I.ok.mod,fun b o e=>⟨(I.bs b o e).1,?_⟩,Nat.le_trans I.ok.bsz I.sz,I.stack,fun b hb=>?_,I.hok.addG free there,I.bare⟩
  ·rw[addN fun i=>absurd (Nat.lt_of_lt_of_le (Heap.lt_size e) I.ok.bsz) (Nat.not_lt.mpr (above b i))]
   exact (I.bs b o e).2
  ·rw[addN fun i=>?_]
   ·exact I.stkFree b hb
   ·rcases List.mem_cons.mp (I.stkSub b hb) with z | z
    ·obtain⟨x,e⟩:=lk b i
     exact I.cne x b e z
    ·obtain⟨_,o,ho,_⟩:=I.ok.funs.mem z
     exact absurd (Heap.lt_size ho) (Nat.not_lt.mpr (above b i))
 have bnd:=hb s us I.kIn (by rw[List.append_nil];exact hl)
 rw[List.append_nil]at bnd
 refine wpAny_call (codeAny_mono (F.run X.A X.stack s (addG H clos g) ⟨us,[]⟩ us vs _ E hr en bnd r spec) fun r s' hq=>?_)
 cases r with
 | error e=>exact hq.elim
 | ok fl=>
  cases fl with
  | next=>exact False.elim hq
  | brk=>exact False.elim hq
  | cont=>exact False.elim hq
  | ret u=>
   obtain⟨v,H',os,bare,un,hok,rv,hc,q⟩:=hq
   obtain⟨hh,gg,d,t,os'⟩:=s'
   obtain rfl:os'=s.os:=os
   have kept:∀ b,inC clos b->hh.get? b=some (g b):=fun b i=>(hok b _ (hc b i)).1
   have nin:∀ {b:Addr}{o:HO},H b=some o->¬inC clos b:=fun e i=>by rw[free _ i]at e;cases e
   refine⟨v,remC H' clos,I.call (h':=hh) (g':=gg) (d':=d) (t':=t) (ch:=[]) ⟨fun b o e n hb hx=>?_,fun b o e n hb hx=>?_,fun b o e n hx=>?_,un.there,fun b xs e=>?_,fun b o v e=>?_,fun b qs e=>?_⟩ (hok.rem fun b i=>⟨_,hc b i⟩) bare (fun b z=>absurd z (by simp)),rv,q⟩
   ·by_cases i:inC clos b
    ·have:=kept b i;rw[hg b o e]at this;exact this
    ·exact un.keep b o e ((addN i).trans n) hb hx
   ·by_cases i:inC clos b
    ·have:=kept b i;rw[hg b o e]at this;exact⟨o.slots,this⟩
    ·exact un.slot b o e ((addN i).trans n) hb hx
   ·by_cases i:inC clos b
    ·exact remC_in i
    ·rw[remC_ne i];exact un.free b o e ((addN i).trans n) hx
   ·rw[remC_ne (nin e)];exact un.tups b xs ((addN (nin e)).trans e)
   ·rw[remC_ne (nin e)];exact un.frzs b o v ((addN (nin e)).trans e)
   ·rw[remC_ne (nin e)];exact un.tbls b qs ((addN (nin e)).trans e)
theorem pe_callC {k:Nat}{f:Addr}{fd:FuncData}{ps:List Str}{sp:Sp}{E:XK}{clos:Clos}{ix:List Nat}{x:Str}{p pos:Pos}{e:Expr}{es:List Expr}{t:TA} (C:CapOk X clos ix) (F:FnOk X.prog X.w X.K X.mg X.base CX0 k f fd ps sp) (hr:Room k X.A) (hg:Gl X x) (hm:X.mg x=some (.ref f)) (hk:PySem.W.keepIn X.K (.ref f)=true) (hb:Binds X.K fd ps [])
  (ha:PA X (e::es) t) (hs:noStars (e::es)=true:=by rfl) (hdb:(x == ("__debug__" : Str))=false:=by decide):PE X (.Call (.Name x p) (e::es) [] pos) (tCallC sp clos ix E t):=by
 have n2:notStar e=true/\noStars es=true:=Bool.and_eq_true_iff.mp hs
 intro pins s σ H Q I h
 refine wpAny_Call_Name_kw (ld_glob I hg hm ?_ hdb)
 refine PySem.W.callWith_K (h₀:=X.base) I.ok.mod.kin hk (thn (ha pos pins s σ H _ I h) fun us s1 ⟨vs,H1,I1,r,ws,ew,q⟩=>⟨I1.kIn,?_⟩) (star_cons n2.1) (stars_any n2.2)
 exact run_fnC C F hr hb I1 r ew q
theorem we_callC {k:Nat}{f:Addr}{fd:FuncData}{ps:List Str}{sp:Sp}{E:XK}{clos:Clos}{ix:List Nat}{x:Str}{p pos:Pos}{e:Expr}{es:List Expr}{t:TA} (C:CapOk X clos ix) (F:FnOk X.prog X.w X.K X.mg X.base CX0 k f fd ps sp) (hr:Room k X.A) (hg:Gl X x) (hm:X.mg x=some (.ref f)) (hk:PySem.W.keepIn X.K (.ref f)=true) (hb:Binds X.K fd ps [])
  (ha:Hd (PA X (e::es) t)) (hs:noStars (e::es)=true:=by rfl) (hdb:(x == ("__debug__" : Str))=false:=by decide):Hd (PE X (.Call (.Name x p) (e::es) [] pos) (tCallC sp clos ix E t)):=⟨pe_callC C F hr hg hm hk hb ha.out hs hdb⟩
theorem we_lamC {clos:Clos}{params:Arguments}{body:Expr}{scope:Scope}{pos:Pos}{c T:Addr} (L:LmK X.K X.mg c T) (hcl:closureFor scope X.env=pure clos) (hdef:defaultsOf params X.env=([],[]):=by rfl) (hge:X.env.globals=mainGlobals:=by rfl) (hcode:X.env.code=.ref c:=by rfl) :
  Hd (PE X (.Lambda params body scope pos) (tLamC T (X.env.qual++"<lambda>") params body scope clos ((X.mg "__name__").getD .none) pos)):=by
 obtain⟨cd,⟨bm,ob,b1,b2,b3,b4,b5,b6,b7,b8⟩,gT⟩:=L
 exact⟨pe_lamC hdef hcl hge hcode cd b1 b2 b3 b4 b5 b6 b7 b8 gT⟩
def tCallA0 (C:Addr->Sp->Prop) (E:XK) (te:TE):TE:=fun σ H Q=>te σ H fun y H1=>∃ f sp,y=.ref f/\C f sp/\sp [] H1 Q E
def HeldC (X:Cx) (k:Nat) (f:Addr) (sp:Sp):Prop:=∃ (c:Addr) (qual:Str) (params:Arguments) (body:Expr) (scope:Scope) (clos:Clos) (pm ctv:Value) (ps:List Str),
 FnOk X.prog X.w X.K X.mg X.base CX0 k f (PySem.W.kla_fn "<lambda>" qual params body scope clos pm (.ref c) ctv) ps sp/\Binds X.K (PySem.W.kla_fn "<lambda>" qual params body scope clos pm (.ref c) ctv) ps []/\∀ vs H Q E,sp vs H Q E->H f=some (.ext (LamOC qual params body scope clos pm c ctv f))
theorem pe_callL0 {k:Nat}{C:Addr->Sp->Prop}{E:XK}{fe:Expr}{te:TE}{pos:Pos} (hC:∀ f sp,C f sp->HeldC X k f sp) (room:Room k X.A) (pf:PE X fe te)
  (call:eval (.Call fe [] [] pos) X.env=(do callWith pos (<- eval fe X.env) [] (backTo pos (starEach [] X.env)) (backToKw pos (keywordEach [] X.env))):=by rfl) :
  PE X (.Call fe [] [] pos) (tCallA0 C E te):=by
 rintro pins s σ H Q I h
 refine Call_ (thn (pf pins s σ H _ I h) fun v s1 ⟨y,H1,I1,r1,f,sp,e1,hc,q1⟩=>?_) call
 subst e1
 cases r1
 obtain⟨c,qual,params,body,scope,clos,pm,ctv,ps,F,hb,at_⟩:=hC f sp hc
 have hf:=(I1.hok f _ (at_ _ _ _ _ q1)).1
 refine PySem.W.callWith_of (P:=fun h=>h.get? f=some (PySem.W.kla_obj "<lambda>" qual params body scope clos pm c ctv)) rfl (fun h hh=>PySem.W.keeps_K (K:=[(f,PySem.W.kla_obj "<lambda>" qual params body scope clos pm c ctv)]) ?kp h fun a o z=>?lk) (evalArgs_nil3 ⟨hf,run_fn (us:=[]) (vs:=[]) F room hb .nil (fun _ _ _ _ _ _ _ z=>z.elim) I1 .nil q1⟩)
 case kp=>simp [PySem.W.keepIn,List.lookup]
 case lk=>
  by_cases y:a=f
  ·subst y;simp [List.lookup]at z;rw[<- z];exact hh
  ·have:(a == f)=false:=by simpa using y
   simp [List.lookup,this]at z
theorem we_callL0 {k:Nat}{C:Addr->Sp->Prop}{E:XK}{fe:Expr}{te:TE}{pos:Pos} (hC:∀ f sp,C f sp->HeldC X k f sp) (room:Room k X.A) (pf:Hd (PE X fe te))
  (call:eval (.Call fe [] [] pos) X.env=(do callWith pos (<- eval fe X.env) [] (backTo pos (starEach [] X.env)) (backToKw pos (keywordEach [] X.env))):=by rfl) :
  Hd (PE X (.Call fe [] [] pos) (tCallA0 C E te)):=⟨pe_callL0 hC room pf.out call⟩
end
end L2
end
section
namespace L2
open PySem PySem.Spec PyProof.Rows
section
variable {prog:Program}{w:World}{A:Around}{E:Value->Shared->Prop}{s:Shared}
end
section
variable {prog:Program}{w:World}{A:Around}{E:Value->Shared->Prop}{s:Shared}
end
section
variable {X:Cx}
end
end L2
end
section
namespace L2
open PySem
theorem seqH {t u:TS}{D:Ends} {σ:St} {H:Hp} (h:∀ N:St->Hp->Prop,(∀ σ H,u D σ H->N σ H)->t ⟨N,D.rt,D.bk,D.ct⟩ σ H):tSeq t u D σ H:=h (u D) fun _ _ k=>k
theorem vr {σ:St} {i:Nat}{v:V}{H:Hp}{Q:VK} (k:Q v H) (e:σ[i]?=some (some v):=by rfl):tVar i σ H Q:=⟨v,e,k⟩
end L2
end
section
namespace K11
open PySem L2
def top (i:Nat):Stmt:=PySem.Challenge.pw_keptnest_k11_read_question.main.body.getD i (.Pass ⟨0,0,0,0⟩)
def clsBody (s:Stmt):List Stmt:=match s with
 | .ClassDef _ _ _ b _ _ _ _ _ _ _=>b
 | _=>[]
def mtop (i j:Nat):Stmt:=(clsBody (top i)).getD j (.Pass ⟨0,0,0,0⟩)
structure Mf (K:PySem.W.Frag) (C:Addr) (m qual:Str) (st:Stmt) (f:Addr) (fd:FuncData) (ps:List Str):Prop where
 fn:Fun K m qual st f fd
 b:Binds K fd ps []
 mt:Meth K C m f
structure Tx (mg:Str->Option Value):Prop where
 z_len:mg "len"=none
 z_int:mg "int"=none
 z_tuple:mg "tuple"=none
 z_range:mg "range"=none
 z_isinstance:mg "isinstance"=none
 z_sorted:mg "sorted"=none
 z_set:mg "set"=none
 z_str:mg "str"=none
 z_list:mg "list"=none
 z_max:mg "max"=none
 z_zip:mg "zip"=none
 z_all:mg "all"=none
 z_bool:mg "bool"=none
section
variable {P:Program}{w:World}{K:PySem.W.Frag}{mg:Str->Option Value}{base:Heap}{f:Addr}{fd:FuncData}
theorem u110 {k:Nat}{A:Around} (hr:Room k A):A.units+110<cLine:=by have:=hr.un;lia
theorem u0 {k:Nat}{A:Around} (hr:Room k A):A.units<cLine:=by have:=hr.un;lia
theorem same_new {H:Hp}{p:Addr} (h:H p=none) (o:HO):Same H (upd H p o):=fun b u q=>by rw[upd_ne (ne_of_none q h)];exact q
theorem line1 {n:Nat} (h:n<=15000000):n<sizeLine:=Nat.lt_of_le_of_lt h (by decide)
theorem iteP {c A B:Prop} [Decidable c] (h:c) (x:A):if c then A else B:=by rw[if_pos h];exact x
theorem iteN {c A B:Prop} [Decidable c] (h:¬c) (x:B):if c then A else B:=by rw[if_neg h];exact x
theorem cut63 {xs:List V} (h:xs.length<=63):cutV xs none (some 63)=xs:=by
 have e0:HT.sIx xs.length 0 none=0:=rfl
 have e1:HT.sIx xs.length xs.length (some 63)=xs.length:=by
  unfold HT.sIx
  simp only[]
  split <;> (try split) <;> lia
 unfold cutV
 rw[e0,e1,List.drop_zero,Nat.sub_zero,List.take_length]
theorem Zbg:FnScope ["script"] ["script"] (defScope (top 23)):=⟨rfl,rfl,rfl,by decide +kernel,rfl,by decide +kernel,by decide +kernel⟩
def spHand (K:PySem.W.Frag):Sp:=fun vs H Q _=>∃ (a:Addr) (ns:List Int),vs=[.ref a]/\SqL K H a (ns.map V.int)/\ns.length<=63 /\
 ∀ (p c:Addr) (cs:List Int) (H':Hp),Same H H'->H p=none->Hn H' p c cs none->Q (.ref p) H'
theorem ok_hand (T:Tx mg) (D:Df K mg "_law_hand" (top 23) f fd ["script"]):FnOk P w K mg base CX0 1 f fd ["script"] (spHand K):=by
 refine D.fn.okH Zbg (fun vs H Q E h=>?_) (fun cdv A outer s H vs Q E hr h=>?_)
 ·obtain⟨a,ns,rfl,_⟩:=h;rfl
 obtain⟨a,ns,rfl,hS,h63,fin⟩:=h
 have hu:=u110 hr
 have hu0:=u0 hr
 have hu1:=hu_of hr
 refine⟨_,(wss_one (ws_ret (we_disp (wps_cons we_str (we_op op_plus (we_callTy call_list_of rfl T.z_list bt_list (wa_cons (we_slice sl_U (wv 0) wo_none (wo_some we_int)) wa_nil)) (we_op op_mulU (we_lst (wa_cons we_int wa_nil)) (we_callTy call_int1 rfl T.z_int bt_int (wa_cons (we_cmpR (op_eqLK hu0) (wv 0) (we_lst wa_nil) (nomark _)) wa_nil)))) (wps_cons we_str we_int (wps_cons we_str we_int (wps_cons we_str we_int wps_nil)))) rfl rfl (by simp) (by decide)))),?_⟩
 intro p hp
 have s0:Same H (upd H p (.dK [])):=same_new hp _
 have hP0:(upd H p (.dK [])) p=some (.dK []):=upd_same
 generalize upd H p (.dK [])=H0 at s0 hP0 ⊢
 have hl':(ns.map V.int).length<=63:=by rw[List.length_map];exact h63
 refine⟨_,rfl,_,rfl,.inl ⟨a,_,rfl,s0.seq hS,fun q hq=>⟨q,_,rfl,.inl (SqL.of upd_same),fun l hl=>?_⟩⟩⟩
 rw[cut63 hl']at hl ⊢
 have s1:Same H0 (upd H0 q (.lst (ns.map V.int))):=same_new hq _
 have s2:=s1.trans (same_new hl (.lst (ns.map V.int)))
 have hL:(upd (upd H0 q (.lst (ns.map V.int))) l (.lst (ns.map V.int))) l=some (.lst (ns.map V.int)):=upd_same
 generalize upd (upd H0 q (.lst (ns.map V.int))) l (.lst (ns.map V.int))=H1 at s2 hL ⊢
 refine⟨(by show 1<=sizeLine;decide),fun m hm=>?_⟩
 have s3:Same H1 (upd H1 m (.lst [.int 5])):=same_new hm _
 have hM:(upd H1 m (.lst [.int 5])) m=some (.lst [.int 5]):=upd_same
 generalize upd H1 m (.lst [.int 5])=H2 at s3 hM ⊢
 refine⟨_,rfl,(by show 0<=sizeLine;decide),fun e he=>⟨a,e,_,rfl,rfl,(same_new he _).seq (s3.seq (s2.seq (s0.seq hS))),upd_same,?_⟩⟩
 have s4:Same H2 (upd H2 e (.lst [])):=same_new he _
 generalize upd H2 e (.lst [])=H3 at s4 ⊢
 refine .inr ⟨_,rfl,.inr ⟨m,_,_,rfl,rfl,s4 _ _ hM,?_,?_,?_,fun r hr2=>?_⟩⟩
 ·split <;> decide
 ·split <;> decide
 ·split <;> decide
 obtain⟨xs,exs,hxs⟩:∃ xs:List Int,(List.replicate (Int.toNat (if decide (ns.map V.int=[])=true then 1 else 0)) [V.int 5]).flatten=xs.map V.int/\1<=ns.length+xs.length/\xs.length<=1:=by
  by_cases hn:ns=[]
  ·exact⟨[5],by rw[hn];rfl,by simp,by simp⟩
  ·have:decide (ns.map V.int=[])=false:=decide_eq_false (fun z=>hn (by simpa using z))
   refine⟨[],by rw[this];rfl,?_,by simp⟩
   have:ns.length≠0:=fun z=>hn (List.length_eq_zero_iff.mp z)
   lia
 rw[exs]
 refine .inr (.inr (.inl ⟨l,r,ns.map V.int,xs.map V.int,rfl,rfl,?_,upd_same,Nat.le_of_lt (line1 (by simp;lia)),fun c hc=>?_⟩))
 ·rw[upd_ne (ne_of_none (s4 _ _ (s3 _ _ hL)) hr2)];exact s4 _ _ (s3 _ _ hL)
 have s5:Same H3 (upd (upd H3 r (.lst (xs.map V.int))) c (.lst (ns.map V.int++xs.map V.int))):=(same_new hr2 _).trans (same_new hc _)
 have hC:(upd (upd H3 r (.lst (xs.map V.int))) c (.lst (ns.map V.int++xs.map V.int))) c=some (.lst (ns.map V.int++xs.map V.int)):=upd_same
 generalize upd (upd H3 r (.lst (xs.map V.int))) c (.lst (ns.map V.int++xs.map V.int))=H4 at s5 hC ⊢
 have sA:=s2.trans (s3.trans (s4.trans s5))
 have npc:c≠p:=fun z=>by have:=sA _ _ hP0;rw[<- z,hC]at this;cases this
 refine⟨sA _ _ hP0,[(kyC,.ref c),(kyN,.int 0),(kyR,.int 0),(kyT,.int 0)],rfl,by simp,?_⟩
 refine fin p c (ns++xs) _ (fun b o z=>?_) hp ⟨0,0,0,_,⟨upd_same,Nat.le_trans (Nat.le_of_eq (show _=4 from rfl)) (by decide),?_,?_,?_,?_,?_,?_,?_,?_,by decide⟩,fun _=>Nat.le_trans (Nat.le_of_eq (show _=4 from rfl)) (by decide)⟩
 ·rw[upd_ne (ne_of_none z hp)];exact sA _ _ (s0 _ _ z)
 ·rfl
 ·rfl
 ·rfl
 ·rfl
 ·rfl
 ·rw[upd_ne npc,List.map_append];exact hC
 ·rw[List.length_append];lia
 ·rw[List.length_append];lia
theorem gC {H:Hp}{p c:Addr}{cs:List Int}{n r t:Int}{kn:Option Int}{kvs:List (Key×V)} (h:HdIs H p c cs n r t kn kvs):DGet H p (.str "cells") (some (.ref c)):=by
 have:=DGet.k (k:=kyC) h.at_;rw[h.cell]at this;exact this
theorem gN {H:Hp}{p c:Addr}{cs:List Int}{n r t:Int}{kn:Option Int}{kvs:List (Key×V)} (h:HdIs H p c cs n r t kn kvs):DGet H p (.str "next") (some (.int n)):=by
 have:=DGet.k (k:=kyN) h.at_;rw[h.nxt]at this;exact this
theorem gR {H:Hp}{p c:Addr}{cs:List Int}{n r t:Int}{kn:Option Int}{kvs:List (Key×V)} (h:HdIs H p c cs n r t kn kvs):DGet H p (.str "rest") (some (.int r)):=by
 have:=DGet.k (k:=kyR) h.at_;rw[h.rst]at this;exact this
theorem gT {H:Hp}{p c:Addr}{cs:List Int}{n r t:Int}{kn:Option Int}{kvs:List (Key×V)} (h:HdIs H p c cs n r t kn kvs):DGet H p (.str "count") (some (.int t)):=by
 have:=DGet.k (k:=kyT) h.at_;rw[h.cnt]at this;exact this
theorem gK {H:Hp}{p c:Addr}{cs:List Int}{n r t k:Int}{kvs:List (Key×V)} (h:HdIs H p c cs n r t (some k) kvs):DGet H p (.str "knots") (some (.int k)):=by
 have:=DGet.k (k:=kyK) h.at_;rw[h.knt]at this;exact this
theorem pl {H:Hp}{p c:Addr}{cs:List Int}{n r t:Int}{kn:Option Int}{kvs:List (Key×V)} (h:HdIs H p c cs n r t kn kvs):kvs.length<sizeLine:=line1 (by have:=h.len;lia)
theorem bm (a k:Int) (h:0<k) (h2:k<2 ^ 64):-(2 ^ 64)<a % k/\a % k<2 ^ 64:=by
 have h1:=Int.emod_nonneg a (by lia:k≠0)
 have h3:=Int.emod_lt_of_pos a h
 lia
theorem atI_mem {α:Type} {xs:List α}{r:Int} (h0:0<=r) (h1:r<xs.length):∃ v,atI xs r=some v/\v∈xs:=by
 have hk:r.toNat<xs.length:=by lia
 have e:((r.toNat:Nat):Int)=r:=by lia
 have z:atI xs ((r.toNat:Nat):Int)=some xs[r.toNat]:=atI_nat (List.getElem?_eq_getElem hk)
 rw[e]at z
 exact⟨_,z,List.getElem_mem hk⟩
theorem ZaF:FnScope ["hand","limit","turn","cell","mixed","found"] ["hand","limit"] (defScope (top 24)):=⟨rfl,rfl,rfl,by decide +kernel,rfl,by decide +kernel,by decide +kernel⟩
def spDraw:Sp:=fun vs H Q _=>∃ (p c:Addr) (cs:List Int) (kn:Option Int) (m:Int),vs=[.ref p,.int m]/\Hn H p c cs kn/\0<m/\m<2 ^ 200 /\
 ∀ (x:Int) (H':Hp),0<=x->x<m->Ex p H H'->Hn H' p c cs kn->Q (.int x) H'
theorem ok_draw (T:Tx mg) (D:Df K mg "_law_draw" (top 24) f fd ["hand","limit"]):FnOk P w K mg base CX0 1 f fd ["hand","limit"] spDraw:=by
 refine D.fn.okH ZaF (fun vs H Q E h=>?_) (fun cdv A outer s H vs Q E hr h=>?_)
 ·obtain⟨p,c,cs,kn,m,rfl,_⟩:=h;rfl
 obtain⟨p,c,cs,kn,m,rfl,⟨n,r,t,kvs,h0,hk0⟩,m0,m1,fin⟩:=h
 have hu:=u110 hr
 have hu1:=hu_of hr
 refine⟨_,(wss_cons (ws_asg (we_op op_plus (we_ix (ix_U hu1) (wv 0) we_str (fun _ _=>rfl)) we_int) (wg_sub (wv 0) we_str (set_U hu1)))
   (wss_cons (ws_if (wt_cmpR (op_eqU hu) (we_ix (ix_U hu1) (wv 0) we_str (fun _ _=>rfl)) we_int (nomark _)) (wss_cons (ws_set (i:=2) ZaF.nd rfl (Or.inl rfl) (we_op op_fdivB (we_ix (ix_U hu1) (wv 0) we_str (fun _ _=>rfl)) (we_callB call_lenU rfl T.z_len bt_len (wa_cons (we_ix (ix_U hu1) (wv 0) we_str (fun _ _=>rfl)) wa_nil))))
   (wss_cons (ws_set (i:=3) ZaF.nd rfl (Or.inl rfl) (we_ix (ix_U hu1) (we_ix (ix_U hu1) (wv 0) we_str (fun _ _=>rfl)) (we_op op_mod (we_ix (ix_U hu1) (wv 0) we_str (fun _ _=>rfl)) (we_callB call_lenU rfl T.z_len bt_len (wa_cons (we_ix (ix_U hu1) (wv 0) we_str (fun _ _=>rfl)) wa_nil))) (fun _ _=>rfl)))
   (wss_cons (ws_asg (we_op op_plus (we_ix (ix_U hu1) (wv 0) we_str (fun _ _=>rfl)) we_int) (wg_sub (wv 0) we_str (set_U hu1)))
   (wss_one (ws_if (wt_pw (ww_and (wt_cmpR (op_eqU hu) (wv 2) we_int (nomark _)) (ww_and1 (wt_cmpR op_ge (wv 3) (we_op op_pow we_int we_int) (nomark _))))) (wss_one (ws_asg (wv 3) (wg_sub (wv 0) we_str (set_U hu1)))) (wss_cons (ws_set (i:=4) ZaF.nd rfl (Or.inl rfl) (we_op op_mod (we_op op_plus (we_op op_plus (we_op op_mod (wv 3) we_int) (we_op op_mul we_int (we_ix (ix_U hu1) (wv 0) we_str (fun _ _=>rfl)))) (we_op op_mul we_int (wv 2))) we_int))
   (wss_cons (ws_set (i:=4) ZaF.nd rfl (Or.inl rfl) (we_op op_mod (we_op op_mul (wv 4) (wv 4)) we_int))
   (wss_one (ws_ret (we_op op_mod (we_op op_fdivB (we_op op_mod (we_op op_mul (wv 4) (we_op op_plus (wv 4) we_int)) we_int) we_int) (wv 1))))))))))) wss_nil)
   (wss_cons (ws_set (i:=5) ZaF.nd rfl (Or.inl rfl) (we_op op_mod (we_ix (ix_U hu1) (wv 0) we_str (fun _ _=>rfl)) (wv 1)))
   (wss_cons (ws_asg (we_op op_fdivB (we_ix (ix_U hu1) (wv 0) we_str (fun _ _=>rfl)) (wv 1)) (wg_sub (wv 0) we_str (set_U hu1)))
   (wss_one (ws_ret (wv 5))))))),?_⟩
 have c1:=h0.c1
 have c64:=h0.c64
 refine⟨_,rfl,.inr (.inr (.inr ⟨p,_,rfl,gT h0,.inl ⟨_,_,rfl,rfl,_,rfl,.inr ⟨p,_,rfl,DPut.k (k:=kyT) h0.at_ (pl h0),?_⟩⟩⟩))⟩
 have h1:=h0.putT (t+1)
 have ex1:Ex p H (upd H p (.dK (putK kvs kyT (.int (t+1))))):=ex_upd
 have hk1:kn=none->(putK kvs kyT (.int (t+1))).length<=10:=fun z=>by rw[put_len (by rw[h0.cnt];rfl)];exact hk0 z
 refine⟨_,rfl,.inr (.inr (.inr ⟨p,_,rfl,gR h1,.inl ⟨rfl,_,rfl,?_⟩⟩))⟩
 refine ite2 (fun e1=>?a) (fun e1=>?b)
 case' b=>
  have hd:=h1
  have ex:=ex1
  have hk:=hk1
 case' a=>
  have cl:0<(cs.map V.int).length:=by rw[List.length_map];lia
  have cl2:(cs.map V.int).length<=64:=by rw[List.length_map];lia
  refine⟨_,rfl,.inr (.inr (.inr ⟨p,_,rfl,gN h1,_,rfl,.inr (.inr (.inr ⟨p,_,rfl,gC h1,.inl ⟨c,_,rfl,.inl (SqL.of h1.lst),_,_,rfl,rfl,⟨by lia,by lia⟩,?_⟩⟩))⟩))⟩
  have hn0:=h1.n0
  obtain⟨v,hv,hvm⟩:=atI_mem (xs:=cs.map V.int) (r:=n % ((cs.map V.int).length:Int)) (Int.emod_nonneg _ (by lia)) (Int.emod_lt_of_pos _ (by lia))
  obtain⟨cell,_,rfl⟩:=List.mem_map.mp hvm
  refine⟨_,rfl,.inr (.inr (.inr ⟨p,_,rfl,gC h1,_,rfl,.inr (.inr (.inr ⟨p,_,rfl,gN h1,_,rfl,.inr (.inr (.inr ⟨p,_,rfl,gC h1,.inl ⟨c,_,rfl,.inl (SqL.of h1.lst),_,_,rfl,rfl,by lia,.inl ⟨c,_,_,_,rfl,rfl,SqL.of h1.lst,hv,?_⟩⟩⟩))⟩))⟩))⟩
  refine⟨_,rfl,.inr (.inr (.inr ⟨p,_,rfl,gN h1,.inl ⟨_,_,rfl,rfl,_,rfl,.inr ⟨p,_,rfl,DPut.k (k:=kyN) h1.at_ (pl h1),?_⟩⟩⟩))⟩
  have h2:=h1.putN (n+1) (by lia)
  have ex2:=ex1.trans (ex_upd (p:=p) (o:=.dK (putK (putK kvs kyT (.int (t+1))) kyN (.int (n+1)))))
  have hk2:kn=none->(putK (putK kvs kyT (.int (t+1))) kyN (.int (n+1))).length<=10:=fun z=>by rw[put_len (by rw[h1.nxt];rfl)];exact hk1 z
  refine⟨_,rfl,.inl ⟨rfl,_,rfl,?_⟩⟩
  refine ite2 (fun e2=>?c) (fun e2=>?d)
 case' c=>
  refine⟨_,rfl,_,_,rfl,rfl,⟨by decide,by decide,by decide⟩,_,_,rfl,rfl,_,rfl,?_⟩
  refine ite2 (fun e3=>?g) (fun e3=>?e)
 case' g=>
  refine⟨_,rfl,_,rfl,.inr ⟨p,_,rfl,DPut.k (k:=kyR) h2.at_ (pl h2),?_⟩⟩
  have hd:=h2.putR cell
  have ex:=ex2.trans (ex_upd (p:=p) (o:=.dK (putK (putK (putK kvs kyT (.int (t+1))) kyN (.int (n+1))) kyR (.int cell))))
  have hk:kn=none->(putK (putK (putK kvs kyT (.int (t+1))) kyN (.int (n+1))) kyR (.int cell)).length<=10:=fun z=>by rw[put_len (by rw[h2.rst];rfl)];exact hk2 z
 case b | g=>
  refine⟨_,rfl,.inr (.inr (.inr ⟨p,_,rfl,gR hd,_,rfl,_,_,rfl,rfl,m0,?_⟩))⟩
  refine⟨_,rfl,.inr (.inr (.inr ⟨p,_,rfl,gR hd,_,rfl,_,_,rfl,rfl,⟨m0,m1⟩,_,rfl,.inr ⟨p,_,rfl,DPut.k (k:=kyR) hd.at_ (pl hd),?_⟩⟩))⟩
  refine⟨_,rfl,fin _ _ (Int.emod_nonneg _ (by lia)) (Int.emod_lt_of_pos _ m0) (ex.trans ex_upd) ⟨_,_,_,_,hd.putR _,fun z=>by rw[put_len (by rw[hd.rst];rfl)];exact hk z⟩⟩
 all_goals
  refine⟨_,rfl,_,_,rfl,rfl,(by show (0:Int)<2147483647;decide),_,rfl,.inr (.inr (.inr ⟨p,_,rfl,gT h2,_,_,rfl,rfl,.inl ⟨by decide,by decide⟩,.inl ⟨_,_,rfl,rfl,_,rfl,_,_,rfl,rfl,.inl ⟨by decide,by decide⟩,.inl ⟨_,_,rfl,rfl,_,_,rfl,rfl,(by show (0:Int)<2147483647;decide),?_⟩⟩⟩))⟩
  refine⟨_,rfl,_,rfl,_,_,rfl,rfl,.inl (bm _ _ (by decide) (by decide)),_,_,rfl,rfl,(by show (0:Int)<2147483629;decide),?_⟩
  refine⟨_,rfl,_,rfl,.inl ⟨_,_,rfl,rfl,_,_,rfl,rfl,.inl (bm _ _ (by decide) (by decide)),_,_,rfl,rfl,(by show (0:Int)<2147483587;decide),_,_,rfl,rfl,⟨by decide,by decide⟩,_,rfl,_,_,rfl,rfl,m0,?_⟩⟩
  exact fin _ _ (Int.emod_nonneg _ (by lia)) (Int.emod_lt_of_pos _ m0) ex2 ⟨_,_,_,_,h2,hk2⟩
end
end K11
end
section
namespace K11
open PySem L2 Kn
theorem len_app (a b:Str):(a++b).length=a.length+b.length:=by
 show (a.cps++b.cps).size=_
 rw[Array.size_append];rfl
theorem lets_app {a b:Str} (h:lets a) (g:lets b):lets (a++b):=fun c hc=>by
 have:c∈(a.cps++b.cps).toList:=hc
 rw[Array.toList_append]at this
 exact (List.mem_append.mp this).elim (h c) (g c)
theorem lets_one {z:Str}{c:Nat} (h:lets z) (hc:c∈z.cps.toList):lets ⟨#[c]⟩:=fun d hd=>by
 have:d=c:=by simpa using hd
 rw[this];exact h c hc
def nmOkB (s:Str):Bool:=decide (1<=s.length) && decide (s.length<=8) && s.cps.toList.all isLet && decide (s ∉ TKN)
theorem nmOk_of {s:Str} (h:nmOkB s=true):nmOk s:=by
 unfold nmOkB at h
 simp only[Bool.and_eq_true,decide_eq_true_eq,List.all_eq_true]at h
 exact⟨h.1.1.1,h.1.1.2,fun c hc=>h.1.2 c hc,h.2⟩
theorem cut_xy:∀ s∈TKN,nmOkB (Txt.slice s (some 1) none++Str.ofString "xy")=true:=by decide +kernel
theorem split_TKN:Txt.split (Str.ofString "num word row bag var table at add mul none one both times for when let same under and or not") (Str.ofString " ")=TKN:=by decide +kernel
theorem inV_str (w:Str):∀ l:List Str,inV (.str w) (l.map V.str)=true ↔ w∈l
 | []=>by simp [inV]
 | x::l=>by
  have ih:=inV_str w l
  unfold inV at ih ⊢
  rw[List.map_cons,List.any_cons,Bool.or_eq_true,ih,List.mem_cons]
  show (x == w)=true\/_ ↔ _
  rw[beq_iff_eq]
  exact⟨fun h=>h.elim (fun e=>.inl e.symm) .inr,fun h=>h.elim (fun e=>.inl e.symm) .inr⟩
section
variable {P:Program}{w:World}{K:PySem.W.Frag}{mg:Str->Option Value}{base:Heap}{f f_draw f_name:Addr}{fd fd_draw fd_name:FuncData}
theorem ZaA:FnScope ["hand","letters","word","k","words"] ["hand"] (defScope (top 25)):=⟨rfl,rfl,rfl,by decide +kernel,rfl,by decide +kernel,by decide +kernel⟩
def spName:Sp:=fun vs H Q _=>∃ (p c:Addr) (cs:List Int) (kn:Option Int),vs=[.ref p]/\Hn H p c cs kn /\
 ∀ (x:Str) (H':Hp),nmOk x->Ex p H H'->Hn H' p c cs kn->Q (.str x) H'
theorem ok_name (T:Tx mg) (D:Df K mg "_law_name" (top 25) f fd ["hand"]) (Zaa:Df K mg "_law_draw" (top 24) f_draw fd_draw ["hand","limit"]) (Zad:FnOk P w K mg base CX0 1 f_draw fd_draw ["hand","limit"] spDraw) :
  FnOk P w K mg base CX0 2 f fd ["hand"] spName:=by
 refine D.fn.okH ZaA (fun vs H Q E h=>?_) (fun cdv A outer s H vs Q E hr h=>?_)
 ·obtain⟨p,c,cs,kn,rfl,_⟩:=h;rfl
 obtain⟨p,c,cs,kn,rfl,hn,fin⟩:=h
 have hu:=u110 hr
 have hu0:=u0 hr
 have hu1:=hu_of hr
 refine⟨_,(wss_cons (ws_set (i:=1) ZaA.nd rfl (Or.inl rfl) (we_ix (ix_U hu1) (we_lst (wa_consts rfl)) (we_call Zad (hr.mono (by lia)) rfl Zaa.mg Zaa.kp Zaa.b .nil pass0 (wa_cons (wv 0) (wa_cons we_int wa_nil))) (fun _ _=>rfl)))
   (wss_cons (ws_set (i:=2) ZaA.nd rfl (Or.inl rfl) we_str)
   (wss_cons (ws_for PassesOwn.never rfl (wi_range1 rfl T.z_range (wa_cons (we_ix (ix_U hu1) (we_lst (wa_cons we_int (wa_cons we_int (wa_cons we_int (wa_cons we_int (wa_cons we_int (wa_cons (we_op op_plus we_int (we_call Zad (hr.mono (by lia)) rfl Zaa.mg Zaa.kp Zaa.b .nil pass0 (wa_cons (wv 0) (wa_cons we_int wa_nil)))) wa_nil))))))) (we_call Zad (hr.mono (by lia)) rfl Zaa.mg Zaa.kp Zaa.b .nil pass0 (wa_cons (wv 0) (wa_cons we_int wa_nil))) (fun _ _=>rfl)) wa_nil)) (wg_name (i:=3) ZaA.nd rfl (Or.inl rfl)) (wss_one (ws_set (i:=2) ZaA.nd rfl (Or.inl rfl) (we_op op_plus (wv 2) (we_ix (ix_U hu1) (wv 1) (we_call Zad (hr.mono (by lia)) rfl Zaa.mg Zaa.kp Zaa.b .nil pass0 (wa_cons (wv 0) (wa_cons (we_callB call_lenU rfl T.z_len bt_len (wa_cons (wv 1) wa_nil)) wa_nil))) (fun _ _=>rfl))))))
   (wss_cons (ws_set (i:=4) ZaA.nd rfl (Or.inl rfl) we_str)
   (wss_cons (ws_if (wt_cmpR (op_inU hu) (wv 2) (we_bm PySem.F.plainAttrs_str PySem.F.slot_str_split PySem.F.type_str_split mt_split (wv 4) (wa_cons we_str wa_nil)) (by with_unfolding_all rfl)) (wss_one (ws_set (i:=2) ZaA.nd rfl (Or.inl rfl) (we_op op_plus (we_slice sl_U (wv 2) (wo_some we_int) wo_none) we_str))) wss_nil)
   (wss_one (ws_ret (wv 2)))))))),?_⟩
 refine⟨(by show 2<=sizeLine;decide),fun l hl=>⟨_,rfl,p,c,cs,kn,_,rfl,hn.new hl,by decide,by decide,fun x H1 x0 x1 ex1 hn1=>?_⟩⟩
 have nl:=hn.ne hl
 obtain⟨v,hv,hvm⟩:=atI_mem (xs:=[V.str "ab",.str "abcdefghijklmnopqrstuvwxyz"]) x0 x1
 obtain⟨z,rfl,hz1,hz2,hz3⟩:∃ z:Str,v=.str z/\1<=z.cps.toList.length/\z.length<=26/\lets z:=by
  simp only[List.mem_cons,List.not_mem_nil,or_false]at hvm
  rcases hvm with rfl | rfl
  ·exact⟨_,rfl,by decide +kernel,by decide +kernel,by unfold lets;decide +kernel⟩
  ·exact⟨_,rfl,by decide +kernel,by decide +kernel,by unfold lets;decide +kernel⟩
 have eZ:z.cps.toList.length=z.length:=rfl
 refine .inl ⟨l,_,x,_,rfl,rfl,SqL.of (ex1 l _ nl upd_same),hv,?_⟩
 have exA:Ex p H H1:=(ex_new hl).trans ex1
 refine⟨_,rfl,p,c,cs,kn,_,rfl,hn1,by decide,by decide,fun y H2 y0 y1 ex2 hn2=>.inl ⟨_,_,rfl,rfl,(by show 6<=sizeLine;decide),fun l2 hl2=>?_⟩⟩
 have nl2:=hn2.ne hl2
 refine⟨_,rfl,p,c,cs,kn,_,rfl,hn2.new hl2,by decide,by decide,fun u H3 u0 u1 ex3 hn3=>?_⟩
 obtain⟨v3,hv3,hm3⟩:=atI_mem (xs:=[V.int 1,.int 1,.int 2,.int 3,.int 8,.int (1+y)]) u0 u1
 obtain⟨j,rfl,hj,hj1⟩:∃ j:Nat,v3=.int j/\j<=8/\1<=j:=by
  simp only[List.mem_cons,List.not_mem_nil,or_false]at hm3
  rcases hm3 with rfl | rfl | rfl | rfl | rfl | rfl
  ·exact⟨1,rfl,by decide,by decide⟩
  ·exact⟨1,rfl,by decide,by decide⟩
  ·exact⟨2,rfl,by decide,by decide⟩
  ·exact⟨3,rfl,by decide,by decide⟩
  ·exact⟨8,rfl,by decide,by decide⟩
  ·exact⟨(1+y).toNat,by congr 1;lia,by lia,by lia⟩
 have exB:Ex p H H3:=exA.trans (ex2.trans ((ex_new hl2).trans ex3))
 refine .inl ⟨l2,_,u,_,rfl,rfl,SqL.of (ex3 l2 _ nl2 upd_same),hv3,j,rfl,by lia,by lia,for_range (n:=((j:Int)).toNat) (fun i σ H'=>∃ (wd:Str) (o3 o4:Option V),σ=[some (.ref p),some (.str z),some (.str wd),o3,o4]/\(wd.length=i/\lets wd)/\Ex p H H'/\Hn H' p c cs kn) ⟨Str.ofString "",none,none,rfl,⟨by decide +kernel,by unfold lets;decide +kernel⟩,exB,hn3⟩ ?turn ?done⟩
 case turn=>
  rintro i σ H' hi ⟨wd,o3,o4,rfl,⟨lw,ll⟩,ex,hn'⟩
  refine⟨_,rfl,_,rfl,_,rfl,_,rfl,.inr ⟨_,rfl,Nat.le_of_lt (line1 (by lia)),p,c,cs,kn,_,rfl,hn',by lia,Int.lt_of_le_of_lt (show _<=26 by lia) (by decide),fun r H5 r0 r1 ex5 hn5=>?_⟩⟩
  obtain⟨ch,hc,hcm⟩:=atI_mem (xs:=z.cps.toList) r0 (by lia)
  refine .inr (.inr (.inl ⟨_,r,ch,rfl,rfl,Nat.le_of_lt (line1 (by lia)),hc,?_⟩))
  refine .inr (.inl ⟨_,_,rfl,rfl,Nat.le_of_lt (line1 (by show _+1<=_;lia)),?_⟩)
  exact⟨_,_,_,rfl,⟨by rw[len_app];show _+1=_;lia,lets_app ll (lets_one hz3 hcm)⟩,ex.trans ex5,hn5⟩
 case done=>
  rintro σ H' ⟨wd,o3,o4,rfl,⟨lw,ll⟩,ex,hn'⟩
  have lw8:wd.length<=8:=by lia
  refine⟨_,rfl,_,rfl,rfl,_,_,rfl,rfl,(by decide +kernel),Nat.le_of_lt (line1 (by decide +kernel)),fun q hq=>?_⟩
  have fl:∀ l:List Str,(l.map V.str).all flatV=true:=fun l=>by rw[List.all_map];exact List.all_eq_true.mpr fun _ _=>rfl
  refine .inl ⟨q,_,rfl,.inl (SqL.of upd_same),rfl,fl _,_,rfl,?_⟩
  have exq:=ex.trans (ex_new (p:=p) (o:=.lst ((Txt.split (Str.ofString "num word row bag var table at add mul none one both times for when let same under and or not") (Str.ofString " ")).map V.str)) hq)
  refine ite2 (fun c2=>?_) (fun c2=>?_)
  ·have e2:(Str.ofString "xy").length=2:=by decide +kernel
   have ls:=Txt.slice_le wd (some 1) none
   refine⟨_,rfl,_,rfl,.inr (.inr (.inr ⟨_,rfl,Nat.le_of_lt (line1 (by lia)),.inr (.inl ⟨_,_,rfl,rfl,Nat.le_of_lt (line1 (by rw[e2];lia)),?_⟩)⟩))⟩
   have hm:wd∈TKN:=by rw[split_TKN]at c2;exact (inV_str wd TKN).mp c2
   exact⟨_,rfl,fin _ _ (nmOk_of (cut_xy wd hm)) exq (hn'.new hq)⟩
  ·have hm:wd ∉ TKN:=fun z=>c2 (by rw[split_TKN];exact (inV_str wd TKN).mpr z)
   exact⟨_,rfl,fin _ _ ⟨by lia,by lia,ll,hm⟩ exq (hn'.new hq)⟩
theorem Zbh:FnScope ["hand"] ["hand"] (defScope (top 26)):=⟨rfl,rfl,rfl,by decide +kernel,rfl,by decide +kernel,by decide +kernel⟩
def spNumber:Sp:=fun vs H Q _=>∃ (p c:Addr) (cs:List Int) (kn:Option Int),vs=[.ref p]/\Hn H p c cs kn /\
 ∀ (x:Int) (H':Hp),x.natAbs<10 ^ 34->Ex p H H'->Hn H' p c cs kn->Q (.int x) H'
theorem ok_number (T:Tx mg) (D:Df K mg "_law_number" (top 26) f fd ["hand"]) (Zaa:Df K mg "_law_draw" (top 24) f_draw fd_draw ["hand","limit"]) (Zad:FnOk P w K mg base CX0 1 f_draw fd_draw ["hand","limit"] spDraw) :
  FnOk P w K mg base CX0 2 f fd ["hand"] spNumber:=by
 refine D.fn.okH Zbh (fun vs H Q E h=>?_) (fun cdv A outer s H vs Q E hr h=>?_)
 ·obtain⟨p,c,cs,kn,rfl,_⟩:=h;rfl
 obtain⟨p,c,cs,kn,rfl,hn,fin⟩:=h
 have hu:=u110 hr
 have hu0:=u0 hr
 have hu1:=hu_of hr
 refine⟨_,(wss_one (ws_ret (we_ix (ix_U hu1) (we_lst (wa_cons we_int (wa_cons we_int (wa_cons (we_op op_sub (we_call Zad (hr.mono (by lia)) rfl Zaa.mg Zaa.kp Zaa.b .nil pass0 (wa_cons (wv 0) (wa_cons we_int wa_nil))) we_int) (wa_cons (we_op op_plus (we_op op_sub (we_call Zad (hr.mono (by lia)) rfl Zaa.mg Zaa.kp Zaa.b .nil pass0 (wa_cons (wv 0) (wa_cons (we_op op_sub (we_op op_mul we_int (we_op op_pow we_int we_int)) we_int) wa_nil))) (we_op op_pow we_int we_int)) we_int) wa_nil))))) (we_call Zad (hr.mono (by lia)) rfl Zaa.mg Zaa.kp Zaa.b .nil pass0 (wa_cons (wv 0) (wa_cons we_int wa_nil))) (fun _ _=>rfl)))),?_⟩
 refine⟨_,rfl,p,c,cs,kn,_,rfl,hn,by decide,by decide,fun x H1 x0 x1 ex1 hn1=>⟨_,_,rfl,rfl,?_⟩⟩
 refine⟨_,rfl,_,_,rfl,rfl,⟨by decide,by decide,by decide⟩,_,_,rfl,rfl,.inl ⟨by decide,by decide⟩,_,_,rfl,rfl,?_⟩
 refine⟨p,c,cs,kn,_,rfl,hn1,by decide,by decide,fun y H2 y0 y1 ex2 hn2=>?_⟩
 have y1':y<1999999999999999999999999999999:=y1
 refine⟨_,_,rfl,rfl,⟨by decide,by decide,by decide⟩,_,_,rfl,rfl,.inl ⟨_,_,rfl,rfl,(by show 4<=sizeLine;decide),fun l hl=>?_⟩⟩
 have nl:=hn2.ne hl
 refine⟨_,rfl,p,c,cs,kn,_,rfl,hn2.new hl,by decide,by decide,fun u H3 u0 u1 ex3 hn3=>?_⟩
 obtain⟨v,hv,hm⟩:=atI_mem (xs:=[V.int 0,.int 1,.int (x-50),.int (y-10 ^ 30+1)]) u0 u1
 refine .inl ⟨l,_,u,v,rfl,rfl,SqL.of (ex3 l _ nl upd_same),hv,?_⟩
 obtain⟨i,rfl,hi⟩:∃ i:Int,v=.int i/\i.natAbs<10 ^ 34:=by
  simp only[List.mem_cons,List.not_mem_nil,or_false]at hm
  rcases hm with rfl | rfl | rfl | rfl
  ·exact⟨_,rfl,by decide⟩
  ·exact⟨_,rfl,by decide⟩
  ·exact⟨_,rfl,by lia⟩
  ·exact⟨_,rfl,by lia⟩
 exact fin i H3 hi (ex1.trans (ex2.trans ((ex_new hl).trans ex3))) hn3
theorem gall {i:Nat}{x:V} {σ:St} {H:Hp}{A B:St->Hp->Prop} (h:A (σ.set i (some x)) H):gName i x σ H fun σ2 H2=>tAll σ2 H2 fun b H3=>if b=true then A σ2 H3 else B σ2 H3:=by
 show (if true=true then A (σ.set i (some x)) H else B (σ.set i (some x)) H)
 rw[if_pos rfl];exact h
theorem Za9:FnScope ["hand","many"] ["hand"] (defScope (top 27)):=⟨rfl,rfl,rfl,by decide +kernel,rfl,by decide +kernel,by decide +kernel⟩
def spNames (m:Nat):Sp:=fun vs H Q _=>∃ (p c:Addr) (cs:List Int) (kn:Option Int),vs=[.ref p]/\Hn H p c cs kn /\
 ∀ (l:Addr) (ys:List Str) (H':Hp),ys.length<=m->(∀ y∈ys,nmOk y)->riseS ys->Ex p H H'->Hn H' p c cs kn->H l=none->H' l=some (.lst (ys.map V.str))->Q (.ref l) H'
theorem ok_fields (T:Tx mg) (D:Df K mg "_law_fields" (top 27) f fd ["hand"]) (Zaa:Df K mg "_law_draw" (top 24) f_draw fd_draw ["hand","limit"]) (Zad:FnOk P w K mg base CX0 1 f_draw fd_draw ["hand","limit"] spDraw)
  (Zaf:Df K mg "_law_name" (top 25) f_name fd_name ["hand"]) (Zav:FnOk P w K mg base CX0 2 f_name fd_name ["hand"] spName) :
  FnOk P w K mg base CX0 3 f fd ["hand"] (spNames 6):=by
 refine D.fn.okH Za9 (fun vs H Q E h=>?_) (fun cdv A outer s H vs Q E hr h=>?_)
 ·obtain⟨p,c,cs,kn,rfl,_⟩:=h;rfl
 obtain⟨p,c,cs,kn,rfl,hn,fin⟩:=h
 have hu:=u110 hr
 have hu0:=u0 hr
 have hu1:=hu_of hr
 refine⟨_,(wss_cons (ws_set (i:=1) Za9.nd rfl (Or.inl rfl) (we_ix (ix_U hu1) (we_lst (wa_consts rfl)) (we_callTy call_int1 rfl T.z_int bt_int (wa_cons (we_cmpR (op_eqU hu) (we_call Zad (hr.mono (by lia)) rfl Zaa.mg Zaa.kp Zaa.b .nil pass0 (wa_cons (wv 0) (wa_cons we_int wa_nil))) we_int (nomark _)) wa_nil)) (fun _ _=>rfl)))
   (wss_one (ws_ret (we_ss rfl rfl T.z_sorted rfl T.z_set (we_lc (Nt:=["k"]) (fr:=[("hand",0)]) (LcOk.of (sc:=defScope (top 27)) (N:=["hand","many"]) rfl rfl (by decide +kernel)) rfl (wi_range1 rfl T.z_range (wa_cons (we_call Zad (hr.mono (by lia)) rfl Zaa.mg Zaa.kp Zaa.b .nil pass0 (wa_cons (wv 0) (wa_cons (wv 1) wa_nil))) wa_nil)) (fun z=>wg_name (i:=0) (by show (["k","hand"]:List Str).Nodup;decide +kernel) rfl (Or.inl rfl) (.inr rfl)) (fun z=>tgt_name (by decide)) (fun z=>wif_nil) (fun z=>(we_call Zav (hr.mono (by lia)) rfl Zaf.mg Zaf.kp Zaf.b .nil pass0 (wa_cons (wv 1) wa_nil)))))))),?_⟩
 refine⟨(by show 2<=sizeLine;decide),fun l hl=>⟨_,rfl,p,c,cs,kn,_,rfl,hn.new hl,by decide,by decide,fun x H1 x0 x1 ex1 hn1=>.inl ⟨rfl,.inr ⟨_,rfl,?_⟩⟩⟩⟩
 have nl:=hn.ne hl
 obtain⟨j,hj,hat⟩:∃ j:Nat,(j=4\/j=7)/\atI [V.int 4,.int 7] (if decide (V.int x=V.int 0)=true then 1 else 0)=some (.int j):=by
  cases decide (V.int x=V.int 0)
  ·exact⟨4,.inl rfl,rfl⟩
  ·exact⟨7,.inr rfl,rfl⟩
 refine .inl ⟨l,_,_,_,rfl,rfl,SqL.of (ex1 l _ nl upd_same),hat,?_⟩
 have exA:Ex p H H1:=(ex_new hl).trans ex1
 refine⟨_,rfl,_,rfl,p,c,cs,kn,_,rfl,hn1,by lia,Int.lt_of_le_of_lt (show _<=7 by lia) (by decide),fun y H2 y0 y1 ex2 hn2=>⟨_,rfl,by lia,by lia,?_⟩⟩
 refine⟨fun i m ys H'=>m+i=y.toNat/\(∃ zs:List Str,ys=zs.map V.str/\zs.length=i/\∀ z∈zs,nmOk z)/\Ex p H H'/\Hn H' p c cs kn,⟨_,by rw[Nat.add_zero],⟨[],rfl,rfl,fun z hz=>(nomatch hz)⟩,exA.trans ex2,hn2⟩,?_⟩
 rintro i m ys H3 ⟨hm,⟨zs,rfl,hzl,hz1⟩,ex3,hn3⟩
 refine⟨by rw[List.length_map,hzl];exact line1 (by lia),?_⟩
 by_cases hlt:i<y.toNat
 ·refine .inr ⟨hlt,fun z x H4 hy=>?_⟩
  obtain⟨rfl,rfl⟩:=hy
  refine gall ?_
  refine⟨_,rfl,p,c,cs,kn,rfl,hn3,fun s H5 hs ex5 hn5=>?_⟩
  refine⟨m-1,by lia,by lia,⟨zs++[s],by simp,by simp [hzl],fun z hz=>?_⟩,ex3.trans ex5,hn5⟩
  rcases List.mem_append.mp hz with h | h
  ·exact hz1 z h
  ·rw[List.mem_singleton.mp h];exact hs
 ·refine .inl ⟨by show y.toNat<=i;lia,fun l2 hl2=>?_⟩
  refine⟨l2,zs,rfl,upd_same,by lia,fun q ys hq nd mem srt=>?_⟩
  have le:ys.length<=zs.length:=List.Nodup.length_le_of_subset nd fun y hy=>(mem y).mp hy
  have hq0:H q=none:=by
   cases e:H q with
   | none=>rfl
   | some o=>
    have nq:q≠p:=fun z=>(hn3.new hl2).ne hq z
    have:=ex3 q o nq e
    rw[upd_ne (ne_of_none this hl2),this]at hq
    cases hq
  exact fin q ys _ (by lia) (fun y hy=>hz1 y ((mem y).mp hy)) (rise_of srt nd) (ex3.trans ((ex_new hl2).trans (ex_new hq))) ((hn3.new hl2).new hq) hq0 upd_same
theorem cutL (x:Int) (h0:0<=x) (h1:x<5):(Txt.slice (Str.ofString "abcdefghijklmn") none (some (10+x))).cps.all (·<128)=true:=by
 have:x=0\/x=1\/x=2\/x=3\/x=4:=by lia
 rcases this with rfl | rfl | rfl | rfl | rfl <;> decide +kernel
def qzL (tx:Str):List Str:=tx.cps.toList.map fun ch=>(⟨#[ch]⟩:Str)++Str.ofString "qz"
def qzOk (tx:Str):Bool:=(qzL tx).all nmOkB && PyProof.Rows.sortedS (qzL tx) && decide ((qzL tx).Nodup)
theorem cutQ (x:Int) (h0:0<=x) (h1:x<5):qzOk (Txt.slice (Str.ofString "abcdefghijklmn") none (some (10+x)))=true:=by
 have:x=0\/x=1\/x=2\/x=3\/x=4:=by lia
 rcases this with rfl | rfl | rfl | rfl | rfl <;> decide +kernel
theorem Zbi:FnScope ["hand"] ["hand"] (defScope (top 28)):=⟨rfl,rfl,rfl,by decide +kernel,rfl,by decide +kernel,by decide +kernel⟩
theorem ok_many (T:Tx mg) (D:Df K mg "_law_many_fields" (top 28) f fd ["hand"]) (Zaa:Df K mg "_law_draw" (top 24) f_draw fd_draw ["hand","limit"]) (Zad:FnOk P w K mg base CX0 1 f_draw fd_draw ["hand","limit"] spDraw) :
  FnOk P w K mg base CX0 2 f fd ["hand"] (spNames 14):=by
 refine D.fn.okH Zbi (fun vs H Q E h=>?_) (fun cdv A outer s H vs Q E hr h=>?_)
 ·obtain⟨p,c,cs,kn,rfl,_⟩:=h;rfl
 obtain⟨p,c,cs,kn,rfl,hn,fin⟩:=h
 have hu:=u110 hr
 have hu0:=u0 hr
 have hu1:=hu_of hr
 refine⟨_,(wss_one (ws_ret (we_lc (Nt:=["letter"]) (fr:=[]) (LcOk.of (sc:=defScope (top 28)) (N:=["hand"]) rfl rfl (by decide +kernel)) rfl (wi_str (we_slice sl_U we_str wo_none (wo_some (we_op op_plus we_int (we_call Zad (hr.mono (by lia)) rfl Zaa.mg Zaa.kp Zaa.b .nil pass0 (wa_cons (wv 0) (wa_cons we_int wa_nil))))))) (fun z=>wg_name (i:=0) (by show (["letter"]:List Str).Nodup;decide +kernel) rfl (Or.inl rfl) (.inr rfl)) (fun z=>tgt_name (by decide)) (fun z=>wif_nil) (fun z=>(we_op op_plus (wv 0) we_str))))),?_⟩
 refine⟨_,rfl,p,c,cs,kn,_,rfl,hn,by decide,by decide,fun x H1 x0 x1 ex1 hn1=>.inl ⟨_,_,rfl,rfl,_,rfl,?_⟩⟩
 have l14:(Str.ofString "abcdefghijklmn").length=14:=by decide +kernel
 have ls:=Txt.slice_le (Str.ofString "abcdefghijklmn") none (some (10+x))
 have ca:=cutL x x0 x1
 refine .inr (.inr (.inr ⟨_,rfl,Nat.le_of_lt (line1 (by lia)),_,rfl,ca,?_⟩))
 have lt:(Txt.slice (Str.ofString "abcdefghijklmn") none (some (10+x))).cps.size<=14:=by
  have e:(Txt.slice (Str.ofString "abcdefghijklmn") none (some (10+x))).cps.size=(Txt.slice (Str.ofString "abcdefghijklmn") none (some (10+x))).length:=rfl
  lia
 have hq:=cutQ x x0 x1
 generalize Txt.slice (Str.ofString "abcdefghijklmn") none (some (10+x))=tx at lt hq
 have e2:(Str.ofString "qz").length=2:=by decide +kernel
 refine⟨fun i m ys H'=>m+i=tx.cps.size/\(∃ zs:List Str,ys=zs.map V.str/\zs.length=i/\zs=(qzL tx).take i)/\H'=H1,⟨_,by rw[Nat.add_zero],⟨[],rfl,rfl,by rw[List.take_zero]⟩,rfl⟩,?_⟩
 rintro i m ys H3 ⟨hm,⟨zs,rfl,hzl,hz1⟩,rfl⟩
 refine⟨by rw[List.length_map,hzl];exact line1 (by lia),?_⟩
 by_cases hlt:i<tx.cps.size
 ·refine .inr ⟨hlt,fun z x H4 hy=>?_⟩
  obtain⟨rfl,ch,hch,rfl⟩:=hy
  refine gall ?_
  refine⟨_,rfl,.inr (.inl ⟨_,_,rfl,rfl,Nat.le_of_lt (line1 (by show 1+_<=_;rw[e2];decide)),?_⟩)⟩
  refine⟨m-1,by lia,by lia,⟨zs++[⟨#[ch]⟩++Str.ofString "qz"],by simp,by simp [hzl],?_⟩,rfl⟩
  have hch':tx.cps.toList[i]?=some ch:=by rw[Array.getElem?_toList];exact hch
  rw[hz1,List.take_add_one]
  unfold qzL
  rw[List.getElem?_map,hch'];rfl
 ·refine .inl ⟨by show tx.cps.size<=i;lia,fun l2 hl2=>?_⟩
  have hq0:H l2=none:=by
   cases e:H l2 with
   | none=>rfl
   | some o=>
    have nq:l2≠p:=fun z=>hn1.ne hl2 z
    rw[ex1 l2 o nq e]at hl2
    cases hl2
  have hz2:zs=qzL tx:=by rw[hz1,List.take_of_length_le (by unfold qzL;rw[List.length_map,Array.length_toList];lia)]
  unfold qzOk at hq
  simp only[Bool.and_eq_true,List.all_eq_true,decide_eq_true_eq]at hq
  rw[<- hz2]at hq
  exact fin l2 zs _ (by lia) (fun y hy=>nmOk_of (hq.1.1 y hy)) (rise_of hq.1.2 hq.2) (ex1.trans (ex_new hl2)) (hn1.new hl2) hq0 upd_same
end
end K11
end
section
namespace K11
open PySem L2 Kn
theorem fnOk_lt {P:Program}{w:World}{K:PySem.W.Frag}{mg:Str->Option Value}{base:Heap}{k:Nat}{f:Addr}{fd:FuncData}{ps:List Str}{sp:Nat->Sp}{d:Nat} (F:∀ e,e<d->FnOk P w K mg base CX0 k f fd ps (sp e)) :
  FnOk P w K mg base CX0 k f fd ps (fun vs H Q E=>∃ e,e<d/\sp e vs H Q E):=
 ⟨fun vs H Q E ⟨e,he,h⟩=>(F e he).len vs H Q E h,fun A outer s H args us vs Q E hr h0 hb hv ⟨e,he,h⟩=>(F e he).run A outer s H args us vs Q E hr h0 hb hv h⟩
def kz:Nat->Nat
 | 0=>1
 | d+1=>30+6 * (1+kz d)
theorem kz_pos (d:Nat):1<=kz d:=by cases d <;> rw[kz] <;> lia
theorem tszR_le {ps:List (Str×Tr)}{n:Nat} (h:∀ q∈ps,tsz q.2<=n):tszR ps<=ps.length * (1+n):=by
 induction ps with
 | nil=>rw[tszR];simp
 | cons p ps ih=>
  have h1:=h p List.mem_cons_self
  have h2:=ih fun q hq=>h q (List.mem_cons_of_mem _ hq)
  rw[tszR,List.length_cons,Nat.succ_mul]
  lia
section
variable {P:Program}{w:World}{K:PySem.W.Frag}{mg:Str->Option Value}{base:Heap}{f f_draw f_flds f_many:Addr}{fd fd_draw fd_flds fd_many:FuncData}
theorem Zba:FnScope ["hand","deep","style"] ["hand","deep"] (defScope (top 29)):=⟨rfl,rfl,rfl,by decide +kernel,rfl,by decide +kernel,by decide +kernel⟩
def spKind (d:Nat):Sp:=fun vs H Q _=>∃ (p c:Addr) (cs:List Int) (kn:Option Int),vs=[.ref p,.int d]/\Hn H p c cs kn /\
 ∀ (t:Tr) (v:V) (H':Hp),KG d t->tsz t<=kz d->IsDt H' (tdat t) v->Ex p H H'->Hn H' p c cs kn->Q v H'
theorem ok_kind {k d:Nat} (hk:3<=k) (T:Tx mg) (Zah:Df K mg "_law_kind" (top 29) f fd ["hand","deep"]) (ZaP:FnOk P w K mg base CX0 k f fd ["hand","deep"] (fun vs H Q E=>∃ e,e<d/\spKind e vs H Q E))
  (Zaa:Df K mg "_law_draw" (top 24) f_draw fd_draw ["hand","limit"]) (Zad:FnOk P w K mg base CX0 1 f_draw fd_draw ["hand","limit"] spDraw)
  (Zam:Df K mg "_law_fields" (top 27) f_flds fd_flds ["hand"]) (ZaB:FnOk P w K mg base CX0 3 f_flds fd_flds ["hand"] (spNames 6))
  (Zan:Df K mg "_law_many_fields" (top 28) f_many fd_many ["hand"]) (ZaC:FnOk P w K mg base CX0 2 f_many fd_many ["hand"] (spNames 14)) :
  FnOk P w K mg base CX0 (k+1) f fd ["hand","deep"] (spKind d):=by
 refine Zah.fn.okH Zba (fun vs H Q E h=>?_) (fun cdv A outer s H vs Q E hr h=>?_)
 ·obtain⟨p,c,cs,kn,rfl,_⟩:=h;rfl
 obtain⟨p,c,cs,kn,rfl,hn,fin⟩:=h
 have hu:=u110 hr
 have hu0:=u0 hr
 have hu1:=hu_of hr
 have kp:=kz_pos d
 refine⟨_,(wss_cons (ws_set (i:=2) Zba.nd rfl (Or.inl rfl) (we_call Zad (hr.mono (by lia)) rfl Zaa.mg Zaa.kp Zaa.b .nil pass0 (wa_cons (wv 0) (wa_cons (we_ix (ix_U hu1) (we_lst (wa_consts rfl)) (we_callTy call_int1 rfl T.z_int bt_int (wa_cons (we_cmpR op_gt (wv 1) we_int (nomark _)) wa_nil)) (fun _ _=>rfl)) wa_nil))))
   (wss_cons (ws_if (wt_cmpR (op_ltU hu0) (wv 2) we_int (nomark _)) (wss_one (ws_ret (we_ix (ix_U hu1) (we_lst (wa_cons (we_tup (wa_cons we_str wa_nil)) (wa_cons (we_tup (wa_cons we_str wa_nil)) wa_nil))) (wv 2) (fun _ _=>rfl)))) wss_nil)
   (wss_cons (ws_if (wt_pw (ww_and (wt_cmpR (op_ltU hu0) (wv 2) we_int (nomark _)) (ww_and1 (wt_cmpR (op_eqU hu) (we_call Zad (hr.mono (by lia)) rfl Zaa.mg Zaa.kp Zaa.b .nil pass0 (wa_cons (wv 0) (wa_cons we_int wa_nil))) we_int (nomark _))))) (wss_one (ws_ret (we_tup (wa_cons we_str (wa_cons (we_callTy call_tuple_of rfl T.z_tuple bt_tuple (wa_cons (we_lc (Nt:=["field"]) (fr:=[("hand",0)]) (LcOk.of (sc:=defScope (top 29)) (N:=["hand","deep","style"]) rfl rfl (by decide +kernel)) rfl (wi_U (we_call ZaC (hr.mono (by lia)) rfl Zan.mg Zan.kp Zan.b .nil pass0 (wa_cons (wv 0) wa_nil))) (fun z=>wg_name (i:=0) (by show (["field","hand"]:List Str).Nodup;decide +kernel) rfl (Or.inl rfl) (.inr rfl)) (fun z=>tgt_name (by decide)) (fun z=>wif_nil) (fun z=>(we_tup (wa_cons (wv 0) (wa_cons (we_call ZaP (hr.mono (by lia)) rfl Zah.mg Zah.kp Zah.b .nil pass0 (wa_cons (wv 1) (wa_cons we_int wa_nil))) wa_nil))))) wa_nil)) wa_nil))))) wss_nil)
   (wss_cons (ws_if (wt_cmpR (op_ltU hu0) (wv 2) we_int (nomark _)) (wss_one (ws_ret (we_tup (wa_cons we_str (wa_cons (we_callTy call_tuple_of rfl T.z_tuple bt_tuple (wa_cons (we_lc (Nt:=["field"]) (fr:=[("hand",0),("deep",1)]) (LcOk.of (sc:=defScope (top 29)) (N:=["hand","deep","style"]) rfl rfl (by decide +kernel)) rfl (wi_U (we_call ZaB (hr.mono (by lia)) rfl Zam.mg Zam.kp Zam.b .nil pass0 (wa_cons (wv 0) wa_nil))) (fun z=>wg_name (i:=0) (by show (["field","hand","deep"]:List Str).Nodup;decide +kernel) rfl (Or.inl rfl) (.inr rfl)) (fun z=>tgt_name (by decide)) (fun z=>wif_nil) (fun z=>(we_tup (wa_cons (wv 0) (wa_cons (we_call ZaP (hr.mono (by lia)) rfl Zah.mg Zah.kp Zah.b .nil pass0 (wa_cons (wv 1) (wa_cons (we_op op_sub (wv 2) we_int) wa_nil))) wa_nil))))) wa_nil)) wa_nil))))) wss_nil)
   (wss_one (ws_ret (we_tup (wa_cons we_str (wa_cons (we_call ZaP (hr.mono (by lia)) rfl Zah.mg Zah.kp Zah.b .nil pass0 (wa_cons (wv 0) (wa_cons (we_op op_sub (wv 1) we_int) wa_nil))) wa_nil))))))))),?_⟩
 refine⟨_,rfl,(by show 2<=sizeLine;decide),fun l hl=>⟨_,rfl,_,_,rfl,rfl,.inr ⟨_,rfl,?_⟩⟩⟩
 obtain⟨m,hm2,hm6,hmd,hat⟩:∃ m:Nat,2<=m/\m<=6/\(d=0->m=2)/\atI [V.int 2,.int 6] (if decide ((d:Int) > 0)=true then 1 else 0)=some (.int m):=by
  by_cases z:d=0
  ·subst z;exact⟨2,by decide,by decide,fun _=>rfl,rfl⟩
  ·have:decide ((d:Int) > 0)=true:=decide_eq_true (by lia)
   rw[this];exact⟨6,by decide,by decide,fun q=>absurd q z,rfl⟩
 refine .inl ⟨l,_,_,_,rfl,rfl,SqL.of upd_same,hat,p,c,cs,kn,_,rfl,hn.new hl,by lia,Int.lt_of_le_of_lt (show _<=6 by lia) (by decide),fun st H1 st0 st1 ex1 hn1=>?_⟩
 have exA:Ex p H H1:=(ex_new hl).trans ex1
 refine⟨_,rfl,.inl ⟨_,_,rfl,rfl,_,rfl,?_⟩⟩
 refine ite2 (fun e1=>?leaf) (fun e1=>?deep)
 case leaf=>
  have st2:st<2:=of_decide_eq_true e1
  refine⟨(by show 1<=sizeLine;decide),fun t1 ht1=>⟨(by show 1<=sizeLine;decide),fun t2 ht2=>⟨(by show 2<=sizeLine;decide),fun l2 hl2=>?_⟩⟩⟩
  have i1:IsDt (upd (upd H1 t1 (.tup [.str "num"])) t2 (.tup [.str "word"])) (tdat (.node (Str.ofString "num") [] [])) (.ref t1):=IsDt.mono (Tups.new ht2 _) (by rw[tdat];exact isDt_new ht1 (.one (by rw[IsDt])))
  have i2:IsDt (upd (upd H1 t1 (.tup [.str "num"])) t2 (.tup [.str "word"])) (tdat (.node (Str.ofString "word") [] [])) (.ref t2):=by rw[tdat];exact isDt_new ht2 (.one (by rw[IsDt]))
  obtain⟨v,hv,hm⟩:=atI_mem (xs:=[V.ref t1,.ref t2]) st0 st2
  refine⟨_,rfl,.inl ⟨l2,_,_,_,rfl,rfl,SqL.of upd_same,hv,?_⟩⟩
  have tt:=Tups.new hl2 (.lst [.ref t1,.ref t2])
  have exN:=exA.trans ((ex_new ht1).trans ((ex_new (o:=.tup [.str "word"]) ht2).trans (ex_new (o:=.lst [.ref t1,.ref t2]) hl2)))
  have hnN:=((hn1.new ht1).new (o:=.tup [.str "word"]) ht2).new (o:=.lst [.ref t1,.ref t2]) hl2
  simp only[List.mem_cons,List.not_mem_nil,or_false]at hm
  rcases hm with rfl | rfl
  ·exact fin _ _ _ .num (by rw[tsz,tszL];exact kp) (IsDt.mono tt i1) exN hnN
  ·exact fin _ _ _ .word (by rw[tsz,tszL];exact kp) (IsDt.mono tt i2) exN hnN
 case deep=>
 have d1:1<=d:=by
  have:¬(st<2):=fun z=>e1 (decide_eq_true z)
  by_cases z:d=0
  ·have:=hmd z;lia
  ·lia
 obtain⟨d',rfl⟩:∃ d',d=d'+1:=⟨d-1,by lia⟩
 have ed:((d'+1:Nat):Int)-1=d':=by lia
 refine⟨_,rfl,.inl ⟨_,_,rfl,rfl,_,rfl,?_⟩⟩
 refine ite2 (fun e2=>?row) (fun e2=>?nrow)
 case' row=>
  refine⟨_,rfl,p,c,cs,kn,_,rfl,hn1,by decide,by decide,fun y H2 y0 y1 ex2 hn2=>.inl ⟨rfl,_,rfl,?_⟩⟩
  refine ite2 (fun e3=>?many) (fun e3=>?flds)
 case nrow=>
  refine⟨_,rfl,.inl ⟨_,_,rfl,rfl,_,rfl,?_⟩⟩
  refine iteN e2 ?_
  refine⟨_,rfl,_,rfl,_,_,rfl,rfl,d',by lia,p,c,cs,kn,(show [V.ref p,V.int (((d'+1:Nat):Int)-1)]=[V.ref p,.int d'] by rw[ed]),hn1,fun t v H2 kg ts it ex2 hn2=>⟨(by show 2<=sizeLine;decide),fun q hq=>?_⟩⟩
  refine fin (.node (Str.ofString "bag") [] [t]) _ _ (.bag kg) (by rw[tsz,tszL,tszL,kz];simp;lia) ?_ (exA.trans (ex2.trans (ex_new hq))) (hn2.new hq)
  rw[tdat,tdatL,tdatL]
  exact isDt_new hq (.cons (by rw[IsDt]) (.one it))
 case' many=>
  refine .inl ⟨_,rfl,p,c,cs,kn,rfl,hn2,fun lf ys H3 hy14 hyn hys ex3 hn3 hlf hLf=>⟨lf,rfl,⟨_,SqL.of hLf⟩,?_⟩⟩
  obtain⟨e,he,hsz,ea⟩:∃ e:Nat,e<d'+1/\ys.length * (1+kz e)+1<=kz (d'+1)/\(0:Int)=e:=⟨0,by lia,by rw[kz,kz];lia,rfl⟩
  have y14:ys.length<=14:=hy14
 case' flds=>
  refine⟨_,rfl,.inl ⟨_,_,rfl,rfl,_,rfl,?_⟩⟩
  refine iteP e2 ?_
  refine .inl ⟨_,rfl,p,c,cs,kn,rfl,hn2,fun lf ys H3 hy14 hyn hys ex3 hn3 hlf hLf=>⟨lf,rfl,⟨_,SqL.of hLf⟩,?_⟩⟩
  obtain⟨e,he,hsz,ea⟩:∃ e:Nat,e<d'+1/\ys.length * (1+kz e)+1<=kz (d'+1)/\((d'+1:Nat):Int)-1=e:=⟨d',by lia,by rw[kz];have:=Nat.mul_le_mul_right (1+kz d') hy14;lia,ed⟩
  have y14:ys.length<=14:=by lia
 case many | flds=>
  have exB:Ex p H H3:=exA.trans (ex2.trans ex3)
  have nlf:lf≠p:=fun z=>by
   obtain⟨_,_,_,_,a,_⟩:=hn3
   rw[z,a.at_]at hLf;cases hLf
  refine⟨fun i2 m2 zs H4=>m2+i2=ys.length/\Ex p H H4/\Hn H4 p c cs kn/\H4 lf=some (.lst (ys.map V.str))/\∃ ps:List (Str×Tr),ps.map (·.1)=ys.take i2/\IsDts H4 (tdatR ps) zs/\∀ q∈ps,KG e q.2/\tsz q.2<=kz e,⟨_,by rw[Nat.add_zero],exB,hn3,hLf,[],by simp,by rw[tdatR];exact .nil,fun q hq=>nomatch hq⟩,?_⟩
  rintro i2 m2 zs H4 ⟨hm2,ex4,hn4,hl4,ps,eps,ips,hps⟩
  have lps:ps.length=min i2 ys.length:=by have:=congrArg List.length eps;simpa using this
  have lzs:zs.length=ps.length:=by rw[ips.length,tdatR_map,List.length_map]
  refine⟨line1 (by lia),?_⟩
  by_cases hi2:i2<ys.length
  ·have hyi:(ys.map V.str)[i2]?=some (.str ys[i2]):=by simp [hi2]
   refine .inr ⟨⟨_,_,SqL.of hl4,hyi⟩,fun z x H5 hy2=>?_⟩
   obtain⟨rfl,hx5⟩:=hy2
   obtain rfl:V.str ys[i2]=x:=by have:=hx5 _ (SqL.of hl4);rw[hyi]at this;injection this
   refine gall ?_
   have next:∀ (t:Tr) (v:V) (H6:Hp),KG e t->tsz t<=kz e->IsDt H6 (tdat t) v->Ex p H5 H6->Hn H6 p c cs kn->∀ q,H6 q=none->∃ m',m'<m2/\m'+(i2+1)=ys.length/\Ex p H (upd H6 q (.tup [.str ys[i2],v]))/\Hn (upd H6 q (.tup [.str ys[i2],v])) p c cs kn/\(upd H6 q (.tup [.str ys[i2],v])) lf=some (.lst (ys.map V.str)) /\
     ∃ ps:List (Str×Tr),ps.map (·.1)=ys.take (i2+1)/\IsDts (upd H6 q (.tup [.str ys[i2],v])) (tdatR ps) (zs++[.ref q])/\∀ q∈ps,KG e q.2/\tsz q.2<=kz e:=fun t v H6 kg ts it ex6 hn6 q hq=>by
    have l6:=ex6 lf _ nlf hl4
    refine⟨m2-1,by lia,by lia,ex4.trans (ex6.trans (ex_new hq)),hn6.new hq,by rw[upd_ne (ne_of_none l6 hq)];exact l6,ps++[(ys[i2],t)],?_,?_,fun q' hq'=>?_⟩
    ·rw[List.map_append,eps,List.take_add_one,List.getElem?_eq_getElem hi2];rfl
    ·rw[tdatR_map,List.map_append,<- tdatR_map]
     exact (IsDts.mono ((hn4.tups ex6).trans (Tups.new hq _)) ips).append (.one (isDt_new hq (.cons (by rw[IsDt]) (.one it))))
    ·rcases List.mem_append.mp hq' with h | h
     ·exact hps q' h
     ·rw[List.mem_singleton.mp h];exact⟨kg,ts⟩
   first
   | refine⟨_,rfl,_,rfl,e,he,p,c,cs,kn,(show [V.ref p,V.int 0]=_ by rw[ea]),hn4,fun t v H6 kg ts it ex6 hn6=>⟨(by show 2<=sizeLine;decide),fun q hq=>next t v H6 kg ts it ex6 hn6 q hq⟩⟩
   | refine⟨_,rfl,_,rfl,_,rfl,_,_,rfl,rfl,e,he,p,c,cs,kn,(show [V.ref p,V.int (((d'+1:Nat):Int)-1)]=_ by rw[ea]),hn4,fun t v H6 kg ts it ex6 hn6=>⟨(by show 2<=sizeLine;decide),fun q hq=>next t v H6 kg ts it ex6 hn6 q hq⟩⟩
  ·refine .inl ⟨⟨_,SqL.of hl4,by rw[List.length_map];lia⟩,fun l2 hl2=>?_⟩
   rw[List.take_of_length_le (by lia)]at eps
   refine⟨l2,_,rfl,.inl ⟨SqL.of upd_same,fun t1 ht1=>⟨(by show 2<=sizeLine;decide),fun t2 ht2=>?_⟩⟩⟩
   have ip1:IsDt (upd (upd H4 l2 (.lst zs)) t1 (.tup zs)) (.tup (tdatR ps)) (.ref t1):=isDt_new ht1 (IsDts.mono (Tups.new hl2 _) ips)
   have lps':ps.length<=ys.length:=by lia
   refine fin (.row ps) _ _ (KG.row (by lia) (fun q hq=>?_) (by rw[eps];exact hys) (fun q hq=>(hps q hq).1.mono (by lia))) ?_ ?_ (ex4.trans ((ex_new hl2).trans ((ex_new ht1).trans (ex_new ht2)))) (((hn4.new hl2).new ht1).new ht2)
   ·have:q.1∈ys:=by rw[<- eps];exact List.mem_map.mpr ⟨q,hq,rfl⟩
    exact hyn _ this
   ·have h1:=tszR_le (n:=kz e) fun q hq=>(hps q hq).2
    have h2:=Nat.mul_le_mul_right (1+kz e) lps'
    rw[tsz];lia
   ·rw[tdat]
    exact isDt_new ht2 (.cons (by rw[IsDt]) (.one ip1))
theorem kind_all (T:Tx mg) (Zah:Df K mg "_law_kind" (top 29) f fd ["hand","deep"])
  (Zaa:Df K mg "_law_draw" (top 24) f_draw fd_draw ["hand","limit"]) (Zad:FnOk P w K mg base CX0 1 f_draw fd_draw ["hand","limit"] spDraw)
  (Zam:Df K mg "_law_fields" (top 27) f_flds fd_flds ["hand"]) (ZaB:FnOk P w K mg base CX0 3 f_flds fd_flds ["hand"] (spNames 6))
  (Zan:Df K mg "_law_many_fields" (top 28) f_many fd_many ["hand"]) (ZaC:FnOk P w K mg base CX0 2 f_many fd_many ["hand"] (spNames 14)) :
  ∀ d:Nat,FnOk P w K mg base CX0 (d+4) f fd ["hand","deep"] (spKind d):=fun d=>by
 induction d using Nat.strongRecOn with
 | ind d ih=>exact ok_kind (k:=d+3) (by lia) T Zah (fnOk_lt fun e he=>(ih e he).mono (by lia)) Zaa Zad Zam ZaB Zan ZaC
end
end K11
end
section
namespace K11
open PySem L2 Kn
def W6:List Str:=[Str.ofString "num",Str.ofString "word",Str.ofString "var",Str.ofString "table",Str.ofString "none",Str.ofString "row"]
def W12:List Str:=[Str.ofString "fields",Str.ofString "at",Str.ofString "add",Str.ofString "mul",Str.ofString "one",Str.ofString "both",Str.ofString "times",Str.ofString "for",Str.ofString "when",Str.ofString "let",Str.ofString "for",Str.ofString "when"]
def W18:List Str:=W6++W12
theorem w_apart:∀ w∈W6,w ∉ W12:=by decide +kernel
theorem isDts_strs {H:Hp}:∀ l:List Str,IsDts H (l.map Dt.str) (l.map V.str)
 | []=>.nil
 | x::l=>.cons (by rw[IsDt]) (isDts_strs l)
theorem depL_strs:∀ l:List Str,depL (l.map Dt.str)<=1
 | []=>by simp [depL]
 | x::l=>by
  have:=depL_strs l
  rw[List.map_cons,depL,Dt.dep]
  lia
theorem veq {a:V}:decide (a=a)=true:=decide_eq_true rfl
theorem vne {a b:Str} (h:a≠b):¬(decide (V.str a=V.str b)=true):=fun z=>h (by have:=of_decide_eq_true z;injection this)
theorem vs_eq {a b:Str} (h:decide (V.str a=V.str b)=true):a=b:=by have:=of_decide_eq_true h;injection this
section
variable {P:Program}{w:World}{K:PySem.W.Frag}{mg:Str->Option Value}{base:Heap}{f f_draw f_flds f_many f_name f_num f_kind f_leaf f_any f_claim:Addr}{fd fd_draw fd_flds fd_many fd_name fd_num fd_kind fd_leaf fd_any fd_claim:FuncData}
theorem Zbj:FnScope ["hand","word"] ["hand","word"] (defScope (top 31)):=⟨rfl,rfl,rfl,by decide +kernel,rfl,by decide +kernel,by decide +kernel⟩
def spLeaf:Sp:=fun vs H Q _=>∃ (p c:Addr) (cs:List Int) (kn:Option Int) (wd:Str),vs=[.ref p,.str wd]/\Hn H p c cs kn/\wd∈W6 /\
 ∀ (t:Tr) (v:V) (H':Hp),QG 0 false t->tsz t<=320->IsDt H' (tdat t) v->Ex p H H'->Hn H' p c cs kn->Q v H'
theorem ok_leaf (T:Tx mg) (D:Df K mg "_law_any_leaf" (top 31) f fd ["hand","word"])
  (Zar:Df K mg "_law_number" (top 26) f_num fd_num ["hand"]) (ZaQ:FnOk P w K mg base CX0 2 f_num fd_num ["hand"] spNumber)
  (Zah:Df K mg "_law_kind" (top 29) f_kind fd_kind ["hand","deep"]) (ZaP:FnOk P w K mg base CX0 6 f_kind fd_kind ["hand","deep"] (spKind 2))
  (Zaf:Df K mg "_law_name" (top 25) f_name fd_name ["hand"]) (Zav:FnOk P w K mg base CX0 2 f_name fd_name ["hand"] spName) :
  FnOk P w K mg base CX0 7 f fd ["hand","word"] spLeaf:=by
 refine D.fn.okH (k:=6) Zbj (fun vs H Q E h=>?_) (fun cdv A outer s H vs Q E hr h=>?_)
 ·obtain⟨p,c,cs,kn,wd,rfl,_⟩:=h;rfl
 obtain⟨p,c,cs,kn,wd,rfl,hn,hw,fin⟩:=h
 have hu:=u110 hr
 have hu0:=u0 hr
 have hu1:=hu_of hr
 refine⟨_,(wss_cons (ws_if (wt_cmpR (op_eqU hu) (wv 1) we_str (nomark _)) (wss_one (ws_ret (we_tup (wa_cons we_str (wa_cons (we_call ZaQ (hr.mono (by lia)) rfl Zar.mg Zar.kp Zar.b .nil pass0 (wa_cons (wv 0) wa_nil)) wa_nil))))) wss_nil)
   (wss_cons (ws_if (wt_cmpR (op_eqU hu) (wv 1) we_str (nomark _)) (wss_one (ws_ret (we_tup (wa_cons we_str (wa_cons (we_call ZaP (hr.mono (by lia)) rfl Zah.mg Zah.kp Zah.b .nil pass0 (wa_cons (wv 0) (wa_cons we_int wa_nil))) wa_nil))))) wss_nil)
   (wss_cons (ws_if (wt_cmpR (op_eqU hu) (wv 1) we_str (nomark _)) (wss_one (ws_ret (we_tup (wa_cons we_str (wa_cons (we_tup wa_nil) wa_nil))))) wss_nil)
   (wss_one (ws_ret (we_tup (wa_cons (wv 1) (wa_cons (we_call Zav (hr.mono (by lia)) rfl Zaf.mg Zaf.kp Zaf.b .nil pass0 (wa_cons (wv 0) wa_nil)) wa_nil)))))))),?_⟩
 refine⟨_,rfl,.inl ⟨rfl,_,rfl,?_⟩⟩
 refine ite2 (fun e1=>?_) (fun e1=>?_)
 ·refine⟨_,rfl,p,c,cs,kn,rfl,hn,fun i H1 hi ex1 hn1=>⟨(by show 2<=sizeLine;decide),fun q hq=>?_⟩⟩
  refine fin (.node (Str.ofString "num") [.int i] []) _ _ (.num hi) (by rw[tsz,tszL];simp) ?_ (ex1.trans (ex_new hq)) (hn1.new hq)
  rw[tdat,tdatL]
  exact isDt_new hq (.cons (by rw[IsDt]) (.one (by show IsDt _ (.int i) _;rw[IsDt])))
 refine⟨_,rfl,.inl ⟨rfl,_,rfl,?_⟩⟩
 refine ite2 (fun e2=>?_) (fun e2=>?_)
 ·refine⟨_,rfl,p,c,cs,kn,rfl,hn,fun t v H1 kg ts it ex1 hn1=>⟨(by show 2<=sizeLine;decide),fun q hq=>?_⟩⟩
  refine fin (.node (Str.ofString "none") [] [t]) _ _ (.none kg) ?_ ?_ (ex1.trans (ex_new hq)) (hn1.new hq)
  ·have:kz 2=288:=rfl
   rw[tsz,tszL,tszL];simp;lia
  ·rw[tdat,tdatL,tdatL]
   exact isDt_new hq (.cons (by rw[IsDt]) (.one it))
 refine⟨_,rfl,.inl ⟨rfl,_,rfl,?_⟩⟩
 refine ite2 (fun e3=>?_) (fun e3=>?_)
 ·refine⟨(by show 0<=sizeLine;decide),fun q1 hq1=>⟨(by show 2<=sizeLine;decide),fun q hq=>?_⟩⟩
  refine fin (.row []) _ _ .row0 (by rw[tsz,tszR];simp) ?_ ((ex_new hq1).trans (ex_new hq)) ((hn.new hq1).new hq)
  rw[tdat,tdatR]
  exact isDt_new hq (.cons (by rw[IsDt]) (.one (isDt_new hq1 .nil)))
 refine⟨_,rfl,_,rfl,p,c,cs,kn,rfl,hn,fun x H1 hx ex1 hn1=>⟨(by show 2<=sizeLine;decide),fun q hq=>?_⟩⟩
 refine fin (.node wd [.txt x] []) _ _ (.leaf ?_ hx) (by rw[tsz,tszL];simp) ?_ (ex1.trans (ex_new hq)) (hn1.new hq)
 ·unfold W6 at hw
  simp only[List.mem_cons,List.not_mem_nil,or_false]at hw
  rcases hw with rfl | rfl | rfl | rfl | rfl | rfl
  ·exact absurd veq e1
  ·exact .inl rfl
  ·exact .inr (.inl rfl)
  ·exact .inr (.inr rfl)
  ·exact absurd veq e2
  ·exact absurd veq e3
 ·rw[tdat,tdatL]
  exact isDt_new hq (.cons (by rw[IsDt]) (.one (by show IsDt _ (.str x) _;rw[IsDt])))
end
end K11
end
section
namespace K11
open PySem L2 Kn
def Ad:Nat->Int
 | 0=>0
 | d+1=>60+6 * d
theorem hn_put {H:Hp}{p c:Addr}{cs:List Int}{k:Int} (h:Hn H p c cs (some k)):∃ kvs,H p=some (.dK kvs)/\kvs.length<sizeLine/\DGet H p (.str "knots") (some (.int k))/\∀ k',Hn (upd H p (.dK (putK kvs kyK (.int k')))) p c cs (some k'):=by
 obtain⟨n,r,t,kvs,a,b⟩:=h
 exact⟨kvs,a.at_,pl a,gK a,fun k'=>⟨n,r,t,_,a.putK' k' (.inl (by simp)),fun z=>nomatch z⟩⟩
theorem hn_get {H:Hp}{p c:Addr}{cs:List Int}{k:Int} (h:Hn H p c cs (some k)):DGet H p (.str "knots") (some (.int k)):=by
 obtain⟨n,r,t,kvs,a,b⟩:=h
 exact gK a
theorem Ad_lt {a d:Nat} (h:a<d):Ad a+6<=Ad d/\60<=Ad d:=by
 obtain⟨e,rfl⟩:∃ e,d=e+1:=⟨d-1,by lia⟩
 cases a with
 | zero=>simp only[Ad];lia
 | succ n=>simp only[Ad];lia
theorem Ad_le {a d:Nat} (h:a<=d):Ad a<=Ad d:=by
 rcases Nat.lt_or_ge a d with z | z
 ·have:=Ad_lt z;lia
 ·have:a=d:=by lia
  rw[this];exact Int.le_refl _
theorem arg_eq {p:Addr}{x y:Int} (h:x=y):[V.ref p,V.int x]=[V.ref p,V.int y]:=by rw[h]
theorem tsz_node {w:Str}{as:List At}{ps:List Tr}:tsz (.node w as ps)=1+as.length+(ps.map tsz).sum:=by rw[tsz,tszL_map]
section
variable {P:Program}{w:World}{K:PySem.W.Frag}{mg:Str->Option Value}{base:Heap}{f f_draw f_flds f_many f_name f_num f_kind f_leaf f_any f_claim:Addr}{fd fd_draw fd_flds fd_many fd_name fd_num fd_kind fd_leaf fd_any fd_claim:FuncData}
def spAny (d:Nat):Sp:=fun vs H Q _=>∃ (p c:Addr) (cs:List Int) (k:Int),vs=[.ref p,.int d]/\Hn H p c cs (some k) /\
 ∀ (t:Tr) (v:V) (H':Hp) (k':Int),QG (2 * d+1) false t->(tsz t:Int)<=320 * (k'-k)->k+1<=k'->(k'<=k+1\/(1<=d/\k'<=Ad d))->IsDt H' (tdat t) v->Ex p H H'->Hn H' p c cs (some k')->Q v H'
def spClaim (d:Nat):Sp:=fun vs H Q _=>∃ (p c:Addr) (cs:List Int) (k:Int),vs=[.ref p,.int d]/\Hn H p c cs (some k) /\
 ∀ (t:Tr) (v:V) (H':Hp) (k':Int),QG (2 * d+2) true t->(tsz t:Int)<=320 * (k'-k)->k+1<=k'->(k'<=k+3\/(1<=d/\k'<=Ad d))->IsDt H' (tdat t) v->Ex p H H'->Hn H' p c cs (some k')->Q v H'
theorem ZaX:FnScope ["hand","deep","word"] ["hand","deep"] (defScope (top 30)):=⟨rfl,rfl,rfl,by decide +kernel,rfl,by decide +kernel,by decide +kernel⟩
theorem ok_claim {j d:Nat} (hj:1<=j) (T:Tx mg) (Zai:Df K mg "_law_any_claim" (top 30) f fd ["hand","deep"]) (ZaR:FnOk P w K mg base CX0 j f fd ["hand","deep"] (fun vs H Q E=>∃ e,e<d/\spClaim e vs H Q E))
  (Zaa:Df K mg "_law_draw" (top 24) f_draw fd_draw ["hand","limit"]) (Zad:FnOk P w K mg base CX0 1 f_draw fd_draw ["hand","limit"] spDraw)
  (Zab:Df K mg "_law_any" (top 32) f_any fd_any ["hand","deep"]) (Zao:FnOk P w K mg base CX0 j f_any fd_any ["hand","deep"] (fun vs H Q E=>∃ e,e<d+1/\spAny e vs H Q E)) :
  FnOk P w K mg base CX0 (j+1) f fd ["hand","deep"] (spClaim d):=by
 refine Zai.fn.okH ZaX (fun vs H Q E h=>?_) (fun cdv A outer s H vs Q E hr h=>?_)
 ·obtain⟨p,c,cs,k,rfl,_⟩:=h;rfl
 obtain⟨p,c,cs,k,rfl,hn,fin⟩:=h
 have hu:=u110 hr
 have hu0:=u0 hr
 have hu1:=hu_of hr
 refine⟨_,(wss_cons (ws_asg (we_op op_plus (we_ix (ix_U hu1) (wv 0) we_str (fun _ _=>rfl)) we_int) (wg_sub (wv 0) we_str (set_U hu1)))
   (wss_cons (ws_if (wt_cmpR op_gt (we_ix (ix_U hu1) (wv 0) we_str (fun _ _=>rfl)) we_int (nomark _)) (wss_one (ws_set (i:=1) ZaX.nd rfl (Or.inl rfl) we_int)) wss_nil)
   (wss_cons (ws_set (i:=2) ZaX.nd rfl (Or.inl rfl) (we_ix (ix_U hu1) (we_lst (wa_consts rfl)) (we_call Zad (hr.mono (by lia)) rfl Zaa.mg Zaa.kp Zaa.b .nil pass0 (wa_cons (wv 0) (wa_cons (we_ix (ix_U hu1) (we_lst (wa_consts rfl)) (we_callTy call_int1 rfl T.z_int bt_int (wa_cons (we_cmpR op_gt (wv 1) we_int (nomark _)) wa_nil)) (fun _ _=>rfl)) wa_nil))) (fun _ _=>rfl)))
   (wss_cons (ws_if (wt_cmpR (op_eqU hu) (wv 2) we_str (nomark _)) (wss_one (ws_ret (we_tup (wa_cons we_str (wa_cons (we_call ZaR (hr.mono (by lia)) rfl Zai.mg Zai.kp Zai.b .nil pass0 (wa_cons (wv 0) (wa_cons (we_op op_sub (wv 1) we_int) wa_nil))) wa_nil))))) wss_nil)
   (wss_cons (ws_if (wt_pw (ww_or (wt_cmpR (op_eqU hu) (wv 2) we_str (nomark _)) (ww_or1 (wt_cmpR (op_eqU hu) (wv 2) we_str (nomark _))))) (wss_one (ws_ret (we_tup (wa_cons (wv 2) (wa_cons (we_call ZaR (hr.mono (by lia)) rfl Zai.mg Zai.kp Zai.b .nil pass0 (wa_cons (wv 0) (wa_cons (we_op op_sub (wv 1) we_int) wa_nil))) (wa_cons (we_call ZaR (hr.mono (by lia)) rfl Zai.mg Zai.kp Zai.b .nil pass0 (wa_cons (wv 0) (wa_cons (we_op op_sub (wv 1) we_int) wa_nil))) wa_nil)))))) wss_nil)
   (wss_one (ws_ret (we_tup (wa_cons (wv 2) (wa_cons (we_call Zao (hr.mono (by lia)) rfl Zab.mg Zab.kp Zab.b .nil pass0 (wa_cons (wv 0) (wa_cons (we_callB (call_max2 rfl) rfl T.z_max bt_max (wa_cons we_int (wa_cons (we_op op_sub (wv 1) we_int) wa_nil))) wa_nil))) (wa_cons (we_call Zao (hr.mono (by lia)) rfl Zab.mg Zab.kp Zab.b .nil pass0 (wa_cons (wv 0) (wa_cons (we_callB (call_max2 rfl) rfl T.z_max bt_max (wa_cons we_int (wa_cons (we_op op_sub (wv 1) we_int) wa_nil))) wa_nil))) wa_nil))))))))))),?_⟩
 obtain⟨kvs,hat,hlen,hget,hput⟩:=hn_put hn
 refine⟨_,rfl,.inr (.inr (.inr ⟨p,_,rfl,hget,.inl ⟨_,_,rfl,rfl,_,rfl,.inr ⟨p,_,rfl,DPut.k (k:=kyK) hat hlen,?_⟩⟩⟩))⟩
 have hn1:=hput (k+1)
 have ex1:Ex p H (upd H p (.dK (putK kvs kyK (.int (k+1))))):=ex_upd
 refine⟨_,rfl,.inr (.inr (.inr ⟨p,_,rfl,hn_get hn1,_,_,rfl,rfl,_,rfl,?_⟩))⟩
 refine ite2 (fun e0=>?yes) (fun e0=>?no)
 case' yes=>obtain⟨dd,hdd,hdk,edd⟩:∃ dd:Nat,dd<=d/\(1<=dd->k<=39)/\(0:Int)=dd:=⟨0,by lia,by lia,rfl⟩
 case' no=>obtain⟨dd,hdd,hdk,edd⟩:∃ dd:Nat,dd<=d/\(1<=dd->k<=39)/\(d:Int)=dd:=⟨d,by lia,fun _=>by have:¬(k+1 > 40):=fun z=>e0 (decide_eq_true z);lia,rfl⟩
 case yes | no=>
 clear e0
 generalize upd H p (.dK (putK kvs kyK (.int (k+1))))=Ha at hn1 ex1 ⊢
 have sel:∀ x:Int,x=dd->∃ m:Nat,2<=m/\m<=5/\(dd=0->m=2)/\atI [V.int 2,.int 5] (if decide (x > 0)=true then 1 else 0)=some (.int m):=fun x ex=>by
  by_cases z:dd=0
  ·have:decide (x > 0)=false:=decide_eq_false (by lia)
   rw[this];exact⟨2,by decide,by decide,fun _=>rfl,rfl⟩
  ·have:decide (x > 0)=true:=decide_eq_true (by lia)
   rw[this];exact⟨5,by decide,by decide,fun q=>absurd q z,rfl⟩
 obtain⟨m,hm2,hm5,hmd,hsel⟩:=sel _ edd
 refine⟨(by show 5<=sizeLine;decide),fun l hl=>⟨_,rfl,(by show 2<=sizeLine;decide),fun l2 hl2=>⟨_,rfl,_,_,rfl,rfl,.inr ⟨_,rfl,.inl ⟨l2,_,_,_,rfl,rfl,SqL.of upd_same,hsel,?_⟩⟩⟩⟩⟩
 have hnL:=(hn1.new (o:=.lst [.str "same",.str "under",.str "and",.str "or",.str "not"]) hl).new (o:=.lst [.int 2,.int 5]) hl2
 have nl:=hn1.ne hl
 have hL:(upd (upd Ha l (.lst [.str "same",.str "under",.str "and",.str "or",.str "not"])) l2 (.lst [.int 2,.int 5])) l=some (.lst [.str "same",.str "under",.str "and",.str "or",.str "not"]):=by rw[upd_ne (ne_of_none upd_same hl2)];exact upd_same
 have exL:Ex p H (upd (upd Ha l (.lst [.str "same",.str "under",.str "and",.str "or",.str "not"])) l2 (.lst [.int 2,.int 5])):=ex1.trans ((ex_new hl).trans (ex_new hl2))
 refine⟨p,c,cs,some (k+1),_,rfl,hnL,by lia,Int.lt_of_le_of_lt (show _<=5 by lia) (by decide),fun x H1 x0 x1 ex2 hn2=>?_⟩
 have hL1:=ex2 l _ nl hL
 have exA:Ex p H H1:=exL.trans ex2
 obtain⟨wd,hwd,hcase⟩:∃ wd:Str,atI [V.str "same",.str "under",.str "and",.str "or",.str "not"] x=some (.str wd)/\((wd=Str.ofString "same"\/wd=Str.ofString "under")\/(1<=dd/\(wd=Str.ofString "and"\/wd=Str.ofString "or"\/wd=Str.ofString "not"))):=by
  have hx:x=0\/x=1\/(1<=dd/\(x=2\/x=3\/x=4)):=by lia
  rcases hx with rfl | rfl | ⟨h,rfl | rfl | rfl⟩
  ·exact⟨_,rfl,.inl (.inl rfl)⟩
  ·exact⟨_,rfl,.inl (.inr rfl)⟩
  ·exact⟨_,rfl,.inr ⟨h,.inl rfl⟩⟩
  ·exact⟨_,rfl,.inr ⟨h,.inr (.inl rfl)⟩⟩
  ·exact⟨_,rfl,.inr ⟨h,.inr (.inr rfl)⟩⟩
 refine .inl ⟨l,_,x,_,rfl,rfl,SqL.of hL1,hwd,?_⟩
 refine⟨_,rfl,.inl ⟨rfl,_,rfl,?_⟩⟩
 refine ite2 (fun e1=>?_) (fun e1=>?_)
 ·have ew:=vs_eq e1
  have d1:1<=dd:=by
   rcases hcase with h | h
   ·exfalso;rw[ew]at h;revert h;decide +kernel
   ·exact h.1
  have k39:=hdk d1
  refine⟨_,rfl,_,rfl,_,_,rfl,rfl,dd-1,by lia,p,c,cs,k+1,arg_eq (by lia),hn2,fun t v H2 k' qg ts kk1 kk2 it ex3 hn3=>⟨(by show 2<=sizeLine;decide),fun q hq=>?_⟩⟩
  refine fin (.node (Str.ofString "not") [] [t]) _ _ k' (QG.mono (show 2 * (dd-1)+2+1<=_ by lia) (.not qg)) (by rw[tsz_node];simp;lia) (by lia) ?_ ?_ (exA.trans (ex3.trans (ex_new hq))) (hn3.new hq)
  ·have:=Ad_lt (show dd-1<d by lia);lia
  ·rw[tdat,tdatL,tdatL]
   exact isDt_new hq (.cons (by rw[IsDt]) (.one it))
 refine⟨_,rfl,.inl ⟨rfl,_,rfl,?_⟩⟩
 refine ite2 (fun e2=>iteT ?_) (fun e2=>?_)
 ·have ew:wd=Str.ofString "and"\/wd=Str.ofString "or":=.inl (vs_eq e2)
  have d1:1<=dd:=by
   rcases hcase with h | h
   ·exfalso
    rcases ew with rfl | rfl
    ·revert h;decide +kernel
    ·revert h;decide +kernel
   ·exact h.1
  have k39:=hdk d1
  refine⟨_,rfl,_,rfl,_,rfl,_,_,rfl,rfl,dd-1,by lia,p,c,cs,k+1,arg_eq (by lia),hn2,fun t v H2 k' qg ts kk1 kk2 it ex3 hn3=>?_⟩
  refine⟨_,rfl,_,rfl,_,_,rfl,rfl,dd-1,by lia,p,c,cs,k',arg_eq (by lia),hn3,fun t2 v2 H3 k2 qg2 ts2 kk3 kk4 it2 ex4 hn4=>⟨(by show 3<=sizeLine;decide),fun q hq=>?_⟩⟩
  have al:=Ad_lt (show dd-1<d by lia)
  refine fin (.node wd [] [t,t2]) _ _ k2 (QG.mono (show 2 * (dd-1)+2+1<=_ by lia) (.logic ew qg qg2)) (by rw[tsz_node];simp;lia) (by lia) (by lia) ?_ (exA.trans (ex3.trans (ex4.trans (ex_new hq)))) (hn4.new hq)
  rw[tdat,tdatL,tdatL,tdatL]
  exact isDt_new hq (.cons (by rw[IsDt]) (.cons (IsDt.mono (hn3.tups ex4) it) (.one it2)))
 refine⟨_,rfl,.inl ⟨rfl,_,rfl,?_⟩⟩
 refine ite2 (fun e3=>?_) (fun e3=>?_)
 ·have ew:wd=Str.ofString "and"\/wd=Str.ofString "or":=.inr (vs_eq e3)
  have d1:1<=dd:=by
   rcases hcase with h | h
   ·exfalso
    rcases ew with rfl | rfl
    ·revert h;decide +kernel
    ·revert h;decide +kernel
   ·exact h.1
  have k39:=hdk d1
  refine⟨_,rfl,_,rfl,_,rfl,_,_,rfl,rfl,dd-1,by lia,p,c,cs,k+1,arg_eq (by lia),hn2,fun t v H2 k' qg ts kk1 kk2 it ex3 hn3=>?_⟩
  refine⟨_,rfl,_,rfl,_,_,rfl,rfl,dd-1,by lia,p,c,cs,k',arg_eq (by lia),hn3,fun t2 v2 H3 k2 qg2 ts2 kk3 kk4 it2 ex4 hn4=>⟨(by show 3<=sizeLine;decide),fun q hq=>?_⟩⟩
  have al:=Ad_lt (show dd-1<d by lia)
  refine fin (.node wd [] [t,t2]) _ _ k2 (QG.mono (show 2 * (dd-1)+2+1<=_ by lia) (.logic ew qg qg2)) (by rw[tsz_node];simp;lia) (by lia) (by lia) ?_ (exA.trans (ex3.trans (ex4.trans (ex_new hq)))) (hn4.new hq)
  rw[tdat,tdatL,tdatL,tdatL]
  exact isDt_new hq (.cons (by rw[IsDt]) (.cons (IsDt.mono (hn3.tups ex4) it) (.one it2)))
 have ew:wd=Str.ofString "same"\/wd=Str.ofString "under":=by
  rcases hcase with h | ⟨_,rfl | rfl | rfl⟩
  ·exact h
  ·exact absurd veq e2
  ·exact absurd veq e3
  ·exact absurd veq e1
 refine⟨_,rfl,_,rfl,_,rfl,_,_,rfl,rfl,_,_,rfl,dd-1,by lia,p,c,cs,k+1,arg_eq (by split <;> lia),hn2,fun t v H2 k' qg ts kk1 kk2 it ex3 hn3=>?_⟩
 refine⟨_,rfl,_,rfl,_,_,rfl,rfl,_,_,rfl,dd-1,by lia,p,c,cs,k',arg_eq (by split <;> lia),hn3,fun t2 v2 H3 k2 qg2 ts2 kk3 kk4 it2 ex4 hn4=>⟨(by show 3<=sizeLine;decide),fun q hq=>?_⟩⟩
 have hk:k2<=k+3\/(1<=d/\k2<=Ad d):=by
  by_cases z:1<=dd
  ·have k39:=hdk z
   have al:=Ad_lt (show dd-1<d by lia)
   lia
  ·lia
 refine fin (.node wd [] [t,t2]) _ _ k2 (QG.mono (show 2 * (dd-1)+1+1<=_ by lia) (.cmp ew qg qg2)) (by rw[tsz_node];simp;lia) (by lia) hk ?_ (exA.trans (ex3.trans (ex4.trans (ex_new hq)))) (hn4.new hq)
 rw[tdat,tdatL,tdatL,tdatL]
 exact isDt_new hq (.cons (by rw[IsDt]) (.cons (IsDt.mono (hn3.tups ex4) it) (.one it2)))
end
end K11
end
section
namespace K11
open PySem L2 Kn
theorem w_at {x:Int} (h0:0<=x) (h1:x<18):∃ wd:Str,atI (W18.map V.str) x=some (.str wd)/\wd∈W18/\(x<6->wd∈W6):=by
 have hl:W18.length=18:=rfl
 have hk:x.toNat<W18.length:=by lia
 have e:((x.toNat:Nat):Int)=x:=by lia
 have z:atI (W18.map V.str) ((x.toNat:Nat):Int)=some (.str W18[x.toNat]):=atI_nat (by rw[List.getElem?_map,List.getElem?_eq_getElem hk];rfl)
 rw[e]at z
 refine⟨_,z,List.getElem_mem hk,fun h6=>?_⟩
 have h6':x.toNat<W6.length:=by show x.toNat<6;lia
 have:W18[x.toNat]=W6[x.toNat]:=List.getElem_append_left h6'
 rw[this];exact List.getElem_mem h6'
theorem w_idx {j:Nat}{wd:Str} (h:(W18.map Dt.str)[j]?=some (.str wd)):(j<6->wd∈W6)/\(¬j<6->wd∈W12):=by
 rw[List.getElem?_map]at h
 obtain⟨u,hu,e⟩:=Option.map_eq_some_iff.mp h
 injection e with e
 subst e
 constructor
 ·intro h6
  have:(W6++W12)[j]?=W6[j]?:=List.getElem?_append_left (by exact h6)
  rw[show W18=W6++W12 from rfl,this]at hu
  exact List.mem_of_getElem? hu
 ·intro h6
  have:(W6++W12)[j]?=W12[j-W6.length]?:=List.getElem?_append_right (by show 6<=j;lia)
  rw[show W18=W6++W12 from rfl,this]at hu
  exact List.mem_of_getElem? hu
theorem tsz_row {ps:List (Str×Tr)}:tsz (.row ps)=1+tszR ps:=by rw[tsz]
theorem tszR_snoc {ps:List (Str×Tr)}{q:Str×Tr}:tszR (ps++[q])=tszR ps+(1+tsz q.2):=by rw[tszR_map,tszR_map,List.map_append,List.sum_append];simp
section
variable {P:Program}{w:World}{K:PySem.W.Frag}{mg:Str->Option Value}{base:Heap}{f f_draw f_flds f_many f_name f_num f_kind f_leaf f_any f_claim:Addr}{fd fd_draw fd_flds fd_many fd_name fd_num fd_kind fd_leaf fd_any fd_claim:FuncData}
theorem ZaS:FnScope ["hand","deep","words","word"] ["hand","deep"] (defScope (top 32)):=⟨rfl,rfl,rfl,by decide +kernel,rfl,by decide +kernel,by decide +kernel⟩
theorem ok_any {j d:Nat} (hj:7<=j) (T:Tx mg) (Zab:Df K mg "_law_any" (top 32) f fd ["hand","deep"]) (Zao:FnOk P w K mg base CX0 j f fd ["hand","deep"] (fun vs H Q E=>∃ e,e<d/\spAny e vs H Q E))
  (Zai:Df K mg "_law_any_claim" (top 30) f_claim fd_claim ["hand","deep"]) (ZaR:FnOk P w K mg base CX0 j f_claim fd_claim ["hand","deep"] (fun vs H Q E=>∃ e,e<d/\spClaim e vs H Q E))
  (Zaa:Df K mg "_law_draw" (top 24) f_draw fd_draw ["hand","limit"]) (Zad:FnOk P w K mg base CX0 1 f_draw fd_draw ["hand","limit"] spDraw)
  (Zaw:Df K mg "_law_any_leaf" (top 31) f_leaf fd_leaf ["hand","word"]) (ZaY:FnOk P w K mg base CX0 7 f_leaf fd_leaf ["hand","word"] spLeaf)
  (Zar:Df K mg "_law_number" (top 26) f_num fd_num ["hand"]) (ZaQ:FnOk P w K mg base CX0 2 f_num fd_num ["hand"] spNumber)
  (Zaf:Df K mg "_law_name" (top 25) f_name fd_name ["hand"]) (Zav:FnOk P w K mg base CX0 2 f_name fd_name ["hand"] spName)
  (Zam:Df K mg "_law_fields" (top 27) f_flds fd_flds ["hand"]) (ZaB:FnOk P w K mg base CX0 3 f_flds fd_flds ["hand"] (spNames 6))
  (Zan:Df K mg "_law_many_fields" (top 28) f_many fd_many ["hand"]) (ZaC:FnOk P w K mg base CX0 2 f_many fd_many ["hand"] (spNames 14)) :
  FnOk P w K mg base CX0 (j+1) f fd ["hand","deep"] (spAny d):=by
 refine Zab.fn.okH ZaS (fun vs H Q E h=>?_) (fun cdv A outer s H vs Q E hr h=>?_)
 ·obtain⟨p,c,cs,k,rfl,_⟩:=h;rfl
 obtain⟨p,c,cs,k,rfl,hn,fin⟩:=h
 have hu:=u110 hr
 have hu0:=u0 hr
 have hu1:=hu_of hr
 refine⟨_,(wss_cons (ws_asg (we_op op_plus (we_ix (ix_U hu1) (wv 0) we_str (fun _ _=>rfl)) we_int) (wg_sub (wv 0) we_str (set_U hu1)))
   (wss_cons (ws_if (wt_cmpR op_gt (we_ix (ix_U hu1) (wv 0) we_str (fun _ _=>rfl)) we_int (nomark _)) (wss_one (ws_set (i:=1) ZaS.nd rfl (Or.inr rfl) we_int)) wss_nil)
   (wss_cons (ws_set (i:=2) ZaS.nd rfl (Or.inl rfl) (we_lst (wa_consts rfl)))
   (wss_cons (ws_set (i:=2) ZaS.nd rfl (Or.inl rfl) (we_op op_plus (wv 2) (we_lst (wa_consts rfl))))
   (wss_cons (ws_set (i:=3) ZaS.nd rfl (Or.inl rfl) (we_ix (ix_U hu1) (wv 2) (we_call Zad (hr.mono (by lia)) rfl Zaa.mg Zaa.kp Zaa.b .nil pass0 (wa_cons (wv 0) (wa_cons (we_ix (ix_U hu1) (we_lst (wa_consts rfl)) (we_callTy call_int1 rfl T.z_int bt_int (wa_cons (we_cmpR op_gt (wv 1) we_int (nomark _)) wa_nil)) (fun _ _=>rfl)) wa_nil))) (fun _ _=>rfl)))
   (wss_cons (ws_if (wt_cmpR (op_ltU hu0) (we_bm PySem.F.plainAttrs_list PySem.F.slot_list_index PySem.F.type_list_index (mt_indexD hu) (wv 2) (wa_cons (wv 3) wa_nil)) we_int (nomark _)) (wss_one (ws_ret (we_call ZaY (hr.mono (by lia)) rfl Zaw.mg Zaw.kp Zaw.b .nil pass0 (wa_cons (wv 0) (wa_cons (wv 3) wa_nil))))) wss_nil)
   (wss_cons (ws_if (wt_pw (ww_and (wt_cmpR (op_eqU hu) (wv 3) we_str (nomark _)) (ww_and1 (wt_cmpR (op_eqU hu) (we_call Zad (hr.mono (by lia)) rfl Zaa.mg Zaa.kp Zaa.b .nil pass0 (wa_cons (wv 0) (wa_cons we_int wa_nil))) we_int (nomark _))))) (wss_one (ws_ret (we_tup (wa_cons we_str (wa_cons (we_callTy call_tuple_of rfl T.z_tuple bt_tuple (wa_cons (we_lc (Nt:=["field"]) (fr:=[("hand",0)]) (LcOk.of (sc:=defScope (top 32)) (N:=["hand","deep","words","word"]) rfl rfl (by decide +kernel)) rfl (wi_U (we_call ZaC (hr.mono (by lia)) rfl Zan.mg Zan.kp Zan.b .nil pass0 (wa_cons (wv 0) wa_nil))) (fun z=>wg_name (i:=0) (by show (["field","hand"]:List Str).Nodup;decide +kernel) rfl (Or.inl rfl) (.inr rfl)) (fun z=>tgt_name (by decide)) (fun z=>wif_nil) (fun z=>(we_tup (wa_cons (wv 0) (wa_cons (we_call Zao (hr.mono (by lia)) rfl Zab.mg Zab.kp Zab.b .nil pass0 (wa_cons (wv 1) (wa_cons we_int wa_nil))) wa_nil))))) wa_nil)) wa_nil))))) wss_nil)
   (wss_cons (ws_if (wt_cmpR (op_eqU hu) (wv 3) we_str (nomark _)) (wss_one (ws_ret (we_tup (wa_cons we_str (wa_cons (we_callTy call_tuple_of rfl T.z_tuple bt_tuple (wa_cons (we_lc (Nt:=["field"]) (fr:=[("hand",0),("deep",1)]) (LcOk.of (sc:=defScope (top 32)) (N:=["hand","deep","words","word"]) rfl rfl (by decide +kernel)) rfl (wi_U (we_call ZaB (hr.mono (by lia)) rfl Zam.mg Zam.kp Zam.b .nil pass0 (wa_cons (wv 0) wa_nil))) (fun z=>wg_name (i:=0) (by show (["field","hand","deep"]:List Str).Nodup;decide +kernel) rfl (Or.inl rfl) (.inr rfl)) (fun z=>tgt_name (by decide)) (fun z=>wif_nil) (fun z=>(we_tup (wa_cons (wv 0) (wa_cons (we_call Zao (hr.mono (by lia)) rfl Zab.mg Zab.kp Zab.b .nil pass0 (wa_cons (wv 1) (wa_cons (we_op op_sub (wv 2) we_int) wa_nil))) wa_nil))))) wa_nil)) wa_nil))))) wss_nil)
   (wss_cons (ws_if (wt_cmpR (op_eqU hu) (wv 3) we_str (nomark _)) (wss_one (ws_ret (we_tup (wa_cons we_str (wa_cons (we_call Zav (hr.mono (by lia)) rfl Zaf.mg Zaf.kp Zaf.b .nil pass0 (wa_cons (wv 0) wa_nil)) (wa_cons (we_call Zao (hr.mono (by lia)) rfl Zab.mg Zab.kp Zab.b .nil pass0 (wa_cons (wv 0) (wa_cons (we_op op_sub (wv 1) we_int) wa_nil))) wa_nil)))))) wss_nil)
   (wss_cons (ws_if (wt_cmpR (op_eqU hu) (wv 3) we_str (nomark _)) (wss_one (ws_ret (we_tup (wa_cons we_str (wa_cons (we_call ZaQ (hr.mono (by lia)) rfl Zar.mg Zar.kp Zar.b .nil pass0 (wa_cons (wv 0) wa_nil)) (wa_cons (we_call Zao (hr.mono (by lia)) rfl Zab.mg Zab.kp Zab.b .nil pass0 (wa_cons (wv 0) (wa_cons (we_op op_sub (wv 1) we_int) wa_nil))) wa_nil)))))) wss_nil)
   (wss_cons (ws_if (wt_cmpR (op_eqU hu) (wv 3) we_str (nomark _)) (wss_one (ws_ret (we_tup (wa_cons we_str (wa_cons (we_call Zao (hr.mono (by lia)) rfl Zab.mg Zab.kp Zab.b .nil pass0 (wa_cons (wv 0) (wa_cons (we_op op_sub (wv 1) we_int) wa_nil))) wa_nil))))) wss_nil)
   (wss_cons (ws_if (wt_cmpR (op_eqU hu) (wv 3) we_str (nomark _)) (wss_one (ws_ret (we_tup (wa_cons we_str (wa_cons (we_call ZaR (hr.mono (by lia)) rfl Zai.mg Zai.kp Zai.b .nil pass0 (wa_cons (wv 0) (wa_cons (we_op op_sub (wv 1) we_int) wa_nil))) (wa_cons (we_call Zao (hr.mono (by lia)) rfl Zab.mg Zab.kp Zab.b .nil pass0 (wa_cons (wv 0) (wa_cons (we_op op_sub (wv 1) we_int) wa_nil))) wa_nil)))))) wss_nil)
   (wss_cons (ws_if (wt_pw (ww_or (wt_cmpR (op_eqU hu) (wv 3) we_str (nomark _)) (ww_or1 (wt_cmpR (op_eqU hu) (wv 3) we_str (nomark _))))) (wss_one (ws_ret (we_tup (wa_cons (wv 3) (wa_cons (we_call Zav (hr.mono (by lia)) rfl Zaf.mg Zaf.kp Zaf.b .nil pass0 (wa_cons (wv 0) wa_nil)) (wa_cons (we_call Zao (hr.mono (by lia)) rfl Zab.mg Zab.kp Zab.b .nil pass0 (wa_cons (wv 0) (wa_cons (we_op op_sub (wv 1) we_int) wa_nil))) (wa_cons (we_call Zao (hr.mono (by lia)) rfl Zab.mg Zab.kp Zab.b .nil pass0 (wa_cons (wv 0) (wa_cons (we_op op_sub (wv 1) we_int) wa_nil))) wa_nil))))))) wss_nil)
   (wss_one (ws_ret (we_tup (wa_cons (wv 3) (wa_cons (we_call Zao (hr.mono (by lia)) rfl Zab.mg Zab.kp Zab.b .nil pass0 (wa_cons (wv 0) (wa_cons (we_op op_sub (wv 1) we_int) wa_nil))) (wa_cons (we_call Zao (hr.mono (by lia)) rfl Zab.mg Zab.kp Zab.b .nil pass0 (wa_cons (wv 0) (wa_cons (we_op op_sub (wv 1) we_int) wa_nil))) wa_nil))))))))))))))))))),?_⟩
 obtain⟨kvs,hat,hlen,hget,hput⟩:=hn_put hn
 refine⟨_,rfl,.inr (.inr (.inr ⟨p,_,rfl,hget,.inl ⟨_,_,rfl,rfl,_,rfl,.inr ⟨p,_,rfl,DPut.k (k:=kyK) hat hlen,?_⟩⟩⟩))⟩
 have hn1:=hput (k+1)
 have ex1:Ex p H (upd H p (.dK (putK kvs kyK (.int (k+1))))):=ex_upd
 refine⟨_,rfl,.inr (.inr (.inr ⟨p,_,rfl,hn_get hn1,_,_,rfl,rfl,_,rfl,?_⟩))⟩
 refine ite2 (fun e0=>?yes) (fun e0=>?no)
 case' yes=>obtain⟨dd,hdd,hdk,edd⟩:∃ dd:Nat,dd<=d/\(1<=dd->k<=39)/\(0:Int)=dd:=⟨0,by lia,by lia,rfl⟩
 case' no=>obtain⟨dd,hdd,hdk,edd⟩:∃ dd:Nat,dd<=d/\(1<=dd->k<=39)/\(d:Int)=dd:=⟨d,by lia,fun _=>by have:¬(k+1 > 40):=fun z=>e0 (decide_eq_true z);lia,rfl⟩
 case yes | no=>
 clear e0
 generalize upd H p (.dK (putK kvs kyK (.int (k+1))))=Ha at hn1 ex1 ⊢
 have sel:∀ x:Int,x=dd->∃ m:Nat,6<=m/\m<=18/\(dd=0->m=6)/\atI [V.int 6,.int 18] (if decide (x > 0)=true then 1 else 0)=some (.int m):=fun x ex=>by
  by_cases z:dd=0
  ·have:decide (x > 0)=false:=decide_eq_false (by lia)
   rw[this];exact⟨6,by decide,by decide,fun _=>rfl,rfl⟩
  ·have:decide (x > 0)=true:=decide_eq_true (by lia)
   rw[this];exact⟨18,by decide,by decide,fun q=>absurd q z,rfl⟩
 obtain⟨m,hm6,hm18,hmd,hsel⟩:=sel _ edd
 refine⟨(by show 14<=sizeLine;decide),fun l hl=>?_⟩
 generalize hX1:upd Ha l _=Hl
 have hnl:Hn Hl p c cs (some (k+1)):=hX1 ▸ hn1.new hl
 have exl:Ex p H Hl:=hX1 ▸ ex1.trans (ex_new hl)
 have hLl:Hl l=some (.lst [.str "num",.str "word",.str "var",.str "table",.str "none",.str "row",.str "fields",.str "at",.str "add",.str "mul",.str "one",.str "both",.str "times",.str "for"]):=by rw[<- hX1];exact upd_same
 clear hX1
 refine⟨_,rfl,(by show 4<=sizeLine;decide),fun l2 hl2=>?_⟩
 generalize hX2:upd Hl l2 _=Hm
 have hnm:Hn Hm p c cs (some (k+1)):=hX2 ▸ hnl.new hl2
 have exm:Ex p H Hm:=hX2 ▸ exl.trans (ex_new hl2)
 have hLm:Hm l=some (.lst [.str "num",.str "word",.str "var",.str "table",.str "none",.str "row",.str "fields",.str "at",.str "add",.str "mul",.str "one",.str "both",.str "times",.str "for"]):=by rw[<- hX2,upd_ne (ne_of_none hLl hl2)];exact hLl
 have hM2:Hm l2=some (.lst [.str "when",.str "let",.str "for",.str "when"]):=by rw[<- hX2];exact upd_same
 clear hX2
 refine .inr (.inr (.inl ⟨l,l2,_,_,rfl,rfl,hLm,hM2,(by show 14+4<=sizeLine;decide),fun l3 hl3=>?_⟩))
 generalize hX3:upd Hm l3 _=Hb
 have hnb:Hn Hb p c cs (some (k+1)):=hX3 ▸ hnm.new hl3
 have exb:Ex p H Hb:=hX3 ▸ exm.trans (ex_new hl3)
 have hL:Hb l3=some (.lst (W18.map V.str)):=by rw[<- hX3];exact upd_same
 have nl3:=hnm.ne hl3
 clear hX3
 refine⟨_,rfl,_,rfl,(by show 2<=sizeLine;decide),fun l4 hl4=>⟨_,rfl,_,_,rfl,rfl,.inr ⟨_,rfl,.inl ⟨l4,_,_,_,rfl,rfl,SqL.of upd_same,hsel,?_⟩⟩⟩⟩
 refine⟨p,c,cs,some (k+1),_,rfl,hnb.new hl4,by lia,Int.lt_of_le_of_lt (show _<=18 by lia) (by decide),fun x H1 x0 x1 ex2 hn2=>?_⟩
 have exA:Ex p H H1:=exb.trans ((ex_new hl4).trans ex2)
 have hL1:H1 l3=some (.lst (W18.map V.str)):=ex2 l3 _ nl3 (by rw[upd_ne (ne_of_none hL hl4)];exact hL)
 obtain⟨wd,hwd,hw18,hw6⟩:=w_at x0 (by lia)
 refine .inl ⟨l3,_,x,_,rfl,rfl,SqL.of hL1,hwd,?_⟩
 refine⟨_,rfl,.inl ⟨rfl,_,SqL.of hL1⟩,_,rfl,l3,_,_,.str wd,W18.map Dt.str,rfl,rfl,hL1,(by rw[IsDt]),isDts_strs W18,Nat.le_trans (depL_strs W18) (by decide),List.mem_map.mpr ⟨wd,hw18,rfl⟩,fun jx hjx=>.inl ⟨_,_,rfl,rfl,_,rfl,?_⟩⟩
 obtain⟨jlt,jge⟩:=w_idx hjx
 refine ite2 (fun e6=>?_) (fun e6=>?_)
 ·have h6:wd∈W6:=jlt (by have:=of_decide_eq_true e6;lia)
  refine⟨_,rfl,_,rfl,p,c,cs,some (k+1),wd,rfl,hn2,h6,fun t v H2 qg ts it ex5 hn5=>?_⟩
  exact fin t v H2 (k+1) (qg.mono (by lia)) (by lia) (by lia) (by lia) it (exA.trans ex5) hn5
 have h12:wd∈W12:=jge (by intro z;exact e6 (decide_eq_true (by lia)))
 have d1:1<=dd:=by
  by_cases z:dd=0
  ·have:=hmd z
   exact absurd h12 (w_apart wd (hw6 (by lia)))
  ·lia
 have k39:=hdk d1
 have al:=Ad_lt (show dd-1<d by lia)
 clear e6 hw6 hw18 hjx jlt jge
 refine⟨_,rfl,.inl ⟨rfl,_,rfl,?_⟩⟩
 refine ite2 (fun e1=>?_) (fun e1=>?_)
 ·refine⟨_,rfl,p,c,cs,some (k+1),_,rfl,hn2,by decide,by decide,fun y H2 y0 y1 ex5 hn6=>.inl ⟨rfl,_,rfl,?_⟩⟩
  have exC:Ex p H H2:=exA.trans ex5
  refine ite2 (fun e2=>?_) (fun e2=>?_)
  ·refine .inl ⟨_,rfl,p,c,cs,some (k+1),rfl,hn6,fun lf ys H3 hy14 hyn hys ex7 hn7 hlf hLf=>⟨lf,rfl,⟨_,SqL.of hLf⟩,?_⟩⟩
   obtain⟨e,he,hsz,ea,y14⟩:∃ e:Nat,e<d/\(1<=e->ys.length<=6)/\(0:Int)=e/\ys.length<=14:=⟨0,by lia,by lia,rfl,hy14⟩
   have exB:Ex p H H3:=exC.trans ex7
   have nlf:lf≠p:=fun z=>by
    obtain⟨_,_,_,_,a,_⟩:=hn7
    rw[z,a.at_]at hLf;cases hLf
   refine⟨fun i2 m2 zs H4=>m2+i2=ys.length/\Ex p H H4/\H4 lf=some (.lst (ys.map V.str))/\∃ (ps:List (Str×Tr)) (kk:Int),Hn H4 p c cs (some kk)/\ps.map (·.1)=ys.take i2/\IsDts H4 (tdatR ps) zs/\(∀ q∈ps,QG (2 * e+1) false q.2)/\(tszR ps:Int)<=320 * (kk-(k+1))+i2/\k+1<=kk/\(kk<=k+1+i2\/(1<=e/\kk<=Ad e+i2)),
    ⟨_,by rw[Nat.add_zero],exB,hLf,[],k+1,hn7,by simp,by rw[tdatR];exact .nil,(fun q hq=>(nomatch hq)),by rw[tszR];simp,by lia,by simp⟩,?_⟩
   rintro i2 m2 zs H4 ⟨hm2,ex4,hl4,ps,kk,hn4,eps,ips,hps,hts,hk1,hk2⟩
   have lps:ps.length=min i2 ys.length:=by have:=congrArg List.length eps;simpa using this
   have lzs:zs.length=ps.length:=by rw[ips.length,tdatR_map,List.length_map]
   refine⟨line1 (by lia),?_⟩
   by_cases hi2:i2<ys.length
   ·have hyi:(ys.map V.str)[i2]?=some (.str ys[i2]):=by simp [hi2]
    refine .inr ⟨⟨_,_,SqL.of hl4,hyi⟩,fun z x H5 hy2=>?_⟩
    obtain⟨rfl,hx5⟩:=hy2
    obtain rfl:V.str ys[i2]=x:=by have:=hx5 _ (SqL.of hl4);rw[hyi]at this;injection this
    refine gall ?_
    refine⟨_,rfl,_,rfl,e,he,p,c,cs,kk,arg_eq ea,hn4,fun t v H6 k' qg ts kk1 kk2 it ex6 hn6'=>⟨(by show 2<=sizeLine;decide),fun q hq=>?_⟩⟩
    have l6:=ex6 lf _ nlf hl4
    refine⟨m2-1,by lia,by lia,ex4.trans (ex6.trans (ex_new hq)),by rw[upd_ne (ne_of_none l6 hq)];exact l6,ps++[(ys[i2],t)],k',hn6'.new hq,?_,?_,fun q' hq'=>?_,?_,by lia,by lia⟩
    ·rw[List.map_append,eps,List.take_add_one,List.getElem?_eq_getElem hi2];rfl
    ·rw[tdatR_map,List.map_append,<- tdatR_map]
     exact (IsDts.mono ((hn4.tups ex6).trans (Tups.new hq _)) ips).append (.one (isDt_new hq (.cons (by rw[IsDt]) (.one it))))
    ·rcases List.mem_append.mp hq' with h | h
     ·exact hps q' h
     ·rw[List.mem_singleton.mp h];exact qg
    ·rw[tszR_snoc]
     simp only[Int.natCast_add]
     lia
   ·refine .inl ⟨⟨_,SqL.of hl4,by rw[List.length_map];lia⟩,fun l9 hl9=>?_⟩
    have i2y:i2=ys.length:=by lia
    rw[List.take_of_length_le (by lia)]at eps
    refine⟨l9,_,rfl,.inl ⟨SqL.of upd_same,fun t1 ht1=>⟨(by show 2<=sizeLine;decide),fun t2 ht2=>?_⟩⟩⟩
    have ip1:IsDt (upd (upd H4 l9 (.lst zs)) t1 (.tup zs)) (.tup (tdatR ps)) (.ref t1):=isDt_new ht1 (IsDts.mono (Tups.new hl9 _) ips)
    refine fin (.row ps) _ _ kk (QG.mono (show 2 * e+1+1<=_ by lia) (QG.row (by lia) (fun q hq=>?_) (by rw[eps];exact hys) hps)) (by rw[tsz_row];simp only[Int.natCast_add];lia) (by lia) ?_ ?_ (ex4.trans ((ex_new hl9).trans ((ex_new ht1).trans (ex_new ht2)))) (((hn4.new hl9).new ht1).new ht2)
    ·have:q.1∈ys:=by rw[<- eps];exact List.mem_map.mpr ⟨q,hq,rfl⟩
     exact hyn _ this
    ·have a0:=Ad_lt (show 0<d by lia)
     rcases hk2 with z | ⟨z1,z2⟩
     ·right;lia
     ·have:=hsz z1
      have al:=Ad_lt he
      right;lia
    ·rw[tdat]
     exact isDt_new ht2 (.cons (by rw[IsDt]) (.one ip1))
  ·refine⟨_,rfl,.inl ⟨rfl,_,rfl,iteP e1 ?_⟩⟩
   refine .inl ⟨_,rfl,p,c,cs,some (k+1),rfl,hn6,fun lf ys H3 hy14 hyn hys ex7 hn7 hlf hLf=>⟨lf,rfl,⟨_,SqL.of hLf⟩,?_⟩⟩
   obtain⟨e,he,hsz,ea,y14⟩:∃ e:Nat,e<d/\(1<=e->ys.length<=6)/\(dd:Int)-1=e/\ys.length<=14:=⟨dd-1,by lia,fun _=>hy14,by lia,by lia⟩
   have exB:Ex p H H3:=exC.trans ex7
   have nlf:lf≠p:=fun z=>by
    obtain⟨_,_,_,_,a,_⟩:=hn7
    rw[z,a.at_]at hLf;cases hLf
   refine⟨fun i2 m2 zs H4=>m2+i2=ys.length/\Ex p H H4/\H4 lf=some (.lst (ys.map V.str))/\∃ (ps:List (Str×Tr)) (kk:Int),Hn H4 p c cs (some kk)/\ps.map (·.1)=ys.take i2/\IsDts H4 (tdatR ps) zs/\(∀ q∈ps,QG (2 * e+1) false q.2)/\(tszR ps:Int)<=320 * (kk-(k+1))+i2/\k+1<=kk/\(kk<=k+1+i2\/(1<=e/\kk<=Ad e+i2)),
    ⟨_,by rw[Nat.add_zero],exB,hLf,[],k+1,hn7,by simp,by rw[tdatR];exact .nil,(fun q hq=>(nomatch hq)),by rw[tszR];simp,by lia,by simp⟩,?_⟩
   rintro i2 m2 zs H4 ⟨hm2,ex4,hl4,ps,kk,hn4,eps,ips,hps,hts,hk1,hk2⟩
   have lps:ps.length=min i2 ys.length:=by have:=congrArg List.length eps;simpa using this
   have lzs:zs.length=ps.length:=by rw[ips.length,tdatR_map,List.length_map]
   refine⟨line1 (by lia),?_⟩
   by_cases hi2:i2<ys.length
   ·have hyi:(ys.map V.str)[i2]?=some (.str ys[i2]):=by simp [hi2]
    refine .inr ⟨⟨_,_,SqL.of hl4,hyi⟩,fun z x H5 hy2=>?_⟩
    obtain⟨rfl,hx5⟩:=hy2
    obtain rfl:V.str ys[i2]=x:=by have:=hx5 _ (SqL.of hl4);rw[hyi]at this;injection this
    refine gall ?_
    refine⟨_,rfl,_,rfl,_,rfl,_,_,rfl,rfl,e,he,p,c,cs,kk,arg_eq (by lia),hn4,fun t v H6 k' qg ts kk1 kk2 it ex6 hn6'=>⟨(by show 2<=sizeLine;decide),fun q hq=>?_⟩⟩
    have l6:=ex6 lf _ nlf hl4
    refine⟨m2-1,by lia,by lia,ex4.trans (ex6.trans (ex_new hq)),by rw[upd_ne (ne_of_none l6 hq)];exact l6,ps++[(ys[i2],t)],k',hn6'.new hq,?_,?_,fun q' hq'=>?_,?_,by lia,by lia⟩
    ·rw[List.map_append,eps,List.take_add_one,List.getElem?_eq_getElem hi2];rfl
    ·rw[tdatR_map,List.map_append,<- tdatR_map]
     exact (IsDts.mono ((hn4.tups ex6).trans (Tups.new hq _)) ips).append (.one (isDt_new hq (.cons (by rw[IsDt]) (.one it))))
    ·rcases List.mem_append.mp hq' with h | h
     ·exact hps q' h
     ·rw[List.mem_singleton.mp h];exact qg
    ·rw[tszR_snoc]
     simp only[Int.natCast_add]
     lia
   ·refine .inl ⟨⟨_,SqL.of hl4,by rw[List.length_map];lia⟩,fun l9 hl9=>?_⟩
    have i2y:i2=ys.length:=by lia
    rw[List.take_of_length_le (by lia)]at eps
    refine⟨l9,_,rfl,.inl ⟨SqL.of upd_same,fun t1 ht1=>⟨(by show 2<=sizeLine;decide),fun t2 ht2=>?_⟩⟩⟩
    have ip1:IsDt (upd (upd H4 l9 (.lst zs)) t1 (.tup zs)) (.tup (tdatR ps)) (.ref t1):=isDt_new ht1 (IsDts.mono (Tups.new hl9 _) ips)
    refine fin (.row ps) _ _ kk (QG.mono (show 2 * e+1+1<=_ by lia) (QG.row (by lia) (fun q hq=>?_) (by rw[eps];exact hys) hps)) (by rw[tsz_row];simp only[Int.natCast_add];lia) (by lia) ?_ ?_ (ex4.trans ((ex_new hl9).trans ((ex_new ht1).trans (ex_new ht2)))) (((hn4.new hl9).new ht1).new ht2)
    ·have:q.1∈ys:=by rw[<- eps];exact List.mem_map.mpr ⟨q,hq,rfl⟩
     exact hyn _ this
    ·have a0:=Ad_lt (show 0<d by lia)
     rcases hk2 with z | ⟨z1,z2⟩
     ·right;lia
     ·have:=hsz z1
      have al:=Ad_lt he
      right;lia
    ·rw[tdat]
     exact isDt_new ht2 (.cons (by rw[IsDt]) (.one ip1))
 refine⟨_,rfl,.inl ⟨rfl,_,rfl,iteN e1 ?_⟩⟩
 refine⟨_,rfl,.inl ⟨rfl,_,rfl,?_⟩⟩
 refine ite2 (fun e2=>?_) (fun e2=>?_)
 ·refine⟨_,rfl,p,c,cs,some (k+1),rfl,hn2,fun x H2 hx ex5 hn5=>?_⟩
  refine⟨_,rfl,_,rfl,_,_,rfl,rfl,dd-1,by lia,p,c,cs,k+1,arg_eq (by lia),hn5,fun t v H3 k' qg ts kk1 kk2 it ex6 hn6=>⟨(by show 3<=sizeLine;decide),fun q hq=>?_⟩⟩
  refine fin (.node (Str.ofString "at") [.txt x] [t]) _ _ k' (QG.mono (show 2 * (dd-1)+1+1<=_ by lia) (.at hx qg)) (by rw[tsz_node];simp;lia) (by lia) (by lia) ?_ (exA.trans (ex5.trans (ex6.trans (ex_new hq)))) (hn6.new hq)
  rw[tdat,tdatL,tdatL]
  exact isDt_new hq (.cons (by rw[IsDt]) (.cons (by show IsDt _ (.str x) _;rw[IsDt]) (.one it)))
 refine⟨_,rfl,.inl ⟨rfl,_,rfl,?_⟩⟩
 refine ite2 (fun e3=>?_) (fun e3=>?_)
 ·refine⟨_,rfl,p,c,cs,some (k+1),rfl,hn2,fun x H2 hx ex5 hn5=>?_⟩
  refine⟨_,rfl,_,rfl,_,_,rfl,rfl,dd-1,by lia,p,c,cs,k+1,arg_eq (by lia),hn5,fun t v H3 k' qg ts kk1 kk2 it ex6 hn6=>⟨(by show 3<=sizeLine;decide),fun q hq=>?_⟩⟩
  refine fin (.node (Str.ofString "times") [.int x] [t]) _ _ k' (QG.mono (show 2 * (dd-1)+1+1<=_ by lia) (.times hx qg)) (by rw[tsz_node];simp;lia) (by lia) (by lia) ?_ (exA.trans (ex5.trans (ex6.trans (ex_new hq)))) (hn6.new hq)
  rw[tdat,tdatL,tdatL]
  exact isDt_new hq (.cons (by rw[IsDt]) (.cons (by show IsDt _ (.int x) _;rw[IsDt]) (.one it)))
 refine⟨_,rfl,.inl ⟨rfl,_,rfl,?_⟩⟩
 refine ite2 (fun e4=>?_) (fun e4=>?_)
 ·refine⟨_,rfl,_,rfl,_,_,rfl,rfl,dd-1,by lia,p,c,cs,k+1,arg_eq (by lia),hn2,fun t v H3 k' qg ts kk1 kk2 it ex6 hn6=>⟨(by show 2<=sizeLine;decide),fun q hq=>?_⟩⟩
  refine fin (.node (Str.ofString "one") [] [t]) _ _ k' (QG.mono (show 2 * (dd-1)+1+1<=_ by lia) (.one qg)) (by rw[tsz_node];simp;lia) (by lia) (by lia) ?_ (exA.trans (ex6.trans (ex_new hq))) (hn6.new hq)
  rw[tdat,tdatL,tdatL]
  exact isDt_new hq (.cons (by rw[IsDt]) (.one it))
 refine⟨_,rfl,.inl ⟨rfl,_,rfl,?_⟩⟩
 refine ite2 (fun e5=>?_) (fun e5=>?_)
 ·refine⟨_,rfl,_,rfl,_,_,rfl,rfl,dd-1,by lia,p,c,cs,k+1,arg_eq (by lia),hn2,fun t v H3 k' qg ts kk1 kk2 it ex6 hn6=>?_⟩
  refine⟨_,rfl,_,rfl,_,_,rfl,rfl,dd-1,by lia,p,c,cs,k',arg_eq (by lia),hn6,fun t2 v2 H4 k2 qg2 ts2 kk3 kk4 it2 ex7 hn7=>⟨(by show 3<=sizeLine;decide),fun q hq=>?_⟩⟩
  refine fin (.node (Str.ofString "when") [] [t,t2]) _ _ k2 (QG.mono (show 2 * (dd-1)+2+1<=_ by lia) (.when qg (qg2.mono (by lia)))) (by rw[tsz_node];simp;lia) (by lia) (by lia) ?_ (exA.trans (ex6.trans (ex7.trans (ex_new hq)))) (hn7.new hq)
  rw[tdat,tdatL,tdatL,tdatL]
  exact isDt_new hq (.cons (by rw[IsDt]) (.cons (IsDt.mono (hn6.tups ex7) it) (.one it2)))
 have bnd:∀ (wf:wd=Str.ofString "for"\/wd=Str.ofString "let") (x:Str) (t t2:Tr) (v v2:V) (k' k2:Int) (H3 H4 H5:Hp) (q:Addr),nmOk x->QG (2 * (dd-1)+1) false t->(tsz t:Int)<=320 * (k'-(k+1))->k+1+1<=k'->(k'<=k+1+1\/(1<=dd-1/\k'<=Ad (dd-1)))->IsDt H4 (tdat t) v->QG (2 * (dd-1)+1) false t2->(tsz t2:Int)<=320 * (k2-k')->k'+1<=k2->(k2<=k'+1\/(1<=dd-1/\k2<=Ad (dd-1)))->IsDt H5 (tdat t2) v2 ->
   Hn H4 p c cs (some k')->Ex p H H5->Ex p H4 H5->Hn H5 p c cs (some k2)->H5 q=none->Q (.ref q) (upd H5 q (.tup [.str wd,.str x,v,v2])):=by
  intro wf x t t2 v v2 k' k2 H3 H4 H5 q hx qg ts kk1 kk2 it qg2 ts2 kk3 kk4 it2 hn4 exH ex45 hn5 hq
  refine fin (.node wd [.txt x] [t,t2]) _ _ k2 (QG.mono (show 2 * (dd-1)+1+1<=_ by lia) (.bind wf hx qg qg2)) (by rw[tsz_node];simp;lia) (by lia) (by lia) ?_ (exH.trans (ex_new hq)) (hn5.new hq)
  rw[tdat,tdatL,tdatL,tdatL]
  exact isDt_new hq (.cons (by rw[IsDt]) (.cons (by show IsDt _ (.str x) _;rw[IsDt]) (.cons (IsDt.mono (hn4.tups ex45) it) (.one it2))))
 refine⟨_,rfl,.inl ⟨rfl,_,rfl,?_⟩⟩
 refine ite2 (fun e7=>iteT ?_) (fun e7=>?_)
 ·refine⟨_,rfl,_,rfl,p,c,cs,some (k+1),rfl,hn2,fun x H2 hx ex5 hn5=>?_⟩
  refine⟨_,rfl,_,rfl,_,_,rfl,rfl,dd-1,by lia,p,c,cs,k+1,arg_eq (by lia),hn5,fun t v H3 k' qg ts kk1 kk2 it ex6 hn6=>?_⟩
  refine⟨_,rfl,_,rfl,_,_,rfl,rfl,dd-1,by lia,p,c,cs,k',arg_eq (by lia),hn6,fun t2 v2 H4 k2 qg2 ts2 kk3 kk4 it2 ex7 hn7=>⟨(by show 4<=sizeLine;decide),fun q hq=>?_⟩⟩
  exact bnd (.inl (vs_eq e7)) x t t2 v v2 k' k2 H3 H3 H4 q hx qg ts kk1 kk2 it qg2 ts2 kk3 kk4 it2 hn6 (exA.trans (ex5.trans (ex6.trans ex7))) ex7 hn7 hq
 refine⟨_,rfl,.inl ⟨rfl,_,rfl,?_⟩⟩
 refine ite2 (fun e8=>?_) (fun e8=>?_)
 ·refine⟨_,rfl,_,rfl,p,c,cs,some (k+1),rfl,hn2,fun x H2 hx ex5 hn5=>?_⟩
  refine⟨_,rfl,_,rfl,_,_,rfl,rfl,dd-1,by lia,p,c,cs,k+1,arg_eq (by lia),hn5,fun t v H3 k' qg ts kk1 kk2 it ex6 hn6=>?_⟩
  refine⟨_,rfl,_,rfl,_,_,rfl,rfl,dd-1,by lia,p,c,cs,k',arg_eq (by lia),hn6,fun t2 v2 H4 k2 qg2 ts2 kk3 kk4 it2 ex7 hn7=>⟨(by show 4<=sizeLine;decide),fun q hq=>?_⟩⟩
  exact bnd (.inr (vs_eq e8)) x t t2 v v2 k' k2 H3 H3 H4 q hx qg ts kk1 kk2 it qg2 ts2 kk3 kk4 it2 hn6 (exA.trans (ex5.trans (ex6.trans ex7))) ex7 hn7 hq
 have ew:wd=Str.ofString "add"\/wd=Str.ofString "mul"\/wd=Str.ofString "both":=by
  unfold W12 at h12
  simp only[List.mem_cons,List.not_mem_nil,or_false]at h12
  rcases h12 with rfl | rfl | rfl | rfl | rfl | rfl | rfl | rfl | rfl | rfl | rfl | rfl
  ·exact absurd veq e1
  ·exact absurd veq e2
  ·exact .inl rfl
  ·exact .inr (.inl rfl)
  ·exact absurd veq e4
  ·exact .inr (.inr rfl)
  ·exact absurd veq e3
  ·exact absurd veq e7
  ·exact absurd veq e5
  ·exact absurd veq e8
  ·exact absurd veq e7
  ·exact absurd veq e5
 refine⟨_,rfl,_,rfl,_,rfl,_,_,rfl,rfl,dd-1,by lia,p,c,cs,k+1,arg_eq (by lia),hn2,fun t v H3 k' qg ts kk1 kk2 it ex6 hn6=>?_⟩
 refine⟨_,rfl,_,rfl,_,_,rfl,rfl,dd-1,by lia,p,c,cs,k',arg_eq (by lia),hn6,fun t2 v2 H4 k2 qg2 ts2 kk3 kk4 it2 ex7 hn7=>⟨(by show 3<=sizeLine;decide),fun q hq=>?_⟩⟩
 refine fin (.node wd [] [t,t2]) _ _ k2 (QG.mono (show 2 * (dd-1)+1+1<=_ by lia) (.two ew qg qg2)) (by rw[tsz_node];simp;lia) (by lia) (by lia) ?_ (exA.trans (ex6.trans (ex7.trans (ex_new hq)))) (hn7.new hq)
 rw[tdat,tdatL,tdatL,tdatL]
 exact isDt_new hq (.cons (by rw[IsDt]) (.cons (IsDt.mono (hn6.tups ex7) it) (.one it2)))
theorem any_all (T:Tx mg) (Zab:Df K mg "_law_any" (top 32) f_any fd_any ["hand","deep"]) (Zai:Df K mg "_law_any_claim" (top 30) f_claim fd_claim ["hand","deep"])
  (Zaa:Df K mg "_law_draw" (top 24) f_draw fd_draw ["hand","limit"]) (Zad:FnOk P w K mg base CX0 1 f_draw fd_draw ["hand","limit"] spDraw)
  (Zaw:Df K mg "_law_any_leaf" (top 31) f_leaf fd_leaf ["hand","word"]) (ZaY:FnOk P w K mg base CX0 7 f_leaf fd_leaf ["hand","word"] spLeaf)
  (Zar:Df K mg "_law_number" (top 26) f_num fd_num ["hand"]) (ZaQ:FnOk P w K mg base CX0 2 f_num fd_num ["hand"] spNumber)
  (Zaf:Df K mg "_law_name" (top 25) f_name fd_name ["hand"]) (Zav:FnOk P w K mg base CX0 2 f_name fd_name ["hand"] spName)
  (Zam:Df K mg "_law_fields" (top 27) f_flds fd_flds ["hand"]) (ZaB:FnOk P w K mg base CX0 3 f_flds fd_flds ["hand"] (spNames 6))
  (Zan:Df K mg "_law_many_fields" (top 28) f_many fd_many ["hand"]) (ZaC:FnOk P w K mg base CX0 2 f_many fd_many ["hand"] (spNames 14)) :
  ∀ d:Nat,FnOk P w K mg base CX0 (8+2 * d) f_any fd_any ["hand","deep"] (spAny d)/\FnOk P w K mg base CX0 (9+2 * d) f_claim fd_claim ["hand","deep"] (spClaim d):=fun d=>by
 induction d using Nat.strongRecOn with
 | ind d ih=>
  have ha:FnOk P w K mg base CX0 (7+2 * d+1) f_any fd_any ["hand","deep"] (spAny d):=ok_any (j:=7+2 * d) (by lia) T Zab (fnOk_lt fun e he=>(ih e he).1.mono (by lia)) Zai (fnOk_lt fun e he=>(ih e he).2.mono (by lia)) Zaa Zad Zaw ZaY Zar ZaQ Zaf Zav Zam ZaB Zan ZaC
  have hc:FnOk P w K mg base CX0 (8+2 * d+1) f_claim fd_claim ["hand","deep"] (spClaim d):=ok_claim (j:=8+2 * d) (by lia) T Zai (fnOk_lt fun e he=>(ih e he).2.mono (by lia)) Zaa Zad Zab (fnOk_lt fun e he=>by
   by_cases z:e<d
   ·exact (ih e z).1.mono (by lia)
   ·have:e=d:=by lia
    subst this
    exact ha.mono (by lia))
  exact⟨ha.mono (by lia),hc.mono (by lia)⟩
end
end K11
end
section
namespace K11
open PySem L2 Kn
theorem tall {σ:St} {H:Hp}{A B:Hp->Prop} (h:A H):tAll σ H fun b H3=>if b=true then A H3 else B H3:=by
 show (if true=true then A H else B H)
 rw[if_pos rfl];exact h
theorem log_lt {i:Int} (h:i.natAbs<10 ^ 34):i.natAbs.log2<1920:=by
 by_cases z:i.natAbs=0
 ·rw[z];decide
 ·exact Nat.lt_of_lt_of_le ((Nat.log2_lt z).mpr (Nat.lt_of_lt_of_le h (show 10 ^ 34<=2 ^ 120 by decide))) (by decide)
def els (w:Str) (as:List At) (ps:List Tr):List (At ⊕ Tr):=.inl (.txt w)::(as.map .inl++ps.map .inr)
theorem els_ok {w:Str}{as:List At}{ps:List Tr} (h:TOk (.node w as ps)):∀ e∈els w as ps,(∀ a,e=.inl a->atOk a)/\(∀ t,e=.inr t->TOk t):=by
 rw[TOk]at h
 intro e he
 unfold els at he
 rcases List.mem_cons.mp he with rfl | he
 ·exact⟨fun a z=>by injection z with z;rw[<- z];exact h.2.1,fun t z=>nomatch z⟩
 ·rcases List.mem_append.mp he with he | he
  ·obtain⟨a,ha,rfl⟩:=List.mem_map.mp he
   exact⟨fun b z=>by injection z with z;rw[<- z];exact h.2.2.2.2.1 a ha,fun t z=>nomatch z⟩
  ·obtain⟨t,ht,rfl⟩:=List.mem_map.mp he
   exact⟨fun b z=>(nomatch z),fun u z=>by injection z with z;rw[<- z];exact (TOkL_mem.mp h.2.2.2.2.2) t ht⟩
def elD:At ⊕ Tr->Dt
 | .inl a=>atD a
 | .inr t=>tdat t
theorem tdat_els (w:Str) (as:List At) (ps:List Tr):tdat (.node w as ps)=.tup ((els w as ps).map elD):=by
 rw[tdat,els,List.map_cons,List.map_append,List.map_map,List.map_map,tdatL_map];rfl
theorem els_len {w:Str}{as:List At}{ps:List Tr} (h:TOk (.node w as ps)):(els w as ps).length<=4:=by
 rw[TOk]at h
 unfold els
 simp only[List.length_cons,List.length_append,List.length_map]
 lia
theorem tr_tup {H:Hp}{t:Tr}{u:V} (h:IsDt H (tdat t) u):∃ a xs,u=.ref a/\H a=some (.tup xs):=by
 cases t with
 | row ps=>
  rw[tdat,IsDt]at h
  obtain⟨a,xs,e1,e2,_⟩:=h
  exact⟨a,xs,e1,e2⟩
 | node w as ps=>
  rw[tdat,IsDt]at h
  obtain⟨a,xs,e1,e2,_⟩:=h
  exact⟨a,xs,e1,e2⟩
theorem tr_row {H:Hp}{ps:List (Str×Tr)}{v:V} (h:IsDt H (tdat (.row ps)) v):∃ a b ys,v=.ref a/\H a=some (.tup [.str "row",.ref b])/\H b=some (.tup ys)/\IsDts H (tdatR ps) ys:=by
 rw[tdat,IsDt]at h
 obtain⟨a,xs,rfl,h1,h2⟩:=h
 rw[IsDts]at h2
 obtain⟨y1,r1,rfl,h3,h4⟩:=h2
 rw[IsDts]at h4
 obtain⟨y2,r2,rfl,h5,h6⟩:=h4
 rw[IsDts]at h6
 subst h6
 rw[IsDt]at h3
 subst h3
 rw[IsDt]at h5
 obtain⟨b,ys,rfl,h7,h8⟩:=h5
 exact⟨a,b,ys,rfl,h1,h7,h8⟩
theorem tr_item {H:Hp}{ps:List (Str×Tr)}{ys:List V}{i:Nat}{y:V} (h:IsDts H (tdatR ps) ys) (e:ys[i]?=some y):∃ p c u,ps[i]?=some p/\y=.ref c/\H c=some (.tup [.str p.1,u])/\IsDt H (tdat p.2) u:=by
 have hl:=h.length
 have hi:i<ys.length:=(List.getElem?_eq_some_iff.mp e).1
 have hp:i<ps.length:=by rw[tdatR_map,List.length_map]at hl;lia
 obtain⟨z,e1,d1⟩:=h.get (i:=i) (d:=.tup [.str ps[i].1,tdat ps[i].2]) (by rw[tdatR_map,List.getElem?_map,List.getElem?_eq_getElem hp];rfl)
 rw[e]at e1
 cases e1
 rw[IsDt]at d1
 obtain⟨c,xs,rfl,h1,h2⟩:=d1
 rw[IsDts]at h2
 obtain⟨y1,r1,rfl,h3,h4⟩:=h2
 rw[IsDts]at h4
 obtain⟨y2,r2,rfl,h5,h6⟩:=h4
 rw[IsDts]at h6
 subst h6
 rw[IsDt]at h3
 subst h3
 exact⟨ps[i],c,y2,List.getElem?_eq_getElem hp,rfl,h1,h5⟩
section
variable {P:Program}{w:World}{K:PySem.W.Frag}{mg:Str->Option Value}{base:Heap}{f f_draw f_any f_parts f_unf:Addr}{fd fd_draw fd_any fd_parts fd_unf:FuncData}
theorem Zbk:FnScope ["hand"] ["hand"] (defScope (top 33)):=⟨rfl,rfl,rfl,by decide +kernel,rfl,by decide +kernel,by decide +kernel⟩
def spDrawn:Sp:=fun vs H Q _=>∃ (p c:Addr) (cs:List Int) (kn:Option Int),vs=[.ref p]/\Hn H p c cs kn /\
 ∀ (t:Tr) (v:V) (H':Hp) (k':Int),QG 15 false t->tsz t<=31000->IsDt H' (tdat t) v->Ex p H H'->Hn H' p c cs (some k')->Q v H'
theorem ok_drawn (T:Tx mg) (D:Df K mg "_law_drawn" (top 33) f fd ["hand"]) (Zaa:Df K mg "_law_draw" (top 24) f_draw fd_draw ["hand","limit"]) (Zad:FnOk P w K mg base CX0 1 f_draw fd_draw ["hand","limit"] spDraw)
  (Zab:Df K mg "_law_any" (top 32) f_any fd_any ["hand","deep"]) (Zao:FnOk P w K mg base CX0 22 f_any fd_any ["hand","deep"] (fun vs H Q E=>∃ e,e<8/\spAny e vs H Q E)) :
  FnOk P w K mg base CX0 23 f fd ["hand"] spDrawn:=by
 refine D.fn.okH (k:=22) Zbk (fun vs H Q E h=>?_) (fun cdv A outer s H vs Q E hr h=>?_)
 ·obtain⟨p,c,cs,kn,rfl,_⟩:=h;rfl
 obtain⟨p,c,cs,kn,rfl,⟨n,r,t,kvs,h0,hk0⟩,fin⟩:=h
 have hu:=u110 hr
 have hu0:=u0 hr
 have hu1:=hu_of hr
 refine⟨_,(wss_cons (ws_asg we_int (wg_sub (wv 0) we_str (set_U hu1)))
   (wss_one (ws_ret (we_call Zao (hr.mono (by lia)) rfl Zab.mg Zab.kp Zab.b .nil pass0 (wa_cons (wv 0) (wa_cons (we_call Zad (hr.mono (by lia)) rfl Zaa.mg Zaa.kp Zaa.b .nil pass0 (wa_cons (wv 0) (wa_cons we_int wa_nil))) wa_nil)))))),?_⟩
 have h1:=h0.putK' 0 (by
  cases kn with
  | none=>exact .inr (hk0 rfl)
  | some _=>exact .inl (by simp))
 have hn1:Hn (upd H p (.dK (putK kvs kyK (.int 0)))) p c cs (some 0):=⟨_,_,_,_,h1,fun z=>nomatch z⟩
 refine⟨_,rfl,.inr ⟨p,_,rfl,DPut.k (k:=kyK) h0.at_ (pl h0),?_⟩⟩
 refine⟨_,rfl,_,rfl,p,c,cs,some 0,_,rfl,hn1,by decide,by decide,fun x H1 x0 x1 ex1 hn2=>?_⟩
 refine⟨x.toNat,by lia,p,c,cs,0,arg_eq (by lia),hn2,fun t v H2 k' qg ts kk1 kk2 it ex2 hn3=>?_⟩
 have al:=Ad_le (show x.toNat<=7 by lia)
 have a7:Ad 7=96:=rfl
 exact fin t v H2 k' (qg.mono (by lia)) (by lia) it ((ex_upd).trans (ex1.trans ex2)) hn3
end
end K11
end
section
namespace K11
open PySem L2 Kn
def atV:At->V
 | .int i=>.int i
 | .txt s=>.str s
theorem isDt_at {H:Hp}{a:At}{u:V} (h:IsDt H (atD a) u):u=atV a:=by
 cases a with
 | int i=>rw[atD,IsDt]at h;exact h
 | txt s=>rw[atD,IsDt]at h;exact h
theorem isDts_ats {H:Hp}:∀ (as:List At) (ds:List Dt) (xs:List V),IsDts H (as.map atD++ds) xs->∃ zs,xs=as.map atV++zs/\IsDts H ds zs
 | [],ds,xs,h=>⟨xs,rfl,h⟩
 | a::as,ds,xs,h=>by
  rw[List.map_cons,List.cons_append,IsDts]at h
  obtain⟨y,r,rfl,h1,h2⟩:=h
  obtain⟨zs,e,h3⟩:=isDts_ats as ds r h2
  exact⟨zs,by rw[isDt_at h1,e];rfl,h3⟩
theorem tr_node {H:Hp}{w:Str}{as:List At}{ps:List Tr}{v:V} (h:IsDt H (tdat (.node w as ps)) v):∃ a zs,v=.ref a/\H a=some (.tup (.str w::(as.map atV++zs)))/\IsDts H (ps.map tdat) zs:=by
 rw[tdat,IsDt]at h
 obtain⟨a,xs,rfl,h1,h2⟩:=h
 rw[IsDts]at h2
 obtain⟨y1,r1,rfl,h3,h4⟩:=h2
 rw[IsDt]at h3
 subst h3
 obtain⟨zs,rfl,h5⟩:=isDts_ats as _ r1 h4
 rw[tdatL_map]at h5
 exact⟨a,zs,rfl,h1,h5⟩
theorem isDts_one {H:Hp}{d:Dt}{zs:List V} (h:IsDts H [d] zs):∃ u,zs=[u]/\IsDt H d u:=by
 rw[IsDts]at h
 obtain⟨y,r,rfl,h1,h2⟩:=h
 rw[IsDts]at h2
 subst h2
 exact⟨y,rfl,h1⟩
theorem isDts_nil' {H:Hp}{zs:List V} (h:IsDts H [] zs):zs=[]:=by rw[IsDts]at h;exact h
theorem same_back {H H':Hp} (s:Same H H') {l:Addr} (h:H' l=none):H l=none:=by
 cases e:H l with
 | none=>rfl
 | some o=>rw[s _ _ e]at h;cases h
theorem pre_len {α:Type} {g:α->List Str} (l:List α) (i:Nat):((l.take i).flatMap g).length<=(l.flatMap g).length:=by
 have e:(l.take i).flatMap g++(l.drop i).flatMap g=l.flatMap g:=by rw[<- List.flatMap_append,List.take_append_drop]
 rw[<- e,List.length_append];lia
theorem mem_sum {l:List Nat}{n:Nat} (h:n∈l):n<=l.sum:=by
 induction l with
 | nil=>cases h
 | cons m l ih=>
  rw[List.sum_cons]
  rcases List.mem_cons.mp h with h | h
  ·lia
  ·have:=ih h;lia
theorem tsz_part {ps:List (Str×Tr)}{q:Str×Tr} (h:q∈ps):tsz q.2<=tsz (.row ps):=by
 rw[tsz,tszR_map]
 have:1+tsz q.2<=(ps.map fun p=>1+tsz p.2).sum:=mem_sum (List.mem_map.mpr ⟨q,h,rfl⟩)
 lia
theorem tsz_sub {w:Str}{as:List At}{ps:List Tr}{q:Tr} (h:q∈ps):tsz q<=tsz (.node w as ps):=by
 rw[tsz_node]
 have:tsz q<=(ps.map tsz).sum:=mem_sum (List.mem_map.mpr ⟨q,h,rfl⟩)
 lia
section
variable {P:Program}{w:World}{K:PySem.W.Frag}{mg:Str->Option Value}{base:Heap}{f f_kw:Addr}{fd fd_kw:FuncData}
def spWd (G:Tr->Prop):Sp:=fun vs H Q _=>∃ (v:V) (t:Tr),vs=[v]/\IsDt H (tdat t) v/\G t/\tsz t<=31000 /\
 ∀ (l:Addr) (H':Hp),Same H H'->H l=none->H' l=some (.lst ((twd t).map V.str))->Q (.ref l) H'
theorem ZaT:FnScope ["kind","words","field","own"] ["kind"] (defScope (top 34)):=⟨rfl,rfl,rfl,by decide +kernel,rfl,by decide +kernel,by decide +kernel⟩
theorem ok_kw {k d:Nat} (T:Tx mg) (Zaj:Df K mg "_law_kind_words" (top 34) f fd ["kind"]) (ZaG:FnOk P w K mg base CX0 k f fd ["kind"] (fun vs H Q E=>∃ e,e<d/\spWd (KG e) vs H Q E)) :
  FnOk P w K mg base CX0 (k+1) f fd ["kind"] (spWd (KG d)):=by
 refine Zaj.fn.okH ZaT (fun vs H Q E h=>?_) (fun cdv A outer s H vs Q E hr h=>?_)
 ·obtain⟨v,t,rfl,_⟩:=h;rfl
 obtain⟨v,t,rfl,hx,kg,hz,fin⟩:=h
 have hu:=u110 hr
 have hu0:=u0 hr
 have hu1:=hu_of hr
 refine⟨_,(wss_cons (ws_if (wt_cmpR (op_eqU hu) (we_ix (ix_U hu1) (wv 0) we_int (fun _ _=>rfl)) we_str (nomark _)) (wss_one (ws_ret (we_op op_plus (we_lst (wa_cons we_str wa_nil)) (we_call ZaG (hr.mono (by lia)) rfl Zaj.mg Zaj.kp Zaj.b .nil pass0 (wa_cons (we_ix (ix_U hu1) (wv 0) we_int (fun _ _=>rfl)) wa_nil))))) wss_nil)
   (wss_cons (ws_if (wt_cmpR (op_neU hu) (we_ix (ix_U hu1) (wv 0) we_int (fun _ _=>rfl)) we_str (nomark _)) (wss_one (ws_ret (we_lst (wa_cons (we_ix (ix_U hu1) (wv 0) we_int (fun _ _=>rfl)) wa_nil)))) wss_nil)
   (wss_cons (ws_set (i:=1) ZaT.nd rfl (Or.inl rfl) (we_lst (wa_cons we_str (wa_cons (we_callTy call_strU rfl T.z_str bt_str (wa_cons (we_callB call_lenU rfl T.z_len bt_len (wa_cons (we_ix (ix_U hu1) (wv 0) we_int (fun _ _=>rfl)) wa_nil)) wa_nil)) wa_nil))))
   (wss_cons (ws_for PassesOwn.never rfl (wi_U (we_ix (ix_U hu1) (wv 0) we_int (fun _ _=>rfl))) (wg_tup rfl (wgs_cons (wg_name (i:=2) ZaT.nd rfl (Or.inl rfl)) (wgs_cons (wg_name (i:=3) ZaT.nd rfl (Or.inl rfl)) wgs_nil))) (wss_one (ws_set (i:=1) ZaT.nd rfl (Or.inl rfl) (we_op op_plus (we_op op_plus (wv 1) (we_lst (wa_cons (wv 2) wa_nil))) (we_call ZaG (hr.mono (by lia)) rfl Zaj.mg Zaj.kp Zaj.b .nil pass0 (wa_cons (wv 3) wa_nil))))))
   (wss_one (ws_ret (wv 1))))))),?_⟩
 have hcnt:=twd_cnt t
 cases kg with
 | num=>
  obtain⟨a,zs,rfl,ha,hzs⟩:=tr_node hx
  have e:=isDts_nil' hzs
  subst e
  refine⟨_,rfl,.inr (.inl ⟨a,_,0,.str "num",rfl,rfl,SqT.of ha,rfl,.inl ⟨rfl,_,rfl,iteN (vne (by decide +kernel)) ?_⟩⟩)⟩
  refine⟨_,rfl,.inr (.inl ⟨a,_,0,.str "num",rfl,rfl,SqT.of ha,rfl,.inl ⟨rfl,_,rfl,iteP (by decide +kernel) ?_⟩⟩)⟩
  exact⟨_,rfl,.inr (.inl ⟨a,_,0,.str "num",rfl,rfl,SqT.of ha,rfl,(by show 1<=sizeLine;decide),fun l hl=>fin l _ (same_new hl _) hl upd_same⟩)⟩
 | word=>
  obtain⟨a,zs,rfl,ha,hzs⟩:=tr_node hx
  have e:=isDts_nil' hzs
  subst e
  refine⟨_,rfl,.inr (.inl ⟨a,_,0,.str "word",rfl,rfl,SqT.of ha,rfl,.inl ⟨rfl,_,rfl,iteN (vne (by decide +kernel)) ?_⟩⟩)⟩
  refine⟨_,rfl,.inr (.inl ⟨a,_,0,.str "word",rfl,rfl,SqT.of ha,rfl,.inl ⟨rfl,_,rfl,iteP (by decide +kernel) ?_⟩⟩)⟩
  exact⟨_,rfl,.inr (.inl ⟨a,_,0,.str "word",rfl,rfl,SqT.of ha,rfl,(by show 1<=sizeLine;decide),fun l hl=>fin l _ (same_new hl _) hl upd_same⟩)⟩
 | bag h=>
  rename_i d' k'
  obtain⟨a,zs,rfl,ha,hzs⟩:=tr_node hx
  obtain⟨u,rfl,hu'⟩:=isDts_one hzs
  have ts1:=tsz_sub (w:=Str.ofString "bag") (as:=[]) (ps:=[k']) List.mem_cons_self
  refine⟨_,rfl,.inr (.inl ⟨a,_,0,.str "bag",rfl,rfl,SqT.of ha,rfl,.inl ⟨rfl,_,rfl,iteP veq ?_⟩⟩)⟩
  refine⟨(by show 1<=sizeLine;decide),fun l hl=>⟨_,rfl,.inr (.inl ⟨a,_,1,u,rfl,rfl,SqT.of (same_new hl _ _ _ ha),rfl,d',by lia,u,k',rfl,IsDt.mono (same_new hl _).tups hu',h,by lia,fun l2 H2 s2 hl2 hL2=>?_⟩)⟩⟩
  have c2:=twd_cnt k'
  refine .inr (.inr (.inl ⟨l,l2,[.str "bag"],(twd k').map V.str,rfl,rfl,s2 _ _ upd_same,hL2,Nat.le_of_lt (line1 (by simp;lia)),fun l3 hl3=>?_⟩))
  have sA:=(same_new hl (.lst [.str "bag"])).trans s2
  refine fin l3 _ (sA.trans (same_new hl3 _)) (same_back sA hl3) ?_
  rw[upd_same,twd,twdL,twdL]
  simp
 | row hl14 hn hs h=>
  rename_i d' ps
  obtain⟨a,b,ys,rfl,ha,hb,hys⟩:=tr_row hx
  have ly:ys.length=ps.length:=by rw[hys.length,tdatR_map,List.length_map]
  have etw:twd (.row ps)=Str.ofString "row"::numS ps.length::ps.flatMap fun p=>p.1::twd p.2:=by rw[twd,twdR_map]
  refine⟨_,rfl,.inr (.inl ⟨a,_,0,.str "row",rfl,rfl,SqT.of ha,rfl,.inl ⟨rfl,_,rfl,iteN (vne (by decide +kernel)) ?_⟩⟩)⟩
  refine⟨_,rfl,.inr (.inl ⟨a,_,0,.str "row",rfl,rfl,SqT.of ha,rfl,.inl ⟨rfl,_,rfl,iteN (by simp) ?_⟩⟩)⟩
  refine⟨_,rfl,.inr (.inl ⟨a,_,1,.ref b,rfl,rfl,SqT.of ha,rfl,.inl ⟨b,_,rfl,.inr (SqT.of hb),.inl ⟨_,rfl,?_,(by show 2<=sizeLine;decide),fun l0 hl0=>?_⟩⟩⟩)⟩
  ·refine log_lt ?_
   have:((ys.length:Int)).natAbs=ys.length:=by lia
   rw[this,ly];exact Nat.lt_of_le_of_lt hl14 (by decide)
  rw[ly]
  have s1:Same H (upd H l0 (.lst [.str "row",.str (Str.ofString (toString (ps.length:Int)))])):=same_new hl0 _
  have hL1:(upd H l0 (.lst [.str "row",.str (Str.ofString (toString (ps.length:Int)))])) l0=some (.lst ((Str.ofString "row"::numS ps.length::(ps.take 0).flatMap fun p=>p.1::twd p.2).map V.str)):=by rw[List.take_zero];exact upd_same
  generalize upd H l0 (.lst [.str "row",.str (Str.ofString (toString (ps.length:Int)))])=H1 at s1 hL1 ⊢
  have plen:∀ i,(Str.ofString "row"::numS ps.length::(ps.take i).flatMap fun p=>p.1::twd p.2).length<=62000:=fun i=>by
   have h1:=pre_len (g:=fun p:Str×Tr=>p.1::twd p.2) ps i
   rw[etw]at hcnt
   simp only[List.length_cons]at hcnt ⊢
   lia
  refine .inr ⟨_,rfl,.inr (.inl ⟨a,_,1,.ref b,rfl,rfl,SqT.of (s1 _ _ ha),rfl,b,rfl,⟨ys,SqT.of (s1 _ _ hb)⟩,?_⟩)⟩
  refine for_tup (K:=K) (a:=b) (xs:=ys) (fun i σ H'=>∃ (l:Addr) (o2 o3:Option V),σ=[some (.ref a),some (.ref l),o2,o3]/\Same H H'/\H l=none/\H' l=some (.lst ((Str.ofString "row"::numS ps.length::(ps.take i).flatMap fun p=>p.1::twd p.2).map V.str)))
   ⟨l0,none,none,rfl,s1,hl0,hL1⟩ (fun i σ H' _ ⟨_,_,_,_,s,_⟩=>SqT.of (s _ _ hb)) ?turn ?done
  case turn=>
   rintro i y σ H' hy ⟨l,o2,o3,rfl,sH,hlN,hL⟩
   have hi:i<ys.length:=(List.getElem?_eq_some_iff.mp hy).1
   obtain⟨pp,c,u,hp,rfl,hc,hpu⟩:=tr_item hys hy
   have hpm:=List.mem_of_getElem? hp
   have pl1:=plen (i+1)
   have estep:(Str.ofString "row"::numS ps.length::(ps.take (i+1)).flatMap fun p=>p.1::twd p.2)=(Str.ofString "row"::numS ps.length::(ps.take i).flatMap fun p=>p.1::twd p.2)++[pp.1]++twd pp.2:=by
    rw[List.take_add_one,hp,List.flatMap_append];simp
   rw[estep]at pl1
   generalize (Str.ofString "row"::numS ps.length::(ps.take i).flatMap fun p=>p.1::twd p.2)=pre at hL pl1 estep
   simp only[List.length_append,List.length_cons,List.length_nil]at pl1
   refine⟨c,_,rfl,SqT.of (sH _ _ hc),rfl,_,_,rfl,_,_,rfl,rfl,?_⟩
   refine⟨_,rfl,_,rfl,(by show 1<=sizeLine;decide),fun l2 hl2=>?_⟩
   have hLl:(upd H' l2 (.lst [.str pp.1])) l=some (.lst (pre.map V.str)):=by rw[upd_ne (ne_of_none hL hl2)];exact hL
   refine .inr (.inr (.inl ⟨l,l2,pre.map V.str,[.str pp.1],rfl,rfl,hLl,upd_same,Nat.le_of_lt (line1 (by simp;lia)),fun l3 hl3=>?_⟩))
   have s3:Same H' (upd (upd H' l2 (.lst [.str pp.1])) l3 (.lst (pre.map V.str++[.str pp.1]))):=(same_new hl2 _).trans (same_new hl3 _)
   have hL3:(upd (upd H' l2 (.lst [.str pp.1])) l3 (.lst (pre.map V.str++[.str pp.1]))) l3=some (.lst (pre.map V.str++[.str pp.1])):=upd_same
   generalize upd (upd H' l2 (.lst [.str pp.1])) l3 (.lst (pre.map V.str++[.str pp.1]))=H3 at s3 hL3 ⊢
   have tsp:=tsz_part hpm
   refine⟨_,rfl,d',by lia,u,pp.2,rfl,IsDt.mono (sH.trans s3).tups hpu,h pp hpm,by lia,fun l4 H4 s4 hl4 hL4=>?_⟩
   refine .inr (.inr (.inl ⟨l3,l4,pre.map V.str++[.str pp.1],(twd pp.2).map V.str,rfl,rfl,s4 _ _ hL3,hL4,Nat.le_of_lt (line1 (by simp;lia)),fun l5 hl5=>?_⟩))
   have sA:=(sH.trans s3).trans s4
   refine⟨l5,_,_,rfl,sA.trans (same_new hl5 _),same_back sA hl5,?_⟩
   rw[upd_same,estep]
   simp
  case done=>
   rintro σ H' ⟨l,o2,o3,rfl,sH,hlN,hL⟩
   rw[List.take_of_length_le (by lia)]at hL
   exact⟨_,rfl,fin l H' sH hlN (by rw[etw];exact hL)⟩
theorem kw_all (T:Tx mg) (Zaj:Df K mg "_law_kind_words" (top 34) f fd ["kind"]):∀ d:Nat,FnOk P w K mg base CX0 (d+1) f fd ["kind"] (spWd (KG d)):=fun d=>by
 induction d using Nat.strongRecOn with
 | ind d ih=>exact ok_kw (k:=d) T Zaj (fnOk_lt fun e he=>(ih e he).mono (by lia))
theorem qg_shape {d:Nat}{b:Bool}{t:Tr} (h:QG d b t) :
  (∃ (wd:Str) (x:At),t=.node wd [x] []/\wd∈[Str.ofString "num",Str.ofString "word",Str.ofString "var",Str.ofString "table"]/\atOk x)\/(∃ k,t=.node (Str.ofString "none") [] [k]/\KG 2 k) \/
  (∃ ps:List (Str×Tr),t=.row ps/\ps.length<=14/\∀ q∈ps,∃ e b,e<d/\QG e b q.2) \/
  (∃ (wd:Str) (as:List At) (ps:List Tr),t=.node wd as ps/\wd ∉ [Str.ofString "num",Str.ofString "word",Str.ofString "var",Str.ofString "table"]/\wd≠Str.ofString "none"/\wd≠Str.ofString "row"/\∀ q∈ps,∃ e b,e<d/\QG e b q):=by
 cases h with
 | num h=>exact .inl ⟨_,_,rfl,by decide +kernel,h⟩
 | leaf hw h=>rcases hw with rfl | rfl | rfl <;> exact .inl ⟨_,_,rfl,by decide +kernel,h.ten⟩
 | none h=>exact .inr (.inl ⟨_,rfl,h⟩)
 | row0=>exact .inr (.inr (.inl ⟨_,rfl,by decide,fun q hq=>nomatch hq⟩))
 | row hl hn hs h=>exact .inr (.inr (.inl ⟨_,rfl,hl,fun q hq=>⟨_,_,Nat.lt_succ_self _,h q hq⟩⟩))
 | «at» h hq=>exact .inr (.inr (.inr ⟨_,_,_,rfl,by decide +kernel,by decide +kernel,by decide +kernel,one_mem ⟨_,_,Nat.lt_succ_self _,hq⟩⟩))
 | times h hq=>exact .inr (.inr (.inr ⟨_,_,_,rfl,by decide +kernel,by decide +kernel,by decide +kernel,one_mem ⟨_,_,Nat.lt_succ_self _,hq⟩⟩))
 | one hq=>exact .inr (.inr (.inr ⟨_,_,_,rfl,by decide +kernel,by decide +kernel,by decide +kernel,one_mem ⟨_,_,Nat.lt_succ_self _,hq⟩⟩))
 | when hc hq=>exact .inr (.inr (.inr ⟨_,_,_,rfl,by decide +kernel,by decide +kernel,by decide +kernel,two_mem ⟨_,_,Nat.lt_succ_self _,hc⟩ ⟨_,_,Nat.lt_succ_self _,hq⟩⟩))
 | bind hw h hq hr=>rcases hw with rfl | rfl <;> exact .inr (.inr (.inr ⟨_,_,_,rfl,by decide +kernel,by decide +kernel,by decide +kernel,two_mem ⟨_,_,Nat.lt_succ_self _,hq⟩ ⟨_,_,Nat.lt_succ_self _,hr⟩⟩))
 | two hw hq hr=>rcases hw with rfl | rfl | rfl <;> exact .inr (.inr (.inr ⟨_,_,_,rfl,by decide +kernel,by decide +kernel,by decide +kernel,two_mem ⟨_,_,Nat.lt_succ_self _,hq⟩ ⟨_,_,Nat.lt_succ_self _,hr⟩⟩))
 | cmp hw hq hr=>rcases hw with rfl | rfl <;> exact .inr (.inr (.inr ⟨_,_,_,rfl,by decide +kernel,by decide +kernel,by decide +kernel,two_mem ⟨_,_,Nat.lt_succ_self _,hq⟩ ⟨_,_,Nat.lt_succ_self _,hr⟩⟩))
 | logic hw hq hr=>rcases hw with rfl | rfl <;> exact .inr (.inr (.inr ⟨_,_,_,rfl,by decide +kernel,by decide +kernel,by decide +kernel,two_mem ⟨_,_,Nat.lt_succ_self _,hq⟩ ⟨_,_,Nat.lt_succ_self _,hr⟩⟩))
 | not hc=>exact .inr (.inr (.inr ⟨_,_,_,rfl,by decide +kernel,by decide +kernel,by decide +kernel,one_mem ⟨_,_,Nat.lt_succ_self _,hc⟩⟩))
theorem inW4 (wd:Str):(if false=true then !inV (.str wd) [.str "num",.str "word",.str "var",.str "table"] else inV (.str wd) [.str "num",.str "word",.str "var",.str "table"])=true ↔ wd∈[Str.ofString "num",Str.ofString "word",Str.ofString "var",Str.ofString "table"]:=by
 rw[if_neg Bool.false_ne_true]
 unfold inV
 simp only[List.any_cons,List.any_nil,Bool.or_false,Bool.or_eq_true,List.mem_cons,List.not_mem_nil,or_false,eqV,beq_iff_eq]
 constructor
 ·rintro (h | h | h | h)
  ·exact .inl h.symm
  ·exact .inr (.inl h.symm)
  ·exact .inr (.inr (.inl h.symm))
  ·exact .inr (.inr (.inr h.symm))
 ·rintro (h | h | h | h)
  ·exact .inl h.symm
  ·exact .inr (.inl h.symm)
  ·exact .inr (.inr (.inl h.symm))
  ·exact .inr (.inr (.inr h.symm))
theorem cut1 {x:V}{r:List V}:cutV (x::r) (some 1) none=r:=by
 have e0:HT.sIx (x::r).length 0 (some 1)=1:=by
  have h:=HT.sIx_nat (x::r).length 0 1
  rw[show ((1:Nat):Int)=1 from rfl]at h
  rw[h,List.length_cons]
  lia
 have e1:HT.sIx (x::r).length (x::r).length none=r.length+1:=rfl
 unfold cutV
 rw[e0,e1]
 simp
theorem ncut1 {x:V}{r:List V}:¬(HT.sIx (x::r).length 0 (some 1)=0/\HT.sIx (x::r).length (x::r).length none=(x::r).length):=fun h=>by
 have e0:HT.sIx (x::r).length 0 (some 1)=1:=by
  have h:=HT.sIx_nat (x::r).length 0 1
  rw[show ((1:Nat):Int)=1 from rfl]at h
  rw[h,List.length_cons]
  lia
 rw[e0]at h
 exact absurd h.1 (by decide)
def elW:At ⊕ Tr->List Str
 | .inl a=>[atS a]
 | .inr t=>twd t
theorem twd_els (wd:Str) (as:List At) (ps:List Tr):twd (.node wd as ps)=wd::(as.map Sum.inl++ps.map (Sum.inr (α:=At))).flatMap elW:=by
 rw[twd,twdL_map,List.flatMap_append,List.flatMap_map,List.flatMap_map]
 show _=wd::((as.flatMap fun a=>[atS a])++_)
 rw[<- List.map_eq_flatMap]
 rfl
theorem Zau:FnScope ["question","word","words","field","own","part"] ["question"] (defScope (top 35)):=⟨rfl,rfl,rfl,by decide +kernel,rfl,by decide +kernel,by decide +kernel⟩
def GQ (d:Nat) (t:Tr):Prop:=∃ b,QG d b t
theorem ok_lwords {k d:Nat} (hk:3<=k) (T:Tx mg) (Zak:Df K mg "_law_words" (top 35) f fd ["question"]) (ZaV:FnOk P w K mg base CX0 k f fd ["question"] (fun vs H Q E=>∃ e,e<d/\spWd (GQ e) vs H Q E))
  (Zaj:Df K mg "_law_kind_words" (top 34) f_kw fd_kw ["kind"]) (ZaG:FnOk P w K mg base CX0 3 f_kw fd_kw ["kind"] (spWd (KG 2))) :
  FnOk P w K mg base CX0 (k+1) f fd ["question"] (spWd (GQ d)):=by
 refine Zak.fn.okH Zau (fun vs H Q E h=>?_) (fun cdv A outer s H vs Q E hr h=>?_)
 ·obtain⟨v,t,rfl,_⟩:=h;rfl
 obtain⟨v,t,rfl,hx,⟨bb,qg⟩,hz,fin⟩:=h
 have hu:=u110 hr
 have hu0:=u0 hr
 have hu1:=hu_of hr
 refine⟨_,(wss_cons (ws_set (i:=1) Zau.nd rfl (Or.inl rfl) (we_ix (ix_U hu1) (wv 0) we_int (fun _ _=>rfl)))
   (wss_cons (ws_if (wt_cmpR (op_inU hu) (wv 1) (we_tup (wa_consts rfl)) (by with_unfolding_all rfl)) (wss_one (ws_ret (we_lst (wa_cons (wv 1) (wa_cons (we_callTy call_strU rfl T.z_str bt_str (wa_cons (we_ix (ix_U hu1) (wv 0) we_int (fun _ _=>rfl)) wa_nil)) wa_nil))))) wss_nil)
   (wss_cons (ws_if (wt_cmpR (op_eqU hu) (wv 1) we_str (nomark _)) (wss_one (ws_ret (we_op op_plus (we_lst (wa_cons we_str wa_nil)) (we_call ZaG (hr.mono (by lia)) rfl Zaj.mg Zaj.kp Zaj.b .nil pass0 (wa_cons (we_ix (ix_U hu1) (wv 0) we_int (fun _ _=>rfl)) wa_nil))))) wss_nil)
   (wss_cons (ws_if (wt_cmpR (op_eqU hu) (wv 1) we_str (nomark _)) (wss_cons (ws_set (i:=2) Zau.nd rfl (Or.inl rfl) (we_lst (wa_cons we_str (wa_cons (we_callTy call_strU rfl T.z_str bt_str (wa_cons (we_callB call_lenU rfl T.z_len bt_len (wa_cons (we_ix (ix_U hu1) (wv 0) we_int (fun _ _=>rfl)) wa_nil)) wa_nil)) wa_nil))))
   (wss_cons (ws_for PassesOwn.never rfl (wi_U (we_ix (ix_U hu1) (wv 0) we_int (fun _ _=>rfl))) (wg_tup rfl (wgs_cons (wg_name (i:=3) Zau.nd rfl (Or.inl rfl)) (wgs_cons (wg_name (i:=4) Zau.nd rfl (Or.inl rfl)) wgs_nil))) (wss_one (ws_set (i:=2) Zau.nd rfl (Or.inl rfl) (we_op op_plus (we_op op_plus (wv 2) (we_lst (wa_cons (wv 3) wa_nil))) (we_call ZaV (hr.mono (by lia)) rfl Zak.mg Zak.kp Zak.b .nil pass0 (wa_cons (wv 4) wa_nil))))))
   (wss_one (ws_ret (wv 2))))) wss_nil)
   (wss_cons (ws_set (i:=2) Zau.nd rfl (Or.inl rfl) (we_lst (wa_cons (wv 1) wa_nil)))
   (wss_cons (ws_for PassesOwn.never rfl (wi_U (we_slice sl_U (wv 0) (wo_some we_int) wo_none)) (wg_name (i:=5) Zau.nd rfl (Or.inl rfl)) (wss_one (ws_if (wt_val (we_callB call_isiU rfl T.z_isinstance bt_isinstance (wa_cons (wv 5) (wa_cons (we_bltn rfl T.z_tuple bt_tuple (relv_ty _)) wa_nil)))) (wss_one (ws_set (i:=2) Zau.nd rfl (Or.inl rfl) (we_op op_plus (wv 2) (we_call ZaV (hr.mono (by lia)) rfl Zak.mg Zak.kp Zak.b .nil pass0 (wa_cons (wv 5) wa_nil))))) (wss_one (ws_expr (we_bm PySem.F.plainAttrs_list PySem.F.slot_list_append PySem.F.type_list_append mt_append (wv 2) (wa_cons (we_callTy call_strU rfl T.z_str bt_str (wa_cons (wv 5) wa_nil)) wa_nil)))))))
   (wss_one (ws_ret (wv 2))))))))),?_⟩
 have hcnt:=twd_cnt t
 rcases qg_shape qg with ⟨wd,x,rfl,hw,hxo⟩ | ⟨kk,rfl,kg⟩ | ⟨ps,rfl,hl14,hps⟩ | ⟨wd,as,ps,rfl,hw4,hw5,hw6,hps⟩
 ·obtain⟨a,zs,rfl,ha,hzs⟩:=tr_node hx
  have e:=isDts_nil' hzs
  subst e
  refine⟨_,rfl,.inr (.inl ⟨a,_,0,.str wd,rfl,rfl,SqT.of ha,rfl,?_⟩)⟩
  refine⟨_,rfl,(by show 4<=sizeLine;decide),fun tp htp=>.inl ⟨tp,_,rfl,.inr (SqT.of upd_same),rfl,rfl,_,rfl,?_⟩⟩
  refine iteP ((inW4 wd).mpr hw) ?_
  have sT:Same H (upd H tp (.tup [.str "num",.str "word",.str "var",.str "table"])):=same_new htp _
  generalize upd H tp (.tup [.str "num",.str "word",.str "var",.str "table"])=Ht at sT ⊢
  have etw:twd (.node wd [x] [])=[wd,atS x]:=by rw[twd,twdL];rfl
  cases x with
  | int n=>
   refine⟨_,rfl,_,rfl,.inr (.inl ⟨a,_,1,.int n,rfl,rfl,SqT.of (sT _ _ ha),rfl,.inl ⟨n,rfl,log_lt hxo,(by show 2<=sizeLine;decide),fun l hl=>?_⟩⟩)⟩
   exact fin l _ (sT.trans (same_new hl _)) (same_back sT hl) (by rw[upd_same,etw];rfl)
  | txt z=>
   refine⟨_,rfl,_,rfl,.inr (.inl ⟨a,_,1,.str z,rfl,rfl,SqT.of (sT _ _ ha),rfl,.inr ⟨z,rfl,(by show 2<=sizeLine;decide),fun l hl=>?_⟩⟩)⟩
   exact fin l _ (sT.trans (same_new hl _)) (same_back sT hl) (by rw[upd_same,etw];rfl)
 ·obtain⟨a,zs,rfl,ha,hzs⟩:=tr_node hx
  obtain⟨u,rfl,hu'⟩:=isDts_one hzs
  have ts1:=tsz_sub (w:=Str.ofString "none") (as:=[]) (ps:=[kk]) List.mem_cons_self
  refine⟨_,rfl,.inr (.inl ⟨a,_,0,.str "none",rfl,rfl,SqT.of ha,rfl,?_⟩)⟩
  refine⟨_,rfl,(by show 4<=sizeLine;decide),fun tp htp=>.inl ⟨tp,_,rfl,.inr (SqT.of upd_same),rfl,rfl,_,rfl,?_⟩⟩
  refine iteN (fun z=>absurd ((inW4 _).mp z) (by decide +kernel)) ?_
  have sT:Same H (upd H tp (.tup [.str "num",.str "word",.str "var",.str "table"])):=same_new htp _
  generalize upd H tp (.tup [.str "num",.str "word",.str "var",.str "table"])=Ht at sT ⊢
  refine⟨_,rfl,.inl ⟨rfl,_,rfl,iteP veq ?_⟩⟩
  refine⟨(by show 1<=sizeLine;decide),fun l hl=>⟨_,rfl,.inr (.inl ⟨a,_,1,u,rfl,rfl,SqT.of (same_new hl _ _ _ (sT _ _ ha)),rfl,u,kk,rfl,IsDt.mono (sT.trans (same_new hl _)).tups hu',kg,by lia,fun l2 H2 s2 hl2 hL2=>?_⟩)⟩⟩
  have c2:=twd_cnt kk
  refine .inr (.inr (.inl ⟨l,l2,[.str "none"],(twd kk).map V.str,rfl,rfl,s2 _ _ upd_same,hL2,Nat.le_of_lt (line1 (by simp;lia)),fun l3 hl3=>?_⟩))
  have sA:=sT.trans ((same_new hl (.lst [.str "none"])).trans s2)
  refine fin l3 _ (sA.trans (same_new hl3 _)) (same_back sA hl3) ?_
  rw[upd_same,twd,twdL,twdL]
  simp
 ·obtain⟨a,b,ys,rfl,ha,hb,hys⟩:=tr_row hx
  have ly:ys.length=ps.length:=by rw[hys.length,tdatR_map,List.length_map]
  have etw:twd (.row ps)=Str.ofString "row"::numS ps.length::ps.flatMap fun p=>p.1::twd p.2:=by rw[twd,twdR_map]
  refine⟨_,rfl,.inr (.inl ⟨a,_,0,.str "row",rfl,rfl,SqT.of ha,rfl,?_⟩)⟩
  refine⟨_,rfl,(by show 4<=sizeLine;decide),fun tp htp=>.inl ⟨tp,_,rfl,.inr (SqT.of upd_same),rfl,rfl,_,rfl,?_⟩⟩
  refine iteN (fun z=>absurd ((inW4 _).mp z) (by decide +kernel)) ?_
  have sT:Same H (upd H tp (.tup [.str "num",.str "word",.str "var",.str "table"])):=same_new htp _
  generalize upd H tp (.tup [.str "num",.str "word",.str "var",.str "table"])=Ht at sT ⊢
  refine⟨_,rfl,.inl ⟨rfl,_,rfl,iteN (vne (by decide +kernel)) ?_⟩⟩
  refine⟨_,rfl,.inl ⟨rfl,_,rfl,iteP veq ?_⟩⟩
  refine⟨_,rfl,.inr (.inl ⟨a,_,1,.ref b,rfl,rfl,SqT.of (sT _ _ ha),rfl,.inl ⟨b,_,rfl,.inr (SqT.of (sT _ _ hb)),.inl ⟨_,rfl,?_,(by show 2<=sizeLine;decide),fun l0 hl0=>?_⟩⟩⟩)⟩
  ·refine log_lt ?_
   have:((ys.length:Int)).natAbs=ys.length:=by lia
   rw[this,ly];exact Nat.lt_of_le_of_lt hl14 (by decide)
  rw[ly]
  have s1:Same Ht (upd Ht l0 (.lst [.str "row",.str (Str.ofString (toString (ps.length:Int)))])):=same_new hl0 _
  have hL1:(upd Ht l0 (.lst [.str "row",.str (Str.ofString (toString (ps.length:Int)))])) l0=some (.lst ((Str.ofString "row"::numS ps.length::(ps.take 0).flatMap fun p=>p.1::twd p.2).map V.str)):=by rw[List.take_zero];exact upd_same
  generalize upd Ht l0 (.lst [.str "row",.str (Str.ofString (toString (ps.length:Int)))])=H1 at s1 hL1 ⊢
  have plen:∀ i,(Str.ofString "row"::numS ps.length::(ps.take i).flatMap fun p=>p.1::twd p.2).length<=62000:=fun i=>by
   have h1:=pre_len (g:=fun p:Str×Tr=>p.1::twd p.2) ps i
   rw[etw]at hcnt
   simp only[List.length_cons]at hcnt ⊢
   lia
  refine .inr ⟨_,rfl,.inr (.inl ⟨a,_,1,.ref b,rfl,rfl,SqT.of (s1 _ _ (sT _ _ ha)),rfl,b,rfl,⟨ys,SqT.of (s1 _ _ (sT _ _ hb))⟩,?_⟩)⟩
  refine for_tup (K:=K) (a:=b) (xs:=ys) (fun i σ H'=>∃ (l:Addr) (o2 o3:Option V),σ=[some (.ref a),some (.str (Str.ofString "row")),some (.ref l),o2,o3,none]/\Same H H'/\H l=none/\H' l=some (.lst ((Str.ofString "row"::numS ps.length::(ps.take i).flatMap fun p=>p.1::twd p.2).map V.str)))
   ⟨l0,none,none,rfl,sT.trans s1,same_back sT hl0,hL1⟩ (fun i σ H' _ ⟨_,_,_,_,s,_⟩=>SqT.of (s _ _ hb)) ?turn ?done
  case turn=>
   rintro i y σ H' hy ⟨l,o2,o3,rfl,sH,hlN,hL⟩
   have hi:i<ys.length:=(List.getElem?_eq_some_iff.mp hy).1
   obtain⟨pp,c,u,hp,rfl,hc,hpu⟩:=tr_item hys hy
   have hpm:=List.mem_of_getElem? hp
   have pl1:=plen (i+1)
   have estep:(Str.ofString "row"::numS ps.length::(ps.take (i+1)).flatMap fun p=>p.1::twd p.2)=(Str.ofString "row"::numS ps.length::(ps.take i).flatMap fun p=>p.1::twd p.2)++[pp.1]++twd pp.2:=by
    rw[List.take_add_one,hp,List.flatMap_append];simp
   rw[estep]at pl1
   generalize (Str.ofString "row"::numS ps.length::(ps.take i).flatMap fun p=>p.1::twd p.2)=pre at hL pl1 estep
   simp only[List.length_append,List.length_cons,List.length_nil]at pl1
   refine⟨c,_,rfl,SqT.of (sH _ _ hc),rfl,_,_,rfl,_,_,rfl,rfl,?_⟩
   refine⟨_,rfl,_,rfl,(by show 1<=sizeLine;decide),fun l2 hl2=>?_⟩
   have hLl:(upd H' l2 (.lst [.str pp.1])) l=some (.lst (pre.map V.str)):=by rw[upd_ne (ne_of_none hL hl2)];exact hL
   refine .inr (.inr (.inl ⟨l,l2,pre.map V.str,[.str pp.1],rfl,rfl,hLl,upd_same,Nat.le_of_lt (line1 (by simp;lia)),fun l3 hl3=>?_⟩))
   have s3:Same H' (upd (upd H' l2 (.lst [.str pp.1])) l3 (.lst (pre.map V.str++[.str pp.1]))):=(same_new hl2 _).trans (same_new hl3 _)
   have hL3:(upd (upd H' l2 (.lst [.str pp.1])) l3 (.lst (pre.map V.str++[.str pp.1]))) l3=some (.lst (pre.map V.str++[.str pp.1])):=upd_same
   generalize upd (upd H' l2 (.lst [.str pp.1])) l3 (.lst (pre.map V.str++[.str pp.1]))=H3 at s3 hL3 ⊢
   have tsp:=tsz_part hpm
   obtain⟨e,b2,he,qe⟩:=hps pp hpm
   refine⟨_,rfl,e,he,u,pp.2,rfl,IsDt.mono (sH.trans s3).tups hpu,⟨b2,qe⟩,by lia,fun l4 H4 s4 hl4 hL4=>?_⟩
   refine .inr (.inr (.inl ⟨l3,l4,pre.map V.str++[.str pp.1],(twd pp.2).map V.str,rfl,rfl,s4 _ _ hL3,hL4,Nat.le_of_lt (line1 (by simp;lia)),fun l5 hl5=>?_⟩))
   have sA:=(sH.trans s3).trans s4
   refine⟨l5,_,_,rfl,sA.trans (same_new hl5 _),same_back sA hl5,?_⟩
   rw[upd_same,estep]
   simp
  case done=>
   rintro σ H' ⟨l,o2,o3,rfl,sH,hlN,hL⟩
   rw[List.take_of_length_le (by lia)]at hL
   exact⟨_,rfl,fin l H' sH hlN (by rw[etw];exact hL)⟩
 ·obtain⟨a,zs,rfl,ha,hzs⟩:=tr_node hx
  refine⟨_,rfl,.inr (.inl ⟨a,_,0,.str wd,rfl,rfl,SqT.of ha,(show atI (V.str wd::(as.map atV++zs)) ((0:Nat):Int)=_ from atI_nat rfl),?_⟩)⟩
  refine⟨_,rfl,(by show 4<=sizeLine;decide),fun tp htp=>.inl ⟨tp,_,rfl,.inr (SqT.of upd_same),rfl,rfl,_,rfl,?_⟩⟩
  refine iteN (fun z=>hw4 ((inW4 _).mp z)) ?_
  have sT:Same H (upd H tp (.tup [.str "num",.str "word",.str "var",.str "table"])):=same_new htp _
  generalize upd H tp (.tup [.str "num",.str "word",.str "var",.str "table"])=Ht at sT ⊢
  refine⟨_,rfl,.inl ⟨rfl,_,rfl,iteN (vne hw5) ?_⟩⟩
  refine⟨_,rfl,.inl ⟨rfl,_,rfl,iteN (vne hw6) ?_⟩⟩
  refine⟨_,rfl,(by show 1<=sizeLine;decide),fun l0 hl0=>?_⟩
  have s1:Same H (upd Ht l0 (.lst [.str wd])):=sT.trans (same_new hl0 _)
  have hL1:(upd Ht l0 (.lst [.str wd])) l0=some (.lst [.str wd]):=upd_same
  have hl0N:=same_back sT hl0
  generalize upd Ht l0 (.lst [.str wd])=H1 at s1 hL1 ⊢
  have htok:=qg.ok
  have hels:=els_ok htok
  have lel:=els_len htok
  have etw:=twd_els wd as ps
  obtain⟨el,eel⟩:∃ el,el=as.map Sum.inl++ps.map (Sum.inr (α:=At)):=⟨_,rfl⟩
  have hel:∀ e∈el,(∀ a,e=.inl a->atOk a)/\(∀ t,e=.inr t->t∈ps):=fun e he=>by
   refine⟨fun a z=>(hels e (List.mem_cons_of_mem _ (by rw[<- eel];exact he))).1 a z,fun t z=>?_⟩
   rw[eel]at he
   rcases List.mem_append.mp he with h | h
   ·obtain⟨b,_,e2⟩:=List.mem_map.mp h
    rw[z]at e2;cases e2
   ·obtain⟨b,hb,e2⟩:=List.mem_map.mp h
    rw[z]at e2;injection e2 with e2;rw[<- e2];exact hb
  have ir:IsDts H (el.map elD) (as.map atV++zs):=by
   have hx2:=hx
   rw[tdat_els,IsDt]at hx2
   obtain⟨a2,xs2,e2,h2,h3⟩:=hx2
   cases e2
   rw[ha]at h2
   cases h2
   rw[els,List.map_cons,IsDts]at h3
   obtain⟨y,r,e3,_,h4⟩:=h3
   cases e3
   rw[eel];exact h4
  rw[<- eel]at etw
  have lr:(as.map atV++zs).length=el.length:=by rw[ir.length,List.length_map]
  have llel:el.length<=4:=by rw[eel];unfold els at lel;simp only[List.length_cons]at lel;lia
  generalize as.map atV++zs=r at ha ir lr
  have plen:∀ i,(wd::(el.take i).flatMap elW).length<=62000:=fun i=>by
   have h1:=pre_len (g:=elW) el i
   rw[etw]at hcnt
   simp only[List.length_cons]at hcnt ⊢
   lia
  refine .inr ⟨_,rfl,_,rfl,.inr (.inl ⟨a,_,rfl,SqT.of (s1 _ _ ha),ncut1,fun q hq=>?_⟩)⟩
  rw[cut1]
  have nql:q≠l0:=fun z=>by rw[z,hL1]at hq;cases hq
  refine⟨q,rfl,⟨_,SqT.of upd_same⟩,?_⟩
  refine for_tup (K:=K) (a:=q) (xs:=r) (fun i σ H'=>∃ (l:Addr) (o5:Option V),σ=[some (.ref a),some (.str wd),some (.ref l),none,none,o5]/\Same H H'/\H' q=some (.tup r)/\q≠l/\H l=none/\H' l=some (.lst ((wd::(el.take i).flatMap elW).map V.str)))
   ⟨l0,none,rfl,s1.trans (same_new hq _),upd_same,nql,hl0N,by rw[upd_ne nql.symm,hL1,List.take_zero];rfl⟩ (fun i σ H' _ ⟨_,_,_,_,h,_⟩=>SqT.of h) ?turn ?done
  case turn=>
   rintro i y σ H' hy ⟨l,o5,rfl,sH,hQ,nq,hlN,hL⟩
   have hi:i<r.length:=(List.getElem?_eq_some_iff.mp hy).1
   have hi':i<el.length:=by lia
   obtain⟨u,hu',iu⟩:=ir.get (i:=i) (d:=elD el[i]) (by rw[List.getElem?_map,List.getElem?_eq_getElem hi'];rfl)
   rw[hy]at hu'
   injection hu' with hu'
   subst hu'
   have okE:=hel _ (List.getElem_mem hi')
   have pl1:=plen (i+1)
   have estep:(wd::(el.take (i+1)).flatMap elW)=(wd::(el.take i).flatMap elW)++elW el[i]:=by
    rw[List.take_add_one,List.getElem?_eq_getElem hi',List.flatMap_append];simp
   rw[estep]at pl1
   rw[estep]
   generalize (wd::(el.take i).flatMap elW)=pre at hL pl1
   simp only[List.length_append]at pl1
   generalize el[i]=e at iu okE pl1
   cases e with
   | inr t=>
    have htm:=okE.2 t rfl
    obtain⟨a',xs',rfl,ha'⟩:=tr_tup iu
    obtain⟨e2,b2,he2,qe⟩:=hps t htm
    have tss:=tsz_sub (w:=wd) (as:=as) htm
    refine⟨_,rfl,.inl ⟨_,_,_,rfl,.inl ⟨rfl,.inr (.inr ⟨⟨a',xs',rfl,sH _ _ ha'⟩,rfl⟩)⟩,_,rfl,iteT ?_⟩⟩
    refine⟨_,rfl,_,rfl,e2,he2,_,t,rfl,IsDt.mono sH.tups iu,⟨b2,qe⟩,by lia,fun l4 H4 s4 hl4 hL4=>?_⟩
    have pl2:pre.length+(twd t).length<=62000:=pl1
    refine .inr (.inr (.inl ⟨l,l4,pre.map V.str,(twd t).map V.str,rfl,rfl,s4 _ _ hL,hL4,Nat.le_of_lt (line1 (by simp;lia)),fun l5 hl5=>?_⟩))
    have sA:=sH.trans s4
    have hQ4:=s4 _ _ hQ
    refine⟨l5,_,rfl,sA.trans (same_new hl5 _),by rw[upd_ne (ne_of_none hQ4 hl5)];exact hQ4,ne_of_none hQ4 hl5,same_back sA hl5,?_⟩
    rw[upd_same,List.map_append];rfl
   | inl b=>
    have stepA:∀ z:Str,z=atS b->∃ (l':Addr) (o5:Option V),[some (V.ref a),some (.str wd),some (.ref l),none,none,some y]=[some (.ref a),some (.str wd),some (.ref l'),none,none,o5]/\Same H (upd H' l (.lst (pre.map V.str++[.str z])))/\(upd H' l (.lst (pre.map V.str++[.str z]))) q=some (.tup r)/\q≠l'/\H l'=none/\(upd H' l (.lst (pre.map V.str++[.str z]))) l'=some (.lst ((pre++elW (.inl b)).map V.str)):=fun z ez=>
     ⟨l,_,rfl,fun d od e=>by rw[upd_ne (ne_of_none e hlN)];exact sH _ _ e,by rw[upd_ne nq];exact hQ,nq,hlN,by rw[upd_same,List.map_append,ez];rfl⟩
    have lt1:(pre.map V.str).length<sizeLine:=line1 (by rw[List.length_map];lia)
    cases b with
    | int n=>
     have en:y=.int n:=by rw[elD,atD,IsDt]at iu;exact iu
     subst en
     have okn:n.natAbs<10 ^ 34:=okE.1 _ rfl
     refine⟨_,rfl,.inl ⟨_,_,_,rfl,.inl ⟨rfl,.inl ⟨⟨n,rfl⟩,rfl⟩⟩,_,rfl,iteF ?_⟩⟩
     exact⟨_,rfl,.inl ⟨rfl,_,SqL.of hL⟩,_,rfl,.inl ⟨n,rfl,log_lt okn,l,_,_,rfl,rfl,hL,lt1,stepA _ rfl⟩⟩
    | txt z=>
     have en:y=.str z:=by rw[elD,atD,IsDt]at iu;exact iu
     subst en
     refine⟨_,rfl,.inl ⟨_,_,_,rfl,.inl ⟨rfl,.inr (.inl ⟨⟨z,rfl⟩,rfl⟩)⟩,_,rfl,iteF ?_⟩⟩
     exact⟨_,rfl,.inl ⟨rfl,_,SqL.of hL⟩,_,rfl,.inr ⟨z,rfl,l,_,_,rfl,rfl,hL,lt1,stepA _ rfl⟩⟩
  case done=>
   rintro σ H' ⟨l,o5,rfl,sH,hQ,nq,hlN,hL⟩
   rw[List.take_of_length_le (by lia)]at hL
   exact⟨_,rfl,fin l H' sH hlN (by rw[etw];exact hL)⟩
theorem lwords_all (T:Tx mg) (Zak:Df K mg "_law_words" (top 35) f fd ["question"])
  (Zaj:Df K mg "_law_kind_words" (top 34) f_kw fd_kw ["kind"]) (ZaG:FnOk P w K mg base CX0 3 f_kw fd_kw ["kind"] (spWd (KG 2))):∀ d:Nat,FnOk P w K mg base CX0 (d+4) f fd ["question"] (spWd (GQ d)):=fun d=>by
 induction d using Nat.strongRecOn with
 | ind d ih=>exact ok_lwords (k:=d+3) (by lia) T Zak (fnOk_lt fun e he=>(ih e he).mono (by lia)) Zaj ZaG
end
end K11
end
section
namespace K11
open PySem L2 Kn
inductive Nd:Nat->Dt->Prop where
 | int {n:Nat} (i:Int):Nd n (.int i)
 | str {n:Nat} (s:Str):Nd n (.str s)
 | tup {n:Nat} (ds:List Dt) (h:ds.length<=1000) (a:∀ d∈ds,Nd n d):Nd (n+1) (.tup ds)
theorem Nd.up {n:Nat}{d:Dt} (h:Nd n d):Nd (n+1) d:=by
 induction h with
 | int=>exact .int _
 | str=>exact .str _
 | tup ds h _ ih=>exact .tup ds h ih
theorem Nd.mono {n m:Nat}{d:Dt} (l:n<=m) (h:Nd n d):Nd m d:=by
 induction l with
 | refl=>exact h
 | step _ ih=>exact ih.up
theorem nd_node {n:Nat}{w:Str}{as:List At}{ps:List Tr} (hl:as.length+ps.length<=14) (h:∀ q∈ps,Nd n (tdat q)):Nd (n+1) (tdat (.node w as ps)):=by
 rw[tdat,tdatL_map]
 refine .tup _ (by rw[List.length_cons,List.length_append,List.length_map,List.length_map];lia) fun d hd=>?_
 rcases List.mem_cons.mp hd with rfl | hd
 ·exact .str _
 ·rcases List.mem_append.mp hd with hd | hd
  ·obtain⟨a,_,rfl⟩:=List.mem_map.mp hd
   cases a with
   | int i=>exact .int _
   | txt s=>exact .str _
  ·obtain⟨q,hq,rfl⟩:=List.mem_map.mp hd
   exact h q hq
theorem nd_two {n:Nat}{a b:Dt} (h1:Nd n a) (h2:Nd n b):Nd (n+1) (.tup [a,b]):=.tup _ (by show 2<=1000;decide) fun d hd=>by
 simp only[List.mem_cons,List.not_mem_nil,or_false]at hd
 rcases hd with rfl | rfl
 ·exact h1
 ·exact h2
theorem nd_row {n:Nat}{ps:List (Str×Tr)} (hl:ps.length<=14) (h:∀ p∈ps,Nd n (tdat p.2)):Nd (n+3) (tdat (.row ps)):=by
 rw[tdat,tdatR_map]
 refine nd_two (.str _) (.tup _ (by rw[List.length_map];lia) fun d hd=>?_)
 obtain⟨p,hp,rfl⟩:=List.mem_map.mp hd
 exact nd_two (.str _) (h p hp)
theorem nd_kg {d:Nat}{t:Tr} (h:KG d t):Nd (3 * d+1) (tdat t):=by
 induction h with
 | num=>exact (nd_node (n:=0) (ps:=[]) (by simp) fun q hq=>(nomatch hq)).mono (by lia)
 | word=>exact (nd_node (n:=0) (ps:=[]) (by simp) fun q hq=>(nomatch hq)).mono (by lia)
 | bag _ ih=>exact (nd_node (by simp) (one_mem (P:=fun q=>Nd _ (tdat q)) ih)).mono (by lia)
 | row hl hn hs _ ih=>exact (nd_row hl ih).mono (by lia)
theorem nd_qg {d:Nat}{b:Bool}{t:Tr} (h:QG d b t):Nd (3 * d+11) (tdat t):=by
 induction h with
 | num=>exact (nd_node (n:=0) (ps:=[]) (by simp) fun q hq=>(nomatch hq)).mono (by lia)
 | leaf=>exact (nd_node (n:=0) (ps:=[]) (by simp) fun q hq=>(nomatch hq)).mono (by lia)
 | none h=>exact (nd_node (by simp) (one_mem (P:=fun q=>Nd _ (tdat q)) (nd_kg h))).mono (by lia)
 | row0=>exact (nd_row (n:=0) (ps:=[]) (by simp) fun q hq=>(nomatch hq)).mono (by lia)
 | row hl _ _ _ ih=>exact (nd_row hl ih).mono (by lia)
 | times _ _ ih=>exact (nd_node (by simp) (one_mem (P:=fun q=>Nd _ (tdat q)) ih)).mono (by lia)
 | «at» _ _ ih=>exact (nd_node (by simp) (one_mem (P:=fun q=>Nd _ (tdat q)) ih)).mono (by lia)
 | one _ ih=>exact (nd_node (by simp) (one_mem (P:=fun q=>Nd _ (tdat q)) ih)).mono (by lia)
 | not _ ih=>exact (nd_node (by simp) (one_mem (P:=fun q=>Nd _ (tdat q)) ih)).mono (by lia)
 | when _ _ i1 i2=>exact (nd_node (by simp) (two_mem (P:=fun q=>Nd _ (tdat q)) i1 i2)).mono (by lia)
 | bind _ _ _ _ i1 i2=>exact (nd_node (by simp) (two_mem (P:=fun q=>Nd _ (tdat q)) i1 i2)).mono (by lia)
 | two _ _ _ i1 i2=>exact (nd_node (by simp) (two_mem (P:=fun q=>Nd _ (tdat q)) i1 i2)).mono (by lia)
 | cmp _ _ _ i1 i2=>exact (nd_node (by simp) (two_mem (P:=fun q=>Nd _ (tdat q)) i1 i2)).mono (by lia)
 | logic _ _ _ i1 i2=>exact (nd_node (by simp) (two_mem (P:=fun q=>Nd _ (tdat q)) i1 i2)).mono (by lia)
section
variable {P:Program}{w:World}{K:PySem.W.Frag}{mg:Str->Option Value}{base:Heap}{f:Addr}{fd:FuncData}
def spSame (n:Nat):Sp:=fun vs H Q _=>∃ (v u:V) (d:Dt),vs=[v,u]/\IsDt H d v/\IsDt H d u/\Nd n d/\∀ H',Same H H'->Q (.bl true) H'
def preS:Nat->Sp
 | 0=>fun _ _ _ _=>False
 | n+1=>spSame n
theorem Zbl:FnScope ["found","due"] ["found","due"] (defScope (top 36)):=⟨rfl,rfl,rfl,by decide +kernel,rfl,by decide +kernel,by decide +kernel⟩
theorem ok_same {k n:Nat} (hk:1<=k) (T:Tx mg) (Zap:Df K mg "_law_same" (top 36) f fd ["found","due"]) (ZaZ:FnOk P w K mg base CX0 k f fd ["found","due"] (preS n)):FnOk P w K mg base CX0 (k+1) f fd ["found","due"] (spSame n):=by
 refine Zap.fn.okH Zbl (fun vs H Q E h=>?_) (fun cdv A outer s H vs Q E hr h=>?_)
 ·obtain⟨v,u,d,rfl,_⟩:=h;rfl
 obtain⟨v,u,d,rfl,iv,iu,nw,fin⟩:=h
 have hu:=u110 hr
 have hu0:=u0 hr
 have hu1:=hu_of hr
 refine⟨_,(wss_cons (ws_if (wt_val (we_callB call_isA rfl T.z_isinstance bt_isinstance (wa_cons (wv 1) (wa_cons (we_bltn rfl T.z_tuple bt_tuple (relv_ty _)) wa_nil)))) (wss_cons (ws_if (wt_pw (ww_or (wt_not (wt_val (we_callB call_isA rfl T.z_isinstance bt_isinstance (wa_cons (wv 0) (wa_cons (we_bltn rfl T.z_tuple bt_tuple (relv_ty _)) wa_nil))))) (ww_or1 (wt_cmpR (op_neU hu) (we_callB call_lenU rfl T.z_len bt_len (wa_cons (wv 0) wa_nil)) (we_callB call_lenU rfl T.z_len bt_len (wa_cons (wv 1) wa_nil)) (nomark _))))) (wss_one (ws_ret we_bl)) wss_nil)
   (wss_one (ws_ret (we_callB (call_all rfl) rfl T.z_all bt_all (wa_cons (we_lc (Nt:=["one","other"]) (fr:=[]) (LcOk.of (sc:=defScope (top 36)) (N:=["found","due"]) rfl rfl (by decide +kernel)) rfl (wi_zip rfl T.z_zip (wa_cons (wv 0) (wa_cons (wv 1) wa_nil))) (fun z=>wg_tup rfl (wgs_cons (wg_name (i:=0) (by show (["one","other"]:List Str).Nodup;decide +kernel) rfl (Or.inl rfl) (.inr rfl)) (wgs_cons (wg_name (i:=1) (by show (["one","other"]:List Str).Nodup;decide +kernel) rfl (Or.inl rfl) (.inr rfl)) wgs_nil))) (fun z=>tgt_two (by decide) (by decide)) (fun z=>wif_nil) (fun z=>(we_call ZaZ (hr.mono (by lia)) rfl Zap.mg Zap.kp Zap.b .nil pass0 (wa_cons (wv 0) (wa_cons (wv 1) wa_nil))))) wa_nil))))) wss_nil)
   (wss_cons (ws_if (wt_pw (ww_or (wt_val (we_callB call_isA rfl T.z_isinstance bt_isinstance (wa_cons (wv 0) (wa_cons (we_bltn rfl T.z_bool bt_bool (relv_ty _)) wa_nil)))) (ww_or1 (wt_cmpR (op_neU hu) (we_callB call_isA rfl T.z_isinstance bt_isinstance (wa_cons (wv 0) (wa_cons (we_bltn rfl T.z_str bt_str (relv_ty _)) wa_nil))) (we_callB call_isA rfl T.z_isinstance bt_isinstance (wa_cons (wv 1) (wa_cons (we_bltn rfl T.z_str bt_str (relv_ty _)) wa_nil))) (nomark _))))) (wss_one (ws_ret we_bl)) wss_nil)
   (wss_one (ws_ret (we_and (we_callB call_isA rfl T.z_isinstance bt_isinstance (wa_cons (wv 0) (wa_cons (we_tup (wa_cons (we_bltn rfl T.z_str bt_str (relv_ty _)) (wa_cons (we_bltn rfl T.z_int bt_int (relv_ty _)) wa_nil))) wa_nil))) (we_one (we_cmpR (op_eqU hu) (wv 0) (wv 1) (nomark _)))))))),?_⟩
 obtain⟨X',gX'⟩:∃ X',X'=(cxOf CX0 P w K mg base ["found","due"] "_law_same" (defScope (top 36)) f cdv A outer s H E).nox:=⟨_,rfl⟩
 try rw[<- gX']
 clear gX'
 cases nw with
 | int i=>
  rw[IsDt]at iv iu
  subst iv
  subst iu
  refine⟨_,rfl,.inl ⟨_,_,_,false,rfl,.int i,ist_int_tuple,_,rfl,iteF ?_⟩⟩
  refine⟨_,rfl,.inl ⟨_,_,_,false,rfl,.int i,ist_int_bool,_,rfl,iteF ?_⟩⟩
  refine⟨_,rfl,.inl ⟨_,_,_,false,rfl,.int i,ist_int_str,_,rfl,.inl ⟨_,_,_,false,rfl,.int i,ist_int_str,.inl ⟨rfl,_,rfl,iteF ?_⟩⟩⟩⟩
  refine⟨_,rfl,(by show 2<=sizeLine;decide),fun tp htp=>.inr ⟨_,tp,rfl,upd_same,.inl ⟨i,rfl⟩,true,rfl,iteT ?_⟩⟩
  refine⟨_,rfl,_,rfl,.inl ⟨rfl,?_⟩⟩
  rw[decide_eq_true rfl]
  exact fin _ (same_new htp _)
 | str z=>
  rw[IsDt]at iv iu
  subst iv
  subst iu
  refine⟨_,rfl,.inl ⟨_,_,_,false,rfl,.str z,ist_str_tuple,_,rfl,iteF ?_⟩⟩
  refine⟨_,rfl,.inl ⟨_,_,_,false,rfl,.str z,ist_str_bool,_,rfl,iteF ?_⟩⟩
  refine⟨_,rfl,.inl ⟨_,_,_,true,rfl,.str z,ist_self _,_,rfl,.inl ⟨_,_,_,true,rfl,.str z,ist_self _,.inl ⟨rfl,_,rfl,iteF ?_⟩⟩⟩⟩
  refine⟨_,rfl,(by show 2<=sizeLine;decide),fun tp htp=>.inr ⟨_,tp,rfl,upd_same,.inr ⟨z,rfl⟩,true,rfl,iteT ?_⟩⟩
  refine⟨_,rfl,_,rfl,.inl ⟨rfl,?_⟩⟩
  rw[decide_eq_true rfl]
  exact fin _ (same_new htp _)
 | @tup n ds hl hn=>
  rw[IsDt]at iv iu
  obtain⟨a,xs,rfl,ha,ia⟩:=iv
  obtain⟨b,ys,rfl,hb,ib⟩:=iu
  have lx:=ia.length
  have ly:=ib.length
  refine⟨_,rfl,.inl ⟨_,_,_,true,rfl,.tup hb,ist_self _,_,rfl,iteT ?_⟩⟩
  refine⟨_,rfl,.inl ⟨_,_,_,true,rfl,.tup ha,ist_self _,_,rfl,iteF ?_⟩⟩
  refine⟨_,rfl,.inl ⟨a,xs,rfl,.inr (SqT.of ha),_,rfl,.inl ⟨b,ys,rfl,.inr (SqT.of hb),.inl ⟨rfl,_,rfl,?_⟩⟩⟩⟩
  rw[lx,ly,decide_eq_true rfl]
  refine iteF ?_
  refine⟨_,rfl,_,rfl,a,b,xs,ys,rfl,SqT.of ha,SqT.of hb,?_⟩
  refine⟨fun i m qs H'=>Same H H'/\m+i=ds.length/\qs=(List.replicate i true).map V.bl,⟨ds.length,.refl _,rfl,rfl⟩,?_⟩
  rintro i m qs H' ⟨sH,hm,rfl⟩
  refine⟨line1 (by rw[List.length_map,List.length_replicate];lia),?_⟩
  by_cases hi:i<ds.length
  ·obtain⟨v1,e1,d1⟩:=ia.get (i:=i) (d:=ds[i]) (List.getElem?_eq_getElem hi)
   obtain⟨v2,e2,d2⟩:=ib.get (i:=i) (d:=ds[i]) (List.getElem?_eq_getElem hi)
   refine .inr ⟨⟨xs,ys,v1,v2,SqT.of (sH _ _ ha),SqT.of (sH _ _ hb),e1,e2⟩,fun z x H5 hy=>?_⟩
   obtain⟨pt,rfl,hpt,w1,w2,h1,h2,rfl⟩:=hy
   have q1:=h1 _ (SqT.of (sH _ _ ha))
   rw[e1]at q1
   cases q1
   have q2:=h2 _ (SqT.of (sH _ _ hb))
   rw[e2]at q2
   cases q2
   have s5:=sH.trans (same_new hpt (.tup [v1,v2]))
   refine⟨pt,_,rfl,SqT.of upd_same,rfl,_,_,rfl,_,_,rfl,rfl,?_⟩
   refine tall ?_
   refine⟨_,rfl,_,rfl,v1,v2,ds[i],rfl,IsDt.mono s5.tups d1,IsDt.mono s5.tups d2,hn _ (List.getElem_mem hi),fun H6 s6=>?_⟩
   refine⟨m-1,by lia,s5.trans s6,by lia,?_⟩
   rw[List.replicate_succ',List.map_append];rfl
  ·refine .inl ⟨⟨xs,ys,SqT.of (sH _ _ ha),SqT.of (sH _ _ hb),.inl (by lia)⟩,fun l hl'=>⟨l,_,rfl,SqL.of upd_same,?_⟩⟩
   rw[show (List.replicate i true).all id=true from by simp]
   exact fin _ (sH.trans (same_new hl' _))
theorem same_all (T:Tx mg) (Zap:Df K mg "_law_same" (top 36) f fd ["found","due"]):∀ n:Nat,FnOk P w K mg base CX0 (n+2) f fd ["found","due"] (spSame n)
 | 0=>ok_same (k:=1) (by decide) T Zap ⟨fun _ _ _ _ h=>h.elim,fun _ _ _ _ _ _ _ _ _ _ _ _ _ h=>h.elim⟩
 | n+1=>ok_same (k:=n+2) (by lia) T Zap (same_all T Zap n)
end
end K11
end
section
namespace L2
open PySem PySem.Spec PyProof.Rows PySem.W
section
variable {prog:Program}{w:World}{A:Around}{E:Value->Shared->Prop}{s:Shared}
variable {I:Addr}{fp wr:List Addr}{n:Nat}{P:Nat->Value->Prop}{St:Nat->Heap->Prop}
end
end L2
end
section
namespace L2
open PySem PySem.Spec PyProof.Rows PySem.W
open Classical in
section
variable {P:Program}{w:World}{H:Hp}
end
end L2
end
section
namespace L2
open PySem PySem.Spec PyProof.Rows PySem.W
section
variable {prog:Program}{w:World}{A:Around}{E:Value->Shared->Prop}{s:Shared}{T:String}{r:Addr}{n:Nat}{P:Nat->Value->Prop}{OK:Heap->Prop}
end
end L2
end
section
namespace L2
open PySem PySem.Spec PyProof.Rows PySem.W
section
variable {X:Cx}
end
end L2
end
section
namespace L2
open PySem PySem.Spec PyProof.Rows PySem.W
open Kn (krun)
section
variable {X:Cx}
end
end L2
end
section
namespace L2
open PySem PySem.Spec PyProof.Rows PySem.W
section
variable {X:Cx}
end
end L2
end
section
namespace L2
open PySem PySem.Spec PyProof.Rows
section
open AutoSeq1 (wpAny_loadPart')
end
section
variable {prog:Program}{w:World}{A:Around}{E:Value->Shared->Prop}{s:Shared}
end
section
variable {X:Cx}
end
end L2
end
section
namespace L2
open PySem PySem.Spec PyProof.Rows PySem.W
section
variable {X:Cx}
end
end L2
end
section
namespace L2
open PySem PySem.Spec PyProof.Rows PySem.W
section
variable {prog:Program}{w:World}{A:Around}{E:Value->Shared->Prop}{s:Shared}
end
section
variable {X:Cx}
end
end L2
end
section
namespace L2
open PySem PySem.Spec PyProof.Rows PySem.W
section
variable {X:Cx}{e o:Expr}{te to:TE}
theorem m1_of {m:Str}{apos cpos:Pos} (hb:attributeBase o m X.env (eval o X.env)=eval o X.env) (h1:notStar e=true) (hline:(apos.endLine == cpos.line)=true):M1 X o m apos e cpos:=
 ⟨hb,few_of (by show (notStar e && true)=true;rw[h1];rfl) (by show 1<29;decide),hline,by rw[star_cons h1];rfl⟩
end
end L2
end
section
namespace L2
open PySem PySem.Spec PyProof.Rows
section
variable {X:Cx}
def rInT:R2:=fun x y H Q=>∃ a b:Str,x=.str a/\y=.str b/\Q (.bl (Txt.contains b a)) H
theorem op_inT:OpR X (compareOp .In) rInT:=by
 intro pins s σ H x y v u Q I rx ry h
 obtain⟨a,b,rfl,rfl,q⟩:=h
 obtain⟨t,rfl⟩:=rx
 obtain⟨t2,rfl⟩:=ry
 exact PySem.P.in_str ⟨.bl _,H,I,rfl,q⟩
def rLeT:R2:=fun x y H Q=>∃ a b:Str,x=.str a/\y=.str b/\Q (.bl (!decide (b.cps.toList<a.cps.toList))) H
theorem op_leT:OpR X (compareOp .LtE) rLeT:=by
 intro pins s σ H x y v u Q I rx ry h
 obtain⟨a,b,rfl,rfl,q⟩:=h
 obtain⟨t,rfl⟩:=rx
 obtain⟨t2,rfl⟩:=ry
 exact PySem.P.le_str ⟨.bl _,H,I,rfl,q⟩
def rStarts:V->List V->Hp->VK->Prop:=fun x xs H Q=>∃ a b:Str,x=.str a/\xs=[.str b]/\Q (.bl (Txt.startswith a b)) H
theorem mt_starts:MtR X "str.startswith" rStarts:=by
 intro pins s σ H x xs v us Q I rx rxs h
 obtain⟨a,b,rfl,rfl,q⟩:=h
 obtain⟨t,rfl⟩:=rx
 obtain⟨u,rfl,ru⟩:=rxs.one
 obtain⟨t2,rfl⟩:=ru
 exact call_gives F.slot_str_startswith (typeIs_str _ _ _) F.entry_str_startswith (F.args_str_startswith_2 _ _) (gives_str_startswith a b t t2) ⟨.bl _,H,I,rfl,q⟩
def rIntT:List V->Hp->VK->Prop:=fun xs H Q=>∃ (a:Str) (n:Int),xs=[.str a]/\PySem.intText? a=some n/\a.length<=640/\Q (.int n) H
theorem call_intT:CallR X (.type "int") rIntT:=by
 intro pins s σ H xs us Q I r h
 obtain⟨a,n,rfl,hn,hl,q⟩:=h
 obtain⟨u,rfl,ru⟩:=r.one
 obtain⟨t,rfl⟩:=ru
 exact PySem.W.KIN.call_text hn hl ⟨.int n,H,I.tok _,⟨_,rfl⟩,q⟩
def tNGet (K:PySem.W.Frag) (a:Addr) (td ty:TE):TE:=fun σ H Q=>td σ H fun x H1=>x=.ref a/\ty σ H1 fun y H2=>∃ (z:Str) (r:Option Value) (v:V),y=.str z/\PySem.W.nsIn K a z=some r/\RelV v (r.getD .none)/\Q v H2
theorem we_nget {a:Addr}{o e:Expr}{td ty:TE}{apos cpos:Pos} (d:TopD X.K X.w a) (ho:Hd (PE X o td)) (he:Hd (PE X e ty)) (hb:attributeBase o "get" X.env (eval o X.env)=eval o X.env:=by rfl) (h1:notStar e=true:=by rfl) (hline:(apos.endLine == cpos.line)=true:=by rfl) :
  Hd (PE X (.Call (.Attribute o "get" apos) [e] [] cpos) (tNGet X.K a td ty)):=by
 have m:=m1_of hb h1 hline
 refine⟨fun pins s σ H Q I h=>?_⟩
 obtain⟨es,n,l,k⟩:=d.ex
 refine wpAny_Call_method m.base m.few m.line PySem.F.plainAttrs_dict PySem.F.slot_dict_get PySem.F.type_dict_get (thn (ho.out pins s σ H _ I h) fun u s1 ⟨x,H1,I1,rx,ex,q1⟩=>?_)
 subst ex
 obtain rfl:u=Value.ref a:=rx
 have hm1:=PySem.W.mapOf_K (prog:=X.prog) (w:=X.w) I1.kIn l k
 refine⟨hm1.typeIs,fun b q=>?_,?_⟩
 ·cases q
  obtain⟨ob,es',n',e1,e2,_⟩:=hm1
  exact⟨ob,e1,e2.2.1⟩
 rw[m.trees]
 refine Calls.callWith_builtin rfl (Calls.evalArgs_plain (Calls.spliced_cons (thn (he.out pins s1 σ H1 _ I1 q1) fun iv s2 ⟨y,H2,I2,ry,z,r,v,ey,en,rv,q2⟩=>Calls.spliced_nil ?_)))
 subst ey
 obtain⟨t,rfl⟩:=ry
 have hm:=PySem.W.mapOf_K (prog:=X.prog) (w:=X.w) I2.kIn l k
 refine call_meetsIn PySem.F.slot_dict_get hm.typeIs PySem.F.entry_dict_get (PySem.F.args_dict_get_2 _ _) (meets_dict_get (strKind X.prog X.w) a (strKind_is X.prog X.w z t) d.lo) ⟨_,hm,?_⟩
 rw[PySem.W.find_K l en]
 exact⟨v,H2,I2.tok _,rv,q2⟩
theorem ws_fldaug {o value:Expr}{f:Str}{pos tpos:Pos}{ta tv:TE}{op:Operator}{rd:V->V->Hp->VK->Prop} (ha:Hd (PE X o ta)) (hv:Hd (PE X value tv)) (hop:InOp X op rd):Hd (PS X (.AugAssign (.Attribute o f tpos) op value pos) (sFldAug X.K ta tv rd f)):=⟨ps_fldaug ha.out hv.out hop⟩
theorem relv_str (x:Str) (t:Tok):RelV (.str x) (.str x t):=⟨t,rfl⟩
end
end L2
end
section
namespace Kn
open PySem L2
def spc:Str:=⟨#[32]⟩
theorem spc_eq:Str.ofString " "=spc:=by decide +kernel
theorem app_toList (a b:Str):(a++b).cps.toList=a.cps.toList++b.cps.toList:=by
 show (a.cps++b.cps).toList=_
 rw[Array.toList_append]
theorem free_cut:∀ {a b r s:List Nat},32 ∉ a->32 ∉ b->a++32::r=b++32::s->a=b/\r=s
 | [],[],_,_,_,_,h=>by simpa using h
 | [],c::b,_,_,_,hb,h=>by
  rw[List.nil_append,List.cons_append]at h
  injection h with h1 _
  exact absurd (by rw[h1];exact List.mem_cons_self) hb
 | c::a,[],_,_,ha,_,h=>by
  rw[List.nil_append,List.cons_append]at h
  injection h with h1 _
  exact absurd (by rw[<- h1];exact List.mem_cons_self) ha
 | c::a,d::b,_,_,ha,hb,h=>by
  rw[List.cons_append,List.cons_append]at h
  injection h with h1 h2
  obtain⟨e1,e2⟩:=free_cut (fun z=>ha (List.mem_cons_of_mem _ z)) (fun z=>hb (List.mem_cons_of_mem _ z)) h2
  exact⟨by rw[h1,e1],e2⟩
theorem join_two (x:Str) (y:Str) (r:List Str):(Str.join spc (x::y::r)).cps.toList=x.cps.toList++32::(Str.join spc (y::r)).cps.toList:=by
 show (x++spc++Str.join spc (y::r)).cps.toList=_
 rw[app_toList,app_toList,List.append_assoc];rfl
theorem join_inj:∀ {vs ws:List Str},vs≠[]->ws≠[]->(∀ v∈vs,32 ∉ v.cps.toList)->(∀ v∈ws,32 ∉ v.cps.toList)->(Str.join spc vs).cps.toList=(Str.join spc ws).cps.toList->vs=ws
 | [],_,h,_,_,_,_=>absurd rfl h
 | _,[],_,h,_,_,_=>absurd rfl h
 | [v],[w],_,_,_,_,e=>by
  have:v=w:=str_ext e
  rw[this]
 | [v],w::x::ws,_,_,hv,_,e=>by
  rw[join_two]at e
  have e:v.cps.toList=_:=e
  exact absurd (by rw[e];simp) (hv v List.mem_cons_self)
 | v::x::vs,[w],_,_,_,hw,e=>by
  rw[join_two]at e
  have e:_=w.cps.toList:=e
  exact absurd (by rw[<- e];simp) (hw w List.mem_cons_self)
 | v::x::vs,w::y::ws,_,_,hv,hw,e=>by
  rw[join_two,join_two]at e
  obtain⟨e1,e2⟩:=free_cut (hv v List.mem_cons_self) (hw w List.mem_cons_self) e
  rw[str_ext e1,join_inj (by simp) (by simp) (fun z hz=>hv z (List.mem_cons_of_mem _ hz)) (fun z hz=>hw z (List.mem_cons_of_mem _ hz)) e2]
theorem split_join {ws:List Str} (h:ws≠[]) (f:∀ v∈ws,32 ∉ v.cps.toList):Txt.split (Txt.join (Str.ofString " ") ws) (Str.ofString " ")=ws:=by
 rw[spc_eq]
 have e:=StrLaws.join_split (Txt.join spc ws) spc
 have g:Txt.join spc ws=Str.join spc ws:=StrLaws.glued_eq_join spc ws
 refine join_inj (fun z=>?_) h (StrLaws.split_free _ 32) f (by rw[e,g])
 have:=PyProof.Rows.split_pos (Txt.join spc ws) spc
 rw[z]at this
 exact absurd this (by decide)
theorem head_nz (m:Nat) (h:0<m):∃ c t,(Nat.toDigits 10 m).map Char.toNat=c::t/\c≠48:=by
 induction m using Nat.strongRecOn with
 | _ m ih=>
  by_cases h10:m<10
  ·rw[Nat.toDigits_of_lt_base h10]
   refine⟨_,_,rfl,?_⟩
   have:∀ d:Nat,d<10->0<d->(Nat.digitChar d).toNat≠48:=by decide
   exact this m h10 h
  ·have hm:m % 10<10:=Nat.mod_lt m (by decide)
   have t:Nat.toDigits 10 (m / 10)++Nat.toDigits 10 (m % 10)=Nat.toDigits 10 (10 * (m / 10)+m % 10):=Nat.toDigits_append_toDigits (by decide) (by lia) hm
   rw[Nat.div_add_mod]at t
   obtain⟨c,r,e,hc⟩:=ih (m / 10) (by lia) (by lia)
   rw[<- t,List.map_append,e]
   exact⟨c,_,rfl,hc⟩
theorem num_shape (i:Int):(∃ m:Nat,i=m/\dg i=(Nat.toDigits 10 m).map Char.toNat/\(m=0\/∃ c t,dg i=c::t/\c≠48)) \/
  (∃ m:Nat,i=-(m:Int)/\∃ c t,dg i=45::c::t/\(Nat.toDigits 10 m).map Char.toNat=c::t/\c≠48):=by
 cases i with
 | ofNat m=>
  refine .inl ⟨m,rfl,dg_pos m,?_⟩
  by_cases h:m=0
  ·exact .inl h
  ·obtain⟨c,t,e,hc⟩:=head_nz m (by lia)
   exact .inr ⟨c,t,by rw[show Int.ofNat m=(m:Int) from rfl,dg_pos,e],hc⟩
 | negSucc m=>
  obtain⟨c,t,e,hc⟩:=head_nz (m+1) (by lia)
  exact .inr ⟨m+1,by lia,c,t,by rw[dg_neg,e],e,hc⟩
theorem num_read {i:Int} (h:(numS i).length<=640):PySem.intText? (numS i)=some i:=by
 have hl:(numS i).length<=4300:=Nat.le_trans h (by decide)
 rcases num_shape i with ⟨m,rfl,e,_⟩ | ⟨m,rfl,c,t,e,e2,_⟩
 ·have hd:NumText.AllDigits (numS (m:Int)).cps.toList:=fun c hc=>digit_sign (m:=m) (by rw[<- e];exact hc)
  have:=PySem.intText_digits hd (by rw[show (numS (m:Int)).cps.toList=_ from e];exact digits_ne m) hl
  rw[show (numS (m:Int)).cps.toList=_ from e,PySem.W.KIN.val_back]at this
  exact this
 ·have hx:(numS (-(m:Int))).cps.toList=45::(c::t):=e
  have hd:NumText.AllDigits (c::t):=fun d hd=>digit_sign (m:=m) (by rw[e2];exact hd)
  have:=PySem.intText_neg hx hd (by simp) hl
  rw[<- e2,PySem.W.KIN.val_back]at this
  exact this
theorem cut1 {x:Str}{c:Nat}{t:List Nat} (h:x.cps.toList=c::t):Txt.slice x (some 1) none=⟨t.toArray⟩:=by
 show StrLaws.sliceText x (some 1) none=_
 rw[StrLaws.sliceText_from (by rw[h,List.length_cons];lia)]
 rw[h]
 simp
theorem starts_minus (x:Str):Txt.startswith x (Str.ofString "-")=decide (x.cps.toList[0]?=some 45):=by
 have e:Str.ofString "-"=⟨#[45]⟩:=by decide +kernel
 rw[e]
 unfold Txt.startswith
 by_cases h:x.cps.toList[0]?=some 45
 ·have:=(StrLaws.subAt_one x 45 0).mpr h
  rw[decide_eq_true h,decide_eq_true this.1,this.2];rfl
 ·rw[decide_eq_false h]
  cases h1:(decide (0+(⟨#[45]⟩:Str).length<=x.length) && Builtin.Str.subAt x ⟨#[45]⟩ 0)
  ·rfl
  ·rw[Bool.and_eq_true,decide_eq_true_eq]at h1
   exact absurd ((StrLaws.subAt_one x 45 0).mp h1) h
theorem has_one (x:Str) (c:Nat):Txt.contains x ⟨#[c]⟩=decide (c∈x.cps.toList):=StrLaws.found_one x c
end Kn
end
section
namespace K11
open PySem L2 Kn
theorem let_in {c:Nat} (h1:97<=c) (h2:c<=122):c∈(Str.ofString "abcdefghijklmnopqrstuvwxyz").cps.toList:=by
 have:(Str.ofString "abcdefghijklmnopqrstuvwxyz").cps.toList=(List.range 26).map (97 + ·):=by decide +kernel
 rw[this]
 exact List.mem_map.mpr ⟨c-97,List.mem_range.mpr (by lia),by lia⟩
theorem fig_in {c:Nat} (h1:48<=c) (h2:c<=57):c∈(Str.ofString "0123456789").cps.toList:=by
 have:(Str.ofString "0123456789").cps.toList=(List.range 10).map (48 + ·):=by decide +kernel
 rw[this]
 exact List.mem_map.mpr ⟨c-48,List.mem_range.mpr (by lia),by lia⟩
theorem fig_of (i:Int) (hl:(numS i).length<=640):∃ (b:Bool) (fg:Str),Txt.startswith (numS i) (Str.ofString "-")=b/\(if b then fg=Txt.slice (numS i) (some 1) none else fg=numS i)/\fg≠Str.ofString "" /\
  (∀ c∈fg.cps.toList,48<=c/\c<=57)/\fg.length<=640/\∃ c,atI fg.cps.toList 0=some c/\(c≠48\/numS i=Str.ofString "0"):=by
 have e0:(Str.ofString "").cps.toList=[]:=by decide +kernel
 have hat:∀ (c:Nat) (t:List Nat),atI (c::t) 0=some c:=fun c t=>atI_nat (j:=0) (by rfl)
 rw[starts_minus]
 rcases num_shape i with ⟨m,rfl,e,h⟩ | ⟨m,rfl,c,t,e,e2,h⟩
 ·have e:(numS (m:Int)).cps.toList=_:=e
  have hd:∀ c∈(numS (m:Int)).cps.toList,48<=c/\c<=57:=fun c hc=>digit_sign (m:=m) (by rw[<- e];exact hc)
  obtain⟨c,t,ec⟩:∃ c t,(numS (m:Int)).cps.toList=c::t:=by
   cases q:(numS (m:Int)).cps.toList with
   | nil=>rw[q]at e;exact absurd e.symm (digits_ne m)
   | cons c t=>exact⟨c,t,rfl⟩
  refine⟨false,numS m,?_,by simp,fun z=>?_,hd,hl,c,by rw[ec];exact hat c t,?_⟩
  ·rw[ec]
   refine decide_eq_false fun z=>?_
   have:=hd c (by rw[ec];exact List.mem_cons_self)
   have:c=45:=by simpa using z
   lia
  ·rw[z,e0]at ec;cases ec
  ·rcases h with rfl | ⟨c',t',q,hc⟩
   ·exact .inr (by decide +kernel)
   ·have q:(numS (m:Int)).cps.toList=_:=q
    rw[ec]at q;cases q
    exact .inl hc
 ·have e:(numS (-(m:Int))).cps.toList=_:=e
  refine⟨true,⟨(c::t).toArray⟩,?_,?_,fun z=>?_,fun d hd=>digit_sign (m:=m) (by rw[e2];exact hd),?_,c,hat c t,.inl h⟩
  ·rw[e];rfl
  ·rw[if_pos rfl,Kn.cut1 e]
  ·have:=congrArg (fun x:Str=>x.cps.toList) z
   rw[e0]at this;cases this
  ·have:(numS (-(m:Int))).cps.toList.length<=640:=hl
   rw[e]at this
   show (c::t).toArray.size<=640
   simp at this ⊢
   lia
theorem TKN_flat:(TKN.map V.str).all flatV=true:=by decide +kernel
section
variable {P:Program}{w:World}{K:PySem.W.Frag}{mg:Str->Option Value}{base:Heap}{f f_only:Addr}{fd fd_only:FuncData}
theorem Zbm:FnScope ["text","signs"] ["text","signs"] (defScope (top 8)):=⟨rfl,rfl,rfl,by decide +kernel,rfl,by decide +kernel,by decide +kernel⟩
def spOnly:Sp:=fun vs H Q _=>∃ (t s:Str),vs=[.str t,.str s]/\(∀ c∈t.cps.toList,c∈s.cps.toList/\c<128)/\t.length<=1000/\∀ H',Same H H'->Q (.bl true) H'
theorem ok_only (T:Tx mg) (D:Df K mg "only_of" (top 8) f fd ["text","signs"]):FnOk P w K mg base CX0 1 f fd ["text","signs"] spOnly:=by
 refine D.fn.okH Zbm (fun vs H Q E h=>?_) (fun cdv A outer s H vs Q E hr h=>?_)
 ·obtain⟨t,s,rfl,_⟩:=h;rfl
 obtain⟨t,s,rfl,hs,hl,fin⟩:=h
 have hu:=u110 hr
 have hu0:=u0 hr
 have hu1:=hu_of hr
 refine⟨_,(wss_one (ws_ret (we_callB (call_all rfl) rfl T.z_all bt_all (wa_cons (we_lc (Nt:=["sign"]) (fr:=[("signs",1)]) (LcOk.of (sc:=defScope (top 8)) (N:=["text","signs"]) rfl rfl (by decide +kernel)) rfl (wi_str (wv 0)) (fun z=>wg_name (i:=0) (by show (["sign","signs"]:List Str).Nodup;decide +kernel) rfl (Or.inl rfl) (.inr rfl)) (fun z=>tgt_name (by decide)) (fun z=>wif_nil) (fun z=>(we_cmpR op_inT (wv 0) (wv 1) (by with_unfolding_all rfl)))) wa_nil)))),?_⟩
 have hl:t.cps.size<=1000:=hl
 refine⟨_,rfl,t,rfl,?_,?_⟩
 ·rw[Array.all_eq_true]
  intro i hi
  exact decide_eq_true (hs _ (Array.mem_toList_iff.mpr (Array.getElem_mem hi))).2
 refine⟨fun i m qs H'=>Same H H'/\m+i=t.cps.size/\qs=(List.replicate i true).map V.bl,⟨t.cps.size,.refl _,rfl,rfl⟩,?_⟩
 rintro i m qs H' ⟨sH,hm,rfl⟩
 refine⟨line1 (by rw[List.length_map,List.length_replicate];lia),?_⟩
 by_cases hi:i<t.cps.size
 ·refine .inr ⟨hi,fun z x H5 hy=>?_⟩
  obtain⟨rfl,c,ec,rfl⟩:=hy
  refine gall ?_
  refine⟨_,rfl,_,rfl,_,_,rfl,rfl,?_⟩
  have hc:c∈t.cps.toList:=by rw[<- Array.getElem?_toList]at ec;exact List.mem_of_getElem? ec
  rw[has_one,decide_eq_true (hs c hc).1]
  refine⟨m-1,by lia,sH,by lia,?_⟩
  rw[List.replicate_succ',List.map_append];rfl
 ·refine .inl ⟨by show _<=_;lia,fun l hl'=>⟨l,_,rfl,SqL.of upd_same,?_⟩⟩
  rw[show (List.replicate i true).all id=true from by simp]
  exact fin _ (sH.trans (same_new hl' _))
theorem Zbn:FnScope ["text"] ["text"] (defScope (top 9)):=⟨rfl,rfl,rfl,by decide +kernel,rfl,by decide +kernel,by decide +kernel⟩
theorem ok_isName {aT:Addr}{t1 t2:Tok} (T:Tx mg) (Zbo:mg "LONGEST_NAME"=some (.int 8 t1)) (Zbp:mg "LETTERS"=some (.str "abcdefghijklmnopqrstuvwxyz" t2)) (Zbq:mg "TAKEN_WORDS"=some (.ref aT)) (hTK:∀ H,SqT K H aT (TKN.map V.str)) (D:Df K mg "is_name" (top 9) f fd ["text"])
  (Zat:Df K mg "only_of" (top 8) f_only fd_only ["text","signs"]) (Za0:FnOk P w K mg base CX0 1 f_only fd_only ["text","signs"] spOnly):FnOk P w K mg base CX0 2 f fd ["text"] (fun vs H Q _=>∃ x,vs=[.str x]/\nmOk x/\∀ H',Same H H'->Q (.bl true) H'):=by
 refine D.fn.okH Zbn (fun vs H Q E h=>?_) (fun cdv A outer s H vs Q E hr h=>?_)
 ·obtain⟨t,rfl,_⟩:=h;rfl
 obtain⟨x,rfl,nm,fin⟩:=h
 have hu:=u110 hr
 have hu0:=u0 hr
 have hu1:=hu_of hr
 refine⟨_,(wss_one (ws_ret (we_and (we_chain op_le op_le we_int (we_callB call_lenU rfl T.z_len bt_len (wa_cons (wv 0) wa_nil)) (we_glob rfl Zbo (relv_int _ _))) (we_and (we_call Za0 (hr.mono (by lia)) rfl Zat.mg Zat.kp Zat.b .nil pass0 (wa_cons (wv 0) (wa_cons (we_glob rfl Zbp (relv_str _ _)) wa_nil))) (we_one (we_cmpR (op_notInU hu) (wv 0) (we_glob rfl Zbq (relv_ref _)) (by with_unfolding_all rfl))))))),?_⟩
 have l1:=nm.1
 have l2:=nm.2.1
 refine⟨_,rfl,.inr ⟨x,rfl,Nat.le_of_lt (line1 (by lia)),_,_,rfl,rfl,_,rfl,?_⟩⟩
 rw[decide_eq_true (show (1:Int)<=(x.length:Int) by lia)]
 refine⟨_,_,rfl,rfl,?_⟩
 refine⟨_,rfl,?_⟩
 rw[decide_eq_true (show (x.length:Int)<=8 by lia)]
 refine iteT ?_
 refine⟨_,rfl,_,_,rfl,fun c hc=>?_,by lia,fun H1 s1=>?_⟩
 ·have:=nm.2.2.1 c hc
  rw[isLet,Bool.and_eq_true,decide_eq_true_eq,decide_eq_true_eq]at this
  exact⟨let_in this.1 this.2,by lia⟩
 refine⟨_,rfl,_,rfl,.inl ⟨aT,_,rfl,.inr (hTK H1),rfl,TKN_flat,?_⟩⟩
 have:inV (V.str x) (TKN.map V.str)=false:=by
  cases q:inV (V.str x) (TKN.map V.str) with
  | false=>rfl
  | true=>exact absurd ((inV_str x TKN).mp q) nm.2.2.2
 rw[this]
 exact fin H1 s1
theorem Zbb:FnScope ["text","figures"] ["text"] (defScope (top 10)):=⟨rfl,rfl,rfl,by decide +kernel,rfl,by decide +kernel,by decide +kernel⟩
theorem ok_numberOf {t1:Tok} (T:Tx mg) (Zbr:mg "FIGURES"=some (.str "0123456789" t1)) (D:Df K mg "number_of" (top 10) f fd ["text"])
  (Zat:Df K mg "only_of" (top 8) f_only fd_only ["text","signs"]) (Za0:FnOk P w K mg base CX0 1 f_only fd_only ["text","signs"] spOnly) :
  FnOk P w K mg base CX0 2 f fd ["text"] (fun vs H Q _=>∃ i,vs=[.str (numS i)]/\(numS i).length<=640/\∀ H',Same H H'->Q (.int i) H'):=by
 refine D.fn.okH Zbb (fun vs H Q E h=>?_) (fun cdv A outer s H vs Q E hr h=>?_)
 ·obtain⟨t,rfl,_⟩:=h;rfl
 obtain⟨i,rfl,hl,fin⟩:=h
 have hu:=u110 hr
 have hu0:=u0 hr
 have hu1:=hu_of hr
 refine⟨_,(wss_cons (ws_set (i:=1) Zbb.nd rfl (Or.inl rfl) (we_ifExp (wt_val (we_bm PySem.F.plainAttrs_str PySem.F.slot_str_startswith PySem.F.type_str_startswith mt_starts (wv 0) (wa_cons we_str wa_nil))) (we_slice sl_U (wv 0) (wo_some we_int) wo_none) (wv 0)))
   (wss_cons (ws_if (wt_pw (ww_or (wt_cmpR (op_eqU hu) (wv 1) we_str (nomark _)) (ww_or1 (wt_not (wt_val (we_call Za0 (hr.mono (by lia)) rfl Zat.mg Zat.kp Zat.b .nil pass0 (wa_cons (wv 1) (wa_cons (we_glob rfl Zbr (relv_str _ _)) wa_nil)))))))) (wss_one (ws_ret we_non)) wss_nil)
   (wss_cons (ws_if (wt_pw (ww_and (wt_cmpR (op_eqU hu) (we_ix (ix_U hu1) (wv 1) we_int (fun _ _=>rfl)) we_str (nomark _)) (ww_and1 (wt_cmpR (op_neU hu) (wv 0) we_str (nomark _))))) (wss_one (ws_ret we_non)) wss_nil)
   (wss_one (ws_ret (we_callTy call_intT rfl T.z_int bt_int (wa_cons (wv 0) wa_nil))))))),?_⟩
 have hread:=num_read hl
 obtain⟨b,fg,eb,efg,fne,fd',fl,c,hc,hz⟩:=fig_of i hl
 have hsl:(numS i).length<=sizeLine:=Nat.le_of_lt (line1 (by lia))
 have e1:∀ z:Str,decide (V.str z=V.str (Str.ofString "0"))=decide (z=Str.ofString "0"):=fun z=>by simp
 generalize numS i=tx at hl hread eb efg hz hsl ⊢
 refine⟨_,rfl,rfl,_,_,rfl,rfl,_,rfl,?_⟩
 rw[eb]
 cases b
 case' true=>
  refine iteT ?_
  refine⟨_,rfl,_,rfl,.inr (.inr (.inr ⟨_,rfl,hsl,?_⟩))⟩
  rw[if_pos rfl]at efg
  rw[<- efg]
 case' false=>
  refine iteF ?_
  rw[if_neg (by decide)]at efg
  refine⟨_,rfl,?_⟩
  subst efg
 all_goals
  refine⟨_,rfl,.inl ⟨rfl,_,rfl,?_⟩⟩
  rw[decide_eq_false (fun z=>fne (V.str.inj z))]
  refine iteF ?_
  refine⟨_,rfl,_,_,rfl,fun d hd=>⟨fig_in (fd' d hd).1 (fd' d hd).2,by have:=fd' d hd;lia⟩,by lia,fun H1 s1=>⟨_,rfl,iteF ?_⟩⟩
  refine⟨_,rfl,.inr (.inr (.inl ⟨_,_,_,rfl,rfl,Nat.le_of_lt (line1 (by lia)),hc,.inl ⟨rfl,_,rfl,?_⟩⟩))⟩
  have hend:tRet (tCB rIntT (tCons (tVar 0) tNil)) { nx:=fun x H'=>Q V.non H',rt:=Q } [some (.str _),some (.str fg)] H1:=⟨_,rfl,_,i,rfl,hread,hl,fin H1 s1⟩
  refine ite2 (fun e3=>?_) (fun e3=>hend)
  have ez:c=48:=by
   have:=V.str.inj (of_decide_eq_true e3)
   have:=congrArg (fun x:Str=>x.cps.toList) this
   have e0:(Str.ofString "0").cps.toList=[48]:=by decide +kernel
   rw[e0]at this
   simpa using this
  refine⟨_,rfl,.inl ⟨rfl,_,rfl,?_⟩⟩
  rw[decide_eq_true (congrArg V.str (hz.resolve_left (fun n=>n ez)))]
  exact iteF hend
end
end K11
end
section
namespace K11
open PySem L2 Kn
abbrev fW (l:Addr) (i:Int):List (Str×V):=[(Str.ofString "words",.ref l),(Str.ofString "place",.int i)]
structure Wd (C:Addr) (H:Hp) (x dx l:Addr) (ws:List Str) (i:Nat):Prop where
 at_:H x=some (.ins C dx (fW l (i:Int)))
 wt:H l=some (.lst (ws.map V.str))
 le:ws.length<=100000
theorem Wd.keep {C:Addr}{H H':Hp}{x dx l:Addr}{ws:List Str}{i:Nat} (h:Wd C H x dx l ws i) (s:Same H H'):Wd C H' x dx l ws i:=⟨s _ _ h.at_,s _ _ h.wt,h.le⟩
theorem lkw (l:Addr) (i:Int):(fW l i).lookup (Str.ofString "words")=some (.ref l):=rfl
theorem lkp (l:Addr) (i:Int):(fW l i).lookup (Str.ofString "place")=some (.int i):=rfl
structure NA (K:PySem.W.Frag) (C:Addr):Prop where
 words:NoAttr K C (Str.ofString "words")
 place:NoAttr K C (Str.ofString "place")
section
variable {P:Program}{w:World}{K:PySem.W.Frag}{mg:Str->Option Value}{base:Heap}{f f1 f2 f3:Addr}{fd fd1 fd2 fd3:FuncData}{C:Addr}
theorem Zbs:FnScope ["self","text"] ["self","text"] (defScope (mtop 16 0)):=⟨rfl,rfl,rfl,by decide +kernel,rfl,by decide +kernel,by decide +kernel⟩
def spInit (C:Addr):Sp:=fun vs H Q _=>∃ (x dx:Addr) (t:Str) (ws:List Str),vs=[.ref x,.str t]/\t.length+2<=sizeLine/\H x=some (.ins C dx [])/\Txt.split t (Str.ofString " ")=ws/\ws.length<=100000 /\
 ∀ (l:Addr) (H':Hp),(∀ b o,b≠x->H b=some o->H' b=some o)->Wd C H' x dx l ws 0->H l=none->Q .non H'
theorem ok_init (T:Tx mg) (Zac:Cls K C) (N:NA K C) (D:Mf K C "__init__" "Words.__init__" (mtop 16 0) f fd ["self","text"]):FnOk P w K mg base CX0 1 f fd ["self","text"] (spInit C):=by
 refine D.fn.okH Zbs (fun vs H Q E h=>?_) (fun cdv A outer s H vs Q E hr h=>?_)
 ·obtain⟨x,dx,t,ws,rfl,_⟩:=h;rfl
 obtain⟨x,dx,t,ws,rfl,lt,hx,et,lw,fin⟩:=h
 have hu:=u110 hr
 have hu0:=u0 hr
 have hu1:=hu_of hr
 refine⟨_,(wss_cons (ws_fld (wv 0) (we_bm PySem.F.plainAttrs_str PySem.F.slot_str_split PySem.F.type_str_split mt_split (wv 1) (wa_cons we_str wa_nil)))
   (wss_one (ws_fld (wv 0) we_int))),?_⟩
 refine⟨_,rfl,rfl,_,_,rfl,rfl,by decide +kernel,lt,fun l hl=>?_⟩
 rw[et]
 refine⟨_,rfl,x,C,dx,[],rfl,same_new hl _ _ _ hx,Zac,N.words,by decide,?_⟩
 have nx:l≠x:=fun z=>by rw[z,hx]at hl;cases hl
 obtain⟨H1,e1⟩:∃ H1,H1=upd (upd H l (.lst (ws.map V.str))) x (.ins C dx [(Str.ofString "words",.ref l)]):=⟨_,rfl⟩
 have k1:∀ b o,b≠x->H b=some o->H1 b=some o:=fun b o n e=>by rw[e1,upd_ne n];exact same_new hl _ _ _ e
 have x1:H1 x=some (.ins C dx [(Str.ofString "words",.ref l)]):=by rw[e1];exact upd_same
 have l1:H1 l=some (.lst (ws.map V.str)):=by rw[e1,upd_ne nx];exact upd_same
 rw[show putF (Str.ofString "words") (V.ref l) []=[(Str.ofString "words",.ref l)] from by rw[putF],<- e1]
 clear e1
 refine⟨_,rfl,x,C,dx,_,rfl,x1,Zac,N.place,by simp,?_⟩
 rw[show putF (Str.ofString "place") (V.int 0) [(Str.ofString "words",.ref l)]=fW l ((0:Nat):Int) from by rw[putF,if_neg (by decide +kernel),putF];rfl]
 exact fin l _ (fun b o n e=>by rw[upd_ne n];exact k1 b o n e) ⟨upd_same,by rw[upd_ne nx];exact l1,lw⟩ hl
def spEnd (C:Addr):Sp:=fun vs H Q _=>∃ x dx l ws i,vs=[.ref x]/\Wd C H x dx l ws i/\Q (.bl (decide (i=ws.length))) H
theorem Zbt:FnScope ["self"] ["self"] (defScope (mtop 16 2)):=⟨rfl,rfl,rfl,by decide +kernel,rfl,by decide +kernel,by decide +kernel⟩
theorem ok_atEnd (T:Tx mg) (Zac:Cls K C) (N:NA K C) (D:Mf K C "at_end" "Words.at_end" (mtop 16 2) f fd ["self"]):FnOk P w K mg base CX0 1 f fd ["self"] (spEnd C):=by
 refine D.fn.okH Zbt (fun vs H Q E h=>?_) (fun cdv A outer s H vs Q E hr h=>?_)
 ·obtain⟨x,dx,l,ws,i,rfl,_⟩:=h;rfl
 obtain⟨x,dx,l,ws,i,rfl,wd,fin⟩:=h
 have hu:=u110 hr
 have hu0:=u0 hr
 have hu1:=hu_of hr
 refine⟨_,(wss_one (ws_ret (we_cmpR (op_eqU hu) (we_fld (wv 0)) (we_callB call_lenU rfl T.z_len bt_len (wa_cons (we_fld (wv 0)) wa_nil)) (nomark _)))),?_⟩
 refine⟨_,rfl,x,C,dx,_,_,rfl,wd.at_,Zac,N.place,lkp l _,?_⟩
 refine⟨_,rfl,x,C,dx,_,_,rfl,wd.at_,Zac,N.words,lkw l _,.inl ⟨l,_,rfl,.inl (SqL.of wd.wt),.inl ⟨rfl,?_⟩⟩⟩
 rw[List.length_map,show decide (V.int (i:Int)=V.int (ws.length:Int))=decide (i=ws.length) from by simp [Int.ofNat_inj]]
 exact fin
theorem Zbu:FnScope ["self"] ["self"] (defScope (mtop 16 3)):=⟨rfl,rfl,rfl,by decide +kernel,rfl,by decide +kernel,by decide +kernel⟩
def spWord (C:Addr):Sp:=fun vs H Q _=>∃ (x dx l:Addr) (ws:List Str) (i:Nat) (z:Str),vs=[.ref x]/\Wd C H x dx l ws i/\ws[i]?=some z/\∀ H',Ex x H H'->Wd C H' x dx l ws (i+1)->Q (.str z) H'
theorem ok_word (T:Tx mg) (Zac:Cls K C) (N:NA K C) (D:Mf K C "word" "Words.word" (mtop 16 3) f fd ["self"])
  (ZaU:Mf K C "at_end" "Words.at_end" (mtop 16 2) f1 fd1 ["self"]) (Za1:FnOk P w K mg base CX0 1 f1 fd1 ["self"] (spEnd C)):FnOk P w K mg base CX0 2 f fd ["self"] (spWord C):=by
 refine D.fn.okH Zbu (fun vs H Q E h=>?_) (fun cdv A outer s H vs Q E hr h=>?_)
 ·obtain⟨x,dx,l,ws,i,z,rfl,_⟩:=h;rfl
 obtain⟨x,dx,l,ws,i,z,rfl,wd,ez,fin⟩:=h
 have hu:=u110 hr
 have hu0:=u0 hr
 have hu1:=hu_of hr
 refine⟨_,(wss_cons (ws_if (wt_val (we_meth0 (wv 0) Zac ZaU.mt Za1 (hr.mono (by lia)) ZaU.b .nil pass0)) (wss_one ws_dead) wss_nil)
   (wss_cons (ws_fldaug (wv 0) we_int in_add)
   (wss_one (ws_ret (we_ix (ix_U hu1) (we_fld (wv 0)) (we_op op_sub (we_fld (wv 0)) we_int) (fun _ _=>rfl)))))),?_⟩
 have hi:i<ws.length:=(List.getElem?_eq_some_iff.mp ez).1
 refine⟨_,rfl,x,dx,_,rfl,wd.at_,rfl,x,dx,l,ws,i,rfl,wd,_,rfl,?_⟩
 rw[decide_eq_false (show ¬i=ws.length by lia)]
 refine iteF ?_
 refine⟨_,rfl,x,C,dx,_,_,rfl,wd.at_,Zac,N.place,lkp l _,_,_,rfl,rfl,dx,_,wd.at_,(by show 2<1000;decide),?_⟩
 rw[show putF (Str.ofString "place") (V.int ((i:Int)+1)) (fW l (i:Int))=fW l ((i+1:Nat):Int) from by rw[putF,if_neg (by decide +kernel),putF,if_pos rfl];rfl]
 have wd1:Wd C (upd H x (.ins C dx (fW l ((i+1:Nat):Int)))) x dx l ws (i+1):=⟨upd_same,by rw[upd_ne fun z=>by have:=wd.at_;rw[<- z,wd.wt]at this;cases this];exact wd.wt,wd.le⟩
 refine⟨_,rfl,x,C,dx,_,_,rfl,wd1.at_,Zac,N.words,lkw l _,?_⟩
 refine⟨_,rfl,x,C,dx,_,_,rfl,wd1.at_,Zac,N.place,lkp l _,_,_,rfl,rfl,.inl ⟨l,_,_,_,rfl,rfl,SqL.of wd1.wt,?_,fin _ ex_upd wd1⟩⟩
 rw[show ((i+1:Nat):Int)-1=((i:Nat):Int) by lia]
 exact atI_nat (by rw[List.getElem?_map,ez];rfl)
theorem Zbc:FnScope ["self","name"] ["self"] (defScope (mtop 16 4)):=⟨rfl,rfl,rfl,by decide +kernel,rfl,by decide +kernel,by decide +kernel⟩
def spNm (C:Addr):Sp:=fun vs H Q _=>∃ (x dx l:Addr) (ws:List Str) (i:Nat) (z:Str),vs=[.ref x]/\Wd C H x dx l ws i/\ws[i]?=some z/\nmOk z/\∀ H',Ex x H H'->Wd C H' x dx l ws (i+1)->Q (.str z) H'
theorem ok_nm (T:Tx mg) (Zac:Cls K C) (D:Mf K C "name" "Words.name" (mtop 16 4) f fd ["self"])
  (Zal:Mf K C "word" "Words.word" (mtop 16 3) f1 fd1 ["self"]) (Zas:FnOk P w K mg base CX0 2 f1 fd1 ["self"] (spWord C))
  (ZaH:Df K mg "is_name" (top 9) f2 fd2 ["text"]) (Zbv:FnOk P w K mg base CX0 2 f2 fd2 ["text"] (fun vs H Q _=>∃ x,vs=[.str x]/\nmOk x/\∀ H',Same H H'->Q (.bl true) H')):FnOk P w K mg base CX0 3 f fd ["self"] (spNm C):=by
 refine D.fn.okH Zbc (fun vs H Q E h=>?_) (fun cdv A outer s H vs Q E hr h=>?_)
 ·obtain⟨x,dx,l,ws,i,z,rfl,_⟩:=h;rfl
 obtain⟨x,dx,l,ws,i,z,rfl,wd,ez,nm,fin⟩:=h
 have hu:=u110 hr
 have hu0:=u0 hr
 have hu1:=hu_of hr
 refine⟨_,(wss_cons (ws_set (i:=1) Zbc.nd rfl (Or.inl rfl) (we_meth0 (wv 0) Zac Zal.mt Zas (hr.mono (by lia)) Zal.b .nil pass0))
   (wss_cons (ws_if (wt_not (wt_val (we_call Zbv (hr.mono (by lia)) rfl ZaH.mg ZaH.kp ZaH.b .nil pass0 (wa_cons (wv 1) wa_nil)))) (wss_one ws_dead) wss_nil)
   (wss_one (ws_ret (wv 1))))),?_⟩
 refine⟨_,rfl,x,dx,_,rfl,wd.at_,rfl,x,dx,l,ws,i,z,rfl,wd,ez,fun H1 ex1 wd1=>?_⟩
 refine⟨_,rfl,z,rfl,nm,fun H2 s2=>⟨_,rfl,iteF ⟨_,rfl,fin H2 (fun b o n e=>s2 _ _ (ex1 b o n e)) (wd1.keep s2)⟩⟩⟩
theorem Zbd:FnScope ["self","number"] ["self"] (defScope (mtop 16 5)):=⟨rfl,rfl,rfl,by decide +kernel,rfl,by decide +kernel,by decide +kernel⟩
def spNumb (C:Addr):Sp:=fun vs H Q _=>∃ (x dx l:Addr) (ws:List Str) (i:Nat) (n:Int),vs=[.ref x]/\Wd C H x dx l ws i/\ws[i]?=some (numS n)/\(numS n).length<=640/\∀ H',Ex x H H'->Wd C H' x dx l ws (i+1)->Q (.int n) H'
theorem ok_numb (T:Tx mg) (Zac:Cls K C) (D:Mf K C "number" "Words.number" (mtop 16 5) f fd ["self"])
  (Zal:Mf K C "word" "Words.word" (mtop 16 3) f1 fd1 ["self"]) (Zas:FnOk P w K mg base CX0 2 f1 fd1 ["self"] (spWord C))
  (ZaI:Df K mg "number_of" (top 10) f2 fd2 ["text"]) (Zbw:FnOk P w K mg base CX0 2 f2 fd2 ["text"] (fun vs H Q _=>∃ i,vs=[.str (numS i)]/\(numS i).length<=640/\∀ H',Same H H'->Q (.int i) H')):FnOk P w K mg base CX0 3 f fd ["self"] (spNumb C):=by
 refine D.fn.okH Zbd (fun vs H Q E h=>?_) (fun cdv A outer s H vs Q E hr h=>?_)
 ·obtain⟨x,dx,l,ws,i,z,rfl,_⟩:=h;rfl
 obtain⟨x,dx,l,ws,i,n,rfl,wd,ez,hl,fin⟩:=h
 have hu:=u110 hr
 have hu0:=u0 hr
 have hu1:=hu_of hr
 refine⟨_,(wss_cons (ws_set (i:=1) Zbd.nd rfl (Or.inl rfl) (we_call Zbw (hr.mono (by lia)) rfl ZaI.mg ZaI.kp ZaI.b .nil pass0 (wa_cons (we_meth0 (wv 0) Zac Zal.mt Zas (hr.mono (by lia)) Zal.b .nil pass0) wa_nil)))
   (wss_cons (ws_if (wt_cmpR op_isN (wv 1) we_non (nomark _)) (wss_one ws_dead) wss_nil)
   (wss_one (ws_ret (wv 1))))),?_⟩
 refine⟨_,rfl,x,dx,_,rfl,wd.at_,rfl,x,dx,l,ws,i,_,rfl,wd,ez,fun H1 ex1 wd1=>?_⟩
 refine⟨n,rfl,hl,fun H2 s2=>?_⟩
 refine⟨_,rfl,rfl,_,rfl,iteF ⟨_,rfl,fin H2 (fun b o n e=>s2 _ _ (ex1 b o n e)) (wd1.keep s2)⟩⟩
end
end K11
end
section
namespace K11
open PySem L2 Kn
def AtW (ws:List Str) (i:Nat) (zs:List Str):Prop:=∃ r,ws.drop i=zs++r
theorem AtW.head {ws:List Str}{i:Nat}{z:Str}{zs:List Str} (h:AtW ws i (z::zs)):ws[i]?=some z:=by
 obtain⟨r,e⟩:=h
 have:=congrArg (fun l:List Str=>l[0]?) e
 simpa using this
theorem AtW.split {ws:List Str}{i:Nat}{a b:List Str} (h:AtW ws i (a++b)):AtW ws i a/\AtW ws (i+a.length) b:=by
 obtain⟨r,e⟩:=h
 refine⟨⟨b++r,by rw[e,List.append_assoc]⟩,r,?_⟩
 rw[<- List.drop_drop,e,List.append_assoc,List.drop_left]
theorem AtW.tail {ws:List Str}{i:Nat}{z:Str}{zs:List Str} (h:AtW ws i (z::zs)):AtW ws (i+1) zs:=(AtW.split (a:=[z]) h).2
def lamE1:Expr:=match (defBody (top 19)).getD 3 (.Pass ⟨0,0,0,0⟩) with
 | .If _ [.Return (some (.Call _ [_,e] _ _)) _] _ _=>e
 | _=>.Name "" ⟨0,0,0,0⟩
def lamE2:Expr:=match (defBody (top 20)).getD 3 (.Pass ⟨0,0,0,0⟩) with
 | .If _ [.Return (some (.Tuple [_,.Call _ [_,e] _ _] _ _)) _] _ _=>e
 | _=>.Name "" ⟨0,0,0,0⟩
def lamP (e:Expr):Arguments:=match e with
 | .Lambda p _ _ _=>p
 | _=>defArgs (.Pass ⟨0,0,0,0⟩)
def lamB (e:Expr):Expr:=match e with
 | .Lambda _ b _ _=>b
 | e=>e
def lamS (e:Expr):Scope:=match e with
 | .Lambda _ _ s _=>s
 | _=>defScope (.Pass ⟨0,0,0,0⟩)
def lamQ (e:Expr):Pos:=match e with
 | .Lambda _ _ _ q=>q
 | _=>⟨0,0,0,0⟩
theorem sc_lam1:LamScope [] ["words","room"] (lamS lamE1):=⟨rfl,rfl,rfl,by decide +kernel,by decide +kernel,by decide +kernel,by decide +kernel,by decide +kernel⟩
theorem sc_lam2:LamScope [] ["words","room"] (lamS lamE2):=⟨rfl,rfl,rfl,by decide +kernel,by decide +kernel,by decide +kernel,by decide +kernel,by decide +kernel⟩
def lamN1:Str:=(Str.ofString "read_part"++".<locals>.")++"<lambda>"
def lamN2:Str:=(Str.ofString "read_kind"++".<locals>.")++"<lambda>"
def clo (L:Addr):Clos:=[(Str.ofString "words",L+1),(Str.ofString "room",L+2)]
theorem cl1 (L f:Addr) (cd:Value):closureFor (lamS lamE1) (PyProof.Rows.envOfC "read_part" (defScope (top 19)) L f cd)=pure (clo L):=by rfl
theorem cl2 (L f:Addr) (cd:Value):closureFor (lamS lamE2) (PyProof.Rows.envOfC "read_kind" (defScope (top 20)) L f cd)=pure (clo L):=by rfl
theorem clo_inj (L:Addr):ClosInj (clo L):=fun x y c h1 h2=>by
 have hl:∀ {z:Str},(clo L).lookup z=some c->(z=Str.ofString "words"/\c=L+1)\/(z=Str.ofString "room"/\c=L+2):=fun {z} h=>by
  have:=PySem.mem_of_lookup h
  simp only[clo,List.mem_cons,Prod.mk.injEq,List.not_mem_nil,or_false]at this
  exact this
 rcases hl h1 with ⟨a,b⟩ | ⟨a,b⟩ <;> rcases hl h2 with ⟨d,e⟩ | ⟨d,e⟩
 ·rw[a,d]
 ·exact absurd (b.symm.trans e) (by show L+1≠L+2;exact Nat.ne_of_lt (Nat.lt_succ_self _))
 ·exact absurd (e.symm.trans b) (by show L+1≠L+2;exact Nat.ne_of_lt (Nat.lt_succ_self _))
 ·rw[a,d]
end K11
end
section
namespace K11
open PySem L2 Kn
def ER (x T1 T2:Addr) (H H':Hp):Prop:=∀ b o,b≠x->b≠T1->b≠T2->H b=some o->H' b=some o
theorem ER.refl {x T1 T2:Addr} (H:Hp):ER x T1 T2 H H:=fun _ _ _ _ _ e=>e
theorem ER.trans {x T1 T2:Addr}{H H1 H2:Hp} (a:ER x T1 T2 H H1) (b:ER x T1 T2 H1 H2):ER x T1 T2 H H2:=fun c o n1 n2 n3 e=>b c o n1 n2 n3 (a c o n1 n2 n3 e)
theorem ER.ex {x T1 T2:Addr}{H H1:Hp} (a:Ex x H H1):ER x T1 T2 H H1:=fun c o n1 _ _ e=>a c o n1 e
theorem ER.same {x T1 T2:Addr}{H H1:Hp} (a:Same H H1):ER x T1 T2 H H1:=fun c o _ _ _ e=>a c o e
def Tb (T1 T2:Addr) (H:Hp):Prop:=LamT H T1 (lamQ lamE1) lamN1/\LamT H T2 (lamQ lamE2) lamN2
theorem lt_tbl {H:Hp}{T:Addr}{p:Pos}{q:Str} (h:LamT H T p q):∃ qs,H T=some (.tbl qs):=by
 rcases h with h | ⟨c,h,_⟩
 ·exact⟨_,h⟩
 ·exact⟨_,h⟩
theorem lt_keep {H H':Hp}{T:Addr}{p:Pos}{q:Str} (h:LamT H T p q) (e1:∀ qs,H T=some (.tbl qs)->H' T=some (.tbl qs)) (e2:∀ c z,H c=some (.ext z)->H' c=some (.ext z)):LamT H' T p q:=by
 rcases h with h | ⟨c,h,k⟩
 ·exact .inl (e1 _ h)
 ·exact .inr ⟨c,e1 _ h,e2 _ _ k⟩
theorem Tb.keep {T1 T2:Addr}{H H':Hp} (h:Tb T1 T2 H) (e:∀ c o,(∀ C dx fs,o≠.ins C dx fs)->H c=some o->H' c=some o):Tb T1 T2 H':=
 ⟨lt_keep h.1 (fun _ z=>e _ _ (fun _ _ _ q=>by cases q) z) (fun _ _ z=>e _ _ (fun _ _ _ q=>by cases q) z),lt_keep h.2 (fun _ z=>e _ _ (fun _ _ _ q=>by cases q) z) (fun _ _ z=>e _ _ (fun _ _ _ q=>by cases q) z)⟩
theorem Tb.keepL {T1 T2:Addr}{H H':Hp} (h:Tb T1 T2 H) (e:∀ c o,(∀ xs,o≠.lst xs)->H c=some o->H' c=some o):Tb T1 T2 H':=
 ⟨lt_keep h.1 (fun _ z=>e _ _ (fun _ q=>by cases q) z) (fun _ _ z=>e _ _ (fun _ q=>by cases q) z),lt_keep h.2 (fun _ z=>e _ _ (fun _ q=>by cases q) z) (fun _ _ z=>e _ _ (fun _ q=>by cases q) z)⟩
theorem Tb.same {T1 T2:Addr}{H H':Hp} (h:Tb T1 T2 H) (s:Same H H'):Tb T1 T2 H':=h.keep fun c o _ e=>s c o e
theorem Tb.ex {C T1 T2 x dx l:Addr}{ws:List Str}{i:Nat}{H H':Hp} (h:Tb T1 T2 H) (wd:Wd C H x dx l ws i) (s:Ex x H H'):Tb T1 T2 H':=h.keep fun c o n e=>s c o (fun z=>by rw[z,wd.at_]at e;cases e;exact n _ _ _ rfl) e
theorem ER.tups {C T1 T2 x dx l:Addr}{ws:List Str}{i:Nat}{H H':Hp} (e:ER x T1 T2 H H') (wd:Wd C H x dx l ws i) (tb:Tb T1 T2 H):Tups H H':=fun a zs q=>by
 obtain⟨q1,h1⟩:=lt_tbl tb.1
 obtain⟨q2,h2⟩:=lt_tbl tb.2
 exact e a _ (fun z=>by rw[z,wd.at_]at q;cases q) (fun z=>by rw[z,h1]at q;cases q) (fun z=>by rw[z,h2]at q;cases q) q
theorem ER.lst {C T1 T2 x dx l a:Addr}{ws:List Str}{i:Nat}{zs:List V}{H H':Hp} (e:ER x T1 T2 H H') (wd:Wd C H x dx l ws i) (tb:Tb T1 T2 H) (q:H a=some (.lst zs)):H' a=some (.lst zs):=by
 obtain⟨q1,h1⟩:=lt_tbl tb.1
 obtain⟨q2,h2⟩:=lt_tbl tb.2
 exact e a _ (fun z=>by rw[z,wd.at_]at q;cases q) (fun z=>by rw[z,h1]at q;cases q) (fun z=>by rw[z,h2]at q;cases q) q
theorem ER.ext {C T1 T2 x dx l a:Addr}{ws:List Str}{i:Nat}{y:Heap->Prop}{H H':Hp} (e:ER x T1 T2 H H') (wd:Wd C H x dx l ws i) (tb:Tb T1 T2 H) (q:H a=some (.ext y)):H' a=some (.ext y):=by
 obtain⟨q1,h1⟩:=lt_tbl tb.1
 obtain⟨q2,h2⟩:=lt_tbl tb.2
 exact e a _ (fun z=>by rw[z,wd.at_]at q;cases q) (fun z=>by rw[z,h1]at q;cases q) (fun z=>by rw[z,h2]at q;cases q) q
def Rds (C T1 T2 x dx l:Addr) (ws:List Str) (i n:Nat) (d:Dt) (H:Hp) (Q:VK):Prop:=∀ v H',ER x T1 T2 H H'->Wd C H' x dx l ws (i+n)->Tb T1 T2 H'->IsDt H' d v->Q v H'
structure LP where
 L:Addr
 pm:Value
 c:Addr
 ctv:Value
 g:Addr->Obj
 x:Addr
 r:Int
 f:Addr
structure LamAt (N:Str) (e:Expr) (q:LP) (H:Hp):Prop where
 fn:H q.f=some (.ext (LamOC N (lamP e) (lamB e) (lamS e) (clo q.L) q.pm q.c q.ctv q.f))
 cd:H q.c=some (.ext (CodeO q.c N))
 cl:CellsG H (clo q.L) q.g [.ref q.x,.int q.r]
theorem LamAt.keep {C T1 T2 dx l:Addr}{ws:List Str}{i:Nat}{N:Str}{e:Expr}{q:LP}{H H':Hp} (h:LamAt N e q H) (wd:Wd C H q.x dx l ws i) (tb:Tb T1 T2 H) (s:ER q.x T1 T2 H H'):LamAt N e q H':=
 ⟨s.ext wd tb h.fn,s.ext wd tb h.cd,fun b i=>s.ext wd tb (h.cl.1 b i),h.cl.2⟩
def spIn (C T1 T2:Addr) (N:Str) (e:Expr) (S:Tr->Prop) (q:LP):Sp:=fun vs H Q _=>vs=[]/\LamAt N e q H/\∃ dx l ws i t,Wd C H q.x dx l ws i/\Tb T1 T2 H/\S t/\AtW ws i (twd t)/\Rds C T1 T2 q.x dx l ws i (twd t).length (tdat t) H Q
theorem twdR_app (a b:List (Str×Tr)):twdR (a++b)=twdR a++twdR b:=by rw[twdR_map,twdR_map,twdR_map,List.flatMap_append]
section
variable {P:Program}{w:World}{K:PySem.W.Frag}{mg:Str->Option Value}{base:Heap}{f f1 f2 f3:Addr}{fd fd1 fd2 fd3:FuncData}{C T1 T2:Addr}
def HeldK (P:Program) (w:World) (K:PySem.W.Frag) (mg:Str->Option Value) (base:Heap) (k:Nat) (f:Addr) (sp:Sp):Prop:=∃ (c:Addr) (qual:Str) (params:Arguments) (body:Expr) (scope:Scope) (clos:Clos) (pm ctv:Value) (ps:List Str),
 FnOk P w K mg base CX0 k f (PySem.W.kla_fn "<lambda>" qual params body scope clos pm (.ref c) ctv) ps sp/\Binds K (PySem.W.kla_fn "<lambda>" qual params body scope clos pm (.ref c) ctv) ps []/\∀ vs H Q E,sp vs H Q E->H f=some (.ext (LamOC qual params body scope clos pm c ctv f))
def spFds (C T1 T2:Addr) (Cf:Addr->Sp->Prop):Sp:=fun vs H Q _=>∃ (N:Str) (e:Expr) (S:Tr->Prop) (q:LP) (dx l:Addr) (ws:List Str) (i:Nat) (ps:List (Str×Tr)),vs=[.ref q.x,.ref q.f]/\Cf q.f (spIn C T1 T2 N e S q)/\LamAt N e q H /\
 Wd C H q.x dx l ws i/\Tb T1 T2 H/\ps.length<=14/\(∀ p∈ps,nmOk p.1)/\riseS (ps.map (·.1))/\(∀ p∈ps,S p.2)/\AtW ws i (numS (ps.length:Int)::twdR ps)/\Rds C T1 T2 q.x dx l ws i (1+(twdR ps).length) (.tup (tdatR ps)) H Q
theorem ZaW:FnScope ["words","read_inner","many","fields","field"] ["words","read_inner"] (defScope (top 21)):=⟨rfl,rfl,rfl,by decide +kernel,rfl,by decide +kernel,by decide +kernel⟩
theorem ok_fds {k:Nat}{Cf:Addr->Sp->Prop} (hk:3<=k) (T:Tx mg) (hC:∀ f sp,Cf f sp->HeldK P w K mg base k f sp) (Zac:Cls K C) (D:Df K mg "read_fields" (top 21) f fd ["words","read_inner"])
  (Zax:Mf K C "name" "Words.name" (mtop 16 4) f1 fd1 ["self"]) (ZaJ:FnOk P w K mg base CX0 3 f1 fd1 ["self"] (spNm C))
  (Zay:Mf K C "number" "Words.number" (mtop 16 5) f2 fd2 ["self"]) (ZaK:FnOk P w K mg base CX0 3 f2 fd2 ["self"] (spNumb C)) :
  FnOk P w K mg base CX0 (k+1) f fd ["words","read_inner"] (spFds C T1 T2 Cf):=by
 refine D.fn.okH ZaW (fun vs H Q E h=>?_) (fun cdv A outer s H vs Q E hr h=>?_)
 ·obtain⟨N,e,S,q,dx,l,ws,i,ps,rfl,_⟩:=h;rfl
 obtain⟨N,e,S,q,dx,l,ws,i,ps,rfl,cf,la,wd,tb,lps,nms,rs,sp,aw,fin⟩:=h
 have hu:=u110 hr
 have hu0:=u0 hr
 have hu1:=hu_of hr
 refine⟨_,(wss_cons (ws_set (i:=2) ZaW.nd rfl (Or.inl rfl) (we_meth0 (wv 0) Zac Zay.mt ZaK (hr.mono (by lia)) Zay.b .nil pass0))
   (wss_cons (ws_if (wt_cmpR (op_ltU hu0) (wv 2) we_int (nomark _)) (wss_one ws_dead) wss_nil)
   (wss_cons (ws_set (i:=3) ZaW.nd rfl (Or.inl rfl) (we_lst wa_nil))
   (wss_cons (ws_while PassesOwn.never (wt_cmpR (op_ltU hu0) (we_callB call_lenU rfl T.z_len bt_len (wa_cons (wv 3) wa_nil)) (wv 2) (nomark _)) (wss_cons (ws_set (i:=4) ZaW.nd rfl (Or.inl rfl) (we_meth0 (wv 0) Zac Zax.mt ZaJ (hr.mono (by lia)) Zax.b .nil pass0))
   (wss_cons (ws_if (wt_pw (ww_and (wt_truth (wv 3) (fun _=>rfl)) (ww_and1 (wt_cmpR op_leT (wv 4) (we_ix (ix_U hu1) (we_ix (ix_U hu1) (wv 3) (we_un un_neg we_int) (fun _ _=>rfl)) we_int (fun _ _=>rfl)) (nomark _))))) (wss_one ws_dead) wss_nil)
   (wss_one (ws_expr (we_bm PySem.F.plainAttrs_list PySem.F.slot_list_append PySem.F.type_list_append mt_append (wv 3) (wa_cons (we_tup (wa_cons (wv 4) (wa_cons (we_callL0 (E:=E0) hC (hr.mono (by lia)) (wv 1)) wa_nil))) wa_nil)))))))
   (wss_one (ws_ret (we_callTy call_tuple_of rfl T.z_tuple bt_tuple (wa_cons (wv 3) wa_nil)))))))),?_⟩
 have hnl:(numS (ps.length:Int)).length<=640:=Nat.le_trans (numS_len (by lia)) (by decide)
 refine seqH fun N1 to1=>⟨_,rfl,q.x,dx,_,rfl,wd.at_,rfl,q.x,dx,l,ws,i,_,rfl,wd,aw.head,hnl,fun H1 ex1 wd1=>to1 _ _ ?_⟩
 have e1:ER q.x T1 T2 H H1:=.ex ex1
 have tb1:Tb T1 T2 H1:=tb.ex wd ex1
 have at1:=aw.tail
 refine seqH fun N2 to2=>⟨_,rfl,.inl ⟨_,_,rfl,rfl,_,rfl,?_⟩⟩
 rw[decide_eq_false (show ¬((ps.length:Int)<0) by lia)]
 refine iteF (to2 _ _ ?_)
 refine seqH fun N3 to3=>⟨(by show 0<=sizeLine;decide),fun a ha=>to3 _ _ ?_⟩
 have s2:Same H1 (upd H1 a (.lst [])):=same_new ha _
 have hA:(upd H1 a (.lst [])) a=some (.lst []):=upd_same
 have wd2:=wd1.keep s2
 have tb2:=tb1.same s2
 have e2:ER q.x T1 T2 H (upd H1 a (.lst [])):=e1.trans (.same s2)
 have hHa:H a=none:=by
  cases z:H a with
  | none=>rfl
  | some o=>
   have nx:a≠q.x:=fun y=>by rw[y,wd1.at_]at ha;cases ha
   rw[ex1 a o nx z]at ha;cases ha
 have na:l≠a:=fun z=>by have:=wd1.wt;rw[z,ha]at this;cases this
 generalize upd H1 a (.lst [])=H2 at s2 hA wd2 tb2 e2 ⊢
 refine seqH fun N4 to4=>?_
 refine⟨fun m σ H'=>∃ (j:Nat) (o4:Option V) (xs:List V),m+j=ps.length/\σ=[some (.ref q.x),some (.ref q.f),some (.int (ps.length:Int)),some (.ref a),o4]/\ER q.x T1 T2 H H'/\H' a=some (.lst xs)/\IsDts H' (tdatR (ps.take j)) xs /\
  Wd C H' q.x dx l ws (i+1+(twdR (ps.take j)).length)/\Tb T1 T2 H',⟨ps.length,0,none,[],rfl,rfl,e2,hA,by rw[List.take_zero,tdatR];exact .nil,by rw[List.take_zero,twdR];exact wd2,tb2⟩,?_⟩
 rintro m σ H3 ⟨j,o4,xs,hm,rfl,e3,hA3,ix,wd3,tb3⟩
 have lx:xs.length=(ps.take j).length:=by rw[ix.length,tdatR_map,List.length_map]
 have lj:xs.length=j:=by rw[lx,List.length_take];lia
 refine⟨_,rfl,.inl ⟨a,xs,rfl,.inl (SqL.of hA3),_,rfl,.inl ⟨_,_,rfl,rfl,_,rfl,?_⟩⟩⟩
 refine ite2 (fun c1=>?more) (fun c1=>?done)
 case done=>
  have:¬(xs.length:Int)<ps.length:=fun z=>c1 (decide_eq_true z)
  have:ps.length<=j:=by lia
  rw[List.take_of_length_le this]at ix wd3
  refine to4 _ _ ⟨_,rfl,a,_,rfl,.inl ⟨SqL.of hA3,fun t ht=>?_⟩⟩
  have st:=same_new ht (.tup xs)
  refine fin _ _ (e3.trans (.same st)) (by rw[<- Nat.add_assoc];exact wd3.keep st) (tb3.same st) ?_
  rw[IsDt]
  exact⟨t,xs,rfl,upd_same,IsDts.mono st.tups ix⟩
 case more=>
  have hj:j<ps.length:=by have:=of_decide_eq_true c1;lia
  obtain⟨p,hp⟩:∃ p,ps[j]?=some p:=⟨_,List.getElem?_eq_getElem hj⟩
  have hpm:p∈ps:=List.mem_of_getElem? hp
  have hsp:ps=ps.take j++p::ps.drop (j+1):=by
   conv=>lhs;rw[<- List.take_append_drop j ps,List.drop_eq_getElem_cons hj]
   rw[(List.getElem?_eq_some_iff.mp hp).2]
  have htk:ps.take (j+1)=ps.take j++[p]:=by rw[List.take_add_one,hp];rfl
  have awj:AtW ws (i+1+(twdR (ps.take j)).length) (p.1::(twd p.2++twdR (ps.drop (j+1)))):=by
   rw[hsp,twdR_app,twdR]at at1
   exact at1.split.2
  have tw1:twdR (ps.take (j+1))=twdR (ps.take j)++(p.1::twd p.2):=by rw[htk,twdR_app,twdR,twdR,List.append_nil]
  have td1:tdatR (ps.take (j+1))=tdatR (ps.take j)++[.tup [.str p.1,tdat p.2]]:=by rw[htk,tdatR_map,tdatR_map,List.map_append];rfl
  refine⟨fun σ H'=>∃ (o4:Option V) (ys:List V),σ=[some (.ref q.x),some (.ref q.f),some (.int (ps.length:Int)),some (.ref a),o4]/\ER q.x T1 T2 H H'/\H' a=some (.lst ys)/\IsDts H' (tdatR (ps.take (j+1))) ys /\
   Wd C H' q.x dx l ws (i+1+(twdR (ps.take (j+1))).length)/\Tb T1 T2 H',fun σ' H' ⟨o4,ys,h1,h2,h3,h4,h5,h6⟩=>⟨m-1,by lia,j+1,o4,ys,by lia,h1,h2,h3,h4,h5,h6⟩,?_⟩
  refine seqH fun N5 to5=>⟨_,rfl,q.x,dx,_,rfl,wd3.at_,rfl,q.x,dx,l,ws,_,_,rfl,wd3,awj.head,nms p hpm,fun H4 ex4 wd4=>to5 _ _ ?_⟩
  have tb4:=tb3.ex wd3 ex4
  have e4:ER q.x T1 T2 H H4:=e3.trans (.ex ex4)
  have e34:ER q.x T1 T2 H3 H4:=.ex ex4
  have hA4:=e34.lst wd3 tb3 hA3
  have ix4:=IsDts.mono (e34.tups wd3 tb3) ix
  refine seqH fun N6 to6=>⟨_,rfl,_,.inl ⟨xs,SqL.of hA4,rfl⟩,?_⟩
  have go:N6 [some (.ref q.x),some (.ref q.f),some (.int (ps.length:Int)),some (.ref a),some (.str p.1)] H4:=by
   refine to6 _ _ ?_
   have la4:=la.keep wd tb e4
   refine⟨_,rfl,.inl ⟨rfl,_,SqL.of hA4⟩,_,rfl,_,rfl,q.f,_,rfl,cf,rfl,la4,dx,l,ws,_,p.2,wd4,tb4,sp p hpm,awj.tail.split.1,fun v H5 e5 wd5 tb5 iv=>?_⟩
   refine⟨(by show 2<=sizeLine;decide),fun t ht=>?_⟩
   have hA5:=e5.lst wd4 tb4 hA4
   have st:=same_new ht (.tup [.str p.1,v])
   refine⟨a,xs,_,rfl,rfl,st _ _ hA5,line1 (by lia),_,xs++[.ref t],rfl,fun b o n1 n2 n3 z=>?_,upd_same,?_,?_,?_⟩
   ·rw[upd_ne (ne_of_none z hHa)]
    exact st _ _ (e5 b o n1 n2 n3 (e4 b o n1 n2 n3 z))
   ·rw[td1]
    have tA:Tups (upd H5 t (.tup [.str p.1,v])) (upd (upd H5 t (.tup [.str p.1,v])) a (.lst (xs++[.ref t]))):=fun b zs z=>by
     rw[upd_ne fun y=>by rw[y,st _ _ hA5]at z;cases z];exact z
    have ix5:=IsDts.mono tA (IsDts.mono st.tups (IsDts.mono (e5.tups wd4 tb4) ix4))
    refine ix5.append (.one (IsDt.mono tA ?_))
    exact isDt_tup upd_same (.cons (by rw[IsDt]) (.one (IsDt.mono st.tups iv)))
   ·rw[tw1,List.length_append,List.length_cons]
    have w6:=wd5.keep st
    have:i+1+((twdR (ps.take j)).length+((twd p.2).length+1))=i+1+(twdR (ps.take j)).length+1+(twd p.2).length:=by lia
    rw[this]
    exact⟨by rw[upd_ne fun z=>by have:=w6.at_;rw[z,st _ _ hA5]at this;cases this];exact w6.at_,by rw[upd_ne na];exact w6.wt,w6.le⟩
   ·refine (tb5.same st).keepL fun c o n z=>?_
    rw[upd_ne fun y=>by rw[y,st _ _ hA5]at z;cases z;exact n _ rfl];exact z
  by_cases j0:j=0
  ·have:xs=[]:=List.length_eq_zero_iff.mp (by lia)
   rw[this]
   exact iteF go
  ·obtain⟨p0,hp0⟩:∃ p0,ps[j-1]?=some p0:=⟨_,List.getElem?_eq_getElem (by lia)⟩
   obtain⟨ys,y,rfl⟩:∃ ys y,xs=ys++[y]:=by
    rcases List.eq_nil_or_concat xs with h | ⟨ys,y,h⟩
    ·exact absurd (by rw[<- lj,h];rfl) j0
    ·exact⟨ys,y,by rw[h];simp⟩
   have ly:ys.length=j-1:=by rw[List.length_append]at lj;simp at lj;lia
   obtain⟨p1,c,u,g1,rfl,g2,g3⟩:=tr_item ix4 (i:=j-1) (y:=y) (by rw[<- ly];simp)
   have ep:p1=p0:=by
    rw[List.getElem?_take,if_pos (by lia),hp0]at g1
    exact (Option.some.inj g1).symm
   subst ep
   have lt:p1.1.cps.toList<p.1.cps.toList:=by
    have:=rise_adj (l:=ps.map (·.1)) (i:=j-1) (by rw[List.length_map];lia) rs
    have e1:(ps.map (·.1))[j-1]?=some p1.1:=by rw[List.getElem?_map,hp0];rfl
    have e2:(ps.map (·.1))[j]?=some p.1:=by rw[List.getElem?_map,hp];rfl
    rw[(List.getElem?_eq_some_iff.mp e1).2]at this
    simp only[show j-1+1=j by lia]at this
    rw[(List.getElem?_eq_some_iff.mp e2).2]at this
    exact this
   refine iteP (by simp) ?_
   refine⟨_,rfl,_,rfl,1,rfl,.inl ⟨a,_,_,_,rfl,rfl,SqL.of hA4,atI_last _ _,.inr (.inl ⟨c,_,_,_,rfl,rfl,SqT.of g2,(show atI [V.str p1.1,u] ((0:Nat):Int)=_ from atI_nat rfl),_,_,rfl,rfl,_,rfl,?_⟩)⟩⟩
   rw[decide_eq_true lt]
   exact iteF go
end
end K11
end
section
namespace K11
open PySem L2 Kn
theorem heap_at {b:Addr}{o:Obj}{u:Option Value} (hd:o.data=.cell u):∃ h:Heap,h.get? b=some o:=by
 refine⟨⟨Array.replicate (b+1) o,{}⟩,?_⟩
 obtain⟨c,d,dt,sl⟩:=o
 cases hd
 unfold Heap.get?
 simp
theorem code_cell {c:Addr}{q:Str}{o:Obj}{u:Option Value} (hd:o.data=.cell u) (e:CodeO c q=CellO c o):False:=by
 obtain⟨h,hh⟩:=heap_at (b:=c) hd
 have:CodeO c q h:=by rw[e];exact hh
 obtain⟨d,o',vs,t,e0,e1,e2,e3⟩:=this
 cases e0
 rw[hh]at e1
 cases e1
 rw[hd]at e2
 cases e2
theorem cell_inj {c:Addr}{o o':Obj}{u:Option Value} (hd:o.data=.cell u) (e:CellO c o=CellO c o'):o=o':=by
 obtain⟨h,hh⟩:=heap_at (b:=c) hd
 have:CellO c o' h:=by rw[<- e];exact hh
 have this:h.get? c=some o':=this
 rw[hh]at this
 exact Option.some.inj this
theorem relv_inj {v v':V}{u:Value} (h:RelV v u) (h':RelV v' u):v=v':=by
 cases v <;> cases v' <;> simp only[RelV]at h h' <;> first
  | rfl
  | (obtain⟨t,e⟩:=h;obtain⟨t',e'⟩:=h';rw[e]at e';cases e';done)
  | (obtain⟨t,e⟩:=h;obtain⟨t',e'⟩:=h';rw[e]at e';cases e';rfl)
  | (obtain⟨t,e⟩:=h;rw[e]at h';cases h';done)
  | (obtain⟨t,e⟩:=h';rw[e]at h;cases h;done)
  | (rw[h]at h';cases h';done)
  | (rw[h]at h';cases h';rfl)
theorem cells_eq {H:Hp}{g g':Addr->Obj}:∀ {clos:Clos}{ws ws':List V},(∀ p∈clos,H p.2=some (.ext (CellO p.2 (g p.2))))->(∀ p∈clos,H p.2=some (.ext (CellO p.2 (g' p.2))))->Paired (fun (p:Str×Addr) v=>CellIs (g p.2) v) clos ws->Paired (fun (p:Str×Addr) v=>CellIs (g' p.2) v) clos ws'->ws=ws'
 | _,_,_,_,_,.nil,.nil=>rfl
 | p::clos,_,_,h1,h2,.cons a r,.cons a' r'=>by
  have e:=h1 p List.mem_cons_self
  rw[h2 p List.mem_cons_self]at e
  obtain⟨u,rv,du⟩:=a
  obtain⟨u',rv',du'⟩:=a'
  have:=cell_inj du' (by injection e with e;injection e)
  rw[this,du]at du'
  cases du'
  rw[relv_inj rv rv',cells_eq (fun q hq=>h1 q (List.mem_cons_of_mem _ hq)) (fun q hq=>h2 q (List.mem_cons_of_mem _ hq)) r r']
theorem cellsG_eq {H:Hp}{g g':Addr->Obj}{clos:Clos}{ws ws':List V} (a:CellsG H clos g ws) (b:CellsG H clos g' ws'):ws=ws':=
 cells_eq (fun p hp=>a.1 _ (List.mem_map.mpr ⟨p,hp,rfl⟩)) (fun p hp=>b.1 _ (List.mem_map.mpr ⟨p,hp,rfl⟩)) a.2 b.2
theorem cell_of {clos:Clos}{g:Addr->Obj}{ws:List V}{b:Addr} (i:inC clos b) (h:Paired (fun (p:Str×Addr) v=>CellIs (g p.2) v) clos ws):∃ u,(g b).data=.cell u:=by
 induction h with
 | nil=>exact absurd i (by simp [inC])
 | @cons p v l1 l2 a t ih=>
  by_cases e:p.2=b
  ·obtain⟨u,_,d⟩:=a
   rw[e]at d
   exact⟨_,d⟩
  ·refine ih ?_
   obtain⟨q,hq,eq⟩:=List.mem_map.mp i
   rcases List.mem_cons.mp hq with rfl | hq
   ·exact absurd eq e
   ·exact List.mem_map.mpr ⟨q,hq,eq⟩
section
variable {C T1 T2 x dx l:Addr}{ws:List Str}{i:Nat}{H H':Hp}{clos:Clos}{g:Addr->Obj}{vs:List V}
theorem Wd.rem (wd:Wd C H x dx l ws i) (hc:∀ b,inC clos b->∃ y,H b=some (.ext y)):Wd C (remC H clos) x dx l ws i:=
 ⟨by rw[remC_ne fun z=>by obtain⟨y,e⟩:=hc _ z;rw[wd.at_]at e;cases e];exact wd.at_,by rw[remC_ne fun z=>by obtain⟨y,e⟩:=hc _ z;rw[wd.wt]at e;cases e];exact wd.wt,wd.le⟩
theorem lt_rem {T:Addr}{p:Pos}{q:Str} (h:LamT H T p q) (cg:CellsG H clos g vs):LamT (remC H clos) T p q:=by
 have n1:∀ {qs},H T=some (.tbl qs)->¬inC clos T:=fun e z=>by rw[cg.1 _ z]at e;cases e
 rcases h with h | ⟨c,h,k⟩
 ·exact .inl (by rw[remC_ne (n1 h)];exact h)
 ·refine .inr ⟨c,by rw[remC_ne (n1 h)];exact h,?_⟩
  rw[remC_ne fun z=>?_]
  ·exact k
  ·obtain⟨u,du⟩:=cell_of z cg.2
   rw[cg.1 _ z]at k
   exact code_cell du (by injection k with k;injection k with k;exact k.symm)
theorem Tb.rem (h:Tb T1 T2 H) (cg:CellsG H clos g vs):Tb T1 T2 (remC H clos):=⟨lt_rem h.1 cg,lt_rem h.2 cg⟩
theorem Wd.back (wd:Wd C H' x dx l ws i) (hn:∀ b,inC clos b->H' b=none):Wd C (backC H' H clos) x dx l ws i:=by
 have bb:∀ {b:Addr},¬inC clos b->backC H' H clos b=H' b:=fun i=>if_neg i
 exact⟨by rw[bb fun z=>by have:=hn _ z;rw[wd.at_]at this;cases this];exact wd.at_,by rw[bb fun z=>by have:=hn _ z;rw[wd.wt]at this;cases this];exact wd.wt,wd.le⟩
theorem back_some {b:Addr}{o:HO} (hn:∀ b,inC clos b->H' b=none) (e:H' b=some o):backC H' H clos b=some o:=by
 have bb:∀ {b:Addr},¬inC clos b->backC H' H clos b=H' b:=fun i=>if_neg i
 rw[bb fun z=>by have:=hn _ z;rw[e]at this;cases this];exact e
theorem Tb.back (h:Tb T1 T2 H') (hn:∀ b,inC clos b->H' b=none):Tb T1 T2 (backC H' H clos):=h.keep fun c o _ e=>back_some hn e
theorem ER.back (e:ER x T1 T2 (remC H clos) H'):ER x T1 T2 H (backC H' H clos):=fun b o n1 n2 n3 z=>by
 by_cases i:inC clos b
 ·have:backC H' H clos b=H b:=if_pos i
  rw[this];exact z
 ·have:backC H' H clos b=H' b:=if_neg i
  rw[this];exact e b o n1 n2 n3 (by rw[remC_ne i];exact z)
theorem Rds.lam {n:Nat}{d:Dt}{Q:VK} (h:Rds C T1 T2 x dx l ws i n d H Q):Rds C T1 T2 x dx l ws i n d (remC H clos) fun v H'=>(∀ b,inC clos b->H' b=none)->Q v (backC H' H clos):=
 fun v H' e wd tb iv hn=>h v _ e.back (wd.back hn) (tb.back hn) (IsDt.mono (fun _ _ z=>back_some hn z) iv)
theorem Wd.addG (wd:Wd C H x dx l ws i) (hn:∀ b,inC clos b->H b=none):Wd C (addG H clos g) x dx l ws i:=by
 have bb:∀ {b:Addr},¬inC clos b->L2.addG H clos g b=H b:=fun i=>if_neg i
 exact⟨by rw[bb fun z=>by have:=hn _ z;rw[wd.at_]at this;cases this];exact wd.at_,by rw[bb fun z=>by have:=hn _ z;rw[wd.wt]at this;cases this];exact wd.wt,wd.le⟩
theorem add_some {b:Addr}{o:HO} (hn:∀ b,inC clos b->H b=none) (e:H b=some o):L2.addG H clos g b=some o:=by
 have bb:∀ {b:Addr},¬inC clos b->L2.addG H clos g b=H b:=fun i=>if_neg i
 rw[bb fun z=>by have:=hn _ z;rw[e]at this;cases this];exact e
theorem Tb.addG (h:Tb T1 T2 H) (hn:∀ b,inC clos b->H b=none):Tb T1 T2 (L2.addG H clos g):=h.keep fun c o _ e=>add_some hn e
theorem addG_cells (hp:Paired (fun (p:Str×Addr) v=>CellIs (g p.2) v) clos vs):CellsG (L2.addG H clos g) clos g vs:=⟨fun b i=>if_pos i,hp⟩
theorem Rds.call {n:Nat}{d:Dt}{Q:VK} (h:Rds C T1 T2 x dx l ws i n d H Q) (wd0:Wd C H x dx l ws i) (tb0:Tb T1 T2 H) (hn:∀ b,inC clos b->H b=none) (hp:Paired (fun (p:Str×Addr) v=>CellIs (g p.2) v) clos vs) :
  Rds C T1 T2 x dx l ws i n d (L2.addG H clos g) fun v H'=>(∀ b,inC clos b->H' b=some (.ext (CellO b (g b))))/\Q v (remC H' clos):=fun v H' e wd tb iv=>by
 have hc:∀ b,inC clos b->H' b=some (.ext (CellO b (g b))):=fun b z=>e.ext (wd0.addG hn) (tb0.addG hn) (if_pos z)
 have cg:CellsG H' clos g vs:=⟨hc,hp⟩
 refine⟨hc,h v _ (fun b o n1 n2 n3 z=>?_) (wd.rem fun b z=>⟨_,hc b z⟩) (tb.rem cg) (IsDt.mono (fun a zs z=>?_) iv)⟩
 ·rw[remC_ne fun y=>by rw[hn _ y]at z;cases z]
  exact e b o n1 n2 n3 (add_some hn z)
 ·rw[remC_ne fun y=>by rw[hc _ y]at z;cases z]
  exact z
end
end K11
end
section
namespace K11
open PySem L2 Kn
theorem Rds.tup {C T1 T2 x dx l t:Addr}{ws:List Str}{i n:Nat}{ds:List Dt}{H H2:Hp}{Q:VK}{vs:List V} (fin:Rds C T1 T2 x dx l ws i n (.tup ds) H Q) (e:ER x T1 T2 H H2) (wd:Wd C H2 x dx l ws (i+n)) (tb:Tb T1 T2 H2) (iv:IsDts H2 ds vs) (ht:H2 t=none):Q (.ref t) (upd H2 t (.tup vs)):=by
 have st:=same_new ht (.tup vs)
 refine fin _ _ (e.trans (.same st)) (wd.keep st) (tb.same st) ?_
 rw[IsDt]
 exact⟨t,vs,rfl,upd_same,IsDts.mono st.tups iv⟩
theorem Wd.er {C T1 T2 x dx l:Addr}{ws:List Str}{i:Nat}{H H':Hp} (wd:Wd C H x dx l ws i) (tb:Tb T1 T2 H) (e1:∀ b o,b≠T1->b≠T2->H b=some o->H' b=some o):Wd C H' x dx l ws i:=by
 obtain⟨q1,h1⟩:=lt_tbl tb.1
 obtain⟨q2,h2⟩:=lt_tbl tb.2
 exact⟨e1 _ _ (fun z=>by have:=wd.at_;rw[z,h1]at this;cases this) (fun z=>by have:=wd.at_;rw[z,h2]at this;cases this) wd.at_,e1 _ _ (fun z=>by have:=wd.wt;rw[z,h1]at this;cases this) (fun z=>by have:=wd.wt;rw[z,h2]at this;cases this) wd.wt,wd.le⟩
section
variable {P:Program}{w:World}{K:PySem.W.Frag}{mg:Str->Option Value}{base:Heap}{f c0 f1 f2 f3:Addr}{fd fd1 fd2 fd3:FuncData}{C T1 T2:Addr}
def spKd (C T1 T2:Addr) (S:Tr->Prop) (n:Nat):Sp:=fun vs H Q _=>∃ (x dx l:Addr) (ws:List Str) (i:Nat) (t:Tr) (r:Int),vs=[.ref x,.int r]/\(n:Int)<=r/\Wd C H x dx l ws i/\Tb T1 T2 H/\S t/\AtW ws i (twd t)/\Rds C T1 T2 x dx l ws i (twd t).length (tdat t) H Q
theorem ok_lam2 {k n:Nat}{S:Tr->Prop}{q:LP} (hq:(n:Int)+1<=q.r) (Zae:Df K mg "read_kind" (top 20) f fd ["words","room"]) (ZaD:FnOk P w K mg base CX0 k f fd ["words","room"] (spKd C T1 T2 S n)) :
  FnOk P w K mg base CX0 (k+1) q.f (PySem.W.kla_fn "<lambda>" lamN2 (lamP lamE2) (lamB lamE2) (lamS lamE2) (clo q.L) q.pm (.ref q.c) q.ctv) [] (spIn C T1 T2 lamN2 lamE2 S q):=by
 refine lam_ofC sc_lam2 (clo_inj q.L) (fun vs H Q E h=>?_) (fun vs H Q E h=>⟨h.2.1.fn,h.2.1.cd,_,_,h.2.1.cl⟩) fun A out s H vs us g Q E hr h cg=>?_
 ·obtain⟨rfl,_⟩:=h;rfl
 obtain⟨rfl,la,dx,l,ws,i,t,wd,tb,st,aw,fin⟩:=h
 obtain rfl:=cellsG_eq la.cl cg
 have hu:=u110 hr
 have hu0:=u0 hr
 have hu1:=hu_of hr
 refine⟨_,we_call ZaD (hr.mono (by lia)) rfl Zae.mg Zae.kp Zae.b .nil pass0 (wa_cons (wv 0) (wa_cons (we_op op_sub (wv 1) we_int) wa_nil)),?_⟩
 refine⟨_,rfl,_,rfl,_,_,rfl,rfl,q.x,dx,l,ws,i,t,_,rfl,by lia,wd.rem fun b z=>⟨_,cg.1 b z⟩,tb.rem cg,st,aw,fin.lam⟩
def SK:Nat->Tr->Prop
 | 0=>fun _=>False
 | d+1=>KG d
def CF2 (C T1 T2:Addr) (d:Nat):Addr->Sp->Prop:=fun f sp=>∃ q:LP,(d:Int)+1<=q.r/\f=q.f/\sp=spIn C T1 T2 lamN2 lamE2 (SK d) q
theorem held2 {k d:Nat} (Zae:Df K mg "read_kind" (top 20) f fd ["words","room"]) (ZaD:FnOk P w K mg base CX0 k f fd ["words","room"] (spKd C T1 T2 (SK d) d)):∀ f sp,CF2 C T1 T2 d f sp->HeldK P w K mg base (k+1) f sp:=by
 rintro f sp ⟨q,hq,rfl,rfl⟩
 exact⟨q.c,lamN2,lamP lamE2,lamB lamE2,lamS lamE2,clo q.L,q.pm,q.ctv,[],ok_lam2 hq Zae ZaD,.all fun us hl=>(by obtain rfl:=List.length_eq_zero_iff.mp hl;rfl),fun vs H Q E h=>h.2.1.fn⟩
theorem Zbe:FnScope ["words","room","word"] ["words","room"] (defScope (top 20)):=⟨rfl,rfl,rfl,by decide +kernel,rfl,by decide +kernel,by decide +kernel⟩
theorem ok_rkind {k d:Nat} (hT:T1≠T2) (hk:3<=k) (T:Tx mg) (LM:LmK K mg c0 T2) (Zac:Cls K C) (Zae:Df K mg "read_kind" (top 20) f fd ["words","room"]) (hc:fd.code=.ref c0) (ZaD:FnOk P w K mg base CX0 k f fd ["words","room"] (spKd C T1 T2 (SK d) d))
  (Zal:Mf K C "word" "Words.word" (mtop 16 3) f1 fd1 ["self"]) (Zas:FnOk P w K mg base CX0 2 f1 fd1 ["self"] (spWord C))
  (Zaq:Df K mg "read_fields" (top 21) f3 fd3 ["words","read_inner"]) (Za2:FnOk P w K mg base CX0 (k+2) f3 fd3 ["words","read_inner"] (spFds C T1 T2 (CF2 C T1 T2 d))) :
  FnOk P w K mg base CX0 (k+3) f fd ["words","room"] (spKd C T1 T2 (KG d) (d+1)):=by
 refine Zae.fn.okC (k:=k+2) hc Zbe (fun vs H Q E h=>?_) (fun A outer s H vs Q E hr h=>?_)
 ·obtain⟨x,dx,l,ws,i,t,r,rfl,_⟩:=h;rfl
 obtain⟨x,dx,l,ws,i,t,r,rfl,hr0,wd,tb,kg,aw,fin⟩:=h
 have hu:=u110 hr
 have hu0:=u0 hr
 have hu1:=hu_of hr
 have hCl:=cl2 s.heap.objs.size f (.ref c0)
 have CP:CapOk (cxOf CX0 P w K mg base ["words","room","word"] "read_kind" (defScope (top 20)) f (.ref c0) A outer s H E).nox (clo s.heap.objs.size) [0,1]:=
  ⟨fun p hp=>by
   simp only[clo,List.mem_cons,List.not_mem_nil,or_false]at hp
   rcases hp with rfl | rfl <;> rfl,.cons ⟨rfl,rfl⟩ (.cons ⟨rfl,rfl⟩ .nil),fun _=>rfl⟩
 refine⟨_,(wss_cons (ws_if (wt_cmpR (op_eqU hu) (wv 1) we_int (nomark _)) (wss_one ws_dead) wss_nil)
   (wss_cons (ws_set (i:=2) Zbe.nd rfl (Or.inl rfl) (we_meth0 (wv 0) Zac Zal.mt Zas (hr.mono (by lia)) Zal.b .nil pass0))
   (wss_cons (ws_if (wt_cmpR (op_inU hu) (wv 2) (we_tup (wa_consts rfl)) (by with_unfolding_all rfl)) (wss_one (ws_ret (we_tup (wa_cons (wv 2) wa_nil)))) wss_nil)
   (wss_cons (ws_if (wt_cmpR (op_eqU hu) (wv 2) we_str (nomark _)) (wss_one (ws_ret (we_tup (wa_cons we_str (wa_cons (we_callC (E:=E0) CP Za2 (hr.mono (by lia)) rfl Zaq.mg Zaq.kp Zaq.b (wa_cons (wv 0) (wa_cons (we_lamC LM hCl) wa_nil))) wa_nil))))) wss_nil)
   (wss_cons (ws_if (wt_cmpR (op_neU hu) (wv 2) we_str (nomark _)) (wss_one ws_dead) wss_nil)
   (wss_one (ws_ret (we_tup (wa_cons we_str (wa_cons (we_call ZaD (hr.mono (by lia)) rfl Zae.mg Zae.kp Zae.b .nil pass0 (wa_cons (wv 0) (wa_cons (we_op op_sub (wv 1) we_int) wa_nil))) wa_nil)))))))))),?_⟩
 refine seqH fun N1 to1=>⟨_,rfl,.inl ⟨rfl,_,rfl,?_⟩⟩
 rw[decide_eq_false (show ¬V.int r=V.int 0 from fun z=>by injection z;lia)]
 refine iteF (to1 _ _ ?_)
 obtain⟨z,zs,ez⟩:∃ z zs,twd t=z::zs:=by
  cases t with
  | row ps=>exact⟨_,_,by rw[twd]⟩
  | node w as ps=>exact⟨_,_,by rw[twd]⟩
 rw[ez]at aw fin
 refine seqH fun N2 to2=>⟨_,rfl,x,dx,_,rfl,wd.at_,rfl,x,dx,l,ws,i,z,rfl,wd,aw.head,fun H1 ex1 wd1=>to2 _ _ ?_⟩
 have tb1:=tb.ex wd ex1
 have e1:ER x T1 T2 H H1:=.ex ex1
 refine seqH fun N3 to3=>⟨_,rfl,(by show 2<=sizeLine;decide),fun tp htp=>.inl ⟨tp,_,rfl,.inr (SqT.of upd_same),rfl,rfl,_,rfl,?_⟩⟩
 have s2:=same_new htp (.tup [V.str "num",V.str "word"])
 have wd2:=wd1.keep s2
 have tb2:=tb1.same s2
 have e2:=e1.trans (.same s2)
 obtain⟨H2,eH⟩:∃ H2,H2=upd H1 tp (.tup [V.str "num",V.str "word"]):=⟨_,rfl⟩
 rw[<- eH]at s2 wd2 tb2 e2
 cases kg with
 | num=>
  rw[twd,twdL]at ez
  cases ez
  refine iteP (show (if false=true then !inV (V.str "num") [V.str "num",V.str "word"] else inV (V.str "num") [V.str "num",V.str "word"])=true by decide +kernel) ?_
  rw[<- eH]
  refine⟨_,rfl,(by show 1<=sizeLine;decide),fun t ht=>?_⟩
  rw[tdat,tdatL]at fin
  exact fin.tup e2 wd2 tb2 (.one (by rw[IsDt])) ht
 | word=>
  rw[twd,twdL]at ez
  cases ez
  refine iteP (show (if false=true then !inV (V.str "word") [V.str "num",V.str "word"] else inV (V.str "word") [V.str "num",V.str "word"])=true by decide +kernel) ?_
  rw[<- eH]
  refine⟨_,rfl,(by show 1<=sizeLine;decide),fun t ht=>?_⟩
  rw[tdat,tdatL]at fin
  exact fin.tup e2 wd2 tb2 (.one (by rw[IsDt])) ht
 | @bag d' kt h=>
  rw[twd,twdL,twdL,List.append_nil]at ez
  cases ez
  refine iteN (show ¬(if false=true then !inV (V.str "bag") [V.str "num",V.str "word"] else inV (V.str "bag") [V.str "num",V.str "word"])=true by decide +kernel) (to3 _ _ ?_)
  rw[<- eH]
  refine⟨_,rfl,.inl ⟨rfl,_,rfl,iteN (show ¬decide (V.str "bag"=V.str "row")=true by decide +kernel) ?_⟩⟩
  refine⟨_,rfl,.inl ⟨rfl,_,rfl,iteN (show ¬(!decide (V.str "bag"=V.str "bag"))=true by decide +kernel) ?_⟩⟩
  refine⟨_,rfl,_,rfl,_,_,rfl,rfl,x,dx,l,ws,i+1,kt,_,rfl,by lia,wd2,tb2,h,aw.tail,fun v H5 e5 wd5 tb5 iv=>⟨(by show 2<=sizeLine;decide),fun t ht=>?_⟩⟩
  rw[tdat,tdatL,tdatL]at fin
  refine fin.tup (e2.trans e5) ?_ tb5 (.cons (by rw[IsDt]) (.one iv)) ht
  rw[List.length_cons,List.map_nil,List.nil_append,show i+((twd kt).length+1)=i+1+(twd kt).length by lia]
  exact wd5
 | @row d' ps hl hn hs h=>
  rw[twd]at ez
  cases ez
  refine iteN (show ¬(if false=true then !inV (V.str "row") [V.str "num",V.str "word"] else inV (V.str "row") [V.str "num",V.str "word"])=true by decide +kernel) (to3 _ _ ?_)
  rw[<- eH]
  refine⟨_,rfl,.inl ⟨rfl,_,rfl,iteP (show decide (V.str "row"=V.str "row")=true by decide +kernel) ?_⟩⟩
  refine⟨_,rfl,tb2.2,fun fl c ctv H3 hf h1 h2 h3 ex3=>⟨[.ref x,.int r],rfl,fun g hp hn0=>?_⟩⟩
  have e23:ER x T1 T2 H2 H3:=fun b o _ _ n e=>ex3 b o n e
  have wd3:Wd C H3 x dx l ws (i+1):=wd2.er tb2 fun b o _ n e=>ex3 b o n e
  have tb3:Tb T1 T2 H3:=⟨lt_keep tb2.1 (fun qs e=>ex3 _ _ hT e) (fun b y e=>ex3 _ _ (fun z=>by obtain⟨qs,h⟩:=lt_tbl tb2.2;rw[z,h]at e;cases e) e),.inr ⟨c,h3,h2⟩⟩
  refine⟨lamN2,lamE2,SK (d'+1),⟨s.heap.objs.size,_,c,ctv,g,x,r,fl⟩,dx,l,ws,i+1,ps,rfl,⟨_,by show ((d'+1:Nat):Int)+1<=r;lia,rfl,rfl⟩,⟨add_some hn0 h1,add_some hn0 h2,addG_cells hp⟩,wd3.addG hn0,tb3.addG hn0,hl,hn,hs,h,aw.tail,Rds.call (H:=H3) (fun v H5 e5 wd5 tb5 iv=>⟨(by show 2<=sizeLine;decide),fun t ht=>?_⟩) wd3 tb3 hn0 hp⟩
  rw[tdat]at fin
  refine fin.tup (e2.trans (e23.trans e5)) ?_ tb5 (.cons (by rw[IsDt]) (.one iv)) ht
  rw[List.length_cons,List.length_cons,show i+((twdR ps).length+1+1)=i+1+(1+(twdR ps).length) by lia]
  exact wd5
theorem rkind_all (hT:T1≠T2) (T:Tx mg) (LM:LmK K mg c0 T2) (Zac:Cls K C) (Zae:Df K mg "read_kind" (top 20) f fd ["words","room"]) (hc:fd.code=.ref c0)
  (Zal:Mf K C "word" "Words.word" (mtop 16 3) f1 fd1 ["self"]) (Zas:FnOk P w K mg base CX0 2 f1 fd1 ["self"] (spWord C))
  (Zaq:Df K mg "read_fields" (top 21) f3 fd3 ["words","read_inner"])
  (GF:∀ (k:Nat) (Cf:Addr->Sp->Prop),3<=k->(∀ f sp,Cf f sp->HeldK P w K mg base k f sp)->FnOk P w K mg base CX0 (k+1) f3 fd3 ["words","read_inner"] (spFds C T1 T2 Cf)) :
  ∀ d:Nat,FnOk P w K mg base CX0 (3 * d+6) f fd ["words","room"] (spKd C T1 T2 (KG d) (d+1)):=fun d=>by
 have one:∀ k d,3<=k->FnOk P w K mg base CX0 k f fd ["words","room"] (spKd C T1 T2 (SK d) d)->FnOk P w K mg base CX0 (k+3) f fd ["words","room"] (spKd C T1 T2 (KG d) (d+1)):=fun k d hk G=>
  ok_rkind hT hk T LM Zac Zae hc G Zal Zas Zaq (GF (k+1) (CF2 C T1 T2 d) (by lia) (held2 Zae G))
 induction d with
 | zero=>exact one 3 0 (by decide) ⟨fun vs H Q E h=>by obtain⟨x,dx,l,ws,i,t,r,rfl,_⟩:=h;rfl,fun _ _ _ _ _ _ _ _ _ _ _ _ _ h=>by obtain⟨x,dx,l,ws,i,t,r,_,_,_,_,z,_⟩:=h;exact z.elim⟩
 | succ d ih=>exact one (3 * d+6) (d+1) (by lia) ih
end
end K11
end
section
namespace K11
open PySem L2 Kn
def sortS (b:Bool):Str:=if b then "claim" else "question"
def SQ:Nat->Bool->Tr->Prop
 | 0=>fun _ _=>False
 | d+1=>QG d
inductive Item (d:Nat):Str->List Str->Dt->Prop where
 | num (i:Int) (h:i.natAbs<10 ^ 34):Item d (Str.ofString "number") [numS i] (.int i)
 | name (s:Str) (h:nmOk s):Item d (Str.ofString "name") [s] (.str s)
 | kind (t:Tr) (h:KG 2 t):Item d (Str.ofString "kind") (twd t) (tdat t)
 | fields (ps:List (Str×Tr)) (hl:ps.length<=14) (hn:∀ p∈ps,nmOk p.1) (hs:riseS (ps.map (·.1))) (h:∀ p∈ps,SQ d false p.2):Item d (Str.ofString "fields") (numS (ps.length:Int)::twdR ps) (.tup (tdatR ps))
 | knot (b:Bool) (t:Tr) (h:SQ d b t):Item d (sortS b) (twd t) (tdat t)
section
variable {P:Program}{w:World}{K:PySem.W.Frag}{mg:Str->Option Value}{base:Heap}{f c0 f1 f2 f3 f4 f5:Addr}{fd fd1 fd2 fd3 fd4 fd5:FuncData}{C T1 T2:Addr}
def spKn (C T1 T2:Addr) (S:Bool->Tr->Prop) (n:Nat):Sp:=fun vs H Q _=>∃ (x dx l:Addr) (ws:List Str) (i:Nat) (t:Tr) (r:Int) (b:Bool),vs=[.ref x,.str (sortS b),.int r]/\(n:Int)<=r/\Wd C H x dx l ws i/\Tb T1 T2 H/\S b t/\AtW ws i (twd t)/\Rds C T1 T2 x dx l ws i (twd t).length (tdat t) H Q
theorem ok_lam1 {k n:Nat}{S:Bool->Tr->Prop}{q:LP} (hq:(n:Int)<=q.r) (Zag:Df K mg "read_knot" (top 18) f fd ["words","sort","room"]) (ZaE:FnOk P w K mg base CX0 k f fd ["words","sort","room"] (spKn C T1 T2 S n)) :
  FnOk P w K mg base CX0 (k+1) q.f (PySem.W.kla_fn "<lambda>" lamN1 (lamP lamE1) (lamB lamE1) (lamS lamE1) (clo q.L) q.pm (.ref q.c) q.ctv) [] (spIn C T1 T2 lamN1 lamE1 (S false) q):=by
 refine lam_ofC sc_lam1 (clo_inj q.L) (fun vs H Q E h=>?_) (fun vs H Q E h=>⟨h.2.1.fn,h.2.1.cd,_,_,h.2.1.cl⟩) fun A out s H vs us g Q E hr h cg=>?_
 ·obtain⟨rfl,_⟩:=h;rfl
 obtain⟨rfl,la,dx,l,ws,i,t,wd,tb,st,aw,fin⟩:=h
 obtain rfl:=cellsG_eq la.cl cg
 have hu:=u110 hr
 have hu0:=u0 hr
 have hu1:=hu_of hr
 refine⟨_,we_call ZaE (hr.mono (by lia)) rfl Zag.mg Zag.kp Zag.b .nil pass0 (wa_cons (wv 0) (wa_cons we_str (wa_cons (wv 1) wa_nil))),?_⟩
 refine⟨_,rfl,_,rfl,q.x,dx,l,ws,i,t,q.r,false,rfl,hq,wd.rem fun b z=>⟨_,cg.1 b z⟩,tb.rem cg,st,aw,fin.lam⟩
def CF1 (C T1 T2:Addr) (d:Nat):Addr->Sp->Prop:=fun f sp=>∃ q:LP,(d:Int)<=q.r/\f=q.f/\sp=spIn C T1 T2 lamN1 lamE1 (SQ d false) q
theorem held1 {k d:Nat} (Zag:Df K mg "read_knot" (top 18) f fd ["words","sort","room"]) (ZaE:FnOk P w K mg base CX0 k f fd ["words","sort","room"] (spKn C T1 T2 (SQ d) d)):∀ f sp,CF1 C T1 T2 d f sp->HeldK P w K mg base (k+1) f sp:=by
 rintro f sp ⟨q,hq,rfl,rfl⟩
 exact⟨q.c,lamN1,lamP lamE1,lamB lamE1,lamS lamE1,clo q.L,q.pm,q.ctv,[],ok_lam1 hq Zag ZaE,.all fun us hl=>(by obtain rfl:=List.length_eq_zero_iff.mp hl;rfl),fun vs H Q E h=>h.2.1.fn⟩
def spPt (C T1 T2:Addr) (d:Nat):Sp:=fun vs H Q _=>∃ (x dx l:Addr) (ws:List Str) (i:Nat) (s:Str) (zs:List Str) (dt:Dt) (r:Int),vs=[.ref x,.str s,.int r]/\(d:Int)<=r/\Wd C H x dx l ws i/\Tb T1 T2 H/\Item d s zs dt/\AtW ws i zs/\Rds C T1 T2 x dx l ws i zs.length dt H Q
theorem Zbx:FnScope ["words","sort","room"] ["words","sort","room"] (defScope (top 19)):=⟨rfl,rfl,rfl,by decide +kernel,rfl,by decide +kernel,by decide +kernel⟩
theorem ok_part {k d:Nat}{t1:Tok} (hT:T1≠T2) (hk:12<=k) (T:Tx mg) (LM:LmK K mg c0 T1) (Zac:Cls K C) (Za3:mg "DEEPEST_KIND"=some (.int 12 t1)) (D:Df K mg "read_part" (top 19) f fd ["words","sort","room"]) (hc:fd.code=.ref c0)
  (Zag:Df K mg "read_knot" (top 18) f4 fd4 ["words","sort","room"]) (ZaE:FnOk P w K mg base CX0 k f4 fd4 ["words","sort","room"] (spKn C T1 T2 (SQ d) d))
  (Zax:Mf K C "name" "Words.name" (mtop 16 4) f1 fd1 ["self"]) (ZaJ:FnOk P w K mg base CX0 3 f1 fd1 ["self"] (spNm C))
  (Zay:Mf K C "number" "Words.number" (mtop 16 5) f2 fd2 ["self"]) (ZaK:FnOk P w K mg base CX0 3 f2 fd2 ["self"] (spNumb C))
  (Zae:Df K mg "read_kind" (top 20) f5 fd5 ["words","room"]) (ZaD:FnOk P w K mg base CX0 12 f5 fd5 ["words","room"] (spKd C T1 T2 (KG 2) 3))
  (Zaq:Df K mg "read_fields" (top 21) f3 fd3 ["words","read_inner"]) (Za2:FnOk P w K mg base CX0 (k+2) f3 fd3 ["words","read_inner"] (spFds C T1 T2 (CF1 C T1 T2 d))) :
  FnOk P w K mg base CX0 (k+3) f fd ["words","sort","room"] (spPt C T1 T2 d):=by
 refine D.fn.okC (k:=k+2) hc Zbx (fun vs H Q E h=>?_) (fun A outer s H vs Q E hr h=>?_)
 ·obtain⟨x,dx,l,ws,i,st,zs,dt,r,rfl,_⟩:=h;rfl
 obtain⟨x,dx,l,ws,i,st,zs,dt,r,rfl,hr0,wd,tb,it,aw,fin⟩:=h
 have hu:=u110 hr
 have hu0:=u0 hr
 have hu1:=hu_of hr
 have hCl:=cl1 s.heap.objs.size f (.ref c0)
 have CP:CapOk (cxOf CX0 P w K mg base ["words","sort","room"] "read_part" (defScope (top 19)) f (.ref c0) A outer s H E).nox (clo s.heap.objs.size) [0,2]:=
  ⟨fun p hp=>by
   simp only[clo,List.mem_cons,List.not_mem_nil,or_false]at hp
   rcases hp with rfl | rfl <;> rfl,.cons ⟨rfl,rfl⟩ (.cons ⟨rfl,rfl⟩ .nil),fun _=>rfl⟩
 refine⟨_,(wss_cons (ws_if (wt_cmpR (op_eqU hu) (wv 1) we_str (nomark _)) (wss_one (ws_ret (we_meth0 (wv 0) Zac Zay.mt ZaK (hr.mono (by lia)) Zay.b .nil pass0))) wss_nil)
   (wss_cons (ws_if (wt_cmpR (op_eqU hu) (wv 1) we_str (nomark _)) (wss_one (ws_ret (we_meth0 (wv 0) Zac Zax.mt ZaJ (hr.mono (by lia)) Zax.b .nil pass0))) wss_nil)
   (wss_cons (ws_if (wt_cmpR (op_eqU hu) (wv 1) we_str (nomark _)) (wss_one (ws_ret (we_call ZaD (hr.mono (by lia)) rfl Zae.mg Zae.kp Zae.b .nil pass0 (wa_cons (wv 0) (wa_cons (we_glob rfl Za3 (relv_int _ _)) wa_nil))))) wss_nil)
   (wss_cons (ws_if (wt_cmpR (op_eqU hu) (wv 1) we_str (nomark _)) (wss_one (ws_ret (we_callC (E:=E0) CP Za2 (hr.mono (by lia)) rfl Zaq.mg Zaq.kp Zaq.b (wa_cons (wv 0) (wa_cons (we_lamC LM hCl) wa_nil))))) wss_nil)
   (wss_one (ws_ret (we_call ZaE (hr.mono (by lia)) rfl Zag.mg Zag.kp Zag.b .nil pass0 (wa_cons (wv 0) (wa_cons (wv 1) (wa_cons (wv 2) wa_nil)))))))))),?_⟩
 cases it with
 | num n h=>
  refine⟨_,rfl,.inl ⟨rfl,_,rfl,iteP (show decide (V.str "number"=V.str "number")=true by decide +kernel) ?_⟩⟩
  refine⟨_,rfl,x,dx,_,rfl,wd.at_,rfl,x,dx,l,ws,i,n,rfl,wd,aw.head,Nat.le_trans (numS_len h) (by decide),fun H1 ex1 wd1=>?_⟩
  exact fin _ _ (.ex ex1) wd1 (tb.ex wd ex1) (by rw[IsDt])
 | name z h=>
  refine⟨_,rfl,.inl ⟨rfl,_,rfl,iteN (show ¬decide (V.str "name"=V.str "number")=true by decide +kernel) ?_⟩⟩
  refine⟨_,rfl,.inl ⟨rfl,_,rfl,iteP (show decide (V.str "name"=V.str "name")=true by decide +kernel) ?_⟩⟩
  refine⟨_,rfl,x,dx,_,rfl,wd.at_,rfl,x,dx,l,ws,i,z,rfl,wd,aw.head,h,fun H1 ex1 wd1=>?_⟩
  exact fin _ _ (.ex ex1) wd1 (tb.ex wd ex1) (by rw[IsDt])
 | kind t h=>
  refine⟨_,rfl,.inl ⟨rfl,_,rfl,iteN (show ¬decide (V.str "kind"=V.str "number")=true by decide +kernel) ?_⟩⟩
  refine⟨_,rfl,.inl ⟨rfl,_,rfl,iteN (show ¬decide (V.str "kind"=V.str "name")=true by decide +kernel) ?_⟩⟩
  refine⟨_,rfl,.inl ⟨rfl,_,rfl,iteP (show decide (V.str "kind"=V.str "kind")=true by decide +kernel) ?_⟩⟩
  exact⟨_,rfl,x,dx,l,ws,i,t,12,rfl,by decide,wd,tb,h,aw,fin⟩
 | fields ps hl hn hs h=>
  refine⟨_,rfl,.inl ⟨rfl,_,rfl,iteN (show ¬decide (V.str "fields"=V.str "number")=true by decide +kernel) ?_⟩⟩
  refine⟨_,rfl,.inl ⟨rfl,_,rfl,iteN (show ¬decide (V.str "fields"=V.str "name")=true by decide +kernel) ?_⟩⟩
  refine⟨_,rfl,.inl ⟨rfl,_,rfl,iteN (show ¬decide (V.str "fields"=V.str "kind")=true by decide +kernel) ?_⟩⟩
  refine⟨_,rfl,.inl ⟨rfl,_,rfl,iteP (show decide (V.str "fields"=V.str "fields")=true by decide +kernel) ?_⟩⟩
  refine⟨_,rfl,tb.1,fun fl c ctv H3 hf h1 h2 h3 ex3=>⟨[.ref x,.int r],rfl,fun g hp hn0=>?_⟩⟩
  have e23:ER x T1 T2 H H3:=fun b o _ n _ e=>ex3 b o n e
  have wd3:Wd C H3 x dx l ws i:=wd.er tb fun b o n _ e=>ex3 b o n e
  have tb3:Tb T1 T2 H3:=⟨.inr ⟨c,h3,h2⟩,lt_keep tb.2 (fun qs e=>ex3 _ _ (Ne.symm hT) e) (fun b y e=>ex3 _ _ (fun z=>by obtain⟨qs,h⟩:=lt_tbl tb.1;rw[z,h]at e;cases e) e)⟩
  refine⟨lamN1,lamE1,SQ d false,⟨s.heap.objs.size,_,c,ctv,g,x,r,fl⟩,dx,l,ws,i,ps,rfl,⟨_,hr0,rfl,rfl⟩,⟨add_some hn0 h1,add_some hn0 h2,addG_cells hp⟩,wd3.addG hn0,tb3.addG hn0,hl,hn,hs,h,aw,Rds.call (H:=H3) (fun v H5 e5 wd5 tb5 iv=>?_) wd3 tb3 hn0 hp⟩
  refine fin _ _ (e23.trans e5) ?_ tb5 iv
  rw[List.length_cons,show (twdR ps).length+1=1+(twdR ps).length by lia]
  exact wd5
 | knot b t h=>
  refine⟨_,rfl,.inl ⟨rfl,_,rfl,iteN (show ¬decide (V.str (sortS b)=V.str "number")=true by cases b <;> decide +kernel) ?_⟩⟩
  refine⟨_,rfl,.inl ⟨rfl,_,rfl,iteN (show ¬decide (V.str (sortS b)=V.str "name")=true by cases b <;> decide +kernel) ?_⟩⟩
  refine⟨_,rfl,.inl ⟨rfl,_,rfl,iteN (show ¬decide (V.str (sortS b)=V.str "kind")=true by cases b <;> decide +kernel) ?_⟩⟩
  refine⟨_,rfl,.inl ⟨rfl,_,rfl,iteN (show ¬decide (V.str (sortS b)=V.str "fields")=true by cases b <;> decide +kernel) ?_⟩⟩
  exact⟨_,rfl,_,rfl,_,rfl,x,dx,l,ws,i,t,r,b,rfl,hr0,wd,tb,h,aw,fin⟩
end
end K11
end
section
namespace K11
open PySem L2 Kn
def SHQ:List (Str×List Str):=[("num",["number"]),("word",["name"]),("var",["name"]),("table",["name"]),("row",["fields"]),("at",["name","question"]),("add",["question","question"]),("mul",["question","question"]),("none",["kind"]),("one",["question"]),("both",["question","question"]),("times",["number","question"]),("for",["name","question","question"]),("when",["claim","question"]),("let",["name","question","question"])]
def SHC:List (Str×List Str):=[("same",["question","question"]),("under",["question","question"]),("and",["claim","claim"]),("or",["claim","claim"]),("not",["claim"])]
def SH (b:Bool):List (Str×List Str):=if b then SHC else SHQ
abbrev It3:=Str×List Str×Dt
structure Shp (d:Nat) (b:Bool) (t:Tr) (z:Str) (its:List It3):Prop where
 wd:twd t=z::its.flatMap (·.2.1)
 dt:tdat t=.tup (.str z::its.map (·.2.2))
 sh:(z,its.map (·.1))∈SH b
 ok:∀ p∈its,Item d p.1 p.2.1 p.2.2
 le:its.length<=3
theorem all1 {d:Nat}{a:It3} (h:Item d a.1 a.2.1 a.2.2):∀ p∈[a],Item d p.1 p.2.1 p.2.2:=fun p hp=>by rw[List.mem_singleton.mp hp];exact h
theorem all2 {d:Nat}{a b:It3} (h:Item d a.1 a.2.1 a.2.2) (h2:Item d b.1 b.2.1 b.2.2):∀ p∈[a,b],Item d p.1 p.2.1 p.2.2:=fun p hp=>by
 rcases List.mem_cons.mp hp with rfl | hp
 ·exact h
 ·exact all1 h2 p hp
theorem all3 {d:Nat}{a b c:It3} (h:Item d a.1 a.2.1 a.2.2) (h2:Item d b.1 b.2.1 b.2.2) (h3:Item d c.1 c.2.1 c.2.2):∀ p∈[a,b,c],Item d p.1 p.2.1 p.2.2:=fun p hp=>by
 rcases List.mem_cons.mp hp with rfl | hp
 ·exact h
 ·exact all2 h2 h3 p hp
theorem shp_of {d:Nat}{b:Bool}{t:Tr} (h:QG d b t):∃ z its,Shp d b t z its:=by
 cases h with
 | @num d i h=>exact⟨_,[(_,_,_)],by rw[twd];rfl,by rw[tdat];rfl,(by simp only[List.map_cons,List.map_nil];decide +kernel),all1 (.num i h),by simp⟩
 | @leaf d w s hw h=>
  refine⟨w,[(_,_,_)],by rw[twd,twdL];rfl,by rw[tdat,tdatL];rfl,?_,all1 (.name s h),by simp⟩
  rcases hw with rfl | rfl | rfl <;> (simp only[List.map_cons,List.map_nil];decide +kernel)
 | @none d k h=>exact⟨_,[(_,_,_)],by rw[twd,twdL,twdL];rfl,by rw[tdat,tdatL,tdatL];rfl,(by simp only[List.map_cons,List.map_nil];decide +kernel),all1 (.kind k h),by simp⟩
 | row0=>exact⟨_,[(_,_,_)],by rw[twd,List.flatMap_cons,List.flatMap_nil,List.append_nil],by rw[tdat];rfl,(by simp only[List.map_cons,List.map_nil];decide +kernel),all1 (.fields [] (by simp) (fun p hp=>(nomatch hp)) (by rw[List.map_nil,riseS];trivial) (fun p hp=>(nomatch hp))),by simp⟩
 | @row d ps hl hn hs h=>exact⟨_,[(_,_,_)],by rw[twd,List.flatMap_cons,List.flatMap_nil,List.append_nil],by rw[tdat];rfl,(by simp only[List.map_cons,List.map_nil];decide +kernel),all1 (.fields (d:=d+1) ps hl hn hs h),by simp⟩
 | @«at» d s q h hq=>exact⟨_,[(_,_,_),(_,_,_)],by rw[twd,twdL,twdL];rfl,by rw[tdat,tdatL,tdatL];rfl,(by simp only[List.map_cons,List.map_nil];decide +kernel),all2 (.name s h) (.knot (d:=d+1) false q hq),by simp⟩
 | @times d i q h hq=>exact⟨_,[(_,_,_),(_,_,_)],by rw[twd,twdL,twdL];rfl,by rw[tdat,tdatL,tdatL];rfl,(by simp only[List.map_cons,List.map_nil];decide +kernel),all2 (.num i h) (.knot (d:=d+1) false q hq),by simp⟩
 | @one d q hq=>exact⟨_,[(_,_,_)],by rw[twd,twdL,twdL];rfl,by rw[tdat,tdatL,tdatL];rfl,(by simp only[List.map_cons,List.map_nil];decide +kernel),all1 (.knot (d:=d+1) false q hq),by simp⟩
 | @not d q hq=>exact⟨_,[(_,_,_)],by rw[twd,twdL,twdL];rfl,by rw[tdat,tdatL,tdatL];rfl,(by simp only[List.map_cons,List.map_nil];decide +kernel),all1 (.knot (d:=d+1) true q hq),by simp⟩
 | @when d c q hc hq=>exact⟨_,[(_,_,_),(_,_,_)],by rw[twd,twdL,twdL,twdL];rfl,by rw[tdat,tdatL,tdatL,tdatL];rfl,(by simp only[List.map_cons,List.map_nil];decide +kernel),all2 (.knot (d:=d+1) true c hc) (.knot (d:=d+1) false q hq),by simp⟩
 | @bind d w s q r hw h hq hr=>
  refine⟨w,[(_,_,_),(_,_,_),(_,_,_)],by rw[twd,twdL,twdL,twdL];rfl,by rw[tdat,tdatL,tdatL,tdatL];rfl,?_,all3 (.name s h) (.knot (d:=d+1) false q hq) (.knot (d:=d+1) false r hr),by simp⟩
  rcases hw with rfl | rfl <;> (simp only[List.map_cons,List.map_nil];decide +kernel)
 | @two d w q r hw hq hr=>
  refine⟨w,[(_,_,_),(_,_,_)],by rw[twd,twdL,twdL,twdL];rfl,by rw[tdat,tdatL,tdatL,tdatL];rfl,?_,all2 (.knot (d:=d+1) false q hq) (.knot (d:=d+1) false r hr),by simp⟩
  rcases hw with rfl | rfl | rfl <;> (simp only[List.map_cons,List.map_nil];decide +kernel)
 | @cmp d w q r hw hq hr=>
  refine⟨w,[(_,_,_),(_,_,_)],by rw[twd,twdL,twdL,twdL];rfl,by rw[tdat,tdatL,tdatL,tdatL];rfl,?_,all2 (.knot (d:=d+1) false q hq) (.knot (d:=d+1) false r hr),by simp⟩
  rcases hw with rfl | rfl <;> (simp only[List.map_cons,List.map_nil];decide +kernel)
 | @logic d w q r hw hq hr=>
  refine⟨w,[(_,_,_),(_,_,_)],by rw[twd,twdL,twdL,twdL];rfl,by rw[tdat,tdatL,tdatL,tdatL];rfl,?_,all2 (.knot (d:=d+1) true q hq) (.knot (d:=d+1) true r hr),by simp⟩
  rcases hw with rfl | rfl <;> (simp only[List.map_cons,List.map_nil];decide +kernel)
section
variable {P:Program}{w:World}{K:PySem.W.Frag}{mg:Str->Option Value}{base:Heap}{f c0 f1 f2 f3 f4 f5:Addr}{fd fd1 fd2 fd3 fd4 fd5:FuncData}{C T1 T2 aQ aC:Addr}
def ShAt (K:PySem.W.Frag) (aQ aC:Addr):Prop:=∀ b z ss,(z,ss)∈SH b->∃ a,PySem.W.nsIn K (if b then aC else aQ) z=some (some (.ref a))/\∀ H,SqT K H a (ss.map V.str)
theorem Za4:FnScope ["words","sort","room","word","shape"] ["words","sort","room"] (defScope (top 18)):=⟨rfl,rfl,rfl,by decide +kernel,rfl,by decide +kernel,by decide +kernel⟩
theorem ok_knot {k d:Nat} (hk:3<=k) (T:Tx mg) (Zac:Cls K C) (Za5:mg "CLAIMS"=some (.ref aC)) (Za6:mg "QUESTIONS"=some (.ref aQ)) (d_CLAIMS:TopD K w aC) (d_QUESTIONS:TopD K w aQ) (hS:ShAt K aQ aC)
  (D:Df K mg "read_knot" (top 18) f fd ["words","sort","room"])
  (Zal:Mf K C "word" "Words.word" (mtop 16 3) f1 fd1 ["self"]) (Zas:FnOk P w K mg base CX0 2 f1 fd1 ["self"] (spWord C))
  (Zaz:Df K mg "read_part" (top 19) f2 fd2 ["words","sort","room"]) (Zby:FnOk P w K mg base CX0 k f2 fd2 ["words","sort","room"] (spPt C T1 T2 d)) :
  FnOk P w K mg base CX0 (k+1) f fd ["words","sort","room"] (spKn C T1 T2 (QG d) (d+1)):=by
 refine D.fn.okH Za4 (fun vs H Q E h=>?_) (fun cdv A outer s H vs Q E hr h=>?_)
 ·obtain⟨x,dx,l,ws,i,t,r,b,rfl,_⟩:=h;rfl
 obtain⟨x,dx,l,ws,i,t,r,b,rfl,hr0,wd,tb,qg,aw,fin⟩:=h
 have hu:=u110 hr
 have hu0:=u0 hr
 have hu1:=hu_of hr
 refine⟨_,(wss_cons (ws_if (wt_cmpR (op_eqU hu) (wv 2) we_int (nomark _)) (wss_one ws_dead) wss_nil)
   (wss_cons (ws_set (i:=3) Za4.nd rfl (Or.inl rfl) (we_meth0 (wv 0) Zac Zal.mt Zas (hr.mono (by lia)) Zal.b .nil pass0))
   (wss_cons (ws_set (i:=4) Za4.nd rfl (Or.inl rfl) (we_ifExp (wt_cmpR (op_eqU hu) (wv 1) we_str (nomark _)) (we_nget d_CLAIMS (we_glob rfl Za5 (relv_ref _)) (wv 3)) (we_nget d_QUESTIONS (we_glob rfl Za6 (relv_ref _)) (wv 3))))
   (wss_cons (ws_if (wt_cmpR op_isN (wv 4) we_non (nomark _)) (wss_one ws_dead) wss_nil)
   (wss_one (ws_ret (we_op op_plus (we_tup (wa_cons (wv 3) wa_nil)) (we_callTy call_tuple_of rfl T.z_tuple bt_tuple (wa_cons (we_lc (Nt:=["part"]) (fr:=[("words",0),("room",2)]) (LcOk.of (sc:=defScope (top 18)) (N:=["words","sort","room","word","shape"]) rfl rfl (by decide +kernel)) rfl (wi_U (wv 4)) (fun z=>wg_name (i:=0) (by show (["part","words","room"]:List Str).Nodup;decide +kernel) rfl (Or.inl rfl) (.inr rfl)) (fun z=>tgt_name (by decide)) (fun z=>wif_nil) (fun z=>(we_call Zby (hr.mono (by lia)) rfl Zaz.mg Zaz.kp Zaz.b .nil pass0 (wa_cons (wv 1) (wa_cons (wv 0) (wa_cons (we_op op_sub (wv 2) we_int) wa_nil)))))) wa_nil))))))))),?_⟩
 obtain⟨z,its,sp⟩:=shp_of qg
 rw[sp.wd]at aw fin
 rw[sp.dt]at fin
 refine seqH fun N1 to1=>⟨_,rfl,.inl ⟨rfl,_,rfl,?_⟩⟩
 rw[decide_eq_false (show ¬V.int r=V.int 0 from fun z=>by injection z;lia)]
 refine iteF (to1 _ _ ?_)
 refine seqH fun N2 to2=>⟨_,rfl,x,dx,_,rfl,wd.at_,rfl,x,dx,l,ws,i,z,rfl,wd,aw.head,fun H1 ex1 wd1=>to2 _ _ ?_⟩
 have tb1:=tb.ex wd ex1
 have e1:ER x T1 T2 H H1:=.ex ex1
 obtain⟨a,ha,hq⟩:=hS b z _ sp.sh
 refine seqH fun N3 to3=>⟨_,rfl,.inl ⟨rfl,_,rfl,?_⟩⟩
 have go:N3 [some (.ref x),some (.str (sortS b)),some (.int r),some (.str z),some (.ref a)] H1:=by
  refine to3 _ _ ?_
  have ls:=sp.le
  refine⟨_,rfl,rfl,_,rfl,iteF ?_⟩
  refine⟨_,rfl,(by show 1<=sizeLine;decide),fun t1 ht1=>?_⟩
  have s2:=same_new ht1 (.tup [.str z])
  have hU:(upd H1 t1 (.tup [.str z])) t1=some (.tup [.str z]):=upd_same
  have wd2:=wd1.keep s2
  have tb2:=tb1.same s2
  have e2:ER x T1 T2 H (upd H1 t1 (.tup [.str z])):=e1.trans (.same s2)
  generalize upd H1 t1 (.tup [.str z])=H2 at hU wd2 tb2 e2 ⊢
  refine .inr ⟨_,rfl,a,rfl,⟨_,hq H2⟩,?_⟩
  refine⟨fun j m qs H'=>m+j=its.length/\ER x T1 T2 H2 H'/\IsDts H' ((its.take j).map (·.2.2)) qs/\Wd C H' x dx l ws (i+1+((its.take j).flatMap (·.2.1)).length)/\Tb T1 T2 H',⟨its.length,rfl,.refl _,.nil,wd2,tb2⟩,?_⟩
  rintro j m qs H3 ⟨hm,e3,iq,wd3,tb3⟩
  have lq:qs.length=min j its.length:=by rw[iq.length,List.length_map,List.length_take]
  refine⟨line1 (by lia),?_⟩
  by_cases hj:j<its.length
  ·obtain⟨it,hit⟩:∃ it,its[j]?=some it:=⟨_,List.getElem?_eq_getElem hj⟩
   have hg:((its.map (·.1)).map V.str)[j]?=some (.str it.1):=by rw[List.getElem?_map,List.getElem?_map,hit];rfl
   refine .inr ⟨⟨_,_,hq H3,hg⟩,fun zz y H5 hy=>?_⟩
   obtain⟨rfl,hx⟩:=hy
   have e5:=hx _ (hq H5)
   rw[hg]at e5
   cases e5
   refine gall ?_
   have htk:its.take (j+1)=its.take j++[it]:=by rw[List.take_add_one,hit];rfl
   have hsp:its=its.take j++it::its.drop (j+1):=by
    conv=>lhs;rw[<- List.take_append_drop j its,List.drop_eq_getElem_cons hj]
    rw[(List.getElem?_eq_some_iff.mp hit).2]
   have awj:AtW ws (i+1+((its.take j).flatMap (·.2.1)).length) it.2.1:=by
    have:=aw.tail
    rw[hsp,List.flatMap_append,List.flatMap_cons]at this
    exact this.split.2.split.1
   refine⟨_,rfl,_,rfl,_,rfl,_,_,rfl,rfl,x,dx,l,ws,_,it.1,it.2.1,it.2.2,_,rfl,by lia,wd3,tb3,sp.ok it (List.mem_of_getElem? hit),awj,fun v H6 e6 wd6 tb6 iv=>?_⟩
   refine⟨m-1,by lia,by lia,e3.trans e6,?_,?_,tb6⟩
   ·rw[htk,List.map_append]
    exact (IsDts.mono (e6.tups wd3 tb3) iq).append (.one iv)
   ·rw[htk,List.flatMap_append,List.length_append,List.flatMap_cons,List.flatMap_nil,List.append_nil,<- Nat.add_assoc]
    exact wd6
  ·rw[List.take_of_length_le (show its.length<=j by lia)]at iq wd3
   refine .inl ⟨⟨_,hq H3,by simp;lia⟩,fun p hp=>⟨p,_,rfl,.inl ⟨SqL.of upd_same,fun q hq2=>?_⟩⟩⟩
   have sA:=(same_new hp (.lst qs)).trans (same_new hq2 (.tup qs))
   have hU3:=(e3.tups wd2 tb2) _ _ hU
   refine .inr (.inr (.inr ⟨t1,q,[.str z],qs,rfl,rfl,sA _ _ hU3,upd_same,Nat.le_of_lt (line1 (by simp;lia)),fun u H7 s7 hu7=>?_⟩))
   have sB:Same H3 H7:=sA.trans s7
   refine fin _ _ (e2.trans (e3.trans (.same sB))) ?_ (tb3.same sB) ?_
   ·rw[List.length_cons,show i+((its.flatMap (·.2.1)).length+1)=i+1+(its.flatMap (·.2.1)).length by lia]
    exact wd3.keep sB
   ·rw[IsDt]
    exact⟨u,_,rfl,hu7,.cons (by rw[IsDt]) (IsDts.mono sB.tups iq)⟩
 cases b
 ·refine iteN (show ¬decide (V.str (sortS false)=V.str "claim")=true by decide +kernel) ?_
  exact⟨rfl,_,rfl,z,_,.ref a,rfl,ha,rfl,go⟩
 ·refine iteP (show decide (V.str (sortS true)=V.str "claim")=true by decide +kernel) ?_
  exact⟨rfl,_,rfl,z,_,.ref a,rfl,ha,rfl,go⟩
end
end K11
end
section
namespace K11
open PySem L2 Kn
section
variable {P:Program}{w:World}{K:PySem.W.Frag}{mg:Str->Option Value}{base:Heap}{f c0 c1 f1 f2 f3 f4 f5 f6:Addr}{fd fd1 fd2 fd3 fd4 fd5 fd6:FuncData}{C T1 T2 aQ aC:Addr}
theorem knot_all {t1:Tok} (hT:T1≠T2) (T:Tx mg) (LM1:LmK K mg c0 T1) (LM2:LmK K mg c1 T2) (Zac:Cls K C) (Za3:mg "DEEPEST_KIND"=some (.int 12 t1))
  (Za5:mg "CLAIMS"=some (.ref aC)) (Za6:mg "QUESTIONS"=some (.ref aQ)) (d_CLAIMS:TopD K w aC) (d_QUESTIONS:TopD K w aQ) (hS:ShAt K aQ aC)
  (Zal:Mf K C "word" "Words.word" (mtop 16 3) f fd ["self"]) (Zas:FnOk P w K mg base CX0 2 f fd ["self"] (spWord C))
  (Zax:Mf K C "name" "Words.name" (mtop 16 4) f1 fd1 ["self"]) (ZaJ:FnOk P w K mg base CX0 3 f1 fd1 ["self"] (spNm C))
  (Zay:Mf K C "number" "Words.number" (mtop 16 5) f2 fd2 ["self"]) (ZaK:FnOk P w K mg base CX0 3 f2 fd2 ["self"] (spNumb C))
  (Zaq:Df K mg "read_fields" (top 21) f3 fd3 ["words","read_inner"])
  (Zae:Df K mg "read_kind" (top 20) f4 fd4 ["words","room"]) (hc4:fd4.code=.ref c1)
  (Zaz:Df K mg "read_part" (top 19) f5 fd5 ["words","sort","room"]) (hc5:fd5.code=.ref c0)
  (Zag:Df K mg "read_knot" (top 18) f6 fd6 ["words","sort","room"]) :
  ∀ d:Nat,FnOk P w K mg base CX0 (4 * d+16) f6 fd6 ["words","sort","room"] (spKn C T1 T2 (QG d) (d+1)):=fun d=>by
 have GF:∀ (k:Nat) (Cf:Addr->Sp->Prop),3<=k->(∀ f sp,Cf f sp->HeldK P w K mg base k f sp)->FnOk P w K mg base CX0 (k+1) f3 fd3 ["words","read_inner"] (spFds C T1 T2 Cf):=fun k Cf hk hC=>
  ok_fds hk T hC Zac Zaq Zax ZaJ Zay ZaK
 have GK:=rkind_all hT T LM2 Zac Zae hc4 Zal Zas Zaq GF 2
 have one:∀ k d,12<=k->FnOk P w K mg base CX0 k f6 fd6 ["words","sort","room"] (spKn C T1 T2 (SQ d) d)->FnOk P w K mg base CX0 (k+4) f6 fd6 ["words","sort","room"] (spKn C T1 T2 (QG d) (d+1)):=fun k d hk G=>
  ok_knot (by lia) T Zac Za5 Za6 d_CLAIMS d_QUESTIONS hS Zag Zal Zas Zaz
   (ok_part hT hk T LM1 Zac Za3 Zaz hc5 Zag G Zax ZaJ Zay ZaK Zae GK Zaq (GF (k+1) (CF1 C T1 T2 d) (by lia) (held1 Zag G)))
 induction d with
 | zero=>exact one 12 0 (by decide) ⟨fun vs H Q E h=>by obtain⟨x,dx,l,ws,i,t,r,b,rfl,_⟩:=h;rfl,fun _ _ _ _ _ _ _ _ _ _ _ _ _ h=>by obtain⟨x,dx,l,ws,i,t,r,b,_,_,_,_,z,_⟩:=h;exact z.elim⟩
 | succ d ih=>exact one (4 * d+16) (d+1) (by lia) ih
theorem Za7:FnScope ["text","words","question"] ["text"] (defScope (top 17)):=⟨rfl,rfl,rfl,by decide +kernel,rfl,by decide +kernel,by decide +kernel⟩
def spRq (C T1 T2:Addr):Sp:=fun vs H Q _=>∃ (z:Str) (t:Tr),vs=[.str z]/\z.length+2<=sizeLine/\Txt.split z (Str.ofString " ")=twd t/\(twd t).length<=100000/\QG 15 false t/\Tb T1 T2 H /\
 ∀ v H',(∀ b o,b≠T1->b≠T2->H b=some o->H' b=some o)->Tb T1 T2 H'->IsDt H' (tdat t) v->Q v H'
theorem ok_rq {t1:Tok} (T:Tx mg) (Zac:Cls K C) (Zbz:Mk K C f1) (ZbA:mg "Words"=some (.ref C)) (ZbB:mg "DEEPEST_QUESTION"=some (.int 20 t1)) (D:Df K mg "read_question" (top 17) f fd ["text"])
  (ZbC:Mf K C "__init__" "Words.__init__" (mtop 16 0) f1 fd1 ["self","text"]) (ZbD:FnOk P w K mg base CX0 1 f1 fd1 ["self","text"] (spInit C))
  (ZaU:Mf K C "at_end" "Words.at_end" (mtop 16 2) f2 fd2 ["self"]) (Za1:FnOk P w K mg base CX0 1 f2 fd2 ["self"] (spEnd C))
  (Zag:Df K mg "read_knot" (top 18) f6 fd6 ["words","sort","room"]) (ZaE:FnOk P w K mg base CX0 76 f6 fd6 ["words","sort","room"] (spKn C T1 T2 (QG 15) 16)) :
  FnOk P w K mg base CX0 77 f fd ["text"] (spRq C T1 T2):=by
 refine D.fn.okH (k:=76) Za7 (fun vs H Q E h=>?_) (fun cdv A outer s H vs Q E hr h=>?_)
 ·obtain⟨z,t,rfl,_⟩:=h;rfl
 obtain⟨z,t,rfl,lz,ez,lt,qg,tb,fin⟩:=h
 have hu:=u110 hr
 have hu0:=u0 hr
 have hu1:=hu_of hr
 refine⟨_,(wss_cons (ws_set (i:=1) Za7.nd rfl (Or.inl rfl) (we_make Zbz ZbD (hr.mono (by lia)) rfl ZbA ZbC.b .nil pass0 (wa_cons (wv 0) wa_nil)))
   (wss_cons (ws_set (i:=2) Za7.nd rfl (Or.inl rfl) (we_call ZaE (hr.mono (by lia)) rfl Zag.mg Zag.kp Zag.b .nil pass0 (wa_cons (wv 1) (wa_cons we_str (wa_cons (we_glob rfl ZbB (relv_int _ _)) wa_nil)))))
   (wss_cons (ws_if (wt_not (wt_val (we_meth0 (wv 1) Zac ZaU.mt Za1 (hr.mono (by lia)) ZaU.b .nil pass0))) (wss_one ws_dead) wss_nil)
   (wss_one (ws_ret (wv 2)))))),?_⟩
 refine seqH fun N1 to1=>⟨_,rfl,fun x dx hx hdx nd=>?_⟩
 have sM:Same H (upd (upd H dx (.own x)) x (.ins C dx [])):=fun b o e=>by rw[upd_ne (ne_of_none e hx),upd_ne (ne_of_none e hdx)];exact e
 refine⟨x,dx,z,twd t,rfl,lz,upd_same,ez,lt,fun l H1 ex1 wd1 hl=>⟨rfl,to1 _ _ ?_⟩⟩
 have e1:Same H H1:=fun b o e=>ex1 b o (ne_of_none e hx) (sM b o e)
 have tb1:=tb.same e1
 refine seqH fun N2 to2=>⟨_,rfl,x,dx,l,twd t,0,t,20,false,rfl,by decide,wd1,tb1,qg,⟨[],by simp⟩,fun v H2 e2 wd2 tb2 iv=>to2 _ _ ?_⟩
 rw[Nat.zero_add]at wd2
 refine⟨_,rfl,x,dx,_,rfl,wd2.at_,rfl,x,dx,l,twd t,_,rfl,wd2,_,rfl,?_⟩
 rw[decide_eq_true rfl]
 refine iteF ⟨_,rfl,fin v H2 (fun b o n1 n2 e=>e2 b o (ne_of_none e hx) n1 n2 (e1 b o e)) tb2 iv⟩
end
end K11
end
section
namespace K11
open PySem L2 Kn
theorem num_free (i:Int):32 ∉ (numS i).cps.toList:=by
 rcases num_shape i with ⟨m,rfl,e,_⟩ | ⟨m,rfl,c,t,e,e2,_⟩
 ·have e:(numS (m:Int)).cps.toList=_:=e
  intro h
  rw[e]at h
  have:=digit_sign h
  lia
 ·have e:(numS (-(m:Int))).cps.toList=_:=e
  intro h
  rw[e]at h
  rcases List.mem_cons.mp h with h | h
  ·lia
  ·rw[<- e2]at h
   have:=digit_sign h
   lia
theorem nm_free {s:Str} (h:nmOk s):32 ∉ s.cps.toList:=fun z=>by
 have:=h.2.2.1 _ z
 rw[isLet]at this
 revert this
 decide
theorem free_app {a b:List Str} (h1:∀ v∈a,32 ∉ v.cps.toList) (h2:∀ v∈b,32 ∉ v.cps.toList):∀ v∈a++b,32 ∉ v.cps.toList:=fun v hv=>(List.mem_append.mp hv).elim (h1 v) (h2 v)
theorem free_cons {a:Str}{b:List Str} (h1:32 ∉ a.cps.toList) (h2:∀ v∈b,32 ∉ v.cps.toList):∀ v∈a::b,32 ∉ v.cps.toList:=fun v hv=>(List.mem_cons.mp hv).elim (fun e=>by rw[e];exact h1) (h2 v)
theorem free_nil:∀ v∈([]:List Str),32 ∉ v.cps.toList:=fun v hv=>nomatch hv
theorem free_row {ps:List (Str×Tr)} (hn:∀ p∈ps,nmOk p.1) (h:∀ p∈ps,∀ v∈twd p.2,32 ∉ v.cps.toList):∀ v∈twd (.row ps),32 ∉ v.cps.toList:=by
 rw[twd,twdR_map]
 refine free_cons (by decide +kernel) (free_cons (num_free _) fun v hv=>?_)
 obtain⟨p,hp,hv⟩:=List.mem_flatMap.mp hv
 exact free_cons (nm_free (hn p hp)) (h p hp) v hv
theorem kg_free {d:Nat}{t:Tr} (h:KG d t):∀ v∈twd t,32 ∉ v.cps.toList:=by
 induction h with
 | num=>rw[twd,twdL];exact free_cons (by decide +kernel) free_nil
 | word=>rw[twd,twdL];exact free_cons (by decide +kernel) free_nil
 | bag _ ih=>rw[twd,twdL,twdL,List.append_nil];exact free_cons (by decide +kernel) ih
 | row hl hn hs _ ih=>exact free_row hn ih
theorem qg_free {d:Nat}{b:Bool}{t:Tr} (h:QG d b t):∀ v∈twd t,32 ∉ v.cps.toList:=by
 induction h with
 | num=>rw[twd,twdL];exact free_cons (by decide +kernel) (free_cons (num_free _) free_nil)
 | leaf hw h=>
  rw[twd,twdL]
  refine free_cons ?_ (free_cons (nm_free h) free_nil)
  rcases hw with rfl | rfl | rfl <;> decide +kernel
 | none h=>rw[twd,twdL,twdL,List.append_nil];exact free_cons (by decide +kernel) (kg_free h)
 | row0=>exact free_row (fun p hp=>(nomatch hp)) (fun p hp=>(nomatch hp))
 | row hl hn hs _ ih=>exact free_row hn ih
 | «at» h _ ih=>rw[twd,twdL,twdL,List.append_nil];exact free_cons (by decide +kernel) (free_cons (nm_free h) ih)
 | times h _ ih=>rw[twd,twdL,twdL,List.append_nil];exact free_cons (by decide +kernel) (free_cons (num_free _) ih)
 | one _ ih=>rw[twd,twdL,twdL,List.append_nil];exact free_cons (by decide +kernel) ih
 | not _ ih=>rw[twd,twdL,twdL,List.append_nil];exact free_cons (by decide +kernel) ih
 | when _ _ i1 i2=>rw[twd,twdL,twdL,twdL,List.append_nil];exact free_cons (by decide +kernel) (free_app free_nil (free_app i1 i2))
 | bind hw h _ _ i1 i2=>
  rw[twd,twdL,twdL,twdL,List.append_nil]
  refine free_cons ?_ (free_cons (nm_free h) (free_app free_nil (free_app i1 i2)))
  rcases hw with rfl | rfl <;> decide +kernel
 | two hw _ _ i1 i2=>
  rw[twd,twdL,twdL,twdL,List.append_nil]
  refine free_cons ?_ (free_app free_nil (free_app i1 i2))
  rcases hw with rfl | rfl | rfl <;> decide +kernel
 | cmp hw _ _ i1 i2=>
  rw[twd,twdL,twdL,twdL,List.append_nil]
  refine free_cons ?_ (free_app free_nil (free_app i1 i2))
  rcases hw with rfl | rfl <;> decide +kernel
 | logic hw _ _ i1 i2=>
  rw[twd,twdL,twdL,twdL,List.append_nil]
  refine free_cons ?_ (free_app free_nil (free_app i1 i2))
  rcases hw with rfl | rfl <;> decide +kernel
theorem sum_short {ws:List Str}{n:Nat} (h:∀ w∈ws,w.length<=n):(ws.map (·.length)).sum<=ws.length * n:=by
 induction ws with
 | nil=>simp
 | cons a ws ih=>
  have h1:=h a List.mem_cons_self
  have h2:=ih fun w hw=>h w (List.mem_cons_of_mem _ hw)
  rw[List.map_cons,List.sum_cons,List.length_cons,Nat.succ_mul]
  lia
theorem Tb.keepD {T1 T2:Addr}{H H':Hp} (h:Tb T1 T2 H) (e:∀ c o,(∀ xs,o≠.dK xs)->H c=some o->H' c=some o):Tb T1 T2 H':=
 ⟨lt_keep h.1 (fun _ z=>e _ _ (fun _ q=>by cases q) z) (fun _ _ z=>e _ _ (fun _ q=>by cases q) z),lt_keep h.2 (fun _ z=>e _ _ (fun _ q=>by cases q) z) (fun _ _ z=>e _ _ (fun _ q=>by cases q) z)⟩
section
variable {P:Program}{w:World}{K:PySem.W.Frag}{mg:Str->Option Value}{base:Heap}{f f_hand f_drawn f_lw f_same f_rq:Addr}{fd fd_hand fd_drawn fd_lw fd_same fd_rq:FuncData}{C T1 T2:Addr}
theorem ZaL:FnScope ["script","hand","turn","question","text","again"] ["script"] (defScope (top 37)):=⟨rfl,rfl,rfl,by decide +kernel,rfl,by decide +kernel,by decide +kernel⟩
def spLaw (K:PySem.W.Frag) (T1 T2:Addr):Sp:=fun vs H Q _=>∃ (a:Addr) (ns:List Int),vs=[.ref a]/\SqL K H a (ns.map V.int)/\ns.length<=63/\Tb T1 T2 H/\∀ H',Q (.bl true) H'
theorem ok_law (T:Tx mg) (D:Df K mg "law" (top 37) f fd ["script"])
  (ZaM:Df K mg "_law_hand" (top 23) f_hand fd_hand ["script"]) (ZbE:FnOk P w K mg base CX0 1 f_hand fd_hand ["script"] (spHand K))
  (ZaN:Df K mg "_law_drawn" (top 33) f_drawn fd_drawn ["hand"]) (ZbF:FnOk P w K mg base CX0 23 f_drawn fd_drawn ["hand"] spDrawn)
  (Zak:Df K mg "_law_words" (top 35) f_lw fd_lw ["question"]) (ZaV:FnOk P w K mg base CX0 19 f_lw fd_lw ["question"] (spWd (GQ 15)))
  (Zap:Df K mg "_law_same" (top 36) f_same fd_same ["found","due"]) (ZaZ:FnOk P w K mg base CX0 58 f_same fd_same ["found","due"] (spSame 56))
  (ZaO:Df K mg "read_question" (top 17) f_rq fd_rq ["text"]) (ZbG:FnOk P w K mg base CX0 77 f_rq fd_rq ["text"] (spRq C T1 T2)) :
  FnOk P w K mg base CX0 78 f fd ["script"] (spLaw K T1 T2):=by
 refine D.fn.okH (k:=77) ZaL (fun vs H Q E h=>?_) (fun cdv A outer s H vs Q E hr h=>?_)
 ·obtain⟨a,ns,rfl,_⟩:=h;rfl
 obtain⟨a,ns,rfl,hS,h63,tb,fin⟩:=h
 have hu:=u110 hr
 have hu0:=u0 hr
 have hu1:=hu_of hr
 refine⟨_,(wss_cons (ws_set (i:=1) ZaL.nd rfl (Or.inl rfl) (we_call ZbE (hr.mono (by lia)) rfl ZaM.mg ZaM.kp ZaM.b .nil pass0 (wa_cons (wv 0) wa_nil)))
   (wss_cons (ws_for PassesOwn.never rfl (wi_range1 rfl T.z_range (wa_cons we_int wa_nil)) (wg_name (i:=2) ZaL.nd rfl (Or.inl rfl)) (wss_cons (ws_set (i:=3) ZaL.nd rfl (Or.inl rfl) (we_call ZbF (hr.mono (by lia)) rfl ZaN.mg ZaN.kp ZaN.b .nil pass0 (wa_cons (wv 1) wa_nil)))
   (wss_cons (ws_set (i:=4) ZaL.nd rfl (Or.inl rfl) (we_bm PySem.F.plainAttrs_str PySem.F.slot_str_join PySem.F.type_str_join mt_join we_str (wa_cons (we_call ZaV (hr.mono (by lia)) rfl Zak.mg Zak.kp Zak.b .nil pass0 (wa_cons (wv 3) wa_nil)) wa_nil)))
   (wss_cons (ws_for PassesOwn.never rfl (wi_range1 rfl T.z_range (wa_cons (we_op op_mul we_int (we_callTy call_int1 rfl T.z_int bt_int (wa_cons (we_cmpR op_le (we_callB call_lenU rfl T.z_len bt_len (wa_cons (wv 4) wa_nil)) we_int (nomark _)) wa_nil))) wa_nil)) (wg_name (i:=5) ZaL.nd rfl (Or.inl rfl)) (wss_one (ws_if (wt_not (wt_val (we_call ZaZ (hr.mono (by lia)) rfl Zap.mg Zap.kp Zap.b .nil pass0 (wa_cons (we_call ZbG (hr.mono (by lia)) rfl ZaO.mg ZaO.kp ZaO.b .nil pass0 (wa_cons (wv 4) wa_nil)) (wa_cons (wv 3) wa_nil))))) (wss_one (ws_ret we_bl)) wss_nil)))
   (wss_one (ws_if (wt_pw (ww_and (wt_cmpR op_ge (we_ix (ix_U hu1) (wv 1) we_str (fun _ _=>rfl)) (we_callB call_lenU rfl T.z_len bt_len (wa_cons (we_ix (ix_U hu1) (wv 1) we_str (fun _ _=>rfl)) wa_nil)) (nomark _)) (ww_and1 (wt_cmpR op_gt (wv 2) we_int (nomark _))))) (wss_one (ws_ret we_bl)) wss_nil))))))
   (wss_one (ws_ret we_bl)))),?_⟩
 refine⟨_,rfl,a,ns,rfl,hS,h63,fun p c cs H1 s1 hp hn1=>?_⟩
 have tb1:=tb.same s1
 refine⟨8,rfl,by decide,by decide,for_range (n:=8) (fun i σ H'=>∃ (o2 o3 o4 o5:Option V) (kn:Option Int),σ=[some (.ref a),some (.ref p),o2,o3,o4,o5]/\Hn H' p c cs kn/\Tb T1 T2 H') ⟨none,none,none,none,none,rfl,hn1,tb1⟩ ?turn ?done⟩
 case done=>rintro σ H' ⟨o2,o3,o4,o5,kn,rfl,_⟩;exact fin _
 case turn=>
  rintro i σ H' hi ⟨o2,o3,o4,o5,kn,rfl,hn,tb'⟩
  refine⟨_,rfl,p,c,cs,kn,rfl,hn,fun t v H2 k' qg ts it ex hn2=>?_⟩
  have tb2:Tb T1 T2 H2:=by
   obtain⟨n,r,tt,kvs,hd,_⟩:=hn
   refine tb'.keepD fun b o nb e=>ex b o (fun z=>by rw[z,hd.at_]at e;cases e;exact nb _ rfl) e
  have hok:=qg.ok
  have hcnt:=twd_cnt t
  have hsum:=sum_short (twd_short t hok)
  have e1:(Str.ofString " ").length=1:=by decide +kernel
  have hj:(Txt.join (Str.ofString " ") (twd t)).length<=16777216:=by
   have g:Txt.join (Str.ofString " ") (twd t)=Str.join (Str.ofString " ") (twd t):=StrLaws.glued_eq_join _ _
   have:=StrLaws.join_length_le (Str.ofString " ") (twd t)
   rw[g];rw[e1]at this;lia
  refine⟨rfl,_,rfl,v,t,rfl,it,⟨_,qg⟩,ts,fun l H3 s3 hl hL=>⟨_,l,twd t,rfl,rfl,SqL.of hL,by rw[e1];lia,?_⟩⟩
  have it3:=IsDt.mono s3.tups it
  have tb3:=tb2.same s3
  have hn3:=hn2.keep s3
  have hsp:=split_join (ws:=twd t) (by cases t <;> rw[twd] <;> simp) (qg_free qg)
  have hnd:=nd_qg qg
  generalize Txt.join (Str.ofString " ") (twd t)=tx at hj hsp ⊢
  dsimp only[gName,List.set]
  have hlen:tx.length<=sizeLine:=Nat.le_trans hj (by decide)
  refine seqH fun N1 to1=>⟨_,rfl,.inr ⟨tx,rfl,hlen,_,_,rfl,rfl,.inr ⟨_,rfl,?_⟩⟩⟩
  obtain⟨m,em,lm⟩:∃ m:Nat,(2:Int) * (if decide ((tx.length:Int)<=4000)=true then 1 else 0)=(m:Int)/\(m<=2/\(0<m->tx.length<=4000)):=by
   by_cases z:(tx.length:Int)<=4000
   ·exact⟨2,by rw[decide_eq_true z];rfl,by decide,fun _=>by lia⟩
   ·exact⟨0,by rw[decide_eq_false z];rfl,by decide,fun y=>absurd y (by decide)⟩
  refine⟨_,_,rfl,rfl,.inl ⟨by decide,by decide⟩,_,rfl,?_,?_,?_⟩
  ·rw[em];lia
  ·rw[em];lia
  rw[em,Int.toNat_natCast]
  refine for_range (n:=m) (fun j σ H'=>∃ o5:Option V,σ=[some (.ref a),some (.ref p),some (.int (0+(i:Int))),some v,some (.str tx),o5]/\Hn H' p c cs (some k')/\Tb T1 T2 H'/\IsDt H' (tdat t) v) ⟨o5,rfl,hn3,tb3,it3⟩ ?again ?out
  case again=>
   rintro j σ H4 hj2 ⟨o5,rfl,hn4,tb4,it4⟩
   have l4:=lm.2 (by lia)
   refine⟨_,rfl,tx,t,rfl,Nat.le_trans (show tx.length+2<=4002 by lia) (by decide),hsp,by lia,qg,tb4,fun v2 H5 e5 tb5 iv2=>?_⟩
   have tps:Tups H4 H5:=fun b zs z=>by
    obtain⟨q1,h1⟩:=lt_tbl tb4.1
    obtain⟨q2,h2⟩:=lt_tbl tb4.2
    exact e5 b _ (fun y=>by rw[y,h1]at z;cases z) (fun y=>by rw[y,h2]at z;cases z) z
   have hn5:Hn H5 p c cs (some k'):=by
    obtain⟨q1,h1⟩:=lt_tbl tb4.1
    obtain⟨q2,h2⟩:=lt_tbl tb4.2
    obtain⟨n,r,tt,kvs,hd,hk⟩:=hn4
    exact⟨n,r,tt,kvs,{ hd with at_:=e5 _ _ (fun y=>by have:=hd.at_;rw[y,h1]at this;cases this) (fun y=>by have:=hd.at_;rw[y,h2]at this;cases this) hd.at_,lst:=e5 _ _ (fun y=>by have:=hd.lst;rw[y,h1]at this;cases this) (fun y=>by have:=hd.lst;rw[y,h2]at this;cases this) hd.lst },hk⟩
   refine⟨_,rfl,v2,v,tdat t,rfl,iv2,IsDt.mono tps it4,hnd,fun H6 s6=>⟨_,rfl,iteF ⟨_,rfl,hn5.keep s6,tb5.same s6,IsDt.mono s6.tups (IsDt.mono tps it4)⟩⟩⟩
  case out=>
   rintro σ H4 ⟨o5,rfl,hn4,tb4,it4⟩
   refine to1 _ _ ?_
   obtain⟨n,r,tt,kvs,hd,hk⟩:=hn4
   refine⟨_,rfl,.inr (.inr (.inr ⟨p,_,rfl,gN hd,_,rfl,.inr (.inr (.inr ⟨p,_,rfl,gC hd,.inl ⟨c,_,rfl,.inl (SqL.of hd.lst),_,_,rfl,rfl,_,rfl,?_⟩⟩))⟩))⟩
   refine ite2 (fun e2=>?_) (fun e2=>?_)
   ·refine⟨_,rfl,_,_,rfl,rfl,_,rfl,?_⟩
    refine ite2 (fun e3=>?_) (fun e3=>?_)
    ·exact fin _
    ·exact⟨_,_,_,_,_,rfl,⟨_,_,_,_,hd,hk⟩,tb4⟩
   ·exact⟨_,_,_,_,_,rfl,⟨_,_,_,_,hd,hk⟩,tb4⟩
end
end K11
end
section
namespace K11
open PySem L2 Kn
/-- a def that stands at the program's top -/
def DefAt (K:PySem.W.Frag) (x:Str) (st:Stmt):Prop:=∃ (f:Addr) (fd:FuncData),PySem.W.nsIn K mainGlobals x=some (some (.ref f))/\Fun K x x st f fd
theorem len_0 {us:List Value} (h:us.length=0):us=[]:=List.length_eq_zero_iff.mp h
theorem len_1 {us:List Value} (h:us.length=1):∃ a,us=[a]:=List.length_eq_one_iff.mp h
theorem len_2 {us:List Value} (h:us.length=2):∃ a b,us=[a,b]:=by
 cases us with
 | nil=>cases h
 | cons a t=>
  obtain⟨b,rfl⟩:=len_1 (us:=t) (by simpa using h)
  exact⟨a,b,rfl⟩
theorem len_3 {us:List Value} (h:us.length=3):∃ a b c,us=[a,b,c]:=by
 cases us with
 | nil=>cases h
 | cons a t=>
  obtain⟨b,c,rfl⟩:=len_2 (us:=t) (by simpa using h)
  exact⟨a,b,c,rfl⟩
theorem len_4 {us:List Value} (h:us.length=4):∃ a b c d,us=[a,b,c,d]:=by
 cases us with
 | nil=>cases h
 | cons a t=>
  obtain⟨b,c,d,rfl⟩:=len_3 (us:=t) (by simpa using h)
  exact⟨a,b,c,d,rfl⟩
theorem len_5 {us:List Value} (h:us.length=5):∃ a b c d e,us=[a,b,c,d,e]:=by
 cases us with
 | nil=>cases h
 | cons a t=>
  obtain⟨b,c,d,e,rfl⟩:=len_4 (us:=t) (by simpa using h)
  exact⟨a,b,c,d,e,rfl⟩
theorem defAt_mk {K:PySem.W.Frag}{x:Str}{st:Stmt}{f:Addr}{oc:Value}{od an:Option Addr}{osl:Array (Option Value)}{kV doc pm cdv ct:Value} (a:PySem.W.nsIn K mainGlobals x=some (some (.ref f)))
  (l:K.lookup f=some ⟨oc,od,.func (PySem.W.fnOf x x (defArgs st) (defBody st) (defScope st) .none kV doc pm an cdv ct),osl⟩) (c:PySem.W.codeIn K cdv x=true) (k:PySem.W.keepIn K (.ref f)=true):DefAt K x st:=⟨f,_,a,fun_mk l c k⟩
/-- a def that makes a function: its code,and the code's table at T0 -/
def MkAt (K:PySem.W.Frag) (x:Str) (st:Stmt) (T0:Addr):Prop:=∃ (f c:Addr) (fd:FuncData),PySem.W.nsIn K mainGlobals x=some (some (.ref f))/\Fun K x x st f fd/\fd.code=.ref c/\PySem.W.codeHdIn K c T0=true
theorem mkAt_mk {K:PySem.W.Frag}{x:Str}{st:Stmt}{f c T0:Addr}{oc:Value}{od an:Option Addr}{osl:Array (Option Value)}{kV doc pm ct:Value} (a:PySem.W.nsIn K mainGlobals x=some (some (.ref f)))
  (l:K.lookup f=some ⟨oc,od,.func (PySem.W.fnOf x x (defArgs st) (defBody st) (defScope st) .none kV doc pm an (.ref c) ct),osl⟩) (cd:PySem.W.codeIn K (.ref c) x=true) (k:PySem.W.keepIn K (.ref f)=true) (hd:PySem.W.codeHdIn K c T0=true):MkAt K x st T0:=⟨f,c,_,a,fun_mk l cd k,rfl,hd⟩
/-- the module of the built-in names -/
def BltAt (K:PySem.W.Frag) (T0:Addr):Prop:=∃ (bm:Addr) (ob:Obj),PySem.W.nsIn K mainGlobals "__builtins__"=some (some (.ref bm))/\K.lookup bm=some ob/\bm≠builtinsNs/\bm≠mainGlobals/\bm≠T0/\ob.cls=.type "module"/\ob.dict=some builtinsNs/\ob.data=.plain
theorem blt_mk {K:PySem.W.Frag}{T0 bm:Addr}{ob:Obj} (a:PySem.W.nsIn K mainGlobals "__builtins__"=some (some (.ref bm))) (l:K.lookup bm=some ob) (h1:bm≠builtinsNs) (h2:bm≠mainGlobals) (h3:bm≠T0) (h4:ob.cls=.type "module") (h5:ob.dict=some builtinsNs) (h6:ob.data=.plain):BltAt K T0:=⟨bm,ob,a,l,h1,h2,h3,h4,h5,h6⟩
/-- a method of a class -/
def MethAt (K:PySem.W.Frag) (C:Addr) (m qual:Str) (st:Stmt):Prop:=∃ (f:Addr) (fd:FuncData),Fun K m qual st f fd/\Meth K C m f
theorem methAt_mk {K:PySem.W.Frag}{C:Addr}{m qual:Str}{st:Stmt}{f:Addr}{oc:Value}{od an:Option Addr}{osl:Array (Option Value)}{kV doc pm cdv ct:Value} (a:PySem.W.findIn K (.ref C) m=some (some (.ref f)))
  (l:K.lookup f=some ⟨oc,od,.func (PySem.W.fnOf m qual (defArgs st) (defBody st) (defScope st) .none kV doc pm an cdv ct),osl⟩) (c:PySem.W.codeIn K cdv qual=true) (k:PySem.W.keepIn K (.ref f)=true) (n:PySem.W.isFn K (.ref f)=true):MethAt K C m qual st:=⟨f,_,fun_mk l c k,a,n,k⟩
/-- the class Words -/
def WordsAt (K:PySem.W.Frag):Prop:=∃ C:Addr,PySem.W.nsIn K mainGlobals "Words"=some (some (.ref C))/\Cls K C/\NA K C/\PySem.W.makesIn K C=true/\PySem.W.keepIn K (.ref C)=true /\
 MethAt K C "__init__" "Words.__init__" (mtop 16 0)/\MethAt K C "at_end" "Words.at_end" (mtop 16 2)/\MethAt K C "word" "Words.word" (mtop 16 3)/\MethAt K C "name" "Words.name" (mtop 16 4)/\MethAt K C "number" "Words.number" (mtop 16 5)
theorem words_mk {K:PySem.W.Frag}{C:Addr} (a:PySem.W.nsIn K mainGlobals "Words"=some (some (.ref C))) (c1:PySem.W.plainGet K C Str.empty=true) (c2:PySem.W.hasDictIn K C=true) (c3:PySem.W.plainOver K C=true) (c4:PySem.W.findIn K (.ref C) "__setattr__"=some (some (.builtin "object.__setattr__")))
  (n1:PySem.W.findIn K (.ref C) "words"=some none) (n2:PySem.W.findIn K (.ref C) "place"=some none) (mk:PySem.W.makesIn K C=true) (kp:PySem.W.keepIn K (.ref C)=true)
  (m1:MethAt K C "__init__" "Words.__init__" (mtop 16 0)) (m2:MethAt K C "at_end" "Words.at_end" (mtop 16 2)) (m3:MethAt K C "word" "Words.word" (mtop 16 3)) (m4:MethAt K C "name" "Words.name" (mtop 16 4)) (m5:MethAt K C "number" "Words.number" (mtop 16 5)):WordsAt K:=
 ⟨C,a,⟨c1,c2,c3,c4⟩,⟨n1,n2⟩,mk,kp,m1,m2,m3,m4,m5⟩
/-- the words that no name is -/
def TakenAt (K:PySem.W.Frag):Prop:=∃ a:Addr,PySem.W.nsIn K mainGlobals "TAKEN_WORDS"=some (some (.ref a))/\∀ H,SqT K H a (TKN.map V.str)
theorem taken_mk {K:PySem.W.Frag}{a:Addr}{od:Option Addr}{its:Array Value}{n:Nat}{osl:Array (Option Value)} (h:PySem.W.nsIn K mainGlobals "TAKEN_WORDS"=some (some (.ref a))) (l:K.lookup a=some ⟨.type "tuple",od,.seq its n,osl⟩) (z:its.size<=sizeLine) (v:Vals (TKN.map V.str) its.toList):TakenAt K:=
 ⟨a,h,fun H=>.inr ⟨_,its,n,l,rfl,rfl,z,v⟩⟩
/-- what a table of shapes tells of a word -/
def SpAt (K:PySem.W.Frag) (a:Addr) (z:Str) (ss:List Str):Prop:=∃ b:Addr,PySem.W.nsIn K a z=some (some (.ref b))/\∀ H,SqT K H b (ss.map V.str)
theorem sp_mk {K:PySem.W.Frag}{a b:Addr}{z:Str}{ss:List Str}{od:Option Addr}{its:Array Value}{n:Nat}{osl:Array (Option Value)} (h:PySem.W.nsIn K a z=some (some (.ref b))) (l:K.lookup b=some ⟨.type "tuple",od,.seq its n,osl⟩) (z2:its.size<=sizeLine) (v:Vals (ss.map V.str) its.toList):SpAt K a z ss:=
 ⟨b,h,fun H=>.inr ⟨_,its,n,l,rfl,rfl,z2,v⟩⟩
def TabAt (K:PySem.W.Frag) (w:World) (x:Str) (l:List (Str×List Str)):Prop:=∃ a:Addr,PySem.W.nsIn K mainGlobals x=some (some (.ref a))/\TopD K w a/\∀ z ss,(z,ss)∈l->SpAt K a z ss
theorem quest_mk {K:PySem.W.Frag}{w:World}{a:Addr}{es:Array DictEntry}{n:Nat} (h:PySem.W.nsIn K mainGlobals "QUESTIONS"=some (some (.ref a))) (l:K.lookup a=some ⟨.type "dict",none,.dict es n,#[]⟩) (k:PySem.W.KeysLit w.params es.toList) (lo:(a == sysModules)=false)
  (s0:SpAt K a "num" ["number"]) (s1:SpAt K a "word" ["name"]) (s2:SpAt K a "var" ["name"]) (s3:SpAt K a "table" ["name"]) (s4:SpAt K a "row" ["fields"]) (s5:SpAt K a "at" ["name","question"]) (s6:SpAt K a "add" ["question","question"]) (s7:SpAt K a "mul" ["question","question"]) (s8:SpAt K a "none" ["kind"]) (s9:SpAt K a "one" ["question"]) (s10:SpAt K a "both" ["question","question"]) (s11:SpAt K a "times" ["number","question"]) (s12:SpAt K a "for" ["name","question","question"]) (s13:SpAt K a "when" ["claim","question"]) (s14:SpAt K a "let" ["name","question","question"]):TabAt K w "QUESTIONS" SHQ:=⟨a,h,⟨⟨es,n,l,k⟩,lo⟩,fun z ss hz=>by
 simp only[SHQ,List.mem_cons,Prod.mk.injEq,List.not_mem_nil,or_false]at hz
 rcases hz with ⟨rfl,rfl⟩ | ⟨rfl,rfl⟩ | ⟨rfl,rfl⟩ | ⟨rfl,rfl⟩ | ⟨rfl,rfl⟩ | ⟨rfl,rfl⟩ | ⟨rfl,rfl⟩ | ⟨rfl,rfl⟩ | ⟨rfl,rfl⟩ | ⟨rfl,rfl⟩ | ⟨rfl,rfl⟩ | ⟨rfl,rfl⟩ | ⟨rfl,rfl⟩ | ⟨rfl,rfl⟩ | ⟨rfl,rfl⟩
 ·exact s0
 ·exact s1
 ·exact s2
 ·exact s3
 ·exact s4
 ·exact s5
 ·exact s6
 ·exact s7
 ·exact s8
 ·exact s9
 ·exact s10
 ·exact s11
 ·exact s12
 ·exact s13
 ·exact s14⟩
theorem claim_mk {K:PySem.W.Frag}{w:World}{a:Addr}{es:Array DictEntry}{n:Nat} (h:PySem.W.nsIn K mainGlobals "CLAIMS"=some (some (.ref a))) (l:K.lookup a=some ⟨.type "dict",none,.dict es n,#[]⟩) (k:PySem.W.KeysLit w.params es.toList) (lo:(a == sysModules)=false)
  (s0:SpAt K a "same" ["question","question"]) (s1:SpAt K a "under" ["question","question"]) (s2:SpAt K a "and" ["claim","claim"]) (s3:SpAt K a "or" ["claim","claim"]) (s4:SpAt K a "not" ["claim"]):TabAt K w "CLAIMS" SHC:=⟨a,h,⟨⟨es,n,l,k⟩,lo⟩,fun z ss hz=>by
 simp only[SHC,List.mem_cons,Prod.mk.injEq,List.not_mem_nil,or_false]at hz
 rcases hz with ⟨rfl,rfl⟩ | ⟨rfl,rfl⟩ | ⟨rfl,rfl⟩ | ⟨rfl,rfl⟩ | ⟨rfl,rfl⟩
 ·exact s0
 ·exact s1
 ·exact s2
 ·exact s3
 ·exact s4⟩
theorem DefAt.df {K:PySem.W.Frag}{h:Heap}{mg:Str->Option Value}{x:Str}{st:Stmt} (d:DefAt K x st) (X:K.In h) (G:h.Ns mainGlobals mg) (ps:List Str) (b:∀ (kV doc pm:Value) (an:Option Addr) (cdv ct:Value) (us:List Value),us.length=ps.length->bindArgs (PySem.W.fnOf x x (defArgs st) (defBody st) (defScope st) .none kV doc pm an cdv ct) ⟨us,[]⟩=pure (ps.zip us)) :
  ∃ (f:Addr) (fd:FuncData),PySem.W.nsIn K mainGlobals x=some (some (.ref f))/\Df K mg x st f fd ps:=by
 obtain⟨f,fd,a,F⟩:=d
 exact⟨f,fd,a,F,F.binds b,PySem.W.mg_of X G a⟩
theorem all_mk {l:PySem.W.OpenLaw}{w:World}{K:PySem.W.Frag}{h:Heap}{mg:Str->Option Value}{fa T1 T2:Addr}{k1 k2 k3 k4 k5:Tok} (X:K.In h) (G:h.Ns mainGlobals mg) (hfa:mg "law"=some (.ref fa)) (gT1:mainGlobals≠T1) (gT2:mainGlobals≠T2) (hT:T1≠T2)
  (ZbH:DefAt K "only_of" (top 8)) (ZbI:DefAt K "is_name" (top 9)) (ZbJ:DefAt K "number_of" (top 10)) (ZbK:DefAt K "read_question" (top 17)) (ZbL:DefAt K "read_knot" (top 18)) (ZbM:DefAt K "read_fields" (top 21)) (ZbN:DefAt K "_law_hand" (top 23)) (ZbO:DefAt K "_law_draw" (top 24)) (ZbP:DefAt K "_law_name" (top 25)) (ZbQ:DefAt K "_law_number" (top 26)) (ZbR:DefAt K "_law_fields" (top 27)) (ZbS:DefAt K "_law_many_fields" (top 28)) (ZbT:DefAt K "_law_kind" (top 29)) (ZbU:DefAt K "_law_any_claim" (top 30)) (ZbV:DefAt K "_law_any_leaf" (top 31)) (ZbW:DefAt K "_law_any" (top 32)) (ZbX:DefAt K "_law_drawn" (top 33)) (ZbY:DefAt K "_law_kind_words" (top 34)) (ZbZ:DefAt K "_law_words" (top 35)) (Zb0:DefAt K "_law_same" (top 36)) (Zb1:DefAt K "law" (top 37))
  (hI1:MkAt K "read_part" (top 19) T1) (hI2:MkAt K "read_kind" (top 20) T2) (hB1:BltAt K T1) (hB2:BltAt K T2) (hW:WordsAt K) (hTk:TakenAt K) (hQ:TabAt K w "QUESTIONS" SHQ) (hC:TabAt K w "CLAIMS" SHC)
  (c1:PySem.W.nsIn K mainGlobals "LONGEST_NAME"=some (some (.int 8 k1))) (c2:PySem.W.nsIn K mainGlobals "LETTERS"=some (some (.str "abcdefghijklmnopqrstuvwxyz" k2))) (c3:PySem.W.nsIn K mainGlobals "FIGURES"=some (some (.str "0123456789" k3))) (c4:PySem.W.nsIn K mainGlobals "DEEPEST_KIND"=some (some (.int 12 k4))) (c5:PySem.W.nsIn K mainGlobals "DEEPEST_QUESTION"=some (some (.int 20 k5)))
  (z1:PySem.W.nsIn K mainGlobals "len"=some none) (z2:PySem.W.nsIn K mainGlobals "int"=some none) (z3:PySem.W.nsIn K mainGlobals "tuple"=some none) (z4:PySem.W.nsIn K mainGlobals "range"=some none) (z5:PySem.W.nsIn K mainGlobals "isinstance"=some none) (z6:PySem.W.nsIn K mainGlobals "sorted"=some none) (z7:PySem.W.nsIn K mainGlobals "set"=some none) (z8:PySem.W.nsIn K mainGlobals "str"=some none) (z9:PySem.W.nsIn K mainGlobals "list"=some none) (z10:PySem.W.nsIn K mainGlobals "max"=some none) (z11:PySem.W.nsIn K mainGlobals "zip"=some none) (z12:PySem.W.nsIn K mainGlobals "all"=some none) (z13:PySem.W.nsIn K mainGlobals "bool"=some none) :
  ∃ fd:FuncData,(∀ (s:Shared) (v:Value),BindsTo s fd ⟨[v],[]⟩ [("script",v)])/\∀ base:Heap,K.In base->base.Ns mainGlobals mg->FnOk l.prog w K mg base CX0 78 fa fd ["script"] (spLaw K T1 T2):=by
 have T:Tx mg:=⟨PySem.W.mg_none_of X G z1,PySem.W.mg_none_of X G z2,PySem.W.mg_none_of X G z3,PySem.W.mg_none_of X G z4,PySem.W.mg_none_of X G z5,PySem.W.mg_none_of X G z6,PySem.W.mg_none_of X G z7,PySem.W.mg_none_of X G z8,PySem.W.mg_none_of X G z9,PySem.W.mg_none_of X G z10,PySem.W.mg_none_of X G z11,PySem.W.mg_none_of X G z12,PySem.W.mg_none_of X G z13⟩
 obtain⟨Zb4,Zb5,Zb6,Zat⟩:=ZbH.df X G ["text","signs"] fun _ _ _ _ _ _ us hl=>by obtain⟨_,_,rfl⟩:=len_2 hl;rfl
 obtain⟨Zb7,Zb8,Zb9,ZaH⟩:=ZbI.df X G ["text"] fun _ _ _ _ _ _ us hl=>by obtain⟨_,rfl⟩:=len_1 hl;rfl
 obtain⟨Zca,Zcb,Zcc,ZaI⟩:=ZbJ.df X G ["text"] fun _ _ _ _ _ _ us hl=>by obtain⟨_,rfl⟩:=len_1 hl;rfl
 obtain⟨Zcd,Zce,Zcf,ZaO⟩:=ZbK.df X G ["text"] fun _ _ _ _ _ _ us hl=>by obtain⟨_,rfl⟩:=len_1 hl;rfl
 obtain⟨Zcg,Zch,Zci,Zag⟩:=ZbL.df X G ["words","sort","room"] fun _ _ _ _ _ _ us hl=>by obtain⟨_,_,_,rfl⟩:=len_3 hl;rfl
 obtain⟨Zcj,Zck,Zcl,Zaq⟩:=ZbM.df X G ["words","read_inner"] fun _ _ _ _ _ _ us hl=>by obtain⟨_,_,rfl⟩:=len_2 hl;rfl
 obtain⟨Zcm,Zcn,Zco,ZaM⟩:=ZbN.df X G ["script"] fun _ _ _ _ _ _ us hl=>by obtain⟨_,rfl⟩:=len_1 hl;rfl
 obtain⟨Zcp,Zcq,Zcr,Zaa⟩:=ZbO.df X G ["hand","limit"] fun _ _ _ _ _ _ us hl=>by obtain⟨_,_,rfl⟩:=len_2 hl;rfl
 obtain⟨Zcs,Zct,Zcu,Zaf⟩:=ZbP.df X G ["hand"] fun _ _ _ _ _ _ us hl=>by obtain⟨_,rfl⟩:=len_1 hl;rfl
 obtain⟨Zcv,Zcw,Zcx,Zar⟩:=ZbQ.df X G ["hand"] fun _ _ _ _ _ _ us hl=>by obtain⟨_,rfl⟩:=len_1 hl;rfl
 obtain⟨Zcy,Zcz,ZcA,Zam⟩:=ZbR.df X G ["hand"] fun _ _ _ _ _ _ us hl=>by obtain⟨_,rfl⟩:=len_1 hl;rfl
 obtain⟨ZcB,ZcC,ZcD,Zan⟩:=ZbS.df X G ["hand"] fun _ _ _ _ _ _ us hl=>by obtain⟨_,rfl⟩:=len_1 hl;rfl
 obtain⟨ZcE,ZcF,ZcG,Zah⟩:=ZbT.df X G ["hand","deep"] fun _ _ _ _ _ _ us hl=>by obtain⟨_,_,rfl⟩:=len_2 hl;rfl
 obtain⟨ZcH,ZcI,ZcJ,Zai⟩:=ZbU.df X G ["hand","deep"] fun _ _ _ _ _ _ us hl=>by obtain⟨_,_,rfl⟩:=len_2 hl;rfl
 obtain⟨ZcK,ZcL,ZcM,Zaw⟩:=ZbV.df X G ["hand","word"] fun _ _ _ _ _ _ us hl=>by obtain⟨_,_,rfl⟩:=len_2 hl;rfl
 obtain⟨ZcN,ZcO,ZcP,Zab⟩:=ZbW.df X G ["hand","deep"] fun _ _ _ _ _ _ us hl=>by obtain⟨_,_,rfl⟩:=len_2 hl;rfl
 obtain⟨ZcQ,ZcR,ZcS,ZaN⟩:=ZbX.df X G ["hand"] fun _ _ _ _ _ _ us hl=>by obtain⟨_,rfl⟩:=len_1 hl;rfl
 obtain⟨ZcT,ZcU,ZcV,Zaj⟩:=ZbY.df X G ["kind"] fun _ _ _ _ _ _ us hl=>by obtain⟨_,rfl⟩:=len_1 hl;rfl
 obtain⟨ZcW,ZcX,ZcY,Zak⟩:=ZbZ.df X G ["question"] fun _ _ _ _ _ _ us hl=>by obtain⟨_,rfl⟩:=len_1 hl;rfl
 obtain⟨ZcZ,Zc0,Zc1,Zap⟩:=Zb0.df X G ["found","due"] fun _ _ _ _ _ _ us hl=>by obtain⟨_,_,rfl⟩:=len_2 hl;rfl
 obtain⟨f_rp,c_rp,fd_rp,a_rp,F_rp,ec1,hcd1⟩:=hI1
 have Zaz:Df K mg "read_part" (top 19) f_rp fd_rp ["words","sort","room"]:=⟨F_rp,F_rp.binds (ps:=["words","sort","room"]) fun _ _ _ _ _ _ us hl=>by obtain⟨_,_,_,rfl⟩:=len_3 hl;rfl,PySem.W.mg_of X G a_rp⟩
 obtain⟨f_rk,c_rk,fd_rk,a_rk,F_rk,ec2,hcd2⟩:=hI2
 have Zae:Df K mg "read_kind" (top 20) f_rk fd_rk ["words","room"]:=⟨F_rk,F_rk.binds (ps:=["words","room"]) fun _ _ _ _ _ _ us hl=>by obtain⟨_,_,rfl⟩:=len_2 hl;rfl,PySem.W.mg_of X G a_rk⟩
 obtain⟨bm,ob,b1,b2,b3,b4,b5,b6,b7,b8⟩:=hB1
 have LM1:LmK K mg c_rp T1:=⟨hcd1,⟨bm,ob,PySem.W.mg_of X G b1,b2,b3,b4,b5,b6,b7,b8⟩,gT1⟩
 obtain⟨bm',ob',b1',b2',b3',b4',b5',b6',b7',b8'⟩:=hB2
 have LM2:LmK K mg c_rk T2:=⟨hcd2,⟨bm',ob',PySem.W.mg_of X G b1',b2',b3',b4',b5',b6',b7',b8'⟩,gT2⟩
 obtain⟨C,aC,cC,nC,mkC,kpC,⟨f_init,fd_init,F_init,M_init⟩,⟨f_end,fd_end,F_end,M_end⟩,⟨f_word,fd_word,F_word,M_word⟩,⟨f_nm,fd_nm,F_nm,M_nm⟩,⟨f_nb,fd_nb,F_nb,M_nb⟩⟩:=hW
 have D_init:Mf K C "__init__" "Words.__init__" (mtop 16 0) f_init fd_init ["self","text"]:=⟨F_init,F_init.binds (ps:=["self","text"]) fun _ _ _ _ _ _ us hl=>by obtain⟨u0,u1,rfl⟩:=len_2 hl;rfl,M_init⟩
 have D_end:Mf K C "at_end" "Words.at_end" (mtop 16 2) f_end fd_end ["self"]:=⟨F_end,F_end.binds (ps:=["self"]) fun _ _ _ _ _ _ us hl=>by obtain⟨u0,rfl⟩:=len_1 hl;rfl,M_end⟩
 have D_word:Mf K C "word" "Words.word" (mtop 16 3) f_word fd_word ["self"]:=⟨F_word,F_word.binds (ps:=["self"]) fun _ _ _ _ _ _ us hl=>by obtain⟨u0,rfl⟩:=len_1 hl;rfl,M_word⟩
 have D_nm:Mf K C "name" "Words.name" (mtop 16 4) f_nm fd_nm ["self"]:=⟨F_nm,F_nm.binds (ps:=["self"]) fun _ _ _ _ _ _ us hl=>by obtain⟨u0,rfl⟩:=len_1 hl;rfl,M_nm⟩
 have D_nb:Mf K C "number" "Words.number" (mtop 16 5) f_nb fd_nb ["self"]:=⟨F_nb,F_nb.binds (ps:=["self"]) fun _ _ _ _ _ _ us hl=>by obtain⟨u0,rfl⟩:=len_1 hl;rfl,M_nb⟩
 obtain⟨aT,a_T,hTK⟩:=hTk
 obtain⟨aQ,a_Q,dQ,sQ⟩:=hQ
 obtain⟨aCl,a_Cl,dC,sC⟩:=hC
 have hS:ShAt K aQ aCl:=fun b z ss hz=>by
  cases b
  ·exact sQ z ss hz
  ·exact sC z ss hz
 obtain⟨Zc2,Zbf,Zb2,Za8⟩:=Zb1
 have e:=hfa.symm.trans (PySem.W.mg_of X G Zb2)
 cases e
 have Zb3:Df K mg "law" (top 37) fa Zbf ["script"]:=⟨Za8,Za8.binds (ps:=["script"]) fun _ _ _ _ _ _ us hl=>by obtain⟨_,rfl⟩:=len_1 hl;rfl,hfa⟩
 refine⟨Zbf,?_,fun base _ _=>?_⟩
 ·obtain⟨oc,od,kV,doc,pm,an,cdv,ct,osl,rfl,lk,hcd⟩:=Za8.ex
  exact fun s v=>.of_eq rfl
 have g_hand:=ok_hand (P:=l.prog) (w:=w) (base:=base) T ZaM
 have g_draw:=ok_draw (P:=l.prog) (w:=w) (base:=base) T Zaa
 have g_name:=ok_name T Zaf Zaa g_draw
 have g_num:=ok_number T Zar Zaa g_draw
 have g_flds:=ok_fields T Zam Zaa g_draw Zaf g_name
 have g_many:=ok_many T Zan Zaa g_draw
 have g_kind:=kind_all T Zah Zaa g_draw Zam g_flds Zan g_many 2
 have g_leaf:=ok_leaf T Zaw Zar g_num Zah g_kind Zaf g_name
 have g_any:=any_all T Zab Zai Zaa g_draw Zaw g_leaf Zar g_num Zaf g_name Zam g_flds Zan g_many
 have g_drawn:=ok_drawn T ZaN Zaa g_draw Zab (fnOk_lt fun e he=>(g_any e).1.mono (by lia))
 have g_kw:=kw_all (P:=l.prog) (w:=w) (base:=base) T Zaj 2
 have g_lw:=lwords_all T Zak Zaj g_kw 15
 have g_same:=same_all (P:=l.prog) (w:=w) (base:=base) T Zap 56
 have g_only:=ok_only (P:=l.prog) (w:=w) (base:=base) T Zat
 have g_isn:=ok_isName T (PySem.W.mg_of X G c1) (PySem.W.mg_of X G c2) (PySem.W.mg_of X G a_T) hTK ZaH Zat g_only
 have g_nof:=ok_numberOf T (PySem.W.mg_of X G c3) ZaI Zat g_only
 have g_init:=ok_init (P:=l.prog) (w:=w) (mg:=mg) (base:=base) T cC nC D_init
 have g_end:=ok_atEnd (P:=l.prog) (w:=w) (mg:=mg) (base:=base) T cC nC D_end
 have g_word:=ok_word T cC nC D_word D_end g_end
 have g_nm:=ok_nm T cC D_nm D_word g_word ZaH g_isn
 have g_nb:=ok_numb T cC D_nb D_word g_word ZaI g_nof
 have g_knot:=knot_all hT T LM1 LM2 cC (PySem.W.mg_of X G c4) (PySem.W.mg_of X G a_Cl) (PySem.W.mg_of X G a_Q) dC dQ hS D_word g_word D_nm g_nm D_nb g_nb Zaq Zae ec2 Zaz ec1 Zag 15
 have g_rq:=ok_rq T cC ⟨mkC,M_init.at_,M_init.fn,kpC⟩ (PySem.W.mg_of X G aC) (PySem.W.mg_of X G c5) ZaO D_init g_init D_end g_end Zag g_knot
 exact ok_law T Zb3 ZaM g_hand ZaN g_drawn Zak g_lw Zap g_same ZaO g_rq
theorem walk {l:PySem.W.OpenLaw}{q:Program}{loose:List Str}{XP:(Str->Option Value)->Heap->Prop}{YP:World->Heap->Prop}{d:DefRec}{K:Params->PySem.W.Frag}{T1 T2:Addr} (hn:l.most=some 63) (hdf:d.params.defaults=[])
  (hY:∀ (w:World) (h:Heap),YP w h->(K w.params).In h/\∀ P∈[T1,T2],h.get? P=some (PySem.W.tabObj #[]))
  (hKT:∀ (w:World),∀ P∈[T1,T2],(K w.params).lookup P=none/\∃ c,PySem.W.codeHdIn (K w.params) c P=true)
  (F:∀ (w:World) (mg:Str->Option Value) (fa:Addr) (h:Heap),(K w.params).In h->h.Ns mainGlobals mg->mg d.name=some (.ref fa) ->
   ∃ fd:FuncData,(∀ (s:Shared) (u:Value),BindsTo s fd ⟨[u],[]⟩ [("script",u)])/\∀ base:Heap,(K w.params).In base->base.Ns mainGlobals mg->FnOk l.prog w (K w.params) mg base CX0 78 fa fd ["script"] (spLaw (K w.params) T1 T2)) :
  PySem.W.WalkO q loose XP YP l.row.toRowW d [] (fun f vs=>PySem.call f vs):=
 L2.walk_ofT (n:=63) (k:=78) (x:="script") (ts:=[T1,T2]) (CX:=fun _=>CX0) (sp:=fun w=>spLaw (K w.params) T1 T2) hn (by decide) hdf ⟨rfl,by decide,by decide⟩ hY hKT F (fun _ _ a ns hl hO hS=>⟨a,ns,rfl,hS,hl,⟨.inl (hO.1 T1 List.mem_cons_self),.inl (hO.1 T2 (List.mem_cons_of_mem _ List.mem_cons_self))⟩,fun _=>rfl⟩) fun _ _ _ _ _ z=>z
end K11
open PySem PySem.W PyProof.Rows
set_option maxRecDepth 100000 in
set_option maxHeartbeats 0 in
theorem PySem.Challenge.cw_keptnest_k11_read_question_holds : PySem.Challenge.rw_keptnest_k11_read_question.Holds := by
 w_on
 refine PySem.W.holds_law K11.zS fun said=>?_
 refine PySem.W.holds_open (q:=K11.zV) (loose:=K11.zL) (Xt:=fun s=>PySem.W.xlAt K11.zV [] s && PySem.W.recOk (PySem.W.RowW.records (PySem.W.OpenRow.toRowW PySem.Challenge.rw_keptnest_k11_read_question.row)) s) (XP:=PySem.W.XL K11.zV []) (Yf:=PySem.W.Hook.obs (PySem.W.kmHook K11.zK K11.zA K11.zE K11.zTs)) (Ya:=PySem.W.Hook.val (PySem.W.kmHook K11.zK K11.zA K11.zE K11.zTs)) (YP:=PySem.W.Hook.says (PySem.W.kmHook K11.zK K11.zA K11.zE K11.zTs)) (N:=4032) (Hq.left_two "special-get-raises" K11.zR_false K11.zR_true) (PySem.W.Hook.of _) (PySem.W.Hook.keeps _) (fun s e=>PySem.W.xl_of s (Bool.and_eq_true_iff.mp e).1) PySem.W.XL.keeps (by rfl) (by rfl) (by rfl) (fun s e=>PySem.W.recFacts_of (Bool.and_eq_true_iff.mp e).2) (by rfl) (by first | assumption | decide +kernel) (by decide +kernel) ⟨rfl,rfl,rfl,rfl,rfl,by decide +kernel⟩ ?hw ?hc
 case hw=>w_witness2
 k_fill
 refine K11.walk (l:=PySem.Challenge.rw_keptnest_k11_read_question) (T1:=151) (T2:=158) rfl rfl (fun w h Y=>⟨PySem.W.km_in_of Y,PySem.W.km_tabs_of Y⟩) ?KT ?F
 case KT=>
  intro w P hP
  simp only[List.mem_cons,List.not_mem_nil,or_false]at hP
  rcases hP with rfl | rfl
  ·exact⟨by kernel_rfl,155,by kernel_rfl⟩
  ·exact⟨by kernel_rfl,162,by kernel_rfl⟩
 case F=>
  intro w mg fa h KX G hmg
  refine' K11.all_mk KX G hmg (by decide) (by decide) (by decide) ?_ ?_ ?_ ?_ ?_ ?_ ?_ ?_ ?_ ?_ ?_ ?_ ?_ ?_ ?_ ?_ ?_ ?_ ?_ ?_ ?_ ?hI1 ?hI2 ?hB1 ?hB2 ?hW ?hTk ?hQ ?hC ?c1 ?c2 ?c3 ?c4 ?c5 ?z1 ?z2 ?z3 ?z4 ?z5 ?z6 ?z7 ?z8 ?z9 ?z10 ?z11 ?z12 ?z13
  (case c1=>k_is);(case c2=>k_is);(case c3=>k_is);(case c4=>k_is);(case c5=>k_is)
  iterate 21 (focus (refine' K11.defAt_mk ?_ ?_ ?_ ?_;any_goals k_is))
  case hI1=>refine' K11.mkAt_mk ?a ?l ?c ?k ?d;(case a=>k_is);(case l=>k_is);(case c=>k_is);(case k=>k_is);(case d=>kernel_rfl)
  case hI2=>refine' K11.mkAt_mk ?a ?l ?c ?k ?d;(case a=>k_is);(case l=>k_is);(case c=>k_is);(case k=>k_is);(case d=>kernel_rfl)
  case hB1=>refine' K11.blt_mk ?a ?l ?h1 ?h2 ?h3 ?h4 ?h5 ?h6;(case a=>k_is);(case l=>k_is);(case h1=>decide);(case h2=>decide);(case h3=>decide);(case h4=>rfl);(case h5=>rfl);(case h6=>rfl)
  case hB2=>refine' K11.blt_mk ?a ?l ?h1 ?h2 ?h3 ?h4 ?h5 ?h6;(case a=>k_is);(case l=>k_is);(case h1=>decide);(case h2=>decide);(case h3=>decide);(case h4=>rfl);(case h5=>rfl);(case h6=>rfl)
  case hW=>
   refine' K11.words_mk ?a ?c1 ?c2 ?c3 ?c4 ?n1 ?n2 ?mk ?kp ?m1 ?m2 ?m3 ?m4 ?m5
   (case a=>k_is);(case c1=>k_is);(case c2=>k_is);(case c3=>k_is);(case c4=>k_is);(case n1=>k_is);(case n2=>k_is);(case mk=>k_is);(case kp=>k_is)
   case m1=>refine' K11.methAt_mk ?a ?l ?c ?k ?n;(case a=>k_is);(case l=>k_is);(case c=>k_is);(case k=>k_is);(case n=>k_is)
   case m2=>refine' K11.methAt_mk ?a ?l ?c ?k ?n;(case a=>k_is);(case l=>k_is);(case c=>k_is);(case k=>k_is);(case n=>k_is)
   case m3=>refine' K11.methAt_mk ?a ?l ?c ?k ?n;(case a=>k_is);(case l=>k_is);(case c=>k_is);(case k=>k_is);(case n=>k_is)
   case m4=>refine' K11.methAt_mk ?a ?l ?c ?k ?n;(case a=>k_is);(case l=>k_is);(case c=>k_is);(case k=>k_is);(case n=>k_is)
   case m5=>refine' K11.methAt_mk ?a ?l ?c ?k ?n;(case a=>k_is);(case l=>k_is);(case c=>k_is);(case k=>k_is);(case n=>k_is)
  case hTk=>
   refine' K11.taken_mk ?a ?l ?z ?v
   (case a=>k_is);(case l=>k_is)
   case z=>show 21<=sizeLine;decide
   case v=>exact .cons ⟨_,rfl⟩ (.cons ⟨_,rfl⟩ (.cons ⟨_,rfl⟩ (.cons ⟨_,rfl⟩ (.cons ⟨_,rfl⟩ (.cons ⟨_,rfl⟩ (.cons ⟨_,rfl⟩ (.cons ⟨_,rfl⟩ (.cons ⟨_,rfl⟩ (.cons ⟨_,rfl⟩ (.cons ⟨_,rfl⟩ (.cons ⟨_,rfl⟩ (.cons ⟨_,rfl⟩ (.cons ⟨_,rfl⟩ (.cons ⟨_,rfl⟩ (.cons ⟨_,rfl⟩ (.cons ⟨_,rfl⟩ (.cons ⟨_,rfl⟩ (.cons ⟨_,rfl⟩ (.cons ⟨_,rfl⟩ (.cons ⟨_,rfl⟩ .nil))))))))))))))))))))
  case hQ=>
   refine' K11.quest_mk ?a ?l ?k ?lo ?s0 ?s1 ?s2 ?s3 ?s4 ?s5 ?s6 ?s7 ?s8 ?s9 ?s10 ?s11 ?s12 ?s13 ?s14
   (case a=>k_is);(case l=>k_is);(case k=>k_keys);(case lo=>rfl)
   case s0=>refine' K11.sp_mk ?a ?l ?z ?v;(case a=>k_is);(case l=>k_is);(case z=>show 1<=sizeLine;decide);(case v=>exact .cons ⟨_,rfl⟩ .nil)
   case s1=>refine' K11.sp_mk ?a ?l ?z ?v;(case a=>k_is);(case l=>k_is);(case z=>show 1<=sizeLine;decide);(case v=>exact .cons ⟨_,rfl⟩ .nil)
   case s2=>refine' K11.sp_mk ?a ?l ?z ?v;(case a=>k_is);(case l=>k_is);(case z=>show 1<=sizeLine;decide);(case v=>exact .cons ⟨_,rfl⟩ .nil)
   case s3=>refine' K11.sp_mk ?a ?l ?z ?v;(case a=>k_is);(case l=>k_is);(case z=>show 1<=sizeLine;decide);(case v=>exact .cons ⟨_,rfl⟩ .nil)
   case s4=>refine' K11.sp_mk ?a ?l ?z ?v;(case a=>k_is);(case l=>k_is);(case z=>show 1<=sizeLine;decide);(case v=>exact .cons ⟨_,rfl⟩ .nil)
   case s5=>refine' K11.sp_mk ?a ?l ?z ?v;(case a=>k_is);(case l=>k_is);(case z=>show 2<=sizeLine;decide);(case v=>exact .cons ⟨_,rfl⟩ (.cons ⟨_,rfl⟩ .nil))
   case s6=>refine' K11.sp_mk ?a ?l ?z ?v;(case a=>k_is);(case l=>k_is);(case z=>show 2<=sizeLine;decide);(case v=>exact .cons ⟨_,rfl⟩ (.cons ⟨_,rfl⟩ .nil))
   case s7=>refine' K11.sp_mk ?a ?l ?z ?v;(case a=>k_is);(case l=>k_is);(case z=>show 2<=sizeLine;decide);(case v=>exact .cons ⟨_,rfl⟩ (.cons ⟨_,rfl⟩ .nil))
   case s8=>refine' K11.sp_mk ?a ?l ?z ?v;(case a=>k_is);(case l=>k_is);(case z=>show 1<=sizeLine;decide);(case v=>exact .cons ⟨_,rfl⟩ .nil)
   case s9=>refine' K11.sp_mk ?a ?l ?z ?v;(case a=>k_is);(case l=>k_is);(case z=>show 1<=sizeLine;decide);(case v=>exact .cons ⟨_,rfl⟩ .nil)
   case s10=>refine' K11.sp_mk ?a ?l ?z ?v;(case a=>k_is);(case l=>k_is);(case z=>show 2<=sizeLine;decide);(case v=>exact .cons ⟨_,rfl⟩ (.cons ⟨_,rfl⟩ .nil))
   case s11=>refine' K11.sp_mk ?a ?l ?z ?v;(case a=>k_is);(case l=>k_is);(case z=>show 2<=sizeLine;decide);(case v=>exact .cons ⟨_,rfl⟩ (.cons ⟨_,rfl⟩ .nil))
   case s12=>refine' K11.sp_mk ?a ?l ?z ?v;(case a=>k_is);(case l=>k_is);(case z=>show 3<=sizeLine;decide);(case v=>exact .cons ⟨_,rfl⟩ (.cons ⟨_,rfl⟩ (.cons ⟨_,rfl⟩ .nil)))
   case s13=>refine' K11.sp_mk ?a ?l ?z ?v;(case a=>k_is);(case l=>k_is);(case z=>show 2<=sizeLine;decide);(case v=>exact .cons ⟨_,rfl⟩ (.cons ⟨_,rfl⟩ .nil))
   case s14=>refine' K11.sp_mk ?a ?l ?z ?v;(case a=>k_is);(case l=>k_is);(case z=>show 3<=sizeLine;decide);(case v=>exact .cons ⟨_,rfl⟩ (.cons ⟨_,rfl⟩ (.cons ⟨_,rfl⟩ .nil)))
  case hC=>
   refine' K11.claim_mk ?a ?l ?k ?lo ?s0 ?s1 ?s2 ?s3 ?s4
   (case a=>k_is);(case l=>k_is);(case k=>k_keys);(case lo=>rfl)
   case s0=>refine' K11.sp_mk ?a ?l ?z ?v;(case a=>k_is);(case l=>k_is);(case z=>show 2<=sizeLine;decide);(case v=>exact .cons ⟨_,rfl⟩ (.cons ⟨_,rfl⟩ .nil))
   case s1=>refine' K11.sp_mk ?a ?l ?z ?v;(case a=>k_is);(case l=>k_is);(case z=>show 2<=sizeLine;decide);(case v=>exact .cons ⟨_,rfl⟩ (.cons ⟨_,rfl⟩ .nil))
   case s2=>refine' K11.sp_mk ?a ?l ?z ?v;(case a=>k_is);(case l=>k_is);(case z=>show 2<=sizeLine;decide);(case v=>exact .cons ⟨_,rfl⟩ (.cons ⟨_,rfl⟩ .nil))
   case s3=>refine' K11.sp_mk ?a ?l ?z ?v;(case a=>k_is);(case l=>k_is);(case z=>show 2<=sizeLine;decide);(case v=>exact .cons ⟨_,rfl⟩ (.cons ⟨_,rfl⟩ .nil))
   case s4=>refine' K11.sp_mk ?a ?l ?z ?v;(case a=>k_is);(case l=>k_is);(case z=>show 1<=sizeLine;decide);(case v=>exact .cons ⟨_,rfl⟩ .nil)
  (case z1=>k_is);(case z2=>k_is);(case z3=>k_is);(case z4=>k_is);(case z5=>k_is);(case z6=>k_is);(case z7=>k_is);(case z8=>k_is);(case z9=>k_is);(case z10=>k_is);(case z11=>k_is);(case z12=>k_is);(case z13=>k_is)
#print axioms PySem.Challenge.cw_keptnest_k11_read_question_holds
end
