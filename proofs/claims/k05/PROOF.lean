import PyProof.Rows.All
import Wide.All
import OpenK.AllK
import Wide.FinOn
import PySem.Challenge.RW_keptnest_k05_read_in_any_order
import Lean
import PyProof.EqAt
import PyProof.EqKinds
import PyProof.TupleCall
import PyProof.DictWalks
import PyProof.DictKeyH
import PySem.Str
import PyProof.NeKinds
import KE.KRevSl
import KE.KDictSum
import PyProof.Rows.SortStr
import PyProof.IsiPairs
import PyProof.IsiHeapPairs
import PyProof.ZipIter
import KE.KSortAsk
import KE.KSortTup
import PyProof.EnumFor
import PyProof.EnumMake
import PyProof.StrWalks
import PyProof.Rows.EnumRows
import PyProof.Rows.FStr
import PyProof.Rows.SetFrom
import PyProof.CallStr
import PyProof.FitsBits
import KE.KUnpack
import KE.KTupSum
import KE.KDictOf
import KE.KNestM
import KE.KRevIter
import KE.KLam
import PyProof.AttrMissHeap
import KE.KItemsList
import KE.KPairComp
import PyProof.Draws
import PyProof.ListRange
import KE.KIntText
import PyProof.FString5
import PyProof.StrBlock
import PyProof.StrLawsReplace
import PyProof.Rows.StrNews2
set_option Elab.async false
set_option linter.all false
set_option maxRecDepth 100000
set_option maxHeartbeats 4000000
section
namespace Hq
open PySem PySem.W
def vS (s:PySem.Str) (n:Tok):Value:=.str s n
def vI (i:Int) (n:Tok):Value:=.int i n
def vR (a:Addr):Value:=.ref a
def vN:Value:=.none
def sO (s:String):PySem.Str:=PySem.Str.ofString s
def eN (P:Params) (k:PySem.Str) (n:Tok) (v:Value):DictEntry:=⟨PyData.keyHash P k,.str k n,v⟩
def dA (s:Stmt):Arguments:=match s with
 | .FunctionDef _ a _ _ _ _ _ _ _ _=>a
 | _=>{ posonlyargs:=[],args:=[],vararg:=none,kwonlyargs:=[],kw_defaults:=[],kwarg:=none,defaults:=[] }
def dB (s:Stmt):List Stmt:=match s with
 | .FunctionDef _ _ b _ _ _ _ _ _ _=>b
 | _=>[]
def dS (s:Stmt):Scope:=match s with
 | .FunctionDef _ _ _ _ _ _ sc _ _ _=>sc
 | _=>{ kind:=.function,names:=[],isGenerator:=false,isCoroutine:=false }
def cB (s:Stmt):List Stmt:=match s with
 | .ClassDef _ _ _ b _ _ _ _ _ _ _=>b
 | _=>[]
def fO (nm qual:PySem.Str) (st:Stmt) (m cd:Value):Obj:={ cls:=.type "function",data:=.func (PySem.W.fnOf nm qual (dA st) (dB st) (dS st) .none .none .none m none cd .none) }
def RunTo (p q:Program) (loose:List PySem.Str) (Xt:Shared->Bool) {α:Type} (Yf:Shared->α) (Ya:World->α) (N:Nat) (row:String) (b:Bool):Prop:=
 ∀ w:World,(fencedOpening treeTable p w N).map (fun s₀=>(topFrom treeTable p (w.withFollow row b) N s₀).map fun s=>(openSeen q loose (importedModules p.main.body) Xt true s,Yf s))=some (some (openGood q loose,Ya (w.withFollow row b)))
theorem left_two {p q:Program}{loose:List PySem.Str}{Xt:Shared->Bool} {α:Type} {Yf:Shared->α}{Ya:World->α}{N:Nat} (row:String) (h0:RunTo p q loose Xt Yf Ya N row false) (h1:RunTo p q loose Xt Yf Ya N row true):LeftO p q loose Xt Yf Ya N:=fun w=>by
 obtain⟨s₀,a,b1⟩:=Option.map_eq_some_iff.mp (h0 w)
 obtain⟨s₁,a',b2⟩:=Option.map_eq_some_iff.mp (h1 w)
 rw[a]at a'
 cases a'
 have e:=World.withFollow_self w row
 unfold openEnds
 rw[a]
 cases hb:w.params.followText row <;> rw[hb]at e
 ·rw[e]at b1;exact b1
 ·rw[e]at b2;exact b2
end Hq
end
section
set_option maxHeartbeats 0
namespace K05
open PySem Hq
def zT (i:Nat):Stmt:=PySem.Challenge.pw_keptnest_k05_read_in_any_order.main.body.getD i (.Pass ⟨0,0,0,0⟩)
def zM (i j:Nat):Stmt:=(cB (zT i)).getD j (.Pass ⟨0,0,0,0⟩)
def zK (P:Params):PySem.W.Frag:=(nat_lit 3,{ cls:=PySem.Value.type "dict",data:=PySem.Data.dict #[eN P "__name__" 165 (vS "law_keptnest_k05_read_in_any_order" 477),eN P "__doc__" 166 (vN),eN P "__package__" 167 (vN),eN P "__loader__" 168 (PySem.Value.builtin "__main__.__loader__#opaque"),eN P "__spec__" 169 (vN),eN P "__annotations__" 170 (vR 6),eN P "__builtins__" 171 (vR 4),eN P "__file__" 173 (vS "/claim/cut.py" 172),eN P "__cached__" 174 (vN),eN P "NestError" 206 (vR 24),eN P "NoValue" 222 (vR 37),eN P "LETTERS" 226 (vS "abcdefghijklmnopqrstuvwxyz" 225),eN P "FIGURES" 228 (vS "0123456789" 227),eN P "LONGEST_NAME" 230 (vI 8 229),eN P "TAKEN_WORDS" 252 (vR 40),eN P "only_of" 258 (vR 45),eN P "is_name" 265 (vR 52),eN P "number_of" 273 (vR 59),eN P "Reader" 370 (vR 132),eN P "RANKS" 385 (vR 137),eN P "ENDS" 387 (vI 0 386),eN P "GOES_ON" 389 (vI 1 388),eN P "unfolded" 400 (vR 144),eN P "order_parts" 409 (vR 151),eN P "order_key" 416 (vR 158),eN P "bag_of" 422 (vR 163),eN P "DEEPEST" 426 (vI 12 425),eN P "read" 435 (vR 170),eN P "read_value" 445 (vR 177),eN P "read_row" 451 (vR 182),eN P "read_field" 460 (vR 189),eN P "read_counted" 468 (vR 196),eN P "read_count" 476 (vR 203),eN P "_law_cell_at" 486 (vR 210),eN P "_law_deck" 494 (vR 217),eN P "_law_next" 504 (vR 224),eN P "_law_far" 513 (vR 231),eN P "_law_number" 521 (vR 238),eN P "_law_name" 527 (vR 243),eN P "_law_side" 538 (vR 250),eN P "_law_pair_side" 548 (vR 257),eN P "_law_bag" 554 (vR 262),eN P "_law_row_parts" 560 (vR 267),eN P "_law_count" 568 (vR 274),eN P "_law_value" 580 (vR 281),eN P "_law_whole" 587 (vR 288),eN P "_law_like" 593 (vR 293),eN P "_law_text" 599 (vR 298),eN P "_law_mixed" 609 (vR 305),eN P "_law_split" 621 (vR 312),eN P "_law_loose" 635 (vR 319),eN P "law" 648 (vR 326)] 52 }) ::
 (nat_lit 4,{ cls:=PySem.Value.type "module",data:=PySem.Data.plain,dict:=some 0 }) ::
 (nat_lit 23,{ cls:=PySem.Value.type "dict",data:=PySem.Data.dict #[eN P "__module__" 196 (vS "keptnest.errors" 187),eN P "__firstlineno__" 200 (vI 2 199),eN P "__static_attributes__" 201 (vR 22),eN P "__weakref__" 203 (vR 25),eN P "__doc__" 204 (vN)] 3 }) ::
 (nat_lit 24,{ cls:=PySem.Value.type "type",data:=PySem.Data.cls { name:=sO "NestError",bases:=[PySem.Value.type "ValueError"],mro:=[vR 24,PySem.Value.type "ValueError",PySem.Value.type "Exception",PySem.Value.type "BaseException",PySem.Value.type "object"],ns:=23,qualname:=sO "NestError",subclasses:=[vR 37] },slots:=#[Option.some (vR 15),Option.none,Option.some (vS "NestError" 189),Option.some (vS "NestError" 197),Option.some (PySem.Value.builtin "ValueError.__new__"),Option.some (PySem.Value.bool Bool.true)] }) ::
 (nat_lit 36,{ cls:=PySem.Value.type "dict",data:=PySem.Data.dict #[eN P "__module__" 214 (vS "keptnest.errors" 187),eN P "__firstlineno__" 218 (vI 4 217),eN P "__static_attributes__" 219 (vR 35),eN P "__doc__" 220 (vN)] 2 }) ::
 (nat_lit 37,{ cls:=PySem.Value.type "type",data:=PySem.Data.cls { name:=sO "NoValue",bases:=[vR 24],mro:=[vR 37,vR 24,PySem.Value.type "ValueError",PySem.Value.type "Exception",PySem.Value.type "BaseException",PySem.Value.type "object"],ns:=36,qualname:=sO "NoValue" },slots:=#[Option.some (vR 28),Option.none,Option.some (vS "NoValue" 207),Option.some (vS "NoValue" 215),Option.some (PySem.Value.builtin "ValueError.__new__"),Option.some (PySem.Value.bool Bool.true)] }) ::
 (nat_lit 40,{ cls:=PySem.Value.type "tuple",data:=PySem.Data.seq #[vS "num" 231,vS "word" 232,vS "row" 233,vS "bag" 234,vS "var" 235,vS "table" 236,vS "at" 237,vS "add" 238,vS "mul" 239,vS "none" 240,vS "one" 241,vS "both" 242,vS "times" 243,vS "for" 244,vS "when" 245,vS "let" 246,vS "same" 247,vS "under" 248,vS "and" 249,vS "or" 250,vS "not" 251] }) ::
 (nat_lit 44,{ cls:=PySem.Value.type "code",data:=PySem.Data.fields #[vS "only_of" 253,vS "only_of" 254,vS "/claim/cut.py" 255,vI 11 0,vI 2 0,vI 0 0,vI 0 0,vI 3 0,vR 41,PySem.Value.bool Bool.true,vI 181 0,vR 42,vN,vN,vN,vR 43,vI 256 0,vI 11 0,vS "/claim/cut.py" 257] }) ::
 (nat_lit 45,fO "only_of" "only_of" (zT 8) (vS "keptnest.data.signs" 223) (vR 44)) ::
 (nat_lit 51,{ cls:=PySem.Value.type "code",data:=PySem.Data.fields #[vS "is_name" 259,vS "is_name" 260,vS "/claim/cut.py" 261,vI 13 0,vI 1 0,vI 0 0,vI 0 0,vI 3 0,vR 46,PySem.Value.bool Bool.true,vI 181 0,vR 47,vN,vR 48,vR 49,vR 50,vI 263 0,vI 13 0,vS "/claim/cut.py" 264] }) ::
 (nat_lit 52,fO "is_name" "is_name" (zT 9) (vS "keptnest.data.signs" 223) (vR 51)) ::
 (nat_lit 58,{ cls:=PySem.Value.type "code",data:=PySem.Data.fields #[vS "number_of" 266,vS "number_of" 267,vS "/claim/cut.py" 268,vI 15 0,vI 1 0,vI 0 0,vI 0 0,vI 3 0,vR 53,PySem.Value.bool Bool.true,vI 181 0,vR 54,vN,vR 55,vR 56,vR 57,vI 271 0,vI 15 0,vS "/claim/cut.py" 272] }) ::
 (nat_lit 59,fO "number_of" "number_of" (zT 10) (vS "keptnest.data.signs" 223) (vR 58)) ::
 (nat_lit 72,{ cls:=PySem.Value.type "code",data:=PySem.Data.fields #[vS "__init__" 286,vS "Reader.__init__" 287,vS "/claim/cut.py" 288,vI 24 0,vI 2 0,vI 0 0,vI 0 0,vI 3 0,vR 67,PySem.Value.bool Bool.true,vI 181 0,vR 68,vN,vR 69,vR 70,vR 71,vI 291 0,vI 24 0,vS "/claim/cut.py" 292] }) ::
 (nat_lit 73,fO "__init__" "Reader.__init__" (zM 11 0) (vS "keptnest.data.signs" 223) (vR 72)) ::
 (nat_lit 79,{ cls:=PySem.Value.type "code",data:=PySem.Data.fields #[vS "takes" 294,vS "Reader.takes" 295,vS "/claim/cut.py" 296,vI 28 0,vI 2 0,vI 0 0,vI 0 0,vI 3 0,vR 74,PySem.Value.bool Bool.true,vI 181 0,vR 75,vN,vR 76,vR 77,vR 78,vI 299 0,vI 28 0,vS "/claim/cut.py" 300] }) ::
 (nat_lit 80,fO "takes" "Reader.takes" (zM 11 1) (vS "keptnest.data.signs" 223) (vR 79)) ::
 (nat_lit 86,{ cls:=PySem.Value.type "code",data:=PySem.Data.fields #[vS "needs" 302,vS "Reader.needs" 303,vS "/claim/cut.py" 304,vI 34 0,vI 2 0,vI 0 0,vI 0 0,vI 3 0,vR 81,PySem.Value.bool Bool.true,vI 181 0,vR 82,vN,vR 83,vR 84,vR 85,vI 307 0,vI 34 0,vS "/claim/cut.py" 308] }) ::
 (nat_lit 87,fO "needs" "Reader.needs" (zM 11 2) (vS "keptnest.data.signs" 223) (vR 86)) ::
 (nat_lit 100,{ cls:=PySem.Value.type "code",data:=PySem.Data.fields #[vS "at_end" 319,vS "Reader.at_end" 320,vS "/claim/cut.py" 321,vI 42 0,vI 1 0,vI 0 0,vI 0 0,vI 3 0,vR 95,PySem.Value.bool Bool.true,vI 181 0,vR 96,vN,vR 97,vR 98,vR 99,vI 323 0,vI 42 0,vS "/claim/cut.py" 324] }) ::
 (nat_lit 101,fO "at_end" "Reader.at_end" (zM 11 4) (vS "keptnest.data.signs" 223) (vR 100)) ::
 (nat_lit 107,{ cls:=PySem.Value.type "code",data:=PySem.Data.fields #[vS "run_of" 326,vS "Reader.run_of" 327,vS "/claim/cut.py" 328,vI 45 0,vI 2 0,vI 0 0,vI 0 0,vI 3 0,vR 102,PySem.Value.bool Bool.true,vI 181 0,vR 103,vN,vR 104,vR 105,vR 106,vI 332 0,vI 45 0,vS "/claim/cut.py" 333] }) ::
 (nat_lit 108,fO "run_of" "Reader.run_of" (zM 11 5) (vS "keptnest.data.signs" 223) (vR 107)) ::
 (nat_lit 114,{ cls:=PySem.Value.type "code",data:=PySem.Data.fields #[vS "name" 335,vS "Reader.name" 336,vS "/claim/cut.py" 337,vI 51 0,vI 1 0,vI 0 0,vI 0 0,vI 3 0,vR 109,PySem.Value.bool Bool.true,vI 181 0,vR 110,vN,vR 111,vR 112,vR 113,vI 340 0,vI 51 0,vS "/claim/cut.py" 341] }) ::
 (nat_lit 115,fO "name" "Reader.name" (zM 11 6) (vS "keptnest.data.signs" 223) (vR 114)) ::
 (nat_lit 121,{ cls:=PySem.Value.type "code",data:=PySem.Data.fields #[vS "number" 343,vS "Reader.number" 344,vS "/claim/cut.py" 345,vI 57 0,vI 1 0,vI 0 0,vI 0 0,vI 3 0,vR 116,PySem.Value.bool Bool.true,vI 181 0,vR 117,vN,vR 118,vR 119,vR 120,vI 348 0,vI 57 0,vS "/claim/cut.py" 349] }) ::
 (nat_lit 122,fO "number" "Reader.number" (zM 11 7) (vS "keptnest.data.signs" 223) (vR 121)) ::
 (nat_lit 128,{ cls:=PySem.Value.type "code",data:=PySem.Data.fields #[vS "parts" 351,vS "Reader.parts" 352,vS "/claim/cut.py" 353,vI 63 0,vI 3 0,vI 0 0,vI 0 0,vI 3 0,vR 123,PySem.Value.bool Bool.true,vI 181 0,vR 124,vN,vR 125,vR 126,vR 127,vI 358 0,vI 63 0,vS "/claim/cut.py" 359] }) ::
 (nat_lit 129,fO "parts" "Reader.parts" (zM 11 8) (vS "keptnest.data.signs" 223) (vR 128)) ::
 (nat_lit 131,{ cls:=PySem.Value.type "dict",data:=PySem.Data.dict #[eN P "__module__" 281 (vS "keptnest.data.signs" 223),eN P "__firstlineno__" 285 (vI 22 284),eN P "__init__" 293 (vR 73),eN P "takes" 301 (vR 80),eN P "needs" 309 (vR 87),eN P "refuse" 318 (vR 94),eN P "at_end" 325 (vR 101),eN P "run_of" 334 (vR 108),eN P "name" 342 (vR 115),eN P "number" 350 (vR 122),eN P "parts" 360 (vR 129),eN P "__static_attributes__" 363 (vR 130),eN P "__dict__" 365 (vR 133),eN P "__weakref__" 367 (vR 134),eN P "__doc__" 368 (vN)] 4 }) ::
 (nat_lit 132,{ cls:=PySem.Value.type "type",data:=PySem.Data.cls { name:=sO "Reader",bases:=[PySem.Value.type "object"],mro:=[vR 132,PySem.Value.type "object"],ns:=131,qualname:=sO "Reader" },slots:=#[Option.none,Option.none,Option.some (vS "Reader" 274),Option.some (vS "Reader" 282),Option.some (PySem.Value.builtin "object.__new__"),Option.some (PySem.Value.bool Bool.true)] }) ::
 (nat_lit 137,{ cls:=PySem.Value.type "dict",data:=PySem.Data.dict #[eN P "num" 373 (vI 0 374),eN P "word" 375 (vI 1 376),eN P "row" 377 (vI 2 378),eN P "bag" 379 (vI 3 380)] 4 }) ::
 (nat_lit 143,{ cls:=PySem.Value.type "code",data:=PySem.Data.fields #[vS "unfolded" 390,vS "unfolded" 391,vS "/claim/cut.py" 392,vI 75 0,vI 2 0,vI 0 0,vI 0 0,vI 3 0,vR 138,PySem.Value.bool Bool.true,vI 181 0,vR 139,vN,vR 140,vR 141,vR 142,vI 398 0,vI 75 0,vS "/claim/cut.py" 399] }) ::
 (nat_lit 144,fO "unfolded" "unfolded" (zT 16) (vS "keptnest.data.values" 371) (vR 143)) ::
 (nat_lit 150,{ cls:=PySem.Value.type "code",data:=PySem.Data.fields #[vS "order_parts" 401,vS "order_parts" 402,vS "/claim/cut.py" 403,vI 85 0,vI 1 0,vI 0 0,vI 0 0,vI 3 0,vR 145,PySem.Value.bool Bool.true,vI 181 0,vR 146,vN,vR 147,vR 148,vR 149,vI 407 0,vI 85 0,vS "/claim/cut.py" 408] }) ::
 (nat_lit 151,fO "order_parts" "order_parts" (zT 17) (vS "keptnest.data.values" 371) (vR 150)) ::
 (nat_lit 157,{ cls:=PySem.Value.type "code",data:=PySem.Data.fields #[vS "order_key" 410,vS "order_key" 411,vS "/claim/cut.py" 412,vI 92 0,vI 1 0,vI 0 0,vI 0 0,vI 3 0,vR 152,PySem.Value.bool Bool.true,vI 181 0,vR 153,vN,vR 154,vR 155,vR 156,vI 414 0,vI 92 0,vS "/claim/cut.py" 415] }) ::
 (nat_lit 158,fO "order_key" "order_key" (zT 18) (vS "keptnest.data.values" 371) (vR 157)) ::
 (nat_lit 162,{ cls:=PySem.Value.type "code",data:=PySem.Data.fields #[vS "bag_of" 417,vS "bag_of" 418,vS "/claim/cut.py" 419,vI 94 0,vI 1 0,vI 0 0,vI 0 0,vI 3 0,vR 159,PySem.Value.bool Bool.true,vI 181 0,vR 160,vN,vN,vN,vR 161,vI 420 0,vI 94 0,vS "/claim/cut.py" 421] }) ::
 (nat_lit 163,fO "bag_of" "bag_of" (zT 19) (vS "keptnest.data.values" 371) (vR 162)) ::
 (nat_lit 169,{ cls:=PySem.Value.type "code",data:=PySem.Data.fields #[vS "read" 427,vS "read" 428,vS "/claim/cut.py" 429,vI 104 0,vI 1 0,vI 0 0,vI 0 0,vI 3 0,vR 164,PySem.Value.bool Bool.true,vI 181 0,vR 165,vN,vR 166,vR 167,vR 168,vI 433 0,vI 104 0,vS "/claim/cut.py" 434] }) ::
 (nat_lit 170,fO "read" "read" (zT 22) (vS "keptnest.data.texts" 423) (vR 169)) ::
 (nat_lit 176,{ cls:=PySem.Value.type "code",data:=PySem.Data.fields #[vS "read_value" 436,vS "read_value" 437,vS "/claim/cut.py" 438,vI 110 0,vI 2 0,vI 0 0,vI 0 0,vI 3 0,vR 171,PySem.Value.bool Bool.true,vI 181 0,vR 172,vN,vR 173,vR 174,vR 175,vI 443 0,vI 110 0,vS "/claim/cut.py" 444] }) ::
 (nat_lit 177,fO "read_value" "read_value" (zT 23) (vS "keptnest.data.texts" 423) (vR 176)) ::
 (nat_lit 181,{ cls:=PySem.Value.type "code",data:=PySem.Data.fields #[vS "read_row" 446,vS "read_row" 447,vS "/claim/cut.py" 448,vI 120 0,vI 2 0,vI 0 0,vI 0 0,vI 3 0,vR 178,PySem.Value.bool Bool.true,vI 181 0,vR 179,vN,vN,vN,vR 180,vI 449 0,vI 120 0,vS "/claim/cut.py" 450] }) ::
 (nat_lit 182,fO "read_row" "read_row" (zT 24) (vS "keptnest.data.texts" 423) (vR 181)) ::
 (nat_lit 188,{ cls:=PySem.Value.type "code",data:=PySem.Data.fields #[vS "read_field" 452,vS "read_field" 453,vS "/claim/cut.py" 454,vI 127 0,vI 2 0,vI 0 0,vI 0 0,vI 3 0,vR 183,PySem.Value.bool Bool.true,vI 181 0,vR 184,vN,vR 185,vR 186,vR 187,vI 458 0,vI 127 0,vS "/claim/cut.py" 459] }) ::
 (nat_lit 189,fO "read_field" "read_field" (zT 25) (vS "keptnest.data.texts" 423) (vR 188)) ::
 (nat_lit 195,{ cls:=PySem.Value.type "code",data:=PySem.Data.fields #[vS "read_counted" 461,vS "read_counted" 462,vS "/claim/cut.py" 463,vI 131 0,vI 2 0,vI 0 0,vI 0 0,vI 3 0,vR 190,PySem.Value.bool Bool.true,vI 181 0,vR 191,vN,vR 192,vR 193,vR 194,vI 466 0,vI 131 0,vS "/claim/cut.py" 467] }) ::
 (nat_lit 196,fO "read_counted" "read_counted" (zT 26) (vS "keptnest.data.texts" 423) (vR 195)) ::
 (nat_lit 202,{ cls:=PySem.Value.type "code",data:=PySem.Data.fields #[vS "read_count" 469,vS "read_count" 470,vS "/claim/cut.py" 471,vI 133 0,vI 1 0,vI 0 0,vI 0 0,vI 3 0,vR 197,PySem.Value.bool Bool.true,vI 181 0,vR 198,vN,vR 199,vR 200,vR 201,vI 474 0,vI 133 0,vS "/claim/cut.py" 475] }) ::
 (nat_lit 203,fO "read_count" "read_count" (zT 27) (vS "keptnest.data.texts" 423) (vR 202)) ::
 (nat_lit 209,{ cls:=PySem.Value.type "code",data:=PySem.Data.fields #[vS "_law_cell_at" 479,vS "_law_cell_at" 480,vS "/claim/cut.py" 481,vI 141 0,vI 2 0,vI 0 0,vI 0 0,vI 3 0,vR 204,PySem.Value.bool Bool.true,vI 181 0,vR 205,vN,vR 206,vR 207,vR 208,vI 484 0,vI 141 0,vS "/claim/cut.py" 485] }) ::
 (nat_lit 210,fO "_law_cell_at" "_law_cell_at" (zT 29) (vS "law_keptnest_k05_read_in_any_order" 477) (vR 209)) ::
 (nat_lit 216,{ cls:=PySem.Value.type "code",data:=PySem.Data.fields #[vS "_law_deck" 487,vS "_law_deck" 488,vS "/claim/cut.py" 489,vI 145 0,vI 2 0,vI 0 0,vI 0 0,vI 3 0,vR 211,PySem.Value.bool Bool.true,vI 181 0,vR 212,vN,vR 213,vR 214,vR 215,vI 492 0,vI 145 0,vS "/claim/cut.py" 493] }) ::
 (nat_lit 217,fO "_law_deck" "_law_deck" (zT 30) (vS "law_keptnest_k05_read_in_any_order" 477) (vR 216)) ::
 (nat_lit 223,{ cls:=PySem.Value.type "code",data:=PySem.Data.fields #[vS "_law_next" 495,vS "_law_next" 496,vS "/claim/cut.py" 497,vI 147 0,vI 2 0,vI 0 0,vI 0 0,vI 3 0,vR 218,PySem.Value.bool Bool.true,vI 181 0,vR 219,vN,vR 220,vR 221,vR 222,vI 502 0,vI 147 0,vS "/claim/cut.py" 503] }) ::
 (nat_lit 224,fO "_law_next" "_law_next" (zT 31) (vS "law_keptnest_k05_read_in_any_order" 477) (vR 223)) ::
 (nat_lit 230,{ cls:=PySem.Value.type "code",data:=PySem.Data.fields #[vS "_law_far" 505,vS "_law_far" 506,vS "/claim/cut.py" 507,vI 157 0,vI 1 0,vI 0 0,vI 0 0,vI 3 0,vR 225,PySem.Value.bool Bool.true,vI 181 0,vR 226,vN,vR 227,vR 228,vR 229,vI 511 0,vI 157 0,vS "/claim/cut.py" 512] }) ::
 (nat_lit 231,fO "_law_far" "_law_far" (zT 32) (vS "law_keptnest_k05_read_in_any_order" 477) (vR 230)) ::
 (nat_lit 237,{ cls:=PySem.Value.type "code",data:=PySem.Data.fields #[vS "_law_number" 514,vS "_law_number" 515,vS "/claim/cut.py" 516,vI 162 0,vI 1 0,vI 0 0,vI 0 0,vI 3 0,vR 232,PySem.Value.bool Bool.true,vI 181 0,vR 233,vN,vR 234,vR 235,vR 236,vI 519 0,vI 162 0,vS "/claim/cut.py" 520] }) ::
 (nat_lit 238,fO "_law_number" "_law_number" (zT 33) (vS "law_keptnest_k05_read_in_any_order" 477) (vR 237)) ::
 (nat_lit 242,{ cls:=PySem.Value.type "code",data:=PySem.Data.fields #[vS "_law_name" 522,vS "_law_name" 523,vS "/claim/cut.py" 524,vI 171 0,vI 1 0,vI 0 0,vI 0 0,vI 3 0,vR 239,PySem.Value.bool Bool.true,vI 181 0,vR 240,vN,vN,vN,vR 241,vI 525 0,vI 171 0,vS "/claim/cut.py" 526] }) ::
 (nat_lit 243,fO "_law_name" "_law_name" (zT 34) (vS "law_keptnest_k05_read_in_any_order" 477) (vR 242)) ::
 (nat_lit 249,{ cls:=PySem.Value.type "code",data:=PySem.Data.fields #[vS "_law_side" 528,vS "_law_side" 529,vS "/claim/cut.py" 530,vI 180 0,vI 2 0,vI 0 0,vI 0 0,vI 3 0,vR 244,PySem.Value.bool Bool.true,vI 181 0,vR 245,vN,vR 246,vR 247,vR 248,vI 536 0,vI 180 0,vS "/claim/cut.py" 537] }) ::
 (nat_lit 250,fO "_law_side" "_law_side" (zT 35) (vS "law_keptnest_k05_read_in_any_order" 477) (vR 249)) ::
 (nat_lit 256,{ cls:=PySem.Value.type "code",data:=PySem.Data.fields #[vS "_law_pair_side" 539,vS "_law_pair_side" 540,vS "/claim/cut.py" 541,vI 192 0,vI 3 0,vI 0 0,vI 0 0,vI 3 0,vR 251,PySem.Value.bool Bool.true,vI 181 0,vR 252,vN,vR 253,vR 254,vR 255,vI 546 0,vI 192 0,vS "/claim/cut.py" 547] }) ::
 (nat_lit 257,fO "_law_pair_side" "_law_pair_side" (zT 36) (vS "law_keptnest_k05_read_in_any_order" 477) (vR 256)) ::
 (nat_lit 261,{ cls:=PySem.Value.type "code",data:=PySem.Data.fields #[vS "_law_bag" 549,vS "_law_bag" 550,vS "/claim/cut.py" 551,vI 199 0,vI 1 0,vI 0 0,vI 0 0,vI 3 0,vR 258,PySem.Value.bool Bool.true,vI 181 0,vR 259,vN,vN,vN,vR 260,vI 552 0,vI 199 0,vS "/claim/cut.py" 553] }) ::
 (nat_lit 262,fO "_law_bag" "_law_bag" (zT 37) (vS "law_keptnest_k05_read_in_any_order" 477) (vR 261)) ::
 (nat_lit 266,{ cls:=PySem.Value.type "code",data:=PySem.Data.fields #[vS "_law_row_parts" 555,vS "_law_row_parts" 556,vS "/claim/cut.py" 557,vI 210 0,vI 2 0,vI 0 0,vI 0 0,vI 3 0,vR 263,PySem.Value.bool Bool.true,vI 181 0,vR 264,vN,vN,vN,vR 265,vI 558 0,vI 210 0,vS "/claim/cut.py" 559] }) ::
 (nat_lit 267,fO "_law_row_parts" "_law_row_parts" (zT 38) (vS "law_keptnest_k05_read_in_any_order" 477) (vR 266)) ::
 (nat_lit 273,{ cls:=PySem.Value.type "code",data:=PySem.Data.fields #[vS "_law_count" 561,vS "_law_count" 562,vS "/claim/cut.py" 563,vI 215 0,vI 1 0,vI 0 0,vI 0 0,vI 3 0,vR 268,PySem.Value.bool Bool.true,vI 181 0,vR 269,vN,vR 270,vR 271,vR 272,vI 566 0,vI 215 0,vS "/claim/cut.py" 567] }) ::
 (nat_lit 274,fO "_law_count" "_law_count" (zT 39) (vS "law_keptnest_k05_read_in_any_order" 477) (vR 273)) ::
 (nat_lit 280,{ cls:=PySem.Value.type "code",data:=PySem.Data.fields #[vS "_law_value" 569,vS "_law_value" 570,vS "/claim/cut.py" 571,vI 218 0,vI 2 0,vI 0 0,vI 0 0,vI 3 0,vR 275,PySem.Value.bool Bool.true,vI 181 0,vR 276,vN,vR 277,vR 278,vR 279,vI 578 0,vI 218 0,vS "/claim/cut.py" 579] }) ::
 (nat_lit 281,fO "_law_value" "_law_value" (zT 40) (vS "law_keptnest_k05_read_in_any_order" 477) (vR 280)) ::
 (nat_lit 287,{ cls:=PySem.Value.type "code",data:=PySem.Data.fields #[vS "_law_whole" 581,vS "_law_whole" 582,vS "/claim/cut.py" 583,vI 232 0,vI 1 0,vI 0 0,vI 0 0,vI 3 0,vR 282,PySem.Value.bool Bool.true,vI 181 0,vR 283,vN,vR 284,vR 285,vR 286,vI 585 0,vI 232 0,vS "/claim/cut.py" 586] }) ::
 (nat_lit 288,fO "_law_whole" "_law_whole" (zT 41) (vS "law_keptnest_k05_read_in_any_order" 477) (vR 287)) ::
 (nat_lit 292,{ cls:=PySem.Value.type "code",data:=PySem.Data.fields #[vS "_law_like" 588,vS "_law_like" 589,vS "/claim/cut.py" 590,vI 234 0,vI 2 0,vI 0 0,vI 0 0,vI 3 0,vR 289,PySem.Value.bool Bool.true,vI 181 0,vR 290,vN,vN,vN,vR 291,vI 591 0,vI 234 0,vS "/claim/cut.py" 592] }) ::
 (nat_lit 293,fO "_law_like" "_law_like" (zT 42) (vS "law_keptnest_k05_read_in_any_order" 477) (vR 292)) ::
 (nat_lit 297,{ cls:=PySem.Value.type "code",data:=PySem.Data.fields #[vS "_law_text" 594,vS "_law_text" 595,vS "/claim/cut.py" 596,vI 242 0,vI 1 0,vI 0 0,vI 0 0,vI 3 0,vR 294,PySem.Value.bool Bool.true,vI 181 0,vR 295,vN,vN,vN,vR 296,vI 597 0,vI 242 0,vS "/claim/cut.py" 598] }) ::
 (nat_lit 298,fO "_law_text" "_law_text" (zT 43) (vS "law_keptnest_k05_read_in_any_order" 477) (vR 297)) ::
 (nat_lit 304,{ cls:=PySem.Value.type "code",data:=PySem.Data.fields #[vS "_law_mixed" 600,vS "_law_mixed" 601,vS "/claim/cut.py" 602,vI 255 0,vI 2 0,vI 0 0,vI 0 0,vI 3 0,vR 299,PySem.Value.bool Bool.true,vI 181 0,vR 300,vN,vR 301,vR 302,vR 303,vI 607 0,vI 255 0,vS "/claim/cut.py" 608] }) ::
 (nat_lit 305,fO "_law_mixed" "_law_mixed" (zT 44) (vS "law_keptnest_k05_read_in_any_order" 477) (vR 304)) ::
 (nat_lit 311,{ cls:=PySem.Value.type "code",data:=PySem.Data.fields #[vS "_law_split" 610,vS "_law_split" 611,vS "/claim/cut.py" 612,vI 261 0,vI 3 0,vI 0 0,vI 0 0,vI 3 0,vR 306,PySem.Value.bool Bool.true,vI 181 0,vR 307,vN,vR 308,vR 309,vR 310,vI 619 0,vI 261 0,vS "/claim/cut.py" 620] }) ::
 (nat_lit 312,fO "_law_split" "_law_split" (zT 45) (vS "law_keptnest_k05_read_in_any_order" 477) (vR 311)) ::
 (nat_lit 318,{ cls:=PySem.Value.type "code",data:=PySem.Data.fields #[vS "_law_loose" 622,vS "_law_loose" 623,vS "/claim/cut.py" 624,vI 270 0,vI 2 0,vI 0 0,vI 0 0,vI 3 0,vR 313,PySem.Value.bool Bool.true,vI 181 0,vR 314,vN,vR 315,vR 316,vR 317,vI 633 0,vI 270 0,vS "/claim/cut.py" 634] }) ::
 (nat_lit 319,fO "_law_loose" "_law_loose" (zT 46) (vS "law_keptnest_k05_read_in_any_order" 477) (vR 318)) ::
 (nat_lit 325,{ cls:=PySem.Value.type "code",data:=PySem.Data.fields #[vS "law" 636,vS "law" 637,vS "/claim/cut.py" 638,vI 282 0,vI 1 0,vI 0 0,vI 0 0,vI 3 0,vR 320,PySem.Value.bool Bool.true,vI 181 0,vR 321,vN,vR 322,vR 323,vR 324,vI 646 0,vI 282 0,vS "/claim/cut.py" 647] }) ::
 (nat_lit 326,fO "law" "law" (zT 47) (vS "law_keptnest_k05_read_in_any_order" 477) (vR 325))::[]
def zA:List Addr:=[3,4,23,24,36,37,40,44,45,51,52,58,59,72,73,79,80,86,87,100,101,107,108,114,115,121,122,128,129,131,132,137,143,144,150,151,157,158,162,163,169,170,176,177,181,182,188,189,195,196,202,203,209,210,216,217,223,224,230,231,237,238,242,243,249,250,256,257,261,262,266,267,273,274,280,281,287,288,292,293,297,298,304,305,311,312,318,319,325,326]
def zV:Program:={ PySem.Challenge.pw_keptnest_k05_read_in_any_order with main:={ PySem.Challenge.pw_keptnest_k05_read_in_any_order.main with body:=[1,2,4,5,6,7,8,9,10,11,13,14,15,16,17,18,19,21,22,23,24,25,26,27,29,30,31,32,33,34,35,36,37,38,39,40,41,42,43,44,45,46,47].filterMap fun i=>PySem.Challenge.pw_keptnest_k05_read_in_any_order.main.body[i]? } }
theorem zE:∀ P,zA=(zK P).map (·.1):=fun _=>rfl
def zTs:List Addr:=[172,179]
def zL:List PySem.Str:=["RANKS"]
end K05
end
section
set_option maxHeartbeats 0
namespace K05
open PySem Hq
theorem zR_false:RunTo PySem.Challenge.pw_keptnest_k05_read_in_any_order zV zL (fun s=>PySem.W.xlAt zV [] s && PySem.W.recOk (PySem.W.RowW.records (PySem.W.OpenRow.toRowW PySem.Challenge.rw_keptnest_k05_read_in_any_order.row)) s) (PySem.W.Hook.obs (PySem.W.kmHook zK zA zE zTs)) (PySem.W.Hook.val (PySem.W.kmHook zK zA zE zTs)) 4212 "special-get-raises" false:=by
 intro w
 kernel_rfl
theorem zR_true:RunTo PySem.Challenge.pw_keptnest_k05_read_in_any_order zV zL (fun s=>PySem.W.xlAt zV [] s && PySem.W.recOk (PySem.W.RowW.records (PySem.W.OpenRow.toRowW PySem.Challenge.rw_keptnest_k05_read_in_any_order.row)) s) (PySem.W.Hook.obs (PySem.W.kmHook zK zA zE zTs)) (PySem.W.Hook.val (PySem.W.kmHook zK zA zE zTs)) 4212 "special-get-raises" true:=by
 intro w
 kernel_rfl
theorem zS:PySem.Challenge.rw_keptnest_k05_read_in_any_order.wellSaid=true:=by kernel_rfl
end K05
end
section
-- CHANGE: your row's module here,as the last of these rows
namespace L2
open PySem PySem.Spec PyProof.Rows
abbrev Key:=Sum Int Str
def keyIs:Key->Value->Bool
 | .inl k,v=>Value.isInt k v
 | .inr x,v=>Value.isStrOf x v
def keyH (w:World):Key->Int
 | .inl k=>hashInt k
 | .inr x=>hashStr w x
theorem keyIs_shape:∀ {k:Key}{v:Value},keyIs k v=true->(∃ i t,k=Sum.inl i/\v=Value.int i t)\/(∃ x t,k=Sum.inr x/\v=Value.str x t)
 | .inl i,v,h=>by
  obtain⟨t,e⟩:=Value.isInt_shape (k:=i) (v:=v) h
  exact .inl ⟨i,t,rfl,e⟩
 | .inr x,v,h=>by
  obtain⟨t,e⟩:=Value.isStrOf_shape (x:=x) (v:=v) h
  exact .inr ⟨x,t,rfl,e⟩
theorem keyIs_int (i:Int) (t:Tok):keyIs (.inl i) (.int i t)=true:=by simp [keyIs,Value.isInt]
theorem keyIs_str (x:Str) (t:Tok):keyIs (.inr x) (.str x t)=true:=by simp [keyIs,Value.isStrOf]
theorem key_ll (a b:Int):decide ((Sum.inl a:Key)=Sum.inl b)=(a == b):=by
 by_cases e:a=b
 ·subst e;simp
 ·have h:¬(Sum.inl a:Key)=Sum.inl b:=fun q=>e (Sum.inl.inj q)
  rw[decide_eq_false h]
  exact (beq_eq_false_iff_ne.mpr e).symm
theorem key_rr (a b:Str):decide ((Sum.inr a:Key)=Sum.inr b)=decide (a=b):=by
 by_cases e:a=b
 ·subst e;simp
 ·have h:¬(Sum.inr a:Key)=Sum.inr b:=fun q=>e (Sum.inr.inj q)
  rw[decide_eq_false h,decide_eq_false e]
theorem key_lr (a:Int) (b:Str):decide ((Sum.inl a:Key)=Sum.inr b)=false:=decide_eq_false (fun q=>nomatch q)
theorem key_rl (a:Str) (b:Int):decide ((Sum.inr a:Key)=Sum.inl b)=false:=decide_eq_false (fun q=>nomatch q)
def mixKind (prog:Program) (w:World):PySem.KeyKind prog w Key where
 is:=keyIs
 hash:=keyH w
 inj:=fun v a b ha hb=>by
  rcases keyIs_shape ha with ⟨i,t,rfl,rfl⟩ | ⟨x,t,rfl,rfl⟩
  ·rcases keyIs_shape hb with ⟨j,u,rfl,e⟩ | ⟨y,u,rfl,e⟩
   ·injection e with e1 _;rw[e1]
   ·exact nomatch e
  ·rcases keyIs_shape hb with ⟨j,u,rfl,e⟩ | ⟨y,u,rfl,e⟩
   ·exact nomatch e
   ·injection e with e1 _;rw[e1]
 byValue:=fun k v h=>by
  rcases keyIs_shape h with ⟨i,t,rfl,rfl⟩ | ⟨x,t,rfl,rfl⟩ <;> rfl
 pyHash:=fun hv h=>by
  rcases keyIs_shape hv with ⟨i,t,rfl,rfl⟩ | ⟨x,t,rfl,rfl⟩
  ·exact wpAny_pyHash_int h
  ·exact wpAny_pyHash_str h
 eqBool:=fun hu hv h=>by
  rcases keyIs_shape hu with ⟨i,t,rfl,rfl⟩ | ⟨x,t,rfl,rfl⟩
  ·rcases keyIs_shape hv with ⟨j,u,rfl,rfl⟩ | ⟨y,u,rfl,rfl⟩
   ·rw[key_ll]at h;exact wpAny_eqBool_int h
   ·rw[key_lr]at h;exact SeqAt.EqAt.int_str i t y u _ _ _ _ h
  ·rcases keyIs_shape hv with ⟨j,u,rfl,rfl⟩ | ⟨y,u,rfl,rfl⟩
   ·rw[key_rl]at h;exact SeqAt.EqAt.str_int x t j u _ _ _ _ h
   ·rw[key_rr]at h;exact wpAny_eqBool_str h
 «strs»:=fun k x t v h=>by
  rcases keyIs_shape h with ⟨i,u,rfl,e⟩ | ⟨y,u,rfl,e⟩
  ·exact nomatch e
  ·injection e with e1 _
   subst e1
   cases v <;> rfl
theorem mixKind_int (prog:Program) (w:World) (i:Int) (t:Tok):(mixKind prog w).is (.inl i) (.int i t)=true:=keyIs_int i t
theorem mixKind_str (prog:Program) (w:World) (x:Str) (t:Tok):(mixKind prog w).is (.inr x) (.str x t)=true:=keyIs_str x t
end L2
namespace L2
open PySem PySem.Spec PyProof.Rows
inductive V where
 | non | bl (b:Bool) | int (i:Int) | str (x:Str) | byt (b:Array UInt8) | flt (b:UInt64) | ref (a:Addr) | ty (n:String)
 deriving DecidableEq
def RelV:V->Value->Prop
 | .non,u=>u=Value.none
 | .bl b,u=>u=Value.bool b
 | .int i,u=>∃ t,u=Value.int i t
 | .str x,u=>∃ t,u=Value.str x t
 | .byt b,u=>∃ t,u=Value.bytes b t
 | .flt b,u=>∃ t,u=Value.float b t
 | .ref a,u=>u=Value.ref a
 | .ty n,u=>u=Value.type n
abbrev Vals:List V->List Value->Prop:=Paired RelV
theorem Vals.length {xs:List V}{us:List Value} (r:Vals xs us):xs.length=us.length:=Paired.length r
theorem Vals.get:∀ {xs:List V}{us:List Value}{i:Nat}{x:V},Vals xs us->xs[i]?=some x->∃ u,us[i]?=some u/\RelV x u
 | _,_,_,_,.nil,e=>by simp at e
 | _,_,0,_,.cons r _,e=>by simp at e;subst e;exact⟨_,rfl,r⟩
 | _,_,i+1,x,.cons _ t,e=>by
  obtain⟨u,h1,h2⟩:=Vals.get (i:=i) (x:=x) t (by simpa using e)
  exact⟨u,by simpa using h1,h2⟩
theorem Vals.set {x:V}{u:Value} (r:RelV x u):∀ {xs:List V}{us:List Value} (i:Nat),Vals xs us->Vals (xs.set i x) (us.set i u)
 | _,_,_,.nil=>.nil
 | _,_,0,.cons _ t=>.cons r t
 | _,_,i+1,.cons q t=>.cons q (Vals.set r i t)
theorem Vals.append {xs ys:List V}{us ws:List Value} (h:Vals xs us) (s:Vals ys ws):Vals (xs++ys) (us++ws):=by
 induction h with
 | nil=>exact s
 | cons r t ih=>exact .cons r ih
theorem Vals.take:∀ {xs:List V}{us:List Value} (n:Nat),Vals xs us->Vals (xs.take n) (us.take n)
 | _,_,0,_=>.nil
 | _,_,_+1,.nil=>.nil
 | _,_,n+1,.cons r t=>.cons r (Vals.take n t)
theorem Vals.drop:∀ {xs:List V}{us:List Value} (n:Nat),Vals xs us->Vals (xs.drop n) (us.drop n)
 | _,_,0,r=>r
 | _,_,_+1,.nil=>.nil
 | _,_,n+1,.cons _ t=>Vals.drop n t
def RelO:Option V->Option Value->Prop
 | some v,some u=>RelV v u
 | none,none=>True
 | _,_=>False
def KV {κ:Type}:List (κ×V)->List (κ×Value)->Prop:=Paired fun (p:κ×V) (q:κ×Value)=>p.1=q.1/\RelV p.2 q.2
def kV:Key->V
 | .inl i=>.int i
 | .inr x=>.str x
inductive HO where
  | lst (xs:List V)
  | tup (xs:List V)
  | dK (kvs:List (Key×V)) | dT (kvs:List (List Key×V))
  | set (S:Int->Bool) (n:Nat)
  | ins (C dx:Addr) (fs:List (Str×V))
  | own (x:Addr)
  | xd (fs:List (Str×V))
  | met (f x:Addr)
  | rng (lo hi:Int)
  | frz (o:Obj) (u:HO)
  | tbl (ps:Array Value)
  | ext (φ:Heap->Prop)
abbrev Hp:=Addr->Option HO
def upd (H:Hp) (a:Addr) (o:HO):Hp:=fun b=>if b=a then some o else H b
theorem upd_same {H:Hp}{a:Addr}{o:HO}:upd H a o a=some o:=by unfold upd;rw[if_pos rfl]
theorem upd_ne {H:Hp}{a b:Addr}{o:HO} (h:b≠a):upd H a o b=H b:=by unfold upd;rw[if_neg h]
theorem ne_of {H:Hp}{a b:Addr}{o u:HO} (h:H a=some o) (h':H b=some u) (d:o≠u):a≠b:=by
 intro e;subst e;rw[h]at h';exact d (Option.some.inj h')
theorem ne_of_none {H:Hp}{a b:Addr}{o:HO} (h:H a=some o) (h':H b=none):a≠b:=by
 intro e;subst e;rw[h]at h';cases h'
def TupD (h:Heap) (a:Addr) (n:Nat):Prop:=n<=sizeLine/\∀ o,h.get? a=some o->o.dict=none
theorem tupD_new {h:Heap}{its:Array Value}{k n:Nat} (z:n<=sizeLine):TupD (h.push { cls:=.type "tuple",data:=.seq its k }) h.objs.size n:=
 ⟨z,fun o q=>by rw[Heap.get?_push_size _ rfl]at q;cases q;rfl⟩
theorem tupD_at {h:Heap}{a:Addr}{o:Obj}{n:Nat} (z:n<=sizeLine) (e:h.get? a=some o) (d:o.dict=none):TupD h a n:=
 ⟨z,fun o' q=>by rw[e]at q;cases q;exact d⟩
section
variable (P:Program) (w:World)
def ObjOk (H:Hp) (h:Heap) (a:Addr):HO->Prop
 | .lst xs=>xs.length<=sizeLine/\∃ (its:List Value) (n:Nat),Vals xs its/\h.get? a=some { cls:=.type "list",data:=.seq its.toArray n }
 | .tup xs=>TupD h a xs.length/\∃ its:List Value,Vals xs its/\IsTup h a its.toArray
 | .dK kvs=>kvs.length<=sizeLine/\(a == sysModules)=false/\∃ vs,KV kvs vs/\h.DictOf (mixKind P w) a vs
 | .dT kvs=>kvs.length<=sizeLine/\(a == sysModules)=false/\∃ xs:List (List Key×Addr×Value),
   Paired (fun (p:List Key×V) (q:List Key×Addr×Value)=>p.1=q.1/\H q.2.1=some (.tup (p.1.map kV))/\RelV p.2 q.2.2) kvs xs /\
   ∃ o es ep,h.get? a=some o/\o.ExactDict/\o.data=.dict es ep/\es.toList=xs.map (entryOfKey (tupleKind (mixKind P w)))/\(xs.map (·.1)).Nodup
 | .set S n=>h.SetOf (intKind P w) a S n
 | .ins C dx fs=>H dx=some (.own a)/\fs.length<=1000/\dx≠a/\h.get? a=some (PySem.W.instObj C dx) /\
   ∃ mA,h.Ns1 dx mA/\(∀ f,RelO (fs.lookup f) (mA f))/\PySem.Within mA (fs.map (·.1))
 | .own _=>∃ o,h.get? a=some o
 | .xd fs=>∃ mA,h.Ns1 a mA/\∀ f,RelO (fs.lookup f) (mA f)
 | .rng lo hi=>∃ t u v,h.get? a=some { cls:=.type "range",data:=.fields #[.int lo t,.int hi u,.int 1 v] }
 | .frz o u=>h.get? a=some o/\ObjOk H h a u
 | .tbl ps=>h.get? a=some { cls:=.none,data:=.fields ps }
 | .met f x=>h.get? a=some (PySem.W.methodObj (.ref f) (.ref x))
 | .ext φ=>φ h/\(∃ o,h.get? a=some o)/\∀ h1 h2:Heap,φ h1->(∀ o,h1.get? a=some o->h2.get? a=some o)->φ h2
def HOk (H:Hp) (h:Heap):Prop:=∀ a o,H a=some o->ObjOk P w H h a o
end
section
variable {P:Program}{w:World}{H H':Hp}{h h':Heap}{a:Addr}{o:HO}
theorem ObjOk.lt (x:ObjOk P w H h a o):a<h.objs.size:=by
 cases o with
 | lst xs=>obtain⟨_,_,_,_,e⟩:=x;exact Heap.lt_size e
 | tup xs=>obtain⟨_,_,_,p⟩:=x;exact p.lt
 | dK kvs=>obtain⟨_,_,_,_,o,_,_,e,_⟩:=x;exact Heap.lt_size e
 | dT kvs=>obtain⟨_,_,_,_,o,_,_,e,_⟩:=x;exact Heap.lt_size e
 | set S n=>obtain⟨o,_,_,_,e,_⟩:=x;exact Heap.lt_size e
 | ins C dx fs=>obtain⟨_,_,_,e,_⟩:=x;exact Heap.lt_size e
 | own y=>obtain⟨_,e⟩:=x;exact Heap.lt_size e
 | xd fs=>obtain⟨_,⟨_,_,_,e,_⟩,_⟩:=x;exact Heap.lt_size e
 | rng lo hi=>obtain⟨_,_,_,e⟩:=x;exact Heap.lt_size e
 | frz ob u=>obtain⟨e,_⟩:=x;exact Heap.lt_size e
 | tbl ps=>exact Heap.lt_size (show h.get? a=some _ from x)
 | met f y=>exact Heap.lt_size (show h.get? a=some _ from x)
 | ext φ=>obtain⟨_,⟨_,e⟩,_⟩:=x;exact Heap.lt_size e
theorem Paired.mapP {α β:Type} {F G:α->β->Prop}:∀ {l₁:List α}{l₂:List β},Paired F l₁ l₂->(∀ a b,F a b->G a b)->Paired G l₁ l₂
 | _,_,.nil,_=>.nil
 | _,_,.cons r t,f=>.cons (f _ _ r) (Paired.mapP t f)
theorem ObjOk.stay (x:ObjOk P w H h a o) (k:∀ b u,(b=a\/H b=some (.own a))->h.get? b=some u->h'.get? b=some u)
  (ho:∀ b,H b=some (.own a)->H' b=some (.own a)) (ht:∀ b xs,H b=some (.tup xs)->H' b=some (.tup xs)):ObjOk P w H' h' a o:=by
 induction o with
 | lst xs=>obtain⟨z,its,n,r,e⟩:=x;exact⟨z,its,n,r,k _ _ (.inl rfl) e⟩
 | tup xs=>obtain⟨z,its,r,ob,e,c⟩:=x;exact⟨tupD_at z.1 (k _ _ (.inl rfl) e) (z.2 _ e),its,r,ob,k _ _ (.inl rfl) e,c⟩
 | dK kvs=>obtain⟨z,y,vs,r,ob,es,ep,e,c⟩:=x;exact⟨z,y,vs,r,ob,es,ep,k _ _ (.inl rfl) e,c⟩
 | dT kvs=>
  obtain⟨z,y,xs,r,ob,es,ep,e,c⟩:=x
  exact⟨z,y,xs,Paired.mapP r fun p q z=>⟨z.1,ht _ _ z.2.1,z.2.2⟩,ob,es,ep,k _ _ (.inl rfl) e,c⟩
 | set S n=>obtain⟨ob,es,ep,t,e,c⟩:=x;exact⟨ob,es,ep,t,k _ _ (.inl rfl) e,c⟩
 | ins C dx fs=>
  obtain⟨d,z,ne,e,mA,⟨od,es,ep,e2,c⟩,r⟩:=x
  exact⟨ho _ d,z,ne,k _ _ (.inl rfl) e,mA,⟨od,es,ep,k _ _ (.inr d) e2,c⟩,r⟩
 | own y=>obtain⟨ob,e⟩:=x;exact⟨ob,k _ _ (.inl rfl) e⟩
 | xd fs=>obtain⟨mA,⟨od,es,ep,e,c⟩,r⟩:=x;exact⟨mA,⟨od,es,ep,k _ _ (.inl rfl) e,c⟩,r⟩
 | rng lo hi=>obtain⟨t,u,v,e⟩:=x;exact⟨t,u,v,k _ _ (.inl rfl) e⟩
 | frz ob u ih=>obtain⟨e,q⟩:=x;exact⟨k _ _ (.inl rfl) e,ih q⟩
 | tbl ps=>
  have e:h.get? a=some { cls:=.none,data:=.fields ps }:=x
  show h'.get? a=some { cls:=.none,data:=.fields ps }
  exact k a _ (.inl rfl) e
 | met f y=>
  have e:h.get? a=some (PySem.W.methodObj (.ref f) (.ref y)):=x
  show h'.get? a=some (PySem.W.methodObj (.ref f) (.ref y))
  exact k a _ (.inl rfl) e
 | ext φ=>obtain⟨p,⟨o,e⟩,st⟩:=x;exact⟨st _ _ p fun o q=>k _ _ (.inl rfl) q,⟨o,k _ _ (.inl rfl) e⟩,st⟩
theorem HOk.lt (x:HOk P w H h) (e:H a=some o):a<h.objs.size:=(x a o e).lt
theorem HOk.fresh (x:HOk P w H h) (e:h.objs.size<=a):H a=none:=by
 cases q:H a with
 | none=>rfl
 | some u=>exact absurd (Nat.lt_of_lt_of_le (x.lt q) e) (Nat.lt_irrefl _)
theorem HOk.kept (x:HOk P w H h) (k:∀ b u,h.get? b=some u->h'.get? b=some u):HOk P w H h':=fun a o e=>
 (x a o e).stay (fun b u _ q=>k b u q) (fun _ q=>q) fun _ _ q=>q
theorem HOk.laid (x:HOk P w H h) (k:∀ b u,h.get? b=some u->h'.get? b=some u) (hp:h.objs.size<=a) (new:ObjOk P w (upd H a o) h' a o):HOk P w (upd H a o) h':=fun b u e=>by
 have hn:=x.fresh hp
 by_cases hb:b=a
 ·subst hb;rw[upd_same]at e;cases e;exact new
 ·rw[upd_ne hb]at e
  exact (x b u e).stay (fun c v _ q=>k c v q) (fun c q=>by rw[upd_ne (ne_of_none q hn)];exact q) fun c xs q=>by rw[upd_ne (ne_of_none q hn)];exact q
end
def Rd (H:Hp) (a:Addr) (u:HO):Prop:=H a=some u\/∃ o,H a=some (.frz o u)
theorem Rd.ok {P:Program}{w:World}{H:Hp}{h:Heap}{a:Addr}{u:HO} (r:Rd H a u) (x:HOk P w H h):ObjOk P w H h a u:=by
 rcases r with r | ⟨o,r⟩
 ·exact x a u r
 ·obtain⟨_,q⟩:=x a _ r
  exact q
def Mut:Option HO->Prop
 | some (.lst _)=>True
 | some (.dK _)=>True
 | some (.dT _)=>True
 | some (.set _ _)=>True
 | some (.ins _ _ _)=>True
 | some (.ext _)=>True
 | _=>False
section
variable {P:Program}{w:World}{H:Hp}{h h':Heap}{x e:Addr}{o':HO}
theorem HOk.write (ok:HOk P w H h) (mu:Mut (H x)) (he:e=x\/H e=some (.own x)) (k:∀ b u,b≠e->h.get? b=some u->h'.get? b=some u) (heo:∃ u,h'.get? e=some u)
  (new:ObjOk P w (upd H x o') h' x o'):HOk P w (upd H x o') h':=fun b u q=>by
 have nown:∀ c y,H c=some (.own y)->c≠x:=fun c y r z=>by subst z;rw[r]at mu;exact mu
 have ntup:∀ c xs,H c=some (.tup xs)->c≠x:=fun c xs r z=>by subst z;rw[r]at mu;exact mu
 by_cases hb:b=x
 ·subst hb;rw[upd_same]at q;cases q;exact new
 ·rw[upd_ne hb]at q
  by_cases hbe:b=e
  ·have q':H b=some (.own x):=by
    rcases he with z | z
    ·exact absurd (hbe.trans z) hb
    ·rw[hbe];exact z
   rw[q]at q';cases q'
   obtain⟨v,hv⟩:=heo
   exact⟨v,by rw[hbe];exact hv⟩
  ·refine (ok b u q).stay (fun c v hc r=>k c v ?_ r) (fun c r=>by rw[upd_ne (nown c b r)];exact r) fun c xs r=>by rw[upd_ne (ntup c xs r)];exact r
   rcases hc with rfl | hc
   ·exact hbe
   ·rintro rfl
    rcases he with z | z
    ·exact nown c b hc z
    ·rw[hc]at z;cases z;exact hb rfl
end
structure Un (fs ex:List Addr) (H H':Hp) (h h':Heap):Prop where
 keep:∀ b o,h.get? b=some o->H b=none->b ∉ fs->b ∉ ex->h'.get? b=some o
 slot:∀ b o,h.get? b=some o->H b=none->b∈fs->b ∉ ex->∃ sl,h'.get? b=some { o with slots:=sl }
 free:∀ b o,h.get? b=some o->H b=none->b ∉ ex->H' b=none
 there:∀ b o,h.get? b=some o->b ∉ ex->∃ o',h'.get? b=some o'
 tups:∀ b xs,H b=some (.tup xs)->H' b=some (.tup xs)
 frzs:∀ b o u,H b=some (.frz o u)->H' b=some (.frz o u)
 tbls:∀ b ps,H b=some (.tbl ps)->∃ more,H' b=some (.tbl (ps++more))
section
variable {fs fs' ex ex':List Addr}{H H1 H2:Hp}{h h1 h2 h':Heap}{a x e:Addr}{o:HO}
theorem Un.any (u:Un fs ex H H1 h h1) {b:Addr}{ob:Obj} (q:h.get? b=some ob) (n:H b=none) (hx:b ∉ ex):∃ sl,h1.get? b=some { ob with slots:=sl }:=by
 by_cases hb:b∈fs
 ·exact u.slot b ob q n hb hx
 ·exact⟨ob.slots,u.keep b ob q n hb hx⟩
theorem Un.kept (k:∀ b u,h.get? b=some u->h'.get? b=some u):Un fs ex H H h h':=
 ⟨fun b ob q _ _ _=>k b ob q,fun b ob q _ _ _=>⟨ob.slots,k b ob q⟩,fun _ _ _ n _=>n,fun b ob q _=>⟨ob,k b ob q⟩,fun _ _ q=>q,fun _ _ _ q=>q,fun _ ps q=>⟨#[],by rw[q];simp⟩⟩
theorem Un.refl:Un fs ex H H h h:=Un.kept fun _ _ q=>q
theorem Un.laid (k:∀ b u,h.get? b=some u->h'.get? b=some u) (hp:h.objs.size<=a) (hn:H a=none):Un fs ex H (upd H a o) h h' where
 keep:=fun b u q _ _ _=>k b u q
 slot:=fun b u q _ _ _=>⟨u.slots,k b u q⟩
 free:=fun b u q n _=>by rw[upd_ne (Nat.ne_of_lt (Nat.lt_of_lt_of_le (Heap.lt_size q) hp))];exact n
 there:=fun b u q _=>⟨u,k b u q⟩
 tups:=fun b xs q=>by rw[upd_ne (ne_of_none q hn)];exact q
 frzs:=fun b u xs q=>by rw[upd_ne (ne_of_none q hn)];exact q
 tbls:=fun b ps q=>⟨#[],by rw[upd_ne (ne_of_none q hn),q];simp⟩
theorem Un.write (mu:Mut (H x)) (he:e=x\/H e=some (.own x)) (k:∀ b u,b≠e->h.get? b=some u->h'.get? b=some u) (heo:∃ u,h'.get? e=some u):Un fs ex H (upd H x o) h h':=by
 have hx:∀ b,H b=none->b≠x:=fun b n z=>by subst z;rw[n]at mu;exact mu
 have hb:∀ b,H b=none->b≠e:=fun b n z=>by
  subst z
  rcases he with r | r
  ·exact hx b n r
  ·rw[n]at r;cases r
 have hm:∀ b u,H b=some u->¬Mut (some u)->b≠x:=fun b u q nm z=>by subst z;rw[q]at mu;exact nm mu
 refine⟨fun b u q n _ _=>k b u (hb b n) q,fun b u q n _ _=>⟨u.slots,k b u (hb b n) q⟩,fun b u q n _=>by rw[upd_ne (hx b n)];exact n,fun b u q _=>?_,
  fun b xs q=>by rw[upd_ne (hm b _ q fun z=>z)];exact q,fun b u xs q=>by rw[upd_ne (hm b _ q fun z=>z)];exact q,fun b ps q=>⟨#[],by rw[upd_ne (hm b _ q fun z=>z),q];simp⟩⟩
 by_cases hbe:b=e
 ·subst hbe;exact heo
 ·exact⟨u,k b u hbe q⟩
end
def trk (h:Heap) (H:Hp):List Addr:=(List.range h.objs.size).filter fun a=>(H a).isSome
def hidT (h:Heap) (H:Hp):Heap:=PySem.W.hideAll h (trk h H)
theorem hidT_size (h:Heap) (H:Hp):(hidT h H).objs.size=h.objs.size:=PySem.W.hideAll_size _ _
theorem hidT_get {h:Heap}{H:Hp}{b:Addr}{o:Obj} (e:h.get? b=some o) (n:H b=none):(hidT h H).get? b=some o:=
 PySem.W.hideAll_get _ e fun hm=>by
  have q:(H b).isSome=true:=(List.mem_filter.mp hm).2
  rw[n]at q;simp at q
theorem of_hidT {h:Heap}{H:Hp}{b:Addr}{o:Obj} (e:(hidT h H).get? b=some o):h.get? b=some o/\H b=none:=by
 have e':h.get? b=some o:=PySem.W.of_hideAll (trk h H) e
 refine⟨e',?_⟩
 cases q:H b with
 | none=>rfl
 | some x=>
  have hm:b∈trk h H:=List.mem_filter.mpr ⟨List.mem_range.mpr (Heap.lt_size e'),by simp [q]⟩
  have z:(hidT h H).get? b=none:=PySem.W.hideAll_none (trk h H) hm
  rw[z]at e;cases e
def allNews (g h:Heap) (L:Addr):List (Addr×Obj):=(List.range h.objs.size).filterMap fun a=>if a=L\/(g.get? a).isSome=true then none else (h.get? a).map fun o=>(a,o)
def rest (g h:Heap) (L d:Addr):List (Addr×Obj):=(allNews g h L).filter fun p=>decide (p.1≠d)
end L2
namespace L2
open PySem PySem.Spec PyProof.Rows
structure Mod (K:PySem.W.Frag) (mg:Str->Option Value) (base:Heap):Prop where
 kin:K.In base
 glob:base.Ns mainGlobals mg
 blt:∃ mb,base.Ns builtinsNs mb/\∀ x:Str,x≠"__name__"->mb x=bootBuiltins x
 nolimit:base.NoLimit
structure Cx where
 prog:Program
 w:World
 K:PySem.W.Frag
 mg:Str->Option Value
 base:Heap
 A:Around
 N:List Str
 s₀:Shared
 H₀:Hp
 env:Env
 outer:List Env
 stack:List Env
 ex:List Addr
 fn:Str->Bool
 calm:Bool
 pn:List (Addr×Obj)
 xe:Value->Shared->Prop
def frs (l:List Env):List Addr:=l.filterMap (·.frame)
abbrev Cx.fs (X:Cx):List Addr:=frs X.outer
def Vis (sc:Scope) (x:Str):Prop:=sc.names.lookup x=some .local\/sc.names.lookup x=some .cell\/sc.names.lookup x=some .free
def Loc (sc:Scope) (x:Str):Prop:=sc.names.lookup x=some .local\/sc.names.lookup x=some .cell
def Look (env:Env) (h:Heap) (m:Str->Option Value) (x:Str) (u:Value):Prop:=
 (env.kindOf x=some .local/\m x=some u)\/((env.kindOf x=some .cell\/env.kindOf x=some .free)/\∃ c,env.cells.lookup x=some c/\h.IsCell c (some u))
structure Cx.Ok (X:Cx):Prop where
 mod:Mod X.K X.mg X.base
 kind:X.env.scope.kind=.function
 glob:X.env.globals=mainGlobals
 blt:X.env.builtins=builtinsNs
 above:X.s₀.heap.objs.size<=X.env.locals
 inj:∀ x y c,X.env.cells.lookup x=some c->X.env.cells.lookup y=some c->x=y
 has:∀ x,(X.env.kindOf x=some .cell\/X.env.kindOf x=some .free)->∃ c,X.env.cells.lookup x=some c
 cab:∀ x c,X.fn x=true->X.env.cells.lookup x=some c->X.s₀.heap.objs.size<=c
 hd:X.calm=true->X.A.handled=none
 frames:X.A.frames=some X.stack
 stk:X.stack=X.outer\/(X.stack=X.env::X.outer/\X.env.frame=some X.env.locals)
 exf:∀ b∈X.ex,b≠X.env.locals/\∀ x c,X.env.cells.lookup x=some c->c≠b
 bs:∀ b o,X.base.get? b=some o->X.s₀.heap.get? b=some o/\X.H₀ b=none
 bsz:X.base.objs.size<=X.s₀.heap.objs.size
 noex:∀ b o,X.base.get? b=some o->b ∉ X.ex
 exfs:∀ b∈X.ex,b ∉ X.fs
 funs:X.s₀.heap.FunFrames X.base X.outer
 frf:∀ b∈X.fs,X.H₀ b=none
structure Inv (X:Cx) (pins:List (Addr×Obj)) (σ:List (Option V)) (H:Hp) (s:Shared):Prop where
 ok:X.Ok
 os:s.os=X.s₀.os
 bare:AllBare s.gens
 base:Un X.fs X.ex X.H₀ H X.s₀.heap s.heap
 loc:∃ m,s.heap.Ns X.env.locals m/\∀ (i:Nat) (x:Str) (v:V),X.N[i]?=some x->σ[i]?=some (some v)->Vis X.env.scope x->∃ u,RelV v u/\Look X.env s.heap m x u
 cell:∀ x c,X.env.cells.lookup x=some c->∃ v,s.heap.IsCell c v
 free:H X.env.locals=none
 freeC:∀ x c,X.env.cells.lookup x=some c->H c=none
 pin:∀ p∈X.pn++pins,s.heap.get? p.1=some p.2/\H p.1=none/\p.1≠X.env.locals/\p.1 ∉ X.fs/\∀ v,p.2.data≠.cell v
 hok:HOk X.prog X.w H s.heap
 len:σ.length=X.N.length
section
variable {X:Cx}{pins:List (Addr×Obj)} {σ:List (Option V)} {H H':Hp}{s:Shared}{h':Heap}
theorem Cx.Ok.nofr (ok:X.Ok) {b:Addr}{o:Obj} (e:X.base.get? b=some o):b ∉ X.fs:=fun hb=>by
 have:=(ok.funs.mem hb).1
 rw[e]at this;cases this
theorem Inv.bs (I:Inv X pins σ H s):∀ b o,X.base.get? b=some o->s.heap.get? b=some o/\H b=none:=fun b o e=>
 ⟨I.base.keep b o (I.ok.bs b o e).1 (I.ok.bs b o e).2 (I.ok.nofr e) (I.ok.noex b o e),I.base.free b o (I.ok.bs b o e).1 (I.ok.bs b o e).2 (I.ok.noex b o e)⟩
theorem Inv.bk (I:Inv X pins σ H s):∀ b o,X.base.get? b=some o->s.heap.get? b=some o:=fun b o e=>(I.bs b o e).1
theorem Inv.mod (I:Inv X pins σ H s):Mod X.K X.mg X.base:=I.ok.mod
theorem Inv.kIn (I:Inv X pins σ H s):X.K.In s.heap:=I.ok.mod.kin.keeps I.bk
theorem Inv.fr (I:Inv X pins σ H s):∃ m,Fr X.base X.env.locals s.heap m:=
 let ⟨m,hn,_⟩:=I.loc
 ⟨m,hn,I.bk,Nat.le_trans I.ok.bsz I.ok.above⟩
theorem Inv.lt (I:Inv X pins σ H s):X.env.locals<s.heap.objs.size:=let ⟨_,hn,_⟩:=I.loc;hn.lt
theorem Inv.sz (I:Inv X pins σ H s):X.s₀.heap.objs.size<=s.heap.objs.size:=Nat.le_trans I.ok.above (Nat.le_of_lt I.lt)
theorem Inv.nofs (I:Inv X pins σ H s) {a:Addr} (h:s.heap.objs.size<=a):a ∉ X.fs:=fun hb=>by
 obtain⟨_,o,ho,_⟩:=I.ok.funs.mem hb
 exact absurd (Nat.lt_of_lt_of_le (Heap.lt_size ho) (Nat.le_trans I.sz h)) (Nat.lt_irrefl _)
theorem Inv.cne (I:Inv X pins σ H s):∀ x c,X.env.cells.lookup x=some c->c≠X.env.locals:=fun x c e z=>by
 obtain⟨v,o,ho,hd⟩:=I.cell x c e
 obtain⟨m,⟨o',es,ep,ho',hd',_⟩,_⟩:=I.loc
 rw[z,ho']at ho;cases ho;rw[hd']at hd;cases hd
theorem Inv.funs (I:Inv X pins σ H s):s.heap.FunFrames X.base X.outer:=by
 have all:∀ (l:List Env),(∀ b∈frs l,b∈X.fs)->X.s₀.heap.FunFrames X.base l->s.heap.FunFrames X.base l:=by
  intro l
  induction l with
  | nil=>intro _ _;trivial
  | cons env r ih=>
   intro hs hl
   obtain⟨hk,⟨L,o,hf,hn,ho,hd⟩,hr⟩:=hl
   have hL:L∈X.fs:=hs L (by unfold frs;rw[List.filterMap_cons,hf];exact List.mem_cons_self)
   obtain⟨sl,e⟩:=I.base.slot L o ho (I.ok.frf L hL) hL fun z=>I.ok.exfs L z hL
   exact⟨hk,⟨L,_,hf,hn,e,hd⟩,ih (fun b hb=>hs b (by unfold frs;rw[List.filterMap_cons,hf];exact List.mem_cons_of_mem _ hb)) hr⟩
 exact all X.outer (fun _ hb=>hb) I.ok.funs
theorem Inv.stack (I:Inv X pins σ H s):s.heap.FunFrames X.base X.stack:=by
 rcases I.ok.stk with e | ⟨e,hf⟩
 ·rw[e];exact I.funs
 ·rw[e]
  obtain⟨m,hn,_⟩:=I.loc
  refine .cons (by rw[I.ok.kind];decide) hf hn ?_ I.funs
  exact Heap.get?_none_of_le (Nat.le_trans I.ok.bsz I.ok.above)
theorem Inv.stkSub (I:Inv X pins σ H s):∀ b∈frs X.stack,b∈X.env.locals::X.fs:=fun b hb=>by
 rcases I.ok.stk with e | ⟨e,hf⟩
 ·rw[e]at hb;exact List.mem_cons_of_mem _ hb
 ·rw[e]at hb
  unfold frs at hb
  rw[List.filterMap_cons,hf]at hb
  exact hb
theorem Inv.stkFree (I:Inv X pins σ H s):∀ b∈frs X.stack,H b=none:=fun b hb=>by
 rcases List.mem_cons.mp (I.stkSub b hb) with e | hb
 ·rw[e];exact I.free
 ·obtain⟨_,o,ho,_⟩:=I.ok.funs.mem hb
  exact I.base.free b o ho (I.ok.frf b hb) fun z=>I.ok.exfs b z hb
theorem Inv.step {g':Array GenState}{t':Nat}{d':Drawn}{ch:List Addr} (I:Inv X pins σ H s)
  (hch:∀ b∈ch,(b∈X.ex\/X.s₀.heap.objs.size<=b)/\b≠X.env.locals/\(∀ x c,X.env.cells.lookup x=some c->c≠b)/\∀ p∈X.pn++pins,p.1≠b)
  (keep:∀ b o,b≠X.env.locals->b ∉ X.fs->b ∉ ch->s.heap.get? b=some o->H b=none->h'.get? b=some o)
  (slot:∀ b o,b≠X.env.locals->b∈X.fs->b ∉ ch->s.heap.get? b=some o->H b=none->∃ sl,h'.get? b=some { o with slots:=sl }) (free:∀ b o,b ∉ ch->s.heap.get? b=some o->H b=none->H' b=none)
  (there:∀ b o,b ∉ ch->s.heap.get? b=some o->∃ o',h'.get? b=some o')
  (tups:∀ b xs,H b=some (.tup xs)->H' b=some (.tup xs)) (frzs:∀ b o u,H b=some (.frz o u)->H' b=some (.frz o u)) (tbls:∀ b ps,H b=some (.tbl ps)->∃ more,H' b=some (.tbl (ps++more)))
  (ns:∀ m,s.heap.Ns X.env.locals m->h'.Ns X.env.locals m) (hok:HOk X.prog X.w H' h') (hg:AllBare g') :
  Inv X pins σ H' { s with heap:=h',gens:=g',drawn:=d',toks:=t' }:=by
 have neL:∀ b o,X.s₀.heap.get? b=some o->b≠X.env.locals:=fun b o e=>Nat.ne_of_lt (Nat.lt_of_lt_of_le (Heap.lt_size e) I.ok.above)
 have neC:∀ b o,X.s₀.heap.get? b=some o->b ∉ X.ex->b ∉ ch:=fun b o e hx hb=>by
  rcases (hch b hb).1 with z | z
  ·exact hx z
  ·exact absurd (Nat.lt_of_lt_of_le (Heap.lt_size e) z) (Nat.lt_irrefl _)
 have cellK:∀ x c,X.env.cells.lookup x=some c->∀ v,s.heap.IsCell c v->h'.IsCell c v:=fun x c e v ⟨o,ho,hd⟩=>by
  have nch:c ∉ ch:=fun z=>(hch c z).2.2.1 x c e rfl
  by_cases hc:c∈X.fs
  ·obtain⟨sl,q⟩:=slot c o (I.cne x c e) hc nch ho (I.freeC x c e)
   exact⟨_,q,hd⟩
  ·exact⟨o,keep c o (I.cne x c e) hc nch ho (I.freeC x c e),hd⟩
 refine⟨I.ok,I.os,hg,⟨fun b o e n hb hx=>?_,fun b o e n hb hx=>?_,fun b o e n hx=>?_,fun b o e hx=>?_,fun b xs e=>tups b xs (I.base.tups b xs e),fun b o xs e=>frzs b o xs (I.base.frzs b o xs e),fun b ps e=>?_⟩,?_,fun x c e=>?_,?_,fun x c e=>?_,fun p hp=>?_,hok,I.len⟩
 ·exact keep b o (neL b o e) hb (neC b o e hx) (I.base.keep b o e n hb hx) (I.base.free b o e n hx)
 ·obtain⟨sl,e1⟩:=I.base.slot b o e n hb hx
  obtain⟨sl',e2⟩:=slot b _ (neL b o e) hb (neC b o e hx) e1 (I.base.free b o e n hx)
  exact⟨sl',e2⟩
 ·obtain⟨o',e1⟩:=I.base.there b o e hx
  exact free b o' (neC b o e hx) e1 (I.base.free b o e n hx)
 ·obtain⟨o',e1⟩:=I.base.there b o e hx
  exact there b o' (neC b o e hx) e1
 ·obtain⟨m1,e1⟩:=I.base.tbls b ps e
  obtain⟨m2,e2⟩:=tbls b _ e1
  exact⟨m1++m2,by rw[e2,Array.append_assoc]⟩
 ·obtain⟨m,hn,hl⟩:=I.loc
  refine⟨m,ns m hn,fun i x v e1 e2 e3=>?_⟩
  obtain⟨u,r,l⟩:=hl i x v e1 e2 e3
  refine⟨u,r,?_⟩
  rcases l with l | ⟨k,c,e,z⟩
  ·exact .inl l
  ·exact .inr ⟨k,c,e,cellK x c e _ z⟩
 ·obtain⟨v,z⟩:=I.cell x c e
  exact⟨v,cellK x c e v z⟩
 ·obtain⟨m,⟨o,_,_,ho,_⟩,_⟩:=I.loc
  exact free _ o (fun z=>(hch _ z).2.1 rfl) ho I.free
 ·obtain⟨v,o,ho,hd⟩:=I.cell x c e
  exact free c o (fun z=>(hch c z).2.2.1 x c e rfl) ho (I.freeC x c e)
 ·obtain⟨e,n,ne,nf,d⟩:=I.pin p hp
  have nch:p.1 ∉ ch:=fun z=>(hch p.1 z).2.2.2 p hp rfl
  exact⟨keep p.1 p.2 ne nf nch e n,free p.1 p.2 nch e n,ne,nf,d⟩
theorem Inv.un {t':Nat} (I:Inv X pins σ H s) (u:Un X.fs [] H H' s.heap h') (hok:HOk X.prog X.w H' h'):Inv X pins σ H' { s with heap:=h',toks:=t' }:=by
 obtain⟨m,⟨o,es,ep,ho,r⟩,_⟩:=id I.loc
 obtain⟨sl,hL⟩:=u.any ho I.free (by simp)
 exact I.step (g':=s.gens) (d':=s.drawn) (ch:=[]) (fun _ z=>nomatch z) (fun b o _ hb _ e n=>u.keep b o e n hb (by simp)) (fun b o _ hb _ e n=>u.slot b o e n hb (by simp)) (fun b o _ e n=>u.free b o e n (by simp)) (fun b o _ e=>u.there b o e (by simp)) u.tups u.frzs u.tbls (fun m' hm=>by
  obtain⟨o',es',ep',ho',r'⟩:=hm
  rw[ho]at ho';cases ho'
  exact⟨_,es',ep',hL,r'⟩) hok I.bare
theorem Inv.call {g':Array GenState}{t':Nat}{d':Drawn}{ch:List Addr} (I:Inv X pins σ H s) (u:Un (frs X.stack) ch H H' s.heap h') (hok:HOk X.prog X.w H' h') (hg:AllBare g')
  (hch:∀ b∈ch,(b∈X.ex\/X.s₀.heap.objs.size<=b)/\b≠X.env.locals/\(∀ x c,X.env.cells.lookup x=some c->c≠b)/\∀ p∈X.pn++pins,p.1≠b) :
  Inv X pins σ H' { s with heap:=h',gens:=g',drawn:=d',toks:=t' }:=by
 obtain⟨m,⟨o,es,ep,ho,r⟩,_⟩:=id I.loc
 obtain⟨sl,hL⟩:=u.any ho I.free fun z=>(hch _ z).2.1 rfl
 exact I.step (ch:=ch) hch (fun b o hL hb hc e n=>u.keep b o e n (fun z=>(List.mem_cons.mp (I.stkSub b z)).elim hL hb) hc) (fun b o _ _ hc e n=>u.any e n hc) (fun b o hc e n=>u.free b o e n hc) (fun b o hc e=>u.there b o e hc) u.tups u.frzs u.tbls (fun m' hm=>by
  obtain⟨o',es',ep',ho',r'⟩:=hm
  rw[ho]at ho';cases ho'
  exact⟨_,es',ep',hL,r'⟩) hok hg
theorem Inv.turned {t':Nat}{it:Addr} (I:Inv X pins σ H s) (k:∀ b o,b≠it->s.heap.get? b=some o->h'.get? b=some o) (hn:H it=none) (hL:it≠X.env.locals)
  (h1:it∈X.ex\/X.s₀.heap.objs.size<=it) (h2:∀ x c,X.env.cells.lookup x=some c->c≠it) (h3:∀ p∈X.pn++pins,p.1≠it):Inv X pins σ H { s with heap:=h',toks:=t' }:=by
 have nit:∀ b u,H b=some u->b≠it:=fun b u e z=>by rw[z,hn]at e;cases e
 refine I.step (g':=s.gens) (d':=s.drawn) (ch:=[it]) (fun b hb=>?_) (fun b o _ _ hc e _=>k b o (fun z=>hc (by simp [z])) e) (fun b o _ _ hc e _=>⟨o.slots,k b o (fun z=>hc (by simp [z])) e⟩) (fun _ _ _ _ n=>n)
  (fun b o hc e=>⟨o,k b o (fun z=>hc (by simp [z])) e⟩) (fun _ _ e=>e) (fun _ _ _ e=>e) (fun b ps e=>⟨#[],by rw[e];simp⟩) (fun m hm=>?_) (fun b u e=>?_) I.bare
 ·have e:b=it:=by simpa using hb
  subst e
  exact⟨h1,hL,h2,h3⟩
 ·obtain⟨o,es,ep,ho,r⟩:=hm
  exact⟨o,es,ep,k _ o (Ne.symm hL) ho,r⟩
 ·refine (I.hok b u e).stay (fun c v hc q=>k c v ?_ q) (fun _ q=>q) fun _ _ q=>q
  rcases hc with z | z
  ·rw[z];exact nit b u e
  ·exact nit c _ z
theorem Inv.tok (I:Inv X pins σ H s) (t:Nat):Inv X pins σ H { s with toks:=t }:=I.un (h':=s.heap) (t':=t) Un.refl I.hok
theorem Inv.kept {t':Nat} (I:Inv X pins σ H s) (k:∀ b u,s.heap.get? b=some u->h'.get? b=some u):Inv X pins σ H { s with heap:=h',toks:=t' }:=I.un (Un.kept k) (I.hok.kept k)
theorem Inv.laid {a:Addr}{o:HO}{t':Nat} (I:Inv X pins σ H s) (k:∀ b u,s.heap.get? b=some u->h'.get? b=some u) (hp:s.heap.objs.size<=a) (new:ObjOk X.prog X.w (upd H a o) h' a o) :
  Inv X pins σ (upd H a o) { s with heap:=h',toks:=t' }:=I.un (Un.laid k hp (I.hok.fresh hp)) (I.hok.laid k hp new)
theorem Inv.write {x e:Addr}{o:HO}{t':Nat} (I:Inv X pins σ H s) (mu:Mut (H x)) (he:e=x\/H e=some (.own x)) (k:∀ b u,b≠e->s.heap.get? b=some u->h'.get? b=some u) (heo:∃ u,h'.get? e=some u)
  (new:ObjOk X.prog X.w (upd H x o) h' x o):Inv X pins σ (upd H x o) { s with heap:=h',toks:=t' }:=I.un (Un.write mu he k heo) (I.hok.write mu he k heo new)
theorem Inv.weak {σ':List (Option V)} (I:Inv X pins σ H s) (hl:σ'.length=σ.length) (w:∀ (i:Nat) v,σ'[i]?=some (some v)->σ[i]?=some (some v)):Inv X pins σ' H s:=
 ⟨I.ok,I.os,I.bare,I.base,let ⟨m,hn,hl'⟩:=I.loc;⟨m,hn,fun i x v e1 e2 e3=>hl' i x v e1 (w i v e2) e3⟩,I.cell,I.free,I.freeC,I.pin,I.hok,hl.trans I.len⟩
theorem Inv.pins_of {pins':List (Addr×Obj)} (I:Inv X pins σ H s) (h:∀ p∈pins',s.heap.get? p.1=some p.2/\H p.1=none/\p.1≠X.env.locals/\p.1 ∉ X.fs/\∀ v,p.2.data≠.cell v):Inv X pins' σ H s:=
 ⟨I.ok,I.os,I.bare,I.base,I.loc,I.cell,I.free,I.freeC,fun p hp=>(List.mem_append.mp hp).elim (fun z=>I.pin p (List.mem_append_left _ z)) (h p),I.hok,I.len⟩
theorem nodup_ix {N:List Str} (hN:N.Nodup) {i j:Nat}{x:Str} (a:N[i]?=some x) (b:N[j]?=some x):i=j:=by
 obtain⟨h1,e1⟩:=List.getElem?_eq_some_iff.mp a
 obtain⟨h2,e2⟩:=List.getElem?_eq_some_iff.mp b
 exact (List.getElem_inj hN).mp (e1.trans e2.symm)
theorem store_ok2 {M:Model}{A:Around}{E:Value->Shared->Prop}{i:Nat}{x:Str}{v:V}{u:Value}{Q:Unit->Shared->Prop} (I:Inv X pins σ H s) (hN:X.N.Nodup) (hi:X.N[i]?=some x) (hx:Loc X.env.scope x) (r:RelV v u)
  (h:∀ s',Inv X pins (σ.set i (some v)) H s'->(∃ a,Heap.SameBut a s.heap s'.heap/\(a=X.env.locals\/X.env.cells.lookup x=some a))->Q () s') (hf:X.fn x=true\/X.env.scope.names.lookup x=some .local:=by first | exact .inl rfl | exact .inr rfl | assumption):wpAny M A (storeName X.env x u) Q E s:=by
 obtain⟨m,hn,hl⟩:=id I.loc
 have hcls:(X.env.scope.kind == .class || (X.env.scope.kind == .module && X.env.locals != X.env.globals))=false:=by rw[I.ok.kind];rfl
 have hiσ:i < σ.length:=by rw[I.len];exact (List.getElem?_eq_some_iff.mp hi).1
 have cne:=I.cne
 have tracked:∀ {a:Addr}{h':Heap},(∃ o,s.heap.get? a=some o/\H a=none)->Heap.SameBut a s.heap h'->HOk X.prog X.w H h':=fun {a h'} ha hs b ob e=>by
  obtain⟨_,_,hfree⟩:=ha
  refine (I.hok b ob e).stay (fun c w' hc q=>(hs.2 c ?_).trans q) (fun _ q=>q) fun _ _ q=>q
  rintro rfl
  rcases hc with rfl | hc
  ·rw[hfree]at e;cases e
  ·rw[hfree]at hc;cases hc
 rcases hx with hk | hk
 ·refine wpAny_storeName_local hk hn (fun h' hn' hs=>?_) hcls
  obtain⟨oL,_,_,hoL,_⟩:=id hn
  refine h _ ⟨I.ok,I.os,I.bare,⟨fun b o e n hb hx=>?_,fun b o e n hb hx=>?_,I.base.free,fun b o e hx=>?_,I.base.tups,I.base.frzs,I.base.tbls⟩,⟨_,hn',fun j y v' e1 e2 e3=>?_⟩,fun y c e=>?_,I.free,I.freeC,fun p hp=>?_,tracked ⟨oL,hoL,I.free⟩ hs,by simpa using I.len⟩ ⟨_,hs,.inl rfl⟩
  ·exact (hs.2 b (Nat.ne_of_lt (Nat.lt_of_lt_of_le (Heap.lt_size e) I.ok.above))).trans (I.base.keep b o e n hb hx)
  ·obtain⟨sl,e1⟩:=I.base.slot b o e n hb hx
   exact⟨sl,(hs.2 b (Nat.ne_of_lt (Nat.lt_of_lt_of_le (Heap.lt_size e) I.ok.above))).trans e1⟩
  ·obtain⟨o',e1⟩:=I.base.there b o e hx
   exact⟨o',(hs.2 b (Nat.ne_of_lt (Nat.lt_of_lt_of_le (Heap.lt_size e) I.ok.above))).trans e1⟩
  ·by_cases hj:j=i
   ·subst hj
    rw[hi]at e1;cases e1
    rw[List.getElem?_set_self hiσ]at e2
    cases e2
    exact⟨u,r,.inl ⟨hk,by simp⟩⟩
   ·rw[List.getElem?_set_ne (Ne.symm hj)]at e2
    obtain⟨u',r',q⟩:=hl j y v' e1 e2 e3
    refine⟨u',r',?_⟩
    rcases q with ⟨k,e⟩ | ⟨k,c,e,z⟩
    ·refine .inl ⟨k,?_⟩
     have:y≠x:=fun e=>hj (nodup_ix hN e1 (e ▸ hi))
     simp [this,e]
    ·exact .inr ⟨k,c,e,z.sameBut hs (cne y c e)⟩
  ·obtain⟨w',z⟩:=I.cell y c e
   exact⟨w',z.sameBut hs (cne y c e)⟩
  ·obtain⟨e,n,ne,nf,d⟩:=I.pin p hp
   exact⟨(hs.2 p.1 ne).trans e,n,ne,nf,d⟩
 ·have hfn:X.fn x=true:=by
   rcases hf with z | z
   ·exact z
   ·rw[z]at hk;cases hk
  obtain⟨c,hc⟩:=I.ok.has x (.inl hk)
  obtain⟨w',z⟩:=I.cell x c hc
  refine wpAny_storeName_cell I.ok.kind hk hc z (fun h' hc' hs=>?_)
  obtain⟨oc,hoc,hocd⟩:=id z
  refine h { s with heap:=h' } ⟨I.ok,I.os,I.bare,⟨fun b o e n hb hx=>?_,fun b o e n hb hx=>?_,I.base.free,fun b o e hx=>?_,I.base.tups,I.base.frzs,I.base.tbls⟩,⟨m,hn.sameBut hs (Ne.symm (cne x c hc)),fun j y v' e1 e2 e3=>?_⟩,fun y c' e=>?_,I.free,I.freeC,fun p hp=>?_,tracked ⟨oc,hoc,I.freeC x c hc⟩ hs,by simpa using I.len⟩ ⟨c,hs,.inr hc⟩
  ·exact (hs.2 b (Nat.ne_of_lt (Nat.lt_of_lt_of_le (Heap.lt_size e) (I.ok.cab x c hfn hc)))).trans (I.base.keep b o e n hb hx)
  ·obtain⟨sl,e1⟩:=I.base.slot b o e n hb hx
   exact⟨sl,(hs.2 b (Nat.ne_of_lt (Nat.lt_of_lt_of_le (Heap.lt_size e) (I.ok.cab x c hfn hc)))).trans e1⟩
  ·obtain⟨o',e1⟩:=I.base.there b o e hx
   exact⟨o',(hs.2 b (Nat.ne_of_lt (Nat.lt_of_lt_of_le (Heap.lt_size e) (I.ok.cab x c hfn hc)))).trans e1⟩
  ·by_cases hj:j=i
   ·subst hj
    rw[hi]at e1;cases e1
    rw[List.getElem?_set_self hiσ]at e2
    cases e2
    exact⟨u,r,.inr ⟨.inl hk,c,hc,hc'⟩⟩
   ·rw[List.getElem?_set_ne (Ne.symm hj)]at e2
    obtain⟨u',r',q⟩:=hl j y v' e1 e2 e3
    refine⟨u',r',?_⟩
    rcases q with q | ⟨k,c',e,z'⟩
    ·exact .inl q
    ·refine .inr ⟨k,c',e,z'.sameBut hs ?_⟩
     rintro rfl
     exact hj (nodup_ix hN e1 (I.ok.inj _ _ _ e hc ▸ hi))
  ·by_cases hcc:c'=c
   ·subst hcc;exact⟨_,hc'⟩
   ·obtain⟨w2,z2⟩:=I.cell y c' e
    exact⟨w2,z2.sameBut hs hcc⟩
  ·obtain⟨e,n,ne,nf,d⟩:=I.pin p hp
   refine⟨(hs.2 p.1 ?_).trans e,n,ne,nf,d⟩
   intro q
   rw[q,hoc]at e
   have q':oc=p.2:=Option.some.inj e
   exact d w' (by rw[<- q'];exact hocd)
theorem store_ok {M:Model}{A:Around}{E:Value->Shared->Prop}{i:Nat}{x:Str}{v:V}{u:Value}{Q:Unit->Shared->Prop} (I:Inv X pins σ H s) (hN:X.N.Nodup) (hi:X.N[i]?=some x) (hx:Loc X.env.scope x) (r:RelV v u)
  (h:∀ s',Inv X pins (σ.set i (some v)) H s'->Q () s') (hf:X.fn x=true\/X.env.scope.names.lookup x=some .local:=by first | exact .inl rfl | exact .inr rfl | assumption):wpAny M A (storeName X.env x u) Q E s:=
 store_ok2 I hN hi hx r (fun s' I' _=>h s' I') hf
theorem Inv.call' {s':Shared}{ch:List Addr} (I:Inv X pins σ H s) (ho:s'.os=s.os) (u:Un (frs X.stack) ch H H' s.heap s'.heap) (hok:HOk X.prog X.w H' s'.heap) (hg:AllBare s'.gens)
  (hch:∀ b∈ch,(b∈X.ex\/X.s₀.heap.objs.size<=b)/\b≠X.env.locals/\(∀ x c,X.env.cells.lookup x=some c->c≠b)/\∀ p∈X.pn++pins,p.1≠b):Inv X pins σ H' s':=by
 obtain⟨h',g',d',t',o'⟩:=s'
 have e:o'=s.os:=ho
 subst e
 exact I.call (g':=g') (t':=t') (d':=d') u hok hg hch
end
abbrev XK:=Value->Option Addr->Hp->Prop
abbrev St:=List (Option V)
abbrev VK:=V->Hp->Prop
abbrev TE:=St->Hp->VK->Prop
abbrev TT:=St->Hp->(Bool->Hp->Prop)->Prop
abbrev TA:=St->Hp->(List V->Hp->Prop)->Prop
structure Ends where
 nx:St->Hp->Prop
 rt:VK
 bk:St->Hp->Prop:=fun _ _=>False
 ct:St->Hp->Prop:=fun _ _=>False
abbrev TS:=Ends->St->Hp->Prop
def EP (X:Cx) (pins:List (Addr×Obj)) (σ:St) (Q:VK) (u:Value) (s':Shared):Prop:=∃ v H',Inv X pins σ H' s'/\RelV v u/\Q v H'
def TP (X:Cx) (pins:List (Addr×Obj)) (σ:St) (Q:Bool->Hp->Prop) (b:Bool) (s':Shared):Prop:=∃ H',Inv X pins σ H' s'/\Q b H'
def AP (X:Cx) (pins:List (Addr×Obj)) (σ:St) (Q:List V->Hp->Prop) (us:List Value) (s':Shared):Prop:=∃ vs H',Inv X pins σ H' s'/\Vals vs us/\Q vs H'
def SP (X:Cx) (pins:List (Addr×Obj)) (D:Ends) (f:Flow) (s':Shared):Prop:=
 match f with
 | .next=>∃ σ' H',Inv X pins σ' H' s'/\D.nx σ' H'
 | .brk=>∃ σ' H',Inv X pins σ' H' s'/\D.bk σ' H'
 | .cont=>∃ σ' H',Inv X pins σ' H' s'/\D.ct σ' H'
 | .ret u=>∃ v σ' H',Inv X pins σ' H' s'/\RelV v u/\D.rt v H'
def PE (X:Cx) (e:Expr) (t:TE):Prop:=
 ∀ (pins:List (Addr×Obj)) (s:Shared) (σ:St) (H:Hp) (Q:VK),Inv X pins σ H s->t σ H Q->wpAny (model X.prog X.w) X.A (eval e X.env) (EP X pins σ Q) X.xe s
def PT (X:Cx) (e:Expr) (t:TT):Prop:=
 ∀ (pins:List (Addr×Obj)) (s:Shared) (σ:St) (H:Hp) (Q:Bool->Hp->Prop),Inv X pins σ H s->t σ H Q->wpAny (model X.prog X.w) X.A (isTrue e X.env (eval e X.env)) (TP X pins σ Q) X.xe s
def PW (X:Cx) (e:Expr) (t:TT):Prop:=
 ∀ (whole:Sem Value) (pins:List (Addr×Obj)) (s:Shared) (σ:St) (H:Hp) (Q:Bool->Hp->Prop),Inv X pins σ H s->t σ H Q->wpAny (model X.prog X.w) X.A (isTrue e X.env whole) (TP X pins σ Q) X.xe s
theorem PW.pt {X:Cx}{e:Expr}{t:TT} (h:PW X e t):PT X e t:=h _
def PA (X:Cx) (es:List Expr) (t:TA):Prop:=
 ∀ (pos:Pos) (pins:List (Addr×Obj)) (s:Shared) (σ:St) (H:Hp) (Q:List V->Hp->Prop),Inv X pins σ H s->t σ H Q->wpAny (model X.prog X.w) X.A (spliced (backTo pos (starEach es X.env))) (AP X pins σ Q) X.xe s
def PS (X:Cx) (st:Stmt) (t:TS):Prop:=
 ∀ (pins:List (Addr×Obj)) (s:Shared) (σ:St) (H:Hp) (D:Ends),Inv X pins σ H s->t D σ H->wpAny (model X.prog X.w) X.A (exec st X.env) (SP X pins D) X.xe s
def PSs (X:Cx) (st:List Stmt) (t:TS):Prop:=
 ∀ (pins:List (Addr×Obj)) (s:Shared) (σ:St) (H:Hp) (D:Ends),Inv X pins σ H s->t D σ H->wpAny (model X.prog X.w) X.A (execs st X.env) (SP X pins D) X.xe s
theorem thn {α:Type} {t:Sem α}{Q Q':α->Shared->Prop}{M:Model}{A:Around}{E:Value->Shared->Prop}{s:Shared} (h:wpAny M A t Q E s) (hQ:∀ a s,Q a s->Q' a s):wpAny M A t Q' E s:=wpAny_mono h hQ fun _ _ x=>x
end L2
namespace L2
open PySem PySem.Spec PyProof.Rows
section
variable {X:Cx}
def tVar (i:Nat):TE:=fun σ H Q=>∃ v,σ[i]?=some (some v)/\Q v H
def tC (v:V):TE:=fun _ H Q=>Q v H
theorem pe_var {i:Nat}{x:Str}{pos:Pos} (hN:X.N[i]?=some x) (hv:Vis X.env.scope x) (hd:(x == ("__debug__" : Str))=false:=by decide) (hcd:(x == ("__classdict__" : Str))=false:=by decide):PE X (.Name x pos) (tVar i):=by
 intro pins s σ H Q I h
 obtain⟨v,e,h⟩:=h
 obtain⟨m,hn,hl⟩:=I.loc
 obtain⟨u,r,l⟩:=hl i x v hN e hv
 have fin:EP X pins σ Q u s:=⟨v,H,I,r,h⟩
 rcases l with ⟨hk,hm⟩ | ⟨hk,c,hc,hcell⟩
 ·exact wpAny_Name (wpAny_loadName_local I.ok.kind hk hn hm fin) hd
 ·rcases hk with hk | hk
  ·exact wpAny_Name (wpAny_loadName_cell I.ok.kind hk hc hcell fin) hd
  ·exact wpAny_Name (wpAny_loadName_free I.ok.kind hk hc hcell fin hcd) hd
theorem pe_int {i j pos}:PE X (.Constant (.int i) j pos) (tC (.int i)):=fun _ _ _ H _ I h=>wpAny_Constant_int ⟨.int i,H,I.tok _,⟨_,rfl⟩,h⟩
theorem pe_bl {b j pos}:PE X (.Constant (.bool b) j pos) (tC (.bl b)):=fun _ _ _ H _ I h=>Constant_bool ⟨.bl b,H,I,rfl,h⟩
theorem pe_non {j pos}:PE X (.Constant .none j pos) (tC .non):=fun _ _ _ H _ I h=>Constant_none ⟨.non,H,I,rfl,h⟩
theorem pe_str {x j pos}:PE X (.Constant (.str x) j pos) (tC (.str x)):=fun _ _ _ H _ I h=>Calls.Constant_str ⟨.str x,H,I.tok _,⟨_,rfl⟩,h⟩
def Gl (X:Cx) (x:Str):Prop:=X.env.kindOf x=some .globalImplicit
theorem ld_glob {E:Value->Shared->Prop}{pins:List (Addr×Obj)}{s:Shared} {σ:St} {H:Hp}{x:Str}{u:Value}{pos:Pos}{Q:Value->Shared->Prop} (I:Inv X pins σ H s) (hg:Gl X x) (hm:X.mg x=some u) (h:Q u s)
  (hd:(x == ("__debug__" : Str))=false:=by decide):wpAny (model X.prog X.w) X.A (eval (.Name x pos) X.env) Q E s:=
 Calls.Name_function_global I.ok.kind hg (Calls.loadGlobal_global (by rw[I.ok.glob];exact I.mod.glob.keeps I.bk) hm h) hd
theorem ld_blt {E:Value->Shared->Prop}{pins:List (Addr×Obj)}{s:Shared} {σ:St} {H:Hp}{x:Str}{u:Value}{pos:Pos}{Q:Value->Shared->Prop} (I:Inv X pins σ H s) (hg:Gl X x) (hm:X.mg x=none) (hv:bootBuiltins x=some u) (h:Q u s)
  (hn:x≠"__name__":=by decide) (hd:(x == ("__debug__" : Str))=false:=by decide):wpAny (model X.prog X.w) X.A (eval (.Name x pos) X.env) Q E s:=by
 obtain⟨mb,h1,h2⟩:=I.mod.blt
 exact Calls.Name_function_global I.ok.kind hg (Calls.loadGlobal_builtin (by rw[I.ok.glob];exact I.mod.glob.keeps I.bk) hm (by rw[I.ok.blt];exact h1.keeps I.bk) ((h2 x hn).trans hv) h) hd
theorem pe_glob {x:Str}{v:V}{u:Value}{pos:Pos} (hg:Gl X x) (hm:X.mg x=some u) (r:RelV v u) (hd:(x == ("__debug__" : Str))=false:=by decide):PE X (.Name x pos) (tC v):=
 fun _ _ _ H _ I h=>ld_glob I hg hm ⟨v,H,I,r,h⟩ hd
theorem pe_bltn {x:Str}{v:V}{u:Value}{pos:Pos} (hg:Gl X x) (hm:X.mg x=none) (hv:bootBuiltins x=some u) (r:RelV v u) (hn:x≠"__name__":=by decide) (hd:(x == ("__debug__" : Str))=false:=by decide):PE X (.Name x pos) (tC v):=
 fun _ _ _ H _ I h=>ld_blt I hg hm hv ⟨v,H,I,r,h⟩ hn hd
variable {a b:Expr}{ta tb:TE}{pos:Pos}
def tB (t:TE):TT:=fun σ H Q=>t σ H fun x H1=>∃ c,x=.bl c/\Q c H1
theorem pt_val {e:Expr}{t:TE} (h:PE X e t) (he:∀ whole,isTrue e X.env whole=(do let v <- whole;standAt e.pos;holding [v] (truthy v)):=by intro _;rfl):PT X e (tB t):=by
 intro pins s σ H Q I hw
 refine isTrue_plain (thn (h pins s σ H _ I hw) fun v s1 ⟨x,H1,I1,r1,q1⟩=>?_) (he _)
 obtain⟨d,rfl,q⟩:=q1
 cases r1
 exact wpAny_truthy_bool ⟨H1,I1,q⟩
variable {tA tB':TT}{rest:List Expr}
def tAnd (t u:TT):TT:=fun σ H Q=>t σ H fun c H1=>if c=true then u σ H1 Q else Q false H1
def tOr (t u:TT):TT:=fun σ H Q=>t σ H fun c H1=>if c=true then Q true H1 else u σ H1 Q
def tNot (t:TT):TT:=fun σ H Q=>t σ H fun c H1=>Q (!c) H1
theorem pw_and1 (ha:PT X a tA):PW X (.BoolOp .And [a] pos) tA:=by
 intro wh pins s σ H Q I h
 refine isTrue_and (thn (ha pins s σ H Q I h) fun c s1 e=>?_)
 cases c with
 | true=>exact isTrue_and_nil e
 | false=>exact e
theorem pw_or1 (ha:PT X a tA):PW X (.BoolOp .Or [a] pos) tA:=by
 intro wh pins s σ H Q I h
 refine isTrue_or (thn (ha pins s σ H Q I h) fun c s1 e=>?_)
 cases c with
 | false=>exact isTrue_or_nil e
 | true=>exact e
theorem pw_and (ha:PT X a tA) (hb:PW X (.BoolOp .And (b::rest) pos) tB'):PW X (.BoolOp .And (a::b::rest) pos) (tAnd tA tB'):=by
 intro wh pins s σ H Q I h
 refine isTrue_and (thn (ha pins s σ H _ I h) fun c s1 ⟨H1,I1,q1⟩=>?_)
 cases c with
 | true=>exact hb wh pins s1 σ H1 Q I1 q1
 | false=>exact⟨H1,I1,q1⟩
theorem pw_or (ha:PT X a tA) (hb:PW X (.BoolOp .Or (b::rest) pos) tB'):PW X (.BoolOp .Or (a::b::rest) pos) (tOr tA tB'):=by
 intro wh pins s σ H Q I h
 refine isTrue_or (thn (ha pins s σ H _ I h) fun c s1 ⟨H1,I1,q1⟩=>?_)
 cases c with
 | true=>exact⟨H1,I1,q1⟩
 | false=>exact hb wh pins s1 σ H1 Q I1 q1
theorem pt_not (ha:PT X a tA):PT X (.UnaryOp .Not a pos) (tNot tA):=by
 intro pins s σ H Q I h
 exact isTrue_not (ha pins s σ H (fun c H1=>Q (!c) H1) I h)
def tAndV (ta tb:TE):TE:=fun σ H Q=>ta σ H fun x H1=>∃ c,x=.bl c/\if c=true then tb σ H1 Q else Q (.bl false) H1
def tNotV (ta:TE):TE:=fun σ H Q=>ta σ H fun x H1=>∃ c,x=.bl c/\Q (.bl (!c)) H1
theorem pe_one {op} {t:TE} (h:PE X a t):PE X (.BoolOp op [a] pos) t:=fun pins s σ H Q I hw=>BoolOp_one (h pins s σ H Q I hw)
theorem pe_and (ha:PE X a ta) (hb:PE X (.BoolOp .And (b::rest) pos) tb):PE X (.BoolOp .And (a::b::rest) pos) (tAndV ta tb):=by
 intro pins s σ H Q I h
 refine BoolOp_and (thn (ha pins s σ H _ I h) fun v s1 ⟨x,H1,I1,r1,q1⟩=>?_)
 obtain⟨c,rfl,q1⟩:=q1
 cases r1
 refine wpAny_truthy_bool ?_
 cases c with
 | true=>exact hb pins s1 σ H1 Q I1 q1
 | false=>exact⟨.bl false,H1,I1,rfl,q1⟩
theorem pe_not (ha:PE X a ta):PE X (.UnaryOp .Not a pos) (tNotV ta):=by
 intro pins s σ H Q I h
 refine UnaryOp_ (thn (ha pins s σ H _ I h) fun v s1 ⟨x,H1,I1,r1,q1⟩=>?_)
 obtain⟨c,rfl,q1⟩:=q1
 cases r1
 exact not_of (wpAny_truthy_bool ⟨.bl (!c),H1,I1,rfl,q1⟩)
def tIf (t:TT) (ta tb:TE):TE:=fun σ H Q=>t σ H fun c H1=>if c=true then ta σ H1 Q else tb σ H1 Q
theorem pe_ifExp {c:Expr} (hc:PT X c tA) (ha:PE X a ta) (hb:PE X b tb):PE X (.IfExp c a b pos) (tIf tA ta tb):=by
 intro pins s σ H Q I h
 refine wpAny_IfExp (thn (hc pins s σ H _ I h) fun d s1 ⟨H1,I1,q1⟩=>?_)
 cases d with
 | true=>exact ha pins s1 σ H1 Q I1 q1
 | false=>exact hb pins s1 σ H1 Q I1 q1
end
end L2
namespace L2
open PySem PySem.Spec PyProof.Rows
def SqL (K:PySem.W.Frag) (H:Hp) (a:Addr) (xs:List V):Prop:=
 Rd H a (.lst xs) \/
  ∃ (o:Obj) (its:Array Value) (n:Nat),K.lookup a=some o/\o.cls=.type "list"/\o.dict=none/\o.data=.seq its n/\its.size<=sizeLine/\Vals xs its.toList
def SqT (K:PySem.W.Frag) (H:Hp) (a:Addr) (xs:List V):Prop:=
 Rd H a (.tup xs) \/
  ∃ (o:Obj) (its:Array Value) (n:Nat),K.lookup a=some o/\o.cls=.type "tuple"/\o.data=.seq its n/\its.size<=sizeLine/\Vals xs its.toList
def absV:Value->Option V
 | .none=>some .non
 | .bool b=>some (.bl b)
 | .int i _=>some (.int i)
 | .str x _=>some (.str x)
 | .bytes b _=>some (.byt b)
 | .float b _=>some (.flt b)
 | .ref a=>some (.ref a)
 | .type n=>some (.ty n)
 | _=>none
theorem RelV.abs {x:V}{u:Value} (r:RelV x u):absV u=some x:=by
 cases x with
 | non=>cases r;rfl
 | bl _=>cases r;rfl
 | int _=>obtain⟨t,rfl⟩:=r;rfl
 | str _=>obtain⟨t,rfl⟩:=r;rfl
 | byt _=>obtain⟨t,rfl⟩:=r;rfl
 | flt _=>obtain⟨t,rfl⟩:=r;rfl
 | ref _=>cases r;rfl
 | ty _=>cases r;rfl
theorem RelV.inj {x y:V}{u:Value} (r:RelV x u) (q:RelV y u):x=y:=Option.some.inj (r.abs.symm.trans q.abs)
theorem Vals.inj:∀ {xs ys:List V}{us:List Value},Vals xs us->Vals ys us->xs=ys
 | _,_,_,.nil,.nil=>rfl
 | _,_,_,.cons r t,.cons r' t'=>by rw[r.inj r',Vals.inj t t']
section
variable {X:Cx}{pins:List (Addr×Obj)} {σ:St} {H:Hp}{s:Shared}{a:Addr}{xs ys:List V}
theorem SqL.of {K:PySem.W.Frag} (h:H a=some (.lst xs)):SqL K H a xs:=.inl (.inl h)
theorem SqT.of {K:PySem.W.Frag} (h:H a=some (.tup xs)):SqT K H a xs:=.inl (.inl h)
theorem Inv.list (I:Inv X pins σ H s) (h:SqL X.K H a xs):∃ its:List Value,Vals xs its/\PlainL s.heap a its.toArray/\xs.length<=sizeLine:=by
 rcases h with h | ⟨o,its,n,hk,hc,hd,hs,hz,r⟩
 ·obtain⟨z,its,n,r,e⟩:=h.ok I.hok
  exact⟨its,r,⟨_,n,e,rfl,rfl,rfl⟩,z⟩
 ·refine⟨its.toList,r,⟨o,n,I.kIn a o hk,hc,hd,by simpa using hs⟩,?_⟩
  have e:=r.length
  simp only[Array.length_toList]at e
  lia
theorem Inv.tuple (I:Inv X pins σ H s) (h:SqT X.K H a xs):∃ its:List Value,Vals xs its/\IsTup s.heap a its.toArray/\xs.length<=sizeLine:=by
 rcases h with h | ⟨o,its,n,hk,hc,hs,hz,r⟩
 ·obtain⟨z,its,r,p⟩:=h.ok I.hok
  exact⟨its,r,p,z.1⟩
 ·refine⟨its.toList,r,⟨o,I.kIn a o hk,hc,n,by simpa using hs⟩,?_⟩
  have e:=r.length
  simp only[Array.length_toList]at e
  lia
theorem Inv.list_inj (I:Inv X pins σ H s) (h:SqL X.K H a xs) (h':SqL X.K H a ys):xs=ys:=by
 obtain⟨its,r,⟨o,n,e,_,_,d⟩,_⟩:=I.list h
 obtain⟨its',r',⟨o',n',e',_,_,d'⟩,_⟩:=I.list h'
 rw[e]at e';cases e'
 rw[d]at d'
 injection d' with d1 _
 have:its=its':=by simpa using congrArg Array.toList d1
 subst this
 exact r.inj r'
theorem Inv.tuple_inj (I:Inv X pins σ H s) (h:SqT X.K H a xs) (h':SqT X.K H a ys):xs=ys:=by
 obtain⟨its,r,⟨o,e,_,n,d⟩,_⟩:=I.tuple h
 obtain⟨its',r',⟨o',e',_,n',d'⟩,_⟩:=I.tuple h'
 rw[e]at e';cases e'
 rw[d]at d'
 injection d' with d1 _
 have:its=its':=by simpa using congrArg Array.toList d1
 subst this
 exact r.inj r'
end
abbrev Cx.wish (X:Cx) (E:Value->Shared->Prop):Cx:={ X with xe:=E }
abbrev Cx.nox (X:Cx):Cx:=X.wish fun _ _=>False
theorem Cx.Ok.wish {X:Cx} (ok:X.Ok) (E:Value->Shared->Prop):(X.wish E).Ok:=
 ⟨ok.mod,ok.kind,ok.glob,ok.blt,ok.above,ok.inj,ok.has,ok.cab,ok.hd,ok.frames,ok.stk,ok.exf,ok.bs,ok.bsz,ok.noex,ok.exfs,ok.funs,ok.frf⟩
theorem Cx.Ok.unwish {X:Cx}{E:Value->Shared->Prop} (ok:(X.wish E).Ok):X.Ok:=
 ⟨ok.mod,ok.kind,ok.glob,ok.blt,ok.above,ok.inj,ok.has,ok.cab,ok.hd,ok.frames,ok.stk,ok.exf,ok.bs,ok.bsz,ok.noex,ok.exfs,ok.funs,ok.frf⟩
section
variable {X:Cx}{pins:List (Addr×Obj)} {σ:St} {H:Hp}{s:Shared}{E:Value->Shared->Prop}
theorem Inv.wish (I:Inv X pins σ H s) (E:Value->Shared->Prop):Inv (X.wish E) pins σ H s:=⟨I.ok.wish E,I.os,I.bare,I.base,I.loc,I.cell,I.free,I.freeC,I.pin,I.hok,I.len⟩
theorem Inv.unwish (I:Inv (X.wish E) pins σ H s):Inv X pins σ H s:=⟨I.ok.unwish,I.os,I.bare,I.base,I.loc,I.cell,I.free,I.freeC,I.pin,I.hok,I.len⟩
theorem SP.unwish {D:Ends}{f:Flow}{s':Shared} (h:SP (X.wish E) pins D f s'):SP X pins D f s':=by
 cases f with
 | next=>obtain⟨σ',H',I,q⟩:=h;exact⟨σ',H',I.unwish,q⟩
 | brk=>obtain⟨σ',H',I,q⟩:=h;exact⟨σ',H',I.unwish,q⟩
 | cont=>obtain⟨σ',H',I,q⟩:=h;exact⟨σ',H',I.unwish,q⟩
 | ret u=>obtain⟨v,σ',H',I,r,q⟩:=h;exact⟨v,σ',H',I.unwish,r,q⟩
theorem PSs.nox {st:List Stmt}{t:TS} (h:PSs X.nox st t):PSs X st t:=fun pins s σ H D I hw=>
 wpAny_mono (h pins s σ H D (I.wish _) hw) (fun _ _ q=>q.unwish) fun _ _ z=>False.elim z
end
section
variable {X:Cx}{st:Stmt}{rest:List Stmt}{t u:TS}{e:Expr}{te:TE}{pos:Pos}
def tNext:TS:=fun D σ H=>D.nx σ H
def tSeq (t u:TS):TS:=fun D σ H=>t { D with nx:=u D } σ H
theorem pss_nil:PSs X [] tNext:=fun _ _ σ H _ I h=>wpAny_execs_nil ⟨σ,H,I,h⟩
theorem pss_cons (h1:PS X st t) (h2:PSs X rest u):PSs X (st::rest) (tSeq t u):=by
 intro pins s σ H D I h
 refine wpAny_execs_cons (thn (h1 pins s σ H { D with nx:=u D } I h) fun f s1 q=>?_)
 cases f with
 | next=>
  obtain⟨σ',H',I',q⟩:=q
  exact h2 pins s1 σ' H' D I' q
 | ret v=>exact q
 | brk=>exact q
 | cont=>exact q
theorem pss_one (h1:PS X st t):PSs X [st] t:=by
 intro pins s σ H D I h
 refine wpAny_execs_cons (thn (h1 pins s σ H D I h) fun f s1 q=>?_)
 cases f with
 | next=>exact wpAny_execs_nil q
 | ret v=>exact q
 | brk=>exact q
 | cont=>exact q
theorem Inv.quiet {pins:List (Addr×Obj)} {σ:St} {H:Hp}{s:Shared} (I:Inv X pins σ H s):interactive X.env=false:=by simp [interactive,I.ok.kind]
def tDrop (te:TE):TS:=fun D σ H=>te σ H fun _ H1=>D.nx σ H1
theorem ps_expr (he:PE X e te) (hs:swapsWith e none pos.line X.env=pure false:=by rfl):PS X (.Expr e pos) (tDrop te):=by
 intro pins s σ H D I h
 exact wpAny_Expr_any (thn (he pins s σ H _ I h) fun v s1 ⟨x,H1,I1,r1,q1⟩=>⟨σ,H1,I1,q1⟩) I.quiet hs
def tRet (te:TE):TS:=fun D σ H=>te σ H D.rt
theorem ps_ret (he:PE X e te):PS X (.Return (some e) pos) (tRet te):=by
 intro pins s σ H D I h
 exact wpAny_Return_some (thn (he pins s σ H _ I h) fun v s1 ⟨x,H1,I1,r1,q1⟩=>⟨x,σ,H1,I1,r1,q1⟩)
def tIfS (c:TT) (t u:TS):TS:=fun D σ H=>c σ H fun b H1=>if b=true then t D σ H1 else u D σ H1
theorem ps_if {c:Expr}{a b:List Stmt}{tc:TT} (hc:PT X c tc) (ha:PSs X a t) (hb:PSs X b u):PS X (.If c a b pos) (tIfS tc t u):=by
 intro pins s σ H D I h
 refine wpAny_If (thn (hc pins s σ H _ I h) fun d s1 ⟨H1,I1,q1⟩=>?_)
 cases d with
 | true=>exact ha pins s1 σ H1 D I1 q1
 | false=>exact hb pins s1 σ H1 D I1 q1
end
abbrev TG:=V->St->Hp->(St->Hp->Prop)->Prop
abbrev TGs:=List V->St->Hp->(St->Hp->Prop)->Prop
def PG (X:Cx) (target:Expr) (t:TG):Prop:=
 ∀ (pins:List (Addr×Obj)) (s:Shared) (σ:St) (H:Hp) (v:V) (u:Value) (Q:St->Hp->Prop),Inv X pins σ H s->RelV v u->t v σ H Q ->
  wpAny (model X.prog X.w) X.A (assign target X.env u) (fun _ s'=>∃ σ' H',Inv X pins σ' H' s'/\Q σ' H') X.xe s
def PGs (X:Cx) (ts:List Expr) (t:TGs):Prop:=
 ∀ (pins:List (Addr×Obj)) (s:Shared) (σ:St) (H:Hp) (vs:List V) (us:List Value) (Q:St->Hp->Prop),Inv X pins σ H s->Vals vs us->t vs σ H Q ->
  wpAny (model X.prog X.w) X.A (assignInOrder ((assignEach ts X.env).map (·.2)) us) (fun _ s'=>∃ σ' H',Inv X pins σ' H' s'/\Q σ' H') X.xe s
abbrev TSet:=V->V->V->Hp->(Hp->Prop)->Prop
def PSet (X:Cx) (t:TSet):Prop:=
 ∀ (pins:List (Addr×Obj)) (s:Shared) (σ:St) (H:Hp) (o i v:V) (ov iv u:Value) (Q:Hp->Prop),Inv X pins σ H s->RelV o ov->RelV i iv->RelV v u->t o i v H Q ->
  wpAny (model X.prog X.w) X.A (setItem ov iv u) (fun _ s'=>∃ H',Inv X pins σ H' s'/\Q H') X.xe s
section
variable {X:Cx}{pos:Pos}
def gName (i:Nat):TG:=fun v σ H Q=>Q (σ.set i (some v)) H
theorem pg_name {i:Nat}{x:Str} (hN:X.N.Nodup) (hi:X.N[i]?=some x) (hx:Loc X.env.scope x) (hf:X.fn x=true\/X.env.scope.names.lookup x=some .local:=by first | exact .inl rfl | exact .inr rfl | assumption):PG X (.Name x pos) (gName i):=by
 intro pins s σ H v u Q I r h
 exact wpAny_assign_Name (store_ok I hN hi hx r (fun s' I'=>⟨_,H,I',h⟩) hf)
def gNil:TGs:=fun vs σ H Q=>vs=[]/\Q σ H
def gCons (t:TG) (u:TGs):TGs:=fun vs σ H Q=>∃ v r,vs=v::r/\t v σ H fun σ' H'=>u r σ' H' Q
theorem pgs_nil:PGs X [] gNil:=by
 intro pins s σ H vs us Q I r h
 obtain⟨e,h⟩:=h
 subst e
 cases r
 exact assignInOrder_nil ⟨σ,H,I,h⟩
theorem pgs_cons {e:Expr}{es:List Expr}{t:TG}{u:TGs} (h1:PG X e t) (h2:PGs X es u)
  (hs:(assignEach (e::es) X.env).map (·.2)=assign e X.env::(assignEach es X.env).map (·.2):=by rfl):PGs X (e::es) (gCons t u):=by
 intro pins s σ H vs us Q I r h
 obtain⟨v,vr,e1,h⟩:=h
 subst e1
 cases r with
 | cons r rr=>
  rw[hs]
  refine assignInOrder_cons (thn (h1 pins s σ H _ _ _ I r h) fun _ s1 ⟨σ1,H1,I1,q1⟩=>?_)
  exact h2 pins s1 σ1 H1 _ _ Q I1 rr q1
def gTup (K:PySem.W.Frag) (n:Nat) (t:TGs):TG:=fun v σ H Q=>∃ a xs,v=.ref a/\SqT K H a xs/\xs.length=n/\t xs σ H Q
theorem pg_tup {es:List Expr}{k:Nat}{t:TGs}{n:Nat} (hc:X.calm=true) (h:PGs X es t)
  (hn:(assignEach es X.env).length=n:=by rfl) (hst:(assignEach es X.env).findIdx? (·.1)=none:=by rfl):PG X (.Tuple es k pos) (gTup X.K n t):=by
 intro pins s σ H v u Q I r hw
 obtain⟨a,xs,e1,hq,hl,hw⟩:=hw
 subst e1
 cases r
 obtain⟨its,rv,ht,hz⟩:=I.tuple hq
 refine assign_Tuple_tuple (I.ok.hd hc) ht (by simp [hn,<- hl,rv.length]) hst fun h' hx=>?_
 have I1:Inv X pins σ H { s with heap:=h' }:=I.kept (t':=s.toks) fun b o e=>hx b o (Nat.ne_of_lt (Heap.lt_size e)) e
 exact h pins _ σ H xs _ Q I1 (by simpa using rv) hw
def gSub (to ti:TE) (t:TSet):TG:=fun v σ H Q=>to σ H fun o H1=>ti σ H1 fun i H2=>t o i v H2 fun H3=>Q σ H3
theorem pg_sub {o i:Expr}{to ti:TE}{t:TSet} (ho:PE X o to) (hi:PE X i ti) (hs:PSet X t)
  (ha:∀ v,assign (.Subscript o i pos) X.env v=(do
   let ov <- holding [v] (eval o X.env)
   let iv <- holding [v,ov] (eval i X.env)
   standAt pos
   holding [v,ov,iv] (setItem ov iv v)
   release [v,ov,iv] []):=by intro _;rfl):PG X (.Subscript o i pos) (gSub to ti t):=by
 intro pins s σ H v u Q I r h
 rw[ha]
 refine wpAny_bind (wpAny_holding (thn (ho pins s σ H _ I h) fun ov s1 ⟨x,H1,I1,r1,q1⟩=>?_))
 refine wpAny_bind (wpAny_holding (thn (hi pins s1 σ H1 _ I1 q1) fun iv s2 ⟨y,H2,I2,r2,q2⟩=>?_))
 refine wpAny_bind (wpAny_standAt (wpAny_bind (wpAny_holding (thn (hs pins s2 σ H2 x y v ov iv u _ I2 r1 r2 r q2) fun _ s3 ⟨H3,I3,q3⟩=>?_))))
 exact wpAny_release ⟨σ,H3,I3,q3⟩
def tAsg (te:TE) (g:TG):TS:=fun D σ H=>te σ H fun x H1=>g x σ H1 D.nx
theorem ps_asg {tg e:Expr}{te:TE}{g:TG} (he:PE X e te) (hg:PG X tg g) (hs:swapsWithSole [tg] e pos.line X.env=pure false:=by rfl) (hw:swappedStores [tg] e X.env=pure none:=by rfl)
  (h1:(assignEach [tg] X.env).map (·.2)=[assign tg X.env]:=by rfl):PS X (.Assign [tg] e pos) (tAsg te g):=by
 intro pins s σ H D I h
 refine wpAny_Assign_stores (thn (he pins s σ H _ I h) fun v s1 ⟨x,H1,I1,r1,q1⟩=>?_) hs hw
 rw[h1]
 exact thn (hg pins s1 σ H1 x v _ I1 r1 q1) fun _ s2 q=>q
theorem ps_set {i:Nat}{x:Str}{e:Expr}{te:TE}{pos':Pos} (hN:X.N.Nodup) (hi:X.N[i]?=some x) (hx:Loc X.env.scope x) (he:PE X e te) (hs:swapsWith e (some (.Name x pos')) pos.line X.env=pure false:=by rfl) (hf:X.fn x=true\/X.env.scope.names.lookup x=some .local:=by first | exact .inl rfl | exact .inr rfl | assumption) :
  PS X (.Assign [.Name x pos'] e pos) (tAsg te (gName i)):=by
 intro pins s σ H D I h
 refine wpAny_Assign_Name (thn (he pins s σ H _ I h) fun v s1 ⟨y,H1,I1,r1,q1⟩=>?_) hs
 exact store_ok I1 hN hi hx r1 (fun s2 I2=>⟨_,H1,I2,q1⟩) hf
end
section
variable {X:Cx}{pos:Pos}
def tWhile (c:TT) (tb:TS):TS:=fun D σ H=>∃ W:Nat->St->Hp->Prop,(∃ m,W m σ H)/\∀ m σ H,W m σ H ->
 c σ H fun b H1=>if b=true then ∃ N:St->Hp->Prop,(∀ σ' H',N σ' H'->∃ m',m'<m/\W m' σ' H')/\tb { D with nx:=N,ct:=N,bk:=D.nx } σ H1 else D.nx σ H1
theorem ps_while {c:Expr}{body:List Stmt}{tc:TT}{tb:TS} (hp:PassesOwn (model X.prog X.w) X.A X.env X.xe) (hc:PT X c tc) (hb:PSs X body tb):PS X (.While c body [] pos) (tWhile tc tb):=by
 intro pins s σ H D I h
 obtain⟨W,⟨m0,w0⟩,turn⟩:=h
 refine wpAny_While (codeAny_whileLoop (fun n s'=>∃ σ' H',Inv X pins σ' H' s'/\W n σ' H') ?_ m0 ⟨σ,H,I,w0⟩)
 rintro n s1 ⟨σ1,H1,I1,w1⟩
 refine wpAny_passesOwn hp (thn (hc pins s1 σ1 H1 _ I1 (turn n σ1 H1 w1)) fun b s2 ⟨H2,I2,q2⟩=>?_)
 cases b with
 | true=>
  obtain⟨N,hN,q2⟩:=q2
  rw[if_pos rfl]
  refine wpAny_passesOwn hp (thn (hb pins s2 σ1 H2 _ I2 q2) fun f s3 q3=>?_)
  cases f with
  | next=>
   obtain⟨σ3,H3,I3,n3⟩:=q3
   obtain⟨m',hm,w3⟩:=hN σ3 H3 n3
   exact⟨m',hm,σ3,H3,I3,w3⟩
  | cont=>
   obtain⟨σ3,H3,I3,n3⟩:=q3
   obtain⟨m',hm,w3⟩:=hN σ3 H3 n3
   exact⟨m',hm,σ3,H3,I3,w3⟩
  | brk=>exact q3
  | ret v=>exact q3
 | false=>
  rw[if_neg Bool.false_ne_true]
  exact wpAny_execs_nil ⟨σ1,H2,I2,q2⟩
end
structure It where
 go:Nat->Hp->Prop
 yld:Nat->Hp->V->Hp->Prop
 stop:Nat->Hp->Prop
def FpOk (X:Cx) (pins:List (Addr×Obj)) (H:Hp) (b:Addr):Prop:=
 H b=none/\b≠X.env.locals/\b ∉ X.fs/\(b∈X.ex\/X.s₀.heap.objs.size<=b)/\(∀ x c,X.env.cells.lookup x=some c->c≠b)/\∀ p∈X.pn++pins,p.1≠b
theorem Inv.fpOk {X:Cx}{pins:List (Addr×Obj)} {σ:St} {H H':Hp}{s:Shared}{b:Addr} (I:Inv X pins σ H s) (hb:s.heap.objs.size<=b) (hn:H' b=none):FpOk X pins H' b:=by
 refine⟨hn,Nat.ne_of_gt (Nat.lt_of_lt_of_le I.lt hb),I.nofs hb,.inr (Nat.le_trans I.sz hb),fun x c e z=>?_,fun p hp z=>?_⟩
 ·obtain⟨v,q⟩:=I.cell x c e
  exact absurd (Nat.lt_of_lt_of_le q.lt (by rw[z];exact hb)) (Nat.lt_irrefl _)
 ·exact absurd (Nat.lt_of_lt_of_le (Heap.lt_size (I.pin p hp).1) (by rw[z];exact hb)) (Nat.lt_irrefl _)
structure Turn (P:Program) (w:World) (K:PySem.W.Frag) (tg:Expr) (J:It) (fp:List Addr) (it:Addr) (tn:Nat->Heap->Prop):Prop where
 mem:it∈fp
 obj:∀ i h,tn i h->∀ b∈fp,∃ o,h.get? b=some o/\∀ v,o.data≠.cell v
 keep:∀ i h h',tn i h->(∀ b∈fp,∀ o,h.get? b=some o->h'.get? b=some o)->tn i h'
 item:∀ (X:Cx),X.prog=P->X.w=w->X.K=K->X.calm=true->∀ (i:Nat) (pins:List (Addr×Obj)) (s:Shared) (σ:St) (H:Hp) (E:Value->Shared->Prop),Inv X pins σ H s->(∀ b∈fp,FpOk X pins H b)->tn i s.heap->J.go i H ->
  wpAny (model P w) X.A (pyNext (.ref it)) (fun r s1=>∃ u,r=some u /\
   wpAny (model P w) X.A (letOwnedTupleGo tg (.ref it) u) (fun _ s2=>∃ x H',Inv X pins σ H' s2/\RelV x u/\J.yld i H x H'/\tn (i+1) s2.heap/\∀ b∈fp,H' b=none) E s1) E s
 done:∀ (X:Cx),X.prog=P->X.w=w->X.K=K->X.calm=true->∀ (i:Nat) (pins:List (Addr×Obj)) (s:Shared) (σ:St) (H:Hp) (E:Value->Shared->Prop),Inv X pins σ H s->(∀ b∈fp,FpOk X pins H b)->tn i s.heap->J.stop i H ->
  wpAny (model P w) X.A (pyNext (.ref it)) (fun r s1=>r=none/\Inv X pins σ H s1) E s
 self:∀ (A:Around) (i:Nat) (s:Shared) (Q:Value->Shared->Prop) (E:Value->Shared->Prop),tn i s.heap->Q (.ref it) s->wpAny (model P w) A (pyIter (.ref it)) Q E s
abbrev TI:=St->Hp->(It->Hp->Prop)->Prop
def PIE (X:Cx) (pins:List (Addr×Obj)) (σ:St) (tg:Expr) (R:It->Hp->Prop) (itv:Value) (s2:Shared):Prop:=
 ∃ (it:Addr) (fp:List Addr) (tn:Nat->Heap->Prop) (J:It) (H':Hp),itv=.ref it/\Inv X pins σ H' s2/\Turn X.prog X.w X.K tg J fp it tn/\tn 0 s2.heap/\(∀ b∈fp,FpOk X pins H' b)/\R J H'
def PI (X:Cx) (tg iter:Expr) (wi:TI):Prop:=
 ∀ (pins:List (Addr×Obj)) (s:Shared) (σ:St) (H:Hp) (R:It->Hp->Prop),Inv X pins σ H s->wi σ H R ->
  wpAny (model X.prog X.w) X.A (eval iter X.env) (fun v s1=>wpAny (model X.prog X.w) X.A (pyIter v) (PIE X pins σ tg R) X.xe s1) X.xe s
theorem go_of {M:Model}{A:Around}{E:Value->Shared->Prop}{s:Shared}{tg:Expr}{it:Addr}{u:Value}{o:Obj}{n:String}{vs:Array Value}{Q:Unit->Shared->Prop} (ho:s.heap.get? it=some o) (hc:o.cls=.type n) (hd:o.data=.fields vs)
    (hn:["enumerate","zip","dict_itemiterator","dict_reverseitemiterator","odict_iterator","itertools.zip_longest","itertools.pairwise"].contains n=false) (hQ:Q () s):wpAny M A (letOwnedTupleGo tg (.ref it) u) Q E s:=by
  unfold letOwnedTupleGo
  cases tg <;> first
    | exact wpAny_pure hQ
    | (cases u <;> first
        | exact wpAny_pure hQ
        | (refine wpAny_bind (wpAny_load ho ?_)
           rw[hc,hd]
           show wpAny M A (if (["enumerate","zip","dict_itemiterator","dict_reverseitemiterator","odict_iterator","itertools.zip_longest","itertools.pairwise"].contains n && vs[0]? == some (rawInt _))=true then _ else _) Q E s
           rw[if_neg (by intro h;rw[hn,Bool.false_and]at h;cases h)]
           exact wpAny_pure hQ))
def Itl (K:PySem.W.Frag) (a:Addr):It:=
 ⟨fun i H=>∃ xs x,SqL K H a xs/\xs[i]?=some x,fun i H x H'=>H'=H/\∀ xs,SqL K H a xs->xs[i]?=some x,fun i H=>∃ xs,SqL K H a xs/\xs.length<=i⟩
def Itt (K:PySem.W.Frag) (a:Addr):It:=
 ⟨fun i H=>∃ xs x,SqT K H a xs/\xs[i]?=some x,fun i H x H'=>H'=H/\∀ xs,SqT K H a xs->xs[i]?=some x,fun i H=>∃ xs,SqT K H a xs/\xs.length<=i⟩
def Itr (lo:Int) (n:Nat):It:=⟨fun i _=>i<n,fun i H x H'=>H'=H/\x=.int (lo+i),fun i _=>n<=i⟩
theorem turn_list {P:Program}{w:World}{K:PySem.W.Frag}{tg:Expr} (a it:Addr):Turn P w K tg (Itl K a) [it] it (fun i h=>h.IsListIter it a i) where
 mem:=by simp
 obj:=fun i h st b hb=>by
  have e:b=it:=by simpa using hb
  subst e
  obtain⟨o,e,c,d⟩:=st
  exact⟨o,e,fun v z=>by rw[d]at z;cases z⟩
 keep:=fun i h h' st k=>st.at fun o e=>k it (by simp) o e
 item:=by
  intro X hP hw hK hc i pins s σ H E I hf st hg
  subst hP hw hK
  obtain⟨xs,x,hq,hx⟩:=hg
  obtain⟨its,rv,p,hz⟩:=I.list hq
  obtain⟨u,hu,ru⟩:=rv.get hx
  obtain⟨f0,f1,f2,f3,f4,f5⟩:=hf it (by simp)
  refine wpAny_pyNext_list_item st p.isList (x:=u) (by simpa using hu) fun h' st' sb=>?_
  have I1:Inv X pins σ H { s with heap:=h' }:=I.turned (t':=s.toks) (fun b o hb e=>(sb.2 b hb).trans e) f0 f1 f3 f4 f5
  obtain⟨o,e,c,d⟩:=id st'
  exact⟨u,rfl,go_of (s:={ s with heap:=h' }) e c d (by decide) ⟨x,H,I1,ru,⟨rfl,fun ys hy=>by rw[I.list_inj hy hq];exact hx⟩,st',fun b hb=>(hf b hb).1⟩⟩
 done:=by
  intro X hP hw hK hc i pins s σ H E I hf st hg
  subst hP hw hK
  obtain⟨xs,hq,hx⟩:=hg
  obtain⟨its,rv,p,hz⟩:=I.list hq
  obtain⟨f0,f1,f2,f3,f4,f5⟩:=hf it (by simp)
  have hl:=rv.length
  exact wpAny_pyNext_list_end (I.ok.hd hc) st p.isList (by simp;lia) fun h' eb=>⟨rfl,I.turned (t':=s.toks) (fun b o hb e=>eb b o hb e) f0 f1 f3 f4 f5⟩
 self:=fun _ _ _ _ _ st h=>wpAny_pyIter_listiter st h
theorem turn_tuple {P:Program}{w:World}{K:PySem.W.Frag}{tg:Expr} (a it:Addr):Turn P w K tg (Itt K a) [it] it (fun i h=>h.IsTupleIter it a i) where
 mem:=by simp
 obj:=fun i h st b hb=>by
  have e:b=it:=by simpa using hb
  subst e
  obtain⟨o,e,c,d⟩:=st
  exact⟨o,e,fun v z=>by rw[d]at z;cases z⟩
 keep:=fun i h h' st k=>st.at fun o e=>k it (by simp) o e
 item:=by
  intro X hP hw hK hc i pins s σ H E I hf st hg
  subst hP hw hK
  obtain⟨xs,x,hq,hx⟩:=hg
  obtain⟨its,rv,p,hz⟩:=I.tuple hq
  obtain⟨u,hu,ru⟩:=rv.get hx
  obtain⟨f0,f1,f2,f3,f4,f5⟩:=hf it (by simp)
  refine wpAny_pyNext_tuple_item st (show s.heap.IsTuple a its.toArray from p) (x:=u) (by simpa using hu) fun h' st' sb=>?_
  have I1:Inv X pins σ H { s with heap:=h' }:=I.turned (t':=s.toks) (fun b o hb e=>(sb.2 b hb).trans e) f0 f1 f3 f4 f5
  obtain⟨o,e,c,d⟩:=id st'
  exact⟨u,rfl,go_of (s:={ s with heap:=h' }) e c d (by decide) ⟨x,H,I1,ru,⟨rfl,fun ys hy=>by rw[I.tuple_inj hy hq];exact hx⟩,st',fun b hb=>(hf b hb).1⟩⟩
 done:=by
  intro X hP hw hK hc i pins s σ H E I hf st hg
  subst hP hw hK
  obtain⟨xs,hq,hx⟩:=hg
  obtain⟨its,rv,p,hz⟩:=I.tuple hq
  obtain⟨f0,f1,f2,f3,f4,f5⟩:=hf it (by simp)
  have hl:=rv.length
  exact wpAny_pyNext_tuple_end (I.ok.hd hc) st (show s.heap.IsTuple a its.toArray from p) (by simp;lia) fun h' eb=>⟨rfl,I.turned (t':=s.toks) (fun b o hb e=>eb b o hb e) f0 f1 f3 f4 f5⟩
 self:=fun _ _ _ _ _ st h=>wpAny_pyIter_tupleiter st h
theorem turn_range {P:Program}{w:World}{K:PySem.W.Frag}{tg:Expr} (it:Addr) (lo:Int) (n:Nat):Turn P w K tg (Itr lo n) [it] it (fun i h=>IsRangeIter h it (lo+(i:Nat) * 1) ((n:Int)-(i:Nat)) 1) where
 mem:=by simp
 obj:=fun i h st b hb=>by
  have e:b=it:=by simpa using hb
  subst e
  exact⟨_,st,fun v z=>by
   have z':Data.fields _=Data.cell v:=z
   cases z'⟩
 keep:=fun i h h' st k=>k it (by simp) _ st
 item:=by
  intro X hP hw hK hc i pins s σ H E I hf st hg
  subst hP hw hK
  obtain⟨f0,f1,f2,f3,f4,f5⟩:=hf it (by simp)
  have W:=Walks.range (prog:=X.prog) (w:=X.w) (I.ok.hd hc) it lo 1 n
  refine W.item i s _ _ hg st fun v h' tk hv st' kk=>?_
  obtain⟨t,rfl⟩:=hv
  have I1:Inv X pins σ H { s with heap:=h',toks:=tk }:=I.turned (fun b o hb e=>kk b o (by simpa using hb) e) f0 f1 f3 f4 f5
  refine⟨_,rfl,go_of (s:={ s with heap:=h',toks:=tk }) (n:="range_iterator") st' rfl rfl (by decide) ⟨.int (lo+i),H,I1,⟨t,?_⟩,⟨rfl,rfl⟩,st',fun b hb=>(hf b hb).1⟩⟩
  rw[Int.mul_one]
 done:=by
  intro X hP hw hK hc i pins s σ H E I hf st hg
  subst hP hw hK
  obtain⟨f0,f1,f2,f3,f4,f5⟩:=hf it (by simp)
  exact wpAny_pyNext_range_end (I.ok.hd hc) st (by have:n<=i:=hg;lia) fun h' eb=>⟨rfl,I.turned (t':=s.toks) (fun b o hb e=>eb b o hb e) f0 f1 f3 f4 f5⟩
 self:=fun _ _ _ _ _ st h=>wpAny_pyIter_rangeiter st h
end L2
namespace L2
open PySem PySem.Spec PyProof.Rows
section
variable {X:Cx}{tg:Expr}
def iList (K:PySem.W.Frag) (tl:TE):TI:=fun σ H R=>tl σ H fun x H1=>∃ a,x=.ref a/\(∃ xs,SqL K H1 a xs)/\R (Itl K a) H1
def iTup (K:PySem.W.Frag) (tl:TE):TI:=fun σ H R=>tl σ H fun x H1=>∃ a,x=.ref a/\(∃ xs,SqT K H1 a xs)/\R (Itt K a) H1
theorem pi_list {l:Expr}{tl:TE} (hl:PE X l tl):PI X tg l (iList X.K tl):=by
 intro pins s σ H R I h
 refine thn (hl pins s σ H _ I h) fun v s1 ⟨x,H1,I1,r1,q1⟩=>?_
 obtain⟨a,e,⟨xs,hq⟩,q⟩:=q1
 subst e
 cases r1
 obtain⟨its,rv,p,hz⟩:=I1.list hq
 refine wpAny_pyIter_list p.isList ?_
 refine⟨s1.heap.objs.size,[s1.heap.objs.size],_,_,H1,rfl,I1.kept (t':=s1.toks) fun b o e=>Heap.get?_push_of_some _ e,turn_list a _,⟨_,Heap.get?_push_size _ rfl,rfl,rfl⟩,fun b hb=>?_,q⟩
 have e:b=s1.heap.objs.size:=by simpa using hb
 subst e
 exact I1.fpOk (Nat.le_refl _) (I1.hok.fresh (Nat.le_refl _))
theorem pi_tup {l:Expr}{tl:TE} (hl:PE X l tl):PI X tg l (iTup X.K tl):=by
 intro pins s σ H R I h
 refine thn (hl pins s σ H _ I h) fun v s1 ⟨x,H1,I1,r1,q1⟩=>?_
 obtain⟨a,e,⟨xs,hq⟩,q⟩:=q1
 subst e
 cases r1
 obtain⟨its,rv,p,hz⟩:=I1.tuple hq
 refine wpAny_pyIter_tuple (show s1.heap.IsTuple a its.toArray from p) ?_
 refine⟨s1.heap.objs.size,[s1.heap.objs.size],_,_,H1,rfl,I1.kept (t':=s1.toks) fun b o e=>Heap.get?_push_of_some _ e,turn_tuple a _,⟨_,Heap.get?_push_size _ rfl,rfl,rfl⟩,fun b hb=>?_,q⟩
 have e:b=s1.heap.objs.size:=by simpa using hb
 subst e
 exact I1.fpOk (Nat.le_refl _) (I1.hok.fresh (Nat.le_refl _))
theorem range_it {pins:List (Addr×Obj)} {σ:St} {H:Hp}{s:Shared}{R:It->Hp->Prop}{E:Value->Shared->Prop}{lo hi:Int}{t u v:Tok}{tk:Nat} (I:Inv X pins σ H s) (h1:-(2 ^ 62)<=lo) (h2:lo<2 ^ 62) (h3:-(2 ^ 62)<=hi) (h4:hi<2 ^ 62)
  (q:R (Itr lo (hi-lo).toNat) H):wpAny (model X.prog X.w) X.A (pyIter (.ref s.heap.objs.size)) (PIE X pins σ tg R) E { s with heap:=s.heap.push { cls:=.type "range",data:=.fields #[.int lo t,.int hi u,.int 1 v] },toks:=tk }:=by
 refine wpAny_pyIter_range (IsRange.new ..) (small_one h1 h2 h3 h4) ?_
 have I1:Inv X pins σ H { s with heap:=s.heap.push { cls:=.type "range",data:=.fields #[.int lo t,.int hi u,.int 1 v] },toks:=tk }:=I.kept fun b o e=>Heap.get?_push_of_some _ e
 refine⟨(s.heap.push { cls:=.type "range",data:=.fields #[.int lo t,.int hi u,.int 1 v] }).objs.size,[(s.heap.push { cls:=.type "range",data:=.fields #[.int lo t,.int hi u,.int 1 v] }).objs.size],_,_,H,rfl,
  I1.kept (t':=tk) fun b o e=>Heap.get?_push_of_some _ e,turn_range _ lo (hi-lo).toNat,?_,fun b hb=>?_,q⟩
 ·have e1:lo+((0:Nat):Int) * 1=lo:=by simp
  have e2:(((hi-lo).toNat:Nat):Int)-((0:Nat):Int)=Builtin.Range.rangeSize lo hi 1:=by rw[rangeSize_one];split <;> lia
  show IsRangeIter _ _ (lo+((0:Nat):Int) * 1) ((((hi-lo).toNat:Nat):Int)-((0:Nat):Int)) 1
  rw[e1,e2]
  exact Heap.get?_push_size _ rfl
 ·have e:b=(s.heap.push { cls:=.type "range",data:=.fields #[.int lo t,.int hi u,.int 1 v] }).objs.size:=by simpa using hb
  subst e
  exact I1.fpOk (Nat.le_refl _) (I1.hok.fresh (Nat.le_refl _))
def iRng1 (ta:TA):TI:=fun σ H R=>ta σ H fun vs H1=>∃ j:Int,vs=[.int j]/\-(2 ^ 62)<=j/\j<2 ^ 62/\R (Itr 0 j.toNat) H1
theorem pi_range1 {a:Expr}{ta:TA}{p pos:Pos} (hg:Gl X "range") (hm:X.mg "range"=none) (ha:PA X [a] ta) (hs:starEach [a] X.env=[(false,eval a X.env)]:=by rfl):PI X tg (.Call (.Name "range" p) [a] [] pos) (iRng1 ta):=by
 intro pins s σ H R I h
 refine Call_ (ld_blt I hg hm boot_range (PyProof.Rows.callWith_type1 (thn (ha pos pins s σ H _ I h) fun us s1 ⟨vs,H1,I1,r1,q1⟩=>?_) hs rfl))
 obtain⟨j,e,q1,q2,q⟩:=q1
 subst e
 cases r1 with
 | cons r rr=>
  cases rr
  obtain⟨t,rfl⟩:=r
  exact call_range_1 (range_it I1 (by lia) (by lia) q1 q2 (by simpa using q))
def tFor (wi:TI) (g:TG) (tb:TS):TS:=fun D σ H=>wi σ H fun J H1=>∃ W:Nat->Nat->St->Hp->Prop,(∃ m,W 0 m σ H1)/\∀ i m σ H,W i m σ H ->
 (J.stop i H/\D.nx σ H)\/(J.go i H/\∃ N:St->Hp->Prop,(∀ σ' H',N σ' H'->∃ m',m'<m/\W (i+1) m' σ' H')/\∀ x H',J.yld i H x H'->g x σ H' fun σ2 H2=>tb { D with nx:=N,ct:=N,bk:=D.nx } σ2 H2)
def pinsAt (fp:List Addr) (h:Heap):List (Addr×Obj):=fp.filterMap fun b=>(h.get? b).map fun o=>(b,o)
theorem mem_pinsAt {fp:List Addr}{h:Heap}{b:Addr}{o:Obj} (hb:b∈fp) (e:h.get? b=some o):(b,o)∈pinsAt fp h:=List.mem_filterMap.mpr ⟨b,hb,by rw[e];rfl⟩
theorem of_pinsAt {fp:List Addr}{h:Heap}{p:Addr×Obj} (hp:p∈pinsAt fp h):p.1∈fp/\h.get? p.1=some p.2:=by
 obtain⟨b,hb,e⟩:=List.mem_filterMap.mp hp
 cases q:h.get? b with
 | none=>rw[q]at e;cases e
 | some o=>
  rw[q]at e
  have e':(b,o)=p:=Option.some.inj e
  subst e'
  exact⟨hb,q⟩
theorem Inv.pinned {pins:List (Addr×Obj)} {σ:St} {H:Hp}{s:Shared}{fp:List Addr} (I:Inv X pins σ H s) (hf:∀ b∈fp,FpOk X pins H b) (ho:∀ b∈fp,∃ o,s.heap.get? b=some o/\∀ v,o.data≠.cell v):Inv X (pins++pinsAt fp s.heap) σ H s:=
 I.pins_of fun p hp=>(List.mem_append.mp hp).elim (fun z=>I.pin p (List.mem_append_right _ z)) fun z=>by
  obtain⟨hb,e⟩:=of_pinsAt z
  obtain⟨f0,f1,f2,_⟩:=hf p.1 hb
  obtain⟨o,e',d⟩:=ho p.1 hb
  rw[e]at e';cases e'
  exact⟨e,f0,f1,f2,d⟩
theorem Inv.unpinned {pins pl:List (Addr×Obj)} {σ:St} {H:Hp}{s:Shared} (I:Inv X (pins++pl) σ H s):Inv X pins σ H s:=I.pins_of fun p hp=>I.pin p (List.mem_append_right _ (List.mem_append_left _ hp))
theorem ps_for {iter:Expr}{body:List Stmt}{wi:TI}{g:TG}{tb:TS}{pos:Pos} (hp:PassesOwn (model X.prog X.w) X.A X.env X.xe) (hc:X.calm=true) (hi:PI X tg iter wi) (hg:PG X tg g) (hb:PSs X body tb)
  (hs:∀ x,foldedSetIterable iter X.env x=pure x:=by intro _;rfl):PS X (.For tg iter body [] pos) (tFor wi g tb):=by
 intro pins s σ H D I h
 refine wpAny_For (thn (hi pins s σ H _ I h) fun v s1 h1=>thn h1 fun itv s2 h2=>?_) hs
 obtain⟨it,fp,tn,J,H2,e,I2,T,st2,f2,W,⟨m0,w0⟩,turn⟩:=h2
 subst e
 -- what stays true of the iterator's objects through the loop
 have stat:∀ {H':Hp},(∀ b∈fp,H' b=none)->∀ b∈fp,FpOk X pins H' b:=fun hn b hb=>⟨hn b hb,(f2 b hb).2⟩
 refine codeAny_forLoop_any (fun n s'=>∃ i σ' H',Inv X pins σ' H' s'/\tn i s'.heap/\(∀ b∈fp,H' b=none)/\W i n σ' H') ?_ m0 ⟨0,σ,H2,I2,st2,fun b hb=>(f2 b hb).1,w0⟩
 rintro n s3 ⟨i,σ3,H3,I3,st3,fr3,w3⟩
 rcases turn i n σ3 H3 w3 with ⟨stop,qn⟩ | ⟨go,N,hN,step⟩
 ·refine wpAny_passesOwn hp (thn (T.done X rfl rfl rfl hc i pins s3 σ3 H3 X.xe I3 (stat fr3) st3 stop) fun r s4 ⟨hr,I4⟩=>?_)
  subst hr
  exact wpAny_execs_nil ⟨σ3,H3,I4,qn⟩
 ·refine wpAny_passesOwn hp (thn (T.item X rfl rfl rfl hc i pins s3 σ3 H3 X.xe I3 (stat fr3) st3 go) fun r s4 ⟨u,hr,h4⟩=>?_)
  subst hr
  refine wpAny_passesOwn hp (thn h4 fun _ s5 ⟨x,H5,I5,r5,y5,st5,fr5⟩=>?_)
  have I5':=I5.pinned (stat fr5) (T.obj _ _ st5)
  refine wpAny_passesOwn hp (thn (hg _ s5 σ3 H5 x u _ I5' r5 (step x H5 y5)) fun _ s6 ⟨σ6,H6,I6,q6⟩=>?_)
  refine wpAny_passesOwn hp (thn (hb _ s6 σ6 H6 _ I6 q6) fun f s7 q7=>?_)
  have again:∀ {σ7:St} {H7:Hp},Inv X (pins++pinsAt fp s5.heap) σ7 H7 s7->N σ7 H7->∃ m,m<n/\∃ i σ' H',Inv X pins σ' H' s7/\tn i s7.heap/\(∀ b∈fp,H' b=none)/\W i m σ' H':=fun {σ7 H7} I7 n7=>by
   obtain⟨m',hm,w7⟩:=hN σ7 H7 n7
   refine⟨m',hm,i+1,σ7,H7,I7.unpinned,T.keep _ _ _ st5 fun b hb o e=>(I7.pin (b,o) (List.mem_append_right _ (List.mem_append_right _ (mem_pinsAt hb e)))).1,fun b hb=>?_,w7⟩
   obtain⟨o,e,d⟩:=T.obj _ _ st5 b hb
   exact (I7.pin (b,o) (List.mem_append_right _ (List.mem_append_right _ (mem_pinsAt hb e)))).2.1
  cases f with
  | next=>obtain⟨σ7,H7,I7,n7⟩:=q7;exact again I7 n7
  | cont=>obtain⟨σ7,H7,I7,n7⟩:=q7;exact again I7 n7
  | brk=>obtain⟨σ7,H7,I7,q7⟩:=q7;exact⟨σ7,H7,I7.unpinned,q7⟩
  | ret v=>obtain⟨x7,σ7,H7,I7,r7,q7⟩:=q7;exact⟨x7,σ7,H7,I7.unpinned,r7,q7⟩
end
theorem for_list {K:PySem.W.Frag}{a:Addr}{xs:List V}{g:TG}{tb:TS}{D:Ends} {σ:St} {H:Hp} (Pv:Nat->St->Hp->Prop) (h0:Pv 0 σ H) (hl:∀ i σ H,i<=xs.length->Pv i σ H->SqL K H a xs)
  (hs:∀ i x σ H,xs[i]?=some x->Pv i σ H->g x σ H fun σ2 H2=>tb { D with nx:=Pv (i+1),ct:=Pv (i+1),bk:=D.nx } σ2 H2) (hd:∀ σ H,Pv xs.length σ H->D.nx σ H) :
  ∃ W:Nat->Nat->St->Hp->Prop,(∃ m,W 0 m σ H)/\∀ i m σ H,W i m σ H ->
   ((Itl K a).stop i H/\D.nx σ H)\/((Itl K a).go i H/\∃ N:St->Hp->Prop,(∀ σ' H',N σ' H'->∃ m',m'<m/\W (i+1) m' σ' H')/\∀ x H',(Itl K a).yld i H x H'->g x σ H' fun σ2 H2=>tb { D with nx:=N,ct:=N,bk:=D.nx } σ2 H2):=by
 refine⟨fun i m σ H=>m=xs.length-i/\i<=xs.length/\Pv i σ H,⟨xs.length,by simp,Nat.zero_le _,h0⟩,?_⟩
 rintro i m σ H ⟨rfl,hi,p⟩
 have q:=hl i σ H hi p
 by_cases hlt:i<xs.length
 ·refine .inr ⟨⟨xs,xs[i],q,by simp [hlt]⟩,Pv (i+1),fun σ' H' p'=>⟨xs.length-(i+1),by lia,rfl,hlt,p'⟩,fun x H' y=>?_⟩
  obtain⟨e,y⟩:=y
  subst e
  exact hs i x σ _ (y xs q) p
 ·have e:i=xs.length:=by lia
  subst e
  exact .inl ⟨⟨xs,q,Nat.le_refl _⟩,hd σ H p⟩
theorem for_tup {K:PySem.W.Frag}{a:Addr}{xs:List V}{g:TG}{tb:TS}{D:Ends} {σ:St} {H:Hp} (Pv:Nat->St->Hp->Prop) (h0:Pv 0 σ H) (hl:∀ i σ H,i<=xs.length->Pv i σ H->SqT K H a xs)
  (hs:∀ i x σ H,xs[i]?=some x->Pv i σ H->g x σ H fun σ2 H2=>tb { D with nx:=Pv (i+1),ct:=Pv (i+1),bk:=D.nx } σ2 H2) (hd:∀ σ H,Pv xs.length σ H->D.nx σ H) :
  ∃ W:Nat->Nat->St->Hp->Prop,(∃ m,W 0 m σ H)/\∀ i m σ H,W i m σ H ->
   ((Itt K a).stop i H/\D.nx σ H)\/((Itt K a).go i H/\∃ N:St->Hp->Prop,(∀ σ' H',N σ' H'->∃ m',m'<m/\W (i+1) m' σ' H')/\∀ x H',(Itt K a).yld i H x H'->g x σ H' fun σ2 H2=>tb { D with nx:=N,ct:=N,bk:=D.nx } σ2 H2):=by
 refine⟨fun i m σ H=>m=xs.length-i/\i<=xs.length/\Pv i σ H,⟨xs.length,by simp,Nat.zero_le _,h0⟩,?_⟩
 rintro i m σ H ⟨rfl,hi,p⟩
 have q:=hl i σ H hi p
 by_cases hlt:i<xs.length
 ·refine .inr ⟨⟨xs,xs[i],q,by simp [hlt]⟩,Pv (i+1),fun σ' H' p'=>⟨xs.length-(i+1),by lia,rfl,hlt,p'⟩,fun x H' y=>?_⟩
  obtain⟨e,y⟩:=y
  subst e
  exact hs i x σ _ (y xs q) p
 ·have e:i=xs.length:=by lia
  subst e
  exact .inl ⟨⟨xs,q,Nat.le_refl _⟩,hd σ H p⟩
theorem for_range {lo:Int}{n:Nat}{g:TG}{tb:TS}{D:Ends} {σ:St} {H:Hp} (Pv:Nat->St->Hp->Prop) (h0:Pv 0 σ H)
  (hs:∀ i σ H,i<n->Pv i σ H->g (.int (lo+i)) σ H fun σ2 H2=>tb { D with nx:=Pv (i+1),ct:=Pv (i+1),bk:=D.nx } σ2 H2) (hd:∀ σ H,Pv n σ H->D.nx σ H) :
  ∃ W:Nat->Nat->St->Hp->Prop,(∃ m,W 0 m σ H)/\∀ i m σ H,W i m σ H ->
   ((Itr lo n).stop i H/\D.nx σ H)\/((Itr lo n).go i H/\∃ N:St->Hp->Prop,(∀ σ' H',N σ' H'->∃ m',m'<m/\W (i+1) m' σ' H')/\∀ x H',(Itr lo n).yld i H x H'->g x σ H' fun σ2 H2=>tb { D with nx:=N,ct:=N,bk:=D.nx } σ2 H2):=by
 refine⟨fun i m σ H=>m=n-i/\i<=n/\Pv i σ H,⟨n,by simp,Nat.zero_le _,h0⟩,?_⟩
 rintro i m σ H ⟨rfl,hi,p⟩
 by_cases hlt:i<n
 ·refine .inr ⟨hlt,Pv (i+1),fun σ' H' p'=>⟨n-(i+1),by lia,rfl,hlt,p'⟩,fun x H' y=>?_⟩
  obtain⟨e,y⟩:=y
  subst e y
  exact hs i σ _ hlt p
 ·have e:i=n:=by lia
  subst e
  exact .inl ⟨Nat.le_refl _,hd σ H p⟩
end L2
namespace L2
open PySem PySem.Spec PyProof.Rows
abbrev R2:=V->V->Hp->VK->Prop
def OpR (X:Cx) (f:Value->Value->Sem Value) (r:R2):Prop:=
 ∀ (pins:List (Addr×Obj)) (s:Shared) (σ:St) (H:Hp) (x y:V) (v u:Value) (Q:VK),Inv X pins σ H s->RelV x v->RelV y u->r x y H Q ->
  wpAny (model X.prog X.w) X.A (f v u) (EP X pins σ Q) X.xe s
def UnR (X:Cx) (f:Value->Sem Value) (r:V->Hp->VK->Prop):Prop:=
 ∀ (pins:List (Addr×Obj)) (s:Shared) (σ:St) (H:Hp) (x:V) (v:Value) (Q:VK),Inv X pins σ H s->RelV x v->r x H Q ->
  wpAny (model X.prog X.w) X.A (f v) (EP X pins σ Q) X.xe s
def CallR (X:Cx) (f:Value) (r:List V->Hp->VK->Prop):Prop:=
 ∀ (pins:List (Addr×Obj)) (s:Shared) (σ:St) (H:Hp) (xs:List V) (us:List Value) (Q:VK),Inv X pins σ H s->Vals xs us->r xs H Q ->
  wpAny (model X.prog X.w) X.A (call f us) (EP X pins σ Q) X.xe s
def TruR (X:Cx) (r:V->Hp->(Bool->Hp->Prop)->Prop):Prop:=
 ∀ (pins:List (Addr×Obj)) (s:Shared) (σ:St) (H:Hp) (x:V) (v:Value) (Q:Bool->Hp->Prop),Inv X pins σ H s->RelV x v->r x H Q ->
  wpAny (model X.prog X.w) X.A (truthy v) (TP X pins σ Q) X.xe s
def tOp (r:R2) (ta tb:TE):TE:=fun σ H Q=>ta σ H fun x H1=>tb σ H1 fun y H2=>r x y H2 Q
def tUn (r:V->Hp->VK->Prop) (ta:TE):TE:=fun σ H Q=>ta σ H fun x H1=>r x H1 Q
def rI (C:Int->Int->Prop) (g:Int->Int->V):R2:=fun x y H Q=>∃ i j,x=.int i/\y=.int j/\C i j/\Q (g i j) H
def rI0 (g:Int->Int->V):R2:=fun x y H Q=>∃ i j,x=.int i/\y=.int j/\Q (g i j) H
def rU (g:Int->V):V->Hp->VK->Prop:=fun x H Q=>∃ i,x=.int i/\Q (g i) H
section
variable {X:Cx}{a b c:Expr}{ta tb tc:TE}{pos:Pos}
theorem binT (ha:PE X a ta) (hb:PE X b tb) {pins:List (Addr×Obj)}{s:Shared} {σ:St} {H:Hp}{R:V->V->Hp->Prop} (I:Inv X pins σ H s)
  (h:ta σ H fun x H1=>tb σ H1 fun y H2=>R x y H2) {Q:Value->Shared->Prop}{f:Value->Value->Sem Value}
  (hf:∀ v u s2 x y H2,Inv X pins σ H2 s2->RelV x v->RelV y u->R x y H2->wpAny (model X.prog X.w) X.A (f v u) Q X.xe s2) :
  wpAny (model X.prog X.w) X.A (eval a X.env) (fun v s₁=>wpAny (model X.prog X.w) X.A (eval b X.env) (fun u s₂=>wpAny (model X.prog X.w) X.A (f v u) Q X.xe s₂) X.xe s₁) X.xe s:=by
 refine thn (ha pins s σ H _ I h) fun v s1 ⟨x,H1,I1,r1,q1⟩=>?_
 refine thn (hb pins s1 σ H1 _ I1 q1) fun u s2 ⟨y,H2,I2,r2,q2⟩=>?_
 exact hf v u s2 x y H2 I2 r1 r2 q2
theorem pe_op {op:Operator}{r:R2} (ho:OpR X (binaryOp op) r) (ha:PE X a ta) (hb:PE X b tb):PE X (.BinOp a op b pos) (tOp r ta tb):=by
 intro pins s σ H Q I h
 exact wpAny_BinOp (binT ha hb I h fun v u s2 x y H2 I2 rx ry q=>ho pins s2 σ H2 x y v u Q I2 rx ry q)
theorem pe_un {op:UnaryOp}{r:V->Hp->VK->Prop} (ho:UnR X (unaryOp op) r) (ha:PE X a ta):PE X (.UnaryOp op a pos) (tUn r ta):=by
 intro pins s σ H Q I h
 exact UnaryOp_ (thn (ha pins s σ H _ I h) fun v s1 ⟨x,H1,I1,r1,q1⟩=>ho pins s1 σ H1 x v Q I1 r1 q1)
theorem opI {f:Value->Value->Sem Value}{C:Int->Int->Prop}{g:Int->Int->Int}
  (rule:∀ (i j:Int) (t u:Tok) (s:Shared) (Q:Value->Shared->Prop) (E:Value->Shared->Prop),C i j->Q (.int (g i j) s.toks) { s with toks:=s.toks+1 }->wpAny (model X.prog X.w) X.A (f (.int i t) (.int j u)) Q E s) :
  OpR X f (rI C fun i j=>.int (g i j)):=by
 intro pins s σ H x y v u Q I rx ry h
 obtain⟨i,j,rfl,rfl,hc,q⟩:=h
 obtain⟨t,rfl⟩:=rx
 obtain⟨t',rfl⟩:=ry
 exact rule i j t t' s _ _ hc ⟨.int (g i j),H,I.tok _,⟨_,rfl⟩,q⟩
theorem opI0 {f:Value->Value->Sem Value}{g:Int->Int->Int}
  (rule:∀ (i j:Int) (t u:Tok) (s:Shared) (Q:Value->Shared->Prop) (E:Value->Shared->Prop),Q (.int (g i j) s.toks) { s with toks:=s.toks+1 }->wpAny (model X.prog X.w) X.A (f (.int i t) (.int j u)) Q E s) :
  OpR X f (rI0 fun i j=>.int (g i j)):=by
 intro pins s σ H x y v u Q I rx ry h
 obtain⟨i,j,rfl,rfl,q⟩:=h
 obtain⟨t,rfl⟩:=rx
 obtain⟨t',rfl⟩:=ry
 exact rule i j t t' s _ _ ⟨.int (g i j),H,I.tok _,⟨_,rfl⟩,q⟩
theorem opB0 {f:Value->Value->Sem Value}{g:Int->Int->Bool}
  (rule:∀ (i j:Int) (t u:Tok) (s:Shared) (Q:Value->Shared->Prop) (E:Value->Shared->Prop),Q (.bool (g i j)) s->wpAny (model X.prog X.w) X.A (f (.int i t) (.int j u)) Q E s) :
  OpR X f (rI0 fun i j=>.bl (g i j)):=by
 intro pins s σ H x y v u Q I rx ry h
 obtain⟨i,j,rfl,rfl,q⟩:=h
 obtain⟨t,rfl⟩:=rx
 obtain⟨t',rfl⟩:=ry
 exact rule i j t t' s _ _ ⟨.bl (g i j),H,I,rfl,q⟩
def CDiv (i j:Int):Prop:=0<j/\j<1073741824
def CPow (i j:Int):Prop:=0<=j/\j<=1000000/\i.natAbs<2 ^ 64
def CMul (i j:Int):Prop:=(-(2 ^ 64)<i/\i<2 ^ 64)\/(-(2 ^ 64)<j/\j<2 ^ 64)
theorem CMul.ok {i j:Int} (h:CMul i j):IntMulOk i j:=by
 rcases h with ⟨h1,h2⟩ | ⟨h1,h2⟩
 ·exact .of_left (intBits_le_64 h1 h2)
 ·exact .of_right (intBits_le_64 h1 h2)
theorem op_add:OpR X (binaryOp .Add) (rI0 fun i j=>.int (i+j)):=opI0 fun _ _ _ _ _ _ _ q=>add_int q
theorem op_sub:OpR X (binaryOp .Sub) (rI0 fun i j=>.int (i-j)):=opI0 fun _ _ _ _ _ _ _ q=>sub_int q
theorem op_mul:OpR X (binaryOp .Mult) (rI CMul fun i j=>.int (i * j)):=opI fun _ _ _ _ _ _ _ hc q=>mul_int q hc.ok
theorem op_fdiv:OpR X (binaryOp .FloorDiv) (rI CDiv fun i j=>.int (i / j)):=opI fun i j _ _ _ _ _ hc q=>by
 have h1:(0:Int)<j:=hc.1
 have h2:j<1073741824:=hc.2
 exact floordiv_int (by lia) (by rw[Int.fdiv_eq_ediv_of_nonneg i (by lia)];exact q) (.inl (PyProof.noPylong_small (by lia)))
theorem op_mod:OpR X (binaryOp .Mod) (rI (fun _ j=>0<j) fun i j=>.int (i % j)):=opI fun i j _ _ _ _ _ hc q=>by
 have h1:(0:Int)<j:=hc
 exact mod_int' (by lia) (by rw[Int.fmod_eq_emod_of_nonneg i (by lia)];exact q)
theorem op_pow:OpR X (binaryOp .Pow) (rI CPow fun i j=>.int (i ^ j.toNat)):=opI fun _ _ _ _ _ _ _ hc q=>pow_int_small hc.1 hc.2.1 hc.2.2 q
theorem unI {f:Value->Sem Value}{g:Int->Int}
  (rule:∀ (i:Int) (t:Tok) (s:Shared) (Q:Value->Shared->Prop) (E:Value->Shared->Prop),Q (.int (g i) s.toks) { s with toks:=s.toks+1 }->wpAny (model X.prog X.w) X.A (f (.int i t)) Q E s) :
  UnR X f (rU fun i=>.int (g i)):=by
 intro pins s σ H x v Q I rx h
 obtain⟨i,rfl,q⟩:=h
 obtain⟨t,rfl⟩:=rx
 exact rule i t s _ _ ⟨.int (g i),H,I.tok _,⟨_,rfl⟩,q⟩
theorem un_neg:UnR X (unaryOp .USub) (rU fun i=>.int (-i)):=unI fun _ _ _ _ _ q=>neg_int q
end
def scal:V->V->Bool
 | .non,.non=>true | .non,.int _=>true | .int _,.non=>true | .non,.bl _=>true | .bl _,.non=>true | .non,.str _=>true | .str _,.non=>true
 | .int _,.int _=>true | .bl _,.bl _=>true | .str _,.str _=>true | .byt _,.byt _=>true
 | .int _,.str _=>true | .str _,.int _=>true | .bl _,.str _=>true | .str _,.bl _=>true
 | _,_=>false
def rEq:R2:=fun x y H Q=>scal x y=true/\Q (.bl (decide (x=y))) H
def rNe:R2:=fun x y H Q=>scal x y=true/\Q (.bl (!decide (x=y))) H
theorem dec_int {i j:Int}:decide (V.int i=V.int j)=(i == j):=by
 rw[Bool.eq_iff_iff]
 simp
theorem dec_bl {i j:Bool}:decide (V.bl i=V.bl j)=(i == j):=by
 rw[Bool.eq_iff_iff]
 simp
theorem dec_str {i j:Str}:decide (V.str i=V.str j)=(i == j):=by
 rw[Bool.eq_iff_iff]
 simp
theorem dec_byt {i j:Array UInt8}:decide (V.byt i=V.byt j)=(i.toList == j.toList):=by
 rw[Bool.eq_iff_iff]
 cases i
 cases j
 simp
section
variable {X:Cx}{a b c:Expr}{ta tb tc:TE}{pos:Pos}
theorem fin_bl {pins:List (Addr×Obj)} {σ:St} {H:Hp}{s:Shared}{Q:VK}{k k':Bool} (I:Inv X pins σ H s) (q:Q (.bl k) H) (e:k=k'):EP X pins σ Q (.bool k') s:=by
 subst e
 exact⟨.bl k,H,I,rfl,q⟩
theorem op_eq:OpR X (compareOp .Eq) rEq:=by
 intro pins s σ H x y v u Q I rx ry h
 obtain⟨hs,q⟩:=h
 cases x with
 | non=>
  cases rx
  cases y with
  | non=>cases ry;exact PySem.EqNone.eq_none_none (fin_bl I q (by simp))
  | bl j=>cases ry;exact PySem.EqNone.eq_none_bool (fin_bl I q (by simp))
  | int j=>obtain⟨t',rfl⟩:=ry;exact PySem.EqNone.eq_none_int (fin_bl I q (by simp))
  | str j=>obtain⟨t',rfl⟩:=ry;exact PySem.EqNone.eq_none_str (fin_bl I q (by simp))
  | _=>exact absurd (show false=true from hs) Bool.false_ne_true
 | bl i=>
  cases rx
  cases y with
  | non=>cases ry;exact PySem.EqNone.eq_bool_none (fin_bl I q (by simp))
  | bl j=>cases ry;exact eq_bool (fin_bl I q dec_bl)
  | str j=>obtain⟨t',rfl⟩:=ry;exact PySem.EqMixed.eq_bool_str (fin_bl I q (by simp))
  | _=>exact absurd (show false=true from hs) Bool.false_ne_true
 | int i=>
  obtain⟨t,rfl⟩:=rx
  cases y with
  | non=>cases ry;exact PySem.EqNone.eq_int_none (fin_bl I q (by simp))
  | int j=>obtain⟨t',rfl⟩:=ry;exact eq_int (fin_bl I q dec_int)
  | str j=>obtain⟨t',rfl⟩:=ry;exact PySem.EqMixed.eq_int_str (fin_bl I q (by simp))
  | _=>exact absurd (show false=true from hs) Bool.false_ne_true
 | str i=>
  obtain⟨t,rfl⟩:=rx
  cases y with
  | non=>cases ry;exact PySem.EqNone.eq_str_none (fin_bl I q (by simp))
  | bl j=>cases ry;exact PySem.EqMixed.eq_str_bool (fin_bl I q (by simp))
  | int j=>obtain⟨t',rfl⟩:=ry;exact PySem.EqMixed.eq_str_int (fin_bl I q (by simp))
  | str j=>obtain⟨t',rfl⟩:=ry;exact eq_str (fin_bl I q dec_str)
  | _=>exact absurd (show false=true from hs) Bool.false_ne_true
 | byt i=>
  obtain⟨t,rfl⟩:=rx
  cases y with
  | byt j=>obtain⟨t',rfl⟩:=ry;exact PySem.W.eq_bytes (fin_bl I q dec_byt)
  | _=>exact absurd (show false=true from hs) Bool.false_ne_true
 | _=>cases y <;> exact absurd (show false=true from hs) Bool.false_ne_true
theorem op_ne:OpR X (compareOp .NotEq) rNe:=by
 intro pins s σ H x y v u Q I rx ry h
 obtain⟨hs,q⟩:=h
 cases x with
 | non=>
  cases rx
  cases y with
  | non=>cases ry;exact PySem.EqNone.ne_none_none (fin_bl I q (by simp))
  | bl j=>cases ry;exact PySem.EqNone.ne_none_bool (fin_bl I q (by simp))
  | int j=>obtain⟨t',rfl⟩:=ry;exact PySem.EqNone.ne_none_int (fin_bl I q (by simp))
  | str j=>obtain⟨t',rfl⟩:=ry;exact PySem.EqNone.ne_none_str (fin_bl I q (by simp))
  | _=>exact absurd (show false=true from hs) Bool.false_ne_true
 | bl i=>
  cases rx
  cases y with
  | non=>cases ry;exact PySem.EqNone.ne_bool_none (fin_bl I q (by simp))
  | bl j=>cases ry;exact ne_bool (fin_bl I q (congrArg not dec_bl))
  | str j=>obtain⟨t',rfl⟩:=ry;exact PySem.EqMixed.ne_bool_str (fin_bl I q (by simp))
  | _=>exact absurd (show false=true from hs) Bool.false_ne_true
 | int i=>
  obtain⟨t,rfl⟩:=rx
  cases y with
  | non=>cases ry;exact PySem.EqNone.ne_int_none (fin_bl I q (by simp))
  | int j=>obtain⟨t',rfl⟩:=ry;exact ne_int (fin_bl I q (congrArg not dec_int))
  | str j=>obtain⟨t',rfl⟩:=ry;exact PySem.EqMixed.ne_int_str (fin_bl I q (by simp))
  | _=>exact absurd (show false=true from hs) Bool.false_ne_true
 | str i=>
  obtain⟨t,rfl⟩:=rx
  cases y with
  | non=>cases ry;exact PySem.EqNone.ne_str_none (fin_bl I q (by simp))
  | bl j=>cases ry;exact PySem.EqMixed.ne_str_bool (fin_bl I q (by simp))
  | int j=>obtain⟨t',rfl⟩:=ry;exact PySem.EqMixed.ne_str_int (fin_bl I q (by simp))
  | str j=>obtain⟨t',rfl⟩:=ry;exact ne_str (fin_bl I q (congrArg not dec_str))
  | _=>exact absurd (show false=true from hs) Bool.false_ne_true
 | byt i=>
  obtain⟨t,rfl⟩:=rx
  cases y with
  | byt j=>obtain⟨t',rfl⟩:=ry;exact PySem.W.ne_bytes (fin_bl I q (congrArg not dec_byt))
  | _=>exact absurd (show false=true from hs) Bool.false_ne_true
 | _=>cases y <;> exact absurd (show false=true from hs) Bool.false_ne_true
theorem op_lt:OpR X (compareOp .Lt) (rI0 fun i j=>.bl (decide (i<j))):=opB0 fun _ _ _ _ _ _ _ q=>lt_int q
theorem op_le:OpR X (compareOp .LtE) (rI0 fun i j=>.bl (decide (i<=j))):=opB0 fun _ _ _ _ _ _ _ q=>le_int q
theorem op_gt:OpR X (compareOp .Gt) (rI0 fun i j=>.bl (decide (j<i))):=opB0 fun _ _ _ _ _ _ _ q=>gt_int q
theorem op_ge:OpR X (compareOp .GtE) (rI0 fun i j=>.bl (decide (j<=i))):=opB0 fun _ _ _ _ _ _ _ q=>ge_int q
theorem op_isN:OpR X (compareOp .Is) (fun x y H Q=>y=.non/\Q (.bl (decide (x=.non))) H):=by
 intro pins s σ H x y v u Q I rx ry h
 obtain⟨rfl,q⟩:=h
 cases ry
 refine is_none_gen (fin_bl I q ?_)
 cases x <;> first
  | (cases rx;rfl)
  | (obtain⟨t,rfl⟩:=rx;rfl)
theorem OpR.or {f:Value->Value->Sem Value}{r r':R2} (h:OpR X f r) (h':OpR X f r'):OpR X f (fun x y H Q=>r x y H Q\/r' x y H Q):=by
 intro pins s σ H x y v u Q I rx ry q
 rcases q with q | q
 ·exact h pins s σ H x y v u Q I rx ry q
 ·exact h' pins s σ H x y v u Q I rx ry q
theorem nomark (b:Expr) {op:CmpOp} (h:op≠.In:=by decide) (h2:op≠.NotIn:=by decide):behindInMarks op b=false:=by
 have e1:(op == CmpOp.In)=false:=by cases op <;> first | rfl | exact absurd rfl h
 have e2:(op == CmpOp.NotIn)=false:=by cases op <;> first | rfl | exact absurd rfl h2
 cases b <;> simp [behindInMarks,e1,e2]
theorem pe_cmpR {op:CmpOp}{r:R2} (ho:OpR X (compareOp op) r) (ha:PE X a ta) (hb:PE X b tb) (hm:behindInMarks op b=false):PE X (.Compare a [op] [b] pos) (tOp r ta tb):=by
 intro pins s σ H Q I h
 exact wpAny_Compare1 (binT ha hb I h fun v u s2 x y H2 I2 rx ry q=>ho pins s2 σ H2 x y v u Q I2 rx ry q) hm
def tTest (t:TE):TT:=fun σ H Q=>t σ H fun x H'=>∃ k,x=.bl k/\Q k H'
theorem pt_cmpR {op:CmpOp}{r:R2} (ho:OpR X (compareOp op) r) (ha:PE X a ta) (hb:PE X b tb) (hm:behindInMarks op b=false):PT X (.Compare a [op] [b] pos) (tTest (tOp r ta tb)):=by
 intro pins s σ H Q I h
 refine wpAny_isTrue_Compare1 (thn (ha pins s σ H _ I h) fun v s1 ⟨x,H1,I1,r1,q1⟩=>thn (hb pins s1 σ H1 _ I1 q1) fun u s2 ⟨y,H2,I2,r2,q2⟩=>
  thn (ho pins s2 σ H2 x y v u _ I2 r1 r2 q2) fun c s3 ⟨z,H3,I3,r3,k,e,q3⟩=>?_) hm
 subst e
 cases r3
 exact wpAny_truthy_bool ⟨H3,I3,q3⟩
def tChain (r r':R2) (ta tb tc:TE):TE:=fun σ H Q=>ta σ H fun x H1=>tb σ H1 fun y H2=>r x y H2 fun z H3=>∃ k,z=.bl k /\
 (if k=true then tc σ H3 fun w' H4=>r' y w' H4 Q else Q (.bl false) H3)
theorem pe_chain {op op':CmpOp}{r r':R2} (ho:OpR X (compareOp op) r) (ho':OpR X (compareOp op') r') (ha:PE X a ta) (hb:PE X b tb) (hc:PE X c tc)
  (hm:lastMarks [op,op'] [b,c]=false:=by with_unfolding_all rfl):PE X (.Compare a [op,op'] [b,c] pos) (tChain r r' ta tb tc):=by
 intro pins s σ H Q I h
 refine Compare_chain (thn (ha pins s σ H _ I h) fun v s1 ⟨x,H1,I1,r1,q1⟩=>chain_link (thn (hb pins s1 σ H1 _ I1 q1) fun u s2 ⟨y,H2,I2,r2,q2⟩=>
  thn (ho pins s2 σ H2 x y v u _ I2 r1 r2 q2) fun d s3 ⟨z,H3,I3,r3,k,e,q3⟩=>?_)) hm
 subst e
 cases r3
 refine wpAny_truthy_bool ?_
 cases k with
 | false=>exact ite_ff ⟨.bl false,H3,I3,rfl,q3⟩
 | true=>exact ite_tt (chain_last (thn (hc pins s3 σ H3 _ I3 q3) fun w' s4 ⟨z',H4,I4,r4,q4⟩=>ho' pins s4 σ H4 y z' u w' Q I4 r2 r4 q4))
def TruV (K:PySem.W.Frag) (x:V) (H:Hp) (k:Bool):Prop:=
 match x with
 | .non=>k=false
 | .bl b=>k=b
 | .int i=>k=(i != 0)
 | .str y=>y.length<=sizeLine/\k=((y.length:Int) != 0)
 | .byt y=>y.size<=sizeLine/\k=((y.size:Int) != 0)
 | .ref p=>(∃ xs,SqL K H p xs/\k=!xs.isEmpty)\/(∃ xs,SqT K H p xs/\k=!xs.isEmpty)\/∃ kvs,H p=some (.dK kvs)/\k=!kvs.isEmpty
 | _=>False
theorem isEmpty_kv {κ:Type} {kvs:List (κ×V)}{vs:List (κ×Value)} (r:KV kvs vs):(!vs.isEmpty)=!kvs.isEmpty:=by
 cases r <;> rfl
theorem isEmpty_of {xs:List V}{its:List Value} (r:Vals xs its):(!its.toArray.isEmpty)=!xs.isEmpty:=by
 cases r <;> simp
theorem line63:(sizeLine:Nat)<2 ^ 63:=by rw[sizeLine_eq];decide
theorem tru_ok:TruR X (fun x H Q=>∃ k,TruV X.K x H k/\Q k H):=by
 intro pins s σ H x v Q I rx h
 obtain⟨k,e,q⟩:=h
 have hl:=line63
 have hs:sizeLine=16777216:=sizeLine_eq
 cases x with
 | non=>
  cases rx
  have e':k=false:=e
  subst e'
  exact truthy_none ⟨H,I,q⟩
 | bl b=>
  cases rx
  have e':k=b:=e
  subst e'
  exact wpAny_truthy_bool ⟨H,I,q⟩
 | int i=>
  obtain⟨t,rfl⟩:=rx
  have e':k=(i != 0):=e
  subst e'
  exact PySem.P.truthy_int ⟨H,I,q⟩
 | str y=>
  obtain⟨t,rfl⟩:=rx
  obtain⟨hy,e'⟩:y.length<=sizeLine/\k=((y.length:Int) != 0):=e
  subst e'
  exact PySem.P.truthy_str (by lia) ⟨H,I.tok _,q⟩
 | byt y=>
  obtain⟨t,rfl⟩:=rx
  obtain⟨hy,e'⟩:y.size<=sizeLine/\k=((y.size:Int) != 0):=e
  subst e'
  exact PySem.W.truthy_bytes (by lia) ⟨H,I.tok _,q⟩
 | ref p=>
  cases rx
  have e':(∃ xs,SqL X.K H p xs/\k=!xs.isEmpty)\/(∃ xs,SqT X.K H p xs/\k=!xs.isEmpty)\/∃ kvs,H p=some (.dK kvs)/\k=!kvs.isEmpty:=e
  rcases e' with ⟨xs,hx,e'⟩ | ⟨xs,hx,e'⟩ | ⟨kvs,hx,e'⟩
  ·subst e'
   obtain⟨its,r,pl,hz⟩:=I.list hx
   have hlen:=r.length
   exact wpAny_truthy_list pl.isList (by simp only[List.size_toArray];lia) ⟨H,I.tok _,by rw[isEmpty_of r];exact q⟩
  ·subst e'
   obtain⟨its,r,pl,hz⟩:=I.tuple hx
   have hlen:=r.length
   exact truthy_tuple pl (by simp only[List.size_toArray];lia) ⟨H,I.tok _,by rw[isEmpty_of r];exact q⟩
  ·subst e'
   obtain⟨hz,hS,vs,r,m⟩:kvs.length<=sizeLine/\(p == sysModules)=false/\∃ vs,KV kvs vs/\s.heap.DictOf (mixKind X.prog X.w) p vs:=I.hok p _ hx
   have hlen:kvs.length=vs.length:=Paired.length r
   exact wpAny_truthy_dict hS m (by lia) ⟨H,I.tok _,by rw[isEmpty_kv r];exact q⟩
 | _=>exact (show False from e).elim
theorem pt_truth (ha:PE X a ta) (he:∀ whole,isTrue a X.env whole=(do let v <- whole;standAt a.pos;holding [v] (truthy v))) :
  PT X a (fun σ H Q=>ta σ H fun x H'=>∃ k,TruV X.K x H' k/\Q k H'):=by
 intro pins s σ H Q I h
 exact isTrue_plain (thn (ha pins s σ H _ I h) fun v s1 ⟨x,H1,I1,r1,q1⟩=>tru_ok pins s1 σ H1 x v Q I1 r1 q1) (he _)
theorem op_add_str:OpR X (binaryOp .Add) (fun x y H Q=>∃ i j,x=.str i/\y=.str j/\i.length+j.length<=sizeLine/\Q (.str (i++j)) H):=by
 intro pins s σ H x y v u Q I rx ry h
 obtain⟨i,j,rfl,rfl,hz,q⟩:=h
 obtain⟨t,rfl⟩:=rx
 obtain⟨t',rfl⟩:=ry
 exact add_str (fun t' tk=>⟨.str (i++j),H,I.tok _,⟨_,rfl⟩,q⟩) hz
theorem vals1 {x:V}{us:List Value} (r:Vals [x] us):∃ u,us=[u]/\RelV x u:=by
 cases r with
 | cons r1 r2=>cases r2;exact⟨_,rfl,r1⟩
theorem call_int1:CallR X (.type "int") (fun xs H Q=>(∃ i,xs=[.int i]/\Q (.int i) H)\/∃ k,xs=[.bl k]/\Q (.int (if k then 1 else 0)) H):=by
 intro pins s σ H xs us Q I r h
 rcases h with ⟨i,rfl,q⟩ | ⟨k,rfl,q⟩
 ·obtain⟨u,rfl,t,rfl⟩:=vals1 r
  exact call_int_int ⟨.int i,H,I,⟨_,rfl⟩,q⟩
 ·obtain⟨u,rfl,r1⟩:=vals1 r
  cases r1
  exact call_int_bool ⟨.int (if k then 1 else 0),H,I.tok _,⟨_,rfl⟩,q⟩
theorem call_str_int:CallR X (.type "str") (fun xs H Q=>∃ i,xs=[.int i]/\i.natAbs.log2<1920/\Q (.str (toString i)) H):=by
 intro pins s σ H xs us Q I r h
 obtain⟨i,rfl,hz,q⟩:=h
 obtain⟨u,rfl,t,rfl⟩:=vals1 r
 exact PySem.P.str_of_int hz ⟨.str _,H,I.tok _,⟨_,rfl⟩,q⟩
end
end L2
namespace L2
open PySem PySem.Spec PyProof.Rows
structure ObjM (h:Heap) (x dx C:Addr) (mA:Str->Option Value):Prop where
 obj:h.get? x=some (PySem.W.instObj C dx)
 ns:h.Ns1 dx mA
 ne:dx≠x
theorem lookIn_ns {h:Heap}{dx:Addr}{mA:Str->Option Value} (n:h.Ns1 dx mA):∃ od,h.get? dx=some od/\∀ name,PySem.W.lookIn name od=some (mA name):=by
 obtain⟨o,es,ep,ho,hd,hk,_,hm⟩:=n
 refine⟨o,ho,fun name=>?_⟩
 have e:=hm name
 unfold nsFind findBy at e
 rw[<- Array.find?_toList]at e
 unfold PySem.W.lookIn
 rw[hd]
 dsimp only
 split
 ·rename_i y q
  rw[q]at e
  exact congrArg some e
 ·rename_i q
  rw[q]at e
  have a:es.toList.any (·.refKey)=false:=by
   rw[List.any_eq_false]
   intro y hy
   obtain⟨z,t,hkey⟩:=hk y (Array.mem_toList_iff.mp hy)
   simp [DictEntry.refKey,hkey]
  have a':¬es.toList.any (·.refKey)=true:=by rw[a];exact Bool.false_ne_true
  rw[if_neg a']
  exact congrArg some e
theorem ObjM.look {h:Heap}{x dx C:Addr}{mA:Str->Option Value} (I:ObjM h x dx C mA):∃ od,PySem.W.InstAt h x (PySem.W.instObj C dx) C (some od)/\∀ name,PySem.W.lookIn name od=some (mA name):=
 let ⟨od,ho,hl⟩:=lookIn_ns I.ns
 ⟨od,⟨I.obj,rfl,rfl,ho⟩,hl⟩
section
variable {prog:Program}{w:World}{A:Around}{E:Value->Shared->Prop}{s:Shared}{K:PySem.W.Frag}{x dx C f:Addr}{mA:Str->Option Value}{name:Str}{v:Value}
theorem get_map {expr:Bool}{Q:Value->Shared->Prop} (X:K.In s.heap) (I:ObjM s.heap x dx C mA) (hg:PySem.W.plainGet K C name=true) (hh:PySem.W.hasDictIn K C=true)
  (ha:PySem.W.findIn K (.ref C) name=some none) (hv:mA name=some v) (hv':PySem.W.handedIn v=true) (h:Q v { s with toks:=s.toks+1 }) :
  wpAny (model prog w) A (getAttr (.ref x) name expr) Q E s:=by
 obtain⟨od,J,hl⟩:=I.look
 exact PySem.W.get_value X J (PySem.W.plainGet_of hg).1 (PySem.W.findObj_own hh ha rfl (by rw[hl,hv])) hv' h
theorem get_meth {pl:Sem Bool}{Q:Value×List Value->Shared->Prop} (X:K.In s.heap) (I:ObjM s.heap x dx C mA) (hg:PySem.W.plainGet K C name=true)
  (hf:PySem.W.findIn K (.ref C) name=some (some (.ref f))) (ht:PySem.W.isFn K (.ref f)=true) (hv:mA name=none) (h:Q (.ref f,[.ref x]) s) :
  wpAny (model prog w) A (getMethod (.ref x) name pl) Q E s:=by
 obtain⟨od,J,hl⟩:=I.look
 exact PySem.W.method_fn X J (PySem.W.plainGet_of hg).1 (PySem.W.plainGet_of hg).2 hf (beq_iff_eq.mp ht) (by show (PySem.W.lookIn name od).map (·.isSome)=some false;rw[hl,hv];rfl) h
theorem set_map {ns:List Str}{Q:Unit->Shared->Prop} (X:K.In s.heap) (I:ObjM s.heap x dx C mA)
  (hs:PySem.W.findIn K (.ref C) "__setattr__"=some (some (.builtin "object.__setattr__"))) (hp:PySem.W.plainOver K C=true) (ht:PySem.W.takerIn K C name=some none) (hh:PySem.W.hasDictIn K C=true)
  (hw:PySem.Within mA ns) (hsz:ns.length<=sizeLine)
  (h:∀ h',ObjM h' x dx C (fun y=>if y=name then some v else mA y)->Heap.SameBut dx s.heap h'->Q () { s with heap:=h',toks:=s.toks+2 }) :
  wpAny (model prog w) A (setAttr (.ref x) name v) Q E s:=by
 obtain⟨od,J,hl⟩:=I.look
 refine PySem.W.set_plain X J hs (PySem.W.osa_open (s:={ s with toks:=s.toks+1 }) (r:=none) X J hp ht fun b=>?_)
 obtain⟨cd,hc,hd'⟩:=PySem.W.any_some hh
 have hx:s.heap.get? x=some ⟨.ref C,some dx,.plain,#[]⟩:=I.obj
 refine wpAny_bind (wpAny_pure (wpAny_bind (wpAny_bind (wpAny_loadPart hx (wpAny_bind (PySem.W.Looks.here (s:={ s with toks:=s.toks+1 }) (PySem.W.looks_clsIn X hc) ?_))))))
 rw[hd']
 refine wpAny_pure (a:=some dx) (wpAny_bind (wpAny_pure (wpAny_bind ?_)))
 refine wpAny_nsSet1 (s:={ s with toks:=s.toks+1 }) I.ns fun h' hn2 hs2=>?_
 obtain⟨oD,esD,epD,hoD,hdD,hcD⟩:=hn2.count (PySem.Within.cons name v hw)
 refine wpAny_bind (wpAny_lookBehind hoD (by rw[hdD];exact pastItsLine_dict (Nat.le_trans hcD (by rw[List.length_cons];lia))) ?_)
 exact wpAny_pure (h _ ⟨(hs2.2 _ (Ne.symm I.ne)).trans I.obj,hn2,I.ne⟩ hs2)
theorem make_map {R:Result->Shared->Prop}{vs:List Value}{kw:List (Str×Value)} (X:K.In s.heap) (hm:PySem.W.makesIn K C=true)
  (hi:PySem.W.findIn K (.ref C) "__init__"=some (some (.ref f))) (hf:PySem.W.typeIn K (.ref f)=some (.type "function"))
  (h:codeAny (model prog w) (A.under (.builtin "type.__call__" ⟨.ref C::vs,kw⟩)) (.call (.ref f) ⟨.ref (s.heap.objs.size+1)::vs,kw⟩) (PySem.W.InitBack (s.heap.objs.size+1) R)
   { s with heap:=(s.heap.push PySem.W.emptyDict).push (PySem.W.instObj C s.heap.objs.size) }) :
  codeAny (model prog w) A (.call (.ref C) ⟨vs,kw⟩) R s:=by
 obtain⟨hh,g,d,t,os⟩:=s
 exact PySem.W.make_core (PySem.W.makes_of X hm) (PySem.W.looks_findIn X hi) (fun self=>PySem.W.bind_fn X self hf) (.inl rfl) h
end
def putF (f:Str) (v:V):List (Str×V)->List (Str×V)
 | []=>[(f,v)]
 | (g,x)::r=>if g=f then (g,v)::r else (g,x)::putF f v r
theorem lookup_putF (f g:Str) (v:V):∀ fs:List (Str×V),(putF f v fs).lookup g=if g=f then some v else fs.lookup g
 | []=>by
  show List.lookup g [(f,v)]=_
  by_cases h:g=f
  ·have hb:(g == f)=true:=beq_iff_eq.mpr h
   simp only[List.lookup,hb,if_pos h]
  ·have hb:(g == f)=false:=beq_eq_false_iff_ne.mpr h
   simp only[List.lookup,hb,if_neg h]
 | (k,x)::r=>by
  have ih:=lookup_putF f g v r
  rw[show putF f v ((k,x)::r)=(if k=f then (k,v)::r else (k,x)::putF f v r) from rfl]
  by_cases hk:k=f
  ·rw[if_pos hk]
   by_cases h:g=k
   ·have hb:(g == k)=true:=beq_iff_eq.mpr h
    simp only[List.lookup,hb,if_pos (h.trans hk)]
   ·have hb:(g == k)=false:=beq_eq_false_iff_ne.mpr h
    simp only[List.lookup,hb,if_neg (fun e:g=f=>h (e.trans hk.symm))]
  ·rw[if_neg hk]
   by_cases h:g=k
   ·have hb:(g == k)=true:=beq_iff_eq.mpr h
    simp only[List.lookup,hb,if_neg (fun e:g=f=>hk (h.symm.trans e))]
   ·have hb:(g == k)=false:=beq_eq_false_iff_ne.mpr h
    simp only[List.lookup,hb]
    exact ih
theorem keys_putF (f:Str) (v:V):∀ fs:List (Str×V),f∈(putF f v fs).map (·.1)/\∀ g,g∈fs.map (·.1)->g∈(putF f v fs).map (·.1)
 | []=>⟨by simp [putF],fun g h=>by simp at h⟩
 | (k,x)::r=>by
  obtain⟨i1,i2⟩:=keys_putF f v r
  rw[show putF f v ((k,x)::r)=(if k=f then (k,v)::r else (k,x)::putF f v r) from rfl]
  by_cases hk:k=f
  ·rw[if_pos hk]
   subst hk
   exact⟨by simp,fun g h=>by simpa using h⟩
  ·rw[if_neg hk]
   refine⟨?_,fun g h=>?_⟩
   ·rw[List.map_cons]
    exact List.mem_cons_of_mem _ i1
   ·rw[List.map_cons]at h ⊢
    rcases List.mem_cons.mp h with e | e
    ·exact List.mem_cons.mpr (.inl e)
    ·exact List.mem_cons_of_mem _ (i2 g e)
theorem length_putF (f:Str) (v:V):∀ fs:List (Str×V),(putF f v fs).length<=fs.length+1
 | []=>by simp [putF]
 | (k,x)::r=>by
  have ih:=length_putF f v r
  rw[show putF f v ((k,x)::r)=(if k=f then (k,v)::r else (k,x)::putF f v r) from rfl]
  by_cases hk:k=f
  ·rw[if_pos hk,List.length_cons,List.length_cons];lia
  ·rw[if_neg hk,List.length_cons,List.length_cons];lia
theorem RelO.some_of {v:V}{o:Option Value} (r:RelO (some v) o):∃ u,o=some u/\RelV v u:=by
 cases o with
 | none=>exact (show False from r).elim
 | some u=>exact⟨u,rfl,r⟩
theorem RelO.none_of {o:Option Value} (r:RelO none o):o=none:=by
 cases o with
 | none=>rfl
 | some u=>exact (show False from r).elim
theorem handed_of {v:V}{u:Value} (r:RelV v u):PySem.W.handedIn u=true:=by
 cases v with
 | non=>cases (show u=Value.none from r);rfl
 | bl b=>cases (show u=Value.bool b from r);rfl
 | int i=>obtain⟨t,e⟩:=(show ∃ t,u=Value.int i t from r);cases e;rfl
 | str x=>obtain⟨t,e⟩:=(show ∃ t,u=Value.str x t from r);cases e;rfl
 | byt b=>obtain⟨t,e⟩:=(show ∃ t,u=Value.bytes b t from r);cases e;rfl
 | flt b=>obtain⟨t,e⟩:=(show ∃ t,u=Value.float b t from r);cases e;rfl
 | ref a=>cases (show u=Value.ref a from r);rfl
 | ty n=>cases (show u=Value.type n from r);rfl
section
variable {P:Program}{w:World}{H H':Hp}{h h':Heap}{a C dx:Addr}{fs fs':List (Str×V)}
theorem ins_get (hok:HOk P w H h) (e:H a=some (.ins C dx fs)):∃ mA,ObjM h a dx C mA/\(∀ f,RelO (fs.lookup f) (mA f))/\PySem.Within mA (fs.map (·.1))/\fs.length<=1000/\H dx=some (.own a):=by
 obtain⟨d,z,ne,ob,mA,n,r,q⟩:=(show ObjOk P w H h a (.ins C dx fs) from hok a _ e)
 exact⟨mA,⟨ob,n,ne⟩,r,q,z,d⟩
end
structure Cls (K:PySem.W.Frag) (C:Addr):Prop where
 pg:PySem.W.plainGet K C Str.empty=true
 hd:PySem.W.hasDictIn K C=true
 po:PySem.W.plainOver K C=true
 sa:PySem.W.findIn K (.ref C) "__setattr__"=some (some (.builtin "object.__setattr__"))
theorem Cls.get {K:PySem.W.Frag}{C:Addr} (c:Cls K C) (f:Str):PySem.W.plainGet K C f=true:=c.pg
def NoAttr (K:PySem.W.Frag) (C:Addr) (f:Str):Prop:=PySem.W.findIn K (.ref C) f=some none
theorem NoAttr.taker {K:PySem.W.Frag}{C:Addr}{f:Str} (n:NoAttr K C f):PySem.W.takerIn K C f=some none:=by
 unfold PySem.W.takerIn
 rw[show PySem.W.findIn K (.ref C) f=some none from n]
 rfl
structure Meth (K:PySem.W.Frag) (C:Addr) (m:Str) (f:Addr):Prop where
 at_:PySem.W.findIn K (.ref C) m=some (some (.ref f))
 fn:PySem.W.isFn K (.ref f)=true
 kp:PySem.W.keepIn K (.ref f)=true
section
variable {X:Cx}{pins:List (Addr×Obj)} {σ:St} {H:Hp}{s:Shared}{a C dx:Addr}{fs:List (Str×V)}{f:Str}{v:V}{A:Around}{E:Value->Shared->Prop}
theorem getattr_ok {b:Bool}{Q:Value->Shared->Prop} (I:Inv X pins σ H s) (e:H a=some (.ins C dx fs)) (c:Cls X.K C) (n:NoAttr X.K C f) (l:fs.lookup f=some v)
  (h:∀ u s',Inv X pins σ H s'->RelV v u->Q u s'):wpAny (model X.prog X.w) A (getAttr (.ref a) f b) Q E s:=by
 obtain⟨mA,O,r,_,_,_⟩:=ins_get I.hok e
 obtain⟨u,hu,ru⟩:=RelO.some_of (v:=v) (o:=mA f) (by rw[<- l];exact r f)
 exact get_map I.kIn O (c.get f) c.hd n hu (handed_of ru) (h u _ (I.tok _) ru)
theorem getmeth_ok {m:Str}{g:Addr}{pl:Sem Bool}{Q:Value×List Value->Shared->Prop} (I:Inv X pins σ H s) (e:H a=some (.ins C dx fs)) (c:Cls X.K C) (k:Meth X.K C m g) (l:fs.lookup m=none)
  (h:Q (.ref g,[.ref a]) s):wpAny (model X.prog X.w) A (getMethod (.ref a) m pl) Q E s:=by
 obtain⟨mA,O,r,_,_,_⟩:=ins_get I.hok e
 have hn:mA m=none:=RelO.none_of (by rw[<- l];exact r m)
 exact get_meth I.kIn O (c.get m) k.at_ k.fn hn h
theorem setattr_ok {y:V}{u:Value}{Q:Unit->Shared->Prop} (I:Inv X pins σ H s) (e:H a=some (.ins C dx fs)) (c:Cls X.K C) (n:NoAttr X.K C f) (hl:fs.length<1000) (ry:RelV y u)
  (h:∀ s',Inv X pins σ (upd H a (.ins C dx (putF f y fs))) s'->Q () s'):wpAny (model X.prog X.w) A (setAttr (.ref a) f u) Q E s:=by
 obtain⟨mA,O,r,wi,_,ho⟩:=ins_get I.hok e
 have hz:(fs.map (·.1)).length<=sizeLine:=by rw[List.length_map,sizeLine_eq];lia
 refine set_map I.kIn O c.sa c.po n.taker c.hd wi hz fun h' O' sb=>h _ ?_
 have hd:∃ o,h'.get? dx=some o:=let ⟨o,_,_,e',_⟩:=O'.ns;⟨o,e'⟩
 refine I.write (x:=a) (e:=dx) (by rw[e];exact True.intro) (.inr ho) (fun b q hb z=>(sb.2 b hb).trans z) hd ?_
 refine⟨by rw[upd_ne O.ne];exact ho,?_,O.ne,O'.obj,_,O'.ns,fun g=>?_,fun g hg=>?_⟩
 ·have:=length_putF f y fs;lia
 ·show RelO ((putF f y fs).lookup g) (if g=f then some u else mA g)
  rw[lookup_putF]
  by_cases q:g=f
  ·rw[if_pos q,if_pos q];exact ry
  ·rw[if_neg q,if_neg q];exact r g
 ·by_cases q:g=f
  ·rw[q];exact (keys_putF f y fs).1
  ·refine (keys_putF f y fs).2 g (wi g fun z=>hg ?_)
   show (if g=f then some u else mA g)=none
   rw[if_neg q];exact z
theorem Inv.made (I:Inv X pins σ H s):Inv X pins σ (upd (upd H s.heap.objs.size (.own (s.heap.objs.size+1))) (s.heap.objs.size+1) (.ins C s.heap.objs.size []))
  { s with heap:=(s.heap.push PySem.W.emptyDict).push (PySem.W.instObj C s.heap.objs.size) }:=by
 have e1:(s.heap.push PySem.W.emptyDict).get? s.heap.objs.size=some PySem.W.emptyDict:=Heap.get?_push_size s.heap rfl
 have e2:((s.heap.push PySem.W.emptyDict).push (PySem.W.instObj C s.heap.objs.size)).get? (s.heap.objs.size+1)=some (PySem.W.instObj C s.heap.objs.size):=by
  have:=Heap.get?_push_size (s.heap.push PySem.W.emptyDict) (o:=PySem.W.instObj C s.heap.objs.size) rfl
  rwa [Heap.size_push]at this
 have e3:(s.heap.push PySem.W.emptyDict).Ns s.heap.objs.size (fun _=>none):=⟨PySem.W.emptyDict,#[],_,e1,rfl,(fun e he=>absurd he (by simp)),fun _=>rfl⟩
 have I1:=I.laid (a:=s.heap.objs.size) (o:=.own (s.heap.objs.size+1)) (h':=s.heap.push PySem.W.emptyDict) (t':=s.toks) (fun b u q=>Heap.get?_push_of_some _ q) (Nat.le_refl _) ⟨_,e1⟩
 refine I1.laid (a:=s.heap.objs.size+1) (o:=.ins C s.heap.objs.size []) (t':=s.toks) (fun b u q=>Heap.get?_push_of_some _ q) (Nat.le_of_eq (Heap.size_push _ _)) ?_
 have ne:s.heap.objs.size≠s.heap.objs.size+1:=Nat.ne_of_lt (Nat.lt_succ_self _)
 refine⟨by rw[upd_ne ne,upd_same],Nat.zero_le _,ne,e2,fun _=>none,(Heap.Ns1.of_empty e3).at fun o q=>Heap.get?_push_of_some _ q,fun _=>True.intro,fun y hy=>absurd rfl hy⟩
theorem attr_of {prog:Program}{w:World}{env:Env}{e:Expr}{f:Str}{pos:Pos}{s:Shared}{Q:Value->Shared->Prop} (hb:attributeBase e f env (eval e env)=eval e env)
  (h:wpAny (model prog w) A (eval e env) (fun o s₁=>wpAny (model prog w) A (getAttr o f true) Q E s₁) E s):wpAny (model prog w) A (eval (.Attribute e f pos) env) Q E s:=
 Attribute_any_ h (by rw[arm_eval_Attribute,hb])
end
def tFld (K:PySem.W.Frag) (ta:TE) (f:Str):TE:=fun σ H Q=>ta σ H fun x H1=>∃ a C dx fs v,x=.ref a/\H1 a=some (.ins C dx fs)/\Cls K C/\NoAttr K C f/\fs.lookup f=some v/\Q v H1
def sFld (K:PySem.W.Frag) (ta tv:TE) (f:Str):TS:=fun D σ H=>tv σ H fun y H1=>ta σ H1 fun x H2=>∃ a C dx fs,x=.ref a/\H2 a=some (.ins C dx fs)/\Cls K C/\NoAttr K C f/\fs.length<1000 /\
 D.nx σ (upd H2 a (.ins C dx (putF f y fs)))
def InOp (X:Cx) (op:Operator) (rd:V->V->Hp->VK->Prop):Prop:=
 ∀ (pins:List (Addr×Obj)) (s:Shared) (σ:St) (H:Hp) (x y:V) (u v:Value) (Q:VK),Inv X pins σ H s->RelV x u->RelV y v->rd x y H Q->wpAny (model X.prog X.w) X.A (inplaceOp op u v) (EP X pins σ Q) X.xe s
def sFldAug (K:PySem.W.Frag) (ta tv:TE) (rd:V->V->Hp->VK->Prop) (f:Str):TS:=fun D σ H=>ta σ H fun x H1=>∃ a C dx fs v,x=.ref a/\H1 a=some (.ins C dx fs)/\Cls K C/\NoAttr K C f/\fs.lookup f=some v /\
 tv σ H1 fun y H2=>rd v y H2 fun z H3=>∃ dx' fs',H3 a=some (.ins C dx' fs')/\fs'.length<1000/\D.nx σ (upd H3 a (.ins C dx' (putF f z fs')))
section
variable {X:Cx}{o e value:Expr}{f:Str}{pos pos' tpos:Pos}{ta tv:TE}
theorem pe_fld (he:PE X e ta) (hb:attributeBase e f X.env (eval e X.env)=eval e X.env):PE X (.Attribute e f pos) (tFld X.K ta f):=by
 intro pins s σ H Q I h
 refine attr_of hb (thn (he pins s σ H _ I h) fun u s1 ⟨x,H1,I1,rx,a,C,dx,fs,v,ex,ea,c,n,l,q⟩=>?_)
 subst ex
 obtain rfl:u=Value.ref a:=rx
 exact getattr_ok I1 ea c n l fun u' s2 I2 ru=>⟨v,H1,I2,ru,q⟩
theorem ps_fld (ha:PE X o ta) (hv:PE X value tv) (hs:swapsWith value (some (.Attribute o f pos')) pos.line X.env=pure false):PS X (.Assign [.Attribute o f pos'] value pos) (sFld X.K ta tv f):=by
 intro pins s σ H D I h
 refine plainObj_wpAny_Assign_Attribute (thn (hv pins s σ H _ I h) fun u s1 ⟨y,H1,I1,ry,q⟩=>thn (ha pins s1 σ H1 _ I1 q) fun ov s2 ⟨x,H2,I2,rx,a,C,dx,fs,ex,ea,c,n,l,q2⟩=>?_) hs
 subst ex
 obtain rfl:ov=Value.ref a:=rx
 exact setattr_ok I2 ea c n l ry fun s3 I3=>⟨σ,_,I3,q2⟩
theorem ps_fldaug {op:Operator}{rd:V->V->Hp->VK->Prop} (ha:PE X o ta) (hv:PE X value tv) (hop:InOp X op rd):PS X (.AugAssign (.Attribute o f tpos) op value pos) (sFldAug X.K ta tv rd f):=by
 intro pins s σ H D I h
 refine wpAny_AugAssign_AttributeAny (thn (ha pins s σ H _ I h) fun ov s1 ⟨x,H1,I1,rx,a,C,dx,fs,v,ex,ea,c,n,l,q⟩=>?_)
 subst ex
 obtain rfl:ov=Value.ref a:=rx
 refine getattr_ok I1 ea c n l fun u s2 I2 ru=>thn (hv pins s2 σ H1 _ I2 q) fun w3 s3 ⟨y,H2,I3,ry,q3⟩=>thn (hop pins s3 σ H2 v y u w3 _ I3 ru ry q3) fun w4 s4 ⟨z,H3,I4,rz,dx',fs',ea',l',q4⟩=>?_
 exact setattr_ok I4 ea' c n l' rz fun s5 I5=>⟨σ,_,I5,q4⟩
def rAdd:V->V->Hp->VK->Prop:=fun x y H Q=>∃ i j,x=.int i/\y=.int j/\Q (.int (i+j)) H
theorem in_add:InOp X .Add rAdd:=by
 rintro pins s σ H x y u v Q I rx ry ⟨i,j,rfl,rfl,q⟩
 obtain⟨t,rfl⟩:=(show ∃ t,u=Value.int i t from rx)
 obtain⟨t',rfl⟩:=(show ∃ t',v=Value.int j t' from ry)
 exact PyProof.Rows.iadd_int ⟨.int (i+j),H,I.tok _,⟨_,rfl⟩,q⟩
end
section
variable {X:Cx}{pins:List (Addr×Obj)} {σ:St} {H:Hp}{s:Shared}{A:Around}{E:Value->Shared->Prop}{Q:Value->Shared->Prop}{c:Value}{b:Bool}
end
end L2
namespace L2
open PySem PySem.Spec PyProof.Rows
structure Room (k:Nat) (A:Around):Prop where
 hd:A.handled=none
 dp:A.depth+3 * k+5<recursionLimit
 un:A.units+16 * k+200<cLine
theorem Room.mono {j k:Nat}{A:Around} (r:Room k A) (h:j<=k):Room j A:=⟨r.hd,by have:=r.dp;lia,by have:=r.un;lia⟩
theorem Room.deeper {k:Nat}{A:Around} (r:Room (k+1) A) (env:Env):Room k (A.deeper env):=
 ⟨r.hd,by have:=r.dp;show A.depth+1+3 * k+5<_;lia,by have:=r.un;show A.units+3+16 * k+200<_;lia⟩
theorem make_depth {A:Around}{C:Addr}{us:List Value}{kw:List (Str×Value)}:(A.under (.builtin "type.__call__" ⟨.ref C::us,kw⟩)).depth=A.depth+1:=by
 first | rfl | simp [Around.under,Code.weight,Code.isCreation,Code.isGuard,Code.isCaller,Code.frames,Code.isFrame,guardIds]
theorem make_units {A:Around}{C:Addr}{us:List Value}{kw:List (Str×Value)}:(A.under (.builtin "type.__call__" ⟨.ref C::us,kw⟩)).units=A.units+1:=by
 first | rfl | simp [Around.under,Code.cUnits,Code.frames,Code.isFrame]
theorem Room.make {k:Nat}{A:Around} (r:Room (k+1) A) (C:Addr) (us:List Value) (kw:List (Str×Value)):Room k (A.under (.builtin "type.__call__" ⟨.ref C::us,kw⟩)):=
 ⟨r.hd,by have:=r.dp;rw[make_depth];lia,by have:=r.un;rw[make_units];lia⟩
theorem Room.depth {k:Nat}{A:Around} (r:Room k A):A.depth<recursionLimit:=by have:=r.dp;lia
theorem Room.units {k:Nat}{A:Around} (r:Room k A):A.units+64<cLine:=by have:=r.un;lia
def tNil:TA:=fun _ H Q=>Q [] H
def tCons (ta:TE) (tr:TA):TA:=fun σ H Q=>ta σ H fun x H1=>tr σ H1 fun xs H2=>Q (x::xs) H2
section
variable {X:Cx}{e:Expr}{es:List Expr}{te:TE}{t:TA}{pos:Pos}
theorem pa_nil:PA X [] tNil:=fun _ _ _ _ H Q I h=>Calls.spliced_nil ⟨[],H,I,.nil,h⟩
theorem pa_cons (ha:PE X e te) (hr:PA X es t) (hs:starEach (e::es) X.env=(false,eval e X.env)::starEach es X.env:=by rfl):PA X (e::es) (tCons te t):=by
 intro pos pins s σ H Q I h
 rw[hs]
 show wpAny _ _ (spliced ((false,eval e X.env)::backTo pos (starEach es X.env))) _ _ s
 refine Calls.spliced_cons (thn (ha pins s σ H _ I h) fun u s1 ⟨x,H1,I1,r1,q1⟩=>?_)
 exact thn (hr pos pins s1 σ H1 _ I1 q1) fun us s2 ⟨xs,H2,I2,r2,q2⟩=>⟨x::xs,H2,I2,.cons r1 r2,q2⟩
def tTup (t:TA):TE:=fun σ H Q=>t σ H fun xs H1=>xs.length<=sizeLine/\∀ p,H1 p=none->Q (.ref p) (upd H1 p (.tup xs))
def tLst (t:TA):TE:=fun σ H Q=>t σ H fun xs H1=>xs.length<=sizeLine/\∀ p,H1 p=none->Q (.ref p) (upd H1 p (.lst xs))
theorem pe_tup {x1} (h:PA X es t):PE X (.Tuple es x1 pos) (tTup t):=by
 intro pins s σ H Q I hq
 refine wpAny_Tuple_spliced (thn (h pos pins s σ H _ I hq) fun us s1 ⟨xs,H1,I1,r,z,q⟩=>⟨by rw[<- r.length];exact z,?_⟩)
 have hf:H1 s1.heap.objs.size=none:=I1.hok.fresh (Nat.le_refl _)
 refine⟨.ref s1.heap.objs.size,upd H1 s1.heap.objs.size (.tup xs),I1.laid (t':=s1.toks) (fun b u e=>Heap.get?_push_of_some _ e) (Nat.le_refl _) ?_,rfl,q _ hf⟩
 exact⟨tupD_new z,us,r,⟨_,Heap.get?_push_size _ rfl,rfl,_,rfl⟩⟩
theorem pe_lst (h:PA X es t):PE X (.List es pos) (tLst t):=by
 intro pins s σ H Q I hq
 refine wpAny_List_spliced (thn (h pos pins s σ H _ I hq) fun us s1 ⟨xs,H1,I1,r,z,q⟩=>⟨by rw[<- r.length];exact z,?_⟩)
 have hf:H1 s1.heap.objs.size=none:=I1.hok.fresh (Nat.le_refl _)
 refine⟨.ref s1.heap.objs.size,upd H1 s1.heap.objs.size (.lst xs),I1.laid (t':=s1.toks) (fun b u e=>Heap.get?_push_of_some _ e) (Nat.le_refl _) ?_,rfl,q _ hf⟩
 exact⟨z,us,0,r,Heap.get?_push_size _ rfl⟩
end
abbrev Sp:=List V->Hp->VK->XK->Prop
abbrev CXT:=List Env->Hp->Shared->XK->Value->Shared->Prop
structure Env0 (P:Program) (w:World) (K:PySem.W.Frag) (mg:Str->Option Value) (base:Heap) (A:Around) (outer:List Env) (s:Shared) (H:Hp):Prop where
 frames:A.frames=some outer
 mod:Mod K mg base
 bs:∀ b o,base.get? b=some o->s.heap.get? b=some o/\H b=none
 bsz:base.objs.size<=s.heap.objs.size
 funs:s.heap.FunFrames base outer
 frf:∀ b∈frs outer,H b=none
 hok:HOk P w H s.heap
 bare:AllBare s.gens
def CE (outer:List Env) (P:Program) (w:World) (H:Hp) (s:Shared) (Q:VK) (u:Value) (s':Shared):Prop:=
 ∃ v H',s'.os=s.os/\AllBare s'.gens/\Un (frs outer) [] H H' s.heap s'.heap/\HOk P w H' s'.heap/\RelV v u/\Q v H'
def CR (CX:CXT) (outer:List Env) (P:Program) (w:World) (H:Hp) (s:Shared) (Q:VK) (E:XK) (r:Result) (s':Shared):Prop:=
 match r with
 | .ok (.ret u)=>CE outer P w H s Q u s'
 | .ok _=>False
 | .error e=>CX outer H s E e s'
structure FnOk (P:Program) (w:World) (K:PySem.W.Frag) (mg:Str->Option Value) (base:Heap) (CX:CXT) (k:Nat) (f:Addr) (fd:FuncData) (ps:List Str) (sp:Sp):Prop where
 len:∀ vs H Q E,sp vs H Q E->vs.length=ps.length
 run:∀ (A:Around) (outer:List Env) (s:Shared) (H:Hp) (args:Args) (us:List Value) (vs:List V) (Q:VK) (E:XK),Room k A->Env0 P w K mg base A outer s H->BindsTo s fd args (ps.zip us)->Vals vs us->sp vs H Q E ->
  codeAny (model P w) A (.call (.ref f) args) (CR CX outer P w H s Q E) s
theorem FnOk.mono {P:Program}{w:World}{K:PySem.W.Frag}{mg:Str->Option Value}{base:Heap}{CX:CXT}{j k:Nat}{f:Addr}{fd:FuncData}{ps:List Str}{sp:Sp} (F:FnOk P w K mg base CX j f fd ps sp) (h:j<=k) :
  FnOk P w K mg base CX k f fd ps sp:=⟨F.len,fun A outer s H args us vs Q E hr=>F.run A outer s H args us vs Q E (hr.mono h)⟩
theorem Env0.make {P:Program}{w:World}{K:PySem.W.Frag}{mg:Str->Option Value}{base:Heap}{A:Around}{outer:List Env}{s:Shared}{H:Hp} (e:Env0 P w K mg base A outer s H) (C:Addr) (us:List Value) (kw:List (Str×Value)) :
  Env0 P w K mg base (A.under (.builtin "type.__call__" ⟨.ref C::us,kw⟩)) outer s H:=⟨by first | exact e.frames | (simpa [Around.under,Code.envs,Code.isFrame,pushEnvs] using e.frames),e.mod,e.bs,e.bsz,e.funs,e.frf,e.hok,e.bare⟩
section
variable {X:Cx}{pins:List (Addr×Obj)} {σ:St} {H:Hp}{s s':Shared}
theorem Inv.env0 (I:Inv X pins σ H s):Env0 X.prog X.w X.K X.mg X.base X.A X.stack s H:=
 ⟨I.ok.frames,I.ok.mod,I.bs,Nat.le_trans I.ok.bsz I.sz,I.stack,I.stkFree,I.hok,I.bare⟩
theorem Inv.after {Q:VK}{u:Value} (I:Inv X pins σ H s) (h:CE X.stack X.prog X.w H s Q u s'):EP X pins σ Q u s':=by
 obtain⟨v,H',os,bare,un,hok,r,q⟩:=h
 obtain⟨hh,g,d,t,os'⟩:=s'
 obtain rfl:os'=s.os:=os
 exact⟨v,H',I.call (h':=hh) (g':=g) (d':=d) (t':=t) (ch:=[]) un hok bare (fun b z=>absurd z (by simp)),r,q⟩
end
def tCall (sp:Sp) (dvs:List V) (E:XK) (t:TA):TE:=fun σ H Q=>t σ H fun vs H1=>sp (vs++dvs) H1 Q E
def tMeth (C:Addr) (m:Str) (sp:Sp) (dvs:List V) (E:XK) (ta:TE) (t:TA):TE:=fun σ H Q=>ta σ H fun x H1=>∃ a dx fs,x=.ref a/\H1 a=some (.ins C dx fs)/\fs.lookup m=none /\
 t σ H1 fun vs H2=>sp (x::(vs++dvs)) H2 Q E
def tMake (C:Addr) (sp:Sp) (dvs:List V) (E:XK) (t:TA):TE:=fun σ H Q=>t σ H fun vs H1=>∀ x dx,H1 x=none->H1 dx=none->dx≠x ->
 sp (.ref x::(vs++dvs)) (upd (upd H1 dx (.own x)) x (.ins C dx [])) (fun v H2=>v=.non/\Q (.ref x) H2) E
def Binds (K:PySem.W.Frag) (fd:FuncData) (ps:List Str) (ds:List Value):Prop:=
 ∀ (s:Shared) (us:List Value),K.In s.heap->(us++ds).length=ps.length->BindsTo s fd ⟨us,[]⟩ (ps.zip (us++ds))
theorem Binds.all {K:PySem.W.Frag}{fd:FuncData}{ps:List Str} (h:∀ us:List Value,us.length=ps.length->bindArgs fd ⟨us,[]⟩=pure (ps.zip us)):Binds K fd ps []:=fun s us _ hl=>by
 rw[List.append_nil]at hl ⊢
 exact .of_eq (h us hl)
def Passes (CX:CXT) (X:Cx) (E:XK):Prop:=∀ (pins:List (Addr×Obj)) (σ:St) (H:Hp) (s:Shared) (e:Value) (s':Shared),Inv X pins σ H s->CX X.stack H s E e s'->X.xe e s'
section
variable {X:Cx}{CX:CXT}{k:Nat}{f C:Addr}{fd:FuncData}{ps:List Str}{sp:Sp}{dvs:List V}{ds:List Value}{E:XK}{x m:Str}{p pos apos:Pos}{e o:Expr}{es:List Expr}{ta:TE}{t:TA}
theorem run_fn {pins:List (Addr×Obj)} {σ:St} {H:Hp}{s:Shared}{Q:VK}{us:List Value}{vs:List V} (F:FnOk X.prog X.w X.K X.mg X.base CX k f fd ps sp) (hr:Room k X.A) (hb:Binds X.K fd ps ds) (hd:Vals dvs ds) (hx:Passes CX X E)
  (I:Inv X pins σ H s) (r:Vals vs us) (h:sp (vs++dvs) H Q E):wpAny (model X.prog X.w) X.A (call (.ref f) us) (EP X pins σ Q) X.xe s:=by
 have r2:Vals (vs++dvs) (us++ds):=r.append hd
 have hl:(us++ds).length=ps.length:=by rw[<- r2.length];exact F.len _ _ _ _ h
 refine wpAny_call (codeAny_mono (F.run X.A X.stack s H ⟨us,[]⟩ (us++ds) (vs++dvs) Q E hr I.env0 (hb s us I.kIn hl) r2 h) fun r s' hq=>?_)
 cases r with
 | error e=>exact hx pins σ H s e s' I hq
 | ok fl=>
  cases fl with
  | ret u=>exact I.after hq
  | next=>exact False.elim hq
  | brk=>exact False.elim hq
  | cont=>exact False.elim hq
theorem pe_call (F:FnOk X.prog X.w X.K X.mg X.base CX k f fd ps sp) (hr:Room k X.A) (hg:Gl X x) (hm:X.mg x=some (.ref f)) (hk:PySem.W.keepIn X.K (.ref f)=true) (hb:Binds X.K fd ps ds) (hd:Vals dvs ds) (hx:Passes CX X E)
  (ha:PA X (e::es) t) (hdb:(x == ("__debug__" : Str))=false:=by decide) (he:starEach (e::es) X.env=(false,eval e X.env)::starEach es X.env:=by rfl) (hpl:(backTo pos (starEach es X.env)).any (·.1)=false:=by rfl) :
  PE X (.Call (.Name x p) (e::es) [] pos) (tCall sp dvs E t):=by
 intro pins s σ H Q I h
 refine wpAny_Call_Name_kw (ld_glob I hg hm ?_ hdb)
 refine PySem.W.callWith_K (h₀:=X.base) I.ok.mod.kin hk (thn (ha pos pins s σ H _ I h) fun us s1 ⟨vs,H1,I1,r,q⟩=>⟨I1.kIn,?_⟩) he hpl
 exact run_fn F hr hb hd hx I1 r q
theorem pe_meth {pl:Sem Bool} (he:PE X o ta) (c:Cls X.K C) (hm:Meth X.K C m f) (F:FnOk X.prog X.w X.K X.mg X.base CX k f fd ps sp) (hr:Room k X.A) (hb:Binds X.K fd ps ds) (hd:Vals dvs ds) (hx:Passes CX X E) (ha:PA X (e::es) t)
  (hst:starEach (e::es) X.env=(false,eval e X.env)::starEach es X.env:=by rfl) (hpl:(backTo pos (starEach es X.env)).any (·.1)=false:=by rfl)
  (ht:eval (.Call (.Attribute o m apos) (e::es) [] pos) X.env=(do
   let ov <- eval o X.env
   standAt apos.atName
   let (f,first) <- holding [ov] (getMethod ov m pl)
   callWith pos f first (backTo pos (starEach (e::es) X.env)) (backToKw pos (keywordEach [] X.env))):=by rfl) :
  PE X (.Call (.Attribute o m apos) (e::es) [] pos) (tMeth C m sp dvs E ta t):=by
 intro pins s σ H Q I h
 refine PySem.W.methodCall_KW (pl:=pl) (thn (he pins s σ H _ I h) fun u s1 ⟨x,H1,I1,rx,a,dx,fs,ex,ea,l,q⟩=>?_) ht
 subst ex
 obtain rfl:u=Value.ref a:=rx
 refine getmeth_ok I1 ea c hm l ?_
 refine PySem.W.callWith_K (first:=[.ref a]) (h₀:=X.base) I.ok.mod.kin hm.kp (thn (ha pos pins s1 σ H1 _ I1 q) fun us s2 ⟨vs,H2,I2,r,q2⟩=>⟨I2.kIn,?_⟩) hst hpl
 exact run_fn (us:=.ref a::us) (vs:=.ref a::vs) F hr hb hd hx I2 (.cons rfl r) q2
theorem pe_meth0 {pl:Sem Bool} (he:PE X o ta) (c:Cls X.K C) (hm:Meth X.K C m f) (F:FnOk X.prog X.w X.K X.mg X.base CX k f fd ps sp) (hr:Room k X.A) (hb:Binds X.K fd ps ds) (hd:Vals dvs ds) (hx:Passes CX X E)
  (ht:eval (.Call (.Attribute o m apos) [] [] pos) X.env=(do
   let ov <- eval o X.env
   standAt apos.atName
   let (f,first) <- holding [ov] (getMethod ov m pl)
   callWith pos f first (backTo pos (starEach [] X.env)) (backToKw pos (keywordEach [] X.env))):=by rfl) :
  PE X (.Call (.Attribute o m apos) [] [] pos) (tMeth C m sp dvs E ta tNil):=by
 intro pins s σ H Q I h
 refine PySem.W.methodCall_KW (pl:=pl) (thn (he pins s σ H _ I h) fun u s1 ⟨x,H1,I1,rx,a,dx,fs,ex,ea,l,q⟩=>?_) ht
 subst ex
 obtain rfl:u=Value.ref a:=rx
 refine getmeth_ok I1 ea c hm l ?_
 exact PySem.W.callWith_K0 (first:=[.ref a]) I1.kIn hm.kp (run_fn (us:=[.ref a]) (vs:=[.ref a]) F hr hb hd hx I1 (.cons rfl .nil) q)
structure Mk (K:PySem.W.Frag) (C f:Addr):Prop where
 makes:PySem.W.makesIn K C=true
 init:PySem.W.findIn K (.ref C) "__init__"=some (some (.ref f))
 fn:PySem.W.isFn K (.ref f)=true
 kp:PySem.W.keepIn K (.ref C)=true
theorem run_make {pins:List (Addr×Obj)} {σ:St} {H:Hp}{s:Shared}{Q:VK}{us:List Value}{vs:List V} (M:Mk X.K C f) (F:FnOk X.prog X.w X.K X.mg X.base CX k f fd ps sp) (hr:Room (k+1) X.A) (hb:Binds X.K fd ps ds) (hd:Vals dvs ds)
  (hx:Passes CX X E) (I:Inv X pins σ H s) (r:Vals vs us)
  (h:∀ x dx,H x=none->H dx=none->dx≠x->sp (.ref x::(vs++dvs)) (upd (upd H dx (.own x)) x (.ins C dx [])) (fun v H2=>v=.non/\Q (.ref x) H2) E) :
  wpAny (model X.prog X.w) X.A (call (.ref C) us) (EP X pins σ Q) X.xe s:=by
 have hq:=h (s.heap.objs.size+1) s.heap.objs.size (I.hok.fresh (Nat.le_succ _)) (I.hok.fresh (Nat.le_refl _)) (Nat.ne_of_lt (Nat.lt_succ_self _))
 have I2:=Inv.made (C:=C) I
 have r2:Vals (V.ref (s.heap.objs.size+1)::(vs++dvs)) (Value.ref (s.heap.objs.size+1)::(us++ds)):=.cons rfl (r.append hd)
 have hl:(Value.ref (s.heap.objs.size+1)::us++ds).length=ps.length:=by
  have e:=r2.length
  rw[F.len _ _ _ _ hq]at e
  exact e.symm
 refine wpAny_call (make_map (f:=f) I.kIn M.makes M.init (beq_iff_eq.mp M.fn) (codeAny_mono (F.run _ X.stack _ _ ⟨Value.ref (s.heap.objs.size+1)::us,[]⟩ (Value.ref (s.heap.objs.size+1)::(us++ds)) _ _ E (hr.make C us [])
  (I2.env0.make C us []) (hb _ (Value.ref (s.heap.objs.size+1)::us) I2.kIn hl) r2 hq) fun r s' hq'=>?_))
 cases r with
 | error e=>exact hx pins σ _ _ e s' I2 hq'
 | ok fl=>
  cases fl with
  | ret u=>
   obtain⟨v,H',I3,rv,ev,q3⟩:=I2.after hq'
   subst ev
   exact⟨rv,⟨V.ref (s.heap.objs.size+1),H',I3,rfl,q3⟩⟩
  | next=>exact False.elim hq'
  | brk=>exact False.elim hq'
  | cont=>exact False.elim hq'
theorem pe_make (M:Mk X.K C f) (F:FnOk X.prog X.w X.K X.mg X.base CX k f fd ps sp) (hr:Room (k+1) X.A) (hg:Gl X x) (hm:X.mg x=some (.ref C)) (hb:Binds X.K fd ps ds) (hd:Vals dvs ds) (hx:Passes CX X E)
  (ha:PA X (e::es) t) (hdb:(x == ("__debug__" : Str))=false:=by decide) (he:starEach (e::es) X.env=(false,eval e X.env)::starEach es X.env:=by rfl) (hpl:(backTo pos (starEach es X.env)).any (·.1)=false:=by rfl) :
  PE X (.Call (.Name x p) (e::es) [] pos) (tMake C sp dvs E t):=by
 intro pins s σ H Q I h
 refine wpAny_Call_Name_kw (ld_glob I hg hm ?_ hdb)
 refine PySem.W.callWith_K (h₀:=X.base) I.ok.mod.kin M.kp (thn (ha pos pins s σ H _ I h) fun us s1 ⟨vs,H1,I1,r,q⟩=>⟨I1.kIn,?_⟩) he hpl
 exact run_make M F hr hb hd hx I1 r q
end
section
variable {X:Cx}{CX:CXT}{k:Nat}{f C:Addr}{fd:FuncData}{ps ks:List Str}{sp:Sp}{E:XK}{x m:Str}{p pos apos kpos:Pos}{e o:Expr}{es:List Expr}{kws:List Keyword}{te ta:TE}{t tk:TA}{nm:Option Str}
variable {g:List Value->List Value->List Value}{gV:List V->List V->List V}
end
structure FnScope (N P:List Str) (sc:Scope):Prop where
 kind:sc.kind=.function
 co:sc.isCoroutine=false
 gen:sc.isGenerator=false
 nd:N.Nodup
 pre:N.take P.length=P
 par:∀ x∈P,sc.names.lookup x=some .local\/sc.names.lookup x=some .cell
 nofree:∀ y∈sc.names,y.2≠.free
theorem bindL_out {kindOf:Str->Option NameKind}{x:Str}:∀ {binds:List (Str×Value)}{m:Str->Option Value},(∀ v,(x,v) ∉ binds)->bindL kindOf binds m x=m x
 | [],_,_=>rfl
 | (n,v)::r,m,h=>by
  unfold bindL
  rw[bindL_out fun w hw=>h w (List.mem_cons_of_mem _ hw)]
  split
  ·have:x≠n:=by rintro rfl;exact h v List.mem_cons_self
   simp [this]
  ·rfl
theorem bindC_out {kindOf:Str->Option NameKind}{x:Str}:∀ {binds:List (Str×Value)}{m:Str->Option Value},(∀ v,(x,v) ∉ binds)->bindC kindOf binds m x=m x
 | [],_,_=>rfl
 | (n,v)::r,m,h=>by
  unfold bindC
  rw[bindC_out fun w hw=>h w (List.mem_cons_of_mem _ hw)]
  split
  ·rfl
  ·have:x≠n:=by rintro rfl;exact h v List.mem_cons_self
   simp [this]
theorem bindL_get {kindOf:Str->Option NameKind}{x:Str}{v:Value}:∀ {P:List Str}{vs:List Value}{i:Nat}{m:Str->Option Value},P.Nodup->P[i]?=some x->vs[i]?=some v->kindOf x=some .local ->
  bindL kindOf (P.zip vs) m x=some v
 | [],_,_,_,_,h,_,_=>by simp at h
 | _::_,[],_,_,_,_,h,_=>by simp at h
 | p::P,w::vs,0,m,nd,h1,h2,hk=>by
  simp at h1 h2;subst h1;subst h2
  show bindL kindOf ((p,w)::P.zip vs) m p=_
  unfold bindL
  rw[bindL_out fun v hv=>(List.nodup_cons.mp nd).1 (List.of_mem_zip hv).1,if_pos hk]
  simp
 | p::P,w::vs,i+1,m,nd,h1,h2,hk=>by
  show bindL kindOf ((p,w)::P.zip vs) m x=_
  unfold bindL
  exact bindL_get (i:=i) (List.nodup_cons.mp nd).2 (by simpa using h1) (by simpa using h2) hk
theorem bindC_get {kindOf:Str->Option NameKind}{x:Str}{v:Value}:∀ {P:List Str}{vs:List Value}{i:Nat}{m:Str->Option Value},P.Nodup->P[i]?=some x->vs[i]?=some v->kindOf x≠some .local ->
  bindC kindOf (P.zip vs) m x=some v
 | [],_,_,_,_,h,_,_=>by simp at h
 | _::_,[],_,_,_,_,h,_=>by simp at h
 | p::P,w::vs,0,m,nd,h1,h2,hk=>by
  simp at h1 h2;subst h1;subst h2
  show bindC kindOf ((p,w)::P.zip vs) m p=_
  unfold bindC
  rw[bindC_out fun v hv=>(List.nodup_cons.mp nd).1 (List.of_mem_zip hv).1,if_neg hk]
  simp
 | p::P,w::vs,i+1,m,nd,h1,h2,hk=>by
  show bindC kindOf ((p,w)::P.zip vs) m x=_
  unfold bindC
  exact bindC_get (i:=i) (List.nodup_cons.mp nd).2 (by simpa using h1) (by simpa using h2) hk
def start (N:List Str) (vs:List V):St:=vs.map some++List.replicate (N.length-vs.length) none
def cxOf (CX:CXT) (P:Program) (w:World) (K:PySem.W.Frag) (mg:Str->Option Value) (base:Heap) (N:List Str) (qual:Str) (scope:Scope) (f:Addr) (cd:Value) (A:Around) (outer:List Env) (s:Shared) (H:Hp) (E:XK):Cx where
 prog:=P
 w:=w
 K:=K
 mg:=mg
 base:=base
 A:=A.deeper (envOfC qual scope s.heap.objs.size f cd)
 N:=N
 s₀:=s
 H₀:=H
 env:=envOfC qual scope s.heap.objs.size f cd
 outer:=outer
 stack:=envOfC qual scope s.heap.objs.size f cd::outer
 ex:=[]
 calm:=true
 fn:=fun _=>true
 pn:=[]
 xe:=fun e s'=>wpAny (model P w) (A.deeper (envOfC qual scope s.heap.objs.size f cd)) (leaving (envOfC qual scope s.heap.objs.size f cd) e) (fun _ s''=>CX outer H s E e s'') (fun e' s''=>CX outer H s E e' s'') s'
theorem cell_has {sc:Scope}{n:Nat}{x:Str} (h:sc.names.lookup x=some .cell):∃ c,(cellsFrom n sc.names []).lookup x=some c:=by
 have q:=PySem.W.cellsFrom_some sc.names n [] (.inl h)
 exact Option.isSome_iff_exists.mp q
theorem inv_start {CX:CXT}{P:Program}{w:World}{K:PySem.W.Frag}{mg:Str->Option Value}{base:Heap}{N ps:List Str}{qual:Str}{scope:Scope}{f:Addr}{cd:Value}{A:Around}{outer:List Env}{s s1:Shared}{H:Hp}{E:XK}{us:List Value}{vs:List V}
  (S:FnScope N ps scope) (hd:A.handled=none) (e0:Env0 P w K mg base A outer s H) (hl:vs.length=ps.length) (r:Vals vs us)
  (x:InCallC s s.heap.objs.size (bindL (envOfC qual scope s.heap.objs.size f cd).kindOf (ps.zip us) fun _=>none) (cellsFrom (s.heap.objs.size+1) scope.names []) (bindC (envOfC qual scope s.heap.objs.size f cd).kindOf (ps.zip us) fun _=>none) s1) :
  Inv (cxOf CX P w K mg base N qual scope f cd A outer s H E) [] (start N vs) H s1:=by
 have hpl:ps.length<=N.length:=by have:=congrArg List.length S.pre;rw[List.length_take]at this;lia
 obtain⟨h1,tk,rfl,hk⟩:=x.done
 have noA:∀ b:Addr,b ∉ (cxOf CX P w K mg base N qual scope f cd A outer s H E).ex:=fun b z=>absurd (show b∈([]:List Addr) from z) (by simp)
 refine⟨⟨e0.mod,S.kind,rfl,rfl,Nat.le_refl _,fun y z c h1 h2=>?_,fun y hy=>?_,fun y c _ h=>?_,fun _=>hd,Around.frames_deeper e0.frames,.inr ⟨rfl,rfl⟩,fun b z=>absurd z (noA b),e0.bs,e0.bsz,fun b _ _=>noA b,fun b z=>absurd z (noA b),e0.funs,e0.frf⟩,
  rfl,e0.bare,Un.kept hk,⟨_,x.toInCall.ns,fun i y v h1 h2 h3=>?_⟩,fun y c h=>⟨_,x.cell y c h⟩,e0.hok.fresh (Nat.le_refl _),fun y c h=>?_,fun p hp=>absurd (show p∈([]:List (Addr×Obj)) from hp) (by simp),e0.hok.kept hk,?_⟩
 ·exact name_of_addr x.apart (PySem.mem_of_lookup h1) (PySem.mem_of_lookup h2)
 ·have hy:scope.names.lookup y=some .cell\/scope.names.lookup y=some .free:=hy
  rcases hy with hy | hy
  ·exact cell_has hy
  ·exact absurd rfl (S.nofree _ (PySem.mem_of_lookup hy))
 ·exact Nat.le_of_lt (x.above y c (PySem.mem_of_lookup h))
 ·have hi:i<vs.length:=by
   unfold start at h2
   by_cases hi:i<vs.length
   ·exact hi
   ·rw[List.getElem?_append_right (by simpa using hi)]at h2
    rw[List.getElem?_replicate]at h2
    split at h2 <;> cases h2
  have ha:vs[i]?=some v:=by
   unfold start at h2
   rw[List.getElem?_append_left (by simpa using hi),List.getElem?_map]at h2
   cases e:vs[i]? with
   | none=>rw[e]at h2;cases h2
   | some a=>rw[e]at h2;cases h2;rfl
  obtain⟨u,hu,rv⟩:=r.get ha
  have hp:ps[i]?=some y:=by
   rw[<- S.pre,List.getElem?_take_of_lt (by lia)];exact h1
  have ndP:ps.Nodup:=by rw[<- S.pre];exact S.nd.sublist (List.take_sublist _ _)
  refine⟨u,rv,?_⟩
  rcases S.par y (List.mem_of_getElem? hp) with k | k
  ·exact .inl ⟨k,bindL_get ndP hp hu k⟩
  ·obtain⟨c,e⟩:=cell_has (n:=s.heap.objs.size+1) k
   refine .inr ⟨.inl k,c,e,?_⟩
   have q:=x.cell y c e
   rw[bindC_get ndP hp hu (by show scope.names.lookup y≠_;rw[k];decide)]at q
   exact q
 ·exact e0.hok.fresh (Nat.le_of_lt (x.above y c (PySem.mem_of_lookup h)))
 ·unfold start
  show _=N.length
  rw[List.length_append,List.length_map,List.length_replicate]
  lia
theorem fn_of {CX:CXT}{P:Program}{w:World}{K:PySem.W.Frag}{mg:Str->Option Value}{base:Heap}{k:Nat}{f:Addr}{name qual:Str}{params:Arguments}{body:List Stmt}{scope:Scope}{dV kV doc pm cdv ct oc:Value}{an od:Option Addr}
  {osl:Array (Option Value)}{N ps:List Str}{sp:Sp} (lk:K.lookup f=some ⟨oc,od,.func (PySem.W.fnOf name qual params body scope dV kV doc pm an cdv ct),osl⟩) (hcd:PySem.W.codeIn K cdv qual=true) (S:FnScope N ps scope)
  (len:∀ vs H Q E,sp vs H Q E->vs.length=ps.length)
  (hbody:∀ (A:Around) (outer:List Env) (s:Shared) (H:Hp) (vs:List V) (Q:VK) (E:XK),Room k (A.deeper (envOfC qual scope s.heap.objs.size f cdv))->sp vs H Q E ->
   ∃ t,PSs (cxOf CX P w K mg base N qual scope f cdv A outer s H E) body t/\t { nx:=fun _ H'=>Q .non H',rt:=Q } (start N vs) H) :
  FnOk P w K mg base CX (k+1) f (PySem.W.fnOf name qual params body scope dV kV doc pm an cdv ct) ps sp:=by
 refine⟨len,fun A outer s H args us vs Q E hr e0 hb r hsp=>?_⟩
 have hl:=len _ _ _ _ hsp
 have KX:K.In s.heap:=e0.mod.kin.keeps fun b o e=>(e0.bs b o e).1
 have lim:s.heap.NoLimit:=e0.mod.nolimit.keeps fun b o e=>(e0.bs b o e).1
 have hkind:∀ y∈ps.zip us,scope.names.lookup y.1=some .local\/(scope.names.lookup y.1=some .cell/\((cellsFrom (s.heap.objs.size+1) scope.names []).lookup y.1).isSome=true):=fun⟨n,v⟩ hy=>by
  rcases S.par n (List.of_mem_zip hy).1 with q | q
  ·exact .inl q
  ·exact .inr ⟨q,PySem.W.cellsFrom_some _ _ _ (.inl q)⟩
 refine codeAny_call_function hr.depth (KX _ _ lk) rfl S.co S.gen rfl (PySem.W.codeRec_of KX hcd) (hb _ _ _ _ ?_)
 refine wpAny_newFunctionEnv_cells S.kind hkind fun env he s1 x=>?_
 subst he
 refine⟨lim.keeps x.toInCall.keep,codeAny_func ?_⟩
 obtain⟨t,ht,hq⟩:=hbody A outer s H vs Q E (hr.deeper _) hsp
 have I:Inv (cxOf CX P w K mg base N qual scope f cdv A outer s H E) [] (start N vs) H s1:=inv_start S hr.hd e0 hl r x
 refine wpAny_mono (ht [] s1 (start N vs) H _ I hq) (fun fl s' hs=>?_) fun e s' hs=>hs
 have fin:∀ {σ':St} {H':Hp}{v:V}{u:Value},Inv (cxOf CX P w K mg base N qual scope f cdv A outer s H E) [] σ' H' s'->RelV v u->Q v H'->CE outer P w H s Q u s':=
  fun {σ' H' v u} J rv q=>⟨v,H',J.os,J.bare,J.base,J.hok,rv,q⟩
 cases fl with
 | ret u=>
  obtain⟨v,σ',H',J,rv,q⟩:=hs
  exact fin J rv q
 | next=>
  obtain⟨σ',H',J,q⟩:=hs
  exact fin (v:=V.non) (u:=Value.none) J rfl q
 | brk=>
  obtain⟨_,_,_,q⟩:=hs
  exact False.elim q
 | cont=>
  obtain⟨_,_,_,q⟩:=hs
  exact False.elim q
end L2
namespace L2
open PySem PySem.Spec PyProof.Rows
section
variable {X:Cx}{x:Str}{p pos:Pos}{e:Expr}{es:List Expr}{t:TA}{id T:String}{r:List V->Hp->VK->Prop}
def tCB (r:List V->Hp->VK->Prop) (t:TA):TE:=fun σ H Q=>t σ H fun vs H1=>r vs H1 Q
theorem pe_callB (hc:CallR X (.builtin id) r) (hg:Gl X x) (hm:X.mg x=none) (hv:bootBuiltins x=some (.builtin id)) (ha:PA X (e::es) t) (hn:x≠"__name__":=by decide) (hdb:(x == ("__debug__" : Str))=false:=by decide)
  (he:starEach (e::es) X.env=(false,eval e X.env)::starEach es X.env:=by rfl) (hpl:(backTo pos (starEach es X.env)).any (·.1)=false:=by rfl):PE X (.Call (.Name x p) (e::es) [] pos) (tCB r t):=by
 intro pins s σ H Q I h
 refine wpAny_Call_Name_kw (ld_blt I hg hm hv ?_ hn hdb)
 exact PyProof.Rows.callWith_builtin1 (thn (ha pos pins s σ H _ I h) fun us s1 ⟨vs,H1,I1,r1,q1⟩=>hc pins s1 σ H1 vs us Q I1 r1 q1) he hpl
theorem pe_callTy (hc:CallR X (.type T) r) (hg:Gl X x) (hm:X.mg x=none) (hv:bootBuiltins x=some (.type T)) (ha:PA X (e::es) t) (hn:x≠"__name__":=by decide) (hdb:(x == ("__debug__" : Str))=false:=by decide)
  (he:starEach (e::es) X.env=(false,eval e X.env)::starEach es X.env:=by rfl) (hpl:(backTo pos (starEach es X.env)).any (·.1)=false:=by rfl):PE X (.Call (.Name x p) (e::es) [] pos) (tCB r t):=by
 intro pins s σ H Q I h
 refine wpAny_Call_Name_kw (ld_blt I hg hm hv ?_ hn hdb)
 exact PyProof.Rows.callWith_type1 (thn (ha pos pins s σ H _ I h) fun us s1 ⟨vs,H1,I1,r1,q1⟩=>hc pins s1 σ H1 vs us Q I1 r1 q1) he hpl
end
end L2
namespace L2
open PySem PySem.Spec PyProof.Rows
section
variable {κ:Type} [DecidableEq κ]
def valV (kvs:List (κ×V)) (k:κ):Option V:=(kvs.find? fun kv=>decide (kv.1=k)).map (·.2)
def putK (kvs:List (κ×V)) (k:κ) (v:V):List (κ×V):=
 if (kvs.any fun kv=>decide (kv.1=k))=true then kvs.map (fun kv=>if kv.1=k then (kv.1,v) else kv) else kvs++[(k,v)]
theorem valV_pos {p:κ×V}{r:List (κ×V)}{k:κ} (e:p.1=k):valV (p::r) k=some p.2:=by simp [valV,List.find?_cons,e]
theorem valV_neg {p:κ×V}{r:List (κ×V)}{k:κ} (e:¬p.1=k):valV (p::r) k=valV r k:=by simp [valV,List.find?_cons,e]
theorem valV_any (k:κ):∀ kvs:List (κ×V),(kvs.any fun kv=>decide (kv.1=k))=(valV kvs k).isSome
 | []=>rfl
 | p::r=>by
  rw[List.any_cons]
  by_cases e:p.1=k
  ·simp only[valV_pos e,decide_eq_true e,Bool.true_or,Option.isSome_some]
  ·rw[valV_neg e,decide_eq_false e,Bool.false_or];exact valV_any k r
theorem valV_map (k j:κ) (y:V):∀ kvs:List (κ×V),valV (kvs.map fun kv=>if kv.1=k then (kv.1,y) else kv) j=(valV kvs j).map fun x=>if j=k then y else x
 | []=>rfl
 | p::r=>by
  have ih:=valV_map k j y r
  rw[List.map_cons]
  by_cases h:p.1=k
  ·rw[if_pos h]
   by_cases e:p.1=j
   ·rw[valV_pos (p:=(p.1,y)) e,valV_pos e,Option.map_some,if_pos (e.symm.trans h)]
   ·rw[valV_neg (p:=(p.1,y)) e,valV_neg e,ih]
  ·rw[if_neg h]
   by_cases e:p.1=j
   ·rw[valV_pos (p:=p) e,valV_pos e,Option.map_some,if_neg (fun z=>h (e.trans z))]
   ·rw[valV_neg (p:=p) e,valV_neg e,ih]
theorem valV_snoc (k j:κ) (y:V):∀ kvs:List (κ×V),valV kvs k=none->valV (kvs++[(k,y)]) j=if j=k then some y else valV kvs j
 | [],_=>by
  by_cases e:k=j
  ·rw[if_pos e.symm];exact valV_pos (p:=(k,y)) e
  ·rw[if_neg (fun z=>e z.symm)];exact valV_neg (p:=(k,y)) e
 | p::r,hn=>by
  rw[List.cons_append]
  have hk:¬p.1=k:=fun z=>by rw[valV_pos z]at hn;cases hn
  rw[valV_neg hk]at hn
  have ih:=valV_snoc k j y r hn
  by_cases e:p.1=j
  ·rw[valV_pos e,valV_pos e,if_neg (fun z=>hk (e.trans z))]
  ·rw[valV_neg e,valV_neg e,ih]
theorem valV_put (kvs:List (κ×V)) (k j:κ) (y:V):valV (putK kvs k y) j=if j=k then some y else valV kvs j:=by
 unfold putK
 by_cases a:(kvs.any fun kv=>decide (kv.1=k))=true
 ·rw[if_pos a,valV_map]
  rw[valV_any]at a
  by_cases e:j=k
  ·obtain⟨x,hx⟩:=Option.isSome_iff_exists.mp a
   rw[if_pos e,e,hx,Option.map_some,if_pos rfl]
  ·rw[if_neg e]
   cases valV kvs j with
   | none=>rfl
   | some x=>rw[Option.map_some,if_neg e]
 ·rw[if_neg a]
  refine valV_snoc k j y kvs ?_
  rw[valV_any]at a
  cases q:valV kvs k with
  | none=>rfl
  | some x=>rw[q]at a;exact (a rfl).elim
theorem length_putK (kvs:List (κ×V)) (k:κ) (v:V):(putK kvs k v).length<=kvs.length+1:=by
 unfold putK
 split
 ·rw[List.length_map];lia
 ·rw[List.length_append,List.length_cons,List.length_nil];lia
theorem putK_new {kvs:List (κ×V)}{k:κ} (v:V) (h:valV kvs k=none):putK kvs k v=kvs++[(k,v)]:=by
 unfold putK
 rw[valV_any,h]
 exact if_neg (by decide)
theorem RelO.isSome_eq {o:Option V}{u:Option Value} (r:RelO o u):o.isSome=u.isSome:=by
 cases o with
 | none=>cases u with
  | none=>rfl
  | some _=>exact (show False from r).elim
 | some _=>cases u with
  | none=>exact (show False from r).elim
  | some _=>rfl
theorem RelO.getD {o:Option V}{u:Option Value}{d:V}{d':Value} (r:RelO o u) (rd:RelV d d'):RelV (o.getD d) (u.getD d'):=by
 cases o with
 | none=>cases u with
  | none=>exact rd
  | some _=>exact (show False from r).elim
 | some _=>cases u with
  | none=>exact (show False from r).elim
  | some _=>exact r
theorem KV.val {kvs:List (κ×V)}{vs:List (κ×Value)} (r:KV kvs vs) (k:κ):RelO (valV kvs k) (valueAt vs k):=by
 unfold KV at r
 induction r with
 | nil=>exact True.intro
 | @cons p q ps qs h t ih=>
  obtain⟨h1,h2⟩:=h
  by_cases e:p.1=k
  ·have e':q.1=k:=h1.symm.trans e
   have b:valueAt (q::qs) k=some q.2:=by simp [valueAt,List.find?_cons,e']
   rw[valV_pos e,b];exact h2
  ·have e':¬q.1=k:=fun z=>e (h1.trans z)
   have b:valueAt (q::qs) k=valueAt qs k:=by simp [valueAt,List.find?_cons,e']
   rw[valV_neg e,b];exact ih
theorem KV.any {kvs:List (κ×V)}{vs:List (κ×Value)} (r:KV kvs vs) (k:κ):(kvs.any fun kv=>decide (kv.1=k))=vs.any fun kv=>decide (kv.1=k):=by
 unfold KV at r
 induction r with
 | nil=>rfl
 | cons h t ih=>rw[List.any_cons,List.any_cons,ih,h.1]
theorem KV.repl {kvs:List (κ×V)}{vs:List (κ×Value)} (r:KV kvs vs) (k:κ) {y:V}{u:Value} (ry:RelV y u) :
  KV (kvs.map fun kv=>if kv.1=k then (kv.1,y) else kv) (vs.map fun kv=>if kv.1=k then (kv.1,u) else kv):=by
 unfold KV at r ⊢
 induction r with
 | nil=>exact .nil
 | @cons p q ps qs h t ih=>
  rw[List.map_cons,List.map_cons]
  refine .cons ?_ ih
  obtain⟨h1,h2⟩:=h
  by_cases e:p.1=k
  ·rw[if_pos e,if_pos (h1.symm.trans e)];exact⟨h1,ry⟩
  ·rw[if_neg e,if_neg (fun z=>e (h1.trans z))];exact⟨h1,h2⟩
theorem KV.put {kvs:List (κ×V)}{vs:List (κ×Value)} (r:KV kvs vs) (k:κ) {y:V}{u:Value} (ry:RelV y u):KV (putK kvs k y) (stored vs k u):=by
 unfold putK stored
 rw[r.any k]
 by_cases e:(vs.any fun kv=>decide (kv.1=k))=true
 ·rw[if_pos e,if_pos e];exact r.repl k ry
 ·rw[if_neg e,if_neg e];exact Paired.snoc r ⟨rfl,ry⟩
theorem KV.length {kvs:List (κ×V)}{vs:List (κ×Value)} (r:KV kvs vs):kvs.length=vs.length:=Paired.length r
end
theorem kV_is {P:Program}{w:World}{k:Key}{u:Value} (r:RelV (kV k) u):(mixKind P w).is k u=true:=by
 cases k with
 | inl i=>obtain⟨t,e⟩:=(show ∃ t,u=Value.int i t from r);subst e;exact mixKind_int P w i t
 | inr x=>obtain⟨t,e⟩:=(show ∃ t,u=Value.str x t from r);subst e;exact mixKind_str P w x t
theorem items_are {P:Program}{w:World}:∀ {ks:List Key}{us:List Value},Vals (ks.map kV) us->ItemsAre (mixKind P w) ks us
 | [],_,r=>by rw[List.map_nil]at r;cases r;exact .nil
 | k::ks,_,r=>by
  rw[List.map_cons]at r
  cases r with
  | cons h t=>exact .cons (kV_is h) (items_are t)
abbrev KT (H:Hp):List (List Key×V)->List (List Key×Addr×Value)->Prop:=Paired fun p q=>p.1=q.1/\H q.2.1=some (.tup (p.1.map kV))/\RelV p.2 q.2.2
theorem KT.val {H:Hp}{kvs:List (List Key×V)}{xs:List (List Key×Addr×Value)} (r:KT H kvs xs) (k:List Key):RelO (valV kvs k) ((atKey xs k).map (·.2)):=by
 induction r with
 | nil=>exact True.intro
 | @cons p q ps qs h t ih=>
  obtain⟨h1,_,h2⟩:=h
  by_cases e:p.1=k
  ·have e':q.1=k:=h1.symm.trans e
   have b:atKey (q::qs) k=some q.2:=by simp [atKey,List.find?_cons,e']
   rw[valV_pos e,b];exact h2
  ·have e':¬q.1=k:=fun z=>e (h1.trans z)
   have b:atKey (q::qs) k=atKey qs k:=by simp [atKey,List.find?_cons,e']
   rw[valV_neg e,b];exact ih
theorem KT.repl {H:Hp}{kvs:List (List Key×V)}{xs:List (List Key×Addr×Value)} (r:KT H kvs xs) (k:List Key) {y:V}{u:Value} (ry:RelV y u) :
  KT H (kvs.map fun kv=>if kv.1=k then (kv.1,y) else kv) (xs.map (putAt k u)):=by
 induction r with
 | nil=>exact .nil
 | @cons p q ps qs h t ih=>
  rw[List.map_cons,List.map_cons]
  refine .cons ?_ ih
  obtain⟨h1,h2,h3⟩:=h
  unfold putAt
  by_cases e:p.1=k
  ·rw[if_pos e,if_pos (h1.symm.trans e)];exact⟨h1,h2,ry⟩
  ·rw[if_neg e,if_neg (fun z=>e (h1.trans z))];exact⟨h1,h2,h3⟩
theorem KT.put {H:Hp}{kvs:List (List Key×V)}{xs:List (List Key×Addr×Value)} (r:KT H kvs xs) (k:List Key) {b:Addr}{y:V}{u:Value} (hb:H b=some (.tup (k.map kV))) (ry:RelV y u) :
  KT H (putK kvs k y) (storedH xs k b u):=by
 have e:(kvs.any fun kv=>decide (kv.1=k))=(atKey xs k).isSome:=by
  rw[valV_any,(r.val k).isSome_eq,Option.isSome_map]
 unfold putK storedH
 rw[e]
 by_cases q:(atKey xs k).isSome=true
 ·rw[if_pos q,if_pos q];exact r.repl k ry
 ·rw[if_neg q,if_neg q];exact Paired.snoc r ⟨rfl,hb,ry⟩
theorem KT.keeps {H H':Hp}{kvs:List (List Key×V)}{xs:List (List Key×Addr×Value)} (r:KT H kvs xs) (ht:∀ b ys,H b=some (.tup ys)->H' b=some (.tup ys)):KT H' kvs xs:=
 Paired.mapP r fun _ _ z=>⟨z.1,ht _ _ z.2.1,z.2.2⟩
section
variable {P:Program}{w:World}{H:Hp}{h:Heap}{a:Addr}
theorem rd_of {u:HO} (ok:HOk P w H h) (e:Rd H a u):ObjOk P w H h a u:=e.ok ok
theorem dk_rd {kvs:List (Key×V)} (ok:HOk P w H h) (e:Rd H a (.dK kvs)):kvs.length<=sizeLine/\(a == sysModules)=false/\∃ vs,KV kvs vs/\h.DictOf (mixKind P w) a vs:=
 show ObjOk P w H h a (.dK kvs) from rd_of ok e
theorem dk_of {kvs:List (Key×V)} (ok:HOk P w H h) (e:H a=some (.dK kvs)):kvs.length<=sizeLine/\(a == sysModules)=false/\∃ vs,KV kvs vs/\h.DictOf (mixKind P w) a vs:=dk_rd ok (.inl e)
theorem key_of {ks:List Key} (ok:HOk P w H h) (e:H a=some (.tup (ks.map kV))):(tupleKind (mixKind P w)).is h ks a:=by
 obtain⟨_,its,r,o,h1,h2,n,h3⟩:=(show ObjOk P w H h a (.tup (ks.map kV)) from ok a _ e)
 exact⟨o,its.toArray,n,h1,h2,h3,by simpa using items_are r⟩
theorem dt_rd {kvs:List (List Key×V)} (ok:HOk P w H h) (e:Rd H a (.dT kvs)):kvs.length<=sizeLine/\(a == sysModules)=false /\
  ∃ xs,KT H kvs xs/\h.DictOfH (tupleKind (mixKind P w)) a xs:=by
 obtain⟨z,y,xs,r,o,es,ep,h1,h2,h3,h4,h5⟩:=(show ObjOk P w H h a (.dT kvs) from rd_of ok e)
 refine⟨z,y,xs,r,o,es,ep,h1,h2,h3,h4,fun x hx=>?_,h5⟩
 have all:∀ {l:List (List Key×V)}{m:List (List Key×Addr×Value)},KT H l m->∀ x∈m,(tupleKind (mixKind P w)).is h x.1 x.2.1:=by
  intro l m q
  induction q with
  | nil=>intro x hx;exact nomatch hx
  | @cons p q ps qs hq t ih=>
   intro x hx
   rcases List.mem_cons.mp hx with e | hx
   ·subst e
    exact key_of ok (by rw[<- hq.1];exact hq.2.1)
   ·exact ih x hx
 exact all r x hx
theorem dt_of {kvs:List (List Key×V)} (ok:HOk P w H h) (e:H a=some (.dT kvs)):kvs.length<=sizeLine/\(a == sysModules)=false /\
  ∃ xs,KT H kvs xs/\h.DictOfH (tupleKind (mixKind P w)) a xs:=dt_rd ok (.inl e)
end
def DGet (H:Hp) (a:Addr) (y:V) (r:Option V):Prop:=
 (∃ kvs k,Rd H a (.dK kvs)/\y=kV k/\r=valV kvs k)\/∃ kvs k b,Rd H a (.dT kvs)/\y=.ref b/\H b=some (.tup (k.map kV))/\r=valV kvs k
def DPut (H:Hp) (a:Addr) (y v:V) (H':Hp):Prop:=
 (∃ kvs k,H a=some (.dK kvs)/\y=kV k/\kvs.length<sizeLine/\H'=upd H a (.dK (putK kvs k v))) \/
 ∃ kvs k b,H a=some (.dT kvs)/\y=.ref b/\H b=some (.tup (k.map kV))/\kvs.length<sizeLine/\H'=upd H a (.dT (putK kvs k v))
theorem DGet.k {H:Hp}{a:Addr}{kvs:List (Key×V)}{k:Key} (e:H a=some (.dK kvs)):DGet H a (kV k) (valV kvs k):=.inl ⟨kvs,k,.inl e,rfl,rfl⟩
theorem DGet.t {H:Hp}{a b:Addr}{kvs:List (List Key×V)}{k:List Key} (e:H a=some (.dT kvs)) (eb:H b=some (.tup (k.map kV))):DGet H a (.ref b) (valV kvs k):=.inr ⟨kvs,k,b,.inl e,rfl,eb,rfl⟩
theorem DPut.k {H:Hp}{a:Addr}{kvs:List (Key×V)}{k:Key}{v:V} (e:H a=some (.dK kvs)) (hl:kvs.length<sizeLine):DPut H a (kV k) v (upd H a (.dK (putK kvs k v))):=.inl ⟨kvs,k,e,rfl,hl,rfl⟩
theorem DPut.t {H:Hp}{a b:Addr}{kvs:List (List Key×V)}{k:List Key}{v:V} (e:H a=some (.dT kvs)) (eb:H b=some (.tup (k.map kV))) (hl:kvs.length<sizeLine) :
  DPut H a (.ref b) v (upd H a (.dT (putK kvs k v))):=.inr ⟨kvs,k,b,e,rfl,eb,hl,rfl⟩
section
variable {X:Cx}{pins:List (Addr×Obj)} {σ:St} {H:Hp}{s:Shared}{a:Addr}{y v:V}{u r:Value}{o:Option V}{A:Around}{E:Value->Shared->Prop}
theorem Inv.big (I:Inv X pins σ H s):sysModules<s.heap.objs.size:=by
 have h:mainGlobals<s.heap.objs.size:=(I.mod.glob.keeps I.bk).lt
 exact Nat.lt_trans (by decide) h
theorem d_getItem {Q:Value->Shared->Prop} (hu:A.units+1<cLine) (I:Inv X pins σ H s) (g:DGet H a y (some v)) (ry:RelV y u) (h:∀ w' s',Inv X pins σ H s'->RelV v w'->Q w' s') :
  wpAny (model X.prog X.w) A (getItem (.ref a) u) Q E s:=by
 rcases g with ⟨kvs,k,e,ey,l⟩ | ⟨kvs,k,b,e,ey,eb,l⟩
 ·subst ey
  obtain⟨z,hd,vs,rel,dd⟩:=dk_rd I.hok e
  obtain⟨w',hw,rw'⟩:=RelO.some_of (v:=v) (o:=valueAt vs k) (by rw[l];exact rel.val k)
  exact wpAny_getItem_of (kV_is ry) dd.mapOf hw (h w' _ (I.tok _) rw')
 ·subst ey
  cases (show u=Value.ref b from ry)
  obtain⟨z,hd,xs,rel,dd⟩:=dt_rd I.hok e
  obtain⟨w',hw,rw'⟩:=RelO.some_of (v:=v) (o:=(atKey xs k).map (·.2)) (by rw[l];exact rel.val k)
  obtain⟨p,hp,hp2⟩:=Option.map_eq_some_iff.mp hw
  refine wpAny_getItem_heap (tupleKind_room_in1 hu) (key_of I.hok eb) dd hp ?_
  rw[hp2]
  exact h w' _ (I.tok _) rw'
theorem d_in {Q:Value->Shared->Prop} (hu:A.units+1<cLine) (I:Inv X pins σ H s) (g:DGet H a y o) (ry:RelV y u) (h:∀ s',Inv X pins σ H s'->Q (.bool o.isSome) s') :
  wpAny (model X.prog X.w) A (compareOp .In u (.ref a)) Q E s:=by
 rcases g with ⟨kvs,k,e,ey,l⟩ | ⟨kvs,k,b,e,ey,eb,l⟩
 ·subst ey
  obtain⟨z,hd,vs,rel,dd⟩:=dk_rd I.hok e
  refine wpAny_in_of (kV_is ry) hd dd.mapOf ?_
  rw[<- (rel.val k).isSome_eq,<- l]
  exact h _ (I.tok _)
 ·subst ey
  cases (show u=Value.ref b from ry)
  obtain⟨z,hd,xs,rel,dd⟩:=dt_rd I.hok e
  refine wpAny_in_heap (tupleKind_room_in1 hu) (key_of I.hok eb) hd dd ?_
  have q:=(rel.val k).isSome_eq
  rw[Option.isSome_map]at q
  rw[<- q,<- l]
  exact h _ (I.tok _)
theorem d_write {h':Heap}{t':Nat}{ob:HO} (I:Inv X pins σ H s) (mu:Mut (H a)) (hs:Heap.SameBut a s.heap h') (he:∃ q,h'.get? a=some q) (new:ObjOk X.prog X.w (upd H a ob) h' a ob) :
  Inv X pins σ (upd H a ob) { s with heap:=h',toks:=t' }:=
 I.write (x:=a) (e:=a) mu (.inl rfl) (fun b q hb z=>(hs.2 b hb).trans z) he new
theorem dk_new {P:Program}{w:World}{H':Hp}{h':Heap}{kvs:List (Key×V)}{vs:List (Key×Value)} (z:kvs.length<=sizeLine) (hd:(a == sysModules)=false) (rel:KV kvs vs) (dd:h'.DictOf (mixKind P w) a vs) :
  ObjOk P w H' h' a (.dK kvs):=⟨z,hd,vs,rel,dd⟩
theorem d_setItem {H':Hp}{Q:Unit->Shared->Prop} (hu:A.units+1<cLine) (I:Inv X pins σ H s) (g:DPut H a y v H') (ry:RelV y u) (rv:RelV v r) (h:∀ s',Inv X pins σ H' s'->Q () s') :
  wpAny (model X.prog X.w) A (setItem (.ref a) u r) Q E s:=by
 rcases g with ⟨kvs,k,e,ey,l,eH⟩ | ⟨kvs,k,b,e,ey,eb,l,eH⟩
 ·subst ey eH
  obtain⟨z,hd,vs,rel,dd⟩:=dk_of I.hok e
  have hz:vs.length<=sizeLine:=by rw[<- rel.length];exact z
  have hl:(putK kvs k v).length<=sizeLine:=by have:=length_putK kvs k v;lia
  refine wpAny_setItem_pairs (hsz:=hz) (kV_is ry) dd fun h' dd' hs=>h _ ?_
  have he:∃ q,h'.get? a=some q:=let ⟨q,_,_,hq,_⟩:=dd';⟨q,hq⟩
  exact d_write I (by rw[e];exact True.intro) hs he (dk_new hl hd (rel.put k rv) dd')
 ·subst ey eH
  cases (show u=Value.ref b from ry)
  obtain⟨z,hd,xs,rel,dd⟩:=dt_of I.hok e
  have hz:xs.length<=sizeLine:=by rw[<- Paired.length rel];exact z
  have hl:(putK kvs k v).length<=sizeLine:=by have:=length_putK kvs k v;lia
  refine wpAny_setItem_heap (hsz:=hz) (tupleKind_room_in1 hu) (key_of I.hok eb) dd fun h' dd' hs=>h _ ?_
  obtain⟨q,es,ep,hq,h2,h3,h4,_,h5⟩:=dd'
  refine d_write I (by rw[e];exact True.intro) hs ⟨q,hq⟩ ⟨hl,hd,_,(rel.put k eb rv).keeps fun c ys ec=>?_,q,es,ep,hq,h2,h3,h4,h5⟩
  rw[upd_ne (ne_of ec e (fun z=>nomatch z))]
  exact ec
end
section
variable {X:Cx}{pins:List (Addr×Obj)} {σ:St} {H:Hp}{s:Shared}{a:Addr}{kvs:List (Key×V)}{k:Key}{u:Value}{A:Around}{E:Value->Shared->Prop}
end
theorem dict_typeIs {X:Cx}{pins:List (Addr×Obj)} {σ:St} {H:Hp}{s:Shared}{a:Addr}{y:V}{o:Option V} (I:Inv X pins σ H s) (g:DGet H a y o):s.TypeIs (.ref a) "dict":=by
 rcases g with ⟨kvs,k,e,_,_⟩ | ⟨kvs,k,b,e,_,_,_⟩
 ·obtain⟨_,_,vs,_,dd⟩:=dk_rd I.hok e
  exact dd.typeIs
 ·obtain⟨_,_,xs,_,dd⟩:=dt_rd I.hok e
  exact dd.typeIs
section
variable {X:Cx}{o i e value:Expr}{pos pos' tpos:Pos}{td ty tv:TE}
end
theorem dk_empty {P:Program}{w:World}{H:Hp} (h:Heap) (hb:sysModules<h.objs.size):ObjOk P w H (h.push { cls:=.type "dict",data:=.dict #[] }) h.objs.size (.dK []):=
 ⟨Nat.zero_le _,beq_eq_false_iff_ne.mpr (Ne.symm (Nat.ne_of_lt hb)),[],.nil,Heap.DictOf.new h⟩
theorem dt_empty {P:Program}{w:World}{H:Hp} (h:Heap) (hb:sysModules<h.objs.size):ObjOk P w H (h.push { cls:=.type "dict",data:=.dict #[] }) h.objs.size (.dT []):=
 ⟨Nat.zero_le _,beq_eq_false_iff_ne.mpr (Ne.symm (Nat.ne_of_lt hb)),[],.nil,_,#[],0,Heap.get?_push_size _ rfl,⟨rfl,rfl,rfl⟩,rfl,rfl,List.nodup_nil⟩
def tDNewK:TE:=fun _ H Q=>∀ p,H p=none->Q (.ref p) (upd H p (.dK []))
def tDNewT:TE:=fun _ H Q=>∀ p,H p=none->Q (.ref p) (upd H p (.dT []))
section
variable {X:Cx}{pos:Pos}
theorem pe_dnewK:PE X (.Dict [] [] pos) tDNewK:=fun pins s σ H Q I h=>
 wpAny_Dict_empty ⟨.ref s.heap.objs.size,_,I.laid (a:=s.heap.objs.size) (o:=.dK []) (t':=s.toks) (fun _ _ q=>Heap.get?_push_of_some _ q) (Nat.le_refl _) (dk_empty s.heap I.big),rfl,h _ (I.hok.fresh (Nat.le_refl _))⟩
theorem pe_dnewT:PE X (.Dict [] [] pos) tDNewT:=fun pins s σ H Q I h=>
 wpAny_Dict_empty ⟨.ref s.heap.objs.size,_,I.laid (a:=s.heap.objs.size) (o:=.dT []) (t':=s.toks) (fun _ _ q=>Heap.get?_push_of_some _ q) (Nat.le_refl _) (dt_empty s.heap I.big),rfl,h _ (I.hok.fresh (Nat.le_refl _))⟩
end
def tPairs:List (TE×TE)->St->Hp->(List (V×V)->Hp->Prop)->Prop
 | [],_,H,Q=>Q [] H
 | (tk,tv)::r,σ,H,Q=>tk σ H fun x H1=>tv σ H1 fun y H2=>tPairs r σ H2 fun ps H3=>Q ((x,y)::ps) H3
abbrev VV:List (V×V)->List (Value×Value)->Prop:=Paired fun p q=>RelV p.1 q.1/\RelV p.2 q.2
def PPs (X:Cx) (pos:Pos) (keys:List (Option Expr)) (values:List Expr) (trs:List (TE×TE)):Prop:=
 ∀ (pins:List (Addr×Obj)) (s:Shared) (σ:St) (H:Hp) (Q:List (V×V)->Hp->Prop),Inv X pins σ H s->tPairs trs σ H Q ->
  wpAny (model X.prog X.w) X.A (evalPairs (pairTrees keys values X.env pos)) (fun vs s'=>∃ ps H',Inv X pins σ H' s'/\VV ps vs/\Q ps H') X.xe s
theorem pps_nil {X:Cx}{pos:Pos}:PPs X pos [] [] []:=fun pins s σ H Q I h=>pairTrees_nil_walk ⟨[],H,I,.nil,h⟩
theorem pps_cons {X:Cx}{pos:Pos}{k v:Expr}{ks:List (Option Expr)}{vs:List Expr}{tk tv:TE}{trs:List (TE×TE)} (hk:PE X k tk) (hv:PE X v tv) (hr:PPs X pos ks vs trs) :
  PPs X pos (some k::ks) (v::vs) ((tk,tv)::trs):=fun pins s σ H Q I h=>
 pairTrees_cons_walk (thn (hk pins s σ H _ I h) fun u s1 ⟨x,H1,I1,rx,q1⟩=>thn (hv pins s1 σ H1 _ I1 q1) fun w2 s2 ⟨y,H2,I2,ry,q2⟩=>
  thn (hr pins s2 σ H2 _ I2 q2) fun ws s3 ⟨ps,H3,I3,rel,q3⟩=>⟨(x,y)::ps,H3,I3,.cons ⟨rx,ry⟩ rel,q3⟩)
def mergeK (kvs more:List (Key×V)):List (Key×V):=more.foldl (fun acc kv=>putK acc kv.1 kv.2) kvs
theorem KV.merge:∀ {more:List (Key×V)}{rs:List (Key×Value)}{kvs:List (Key×V)}{vs:List (Key×Value)},KV more rs->KV kvs vs->KV (mergeK kvs more) (merged vs rs):=by
 intro more rs kvs vs r
 unfold KV at r
 induction r generalizing kvs vs with
 | nil=>intro q;exact q
 | @cons p q ps qs h t ih=>
  intro r0
  have e:KV (putK kvs p.1 p.2) (stored vs q.1 q.2):=by
   have:=r0.put p.1 h.2
   rw[<- h.1];exact this
  exact ih e
theorem length_mergeK:∀ (more kvs:List (Key×V)),(mergeK kvs more).length<=kvs.length+more.length
 | [],kvs=>by show kvs.length<=kvs.length+0;lia
 | p::r,kvs=>by
  have h1:=length_mergeK r (putK kvs p.1 p.2)
  have h2:=length_putK kvs p.1 p.2
  show (mergeK (putK kvs p.1 p.2) r).length<=_
  rw[List.length_cons];lia
theorem carries_of {P:Program}{w:World}:∀ {kvs:List (Key×V)}{ws:List (Value×Value)},VV (kvs.map fun kv=>(kV kv.1,kv.2)) ws->∃ rs,Carries (mixKind P w) ws rs/\KV kvs rs
 | [],_,r=>by rw[List.map_nil]at r;cases r;exact⟨[],True.intro,.nil⟩
 | p::kvs,_,r=>by
  rw[List.map_cons]at r
  cases r with
  | @cons a b as bs h t=>
   obtain⟨rs,c,q⟩:=carries_of (P:=P) (w:=w) t
   obtain⟨b1,b2⟩:=b
   exact⟨(p.1,b2)::rs,⟨kV_is h.1,rfl,c⟩,.cons ⟨rfl,h.2⟩ q⟩
def tDisp (trs:List (TE×TE)):TE:=fun σ H Q=>∀ p,H p=none->tPairs trs σ (upd H p (.dK [])) fun ps H2=>H2 p=some (.dK [])/\∃ kvs:List (Key×V),ps=kvs.map (fun kv=>(kV kv.1,kv.2))/\kvs.length<=15/\Q (.ref p) (upd H2 p (.dK (mergeK [] kvs)))
theorem pe_disp {X:Cx}{pos:Pos}{keys:List (Option Expr)}{values:List Expr}{trs:List (TE×TE)} (h:PPs X pos keys values trs) (hall:keys.all (·.isSome)=true) (hl:keys.length=values.length) (h0:keys≠[])
  (h15:keys.length<=15):PE X (.Dict keys values pos) (tDisp trs):=by
 intro pins s σ H Q I q
 have hn:=I.hok.fresh (Nat.le_refl s.heap.objs.size)
 have I1:=I.laid (a:=s.heap.objs.size) (o:=.dK []) (h':=s.heap.push { cls:=.type "dict",data:=.dict #[] }) (t':=s.toks) (fun _ _ q=>Heap.get?_push_of_some _ q) (Nat.le_refl _) (dk_empty s.heap I.big)
 refine wpAny_Dict_walk (knd:=mixKind X.prog X.w) hall hl h0 h15 (thn (h pins _ σ _ _ I1 (q _ hn)) fun ws s2 ⟨ps,H2,I2,rel,e,kvs,ep,lk,q2⟩=>?_)
 subst ep
 obtain⟨rs,c,rk⟩:=carries_of (P:=X.prog) (w:=X.w) rel
 obtain⟨z,hd,vs0,r0,dd⟩:=dk_of I2.hok e
 cases r0
 refine⟨rs,c,dd,fun h' dd' hs=>⟨.ref s.heap.objs.size,_,?_,rfl,q2⟩⟩
 have hz:(mergeK [] kvs).length<=sizeLine:=by
  have h1:=length_mergeK kvs []
  rw[List.length_nil]at h1
  rw[sizeLine_eq];lia
 have he:∃ q,h'.get? s.heap.objs.size=some q:=let ⟨q,_,_,hq,_⟩:=dd';⟨q,hq⟩
 exact d_write I2 (by rw[e];exact True.intro) hs he (dk_new hz hd (rk.merge .nil) dd')
structure M2 (X:Cx) (o:Expr) (m:Str) (apos:Pos) (e f:Expr) (cpos:Pos):Prop where
 base:attributeBase o m X.env (eval o X.env)=eval o X.env
 few:((backTo cpos (starEach [e,f] X.env)).all (fun x=>!x.1) && (backToKw cpos (keywordEach [] X.env)).all (fun x=>x.1.isSome)
  && decide (([e,f]:List Expr).length+([]:List Keyword).length+(if ([]:List Keyword).isEmpty then 0 else 1)<30))=true
 line:(apos.endLine == cpos.line)=true
 trees:backTo cpos (starEach [e,f] X.env)=[(false,eval e X.env),(false,eval f X.env)]
def IsD (H:Hp) (a:Addr):Prop:=(∃ kvs,Rd H a (.dK kvs))\/∃ kvs,Rd H a (.dT kvs)
theorem isD_at {X:Cx}{pins:List (Addr×Obj)} {σ:St} {H:Hp}{s:Shared}{a:Addr} (I:Inv X pins σ H s) (d:IsD H a) :
  s.TypeIs (.ref a) "dict"/\(∀ b,Value.ref a=.ref b->∃ ob,s.heap.get? b=some ob/\ob.dict=none)/\(a == sysModules)=false:=by
 rcases d with ⟨kvs,e⟩ | ⟨kvs,e⟩
 ·obtain⟨_,hd,vs,_,dd⟩:=dk_rd I.hok e
  refine⟨dd.typeIs,fun b q=>?_,hd⟩
  cases q
  obtain⟨ob,_,_,h1,h2,_⟩:=dd
  exact⟨ob,h1,h2.2.1⟩
 ·obtain⟨_,hd,xs,_,dd⟩:=dt_rd I.hok e
  refine⟨dd.typeIs,fun b q=>?_,hd⟩
  cases q
  obtain⟨ob,_,_,h1,h2,_⟩:=dd
  exact⟨ob,h1,h2.2.1⟩
section
variable {X:Cx}{pins:List (Addr×Obj)} {σ:St} {H:Hp}{s:Shared}{a:Addr}{y d:V}{u r:Value}{o:Option V}{A:Around}{E:Value->Shared->Prop}
theorem d_get2 {Q:Value->Shared->Prop} (hu:A.units+1<cLine) (I:Inv X pins σ H s) (g:DGet H a y o) (ry:RelV y u) (rd:RelV d r) (h:∀ w' s',Inv X pins σ H s'->RelV (o.getD d) w'->Q w' s') :
  wpAny (model X.prog X.w) A (call (.builtin "dict.get") [.ref a,u,r]) Q E s:=by
 rcases g with ⟨kvs,k,e,ey,l⟩ | ⟨kvs,k,b,e,ey,eb,l⟩
 ·subst ey
  obtain⟨z,hd,vs,rel,dd⟩:=dk_rd I.hok e
  refine call_meetsIn PySem.F.slot_dict_get dd.typeIs PySem.F.entry_dict_get (PySem.F.args_dict_get_3 _ _ _) (meets_dict_get_default (mixKind X.prog X.w) a (kV_is ry) hd r) ⟨_,dd.mapOf,h _ _ (I.tok _) ?_⟩
  rw[l]
  exact (rel.val k).getD rd
 ·subst ey
  cases (show u=Value.ref b from ry)
  obtain⟨z,hd,xs,rel,dd⟩:=dt_rd I.hok e
  refine call_meetsIn PySem.F.slot_dict_get dd.typeIs PySem.F.entry_dict_get (PySem.F.args_dict_get_3 _ _ _) (meetsH_dict_get_default (tupleKind (mixKind X.prog X.w)) a b hd r) ⟨tupleKind_room_in1 hu,k,xs,key_of I.hok eb,dd,h _ _ (I.tok _) ?_⟩
  rw[l]
  exact (rel.val k).getD rd
end
def tDGet2 (td ty tx:TE):TE:=fun σ H Q=>td σ H fun x H1=>∃ a,x=.ref a/\IsD H1 a/\ty σ H1 fun y H2=>tx σ H2 fun z H3=>∃ o,DGet H3 a y o/\Q (o.getD z) H3
section
variable {X:Cx}{o e f:Expr}{apos cpos:Pos}{td ty tx:TE}
theorem pe_dget2 (hu:X.A.units+1<cLine) (ho:PE X o td) (he:PE X e ty) (hf:PE X f tx) (m:M2 X o "get" apos e f cpos):PE X (.Call (.Attribute o "get" apos) [e,f] [] cpos) (tDGet2 td ty tx):=by
 intro pins s σ H Q I h
 refine wpAny_Call_method m.base m.few m.line PySem.F.plainAttrs_dict PySem.F.slot_dict_get PySem.F.type_dict_get (thn (ho pins s σ H _ I h) fun u s1 ⟨x,H1,I1,rx,a,ex,d,q1⟩=>?_)
 subst ex
 obtain rfl:u=Value.ref a:=rx
 obtain⟨t1,t2,_⟩:=isD_at I1 d
 refine⟨t1,t2,?_⟩
 rw[m.trees]
 refine Calls.callWith_builtin rfl (Calls.evalArgs_plain (Calls.spliced_cons (thn (he pins s1 σ H1 _ I1 q1) fun iv s2 ⟨y,H2,I2,ry,q2⟩=>
  Calls.spliced_cons (thn (hf pins s2 σ H2 _ I2 q2) fun fv s3 ⟨z,H3,I3,rz,ov,g,q3⟩=>Calls.spliced_nil ?_))))
 exact d_get2 hu I3 g ry rz fun w' s4 I4 rw'=>⟨_,H3,I4,rw',q3⟩
end
section
variable {X:Cx}{pins:List (Addr×Obj)} {σ:St} {H:Hp}{s:Shared}{a:Addr}{kvs:List (Key×V)}{A:Around}{E:Value->Shared->Prop}
end
section
variable {X:Cx}{pins:List (Addr×Obj)} {σ:St} {H:Hp}{s:Shared}{a:Addr}{y:V}{u:Value}{A:Around}{E:Value->Shared->Prop}
end
end L2
namespace HT
open PySem PyProof.Rows
theorem rcLt_int (A:Around) (s:Shared) (a:Int) (t:Tok) (c:Int) (u:Tok) (prog:Program) (w:World) (E:Value->Shared->Prop) (Q:Value->Shared->Prop) (h:Q (.bool (decide (a<c))) s) :
  wpAny (model prog w) A (richCompare .Lt (.int a t) (.int c u)) Q E s:=
 (PyProof.Rows.lt_int h:wpAny (model prog w) A (compareOp .Lt (.int a t) (.int c u)) Q E s)
section
open PySem.SeqAt
open PySem.AutoSeq1 (wpAny_loadPart')
open PySem.MeetsSeq PySem.MeetsSeq2 PySem.MeetsSeq3
end
section
variable {prog:Program}{w:World}{A:Around}{E:Value->Shared->Prop}{s:Shared}
theorem cat_tup {t b:Addr}{vs ws:List Value}{Q:Value->Shared->Prop} (ht:IsTup s.heap t vs.toArray) (hb:IsTup s.heap b ws.toArray) (hv:vs≠[])
  (h1:ws=[]->Q (.ref t) s) (h2:ws≠[]->Q (.ref s.heap.objs.size) { s with heap:=s.heap.push { cls:=.type "tuple",data:=.seq (vs++ws).toArray } })
  (hsz:vs.length+ws.length<=sizeLine):wpAny (model prog w) A (binaryOp .Add (.ref t) (.ref b)) Q E s:=by
 obtain⟨⟨cls,dd,data,sl⟩,ho,hc,n,hd⟩:=id ht
 obtain⟨⟨cls2,dd2,data2,sl2⟩,ho2,hc2,n2,hd2⟩:=id hb
 simp only at hc hd hc2 hd2
 subst hc hd hc2 hd2
 have e:vs.toArray++ws.toArray=(vs++ws).toArray:=by simp
 by_cases hw:ws=[]
 ·exact concat_meets ⟨_,ho,rfl⟩ ⟨_,ho2,rfl⟩ noFill_tuple_add seq_tuple_add PySem.F.slot_tuple_add PySem.F.entry_tuple_add (PySem.F.args_tuple_add_2 _ _)
   (tuple_addW1 t b vs.toArray ws.toArray n n2 dd dd2 sl sl2 (by simpa using hv) (by simp [hw])) ⟨ho,ho2,h1 hw⟩
 ·refine concat_meets ⟨_,ho,rfl⟩ ⟨_,ho2,rfl⟩ noFill_tuple_add seq_tuple_add PySem.F.slot_tuple_add PySem.F.entry_tuple_add (PySem.F.args_tuple_add_2 _ _)
   (tuple_addW2 t b vs.toArray ws.toArray n n2 dd dd2 sl sl2 (by simpa using hv) (by simpa using hw) (by rw[List.size_toArray,List.size_toArray];exact hsz)) ⟨ho,ho2,?_⟩
  rw[e]
  exact h2 hw
def sIx (n d:Nat):Option Int->Nat
 | none=>d
 | some v=>if v<0 then (v+(n:Int)).toNat else min v.toNat n
theorem sIx_le (n d:Nat) (hd:d<=n) (o:Option Int):sIx n d o<=n:=by
 cases o with
 | none=>exact hd
 | some v=>
  show (if v<0 then (v+(n:Int)).toNat else min v.toNat n)<=n
  by_cases hv:v<0
  ·rw[if_pos hv];lia
  ·rw[if_neg hv];exact Nat.min_le_right _ _
theorem clip_eq (v:Int) (n d:Nat):(if v<0 then max (v+(n:Int)) 0 else min v (n:Int))=((sIx n d (some v):Nat):Int):=by
 show (if v<0 then max (v+(n:Int)) 0 else min v (n:Int))=(((if v<0 then (v+(n:Int)).toNat else min v.toNat n):Nat):Int)
 by_cases hv:v<0
 ·simp only[if_pos hv];lia
 ·simp only[if_neg hv];lia
theorem adjust_gen (lo hi:Option Int) (n:Nat):Builtin.Slice.sliceAdjust lo hi 1 (n:Int)=(((sIx n 0 lo:Nat):Int),((sIx n n hi:Nat):Int)):=by
 have h1:¬((1:Int)<0):=by lia
 unfold Builtin.Slice.sliceAdjust
 simp only[h1,if_false]
 refine Prod.ext ?_ ?_
 ·cases lo with
  | none=>rfl
  | some v=>exact clip_eq v n 0
 ·cases hi with
  | none=>rfl
  | some v=>exact clip_eq v n n
theorem places_gen (i j:Nat):Builtin.Slice.slicePlaces (i:Int) (j:Int) 1=j-i:=by
 unfold Builtin.Slice.slicePlaces
 have h1:(1:Int) > 0:=by lia
 simp only[h1,if_true,Int.ediv_one]
 split <;> lia
theorem slicePart_ {v:Value}{o:Option Int}{Q:Option Int->Shared->Prop} (p:IsPart v o) (h:Q o s):wpAny (model prog w) A (Builtin.Slice.slicePartIndex v) Q E s:=by
 cases p with
 | none=>exact slicePart_none h
 | int i t=>exact slicePart_int h
theorem sliceApplied_gen {sl:Addr}{vl vu:Value}{lo hi:Option Int}{n:Nat}{Q:Int×Int×Nat->Shared->Prop} (hs:s.heap.IsSliceOf sl vl vu .none) (pl:IsPart vl lo) (pu:IsPart vu hi)
  (h:Q (((sIx n 0 lo:Nat):Int),1,sIx n n hi-sIx n 0 lo) s):wpAny (model prog w) A (Builtin.Slice.sliceApplied (.ref sl) (pure (n:Int))) Q E s:=by
 obtain⟨os,hos,hcs,hds⟩:=id hs
 unfold Builtin.Slice.sliceApplied Builtin.Slice.sliceFields
 refine wpAny_bind (wpAny_bind (wpAny_field hos hds (x:=vl) rfl (wpAny_bind (wpAny_field hos hds (x:=vu) rfl (wpAny_bind (wpAny_field hos hds (x:=.none) rfl (wpAny_pure ?_)))))))
 refine wpAny_bind (slicePart_none ?_)
 show wpAny _ _ (if ((1:Int) == 0)=true then _ else _) _ _ s
 rw[if_neg (by decide)]
 refine wpAny_bind (slicePart_ pl (wpAny_bind (slicePart_ pu (wpAny_bind (wpAny_pure ?_)))))
 show wpAny _ _ (match Builtin.Slice.sliceAdjust lo hi 1 (n:Int) with | (lo,hi)=>pure (lo,(1:Int),Builtin.Slice.slicePlaces lo hi 1)) _ _ s
 rw[adjust_gen lo hi n]
 show wpAny _ _ (pure (((sIx n 0 lo:Nat):Int),(1:Int),Builtin.Slice.slicePlaces ((sIx n 0 lo:Nat):Int) ((sIx n n hi:Nat):Int) 1)) _ _ s
 rw[places_gen]
 exact wpAny_pure h
theorem pick_gen (xs:Array Value) (i k:Nat):((List.range k).filterMap fun (m:Nat)=>xs[((i:Int)+(m:Int) * 1).toNat]?).toArray=((xs.toList.drop i).take k).toArray:=by
 have e:(fun (m:Nat)=>xs[((i:Int)+(m:Int) * 1).toNat]?)=fun m=>xs[i+m]?:=by
  funext m
  have:((i:Int)+(m:Int) * 1).toNat=i+m:=by lia
  rw[this]
 rw[e]
 have:=pick_run xs i k
 rw[List.filterMap_map]at this
 have e2:((fun x=>xs[x]?) ∘ fun x=>i+x)=fun m=>xs[i+m]?:=rfl
 rw[e2]at this
 rw[this]
theorem getItem_tuple_cut {t sl:Addr}{items:Array Value}{vl vu:Value}{lo hi:Option Int}{Q:Value->Shared->Prop} (ht:IsTup s.heap t items) (hs:s.heap.IsSliceOf sl vl vu .none) (pl:IsPart vl lo) (pu:IsPart vu hi)
  (hw:¬(sIx items.size 0 lo=0/\sIx items.size items.size hi=items.size))
  (h:Q (.ref s.heap.objs.size) { s with heap:=s.heap.push { cls:=.type "tuple",data:=.seq ((items.toList.drop (sIx items.size 0 lo)).take (sIx items.size items.size hi-sIx items.size 0 lo)).toArray } })
  (hsz:items.size<=sizeLine):wpAny (model prog w) A (getItem (.ref t) (.ref sl)) Q E s:=by
 have htake:sizeOk (.seq ((items.toList.drop (sIx items.size 0 lo)).take (sIx items.size items.size hi-sIx items.size 0 lo)).toArray):=by
  show ((items.toList.drop (sIx items.size 0 lo)).take (sIx items.size items.size hi-sIx items.size 0 lo)).toArray.size<=sizeLine
  rw[List.size_toArray,List.length_take,List.length_drop,Array.length_toList]
  lia
 have hj:sIx items.size items.size hi<=items.size:=sIx_le _ _ (Nat.le_refl _) hi
 obtain⟨os,hos,hcs,hds⟩:=id hs
 have hTs:s.TypeIs (.ref sl) "slice":=⟨os,hos,hcs⟩
 unfold getItem
 try with_reducible refine wpAny_holding ?_
 first | refine wpAny_bind (wpAny_pure ?_) | skip
 refine wpAny_bind (wpAny_sequenceKey ht.typeIs (by decide) ?_)
 refine wpAny_bind (wpAny_callSpecial?_slot (name:=Str.ofString "__getitem__") ht.typeIs PyProof.Rows.slot_tuple_getitem
  (wpAny_call_entry PyProof.Rows.slot_tuple_getitem ht.typeIs entry_tuple_getitem ?_ (args_tuple_getitem _ _)))
 show wpAny _ _ (Builtin.Tuple.tupleItemsOf (.ref t) >>= _) _ _ s
 refine wpAny_bind (tupleItemsOf_ ht ?_)
 refine wpAny_bind (wpAny_typeOf hTs ?_)
 rw[if_pos (by decide)]
 refine wpAny_bind (sliceApplied_gen hs pl pu ?_)
 have hno:¬((((sIx items.size 0 lo:Nat):Int) == 0 && (1:Int) == 1 && (sIx items.size items.size hi-sIx items.size 0 lo) == items.size)=true):=by
  intro q
  rw[Bool.and_eq_true,Bool.and_eq_true]at q
  have q1:((sIx items.size 0 lo:Nat):Int)=0:=eq_of_beq q.1.1
  have q2:sIx items.size items.size hi-sIx items.size 0 lo=items.size:=eq_of_beq q.2
  exact hw ⟨by lia,by lia⟩
 show wpAny _ _ (if (((sIx items.size 0 lo:Nat):Int) == 0 && (1:Int) == 1 && (sIx items.size items.size hi-sIx items.size 0 lo) == items.size)=true then _ else _) _ _ s
 rw[if_neg hno,pick_gen]
 first
  | exact wpAny_bind (m:=Builtin.Tuple.tupleExact _) (wpAny_newObj_type (wpAny_pure ⟨_,rfl,wpAny_pure h⟩) htake)
  | exact wpAny_bind (m:=Builtin.Tuple.tupleExact _) (wpAny_newObj_type (wpAny_bind (wpAny_pure (wpAny_pure ⟨_,rfl,wpAny_pure h⟩))) htake)
  | exact wpAny_bind (wpAny_bind (m:=Builtin.Tuple.tupleExact _) (wpAny_newObj_type (wpAny_pure (wpAny_pure ⟨_,rfl,wpAny_pure h⟩)) htake))
  | exact wpAny_bind (wpAny_bind (m:=Builtin.Tuple.tupleExact _) (wpAny_newObj_type (wpAny_pure ⟨_,rfl,wpAny_pure h⟩) htake))
end
end HT
namespace L2
open PySem PySem.Spec PyProof.Rows
abbrev TO:=St->Hp->(Option Int->Hp->Prop)->Prop
def PO (X:Cx) (e:Option Expr) (t:TO):Prop:=
 ∀ (pins:List (Addr×Obj)) (s:Shared) (σ:St) (H:Hp) (Q:Option Int->Hp->Prop),Inv X pins σ H s->t σ H Q ->
  wpAny (model X.prog X.w) X.A (evalPart e X.env) (fun u s'=>∃ o H',Inv X pins σ H' s'/\IsPart u o/\Q o H') X.xe s
def tNoPart:TO:=fun _ H Q=>Q none H
def tPart (t:TE):TO:=fun σ H Q=>t σ H fun x H1=>∃ i,x=.int i/\Q (some i) H1
section
variable {X:Cx}{e:Expr}{te:TE}{lo hi:Option Expr}{tl th:TO}{pos p2:Pos}
theorem po_none:PO X none tNoPart:=by
 intro pins s σ H Q I h
 rw[evalPart_none]
 exact wpAny_pure ⟨none,H,I,.none,h⟩
theorem po_some (h:PE X e te):PO X (some e) (tPart te):=by
 intro pins s σ H Q I hw
 rw[evalPart_some]
 refine thn (h pins s σ H _ I hw) fun u s1 ⟨x,H1,I1,r1,q1⟩=>?_
 obtain⟨i,rfl,q⟩:=q1
 obtain⟨t,rfl⟩:=r1
 exact⟨some i,H1,I1,.int i t,q⟩
def SlR (X:Cx) (r:V->Option Int->Option Int->Hp->VK->Prop):Prop:=
 ∀ (pins:List (Addr×Obj)) (s:Shared) (σ:St) (H:Hp) (x:V) (v vl vu:Value) (lo hi:Option Int) (sl:Addr) (Q:VK),Inv X pins σ H s->RelV x v->s.heap.IsSliceOf sl vl vu .none->IsPart vl lo->IsPart vu hi->r x lo hi H Q ->
  ∃ T id,typeLookup (.type T) "__getitem__"=pure (some (.builtin id))/\s.TypeIs v T/\wpAny (model X.prog X.w) X.A (getItem v (.ref sl)) (EP X pins σ Q) X.xe s
theorem SlR.or {r r':V->Option Int->Option Int->Hp->VK->Prop} (h:SlR X r) (h':SlR X r'):SlR X (fun x lo hi H Q=>r x lo hi H Q\/r' x lo hi H Q):=by
 intro pins s σ H x v vl vu lo hi sl Q I rx hs pl pu q
 rcases q with q | q
 ·exact h pins s σ H x v vl vu lo hi sl Q I rx hs pl pu q
 ·exact h' pins s σ H x v vl vu lo hi sl Q I rx hs pl pu q
def tSl (r:V->Option Int->Option Int->Hp->VK->Prop) (te:TE) (tl th:TO):TE:=fun σ H Q=>te σ H fun x H1=>tl σ H1 fun l H2=>th σ H2 fun u H3=>r x l u H3 Q
theorem pe_slice {r:V->Option Int->Option Int->Hp->VK->Prop} (hr:SlR X r) (he:PE X e te) (hl:PO X lo tl) (hu:PO X hi th):PE X (.Subscript e (.Slice lo hi none p2) pos) (tSl r te tl th):=by
 intro pins s σ H Q I h
 refine Subscript_ (thn (he pins s σ H _ I h) fun v s1 ⟨x,H1,I1,r1,q1⟩=>?_)
 refine wpAny_Slice (thn (hl pins s1 σ H1 _ I1 q1) fun vl s2 ⟨l,H2,I2,pl,q2⟩=>thn (hu pins s2 σ H2 _ I2 q2) fun vu s3 ⟨u,H3,I3,pu,q3⟩=>?_)
 rw[evalPart_none]
 refine wpAny_pure ?_
 have I4:Inv X pins σ H3 { s3 with heap:=s3.heap.push { cls:=.type "slice",data:=.fields #[vl,vu,.none] } }:=I3.kept (t':=s3.toks) fun b ob q=>Heap.get?_push_of_some _ q
 obtain⟨T,id,hT,ht,hg⟩:=hr pins { s3 with heap:=s3.heap.push { cls:=.type "slice",data:=.fields #[vl,vu,.none] } } σ H3 x v vl vu l u s3.heap.objs.size Q I4 r1 (Heap.IsSliceOf.new ..) pl pu q3
 show wpAny (model X.prog X.w) X.A (subscriptTail e (.Slice lo hi none p2) v (.ref s3.heap.objs.size)) (EP X pins σ Q) X.xe { s3 with heap:=s3.heap.push { cls:=.type "slice",data:=.fields #[vl,vu,.none] } }
 exact tail_any (ops:=[.ref s3.heap.objs.size,v]) ht hT hg (by with_unfolding_all rfl)
def cutV (xs:List V) (lo hi:Option Int):List V:=(xs.drop (HT.sIx xs.length 0 lo)).take (HT.sIx xs.length xs.length hi-HT.sIx xs.length 0 lo)
theorem cutV_length (xs:List V) (lo hi:Option Int):(cutV xs lo hi).length<=xs.length:=by
 unfold cutV
 rw[List.length_take,List.length_drop]
 lia
def rSlT (K:PySem.W.Frag):V->Option Int->Option Int->Hp->VK->Prop:=fun x lo hi H Q=>∃ a xs,x=.ref a/\SqT K H a xs /\
 ¬(HT.sIx xs.length 0 lo=0/\HT.sIx xs.length xs.length hi=xs.length)/\∀ p,H p=none->Q (.ref p) (upd H p (.tup (cutV xs lo hi)))
theorem sl_tup:SlR X (rSlT X.K):=by
 intro pins s σ H x v vl vu lo hi sl Q I rx hs pl pu h
 obtain⟨a,xs,rfl,hx,hw,q⟩:=h
 cases rx
 obtain⟨its,r,ht,hz⟩:=I.tuple hx
 have hlen:its.toArray.size=xs.length:=by rw[List.size_toArray];exact r.length.symm
 refine⟨"tuple",_,PyProof.Rows.slot_tuple_getitem.lookup,ht.typeIs,?_⟩
 refine HT.getItem_tuple_cut ht hs pl pu (by rw[hlen];exact hw) ?_ (by rw[hlen];exact hz)
 rw[hlen]
 refine⟨.ref s.heap.objs.size,_,I.laid (t':=s.toks) (o:=.tup (cutV xs lo hi)) (fun b ob q=>Heap.get?_push_of_some _ q) (Nat.le_refl _) ?_,rfl,q _ (I.hok.fresh (Nat.le_refl _))⟩
 exact⟨tupD_new (Nat.le_trans (cutV_length xs lo hi) hz),_,(r.drop (HT.sIx xs.length 0 lo)).take (HT.sIx xs.length xs.length hi-HT.sIx xs.length 0 lo),IsTup.new _ _⟩
def rCatT (K:PySem.W.Frag):R2:=fun x y H Q=>∃ a b xs ys,x=.ref a/\y=.ref b/\SqT K H a xs/\SqT K H b ys/\xs≠[]/\xs.length+ys.length<=sizeLine /\
 (ys=[]->Q (.ref a) H)/\(ys≠[]->∀ p,H p=none->Q (.ref p) (upd H p (.tup (xs++ys))))
theorem Vals.nil_iff {xs:List V}{us:List Value} (r:Vals xs us):us=[] ↔ xs=[]:=by
 cases r with
 | nil=>simp
 | cons _ _=>simp
theorem op_catT:OpR X (binaryOp .Add) (rCatT X.K):=by
 intro pins s σ H x y v u Q I rx ry h
 obtain⟨a,b,xs,ys,rfl,rfl,ha,hb,hx,hz,q1,q2⟩:=h
 cases rx
 cases ry
 obtain⟨its,r1,p1,_⟩:=I.tuple ha
 obtain⟨its2,r2,p2,_⟩:=I.tuple hb
 refine HT.cat_tup p1 p2 (fun z=>hx (r1.nil_iff.mp z)) (fun z=>⟨.ref a,H,I,rfl,q1 (r2.nil_iff.mp z)⟩) (fun z=>?_) (by rw[<- r1.length,<- r2.length];exact hz)
 refine⟨.ref s.heap.objs.size,_,I.laid (t':=s.toks) (o:=.tup (xs++ys)) (fun b ob q=>Heap.get?_push_of_some _ q) (Nat.le_refl _) ?_,rfl,q2 (fun w=>z (r2.nil_iff.mpr w)) _ (I.hok.fresh (Nat.le_refl _))⟩
 exact⟨tupD_new (by rw[List.length_append];exact hz),_,r1.append r2,IsTup.new _ _⟩
end
end L2
namespace L2
open PySem PySem.Spec PyProof.Rows
def ixN (n:Nat) (i:Int):Option Nat:=if 0<=i then (if i<n then some i.toNat else none) else if -(n:Int)<=i then some (i+n).toNat else none
def atI {α:Type} (xs:List α) (i:Int):Option α:=(ixN xs.length i).bind fun j=>xs[j]?
theorem ixN_seq {n:Nat}{i:Int}{j:Nat} (h:ixN n i=some j):seqIndex? i n=some j/\j<n/\-(n:Int)<=i/\i<n:=by
 unfold ixN at h
 by_cases h0:0<=i
 ·rw[if_pos h0]at h
  by_cases h1:i<n
  ·rw[if_pos h1]at h
   have e:i.toNat=j:=Option.some.inj h
   exact⟨by rw[seqIndex_of h0 h1,e],by lia,by lia,h1⟩
  ·rw[if_neg h1]at h;cases h
 ·rw[if_neg h0]at h
  by_cases h1:-(n:Int)<=i
  ·rw[if_pos h1]at h
   have e:(i+n).toNat=j:=Option.some.inj h
   exact⟨by rw[seqIndex_neg (by lia) h1,e],by lia,h1,by lia⟩
  ·rw[if_neg h1]at h;cases h
theorem atI_get {α:Type} {xs:List α}{i:Int}{v:α} (h:atI xs i=some v):∃ j,seqIndex? i xs.length=some j/\xs[j]?=some v/\j<xs.length/\-(xs.length:Int)<=i/\i<xs.length:=by
 unfold atI at h
 cases e:ixN xs.length i with
 | none=>rw[e]at h;cases h
 | some j=>
  rw[e]at h
  obtain⟨h1,h2,h3,h4⟩:=ixN_seq e
  exact⟨j,h1,h,h2,h3,h4⟩
theorem atI_nat {α:Type} {xs:List α}{j:Nat}{v:α} (h:xs[j]?=some v):atI xs (j:Int)=some v:=by
 have hj:j<xs.length:=(List.getElem?_eq_some_iff.mp h).1
 have e:ixN xs.length (j:Int)=some j:=by
  unfold ixN
  rw[if_pos (by lia),if_pos (by lia)];simp
 unfold atI;rw[e];exact h
def PlainIx (b:Expr):Prop:=∀ o i,subscripted b false o i=operate [o,i] (getItem o i)
def IxR (X:Cx) (r:R2):Prop:=
 ∀ (value slice:Expr) (pins:List (Addr×Obj)) (s:Shared) (σ:St) (H:Hp) (x y:V) (v u:Value) (Q:VK),Inv X pins σ H s->RelV x v->RelV y u->r x y H Q ->
  subscripted slice false v u=operate [v,u] (getItem v u)->wpAny (model X.prog X.w) X.A (subscriptTail value slice v u) (EP X pins σ Q) X.xe s
def MtR (X:Cx) (id:String) (r:V->List V->Hp->VK->Prop):Prop:=
 ∀ (pins:List (Addr×Obj)) (s:Shared) (σ:St) (H:Hp) (x:V) (xs:List V) (v:Value) (us:List Value) (Q:VK),Inv X pins σ H s->RelV x v->Vals xs us->r x xs H Q ->
  wpAny (model X.prog X.w) X.A (call (.builtin id) (v::us)) (EP X pins σ Q) X.xe s
section
variable {X:Cx}{a b:Expr}{ta tb:TE}{pos:Pos}
theorem IxR.or {r r':R2} (h:IxR X r) (h':IxR X r'):IxR X (fun x y H Q=>r x y H Q\/r' x y H Q):=by
 intro value slice pins s σ H x y v u Q I rx ry q hs
 rcases q with q | q
 ·exact h value slice pins s σ H x y v u Q I rx ry q hs
 ·exact h' value slice pins s σ H x y v u Q I rx ry q hs
theorem pe_ix {r:R2} (hr:IxR X r) (ha:PE X a ta) (hb:PE X b tb) (hs:PlainIx b):PE X (.Subscript a b pos) (tOp r ta tb):=by
 intro pins s σ H Q I h
 exact Subscript_ (binT ha hb I h fun v u s2 x y H2 I2 rx ry q=>hr a b pins s2 σ H2 x y v u Q I2 rx ry q (hs _ _))
def rIxL (K:PySem.W.Frag):R2:=fun x y H Q=>∃ p xs i v,x=.ref p/\y=.int i/\SqL K H p xs/\atI xs i=some v/\Q v H
def rIxT (K:PySem.W.Frag):R2:=fun x y H Q=>∃ p xs i v,x=.ref p/\y=.int i/\SqT K H p xs/\atI xs i=some v/\Q v H
def rIxS:R2:=fun x y H Q=>∃ z i c,x=.str z/\y=.int i/\z.length<=sizeLine/\atI z.cps.toList i=some c/\Q (.str ⟨#[c]⟩) H
theorem ix_list:IxR X (rIxL X.K):=by
 intro value slice pins s σ H x y v u Q I rx ry h hs
 obtain⟨p,xs,i,z,rfl,rfl,hq,he,q⟩:=h
 cases rx
 obtain⟨t,rfl⟩:=ry
 obtain⟨its,r,pl,hz⟩:=I.list hq
 obtain⟨j,h1,h2,h3,h4,h5⟩:=atI_get he
 obtain⟨w,ew,rw'⟩:=r.get h2
 have hl:=r.length
 have hn:=line63
 have fin:EP X pins σ Q w s:=⟨z,H,I,rw',q⟩
 by_cases h0:0<=i
 ·have hj:i.toNat=j:=by
   rw[seqIndex_of h0 h5]at h1
   exact Option.some.inj h1
  exact item_listR pl.isList h0 (by lia) (by rw[hj];simpa using ew) fin hs
 ·have hj:(i+(its.toArray.size:Int)).toNat=j:=by
   rw[seqIndex_neg (by lia) h4]at h1
   rw[List.size_toArray,<- hl]
   exact Option.some.inj h1
  exact subscriptTail_builtinR (x:=w) pl.isList.typeIs slot_list_getitem.lookup
   (wpAny_getItem_list_neg (Q:=fun r s'=>r=w/\EP X pins σ Q r s') pl.isList (by lia) (by rw[List.size_toArray] <;> lia) (by lia) (by rw[hj];simpa using ew) ⟨rfl,fin⟩) hs
theorem ix_tup:IxR X (rIxT X.K):=by
 intro value slice pins s σ H x y v u Q I rx ry h hs
 obtain⟨p,xs,i,z,rfl,rfl,hq,he,q⟩:=h
 cases rx
 obtain⟨t,rfl⟩:=ry
 obtain⟨its,r,pl,hz⟩:=I.tuple hq
 obtain⟨j,h1,h2,h3,h4,h5⟩:=atI_get he
 obtain⟨w,ew,rw'⟩:=r.get h2
 have hl:=r.length
 have hn:=line63
 have fin:EP X pins σ Q w s:=⟨z,H,I,rw',q⟩
 exact subscriptTail_builtinR (x:=w) pl.typeIs slot_tuple_getitem.lookup
  (getItem_tuple (j:=j) (Q:=fun r s'=>r=w/\EP X pins σ Q r s') pl (by lia) (by lia) (by rw[List.size_toArray,<- hl];exact h1) (by simpa using ew) ⟨rfl,fin⟩) hs
theorem ix_str:IxR X rIxS:=by
 intro value slice pins s σ H x y v u Q I rx ry h hs
 obtain⟨z,i,c,rfl,rfl,hz,he,q⟩:=h
 obtain⟨t,rfl⟩:=rx
 obtain⟨t',rfl⟩:=ry
 obtain⟨j,h1,h2,h3,h4,h5⟩:=atI_get he
 have hl:z.cps.toList.length=z.length:=by simp [Str.length]
 rw[hl]at h1 h4 h5
 have hn:=line63
 exact tail_any (typeIs_str s z t) slot_str_getitem.lookup (getItem_str (c:=c) (by
  have e1:decide (i < -(2 ^ 63:Int))=false:=decide_eq_false (by lia)
  have e2:decide (i ≥ 2 ^ 63)=false:=decide_eq_false (by lia)
  rw[e1,e2,Bool.or_false]) (by rw[h1];simpa using h2) ⟨.str ⟨#[c]⟩,H,I.tok _,⟨_,rfl⟩,q⟩) hs
theorem mapSeq_set (its:List Value) (n j:Nat) (u:Value):Obj.mapSeq (·.setIfInBounds j u) { cls:=.type "list",data:=.seq its.toArray n }={ cls:=.type "list",data:=.seq (its.set j u).toArray n }:=by
 simp [Obj.mapSeq]
theorem Inv.lst {pins:List (Addr×Obj)} {σ:St} {H:Hp}{s:Shared}{p:Addr}{xs:List V} (I:Inv X pins σ H s) (h:H p=some (.lst xs)) :
  ∃ (its:List Value) (n:Nat),Vals xs its/\s.heap.get? p=some { cls:=.type "list",data:=.seq its.toArray n }/\xs.length<=sizeLine:=by
 obtain⟨z,its,n,r,e⟩:=I.hok p _ h
 exact⟨its,n,r,e,z⟩
theorem Inv.lstUpd {pins:List (Addr×Obj)} {σ:St} {H:Hp}{s:Shared}{p:Addr}{xs ys:List V}{its its':List Value}{n n':Nat}{f:Obj->Obj} (I:Inv X pins σ H s) (h:H p=some (.lst xs))
  (ho:s.heap.get? p=some { cls:=.type "list",data:=.seq its.toArray n }) (hf:f { cls:=.type "list",data:=.seq its.toArray n }={ cls:=.type "list",data:=.seq its'.toArray n' }) (r:Vals ys its') (hz:ys.length<=sizeLine) (t:Nat) :
  Inv X pins σ (upd H p (.lst ys)) { s with heap:=s.heap.update p f,toks:=t }:=by
 have e:(s.heap.update p f).get? p=some { cls:=.type "list",data:=.seq its'.toArray n' }:=by
  rw[Heap.get?_update_self f ho (by rw[hf] <;> rfl),hf]
 refine I.write (x:=p) (e:=p) (by rw[h];trivial) (.inl rfl) (fun b u hb q=>(Heap.get?_update_other _ _ (Ne.symm hb)).trans q) ⟨_,e⟩ ?_
 exact⟨hz,its',n',r,e⟩
def rSetL:V->V->V->Hp->(Hp->Prop)->Prop:=fun o i v H Q=>∃ p xs k j,o=.ref p/\i=.int k/\H p=some (.lst xs)/\ixN xs.length k=some j/\Q (upd H p (.lst (xs.set j v)))
theorem set_list:PSet X rSetL:=by
 intro pins s σ H o i v ov iv u Q I ro ri rv h
 obtain⟨p,xs,k,j,rfl,rfl,hp,hj,q⟩:=h
 cases ro
 obtain⟨t,rfl⟩:=ri
 obtain⟨its,n,r,ho,hz⟩:=I.lst hp
 obtain⟨h1,h2,h3,h4⟩:=ixN_seq hj
 have hl:=r.length
 have hn:=line63
 have I':Inv X pins σ (upd H p (.lst (xs.set j v))) { s with heap:=s.heap.update p (Obj.mapSeq (·.setIfInBounds j u)) }:=
  I.lstUpd hp ho (mapSeq_set its n j u) (r.set rv j) (by rw[List.length_set];exact hz) s.toks
 by_cases h0:0<=k
 ·have hk:k.toNat=j:=by
   rw[seqIndex_of h0 h4]at h1
   exact Option.some.inj h1
  exact PySem.W.ki_setAt ho h0 (by lia) (by rw[List.size_toArray,<- hl];exact h4) (by rw[hk];exact⟨_,I',q⟩)
 ·have hk:(k+(its.toArray.size:Int)).toNat=j:=by
   rw[seqIndex_neg (by lia) h3]at h1
   rw[List.size_toArray,<- hl]
   exact Option.some.inj h1
  exact PySem.W.ki_setBack ho (by lia) (by rw[List.size_toArray,<- hl];exact h3) (by lia) (by rw[hk];exact⟨_,I',q⟩)
theorem slice_bounds (lo hi:Option Int) (n:Nat):(sliceBounds lo hi none n).1=((HT.sIx n 0 lo:Nat):Int)/\(sliceBounds lo hi none n).2.1=((HT.sIx n n hi:Nat):Int)/\(sliceBounds lo hi none n).2.2=1:=by
 refine⟨?_,?_,rfl⟩
 ·cases lo with
  | none=>simp [sliceBounds,HT.sIx]
  | some i=>
   simp only[sliceBounds,HT.sIx,Option.getD_none,show (1:Int) > 0 by decide,if_true]
   by_cases h:i<0
   ·simp only[h,if_true] <;> lia
   ·simp only[h,if_false] <;> lia
 ·cases hi with
  | none=>simp [sliceBounds,HT.sIx]
  | some i=>
   simp only[sliceBounds,HT.sIx,Option.getD_none,show (1:Int) > 0 by decide,if_true]
   by_cases h:i<0
   ·simp only[h,if_true] <;> lia
   ·simp only[h,if_false] <;> lia
theorem slicePick_cut (its:List Value) (lo hi:Option Int):slicePick its.toArray lo hi none=((its.drop (HT.sIx its.length 0 lo)).take (HT.sIx its.length its.length hi-HT.sIx its.length 0 lo)).toArray:=by
 obtain⟨h1,h2,h3⟩:=slice_bounds lo hi its.toArray.size
 unfold slicePick
 rw[h1,h2,h3]
 simp only[sliceRange_one,pick_run,List.size_toArray] <;> rfl
def rSlL (K:PySem.W.Frag):V->Option Int->Option Int->Hp->VK->Prop:=fun x lo hi H Q=>∃ a xs,x=.ref a/\SqL K H a xs/\∀ p,H p=none->Q (.ref p) (upd H p (.lst (cutV xs lo hi)))
theorem sl_list:SlR X (rSlL X.K):=by
 intro pins s σ H x v vl vu lo hi sl Q I rx hs pl pu h
 obtain⟨a,xs,rfl,hx,q⟩:=h
 cases rx
 obtain⟨its,r,ht,hz⟩:=I.list hx
 have hlen:=r.length
 refine⟨"list",_,slot_list_getitem.lookup,ht.isList.typeIs,?_⟩
 refine wpAny_getItem_list_slice ht.isList hs pl pu .none (by simp) ?_ (by rw[List.size_toArray] <;> lia)
 rw[slicePick_cut,<- hlen]
 refine⟨.ref s.heap.objs.size,_,I.laid (t':=s.toks) (o:=.lst (cutV xs lo hi)) (fun b ob q=>Heap.get?_push_of_some _ q) (Nat.le_refl _) ?_,rfl,q _ (I.hok.fresh (Nat.le_refl _))⟩
 exact⟨Nat.le_trans (cutV_length xs lo hi) hz,_,0,(r.drop (HT.sIx xs.length 0 lo)).take (HT.sIx xs.length xs.length hi-HT.sIx xs.length 0 lo),Heap.get?_push_size _ rfl⟩
def flatV:V->Bool
 | .non=>true
 | .bl _=>true
 | .int _=>true
 | .str _=>true
 | _=>false
def eqV:V->V->Bool
 | .non,.non=>true
 | .bl a,.bl b=>a == b
 | .bl a,.int b=>(if a then 1 else 0) == b
 | .int a,.bl b=>a == (if b then 1 else 0)
 | .int a,.int b=>a == b
 | .str a,.str b=>a == b
 | _,_=>false
theorem eqAt_V {A:Around}{s:Shared}{y x:V}{u v:Value} (ry:RelV y u) (rx:RelV x v) (fy:flatV y=true) (fx:flatV x=true):SeqAt.EqAt A s u v (eqV y x):=by
 cases y with
 | non=>
  cases ry
  cases x with
  | non=>cases rx;exact SeqAt.EqAt.same _
  | bl b=>cases rx;exact SeqAt.EqAt.none_bool b
  | int b=>obtain⟨t,rfl⟩:=rx;exact SeqAt.EqAt.none_int b t
  | str b=>obtain⟨t,rfl⟩:=rx;exact SeqAt.EqAt.none_str b t
  | _=>exact absurd (show false=true from fx) Bool.false_ne_true
 | bl a=>
  cases ry
  cases x with
  | non=>cases rx;exact SeqAt.EqAt.bool_none a
  | bl b=>cases rx;exact SeqAt.EqAt.bool_bool a b
  | int b=>obtain⟨t,rfl⟩:=rx;exact SeqAt.EqAt.bool_int a b t
  | str b=>obtain⟨t,rfl⟩:=rx;exact SeqAt.EqAt.bool_str a b t
  | _=>exact absurd (show false=true from fx) Bool.false_ne_true
 | int a=>
  obtain⟨t',rfl⟩:=ry
  cases x with
  | non=>cases rx;exact SeqAt.EqAt.int_none a t'
  | bl b=>cases rx;exact SeqAt.EqAt.int_bool a t' b
  | int b=>obtain⟨t,rfl⟩:=rx;exact SeqAt.EqAt.int_int a t' b t
  | str b=>obtain⟨t,rfl⟩:=rx;exact SeqAt.EqAt.int_str a t' b t
  | _=>exact absurd (show false=true from fx) Bool.false_ne_true
 | str a=>
  obtain⟨t',rfl⟩:=ry
  cases x with
  | non=>cases rx;exact SeqAt.EqAt.str_none a t'
  | bl b=>cases rx;exact SeqAt.EqAt.str_bool a t' b
  | int b=>obtain⟨t,rfl⟩:=rx;exact SeqAt.EqAt.str_int a t' b t
  | str b=>obtain⟨t,rfl⟩:=rx;exact SeqAt.EqAt.str_str a t' b t
  | _=>exact absurd (show false=true from fx) Bool.false_ne_true
 | _=>exact absurd (show false=true from fy) Bool.false_ne_true
def eqU (x:V) (u:Value):Bool:=match u with
 | .none=>eqV .non x
 | .bool b=>eqV (.bl b) x
 | .int i _=>eqV (.int i) x
 | .str z _=>eqV (.str z) x
 | _=>false
theorem eqU_of {x y:V}{u:Value} (r:RelV y u) (f:flatV y=true):eqU x u=eqV y x:=by
 cases y with
 | non=>cases r;rfl
 | bl b=>cases r;rfl
 | int i=>obtain⟨t,rfl⟩:=r;rfl
 | str z=>obtain⟨t,rfl⟩:=r;rfl
 | _=>exact absurd (show false=true from f) Bool.false_ne_true
theorem any_eqU {x:V}:∀ {xs:List V}{us:List Value},Vals xs us->xs.all flatV=true->us.any (eqU x)=xs.any fun y=>eqV y x
 | _,_,.nil,_=>rfl
 | y::xs,u::us,.cons r t,f=>by
  rw[List.all_cons,Bool.and_eq_true]at f
  rw[List.any_cons,List.any_cons,eqU_of r f.1,any_eqU t f.2]
theorem mem_eqAt {A:Around}{s:Shared}{x:V}{v:Value} (rx:RelV x v) (fx:flatV x=true):∀ {xs:List V}{us:List Value},Vals xs us->xs.all flatV=true->∀ u∈us,SeqAt.EqAt A s u v (eqU x u)
 | _,_,.nil,_=>fun u hu=>by cases hu
 | y::xs,u::us,.cons r t,f=>fun u' hu=>by
  rw[List.all_cons,Bool.and_eq_true]at f
  rcases List.mem_cons.mp hu with rfl | hu
  ·rw[eqU_of r f.1];exact eqAt_V r rx f.1 fx
  ·exact mem_eqAt rx fx t f.2 u' hu
def inV (x:V) (xs:List V):Bool:=xs.any fun y=>eqV y x
def rIn (K:PySem.W.Frag) (neg:Bool):R2:=fun x y H Q=>∃ p xs,y=.ref p/\(SqL K H p xs\/SqT K H p xs)/\flatV x=true/\xs.all flatV=true/\Q (.bl (if neg then !inV x xs else inV x xs)) H
theorem op_in_seq:OpR X (compareOp .In) (rIn X.K false):=by
 intro pins s σ H x y v u Q I rx ry h
 obtain⟨p,xs,rfl,hq,fx,fs,q⟩:=h
 cases ry
 rcases hq with hq | hq
 ·obtain⟨its,r,pl,hz⟩:=I.list hq
  refine SeqAt.in_listAt (eqU x) pl.isList (fun w hw=>mem_eqAt rx fx r fs w (by simpa using hw)) ⟨.bl _,H,I,rfl,?_⟩
  rw[show its.toArray.any (eqU x)=its.any (eqU x) by simp,any_eqU r fs]
  exact q
 ·obtain⟨its,r,pl,hz⟩:=I.tuple hq
  refine SeqAt.in_tupleAt (eqU x) pl (fun w hw=>mem_eqAt rx fx r fs w (by simpa using hw)) ⟨.bl _,H,I,rfl,?_⟩
  rw[show its.toArray.any (eqU x)=its.any (eqU x) by simp,any_eqU r fs]
  exact q
theorem op_notIn_seq:OpR X (compareOp .NotIn) (rIn X.K true):=by
 intro pins s σ H x y v u Q I rx ry h
 obtain⟨p,xs,rfl,hq,fx,fs,q⟩:=h
 cases ry
 rcases hq with hq | hq
 ·obtain⟨its,r,pl,hz⟩:=I.list hq
  refine SeqAt.notIn_listAt (eqU x) pl.isList (fun w hw=>mem_eqAt rx fx r fs w (by simpa using hw)) ⟨.bl _,H,I,rfl,?_⟩
  rw[show its.toArray.any (eqU x)=its.any (eqU x) by simp,any_eqU r fs]
  exact q
 ·obtain⟨its,r,pl,hz⟩:=I.tuple hq
  refine SeqAt.notIn_tupleAt (eqU x) pl (fun w hw=>mem_eqAt rx fx r fs w (by simpa using hw)) ⟨.bl _,H,I,rfl,?_⟩
  rw[show its.toArray.any (eqU x)=its.any (eqU x) by simp,any_eqU r fs]
  exact q
theorem call_len_seq:CallR X (.builtin "len") (fun xs H Q=>∃ p ys,xs=[.ref p]/\(SqL X.K H p ys\/SqT X.K H p ys)/\Q (.int ys.length) H):=by
 intro pins s σ H xs us Q I r h
 obtain⟨p,ys,rfl,hq,q⟩:=h
 obtain⟨u,rfl,rx⟩:=vals1 r
 cases rx
 have hn:=line63
 rcases hq with hq | hq
 ·obtain⟨its,r',pl,hz⟩:=I.list hq
  have hlen:=r'.length
  exact Calls.call_len_list pl.isList (by simp only[List.size_toArray] <;> lia) ⟨.int ys.length,H,I.tok _,⟨s.toks+1,by rw[List.size_toArray,hlen]⟩,q⟩
 ·obtain⟨its,r',pl,hz⟩:=I.tuple hq
  have hlen:=r'.length
  exact len_tuple pl (by simp only[List.size_toArray] <;> lia) ⟨.int ys.length,H,I.tok _,⟨s.toks+1,by rw[List.size_toArray,hlen]⟩,q⟩
theorem call_len_str:CallR X (.builtin "len") (fun xs H Q=>∃ z,xs=[.str z]/\z.length<=sizeLine/\Q (.int z.length) H):=by
 intro pins s σ H xs us Q I r h
 obtain⟨z,rfl,hz,q⟩:=h
 obtain⟨u,rfl,t,rfl⟩:=vals1 r
 have hn:=line63
 exact len_str (by lia) ⟨.int z.length,H,I.tok _,⟨_,rfl⟩,q⟩
theorem CallR.or {f:Value}{r r':List V->Hp->VK->Prop} (h:CallR X f r) (h':CallR X f r'):CallR X f (fun xs H Q=>r xs H Q\/r' xs H Q):=by
 intro pins s σ H xs us Q I rs q
 rcases q with q | q
 ·exact h pins s σ H xs us Q I rs q
 ·exact h' pins s σ H xs us Q I rs q
theorem call_list_of:CallR X (.type "list") (fun xs H Q=>∃ p ys,xs=[.ref p]/\(SqL X.K H p ys\/SqT X.K H p ys)/\∀ l,H l=none->Q (.ref l) (upd H l (.lst ys))):=by
 intro pins s σ H xs us Q I r h
 obtain⟨p,ys,rfl,hq,q⟩:=h
 obtain⟨u,rfl,rx⟩:=vals1 r
 cases rx
 have fin:∀ (its:List Value),Vals ys its->ys.length<=sizeLine->∀ (h':Heap) (c':Nat),(∀ b o',s.heap.get? b=some o'->h'.get? b=some o') ->
   h'.get? s.heap.objs.size=some { cls:=.type "list",dict:=none,data:=.seq its.toArray c',slots:=#[] }->EP X pins σ Q (.ref s.heap.objs.size) { s with heap:=h' }:=fun its r' hz h' c' kp e=>
  ⟨.ref s.heap.objs.size,_,I.laid (t':=s.toks) kp (Nat.le_refl _) (show ObjOk X.prog X.w _ h' _ (.lst ys) from ⟨hz,its,c',r',e⟩),rfl,q _ (I.hok.fresh (Nat.le_refl _))⟩
 rcases hq with hq | hq
 ·obtain⟨its,r',pl,hz⟩:=I.list hq
  have hlen:=r'.length
  obtain⟨o,ho,hc,n,hd⟩:=pl.isList
  exact call_list_seq p (.inl rfl) ho hc hd (fun h' c' kp e=>fin its r' hz h' c' kp e) (by simp only[List.size_toArray] <;> lia)
 ·obtain⟨its,r',pl,hz⟩:=I.tuple hq
  have hlen:=r'.length
  obtain⟨o,ho,hc,n,hd⟩:=pl
  exact call_list_seq p (.inr rfl) ho hc hd (fun h' c' kp e=>fin its r' hz h' c' kp e) (by simp only[List.size_toArray] <;> lia)
theorem call_tuple_of:CallR X (.type "tuple") (fun xs H Q=>∃ p ys,xs=[.ref p]/\((SqL X.K H p ys/\∀ l,H l=none->Q (.ref l) (upd H l (.tup ys)))\/(SqT X.K H p ys/\Q (.ref p) H))):=by
 intro pins s σ H xs us Q I r h
 obtain⟨p,ys,rfl,h⟩:=h
 obtain⟨u,rfl,rx⟩:=vals1 r
 cases rx
 rcases h with ⟨hq,q⟩ | ⟨hq,q⟩
 ·obtain⟨its,r',pl,hz⟩:=I.list hq
  have hlen:=r'.length
  refine call_tuple_list pl.isList (fun h' kp=>?_) (by simp only[List.size_toArray] <;> lia)
  have I1:Inv X pins σ H { s with heap:=h' }:=I.kept (t':=s.toks) kp
  have I2:Inv X pins σ (upd H h'.objs.size (.tup ys)) { s with heap:=h'.push { cls:=.type "tuple",data:=.seq its.toArray } }:=
   I1.laid (t':=s.toks) (fun b o e=>Heap.get?_push_of_some _ e) (Nat.le_refl _) (show ObjOk X.prog X.w _ _ _ (.tup ys) from ⟨tupD_new hz,its,r',IsTup.new _ _⟩)
  exact⟨.ref h'.objs.size,_,I2,rfl,q _ (I1.hok.fresh (Nat.le_refl _))⟩
 ·obtain⟨its,r',pl,hz⟩:=I.tuple hq
  exact call_tuple_same pl ⟨.ref p,H,I,rfl,q⟩
def tyV (K:PySem.W.Frag) (T:String) (x:V) (H:Hp):Prop:=match x with
 | .str _=>T="str"
 | .int _=>T="int"
 | .ref p=>(T="list"/\∃ xs,SqL K H p xs)\/(T="tuple"/\∃ o,K.lookup p=some o/\o.cls=.type "tuple"/\o.dict=none) \/
   (T="dict"/\((∃ kvs,H p=some (.dK kvs))\/∃ kvs,H p=some (.dT kvs)))\/(T="set"/\∃ S n,H p=some (.set S n))
 | _=>False
theorem tyV_is {pins:List (Addr×Obj)} {σ:St} {H:Hp}{s:Shared}{T:String}{x:V}{v:Value} (I:Inv X pins σ H s) (r:RelV x v) (ty:tyV X.K T x H) :
  s.TypeIs v T/\∀ a,v=.ref a->∃ ob,s.heap.get? a=some ob/\ob.dict=none:=by
 cases x with
 | str z=>
  obtain⟨t,rfl⟩:=r
  cases (show T="str" from ty)
  exact⟨typeIs_str s z t,fun _ e=>nomatch e⟩
 | int i=>
  obtain⟨t,rfl⟩:=r
  cases (show T="int" from ty)
  exact⟨typeIs_int s i t,fun _ e=>nomatch e⟩
 | ref p=>
  cases r
  rcases ty with ⟨rfl,xs,hq⟩ | ⟨rfl,o,hk,hc,hd⟩ | ⟨rfl,hk⟩ | ⟨rfl,S,n,hk⟩
  ·obtain⟨its,_,pl,_⟩:=I.list hq
   refine⟨pl.isList.typeIs,fun a e=>?_⟩
   cases e
   obtain⟨o,n,e,c,hd,_⟩:=pl
   exact⟨o,e,hd⟩
  ·refine⟨⟨o,I.kIn p o hk,hc⟩,fun a e=>?_⟩
   cases e
   exact⟨o,I.kIn _ o hk,hd⟩
  ·have z:∃ o,s.heap.get? p=some o/\o.ExactDict:=by
    rcases hk with ⟨kvs,hk⟩ | ⟨kvs,hk⟩
    ·obtain⟨_,_,_,_,o,_,_,e,ex,_⟩:=I.hok p _ hk
     exact⟨o,e,ex⟩
    ·obtain⟨_,_,_,_,o,_,_,e,ex,_⟩:=I.hok p _ hk
     exact⟨o,e,ex⟩
   obtain⟨o,e,ex⟩:=z
   refine⟨⟨o,e,ex.1⟩,fun a e2=>?_⟩
   cases e2
   exact⟨o,e,ex.2.1⟩
  ·obtain⟨o,_,_,_,e,ex,_⟩:=I.hok p _ hk
   refine⟨⟨o,e,ex.1⟩,fun a e2=>?_⟩
   cases e2
   exact⟨o,e,ex.2.1⟩
 | _=>exact False.elim ty
def tBM0 (K:PySem.W.Frag) (T:String) (r:V->List V->Hp->VK->Prop) (to:TE):TE:=fun σ H Q=>to σ H fun x H1=>tyV K T x H1/\r x [] H1 Q
def tBM (K:PySem.W.Frag) (T:String) (r:V->List V->Hp->VK->Prop) (to:TE) (t:TA):TE:=fun σ H Q=>to σ H fun x H1=>tyV K T x H1/\t σ H1 fun xs H2=>r x xs H2 Q
variable {o e:Expr}{es:List Expr}{to:TE}{t:TA}{name:Str}{apos cpos:Pos}{T id:String}{r:V->List V->Hp->VK->Prop}
theorem pe_bm0 (pa:PlainAttrs T) (slot:Slot T name id) (hty:typeOf (.builtin id)=pure (.type "method_descriptor")) (hm:MtR X id r) (ho:PE X o to)
  (hbase:attributeBase o name X.env (eval o X.env)=eval o X.env:=by rfl) (hline:(apos.endLine == cpos.line)=true:=by rfl):PE X (.Call (.Attribute o name apos) [] [] cpos) (tBM0 X.K T r to):=by
 intro pins s σ H Q I h
 refine wpAny_Call_method0_late hbase hline (thn (ho pins s σ H _ I h) fun v s1 ⟨x,H1,I1,r1,ty,q1⟩=>?_)
 obtain⟨h1,h2⟩:=tyV_is I1 r1 ty
 exact⟨T,id,pa,slot,hty,h1,h2,Calls.callWith_builtin rfl (PySem.evalArgs_none (hm pins s1 σ H1 x [] v [] Q I1 r1 .nil q1))⟩
theorem pe_bm (pa:PlainAttrs T) (slot:Slot T name id) (hty:typeOf (.builtin id)=pure (.type "method_descriptor")) (hm:MtR X id r) (ho:PE X o to) (ha:PA X (e::es) t)
  (hbase:attributeBase o name X.env (eval o X.env)=eval o X.env:=by rfl)
  (hfew:((backTo cpos (starEach (e::es) X.env)).all (fun x=>!x.1) && (backToKw cpos (keywordEach [] X.env)).all (fun x=>x.1.isSome)
   && decide ((e::es).length+([]:List Keyword).length+(if ([]:List Keyword).isEmpty then 0 else 1)<30))=true:=by rfl)
  (hline:(apos.endLine == cpos.line)=true:=by rfl) (hs:starEach (e::es) X.env=(false,eval e X.env)::starEach es X.env:=by rfl) (hplain:(backTo cpos (starEach es X.env)).any (·.1)=false:=by rfl) :
  PE X (.Call (.Attribute o name apos) (e::es) [] cpos) (tBM X.K T r to t):=by
 intro pins s σ H Q I h
 refine wpAny_Call_method_late hbase hfew hline rfl (thn (ho pins s σ H _ I h) fun v s1 ⟨x,H1,I1,r1,ty,q1⟩=>?_)
 obtain⟨h1,h2⟩:=tyV_is I1 r1 ty
 refine⟨T,id,pa,slot,hty,h1,h2,?_⟩
 have hA:=ha cpos pins s1 σ H1 _ I1 q1
 rw[hs]at hA ⊢
 refine Calls.callWith_builtin (by show (false || (backTo cpos (starEach es X.env)).any (·.1))=false;rw[hplain] <;> rfl) (Calls.evalArgs_plain ?_)
 exact thn hA fun us s2 ⟨vs,H2,I2,r2,q2⟩=>hm pins s2 σ H2 x vs v us Q I2 r1 r2 q2
/- xs.append(e),list.index on a module's tuple .. are MtR facts of 06m -/
end
end L2
namespace L2
open PySem PySem.Spec PyProof.Rows
def MtM (X:Cx) (id:String) (r:V->List V->Hp->VK->Prop):Prop:=
 ∀ (pins:List (Addr×Obj)) (s:Shared) (σ:St) (H:Hp) (x:V) (xs:List V) (v:Value) (us:List Value) (Q:VK),Inv X pins σ H s->RelV x v->Vals xs us->r x xs H Q ->
  wpAny (model X.prog X.w) X.A (call (.builtin id) (v::us)) (EP X pins σ Q) X.xe s
theorem Vals.one {x:V}{us:List Value} (h:Vals [x] us):∃ u,us=[u]/\RelV x u:=by
 cases h with
 | cons r t=>cases t;exact⟨_,rfl,r⟩
theorem Vals.two {x y:V}{us:List Value} (h:Vals [x,y] us):∃ u v,us=[u,v]/\RelV x u/\RelV y v:=by
 cases h with
 | cons r t=>
  obtain⟨v,rfl,q⟩:=Vals.one t
  exact⟨_,_,rfl,r,q⟩
theorem Vals.zero:∀ {us:List Value},Vals [] us->us=[]
 | _,.nil=>rfl
theorem Vals.dropLast {xs:List V}{us:List Value} (h:Vals xs us):Vals xs.dropLast us.dropLast:=by
 induction h with
 | nil=>exact .nil
 | cons r t ih=>
  cases t with
  | nil=>exact .nil
  | cons q t'=>exact .cons r ih
theorem Vals.eraseIdx:∀ {xs:List V}{us:List Value} (i:Nat),Vals xs us->Vals (xs.eraseIdx i) (us.eraseIdx i)
 | _,_,_,.nil=>.nil
 | _,_,0,.cons _ t=>t
 | _,_,i+1,.cons r t=>.cons r (Vals.eraseIdx i t)
theorem Vals.reverse {xs:List V}{us:List Value} (h:Vals xs us):Vals xs.reverse us.reverse:=by
 induction h with
 | nil=>exact .nil
 | cons r t ih=>rw[List.reverse_cons,List.reverse_cons];exact Vals.append ih (.cons r .nil)
theorem erase_last {α:Type} (l:List α):l.eraseIdx (l.length-1)=l.dropLast:=by
 induction l with
 | nil=>rfl
 | cons a r ih=>
  cases r with
  | nil=>rfl
  | cons b r=>
   have e:(a::b::r).length-1=((b::r).length-1)+1:=by
    have h1:(a::b::r).length=r.length+2:=rfl
    have h2:(b::r).length=r.length+1:=rfl
    lia
   rw[e,List.eraseIdx_cons_succ,ih]
   all_goals rfl
theorem len_erase {α:Type}:∀ (l:List α) (i:Nat),(l.eraseIdx i).length<=l.length
 | [],_=>Nat.le_refl _
 | _::_,0=>Nat.le_succ _
 | _::r,i+1=>Nat.succ_le_succ (len_erase r i)
section
variable {X:Cx}{pins:List (Addr×Obj)} {σ:St} {H:Hp}{s:Shared}{l b:Addr}{xs ys zs:List V}
theorem Inv.lset {its its':List Value}{n:Nat}{f:Array Value->Array Value}{t':Nat} (I:Inv X pins σ H s) (hH:H l=some (.lst xs))
  (e:s.heap.get? l=some { cls:=.type "list",data:=.seq its.toArray n }) (hf:f its.toArray=its'.toArray) (hv:Vals ys its') (hz:ys.length<=sizeLine) :
  Inv X pins σ (upd H l (.lst ys)) { s with heap:=s.heap.update l (Obj.mapSeq f),toks:=t' }:=by
 have q:=PySem.IsL.update e f
 rw[hf]at q
 refine I.write (x:=l) (e:=l) (by rw[hH];exact trivial) (.inl rfl) (fun b' u hb hu=>(Heap.get?_update_other s.heap (Obj.mapSeq f) (Ne.symm hb)).trans hu) ⟨_,q⟩ ?_
 exact⟨hz,its',_,hv,q⟩
theorem Inv.lnew {its:List Value}{t':Nat} (I:Inv X pins σ H s) (hv:Vals ys its) (hz:ys.length<=sizeLine) :
  Inv X pins σ (upd H s.heap.objs.size (.lst ys)) { s with heap:=s.heap.push { cls:=.type "list",data:=.seq its.toArray },toks:=t' }:=
 I.laid (fun _ _ q=>Heap.get?_push_of_some _ q) (Nat.le_refl _) ⟨hz,its,0,hv,Heap.get?_push_size _ rfl⟩
theorem Inv.fresh (I:Inv X pins σ H s):H s.heap.objs.size=none:=I.hok.fresh (Nat.le_refl _)
theorem Inv.lstM (I:Inv X pins σ H s) (hH:H l=some (.lst xs)):xs.length<=sizeLine/\∃ (its:List Value) (n:Nat),Vals xs its/\xs.length=its.length/\s.heap.get? l=some { cls:=.type "list",data:=.seq its.toArray n }:=by
 obtain⟨z,its,n,r,e⟩:=I.hok l _ hH
 exact⟨z,its,n,r,r.length,e⟩
theorem notLongL {n:Nat} (h:n<=sizeLine):Builtin.List.listTooLong n=false:=by
 unfold Builtin.List.listTooLong
 exact decide_eq_false (by lia)
end
section
variable {X:Cx}
def rAppend:V->List V->Hp->VK->Prop:=fun x vs H Q=>∃ l xs y,x=.ref l/\vs=[y]/\H l=some (.lst xs)/\xs.length<sizeLine/\Q .non (upd H l (.lst (xs++[y])))
theorem mt_append:MtM X "list.append" rAppend:=by
 intro pins s σ H x vs v us Q I rx rv h
 obtain⟨l,xs,y,rfl,rfl,hH,hz,q⟩:=h
 cases rx
 obtain⟨u,rfl,ru⟩:=rv.one
 obtain⟨z,its,n,r,hl,e⟩:=I.lstM hH
 refine call_meets F.slot_list_append ⟨_,e,rfl⟩ F.entry_list_append (F.args_list_append_2 _ _) (PySem.list_append l its.toArray n u (by rw[List.size_toArray];lia)) ⟨e,?_⟩
 refine⟨.non,_,I.lset (its':=its++[u]) hH e (by simp) (r.append (.cons ru .nil)) ?_,rfl,q⟩
 rw[List.length_append,List.length_singleton]
 lia
def rExtend:V->List V->Hp->VK->Prop:=fun x vs H Q=>∃ l b xs zs,x=.ref l/\vs=[.ref b]/\H l=some (.lst xs)/\H b=some (.lst zs)/\xs.length+zs.length<=sizeLine/\Q .non (upd H l (.lst (xs++zs)))
theorem mt_extend:MtM X "list.extend" rExtend:=by
 intro pins s σ H x vs v us Q I rx rv h
 obtain⟨l,b,xs,zs,rfl,rfl,hH,hB,hz,q⟩:=h
 cases rx
 obtain⟨u,rfl,ru⟩:=rv.one
 cases ru
 obtain⟨z,its,n,r,hl,e⟩:=I.lstM hH
 obtain⟨z2,its2,n2,r2,hl2,e2⟩:=I.lstM hB
 have hsz:its.toArray.size+its2.toArray.size<=sizeLine:=by rw[List.size_toArray,List.size_toArray];lia
 have hlong:¬(!its.toArray.isEmpty && Builtin.List.listTooLong (its.toArray.size+its2.toArray.size))=true:=by
  rw[notLongL hsz,Bool.and_false]
  exact Bool.false_ne_true
 refine call_meets F.slot_list_extend ⟨_,e,rfl⟩ F.entry_list_extend (F.args_list_extend_2 _ _)
  (AutoSeq1.list_extend_list_list_0 l its.toArray n b its2.toArray n2 hlong (by rw[List.size_toArray];lia) (by lia)) ⟨e,e2,?_⟩
 refine⟨.non,_,I.lset (its':=its++its2) hH e (by simp) (r.append r2) ?_,rfl,q⟩
 rw[List.length_append]
 lia
def rPop:V->List V->Hp->VK->Prop:=fun x vs H Q=>∃ l xs y,x=.ref l/\vs=[]/\H l=some (.lst xs)/\xs[xs.length-1]?=some y/\Q y (upd H l (.lst xs.dropLast))
theorem mt_pop:MtM X "list.pop" rPop:=by
 intro pins s σ H x vs v us Q I rx rv h
 obtain⟨l,xs,y,rfl,rfl,hH,hy,q⟩:=h
 cases rx
 have hus:=rv.zero
 subst hus
 obtain⟨z,its,n,r,hl,e⟩:=I.lstM hH
 obtain⟨u,hu,ru⟩:=r.get hy
 have hy':its.toArray[its.toArray.size-1]?=some u:=by
  show its.toArray[its.length-1]?=some u
  rw[<- Array.getElem?_toList,<- hl]
  exact hu
 refine call_meets F.slot_list_pop ⟨_,e,rfl⟩ F.entry_list_pop (F.args_list_pop_1 _) (MeetsSeq.list_pop_last l its.toArray n u hy' (by rw[List.size_toArray];lia)) ⟨e,?_⟩
 refine⟨y,_,I.lset (its':=its.dropLast) hH e ?_ r.dropLast ?_,ru,q⟩
 ·show its.toArray.eraseIdxIfInBounds (its.toArray.size-1)=its.dropLast.toArray
  rw[List.size_toArray,List.eraseIdxIfInBounds_toArray,erase_last]
 ·rw[List.length_dropLast]
  lia
def rPopAt:V->List V->Hp->VK->Prop:=fun x vs H Q=>∃ l xs i k y,x=.ref l/\vs=[.int i]/\H l=some (.lst xs)/\-(2 ^ 63)<=i/\i<2 ^ 63/\seqIndex? i xs.length=some k/\xs[k]?=some y/\Q y (upd H l (.lst (xs.eraseIdx k)))
theorem mt_popAt:MtM X "list.pop" rPopAt:=by
 intro pins s σ H x vs v us Q I rx rv h
 obtain⟨l,xs,i,k,y,rfl,rfl,hH,h1,h2,hk,hy,q⟩:=h
 cases rx
 obtain⟨u,rfl,ru⟩:=rv.one
 obtain⟨t,rfl⟩:=ru
 obtain⟨z,its,n,r,hl,e⟩:=I.lstM hH
 obtain⟨w,hw,rw'⟩:=r.get hy
 refine call_meets F.slot_list_pop ⟨_,e,rfl⟩ F.entry_list_pop (F.args_list_pop_2 _ _)
  (MeetsSeq.list_pop_at l its.toArray n i t k w (fitsIndex_both h1 h2) (by rw[List.size_toArray,<- hl];exact hk) (by rw[<- Array.getElem?_toList];exact hw) (by rw[List.size_toArray];lia)) ⟨e,?_⟩
 refine⟨y,_,I.lset (its':=its.eraseIdx k) hH e ?_ (r.eraseIdx k) ?_,rw',q⟩
 ·show its.toArray.eraseIdxIfInBounds k=(its.eraseIdx k).toArray
  rw[List.eraseIdxIfInBounds_toArray]
 ·have:=len_erase xs k
  lia
def rCat:R2:=fun x y H Q=>∃ l b xs zs,x=.ref l/\y=.ref b/\H l=some (.lst xs)/\H b=some (.lst zs)/\xs.length+zs.length<=sizeLine/\∀ p,H p=none->Q (.ref p) (upd H p (.lst (xs++zs)))
theorem op_cat:OpR X (binaryOp .Add) rCat:=by
 intro pins s σ H x y v u Q I rx ry h
 obtain⟨l,b,xs,zs,rfl,rfl,hH,hB,hz,q⟩:=h
 cases rx
 cases ry
 obtain⟨z,its,n,r,hl,e⟩:=I.lstM hH
 obtain⟨z2,its2,n2,r2,hl2,e2⟩:=I.lstM hB
 refine PySem.P.add_list e e2 ?_ (by rw[List.size_toArray,List.size_toArray];lia)
 have ea:its.toArray++its2.toArray=(its++its2).toArray:=by simp
 rw[ea]
 exact⟨.ref _,_,I.lnew (t':=s.toks) (r.append r2) (by rw[List.length_append];lia),rfl,q _ I.fresh⟩
end
section
variable {prog:Program}{w:World}{A:Around}{E:Value->Shared->Prop}{s:Shared}
set_option maxRecDepth 100000 in
end
section
variable {X:Cx}
end
end L2
namespace Att
open PySem PySem.W PySem.Calls PyProof.Rows
theorem ints_of_wellAll {P:Params}{h:Heap}:∀ (ns:List Int) (vs:List Value),WellAll P h vs (ns.map WData.int)->IntsAre vs ns:=by
 intro ns
 induction ns with
 | nil=>
  intro vs w
  rw[List.map_nil]at w
  cases w
  exact .nil
 | cons n ns ih=>
  intro vs w
  rw[List.map_cons]at w
  cases w with
  | cons a b=>
   cases a
   exact .cons _ _ (ih _ b)
theorem script_of {l:OpenLaw}{n:Nat} (hn:l.most=some n) {P:Params}{h:Heap}{args:List WData}{vals:List Value}
  (hpre:l.row.toRowW.claim.pre args=true) (hwl:WellAll P h vals args) :
  ∃ a vs ns,vals=[Value.ref a]/\args=[WData.list (ns.map WData.int)]/\h.get? a=some { cls:=.type "list",data:=.seq vs.toArray }/\IntsAre vs ns/\ns.length<=n:=by
 have hsh:WShape.hasAll [] args [.list .int]=true:=(pre_splitW hpre).1
 have hc:l.pre.holds [] { args:=args }=true:=(pre_splitW hpre).2
 obtain⟨d,r,rfl,h1,h2⟩:=hasAllW_cons hsh
 obtain rfl:=hasAllW_nil h2
 obtain⟨xs,rfl,h3⟩:=hasW_list h1
 obtain⟨ns,rfl⟩:=items_int h3
 have hlen:ns.length<=n:=by
  unfold OpenLaw.pre at hc
  have h4:(WTm.not (.lt (.lit (.int (n:Int))) (.len (.arg 0)))).holds [] { args:=[.list (ns.map .int)] }=true:=by
   have h4:=(holds_andW hc).1
   rw[hn]at h4
   exact h4
  have h5:=condW_of h4 (w_not (w_lt w_lit (w_len_list (w_arg rfl))))
  rw[List.length_map]at h5
  refine Nat.le_of_not_lt fun q=>?_
  have q':(n:Int)<((ns.length:Nat):Int):=by lia
  first
   | (rw[decide_eq_true q']at h5;exact absurd h5 (by decide))
   | (simp at h5;lia)
 cases hwl with
 | cons w1 w2=>
  cases w2
  cases w1 with
  | list ho hall=>exact⟨_,_,ns,rfl,rfl,ho,ints_of_wellAll ns _ hall,hlen⟩
theorem post_true (l:OpenLaw) (args:List WData):l.row.toRowW.claim.post args (.bool true) args=true:=
 postW_of (r:=l.row.toRowW) (X:=(true == true))
  (show WShape.has [] (.bool true) .bool=true by first | rfl | decide | simp [WShape.has,WShape.arms,WShape.armsAll])
  (show (WTm.eq .res (.lit (.bool true))).value [] { args:=args,res:=some (.bool true),after:=args }=some (.bool (true == true)) from w_eq_bool (w_res rfl) w_lit) rfl
theorem attach_call {l:OpenLaw}{n:Nat}{q:Program}{loose:List Str}{XP:(Str->Option Value)->Heap->Prop}{YP:World->Heap->Prop}{d:DefRec}
  (hn:l.most=some n) (hdf:d.params.defaults=[])
  (call:∀ (w:World) (s₀ s₁:Shared) (mg mb:Str->Option Value) (fa:Addr) (o:Obj) (pm cd doc:Value) (a:Addr) (vs:List Value) (ns:List Int),
   Ground q loose [] XP w s₀ mg mb s₁.heap->YP w s₁.heap ->
   s₁.heap.get? fa=some o->o.data=.func (docDef d.name d.params d.body d.scope pm cd doc)->s₁.heap.CodeRec cd d.name->mg d.name=some (.ref fa) ->
   s₁.heap.get? a=some { cls:=.type "list",data:=.seq vs.toArray }->IntsAre vs ns->ns.length<=n->s₁.gens=#[] ->
   codeAny (model l.prog w) callerA (.call (.ref fa) ⟨[.ref a],[]⟩) (fun r s'=>r=.ok (.ret (.bool true))/\OldK s₁.heap s'.heap/\s'.os=s₁.os/\AllBare s'.gens) s₁) :
  WalkO q loose XP YP l.row.toRowW d [] (fun f vs=>PySem.call f vs):=by
 intro w s₀ s₁ mg mb G Y fa o pm cd doc dV kV ho hd hcd hD hmg hg args vals as hpre hlay hrd hwl hlo
 obtain rfl:dV=.none:=Dflts.none hD hdf
 obtain rfl:kV=.none:=Dflts.noKw hD
 obtain⟨a,vs,ns,rfl,rfl,hobj,hints,hlen⟩:=script_of hn hpre hwl
 refine enter_call (codeAny_mono (call w s₀ s₁ mg mb fa o pm cd doc a vs ns G Y ho (fd_plain hd) hcd hmg hobj hints hlen hg) fun r s' hq=>?_)
 obtain⟨rfl,h2,h3,h4⟩:=hq
 exact⟨.inl ⟨.bool true,.bool true,[],rfl,fun _=>rfl,.bool true,post_true l _,fun _=>⟨List.Pairwise.nil,fun _ hm=>(nomatch hm)⟩⟩,h2,h3,h4⟩
section
variable {prog:Program}{w:World}{A:Around}{E:Value->Shared->Prop}{s:Shared}{K:Frag}
end
end Att
namespace L2
open PySem PySem.Spec PyProof.Rows
theorem vals_ints:∀ {vs:List Value}{ns:List Int},IntsAre vs ns->Vals (ns.map V.int) vs
 | _,_,.nil=>.nil
 | _,_,.cons n t h=>.cons ⟨t,rfl⟩ (vals_ints h)
def Only (H:Hp):Prop:=∀ b,H b=none\/∃ o xs,H b=some (.frz o (.lst xs))
theorem law_call {P:Program}{w:World}{K:PySem.W.Frag}{mg mb:Str->Option Value}{CX:CXT}{k:Nat}{fa a:Addr}{fd:FuncData}{x:Str}{sp:Sp}{s₁:Shared}{vs:List Value}{ns:List Int}
  (KX:K.In s₁.heap) (hns:s₁.heap.Ns mainGlobals mg) (hb:s₁.heap.Ns builtinsNs mb) (hbb:∀ x:Str,x≠"__name__"->mb x=bootBuiltins x) (hlim:s₁.heap.NoLimit) (hg:s₁.gens=#[])
  (ha:s₁.heap.get? a=some { cls:=.type "list",data:=.seq vs.toArray }) (hi:IntsAre vs ns) (hl:ns.length<=sizeLine) (hr:Room k callerA)
  (F:∀ base:Heap,K.In base->base.Ns mainGlobals mg->FnOk P w K mg base CX k fa fd [x] sp) (hbind:∀ (s:Shared) (u:Value),BindsTo s fd ⟨[u],[]⟩ [(x,u)])
  (hsp:∀ H:Hp,Only H->SqL K H a (ns.map V.int)->sp [.ref a] H (fun v _=>v=.bl true) fun _ _ _=>False)
  (hCX:∀ H e s',CX [] H s₁ (fun _ _ _=>False) e s'->False) :
  codeAny (model P w) callerA (.call (.ref fa) ⟨[.ref a],[]⟩) (fun r s'=>r=.ok (.ret (.bool true))/\OldK s₁.heap s'.heap/\s'.os=s₁.os/\AllBare s'.gens) s₁:=by
 have rv:=vals_ints hi
 have lenV:=hi.length
 -- from an abstract heap in which nothing but the script may be tracked
 have core:∀ H:Hp,Only H->SqL K H a (ns.map V.int)->HOk P w H s₁.heap->(∀ b,H b≠none->b=a)->(H a≠none->K.lookup a=none) ->
   codeAny (model P w) callerA (.call (.ref fa) ⟨[.ref a],[]⟩) (fun r s'=>r=.ok (.ret (.bool true))/\OldK s₁.heap s'.heap/\s'.os=s₁.os/\AllBare s'.gens) s₁:=by
  intro H hO hS hok hA hK
  have base_of:∀ {b:Addr}{o:Obj},s₁.heap.get? b=some o->H b=none->(hidT s₁.heap H).get? b=some o:=fun e n=>hidT_get e n
  have noA:∀ {b:Addr}{o:Obj}{es:Array DictEntry}{ep:Nat},s₁.heap.get? b=some o->o.data=.dict es ep->H b=none:=fun {b o es ep} e d=>by
   cases q:H b with
   | none=>rfl
   | some u=>
    have e':b=a:=hA b (by rw[q];simp)
    subst e'
    rw[ha]at e;cases e
    have d':Data.seq vs.toArray _=Data.dict es ep:=d
    cases d'
  have nsK:∀ {b:Addr}{m:Str->Option Value},s₁.heap.Ns b m->(hidT s₁.heap H).Ns b m:=fun {b m} ⟨o,es,ep,e,d,r⟩=>⟨o,es,ep,base_of e (noA e d),d,r⟩
  have hKb:K.In (hidT s₁.heap H):=fun b o e=>base_of (KX b o e) (by
   cases q:H b with
   | none=>rfl
   | some u=>
    have e':b=a:=hA b (by rw[q];simp)
    subst e'
    rw[hK (by rw[q];simp)]at e;cases e)
  have hM:Mod K mg (hidT s₁.heap H):=⟨hKb,nsK hns,⟨mb,nsK hb,hbb⟩,let ⟨mc,h1,h2⟩:=hlim;⟨mc,nsK h1,h2⟩⟩
  have e0:Env0 P w K mg (hidT s₁.heap H) callerA [] s₁ H:=⟨rfl,hM,fun b o e=>of_hidT e,Nat.le_of_eq (hidT_size _ _),trivial,fun b hb=>absurd (show b∈([]:List Addr) from hb) (by simp),hok,.of_eq hg⟩
  refine codeAny_mono ((F _ hKb (nsK hns)).run callerA [] s₁ H ⟨[.ref a],[]⟩ [.ref a] [.ref a] _ _ hr e0 (hbind s₁ (.ref a)) (.cons rfl .nil) (hsp H hO hS)) fun r s' h=>?_
  cases r with
  | error e=>exact (hCX H e s' h).elim
  | ok fl=>
   cases fl with
   | next=>exact False.elim h
   | brk=>exact False.elim h
   | cont=>exact False.elim h
   | ret u=>
    obtain⟨v,H',os,bare,un,hok',r',q⟩:=h
    have q':v=.bl true:=q
    subst q'
    obtain rfl:u=Value.bool true:=r'
    refine⟨rfl,OldK.of_keep fun b o e=>?_,os,bare⟩
    cases q:H b with
    | none=>exact un.keep b o e q (by intro z;exact absurd (show b∈([]:List Addr) from z) (by simp)) (by simp)
    | some u=>
     rcases hO b with z | ⟨ob,xs,z⟩
     ·rw[q]at z;cases z
     ·have z2:=un.frzs b ob _ z
      obtain⟨e1,_⟩:=hok b _ z
      obtain⟨e2,_⟩:=hok' b _ z2
      rw[e]at e1;cases e1
      exact e2
 cases hk:K.lookup a with
 | some o=>
  -- the script is one of the module's own objects
  have e:=KX a o hk
  rw[ha]at e
  cases e
  refine core (fun _=>none) (fun _=>.inl rfl) (.inr ⟨_,vs.toArray,_,hk,rfl,rfl,rfl,by rw[List.size_toArray,lenV];exact hl,by simpa using rv⟩) (fun b u z=>by have z':(none:Option HO)=some u:=z;cases z') (fun b z=>absurd rfl z) fun z=>absurd rfl z
 | none=>
  refine core (fun b=>if b=a then some (.frz { cls:=.type "list",data:=.seq vs.toArray } (.lst (ns.map V.int))) else none) (fun b=>?_) (.inl (.inr ⟨{ cls:=.type "list",data:=.seq vs.toArray },if_pos rfl⟩)) (fun b u z=>?_) (fun b z=>?_) fun _=>hk
  ·by_cases hb:b=a
   ·exact .inr ⟨_,_,if_pos hb⟩
   ·exact .inl (if_neg hb)
  ·by_cases hb:b=a
   ·have z':=(if_pos hb).symm.trans z
    cases z'
    subst hb
    exact⟨ha,by rw[List.length_map];exact hl,vs,_,rv,ha⟩
   ·have z':=(if_neg hb).symm.trans z
    cases z'
  ·by_cases hb:b=a
   ·exact hb
   ·exact absurd (if_neg hb) z
end L2
namespace L2
open PySem PySem.Spec PyProof.Rows
abbrev KOf {K:PySem.W.Frag}{h:Heap} (_:K.In h):PySem.W.Frag:=K
theorem walk_of {l:PySem.W.OpenLaw}{n k:Nat}{q:Program}{loose:List Str}{XP:(Str->Option Value)->Heap->Prop}{YP:World->Heap->Prop}{d:DefRec}{K:Params->PySem.W.Frag}{CX:World->CXT}{sp:World->Sp}{x:Str}
  (hn:l.most=some n) (hn2:n<=sizeLine) (hdf:d.params.defaults=[]) (hr:Room k callerA)
  (hY:∀ (w:World) (h:Heap),YP w h->(K w.params).In h)
  (F:∀ (w:World) (mg:Str->Option Value) (fa:Addr) (h:Heap),(K w.params).In h->h.Ns mainGlobals mg->mg d.name=some (.ref fa) ->
   ∃ fd:FuncData,(∀ (s:Shared) (u:Value),BindsTo s fd ⟨[u],[]⟩ [(x,u)]) /\
    ∀ base:Heap,(K w.params).In base->base.Ns mainGlobals mg->FnOk l.prog w (K w.params) mg base (CX w) k fa fd [x] (sp w))
  (hsp:∀ (w:World) (H:Hp) (a:Addr) (ns:List Int),ns.length<=n->Only H->SqL (K w.params) H a (ns.map V.int)->sp w [.ref a] H (fun v _=>v=.bl true) fun _ _ _=>False)
  (hCX:∀ (w:World) (H:Hp) (s:Shared) (e:Value) (s':Shared),CX w [] H s (fun _ _ _=>False) e s'->False) :
  PySem.W.WalkO q loose XP YP l.row.toRowW d [] (fun f vs=>PySem.call f vs):=by
 refine Att.attach_call hn hdf fun w s₀ s₁ mg mb fa o pm cd doc a vs ns G Y ho hd hcd hmg hobj hints hlen hg=>?_
 have KX:=hY w _ Y
 obtain⟨fd,hb,hF⟩:=F w mg fa _ KX G.T.g hmg
 exact law_call KX G.T.g G.T.b G.T.builtins G.T.nolimit hg hobj hints (Nat.le_trans hlen hn2) hr hF hb (fun H hO hS=>hsp w H a ns hlen hO hS) fun H e s'=>hCX w H s₁ e s'
end L2
/- THE LAST THEOREM (shape;LID,My.* are yours):
   My.Adr: a structure of the addresses that your layer names (classes,functions);My.Txt K t: a structure (Prop) of the equations over K;
   My.txt_mk:{K} {implicit addresses ..} (e1:nsIn K mainGlobals "law"=some (some (.ref f))) (e2:K.lookup f=some ⟨oc,od,.func (fnOf "law" "law" params body scope dV kV doc pm an cdv ct),sl⟩) (e3:codeIn K cdv "law"=true) ..:∃ t,My.Txt K t
set_option maxRecDepth 100000 in
set_option maxHeartbeats 0 in
theorem PySem.Challenge.cw_LID_holds : PySem.Challenge.rw_LID.Holds := by
 w_on;o_law;k_head;(case hw=>w_witness2)
 k_fill
 refine L2.walk_of (l:=PySem.Challenge.rw_LID) (n:=63) (k:=40) (x:="script") (CX:=fun w=>..) (sp:=fun _=>My.sp_law) rfl (by decide) rfl ⟨rfl,by decide,by decide⟩ (fun w h Y=>PySem.W.kIn_of Y) ?F ?S ?C
 case F=>
  intro w mg fa h KX G hmg
  have T:∃ t,My.Txt (L2.KOf KX) t:=by
   dsimp only[L2.KOf]                          -- K must stand as «<heap const> w.params» for k_is
   refine' My.txt_mk ?e1 ?e2 ?e3 ..
   (case e1=>PySem.W.k_is)                    -- in the order: a name->its address->its object->its parts
   (case e2=>PySem.W.k_is)
   ..
  obtain⟨t,T⟩:=T
  have e0:=hmg.symm.trans (PySem.W.mg_of KX G T.law)
  cases e0                                       -- fa is the law's own address
  exact⟨_,fun s u=>.of_eq rfl,fun base kb nb=>My.law_fn T kb nb⟩     -- if «.of_eq rfl» comes too early: refine' ⟨_,?b,fun base kb nb=>My.law_fn T kb nb⟩;exact fun s u=>.of_eq rfl
 case S=>exact fun w H a ns hl hO hS=>..
 case C=>exact ..
(the tactic k_is has no namespace: write k_is) -/
namespace L2
open PySem PySem.Spec PyProof.Rows
def defArgs (s:Stmt):Arguments:=match s with
 | .FunctionDef _ a _ _ _ _ _ _ _ _=>a
 | _=>{ posonlyargs:=[],args:=[],vararg:=none,kwonlyargs:=[],kw_defaults:=[],kwarg:=none,defaults:=[] }
def defBody (s:Stmt):List Stmt:=match s with
 | .FunctionDef _ _ b _ _ _ _ _ _ _=>b
 | _=>[]
def defScope (s:Stmt):Scope:=match s with
 | .FunctionDef _ _ _ _ _ _ sc _ _ _=>sc
 | _=>{ kind:=.function,names:=[],isGenerator:=false,isCoroutine:=false }
abbrev CX0:CXT:=fun _ _ _ _ _ _=>False
abbrev E0:XK:=fun _ _ _=>False
theorem pass0 {X:Cx}:Passes CX0 X E0:=fun _ _ _ _ _ _ _ h=>h.elim
structure Fun (K:PySem.W.Frag) (x qual:Str) (st:Stmt) (f:Addr) (fd:FuncData):Prop where
 ex:∃ (oc:Value) (od:Option Addr) (kV doc pm:Value) (an:Option Addr) (cdv ct:Value) (osl:Array (Option Value)),
  fd=PySem.W.fnOf x qual (defArgs st) (defBody st) (defScope st) .none kV doc pm an cdv ct/\K.lookup f=some ⟨oc,od,.func fd,osl⟩/\PySem.W.codeIn K cdv qual=true
 kp:PySem.W.keepIn K (.ref f)=true
section
variable {P:Program}{w:World}{K:PySem.W.Frag}{mg:Str->Option Value}{base:Heap}
theorem Fun.ok {x qual:Str}{st:Stmt}{f:Addr}{fd:FuncData}{N ps:List Str}{k:Nat}{sp:Sp} (F:Fun K x qual st f fd) (S:FnScope N ps (defScope st)) (len:∀ vs H Q E,sp vs H Q E->vs.length=ps.length)
  (hbody:∀ (cdv:Value) (A:Around) (outer:List Env) (s:Shared) (H:Hp) (vs:List V) (Q:VK) (E:XK),Room k (A.deeper (envOfC qual (defScope st) s.heap.objs.size f cdv))->sp vs H Q E ->
   ∃ t,PSs (cxOf CX0 P w K mg base N qual (defScope st) f cdv A outer s H E).nox (defBody st) t/\t { nx:=fun _ H'=>Q .non H',rt:=Q } (start N vs) H):FnOk P w K mg base CX0 (k+1) f fd ps sp:=by
 obtain⟨oc,od,kV,doc,pm,an,cdv,ct,osl,rfl,lk,hcd⟩:=F.ex
 refine fn_of lk hcd S len fun A outer s H vs Q E hr hsp=>?_
 obtain⟨t,h,q⟩:=hbody cdv A outer s H vs Q E hr hsp
 exact⟨t,h.nox,q⟩
theorem Fun.binds {x qual:Str}{st:Stmt}{f:Addr}{fd:FuncData}{ps:List Str} (F:Fun K x qual st f fd)
  (h:∀ (kV doc pm:Value) (an:Option Addr) (cdv ct:Value) (us:List Value),us.length=ps.length->bindArgs (PySem.W.fnOf x qual (defArgs st) (defBody st) (defScope st) .none kV doc pm an cdv ct) ⟨us,[]⟩=pure (ps.zip us)):Binds K fd ps []:=by
 obtain⟨oc,od,kV,doc,pm,an,cdv,ct,osl,rfl,lk,hcd⟩:=F.ex
 exact .all (h kV doc pm an cdv ct)
theorem fun_mk {x qual:Str}{st:Stmt}{f:Addr}{oc:Value}{od an:Option Addr}{osl:Array (Option Value)}{kV doc pm cdv ct:Value} (l:K.lookup f=some ⟨oc,od,.func (PySem.W.fnOf x qual (defArgs st) (defBody st) (defScope st) .none kV doc pm an cdv ct),osl⟩)
  (c:PySem.W.codeIn K cdv qual=true) (k:PySem.W.keepIn K (.ref f)=true):Fun K x qual st f (PySem.W.fnOf x qual (defArgs st) (defBody st) (defScope st) .none kV doc pm an cdv ct):=⟨⟨oc,od,kV,doc,pm,an,cdv,ct,osl,rfl,l,c⟩,k⟩
end
theorem hu_of {A:Around}{k:Nat} (hr:Room k A):A.units+1<cLine:=Nat.lt_of_le_of_lt (Nat.add_le_add_left (by decide:1<=64) _) hr.units
section
variable {X:Cx}
end
theorem iteF {A B:Prop} (h:B):if false=true then A else B:=by
 rw[if_neg Bool.false_ne_true]
 exact h
theorem iteT {A B:Prop} (h:A):if true=true then A else B:=by
 rw[if_pos rfl]
 exact h
theorem ite2 {c A B:Prop} [Decidable c] (h1:c->A) (h2:¬c->B):if c then A else B:=by
 by_cases h:c
 ·rw[if_pos h]
  exact h1 h
 ·rw[if_neg h]
  exact h2 h
def Same (H H':Hp):Prop:=∀ b o,H b=some o->H' b=some o
theorem Same.refl (H:Hp):Same H H:=fun _ _ h=>h
theorem Same.trans {H H1 H2:Hp} (a:Same H H1) (b:Same H1 H2):Same H H2:=fun c o h=>b c o (a c o h)
theorem Same.free {H H':Hp} (e:Same H H') {l:Addr} (h:H' l=Option.none):H l=Option.none:=by
 cases q:H l with
 | none=>rfl
 | some o=>
  rw[e l o q]at h
  cases h
theorem Same.seq {K:PySem.W.Frag}{H H':Hp}{a:Addr}{xs:List V} (e:Same H H') (h:SqL K H a xs):SqL K H' a xs:=by
 rcases h with (h | ⟨o,h⟩) | h
 ·exact .inl (.inl (e _ _ h))
 ·exact .inl (.inr ⟨o,e _ _ h⟩)
 ·exact .inr h
end L2
namespace L2
open PySem PySem.Spec PyProof.Rows
section
variable {X:Cx}
end
end L2
namespace L2
open PySem PySem.Spec PyProof.Rows
section
variable {κ:Type} [DecidableEq κ]
theorem valV_in {kvs:List (κ×V)}{k:κ}{v:V} (h:valV kvs k=some v):k∈kvs.map (·.1):=by
 have q:(kvs.any fun kv=>decide (kv.1=k))=true:=by
  rw[valV_any,h]
  all_goals rfl
 obtain⟨p,hp,e⟩:=List.any_eq_true.mp q
 exact List.mem_map.mpr ⟨p,hp,of_decide_eq_true e⟩
end
end L2
end
section
namespace L2
open PySem
def DRaw (h:Heap) (d:Addr) (es:Array DictEntry) (ep:Nat):Prop:=∃ ob,h.get? d=some ob/\ob.ExactDict/\ob.data=.dict es ep
theorem DRaw.type {s:Shared}{d:Addr}{es:Array DictEntry}{ep:Nat} (m:DRaw s.heap d es ep):s.TypeIs (.ref d) "dict":=let ⟨ob,a,b,_⟩:=m;⟨ob,a,b.1⟩
theorem DRaw.lt {h:Heap}{d:Addr}{es:Array DictEntry}{ep:Nat} (m:DRaw h d es ep):d<h.objs.size:=let ⟨_,a,_⟩:=m;Heap.lt_size a
theorem DRaw.at {h h':Heap}{d:Addr}{es:Array DictEntry}{ep:Nat} (m:DRaw h d es ep) (k:∀ o,h.get? d=some o->h'.get? d=some o):DRaw h' d es ep:=let ⟨ob,a,r⟩:=m;⟨ob,k _ a,r⟩
section
variable {prog:Program}{w:World}{A:Around}{E:Value->Shared->Prop}{s:Shared}
theorem draw_iter {d:Addr}{es:Array DictEntry}{ep:Nat}{Q:Value->Shared->Prop} (lo:(d == sysModules)=false) (m:DRaw s.heap d es ep)
  (q:Q (.ref s.heap.objs.size) { s with heap:=s.heap.push { cls:=.type "dict_keyiterator",data:=.fields #[.ref d,.int 0 0,.int es.size 0,.int ep 0] } }):wpAny (model prog w) A (pyIter (.ref d)) Q E s:=by
 obtain⟨ob,g1,g2,g3⟩:=id m
 refine wpAny_pyIter_slot m.type F.slot_dict_iter (wpAny_call_entry F.slot_dict_iter m.type F.entry_dict_iter ?_ (F.args_dict_iter_1 _))
 (unfold Builtin.«dict.__iter__»;refine wpAny_bind ?_;unfold Builtin.Dict.dictSlotNone;refine wpAny_bind (wpAny_notOrdered_dict m.type ?_))
 (show wpAny _ _ (pure (Value.ref d)) _ _ s;refine wpAny_pure ?_)
 (show wpAny _ _ (Builtin.Dict.showsAll d >>= _) _ _ s;unfold Builtin.Dict.showsAll;rw[if_neg (by rw[lo];exact Bool.false_ne_true)])
 refine wpAny_bind (wpAny_pure (wpAny_bind (wpAny_dictEntries g1 g3 (wpAny_bind (wpAny_dictEpoch g1 g3 ?_)))))
 refine wpAny_bind (wpAny_newObj_type (wpAny_pure ⟨_,rfl,"dict_keyiterator",_,⟨_,Heap.get?_push_size _ rfl,rfl⟩,F.slot_dict_keyiterator_next.lookup,?_⟩))
 simpa [rawInt] using q
theorem draw_item {it d:Addr}{i ep:Nat}{es:Array DictEntry}{Q:Option Value->Shared->Prop} (k:s.heap.IsKeyIter it d i es.size ep) (m:DRaw s.heap d es ep) (lt:i<es.size)
  (q:∀ h',h'.IsKeyIter it d (i+1) es.size ep->Heap.SameBut it s.heap h'->Q (some es[i].key) { s with heap:=h' }):wpAny (model prog w) A (pyNext (.ref it)) Q E s:=by
 obtain⟨oi,a1,a2,a3⟩:=id k
 obtain⟨ob,g1,g2,g3⟩:=id m
 unfold pyNext
 refine wpAny_bind (wpAny_attempt (wpAny_callSpecial?_slot (name:=Str.ofString "__next__") k.typeIs F.slot_dict_keyiterator_next (wpAny_call_entry F.slot_dict_keyiterator_next k.typeIs F.entry_dict_keyiterator_next ?_ (F.args_dict_keyiterator_next_1 _))))
 (refine wpAny_bind (wpAny_pure ?_);refine wpAny_bind ?_;refine wpAny_bind ?_)
 first | refine wpAny_bind (wpAny_typeNameOfWhole_keyiter k.typeIs (wpAny_pure ?_)) | refine wpAny_bind (wpAny_typeNameOf_keyiter k.typeIs (wpAny_pure ?_))
 refine wpAny_bind (wpAny_fieldsOf a1 a3 ?_)
 simp only[show Builtin.Dict_items.ownsTuple "dict_keyiterator"=false by decide,Bool.false_eq_true,if_false]
 (show wpAny _ _ (if (Value.ref d == Value.none)=true then _ else _) _ _ s;rw[if_neg (show ¬((Value.ref d == Value.none)=true) from fun z=>Bool.false_ne_true z)])
 refine wpAny_bind (wpAny_pure (wpAny_bind (wpAny_dictEntries g1 g3 ?_)))
 (rw[if_neg (by simp)];refine wpAny_bind (wpAny_pure (wpAny_bind (wpAny_dictEpoch g1 g3 ?_))))
 (rw[if_neg (by simp)];refine wpAny_pure ?_)
 simp only[show ¬((i:Int)<0) from by lia,if_false,Int.toNat_natCast,Array.getElem?_eq_getElem lt]
 refine wpAny_bind ?_
 first | refine wpAny_bind (wpAny_typeNameOfWhole_keyiter k.typeIs (wpAny_pure ?_)) | refine wpAny_bind (wpAny_typeNameOf_keyiter k.typeIs (wpAny_pure ?_))
 refine wpAny_bind (wpAny_isOneOf_keyiter k.typeIs ?_)
 (show wpAny _ _ (setField (.ref it) 1 (rawInt ((i:Int)+1)) >>= _) _ _ s;refine wpAny_bind (wpAny_setField a1 a3 (by simp) ?_))
 have k':(s.heap.update it (Obj.mapFields (·.setIfInBounds 1 (rawInt ((i:Int)+1))))).IsKeyIter it d (i+1) es.size ep:=⟨_,Heap.get?_update_self _ a1 (Obj.isFreed_of_fields (Obj.data_mapFields a3 _)),Eq.trans (Obj.cls_mapFields ..) a2,by rw[Obj.data_mapFields a3];simp [rawInt]⟩
 refine wpAny_bind (wpAny_holding (wpAny_bind (wpAny_isOneOf_keyiter (s:={ s with heap:=s.heap.update it (Obj.mapFields (·.setIfInBounds 1 (rawInt ((i:Int)+1)))) }) k'.typeIs ?_)))
 show wpAny _ _ (pure es[i].key) _ _ _
 exact wpAny_pure (wpAny_pure ⟨_,rfl,wpAny_pure (q _ k' (Heap.SameBut.update ..))⟩)
theorem draw_end {it d:Addr}{i ep:Nat}{es:Array DictEntry}{Q:Option Value->Shared->Prop} (hh:A.handled=none) (k:s.heap.IsKeyIter it d i es.size ep) (m:DRaw s.heap d es ep) (ge:es.size<=i)
  (q:∀ h',Heap.ExtBut it s.heap h'->Q none { s with heap:=h' }):wpAny (model prog w) A (pyNext (.ref it)) Q E s:=by
 obtain⟨oi,a1,a2,a3⟩:=id k
 obtain⟨ob,g1,g2,g3⟩:=id m
 unfold pyNext
 refine wpAny_bind (wpAny_attempt (wpAny_callSpecial?_slot (name:=Str.ofString "__next__") k.typeIs F.slot_dict_keyiterator_next (wpAny_call_entry F.slot_dict_keyiterator_next k.typeIs F.entry_dict_keyiterator_next ?_ (F.args_dict_keyiterator_next_1 _))))
 (refine wpAny_bind (wpAny_pure ?_);refine wpAny_bind ?_;refine wpAny_bind ?_)
 first | refine wpAny_bind (wpAny_typeNameOfWhole_keyiter k.typeIs (wpAny_pure ?_)) | refine wpAny_bind (wpAny_typeNameOf_keyiter k.typeIs (wpAny_pure ?_))
 refine wpAny_bind (wpAny_fieldsOf a1 a3 ?_)
 simp only[show Builtin.Dict_items.ownsTuple "dict_keyiterator"=false by decide,Bool.false_eq_true,if_false]
 (show wpAny _ _ (if (Value.ref d == Value.none)=true then _ else _) _ _ s;rw[if_neg (show ¬((Value.ref d == Value.none)=true) from fun z=>Bool.false_ne_true z)])
 refine wpAny_bind (wpAny_pure (wpAny_bind (wpAny_dictEntries g1 g3 ?_)))
 (rw[if_neg (by simp)];refine wpAny_bind (wpAny_pure (wpAny_bind (wpAny_dictEpoch g1 g3 ?_))))
 (rw[if_neg (by simp)];refine wpAny_pure ?_)
 simp only[show ¬((i:Int)<0) from by lia,if_false,Int.toNat_natCast,Array.getElem?_eq_none ge]
 refine wpAny_bind ?_
 first | refine wpAny_bind (wpAny_typeNameOfWhole_keyiter k.typeIs (wpAny_pure ?_)) | refine wpAny_bind (wpAny_typeNameOf_keyiter k.typeIs (wpAny_pure ?_))
 (show wpAny _ _ (setField (.ref it) 0 .none >>= _) _ _ s;refine wpAny_bind (wpAny_setField a1 a3 (by simp) ?_))
 (show wpAny _ _ (newExc (.type "StopIteration") [] >>= _) _ _ _;refine wpAny_bind ?_;simp only[newExc,newTuple])
 refine wpAny_bind (wpAny_newObj_type (wpAny_bind (m:=firstArgMember _ _) (wpAny_of_eq (a:=Value.none) (by first | rfl | (simp only[firstArgMember] <;> rfl)) (wpAny_newObj_type ?_ (by size_fits)))) (by size_fits))
 (simp only[raiseNew];refine wpAny_bind (wpAny_handled ?_);rw[show A.in1.handled=none from hh])
 refine wpAny_bind (wpAny_pure (wpAny_throw ?_))
 refine wpAny_bind (wpAny_isInstance (T:="StopIteration") (b:=true) ⟨_,Heap.get?_push_size _ rfl,rfl⟩ isSubtype_stop (wpAny_pure ?_))
 exact q _ (((Heap.SameBut.update ..).extBut.push _).push _)
end
theorem walks_raw {prog:Program}{w:World}{A:Around} (hh:A.handled=none) (J d:Addr) (ne:d≠J) (es:Array DictEntry) (ep:Nat) :
  Walks prog w A J [J,d] [J] es.size (fun i v=>∃ e,es[i]?=some e/\v=e.key) (fun i h=>h.IsKeyIter J d i es.size ep/\DRaw h d es ep) where
 sub:=fun b hb=>by simp at hb;simp [hb]
 frame:=fun _ _ _ st hk=>⟨let ⟨o,a,r⟩:=st.1;⟨o,hk J (by simp) o a,r⟩,st.2.at fun o e=>hk d (by simp) o e⟩
 item:=fun i s Q E lt st q=>draw_item st.1 st.2 lt fun h' k' sb=>q _ h' s.toks ⟨es[i],Array.getElem?_eq_getElem lt,rfl⟩ ⟨k',st.2.at fun o e=>sb.extBut _ _ ne e⟩ fun b o hb e=>sb.extBut b o (fun z=>hb (by simp [z])) e
 done:=fun s Q E st q=>draw_end hh st.1 st.2 (Nat.le_refl _) fun h' eb=>q h' s.toks fun b o hb e=>eb b o (fun z=>hb (by simp [z])) e
 self:=fun _ _ _ _ st q=>wpAny_pyIter_keyiter st.1 q
end L2
end
section
namespace Kn
open PySem
inductive Val where
 | num (i:Int)
 | word (s:Str)
 | row (ps:List (Str×Val))
 | bag (ps:List (Val×Int))
inductive KE where
 | i (n:Int)
 | s (x:Str)
noncomputable instance:DecidableEq Val:=fun a b=>Classical.propDecidable (a=b)
noncomputable instance:DecidableEq KE:=fun a b=>Classical.propDecidable (a=b)
def sLt (a b:Str):Bool:=decide (a.cps.toList<b.cps.toList)
def rank:Val->Int
 | .num _=>0
 | .word _=>1
 | .row _=>2
 | .bag _=>3
mutual
def key:Val->List KE
 | .num i=>[.i 0,.i i]
 | .word s=>[.i 1,.s s]
 | .row ps=>.i 2::keyR ps
 | .bag ps=>.i 3::keyB ps
def keyR:List (Str×Val)->List KE
 | []=>[.i 0]
 | p::ps=>.i 1::.s p.1::(key p.2++keyR ps)
def keyB:List (Val×Int)->List KE
 | []=>[.i 0]
 | p::ps=>.i 1::(key p.1++.i p.2::keyB ps)
end
mutual
noncomputable def ltV:Val->Val->Bool
 | .num i,.num j=>decide (i<j)
 | .word s,.word t=>sLt s t
 | .row ps,.row qs=>ltR ps qs
 | .bag ps,.bag qs=>ltB ps qs
 | x,y=>decide (rank x<rank y)
noncomputable def ltR:List (Str×Val)->List (Str×Val)->Bool
 | [],[]=>false
 | [],_::_=>true
 | _::_,[]=>false
 | p::ps,q::qs=>if p=q then ltR ps qs else if p.1=q.1 then ltV p.2 q.2 else sLt p.1 q.1
noncomputable def ltB:List (Val×Int)->List (Val×Int)->Bool
 | [],[]=>false
 | [],_::_=>true
 | _::_,[]=>false
 | p::ps,q::qs=>if p=q then ltB ps qs else if p.1=q.1 then decide (p.2<q.2) else ltV p.1 q.1
end
def kEl:KE->KE->Option Bool
 | .i m,.i n=>some (decide (m<n))
 | .s x,.s y=>some (sLt x y)
 | _,_=>none
noncomputable def cmpK:List KE->List KE->Option Bool
 | [],[]=>some false
 | [],_::_=>some true
 | _::_,[]=>some false
 | a::as,b::bs=>if a=b then cmpK as bs else kEl a b
theorem cmpK_same {a:KE}{as bs:List KE}:cmpK (a::as) (a::bs)=cmpK as bs:=by rw[cmpK,if_pos rfl]
theorem cmpK_int {m n:Int}{as bs:List KE} (h:m≠n):cmpK (.i m::as) (.i n::bs)=some (decide (m<n)):=by
 rw[cmpK,if_neg (by intro e;injection e with e;exact h e)];rfl
theorem cmpK_str {m n:Str}{as bs:List KE} (h:m≠n):cmpK (.s m::as) (.s n::bs)=some (sLt m n):=by
 rw[cmpK,if_neg (by intro e;injection e with e;exact h e)];rfl
mutual
theorem cmp_key:∀ (x y:Val) (r r':List KE),cmpK (key x++r) (key y++r')=if x=y then cmpK r r' else some (ltV x y)
 | .num i,.num j,r,r'=>by
  simp only[key,List.cons_append,List.nil_append,cmpK_same]
  by_cases h:i=j
  ·subst h;rw[if_pos rfl,cmpK_same]
  ·rw[if_neg (by intro e;injection e with e;exact h e),cmpK_int h,ltV]
 | .word i,.word j,r,r'=>by
  simp only[key,List.cons_append,List.nil_append,cmpK_same]
  by_cases h:i=j
  ·subst h;rw[if_pos rfl,cmpK_same]
  ·rw[if_neg (by intro e;injection e with e;exact h e),cmpK_str h,ltV]
 | .row ps,.row qs,r,r'=>by
  simp only[key,List.cons_append,cmpK_same]
  rw[cmp_keyR ps qs r r']
  by_cases h:ps=qs
  ·subst h;rw[if_pos rfl,if_pos rfl]
  ·rw[if_neg h,if_neg (by intro e;injection e with e;exact h e),ltV]
 | .bag ps,.bag qs,r,r'=>by
  simp only[key,List.cons_append,cmpK_same]
  rw[cmp_keyB ps qs r r']
  by_cases h:ps=qs
  ·subst h;rw[if_pos rfl,if_pos rfl]
  ·rw[if_neg h,if_neg (by intro e;injection e with e;exact h e),ltV]
 | .num _,.word _,r,r'=>by simp [key,cmpK,kEl,ltV,rank]
 | .num _,.row _,r,r'=>by simp [key,cmpK,kEl,ltV,rank]
 | .num _,.bag _,r,r'=>by simp [key,cmpK,kEl,ltV,rank]
 | .word _,.num _,r,r'=>by simp [key,cmpK,kEl,ltV,rank]
 | .word _,.row _,r,r'=>by simp [key,cmpK,kEl,ltV,rank]
 | .word _,.bag _,r,r'=>by simp [key,cmpK,kEl,ltV,rank]
 | .row _,.num _,r,r'=>by simp [key,cmpK,kEl,ltV,rank]
 | .row _,.word _,r,r'=>by simp [key,cmpK,kEl,ltV,rank]
 | .row _,.bag _,r,r'=>by simp [key,cmpK,kEl,ltV,rank]
 | .bag _,.num _,r,r'=>by simp [key,cmpK,kEl,ltV,rank]
 | .bag _,.word _,r,r'=>by simp [key,cmpK,kEl,ltV,rank]
 | .bag _,.row _,r,r'=>by simp [key,cmpK,kEl,ltV,rank]
theorem cmp_keyR:∀ (ps qs:List (Str×Val)) (r r':List KE),cmpK (keyR ps++r) (keyR qs++r')=if ps=qs then cmpK r r' else some (ltR ps qs)
 | [],[],r,r'=>by simp [keyR,cmpK_same,cmpK]
 | [],q::qs,r,r'=>by
  simp only[keyR,List.cons_append,List.nil_append]
  rw[cmpK_int (by decide),if_neg (by intro e;cases e),ltR];rfl
 | p::ps,[],r,r'=>by
  simp only[keyR,List.cons_append,List.nil_append]
  rw[cmpK_int (by decide),if_neg (by intro e;cases e),ltR];rfl
 | p::ps,q::qs,r,r'=>by
  simp only[keyR,List.cons_append,List.append_assoc,cmpK_same]
  by_cases hf:p.1=q.1
  ·rw[hf,cmpK_same,cmp_key p.2 q.2 _ _]
   by_cases hx:p.2=q.2
   ·have e:p=q:=Prod.ext hf hx
    subst e
    rw[if_pos rfl,cmp_keyR ps qs r r',ltR,if_pos rfl]
    by_cases h:ps=qs
    ·subst h;rw[if_pos rfl,if_pos rfl]
    ·rw[if_neg h,if_neg (by intro e;injection e with _ e;exact h e)]
   ·have e:¬p=q:=fun z=>hx (by rw[z])
    rw[if_neg hx,if_neg (by intro z;injection z with z _;exact e z),ltR,if_neg e,if_pos hf]
  ·have e:¬p=q:=fun z=>hf (by rw[z])
   rw[cmpK_str hf,if_neg (by intro z;injection z with z _;exact e z),ltR,if_neg e,if_neg hf]
theorem cmp_keyB:∀ (ps qs:List (Val×Int)) (r r':List KE),cmpK (keyB ps++r) (keyB qs++r')=if ps=qs then cmpK r r' else some (ltB ps qs)
 | [],[],r,r'=>by simp [keyB,cmpK_same,cmpK]
 | [],q::qs,r,r'=>by
  simp only[keyB,List.cons_append,List.nil_append]
  rw[cmpK_int (by decide),if_neg (by intro e;cases e),ltB];rfl
 | p::ps,[],r,r'=>by
  simp only[keyB,List.cons_append,List.nil_append]
  rw[cmpK_int (by decide),if_neg (by intro e;cases e),ltB];rfl
 | p::ps,q::qs,r,r'=>by
  simp only[keyB,List.cons_append,List.append_assoc,cmpK_same]
  rw[cmp_key p.1 q.1 _ _]
  by_cases hx:p.1=q.1
  ·rw[if_pos hx]
   by_cases hf:p.2=q.2
   ·have e:p=q:=Prod.ext hx hf
    subst e
    rw[cmpK_same,cmp_keyB ps qs r r',ltB,if_pos rfl]
    by_cases h:ps=qs
    ·subst h;rw[if_pos rfl,if_pos rfl]
    ·rw[if_neg h,if_neg (by intro e;injection e with _ e;exact h e)]
   ·have e:¬p=q:=fun z=>hf (by rw[z])
    rw[cmpK_int hf,if_neg (by intro z;injection z with z _;exact e z),ltB,if_neg e,if_pos hx]
  ·have e:¬p=q:=fun z=>hx (by rw[z])
   rw[if_neg hx,if_neg (by intro z;injection z with z _;exact e z),ltB,if_neg e,if_neg hx]
end
noncomputable def aheadB (x y:Val):Bool:=if x=y then false else ltV x y
theorem cmp_keys (x y:Val):cmpK (key x) (key y)=some (aheadB x y):=by
 have h:=cmp_key x y [] []
 simp only[List.append_nil]at h
 rw[h]
 unfold aheadB
 by_cases e:x=y
 ·rw[if_pos e,if_pos e];rfl
 ·rw[if_neg e,if_neg e]
theorem sLt_irrefl (x:Str):sLt x x=false:=by
 unfold sLt
 exact decide_eq_false (List.lt_irrefl _)
theorem sLt_trans {x y z:Str} (h1:sLt x y=true) (h2:sLt y z=true):sLt x z=true:=by
 unfold sLt at *
 exact decide_eq_true (List.lt_trans (of_decide_eq_true h1) (of_decide_eq_true h2))
theorem cmpK_trans:∀ (a b c:List KE),cmpK a b=some true->cmpK b c=some true->cmpK a c=some true
 | [],[],_,h,_=>by cases h
 | [],_::_,[],_,h=>by cases h
 | [],_::_,_::_,_,_=>rfl
 | _::_,[],_,h,_=>by cases h
 | _::_,_::_,[],_,h=>by cases h
 | a::as,b::bs,c::cs,h1,h2=>by
  by_cases e1:a=b
  ·subst e1
   rw[cmpK_same]at h1
   by_cases e2:a=c
   ·subst e2
    rw[cmpK_same]at h2 ⊢
    exact cmpK_trans as bs cs h1 h2
   ·rw[cmpK,if_neg e2]at h2 ⊢
    exact h2
  ·by_cases e2:b=c
   ·subst e2
    rw[cmpK,if_neg e1]at h1 ⊢
    exact h1
   ·rw[cmpK,if_neg e1]at h1
    rw[cmpK,if_neg e2]at h2
    cases a with
    | i m=>
     cases b with
     | i n=>
      cases c with
      | i k=>
       have g1:m<n:=of_decide_eq_true (Option.some.inj h1)
       have g2:n<k:=of_decide_eq_true (Option.some.inj h2)
       have g:m<k:=by lia
       rw[cmpK_int (by lia),decide_eq_true g]
      | s z=>cases h2
     | s y=>cases h1
    | s x=>
     cases b with
     | i n=>cases h1
     | s y=>
      cases c with
      | i k=>cases h2
      | s z=>
       have g1:sLt x y=true:=Option.some.inj h1
       have g2:sLt y z=true:=Option.some.inj h2
       have g:=sLt_trans g1 g2
       rw[cmpK_str (by intro e;subst e;rw[sLt_irrefl]at g;cases g),g]
theorem ahead_trans {x y z:Val} (h1:aheadB x y=true) (h2:aheadB y z=true):aheadB x z=true:=by
 have e1:=cmp_keys x y
 have e2:=cmp_keys y z
 rw[h1]at e1
 rw[h2]at e2
 have e:=cmpK_trans _ _ _ e1 e2
 rw[cmp_keys x z]at e
 exact Option.some.inj e
end Kn
end
section
namespace L2
open PySem PySem.Spec PyProof.Rows
inductive Dt where
 | int (i:Int)
 | str (x:Str)
 | tup (ds:List Dt)
noncomputable instance:DecidableEq Dt:=fun a b=>Classical.propDecidable (a=b)
mutual
def Dt.dep:Dt->Nat
 | .int _=>0
 | .str _=>0
 | .tup ds=>depL ds+1
def depL:List Dt->Nat
 | []=>0
 | d::ds=>max d.dep (depL ds)
end
theorem dep_mem:∀ {ds:List Dt}{d:Dt},d∈ds->d.dep<=depL ds
 | d::ds,e,h=>by
  rw[depL]
  rcases List.mem_cons.mp h with rfl | h
  ·exact Nat.le_max_left _ _
  ·exact Nat.le_trans (dep_mem h) (Nat.le_max_right _ _)
mutual
def IsDt (H:Hp):Dt->V->Prop
 | .int i,v=>v=.int i
 | .str x,v=>v=.str x
 | .tup ds,v=>∃ a xs,v=.ref a/\H a=some (.tup xs)/\IsDts H ds xs
def IsDts (H:Hp):List Dt->List V->Prop
 | [],xs=>xs=[]
 | d::ds,xs=>∃ y ys,xs=y::ys/\IsDt H d y/\IsDts H ds ys
end
def Tups (H H':Hp):Prop:=∀ b xs,H b=some (.tup xs)->H' b=some (.tup xs)
theorem Tups.trans {H H1 H2:Hp} (a:Tups H H1) (b:Tups H1 H2):Tups H H2:=fun c xs h=>b c xs (a c xs h)
theorem Same.tups {H H':Hp} (h:Same H H'):Tups H H':=fun b xs e=>h b _ e
theorem Tups.new {H:Hp}{p:Addr} (h:H p=none) (o:HO):Tups H (upd H p o):=fun b xs e=>by rw[upd_ne (ne_of_none e h)];exact e
theorem Tups.lst {H:Hp}{p:Addr}{xs ys:List V} (h:H p=some (.lst xs)):Tups H (upd H p (.lst ys)):=fun b zs e=>by
 rw[upd_ne (ne_of e h (by intro z;cases z))];exact e
mutual
theorem IsDt.mono {H H':Hp} (t:Tups H H'):∀ {d:Dt}{v:V},IsDt H d v->IsDt H' d v
 | .int i,v,h=>by rw[IsDt]at h ⊢;exact h
 | .str x,v,h=>by rw[IsDt]at h ⊢;exact h
 | .tup ds,v,h=>by
  rw[IsDt]at h ⊢
  obtain⟨a,xs,e,h1,h2⟩:=h
  exact⟨a,xs,e,t a xs h1,IsDts.mono t h2⟩
theorem IsDts.mono {H H':Hp} (t:Tups H H'):∀ {ds:List Dt}{xs:List V},IsDts H ds xs->IsDts H' ds xs
 | [],xs,h=>by rw[IsDts]at h ⊢;exact h
 | d::ds,xs,h=>by
  rw[IsDts]at h ⊢
  obtain⟨y,ys,e,h1,h2⟩:=h
  exact⟨y,ys,e,IsDt.mono t h1,IsDts.mono t h2⟩
end
mutual
theorem IsDt.inj {H:Hp}:∀ {d e:Dt}{v:V},IsDt H d v->IsDt H e v->d=e
 | .int i,e,v,h,h'=>by
  rw[IsDt]at h;subst h
  cases e with
  | int j=>rw[IsDt]at h';cases h';rfl
  | str y=>rw[IsDt]at h';cases h'
  | tup es=>rw[IsDt]at h';obtain⟨_,_,z,_⟩:=h';cases z
 | .str i,e,v,h,h'=>by
  rw[IsDt]at h;subst h
  cases e with
  | int j=>rw[IsDt]at h';cases h'
  | str y=>rw[IsDt]at h';cases h';rfl
  | tup es=>rw[IsDt]at h';obtain⟨_,_,z,_⟩:=h';cases z
 | .tup ds,e,v,h,h'=>by
  rw[IsDt]at h
  obtain⟨a,xs,rfl,h1,h2⟩:=h
  cases e with
  | int j=>rw[IsDt]at h';cases h'
  | str y=>rw[IsDt]at h';cases h'
  | tup es=>
   rw[IsDt]at h'
   obtain⟨b,ys,z,g1,g2⟩:=h'
   cases z
   rw[h1]at g1
   cases g1
   rw[IsDts.inj h2 g2]
theorem IsDts.inj {H:Hp}:∀ {ds es:List Dt}{xs:List V},IsDts H ds xs->IsDts H es xs->ds=es
 | [],es,xs,h,h'=>by
  rw[IsDts]at h;subst h
  cases es with
  | nil=>rfl
  | cons e es=>rw[IsDts]at h';obtain⟨_,_,z,_⟩:=h';cases z
 | d::ds,es,xs,h,h'=>by
  rw[IsDts]at h
  obtain⟨y,ys,rfl,h1,h2⟩:=h
  cases es with
  | nil=>rw[IsDts]at h';cases h'
  | cons e es=>
   rw[IsDts]at h'
   obtain⟨y',ys',z,g1,g2⟩:=h'
   cases z
   rw[IsDt.inj h1 g1,IsDts.inj h2 g2]
end
theorem IsDts.length {H:Hp}:∀ {ds:List Dt}{xs:List V},IsDts H ds xs->xs.length=ds.length
 | [],xs,h=>by rw[IsDts]at h;subst h;rfl
 | d::ds,xs,h=>by
  rw[IsDts]at h
  obtain⟨y,ys,rfl,h1,h2⟩:=h
  simp [IsDts.length h2]
theorem IsDts.get {H:Hp}:∀ {ds:List Dt}{xs:List V}{i:Nat}{d:Dt},IsDts H ds xs->ds[i]?=some d->∃ y,xs[i]?=some y/\IsDt H d y
 | [],xs,i,d,h,e=>by simp at e
 | c::ds,xs,0,d,h,e=>by
  rw[IsDts]at h
  obtain⟨y,ys,rfl,h1,h2⟩:=h
  simp at e;subst e
  exact⟨y,rfl,h1⟩
 | c::ds,xs,i+1,d,h,e=>by
  rw[IsDts]at h
  obtain⟨y,ys,rfl,h1,h2⟩:=h
  obtain⟨z,q,r⟩:=IsDts.get (i:=i) h2 (by simpa using e)
  exact⟨z,by simpa using q,r⟩
theorem IsDts.append {H:Hp}:∀ {ds es:List Dt}{xs ys:List V},IsDts H ds xs->IsDts H es ys->IsDts H (ds++es) (xs++ys)
 | [],es,xs,ys,h,h'=>by rw[IsDts]at h;subst h;exact h'
 | d::ds,es,xs,ys,h,h'=>by
  rw[IsDts]at h
  obtain⟨z,zs,rfl,h1,h2⟩:=h
  rw[List.cons_append,List.cons_append,IsDts]
  exact⟨z,zs++ys,rfl,h1,IsDts.append h2 h'⟩
theorem IsDts.take {H:Hp}:∀ {ds:List Dt}{xs:List V} (n:Nat),IsDts H ds xs->IsDts H (ds.take n) (xs.take n)
 | _,_,0,_=>by rw[List.take_zero,List.take_zero,IsDts]
 | [],xs,n+1,h=>by rw[IsDts]at h;subst h;rw[List.take_nil,List.take_nil,IsDts]
 | d::ds,xs,n+1,h=>by
  rw[IsDts]at h
  obtain⟨z,zs,rfl,h1,h2⟩:=h
  rw[List.take_succ_cons,List.take_succ_cons,IsDts]
  exact⟨z,_,rfl,h1,IsDts.take n h2⟩
theorem IsDts.drop {H:Hp}:∀ {ds:List Dt}{xs:List V} (n:Nat),IsDts H ds xs->IsDts H (ds.drop n) (xs.drop n)
 | _,_,0,h=>by rw[List.drop_zero,List.drop_zero];exact h
 | [],xs,n+1,h=>by rw[IsDts]at h;subst h;rw[List.drop_nil,List.drop_nil,IsDts]
 | d::ds,xs,n+1,h=>by
  rw[IsDts]at h
  obtain⟨z,zs,rfl,h1,h2⟩:=h
  rw[List.drop_succ_cons,List.drop_succ_cons]
  exact IsDts.drop n h2
theorem IsDts.one {H:Hp}{d:Dt}{v:V} (h:IsDt H d v):IsDts H [d] [v]:=by
 rw[IsDts];exact⟨v,[],rfl,h,by rw[IsDts]⟩
theorem IsDts.cons {H:Hp}{d:Dt}{v:V}{ds:List Dt}{vs:List V} (h:IsDt H d v) (h':IsDts H ds vs):IsDts H (d::ds) (v::vs):=by
 rw[IsDts];exact⟨v,vs,rfl,h,h'⟩
theorem IsDts.nil {H:Hp}:IsDts H [] []:=by rw[IsDts]
theorem isDt_str {H:Hp} (x:Str):IsDt H (.str x) (.str x):=by rw[IsDt]
theorem isDt_tup {H:Hp}{a:Addr}{xs:List V}{ds:List Dt} (h:H a=some (.tup xs)) (h':IsDts H ds xs):IsDt H (.tup ds) (.ref a):=by rw[IsDt];exact⟨a,xs,rfl,h,h'⟩
theorem isDt_new {H:Hp}{p:Addr}{xs:List V}{ds:List Dt} (hp:H p=none) (h':IsDts H ds xs):IsDt (upd H p (.tup xs)) (.tup ds) (.ref p):=
 isDt_tup upd_same (h'.mono (.new hp _))
section
variable {P:Program}{w:World}{H:Hp}
theorem all_eq (ds es:List Dt):((List.range (min ds.length es.length)).all (fun j=>decide (ds[j]?=es[j]?)) && ds.length == es.length)=decide (ds=es):=by
 rw[Bool.eq_iff_iff]
 simp only[Bool.and_eq_true,List.all_eq_true,List.mem_range,decide_eq_true_eq,beq_iff_eq]
 constructor
 ·rintro⟨h1,h2⟩
  refine List.ext_getElem? fun i=>?_
  by_cases hi:i<min ds.length es.length
  ·exact h1 i hi
  ·rw[List.getElem?_eq_none (by lia),List.getElem?_eq_none (by lia)]
 ·rintro rfl
  exact⟨fun _ _=>rfl,rfl⟩
theorem eqAt_D:∀ (n:Nat) (A:Around) (s:Shared) (d e:Dt) (v u:V) (x y:Value),HOk P w H s.heap->d.dep<=n->A.units+n<cLine->IsDt H d v->IsDt H e u->RelV v x->RelV u y->SeqAt.EqAt A s x y (decide (d=e)):=by
 intro n
 induction n with
 | zero=>
  intro A s d e v u x y ok hd hu iv iu rv ru
  cases d with
  | int i=>
   rw[IsDt]at iv;subst iv
   obtain⟨t,rfl⟩:=rv
   cases e with
   | int j=>
    rw[IsDt]at iu;subst iu
    obtain⟨t',rfl⟩:=ru
    have z:decide (Dt.int i=Dt.int j)=(i == j):=by rw[Bool.eq_iff_iff];simp
    rw[z];exact SeqAt.EqAt.int_int i t j t'
   | str z=>
    rw[IsDt]at iu;subst iu
    obtain⟨t',rfl⟩:=ru
    rw[decide_eq_false (by intro q;cases q)];exact SeqAt.EqAt.int_str i t z t'
   | tup es=>
    rw[IsDt]at iu
    obtain⟨a,xs,rfl,h1,h2⟩:=iu
    cases ru
    obtain⟨hz,its,r,p⟩:=ok a _ h1
    rw[decide_eq_false (by intro q;cases q)];exact SeqAt.EqAt.int_tuple i t p (by lia)
  | str i=>
   rw[IsDt]at iv;subst iv
   obtain⟨t,rfl⟩:=rv
   cases e with
   | int j=>
    rw[IsDt]at iu;subst iu
    obtain⟨t',rfl⟩:=ru
    rw[decide_eq_false (by intro q;cases q)];exact SeqAt.EqAt.str_int i t j t'
   | str z=>
    rw[IsDt]at iu;subst iu
    obtain⟨t',rfl⟩:=ru
    have q:decide (Dt.str i=Dt.str z)=(i == z):=by rw[Bool.eq_iff_iff];simp
    rw[q];exact SeqAt.EqAt.str_str i t z t'
   | tup es=>
    rw[IsDt]at iu
    obtain⟨a,xs,rfl,h1,h2⟩:=iu
    cases ru
    obtain⟨hz,its,r,p⟩:=ok a _ h1
    rw[decide_eq_false (by intro q;cases q)];exact SeqAt.EqAt.str_tuple i t p (by lia)
  | tup ds=>rw[Dt.dep]at hd;lia
 | succ n ih=>
  intro A s d e v u x y ok hd hu iv iu rv ru
  cases d with
  | int i=>exact ih A s _ e v u x y ok (by rw[Dt.dep];lia) (by lia) iv iu rv ru
  | str i=>exact ih A s _ e v u x y ok (by rw[Dt.dep];lia) (by lia) iv iu rv ru
  | tup ds=>
   rw[IsDt]at iv
   obtain⟨a,xs,rfl,h1,h2⟩:=iv
   cases rv
   obtain⟨hz,its,r,p⟩:=ok a _ h1
   cases e with
   | int j=>
    rw[IsDt]at iu;subst iu
    obtain⟨t',rfl⟩:=ru
    rw[decide_eq_false (by intro q;cases q)];exact SeqAt.EqAt.tuple_int j t' p (by lia)
   | str z=>
    rw[IsDt]at iu;subst iu
    obtain⟨t',rfl⟩:=ru
    rw[decide_eq_false (by intro q;cases q)];exact SeqAt.EqAt.tuple_str z t' p (by lia)
   | tup es=>
    have iu':=iu
    rw[IsDt]at iu
    obtain⟨b,ys,rfl,g1,g2⟩:=iu
    cases ru
    obtain⟨hz2,its2,r2,p2⟩:=ok b _ g1
    by_cases hab:a=b
    ·subst hab
     rw[h1]at g1
     cases g1
     rw[IsDts.inj h2 g2,decide_eq_true rfl]
     exact SeqAt.EqAt.same _
    ·have l1:its.toArray.size=ds.length:=by rw[List.size_toArray,<- r.length,h2.length]
     have l2:its2.toArray.size=es.length:=by rw[List.size_toArray,<- r2.length,g2.length]
     have q:=SeqAt.RcAt.tuples (s:=s) (A:=A) (e:=fun j=>decide (ds[j]?=es[j]?)) p p2 (by lia) fun j hj1 hj2=>by
      have k1:j<ds.length:=by rw[<- l1];exact hj1
      have k2:j<es.length:=by rw[<- l2];exact hj2
      obtain⟨y1,e1,i1⟩:=h2.get (i:=j) (List.getElem?_eq_getElem k1)
      obtain⟨y2,e2,i2⟩:=g2.get (i:=j) (List.getElem?_eq_getElem k2)
      obtain⟨u1,f1,q1⟩:=r.get e1
      obtain⟨u2,f2,q2⟩:=r2.get e2
      have w1:its.toArray[j]=u1:=by
       have:=(List.getElem?_eq_some_iff.mp f1).2
       simpa using this
      have w2:its2.toArray[j]=u2:=by
       have:=(List.getElem?_eq_some_iff.mp f2).2
       simpa using this
      rw[w1,w2,List.getElem?_eq_getElem k1,List.getElem?_eq_getElem k2]
      have z:decide (some ds[j]=some es[j])=decide (ds[j]=es[j]):=by rw[Bool.eq_iff_iff];simp
      rw[z]
      have hdep:ds[j].dep<=n:=by
       have:=dep_mem (List.getElem_mem k1)
       rw[Dt.dep]at hd
       lia
      exact ih A.in1 s _ _ y1 y2 u1 u2 ok hdep (by show A.units+1+n<cLine;lia) i1 i2 q1 q2
     rw[l1,l2,all_eq]at q
     have z:decide (Dt.tup ds=Dt.tup es)=decide (ds=es):=by rw[Bool.eq_iff_iff];simp
     rw[z]
     exact SeqAt.EqAt.of_refs hab q
end
section
variable {X:Cx}
def depMax:Nat:=100
def rEqD:R2:=fun x y H Q=>∃ d e,IsDt H d x/\IsDt H e y/\d.dep<=depMax/\Q (.bl (decide (d=e))) H
theorem items_eq {P:Program}{w:World}{H:Hp}{s:Shared}{A:Around}{ds es:List Dt}{xs ys:List V}{its its2:List Value}{n:Nat} (ok:HOk P w H s.heap) (hd:depL ds<=n) (hu:A.units+n<cLine) (h2:IsDts H ds xs) (g2:IsDts H es ys) (r:Vals xs its) (r2:Vals ys its2) :
  ∀ j (h1:j<its.toArray.size) (h2:j<its2.toArray.size),SeqAt.EqAt A s its.toArray[j] its2.toArray[j] (decide (ds[j]?=es[j]?)):=fun j hj1 hj2=>by
 have l1:its.toArray.size=ds.length:=by rw[List.size_toArray,<- r.length,h2.length]
 have l2:its2.toArray.size=es.length:=by rw[List.size_toArray,<- r2.length,g2.length]
 have k1:j<ds.length:=by rw[<- l1];exact hj1
 have k2:j<es.length:=by rw[<- l2];exact hj2
 obtain⟨y1,e1,i1⟩:=h2.get (i:=j) (List.getElem?_eq_getElem k1)
 obtain⟨y2,e2,i2⟩:=g2.get (i:=j) (List.getElem?_eq_getElem k2)
 obtain⟨u1,f1,q1⟩:=r.get e1
 obtain⟨u2,f2,q2⟩:=r2.get e2
 have w1:its.toArray[j]=u1:=by
  have:=(List.getElem?_eq_some_iff.mp f1).2
  simpa using this
 have w2:its2.toArray[j]=u2:=by
  have:=(List.getElem?_eq_some_iff.mp f2).2
  simpa using this
 rw[w1,w2,List.getElem?_eq_getElem k1,List.getElem?_eq_getElem k2]
 have z:decide (some ds[j]=some es[j])=decide (ds[j]=es[j]):=by rw[Bool.eq_iff_iff];simp
 rw[z]
 exact eqAt_D n A s _ _ y1 y2 u1 u2 ok (Nat.le_trans (dep_mem (List.getElem_mem k1)) hd) hu i1 i2 q1 q2
theorem op_eqD (hu:X.A.units+110<cLine):OpR X (compareOp .Eq) rEqD:=by
 intro pins s σ H x y v u Q I rx ry h
 obtain⟨d,e,ix,iy,hd,q⟩:=h
 cases d with
 | int i=>
  rw[IsDt]at ix;subst ix
  cases e with
  | int j=>
   rw[IsDt]at iy;subst iy
   refine op_eq pins s σ H _ _ v u Q I rx ry ⟨rfl,?_⟩
   have z:decide (V.int i=V.int j)=decide (Dt.int i=Dt.int j):=by rw[Bool.eq_iff_iff];simp
   rw[z];exact q
  | str j=>
   rw[IsDt]at iy;subst iy
   refine op_eq pins s σ H _ _ v u Q I rx ry ⟨rfl,?_⟩
   have z:decide (V.int i=V.str j)=decide (Dt.int i=Dt.str j):=by rw[Bool.eq_iff_iff];simp
   rw[z];exact q
  | tup es=>
   rw[IsDt]at iy
   obtain⟨a,xs,rfl,h1,h2⟩:=iy
   cases ry
   obtain⟨t,rfl⟩:=rx
   obtain⟨hz,its,r,p⟩:=I.hok a _ h1
   rw[decide_eq_false (by intro q;cases q)]at q
   exact SeqAt.RcAt.int_tuple i t p (by lia) _ _ _ _ ⟨.bl false,H,I,rfl,q⟩
 | str i=>
  rw[IsDt]at ix;subst ix
  cases e with
  | int j=>
   rw[IsDt]at iy;subst iy
   refine op_eq pins s σ H _ _ v u Q I rx ry ⟨rfl,?_⟩
   have z:decide (V.str i=V.int j)=decide (Dt.str i=Dt.int j):=by rw[Bool.eq_iff_iff];simp
   rw[z];exact q
  | str j=>
   rw[IsDt]at iy;subst iy
   refine op_eq pins s σ H _ _ v u Q I rx ry ⟨rfl,?_⟩
   have z:decide (V.str i=V.str j)=decide (Dt.str i=Dt.str j):=by rw[Bool.eq_iff_iff];simp
   rw[z];exact q
  | tup es=>
   rw[IsDt]at iy
   obtain⟨a,xs,rfl,h1,h2⟩:=iy
   cases ry
   obtain⟨t,rfl⟩:=rx
   obtain⟨hz,its,r,p⟩:=I.hok a _ h1
   rw[decide_eq_false (by intro q;cases q)]at q
   exact SeqAt.RcAt.str_tuple i t p (by lia) _ _ _ _ ⟨.bl false,H,I,rfl,q⟩
 | tup ds=>
  rw[IsDt]at ix
  obtain⟨a,xs,rfl,h1,h2⟩:=ix
  cases rx
  obtain⟨hz,its,r,p⟩:=I.hok a _ h1
  cases e with
  | int j=>
   rw[IsDt]at iy;subst iy
   obtain⟨t,rfl⟩:=ry
   rw[decide_eq_false (by intro q;cases q)]at q
   exact SeqAt.RcAt.tuple_int j t p (by lia) _ _ _ _ ⟨.bl false,H,I,rfl,q⟩
  | str j=>
   rw[IsDt]at iy;subst iy
   obtain⟨t,rfl⟩:=ry
   rw[decide_eq_false (by intro q;cases q)]at q
   exact SeqAt.RcAt.tuple_str j t p (by lia) _ _ _ _ ⟨.bl false,H,I,rfl,q⟩
  | tup es=>
   rw[IsDt]at iy
   obtain⟨b,ys,rfl,g1,g2⟩:=iy
   cases ry
   obtain⟨hz2,its2,r2,p2⟩:=I.hok b _ g1
   have l1:its.toArray.size=ds.length:=by rw[List.size_toArray,<- r.length,h2.length]
   have l2:its2.toArray.size=es.length:=by rw[List.size_toArray,<- r2.length,g2.length]
   rw[Dt.dep]at hd
   have z:decide (Dt.tup ds=Dt.tup es)=decide (ds=es):=by rw[Bool.eq_iff_iff];simp
   rw[z]at q
   refine SeqAt.RcAt.tuples (s:=s) (A:=X.A) (e:=fun j=>decide (ds[j]?=es[j]?)) p p2 (by lia) (items_eq (n:=depMax) (A:=X.A.in1) I.hok (by lia) (by show X.A.units+1+depMax<cLine;unfold depMax;lia) h2 g2 r r2) _ _ _ _ ?_
   rw[l1,l2,all_eq]
   exact⟨.bl _,H,I,rfl,q⟩
theorem op_neD (hu:X.A.units+110<cLine):OpR X (compareOp .NotEq) (fun x y H Q=>∃ ds es,IsDt H (.tup ds) x/\IsDt H (.tup es) y/\depL ds<=depMax/\Q (.bl (!decide (ds=es))) H):=by
 intro pins s σ H x y v u Q I rx ry h
 obtain⟨ds,es,ix,iy,hd,q⟩:=h
 rw[IsDt]at ix iy
 obtain⟨a,xs,rfl,h1,h2⟩:=ix
 obtain⟨b,ys,rfl,g1,g2⟩:=iy
 cases rx
 cases ry
 obtain⟨hz,its,r,p⟩:=I.hok a _ h1
 obtain⟨hz2,its2,r2,p2⟩:=I.hok b _ g1
 have l1:its.toArray.size=ds.length:=by rw[List.size_toArray,<- r.length,h2.length]
 have l2:its2.toArray.size=es.length:=by rw[List.size_toArray,<- r2.length,g2.length]
 refine SeqAt.RcNeAt.tuples (s:=s) (A:=X.A) (e:=fun j=>decide (ds[j]?=es[j]?)) p p2 (by lia) (items_eq (n:=depMax) (A:=X.A.in1) I.hok (by lia) (by show X.A.units+1+depMax<cLine;unfold depMax;lia) h2 g2 r r2) _ _ _ _ ?_
 rw[l1,l2,all_eq]
 exact⟨.bl _,H,I,rfl,q⟩
noncomputable def eqDv (H:Hp) (d:Dt) (u:Value):Bool:=@decide (∃ v,RelV v u/\IsDt H d v) (Classical.propDecidable _)
theorem relV_inj {v v':V}{u:Value} (h:RelV v u) (h':RelV v' u):v=v':=by
 cases v <;> cases v' <;> simp only[RelV]at h h' <;> first
  | rfl
  | (obtain⟨t,rfl⟩:=h;obtain⟨t',h'⟩:=h';injection h' with h' _;subst h';rfl)
  | (obtain⟨t,rfl⟩:=h;obtain⟨t',h'⟩:=h';cases h';done)
  | (subst h;cases h';rfl)
  | (subst h;obtain⟨t',h'⟩:=h';cases h')
  | (obtain⟨t,rfl⟩:=h;cases h')
theorem eqDv_of {H:Hp}{d e:Dt}{v:V}{u:Value} (r:RelV v u) (i:IsDt H e v):eqDv H d u=decide (e=d):=by
 unfold eqDv
 rw[Bool.eq_iff_iff]
 simp only[decide_eq_true_eq]
 constructor
 ·rintro⟨v',r',i'⟩
  rw[relV_inj r' r]at i'
  exact i.inj i'
 ·rintro rfl
  exact⟨v,r,i⟩
theorem mem_eqD {P:Program}{w:World}{H:Hp}{s:Shared}{A:Around}{d:Dt}{x:V}{v:Value}{n:Nat} (ok:HOk P w H s.heap) (hu:A.units+n<cLine) (rx:RelV x v) (ix:IsDt H d x) :
  ∀ {ds:List Dt}{xs:List V}{us:List Value},depL ds<=n->IsDts H ds xs->Vals xs us->(∀ u∈us,SeqAt.EqAt A s u v (eqDv H d u))/\us.map (eqDv H d)=ds.map fun e=>decide (e=d)
 | [],xs,us,hd,hi,r=>by
  rw[IsDts]at hi;subst hi;cases r
  exact⟨fun u hu=>(nomatch hu),rfl⟩
 | e::ds,xs,us,hd,hi,r=>by
  rw[IsDts]at hi
  obtain⟨y,ys,rfl,h1,h2⟩:=hi
  cases r with
  | cons r1 r2=>
   rw[depL]at hd
   obtain⟨m1,m2⟩:=mem_eqD ok hu rx ix (by lia) h2 r2
   have e1:=eqDv_of (d:=d) r1 h1
   refine⟨fun u hu'=>?_,by rw[List.map_cons,List.map_cons,e1,m2]⟩
   rcases List.mem_cons.mp hu' with rfl | hu'
   ·rw[e1];exact eqAt_D n A s e d y x _ v ok (by lia) hu h1 ix r1 rx
   ·exact m1 u hu'
theorem any_map_of {α:Type} {us:List α}{f:α->Bool}{ds:List Dt}{d:Dt} (h:us.map f=ds.map fun e=>decide (e=d)):us.any f=decide (d∈ds):=by
 have e1:us.any f=(us.map f).any id:=by simp
 have e2:(ds.map fun e=>decide (e=d)).any id=decide (d∈ds):=by
  rw[Bool.eq_iff_iff]
  simp
 rw[e1,h,e2]
def rInD (K:PySem.W.Frag) (neg:Bool):R2:=fun x y H Q=>∃ p xs d ds,y=.ref p/\SqL K H p xs/\IsDt H d x/\IsDts H ds xs/\depL ds<=depMax/\Q (.bl (if neg then !decide (d∈ds) else decide (d∈ds))) H
theorem op_notInD (hu:X.A.units+110<cLine):OpR X (compareOp .NotIn) (rInD X.K true):=by
 intro pins s σ H x y v u Q I rx ry h
 obtain⟨p,xs,d,ds,rfl,hq,ix,is,hd,q⟩:=h
 cases ry
 obtain⟨its,r,pl,hz⟩:=I.list hq
 obtain⟨m1,m2⟩:=mem_eqD (A:=X.A.in1) I.hok (by show X.A.units+1+depMax<cLine;unfold depMax;lia) rx ix hd is r
 refine SeqAt.notIn_listAt (eqDv H d) pl.isList (fun w hw=>m1 w (by simpa using hw)) ⟨.bl _,H,I,rfl,?_⟩
 rw[show its.toArray.any (eqDv H d)=its.any (eqDv H d) by simp,any_map_of m2]
 exact q
theorem op_inD (hu:X.A.units+110<cLine):OpR X (compareOp .In) (rInD X.K false):=by
 intro pins s σ H x y v u Q I rx ry h
 obtain⟨p,xs,d,ds,rfl,hq,ix,is,hd,q⟩:=h
 cases ry
 obtain⟨its,r,pl,hz⟩:=I.list hq
 obtain⟨m1,m2⟩:=mem_eqD (A:=X.A.in1) I.hok (by show X.A.units+1+depMax<cLine;unfold depMax;lia) rx ix hd is r
 refine SeqAt.in_listAt (eqDv H d) pl.isList (fun w hw=>m1 w (by simpa using hw)) ⟨.bl _,H,I,rfl,?_⟩
 rw[show its.toArray.any (eqDv H d)=its.any (eqDv H d) by simp,any_map_of m2]
 exact q
def rIndexD:V->List V->Hp->VK->Prop:=fun o vs H Q=>∃ l xs x d ds,o=.ref l/\vs=[x]/\H l=some (.lst xs)/\IsDt H d x/\IsDts H ds xs/\depL ds<=depMax/\d∈ds/\∀ j:Nat,ds[j]?=some d->Q (.int j) H
theorem mt_indexD (hu:X.A.units+110<cLine):MtM X "list.index" rIndexD:=by
 intro pins s σ H o vs v us Q I rx rv h
 obtain⟨l,xs,x,d,ds,rfl,rfl,hH,ix,is,hd,hmem,q⟩:=h
 cases rx
 obtain⟨u,rfl,ru⟩:=rv.one
 obtain⟨z,its,n,r,hl,e⟩:=I.lstM hH
 obtain⟨m1,m2⟩:=mem_eqD (A:=X.A.in1) I.hok (by show X.A.units+1+depMax<cLine;unfold depMax;lia) ru ix hd is r
 have hex:∃ j,∃ hj:j<its.length,eqDv H d its[j]=true/\∀ m (hm:m<its.length),m<j->eqDv H d its[m]=false:=by
  have hany:its.any (eqDv H d)=true:=by rw[any_map_of m2];exact decide_eq_true hmem
  have hfi:its.findIdx (eqDv H d)<its.length:=by
   rw[List.findIdx_lt_length]
   obtain⟨a,ha,hb⟩:=List.any_eq_true.mp hany
   exact⟨a,ha,hb⟩
  exact⟨its.findIdx (eqDv H d),hfi,List.findIdx_getElem (w:=hfi),fun m hm hlt=>by
   have:=List.not_of_lt_findIdx hlt
   simpa using this⟩
 obtain⟨j,hj,hit,hno⟩:=hex
 have hds:ds[j]?=some d:=by
  have l1:ds.length=its.length:=by rw[<- is.length,r.length]
  have z1:(its.map (eqDv H d))[j]?=some true:=by rw[List.getElem?_map,List.getElem?_eq_getElem hj,Option.map_some,hit]
  rw[m2,List.getElem?_map,List.getElem?_eq_getElem (by lia),Option.map_some]at z1
  have z2:ds[j]'(by lia)=d:=of_decide_eq_true (Option.some.inj z1)
  rw[List.getElem?_eq_getElem (by lia),z2]
 refine call_meets PySem.F.slot_list_index ⟨_,e,rfl⟩ PySem.F.entry_list_index (PySem.F.args_list_index_2 _ _)
  (SeqAt.list_indexAt l its.toArray n none #[] u (eqDv H d) j (by simpa using hj) (by have:=line63;lia) (by simpa using hit) (fun m hm hlt=>by simpa using hno m (by simpa using hm) hlt)) ⟨e,fun y hy=>m1 y (by simpa using hy),?_⟩
 exact⟨.int j,H,I.tok _,⟨_,rfl⟩,q j hds⟩
end
end L2
end
section
namespace L2
open PySem PySem.Spec PyProof.Rows
open Kn (KE cmpK kEl sLt)
def kv:KE->V
 | .i n=>.int n
 | .s x=>.str x
theorem eqAt_K {A:Around}{s:Shared}{a c:KE}{y x:Value} (ra:RelV (kv a) y) (rc:RelV (kv c) x):∃ e,SeqAt.EqAt A s y x e/\(e=true ↔ a=c):=by
 cases a with
 | i m=>
  obtain⟨t,rfl⟩:=ra
  cases c with
  | i n=>obtain⟨u,rfl⟩:=rc;exact⟨(m == n),SeqAt.EqAt.int_int m t n u,by simp⟩
  | s z=>obtain⟨u,rfl⟩:=rc;exact⟨false,SeqAt.EqAt.int_str m t z u,by simp⟩
 | s w=>
  obtain⟨t,rfl⟩:=ra
  cases c with
  | i n=>obtain⟨u,rfl⟩:=rc;exact⟨false,SeqAt.EqAt.str_int w t n u,by simp⟩
  | s z=>obtain⟨u,rfl⟩:=rc;exact⟨(w == z),SeqAt.EqAt.str_str w t z u,by simp⟩
theorem rcLt_K {A:Around}{s:Shared}{a c:KE}{y x:Value}{r:Bool} (ra:RelV (kv a) y) (rc:RelV (kv c) x) (h:kEl a c=some r) (prog:Program) (w:World) (E:Value->Shared->Prop) (Q:Value->Shared->Prop) (q:Q (.bool r) s) :
  wpAny (model prog w) A (richCompare .Lt y x) Q E s:=by
 cases a with
 | i m=>
  obtain⟨t,rfl⟩:=ra
  cases c with
  | i n=>
   obtain⟨u,rfl⟩:=rc
   cases h
   exact HT.rcLt_int A s m t n u prog w E Q q
  | s z=>cases h
 | s v=>
  obtain⟨t,rfl⟩:=ra
  cases c with
  | i n=>cases h
  | s z=>
   obtain⟨u,rfl⟩:=rc
   cases h
   exact (PyProof.Rows.lt_str q:wpAny (model prog w) A (compareOp .Lt (.str v t) (.str z u)) Q E s)
section
open PySem.SeqAt
open PySem.AutoSeq1 (wpAny_loadPart')
open PySem.MeetsSeq PySem.MeetsSeq2 PySem.MeetsSeq3
theorem tuple_ltK (l b:Addr) (items items2:Array Value) (n n2:Nat) (dd dd2:Option Addr) (sl sl2:Array (Option Value)) (ks js:List KE) (hi:Vals (ks.map kv) items.toList) (hj:Vals (js.map kv) items2.toList) (r:Bool) (hr:cmpK ks js=some r) :
  Meets (Builtin.«tuple.__lt__» ⟨[.ref l,.ref b],[]⟩)
   (fun _ R s=>s.heap.get? l=some { cls:=.type "tuple",dict:=dd,data:=.seq items n,slots:=sl }/\s.heap.get? b=some { cls:=.type "tuple",dict:=dd2,data:=.seq items2 n2,slots:=sl2 } /\
    R (.ok (.ret (.bool r))) s):=
 .of_wp fun prog w A R s h=>by
  obtain⟨hp,g,d,tk,os⟩:=s;obtain⟨hl,hb,h⟩:=h
  have f2:=AutoSeq1.sub_tuple_tuple
  have z1:items.size=ks.length:=by have:=hi.length;simpa using this.symm
  have z2:items2.size=js.length:=by have:=hj.length;simpa using this.symm
  wp_walk using wpAny_loadPart' hl,wpAny_loadPart' hb,wpAny_forIn_list _ (fun rest b s'=>b.1=none/\s'=⟨hp,g,d,tk,os⟩/\∃ (vs ws:List Value) (ks' js':List KE),rest=vs.zip ws /\
   Vals (ks'.map kv) vs/\Vals (js'.map kv) ws/\ks'.length+items2.size=js'.length+items.size/\cmpK ks' js'=some r) _
  case turn=>
   rintro⟨y,x⟩ rest b s' ⟨hb',rfl,vs,ws,ks',js',hz,hvi,hwi,hlen,hR⟩
   cases ks' with
   | nil=>cases hvi;rw[List.zip_nil_left]at hz;cases hz
   | cons a ks'=>
    cases js' with
    | nil=>cases hwi;rw[List.zip_nil_right]at hz;cases hz
    | cons c js'=>
     rw[List.map_cons]at hvi hwi
     cases hvi with
     | cons ra hvi'=>
      cases hwi with
      | cons rc hwi'=>
       rw[List.zip_cons_cons]at hz
       injection hz with hyx hrest
       injection hyx with hy hx
       subst hy hx
       rw[Kn.cmpK]at hR
       simp only[List.length_cons]at hlen
       obtain⟨e,he,hiff⟩:=eqAt_K (A:=A.in1) (s:=⟨hp,g,d,tk,os⟩) ra rc
       refine wpAny_bind (he prog w _ _ ?_)
       cases e with
       | true=>
        rw[if_pos (hiff.mp rfl)]at hR
        wp_walk
        exact⟨rfl,rfl,_,_,_,_,hrest,hvi',hwi',by lia,hR⟩
       | false=>
        rw[if_neg (fun q=>absurd (hiff.mpr q) Bool.false_ne_true)]at hR
        have hri:=rcLt_K (A:=A.in1) (s:=⟨hp,g,d,tk,os⟩) ra rc hR prog w
        wp_walk using hri
        exact⟨_,rfl,by simpa using h⟩
  case fin=>
   rintro⟨b1,b2⟩ s' ⟨hb',rfl,vs,ws,ks',js',hz,hvi,hwi,hlen,hR⟩
   simp only at hb'
   subst hb'
   have hv:r=decide (items.size<items2.size):=by
    cases ks' with
    | nil=>
     cases js' with
     | nil=>
      simp only[List.length_nil]at hlen
      cases hR
      exact (decide_eq_false (by lia)).symm
     | cons c js'=>
      simp only[List.length_nil,List.length_cons]at hlen
      cases hR
      exact (decide_eq_true (by lia)).symm
    | cons a ks'=>
     cases js' with
     | nil=>
      simp only[List.length_nil,List.length_cons]at hlen
      cases hR
      exact (decide_eq_false (by lia)).symm
     | cons c js'=>
      rw[List.map_cons]at hvi hwi
      cases hvi
      cases hwi
      rw[List.zip_cons_cons]at hz
      cases hz
   rw[hv]at h
   wp_walk
   exact⟨_,rfl,by simpa [Builtin.Tuple.tupleCompareSizes] using h⟩
  case h=>
   exact⟨rfl,rfl,items.toList,items2.toList,ks,js,rfl,hi,hj,by lia,hr⟩
end
section
variable {X:Cx}
def rLtK (K:PySem.W.Frag):R2:=fun x y H Q=>∃ a b ks js r,x=.ref a/\y=.ref b/\SqT K H a (ks.map kv)/\SqT K H b (js.map kv)/\cmpK ks js=some r/\Q (.bl r) H
theorem op_ltK (hu:X.A.units<cLine):OpR X (compareOp .Lt) (rLtK X.K):=by
 intro pins s σ H x y v u Q I rx ry h
 obtain⟨a,b,ks,js,r,rfl,rfl,ha,hb,hr,q⟩:=h
 cases rx
 cases ry
 obtain⟨its,r1,p1,_⟩:=I.tuple ha
 obtain⟨its2,r2,p2,_⟩:=I.tuple hb
 obtain⟨⟨cls,dd,data,sl⟩,ho,hc,n,hd⟩:=id p1
 obtain⟨⟨cls2,dd2,data2,sl2⟩,ho2,hc2,n2,hd2⟩:=id p2
 simp only at hc hd hc2 hd2
 subst hc hd hc2 hd2
 exact richCompare_meets_room (op:=.Lt) ⟨_,ho,rfl⟩ ⟨_,ho2,rfl⟩ PySem.F.slot_tuple_lt PySem.F.entry_tuple_lt (PySem.F.args_tuple_lt_2 _ _) (tuple_ltK a b its.toArray its2.toArray n n2 dd dd2 sl sl2 ks js (by simpa using r1) (by simpa using r2) r hr)
  ⟨ho,ho2,show Value.bool r≠Value.notImplemented/\EP X pins σ Q (.bool r) s from ⟨(fun x=>nomatch x),⟨.bl r,H,I,rfl,q⟩⟩⟩ hu
def rLtE:R2:=fun x y H Q=>∃ a c r,x=kv a/\y=kv c/\kEl a c=some r/\Q (.bl r) H
theorem op_ltE:OpR X (compareOp .Lt) rLtE:=by
 intro pins s σ H x y v u Q I rx ry h
 obtain⟨a,c,r,rfl,rfl,hr,q⟩:=h
 show wpAny (model X.prog X.w) X.A (richCompare .Lt v u) (EP X pins σ Q) X.xe s
 exact rcLt_K rx ry hr X.prog X.w _ _ ⟨.bl r,H,I,rfl,q⟩
def tRev (K:PySem.W.Frag) (te:TE):TE:=fun σ H Q=>te σ H fun x H1=>∃ a xs,x=.ref a/\SqL K H1 a xs/\∀ p,H1 p=none->Q (.ref p) (upd H1 p (.lst xs.reverse))
theorem pe_rev {e:Expr}{te:TE}{k:Nat}{p2 p3 p4 pos:Pos} (he:PE X e te):PE X (.Subscript e (.Slice none none (some (.UnaryOp .USub (.Constant (.int 1) k p3) p4)) p2) pos) (tRev X.K te):=by
 intro pins s σ H Q I h
 refine Subscript_ (thn (he pins s σ H _ I h) fun v s1 ⟨x,H1,I1,r1,q1⟩=>?_)
 obtain⟨a,xs,rfl,hx,q⟩:=q1
 cases r1
 refine wpAny_Slice ?_
 rw[evalPart_none]
 refine wpAny_pure (wpAny_pure ?_)
 rw[evalPart_some]
 refine thn (pe_un un_neg pe_int pins s1 σ H1 (fun y H2=>y=.int (-1)/\H2=H1) I1 ⟨1,rfl,rfl,rfl⟩) fun u s2 ⟨y,H2,I2,r2,e1,e2⟩=>?_
 subst e1 e2
 obtain⟨t,rfl⟩:=r2
 have I4:Inv X pins σ H2 { s2 with heap:=s2.heap.push { cls:=.type "slice",data:=.fields #[.none,.none,.int (-1) t] } }:=I2.kept (t':=s2.toks) fun b ob q=>Heap.get?_push_of_some _ q
 obtain⟨its,r,ht,hz⟩:=I4.list hx
 have hlen:=r.length
 refine tail_any (ops:=[.ref a,.ref s2.heap.objs.size]) (T:="list") ht.isList.typeIs slot_list_getitem.lookup ?_ (by with_unfolding_all rfl)
 refine wpAny_getItem_list_slice ht.isList (Heap.IsSliceOf.new ..) .none .none (.int (-1) t) (by simp) ?_ (by rw[List.size_toArray] <;> lia)
 rw[PySem.W.krv_pick]
 refine⟨.ref _,_,I4.laid (t':=s2.toks) (o:=.lst xs.reverse) (fun b ob q=>Heap.get?_push_of_some _ q) (Nat.le_refl _) ?_,rfl,q _ (I4.hok.fresh (Nat.le_refl _))⟩
 exact⟨by rw[List.length_reverse];exact hz,_,0,r.reverse,Heap.get?_push_size _ rfl⟩
def isiV (H:Hp) (x:V) (T:String) (b:Bool):Prop:=
 (T="tuple"/\((∃ i,x=.int i)/\b=false\/(∃ z,x=.str z)/\b=false\/(∃ a xs,x=.ref a/\H a=some (.tup xs))/\b=true))\/(T="bool"/\(∃ c,x=.bl c)/\b=true)
theorem call_isi:CallR X (.builtin "isinstance") (fun xs H Q=>∃ x T b,xs=[x,.ty T]/\isiV H x T b/\Q (.bl b) H):=by
 intro pins s σ H xs us Q I r h
 obtain⟨x,T,b,rfl,hi,q⟩:=h
 obtain⟨u,v,rfl,ru,rv⟩:=r.two
 cases rv
 rcases hi with ⟨rfl,⟨⟨i,rfl⟩,rfl⟩ | ⟨⟨z,rfl⟩,rfl⟩ | ⟨⟨a,ys,rfl,ha⟩,rfl⟩⟩ | ⟨rfl,⟨c,rfl⟩,rfl⟩
 ·obtain⟨t,rfl⟩:=ru
  exact IsiPair.int_tuple ⟨.bl false,H,I.tok _,rfl,q⟩
 ·obtain⟨t,rfl⟩:=ru
  exact IsiPair.str_tuple ⟨.bl false,H,I.tok _,rfl,q⟩
 ·cases ru
  obtain⟨hz,its,r',o,ho,hc,_⟩:=I.hok a _ ha
  exact IsiPair.tuple_tuple ho hc ⟨.bl true,H,I,rfl,q⟩
 ·cases ru
  exact IsiPair.bool_bool ⟨.bl true,H,I,rfl,q⟩
theorem pe_callV {CX:CXT}{k i:Nat}{f:Addr}{fd:FuncData}{ps:List Str}{sp:Sp}{dvs:List V}{ds:List Value}{E:XK}{x:Str}{p pos:Pos}{e:Expr}{es:List Expr}{t:TA}
  (F:FnOk X.prog X.w X.K X.mg X.base CX k f fd ps sp) (hr:Room k X.A) (hN:X.N[i]?=some x) (hv:Vis X.env.scope x) (hk:PySem.W.keepIn X.K (.ref f)=true) (hb:Binds X.K fd ps ds) (hd:Vals dvs ds) (hx:Passes CX X E)
  (ha:PA X (e::es) t) (hdb:(x == ("__debug__" : Str))=false:=by decide) (hcd:(x == ("__classdict__" : Str))=false:=by decide) (he:starEach (e::es) X.env=(false,eval e X.env)::starEach es X.env:=by rfl) (hpl:(backTo pos (starEach es X.env)).any (·.1)=false:=by rfl) :
  PE X (.Call (.Name x p) (e::es) [] pos) (fun σ H Q=>σ[i]?=some (some (.ref f))/\tCall sp dvs E t σ H Q):=by
 intro pins s σ H Q I h
 refine wpAny_Call_Name_kw (thn (pe_var hN hv hdb hcd pins s σ H (fun y H1=>y=.ref f/\H1=H) I ⟨_,h.1,rfl,rfl⟩) fun v s1 ⟨y,H1,I1,r1,e1,e2⟩=>?_)
 subst e1 e2
 cases r1
 refine PySem.W.callWith_K (h₀:=X.base) I1.ok.mod.kin hk (thn (ha pos pins s1 σ H1 _ I1 h.2) fun us s2 ⟨vs,H2,I2,r,q⟩=>⟨I2.kIn,?_⟩) he hpl
 exact run_fn F hr hb hd hx I2 r q
theorem strsAre_of {ys:List Str}:∀ {us:List Value},Vals (ys.map V.str) us->StrsAre us ys:=by
 induction ys with
 | nil=>intro us r;rw[List.map_nil]at r;cases r;exact .nil
 | cons n ns ih=>
  intro us r
  rw[List.map_cons]at r
  cases r with
  | cons r1 r2=>
   obtain⟨t,e⟩:=r1
   subst e
   exact .cons n t (ih r2)
theorem ofStrs:∀ {us:List Value}{ys:List Str},StrsAre us ys->Vals (ys.map V.str) us
 | _,_,.nil=>.nil
 | _,_,.cons x t r=>.cons ⟨t,rfl⟩ (ofStrs r)
def rJoin (K:PySem.W.Frag):V->List V->Hp->VK->Prop:=fun o vs H Q=>∃ sep p ys,o=.str sep/\vs=[.ref p]/\SqL K H p (ys.map V.str)/\(ys.map (·.length)).sum+ys.length * sep.length<=16777216/\Q (.str (Txt.join sep ys)) H
theorem mt_join:MtR X "str.join" (rJoin X.K):=by
 intro pins s σ H o vs v us Q I rx rv h
 obtain⟨sep,p,ys,rfl,rfl,hq,hz,q⟩:=h
 obtain⟨t,rfl⟩:=rx
 obtain⟨u,rfl,ru⟩:=rv.one
 cases ru
 obtain⟨its,r,pl,_⟩:=I.list hq
 exact join_list pl.isList (by simpa using strsAre_of r) hz fun t' k=>⟨.str _,H,I.tok _,⟨_,rfl⟩,q⟩
def rInsert:V->List V->Hp->VK->Prop:=fun o vs H Q=>∃ l xs i y,o=.ref l/\vs=[.int i,y]/\H l=some (.lst xs)/\0<=i/\i<=xs.length/\xs.length<sizeLine/\Q .non (upd H l (.lst (xs.take i.toNat++y::xs.drop i.toNat)))
theorem mt_insert:MtM X "list.insert" rInsert:=by
 intro pins s σ H x vs v us Q I rx rv h
 obtain⟨l,xs,i,y,rfl,rfl,hH,h0,h1,hz,q⟩:=h
 cases rx
 obtain⟨u,w,rfl,ru,rw'⟩:=rv.two
 obtain⟨t,rfl⟩:=ru
 obtain⟨z,its,n,r,hl,e⟩:=I.lstM hH
 have l63:=line63
 refine call_meets F.slot_list_insert ⟨_,e,rfl⟩ F.entry_list_insert (F.args_list_insert_3 _ _ _)
  (AutoSeq1.list_insert_list_int_val_1 l its.toArray n i t w (by rw[fitsIndex_both (by lia) (by lia)];simp) (by rw[List.size_toArray];lia)) ⟨e,?_⟩
 refine⟨.non,_,I.lset (its':=its.take i.toNat++w::its.drop i.toNat) hH e ?_ ((r.take _).append (.cons rw' (r.drop _))) ?_,rfl,q⟩
 ·simp only[List.size_toArray]
  rw[if_neg (by lia)]
  have hm:min i.toNat its.length=i.toNat:=by lia
  rw[hm]
  simp [List.extract_eq_take_drop]
  rw[List.take_of_length_le (by rw[List.length_drop];exact Nat.le_refl _)]
 ·simp only[List.length_append,List.length_cons,List.length_take,List.length_drop]
  lia
def rCatT' (K:PySem.W.Frag):R2:=fun x y H Q=>∃ a b xs ys,x=.ref a/\y=.ref b/\H a=some (.tup xs)/\H b=some (.tup ys)/\xs.length+ys.length<=sizeLine /\
 ∀ p H',(∀ c o,H c=some o->H' c=some o)->H' p=some (.tup (xs++ys))->Q (.ref p) H'
theorem op_catT':OpR X (binaryOp .Add) (rCatT' X.K):=by
 intro pins s σ H x y v u Q I rx ry h
 obtain⟨a,b,xs,ys,rfl,rfl,ha0,hb0,hz,q⟩:=h
 have ha:SqT X.K H a xs:=SqT.of ha0
 have hb:SqT X.K H b ys:=SqT.of hb0
 by_cases hx:xs=[]
 ·subst hx
  cases rx
  cases ry
  obtain⟨its,r1,p1,_⟩:=I.tuple ha
  obtain⟨its2,r2,p2,_⟩:=I.tuple hb
  cases r1
  obtain⟨⟨cls,dd,data,sl⟩,ho,hc,n,hd⟩:=id p1
  obtain⟨⟨cls2,dd2,data2,sl2⟩,ho2,hc2,n2,hd2⟩:=id p2
  simp only at hc hd hc2 hd2
  subst hc hd hc2 hd2
  exact concat_meets ⟨_,ho,rfl⟩ ⟨_,ho2,rfl⟩ noFill_tuple_add seq_tuple_add PySem.F.slot_tuple_add PySem.F.entry_tuple_add (PySem.F.args_tuple_add_2 _ _)
   (tuple_addW0 a b _ its2.toArray n n2 dd dd2 sl sl2 (by simp)) ⟨ho,ho2,⟨.ref b,H,I,rfl,q b H (fun _ _ z=>z) hb0⟩⟩
 ·exact op_catT pins s σ H _ _ v u Q I rx ry ⟨a,b,xs,ys,rfl,rfl,ha,hb,hx,hz,fun e=>q a H (fun _ _ z=>z) (by subst e;rw[List.append_nil];exact ha0),fun e p hp=>q p _ (fun c o z=>by rw[upd_ne (ne_of_none z hp)];exact z) upd_same⟩
end
end L2
end
section
namespace L2
open PySem PySem.Spec PyProof.Rows
open PySem.W (kdu_collect kdl_dict)
theorem kv_get:∀ {kvs:List (Key×V)}{vs:List (Key×Value)}{i:Nat}{p:Key×V},KV kvs vs->kvs[i]?=some p->∃ q,vs[i]?=some q/\p.1=q.1
 | _,_,_,_,.nil,e=>by simp at e
 | _,_,0,_,.cons r _,e=>by simp at e;subst e;exact⟨_,rfl,r.1⟩
 | _,_,i+1,p,.cons _ t,e=>by
  obtain⟨q,h1,h2⟩:=kv_get (i:=i) (p:=p) t (by simpa using e)
  exact⟨q,by simpa using h1,h2⟩
section
variable {X:Cx}
def rSortD:List V->Hp->VK->Prop:=fun xs H Q=>∃ a kvs,xs=[.ref a]/\H a=some (.dK kvs)/\(∀ kv∈kvs,∃ s,kv.1=Sum.inr s)/\kvs.length<64 /\
 ∀ (p:Addr) (ys:List Str),H p=none->(ys.map (Sum.inr:Str->Key)).Perm (kvs.map (·.1))->sortedS ys=true->Q (.ref p) (upd H p (.lst (ys.map V.str)))
theorem call_sortD (hc:X.calm=true):CallR X (.builtin "sorted") rSortD:=by
 intro pins s σ H xs us Q I r h
 obtain⟨a,kvs,rfl,ha,hk,h64,q⟩:=h
 obtain⟨u,rfl,ru⟩:=r.one
 cases ru
 have hh:=I.ok.hd hc
 obtain⟨z,hd,vs,rel,dd⟩:=dk_of I.hok ha
 obtain⟨ep,hat⟩:=dd.dictAt
 have hlen:kvs.length=vs.length:=rel.length
 refine Calls.call_function_entry kind_sorted plain_sorted entry_sorted (args_sorted1 _) ?_
 unfold Builtin.«sorted»
 refine wpAny_bind (m:=checkCount "sorted" 1 1 _) (wpAny_pure ?_)
 refine wpAny_bind (kdu_collect (A:=X.A.in1) (kdl_dict (knd:=mixKind X.prog X.w) (kvs:=vs) (ep:=ep) hd) hh hat (by rw[<- hlen];exact z) fun h' tk acc keep items=>?_)
 have hl:acc.toList.length=vs.length:=by rw[Array.length_toList];exact items.1
 refine wpAny_bind (wpAny_newList ?_ (by rw[hl,<- hlen];exact z))
 -- the keys as texts
 have hss:∃ ss:List Str,StrsAre acc.toList ss/\ss.map (Sum.inr:Str->Key)=kvs.map (·.1):=by
  have key:∀ (n:Nat),n<=vs.length->∃ ss:List Str,StrsAre (acc.toList.drop (vs.length-n)) ss/\ss.map (Sum.inr:Str->Key)=(kvs.map (·.1)).drop (vs.length-n):=by
   intro n
   induction n with
   | zero=>intro _;exact⟨[],by rw[List.drop_of_length_le (by lia)];exact .nil,by rw[List.drop_of_length_le (by rw[List.length_map];lia)];rfl⟩
   | succ n ih=>
    intro hn
    obtain⟨ss,h1,h2⟩:=ih (by lia)
    have e:vs.length-n=(vs.length-(n+1))+1:=by lia
    have hj:vs.length-(n+1)<acc.toList.length:=by lia
    have hj2:vs.length-(n+1)<kvs.length:=by lia
    obtain⟨k,x,hx,hkk⟩:=items.2 (vs.length-(n+1)) (acc.toList[vs.length-(n+1)]) (by rw[<- Array.getElem?_toList,List.getElem?_eq_getElem hj])
    have ek:kvs[vs.length-(n+1)].1=k:=by
     obtain⟨b,hb,hr⟩:=kv_get rel (List.getElem?_eq_getElem hj2)
     rw[hx]at hb
     cases hb
     exact hr
    obtain⟨sx,hs⟩:=hk _ (List.getElem_mem hj2)
    rw[ek]at hs
    subst hs
    obtain⟨t,et⟩:∃ t,acc.toList[vs.length-(n+1)]=Value.str sx t:=by
     rcases keyIs_shape (show keyIs (Sum.inr sx) _=true from hkk) with ⟨i,t,e1,_⟩ | ⟨y,t,e1,e2⟩
     ·cases e1
     ·cases e1;exact⟨t,e2⟩
    refine⟨sx::ss,?_,?_⟩
    ·rw[List.drop_eq_getElem_cons hj,et,<- e]
     exact .cons sx t h1
    ·rw[List.map_cons,h2,List.drop_eq_getElem_cons (i:=vs.length-(n+1)) (by rw[List.length_map];exact hj2),List.getElem_map,ek,e]
  obtain⟨ss,h1,h2⟩:=key vs.length (Nat.le_refl _)
  rw[Nat.sub_self,List.drop_zero]at h1
  rw[Nat.sub_self,List.drop_zero]at h2
  exact⟨ss,h1,h2⟩
 obtain⟨ss,hS,hmap⟩:=hss
 have hoL:(h'.push { cls:=.type "list",data:=.seq acc.toList.toArray }).get? h'.objs.size=some (seqObj "list" acc.toList.toArray 0):=Heap.get?_push_size _ rfl
 refine wpAny_bind (wpAny_holding (wpAny_call_entry slot_list_sort ⟨_,hoL,rfl⟩ entry_list_sort (list_sort_treeK strKind_oneLt hoL hS.keysOf (fun v₁ v₂ rest e=>keyKind_strs (by rw[<- e];exact hS)) (by rw[hl,<- hlen];exact h64) fun st' a1 a2=>⟨_,rfl,?_⟩) (args_list_sort _)))
 obtain⟨ys,b1,b2,b3⟩:=sorted_out_str hS a1 a2
 refine wpAny_pure ⟨_,rfl,?_⟩
 have I1:Inv X pins σ H { s with heap:=h',toks:=tk }:=I.kept keep
 obtain⟨e,hat2⟩:=sortedHeap_at (out:=(arrOf st').map (·.2)) hoL
 have hz:(ys.map V.str).length<=sizeLine:=by
  rw[List.length_map,b2.length_eq,<- List.length_map (f:=(Sum.inr:Str->Key)),hmap,List.length_map]
  exact z
 refine⟨.ref h'.objs.size,upd H h'.objs.size (.lst (ys.map V.str)),?_,rfl,q _ ys (I1.hok.fresh (Nat.le_refl _)) ?_ b3⟩
 ·refine I1.laid (t':=tk) (fun b o hb=>?_) (Nat.le_refl _) ⟨hz,_,e,ofStrs b1,?_⟩
  ·have hlt:b<h'.objs.size:=Heap.lt_size hb
   rw[sortedHeap_old (Nat.ne_of_lt hlt) (by rw[Heap.size_push];exact Nat.lt_succ_of_lt hlt)]
   exact Heap.get?_push_of_some _ hb
  ·rw[hat2]
 ·rw[<- hmap]
  exact b2.map _
end
section
variable {X:Cx}
theorem op_plus:OpR X (binaryOp .Add) (fun x y H Q=>rI0 (fun i j=>.int (i+j)) x y H Q\/((∃ i j,x=.str i/\y=.str j/\i.length+j.length<=sizeLine/\Q (.str (i++j)) H)\/(rCat x y H Q\/rCatT' X.K x y H Q))):=op_add.or (op_add_str.or (op_cat.or op_catT'))
theorem op_ltU (hu:X.A.units<cLine):OpR X (compareOp .Lt) (fun x y H Q=>rI0 (fun i j=>.bl (decide (i<j))) x y H Q\/(rLtE x y H Q\/rLtK X.K x y H Q)):=op_lt.or (op_ltE.or (op_ltK hu))
theorem op_eqU (hu:X.A.units+110<cLine):OpR X (compareOp .Eq) (fun x y H Q=>rEq x y H Q\/rEqD x y H Q):=op_eq.or (op_eqD hu)
def rNeL:R2:=fun x y H Q=>∃ a b xs,x=.ref a/\y=.ref b/\H a=some (.lst xs)/\H b=some (.lst [])/\Q (.bl (decide (xs≠[]))) H
theorem op_neL (hu:X.A.units<cLine):OpR X (compareOp .NotEq) rNeL:=by
 intro pins s σ H x y v u Q I rx ry h
 obtain⟨a,b,xs,rfl,rfl,ha,hb,q⟩:=h
 cases rx
 cases ry
 obtain⟨its,r,p,_⟩:=I.list (SqL.of ha)
 obtain⟨its2,r2,p2,_⟩:=I.list (SqL.of hb)
 cases r2
 by_cases hx:xs=[]
 ·subst hx
  cases r
  refine SeqAt.RcNeAt.lists (A:=X.A) (e:=fun _=>true) p.isList p2.isList rfl hu (fun j h1=>by simp at h1) _ _ _ _ ⟨.bl false,H,I,rfl,?_⟩
  simpa using q
 ·refine SeqAt.RcNeAt.lists_lengths (A:=X.A) p.isList p2.isList ?_ hu _ _ _ _ ⟨.bl true,H,I,rfl,?_⟩
  ·have:=r.length
   have h0:its≠[]:=fun z=>hx (by subst z;cases xs with | nil=>rfl | cons _ _=>simp at this)
   cases its with
   | nil=>exact absurd rfl h0
   | cons _ _=>simp
  ·rw[decide_eq_true hx]at q
   exact q
theorem op_neU (hu:X.A.units+110<cLine):OpR X (compareOp .NotEq) (fun x y H Q=>rNe x y H Q\/((∃ ds es,IsDt H (.tup ds) x/\IsDt H (.tup es) y/\depL ds<=depMax/\Q (.bl (!decide (ds=es))) H)\/rNeL x y H Q)):=op_ne.or ((op_neD hu).or (op_neL (by lia)))
theorem op_inU (hu:X.A.units+110<cLine):OpR X (compareOp .In) (fun x y H Q=>rIn X.K false x y H Q\/rInD X.K false x y H Q):=op_in_seq.or (op_inD hu)
theorem op_notInU (hu:X.A.units+110<cLine):OpR X (compareOp .NotIn) (fun x y H Q=>rIn X.K true x y H Q\/rInD X.K true x y H Q):=op_notIn_seq.or (op_notInD hu)
theorem call_lenU:CallR X (.builtin "len") (fun xs H Q=>(∃ p ys,xs=[.ref p]/\(SqL X.K H p ys\/SqT X.K H p ys)/\Q (.int ys.length) H)\/∃ z,xs=[.str z]/\z.length<=sizeLine/\Q (.int z.length) H):=call_len_seq.or call_len_str
def rIxD:R2:=fun x y H Q=>∃ a v,x=.ref a/\DGet H a y (some v)/\Q v H
theorem ix_dict (hu:X.A.units+1<cLine):IxR X rIxD:=by
 intro value slice pins s σ H x y v u Q I rx ry h hs
 obtain⟨a,w,rfl,g,q⟩:=h
 cases rx
 exact tail_any (ops:=[.ref a,u]) (dict_typeIs I g) PySem.F.slot_dict_getitem.lookup (d_getItem hu I g ry fun w' s3 I3 rw'=>⟨w,H,I3,rw',q⟩) hs
theorem ix_U (hu:X.A.units+1<cLine):IxR X (fun x y H Q=>rIxL X.K x y H Q\/(rIxT X.K x y H Q\/(rIxS x y H Q\/rIxD x y H Q))):=ix_list.or (ix_tup.or (ix_str.or (ix_dict hu)))
def rSetD:TSet:=fun o i v H Q=>∃ a H',o=.ref a/\DPut H a i v H'/\Q H'
theorem set_dict (hu:X.A.units+1<cLine):PSet X rSetD:=by
 intro pins s σ H o i v ov iv u Q I ro ri rv h
 obtain⟨a,H',rfl,g,q⟩:=h
 cases ro
 exact d_setItem hu I g ri rv fun s4 I4=>⟨H',I4,q⟩
theorem PSet.or {r r':TSet} (h:PSet X r) (h':PSet X r'):PSet X (fun o i v H Q=>r o i v H Q\/r' o i v H Q):=by
 intro pins s σ H o i v ov iv u Q I ro ri rv q
 rcases q with q | q
 ·exact h pins s σ H o i v ov iv u Q I ro ri rv q
 ·exact h' pins s σ H o i v ov iv u Q I ro ri rv q
theorem set_U (hu:X.A.units+1<cLine):PSet X (fun o i v H Q=>rSetL o i v H Q\/rSetD o i v H Q):=set_list.or (set_dict hu)
theorem pi_U {tg l:Expr}{tl:TE} (hl:PE X l tl):PI X tg l (fun σ H R=>iList X.K tl σ H R\/iTup X.K tl σ H R):=by
 intro pins s σ H R I h
 rcases h with h | h
 ·exact pi_list hl pins s σ H R I h
 ·exact pi_tup hl pins s σ H R I h
end
end L2
end
section
namespace L2
open PySem PySem.Spec PyProof.Rows
structure ZC where
 cl:List (Str×Addr)
 C:Addr
 fp:List Addr
 s:Shared
 H:Hp
def cxC (X:Cx) (scope:Scope) (N':List Str) (z:ZC):Cx where
 prog:=X.prog
 w:=X.w
 K:=X.K
 mg:=X.mg
 base:=X.base
 A:=X.A
 N:=N'
 s₀:=z.s
 H₀:=z.H
 env:=compEnvC scope z.cl z.C X.env
 outer:=X.stack
 stack:=X.stack
 ex:=z.fp
 fn:=fun _=>false
 calm:=X.calm
 pn:=[]
 xe:=fun _ _=>False
theorem clos_loop {env:Env}:∀ (names:List (Str×NameKind)) (acc:List (Str×Addr)),(∀ y∈names,y.2=.free->∃ c,env.cells.lookup y.1=some c) ->
  (∀ x c,acc.lookup x=some c->env.cells.lookup x=some c) ->
  ∃ cl,(forIn names acc (fun y cs=>if (y.2 == NameKind.free)=true then (cellOf env y.1 >>= fun c=>pure (ForInStep.yield ((y.1,c)::cs))) else pure (ForInStep.yield cs)):Sem (List (Str×Addr)))=pure cl /\
   (∀ x c,cl.lookup x=some c->env.cells.lookup x=some c)/\(∀ y∈names,y.2=.free->∃ c,cl.lookup y.1=some c)/\∀ x c,acc.lookup x=some c->∃ c',cl.lookup x=some c'
 | [],acc,_,ha=>⟨acc,rfl,ha,fun y hy=>(nomatch hy),fun x c h=>⟨c,h⟩⟩
 | (n,k)::r,acc,h,ha=>by
  by_cases hk:k=.free
  ·subst hk
   obtain⟨c,hc⟩:=h (n,.free) List.mem_cons_self rfl
   have hac:∀ x c',((n,c)::acc).lookup x=some c'->env.cells.lookup x=some c':=fun x c' q=>by
    rw[List.lookup_cons]at q
    cases e:x == n with
    | true=>
     rw[e]at q
     cases q
     rw[eq_of_beq e]
     exact hc
    | false=>
     rw[e]at q
     exact ha x c' q
   obtain⟨cl,e1,e2,e3,e4⟩:=clos_loop r ((n,c)::acc) (fun y hy=>h y (List.mem_cons_of_mem _ hy)) hac
   refine⟨cl,?_,e2,fun y hy hf=>?_,fun x c' q=>?_⟩
   ·rw[List.forIn_cons]
    have ec:cellOf env n=pure c:=by unfold cellOf;rw[hc]
    simp only[beq_self_eq_true,if_true,ec,pure_bind]
    exact e1
   ·rcases List.mem_cons.mp hy with rfl | hy
    ·exact e4 n c (by simp)
    ·exact e3 y hy hf
   ·cases e:x == n with
    | true=>exact e4 x c (by rw[List.lookup_cons,e])
    | false=>exact e4 x c' (by rw[List.lookup_cons,e];exact q)
  ·obtain⟨cl,e1,e2,e3,e4⟩:=clos_loop r acc (fun y hy=>h y (List.mem_cons_of_mem _ hy)) ha
   refine⟨cl,?_,e2,fun y hy hf=>?_,e4⟩
   ·rw[List.forIn_cons]
    have hb:(k == NameKind.free)=false:=by simpa using hk
    simp only[hb,Bool.false_eq_true,if_false,pure_bind]
    exact e1
   ·rcases List.mem_cons.mp hy with rfl | hy
    ·exact absurd hf hk
    ·exact e3 y hy hf
theorem clos_of {scope:Scope}{env:Env} (h:∀ y∈scope.names,y.2=.free->∃ c,env.cells.lookup y.1=some c) :
  ∃ cl,closureFor scope env=pure cl/\(∀ x c,cl.lookup x=some c->env.cells.lookup x=some c)/\∀ y∈scope.names,y.2=.free->∃ c,cl.lookup y.1=some c:=by
 obtain⟨cl,e1,e2,e3,_⟩:=clos_loop (env:=env) scope.names [] h (fun x c q=>by simp at q)
 refine⟨cl,?_,e2,e3⟩
 unfold closureFor
 first
  | exact e1
  | (simp only[bind_pure_comp,map_pure,bind_pure]at e1 ⊢;exact e1)
  | (rw[show (forIn scope.names [] _:Sem (List (Str×Addr)))=pure cl from e1];rfl)
theorem rel_free {env:Env}:∀ {names:List (Str×NameKind)}{x:Str},names.lookup x=some .free ->
  let l:=(names.map fun (n,k)=>if (k == NameKind.free && env.scope.kind == .function && env.kindOf n == some .cell) then (n,NameKind.cell) else (n,k)).lookup x
  l=some .cell\/l=some .free
 | [],_,h=>by simp at h
 | (n,k)::r,x,h=>by
  have ih:=@rel_free env r x
  simp only at ih ⊢
  rw[List.map_cons]
  cases hx:x == n with
  | true=>
   rw[List.lookup_cons,hx]at h
   cases h
   by_cases hc:(NameKind.free == NameKind.free && env.scope.kind == .function && env.kindOf n == some .cell)=true
   ·left
    simp only[hc,if_true,List.lookup_cons,hx]
   ·right
    simp only[if_neg hc,List.lookup_cons,hx]
  | false=>
   rw[List.lookup_cons,hx]at h
   by_cases hc:(k == NameKind.free && env.scope.kind == .function && env.kindOf n == some .cell)=true
   ·simp only[if_pos hc,List.lookup_cons,hx];exact ih h
   ·simp only[if_neg hc,List.lookup_cons,hx];exact ih h
theorem rel_back {env:Env}:∀ {names:List (Str×NameKind)}{x:Str}{k':NameKind},(∀ y∈names,y.2≠.cell)->(k'=.cell\/k'=.free) ->
  (names.map fun (n,k)=>if (k == NameKind.free && env.scope.kind == .function && env.kindOf n == some .cell) then (n,NameKind.cell) else (n,k)).lookup x=some k'->(x,NameKind.free)∈names
 | [],_,_,_,_,h=>by simp at h
 | (n,k)::r,x,k',hn,hk,h=>by
  rw[List.map_cons]at h
  cases hx:x == n with
  | true=>
   have e:x=n:=eq_of_beq hx
   subst e
   by_cases hc:(k == NameKind.free && env.scope.kind == .function && env.kindOf x == some .cell)=true
   ·have hf:k=.free:=by
     simp only[Bool.and_eq_true,beq_iff_eq]at hc
     exact hc.1.1
    subst hf
    exact List.mem_cons_self
   ·simp only[if_neg hc,List.lookup_cons,hx]at h
    have e2:k=k':=Option.some.inj h
    subst e2
    rcases hk with rfl | rfl
    ·exact absurd rfl (hn _ List.mem_cons_self)
    ·exact List.mem_cons_self
  | false=>
   have ih:=@rel_back env r x k' (fun y hy=>hn y (List.mem_cons_of_mem _ hy)) hk
   by_cases hc:(k == NameKind.free && env.scope.kind == .function && env.kindOf n == some .cell)=true
   ·simp only[if_pos hc,List.lookup_cons,hx]at h
    exact List.mem_cons_of_mem _ (ih h)
   ·simp only[if_neg hc,List.lookup_cons,hx]at h
    exact List.mem_cons_of_mem _ (ih h)
theorem comp_loop {prog:Program}{w:World}{A:Around}{s:Shared}{elt tg iter:Expr}{ifs:List Expr}{scope:Scope}{pos:Pos}{it acc:Value}{env:Env}{P:Shared->Prop}{R:Result->Shared->Prop}
  (hR:∀ s',P s'->R (.ok .next) s') (J:Nat->Shared->Prop)
  (turn:∀ n s,J n s->wpAny (model prog w) A (pyNext it) (fun r s1=>match r with
   | none=>P s1
   | some v=>wpAny (model prog w) A (letOwnedTupleGo tg it v) (fun _ s2=>wpAny (model prog w) A (assign tg env v) (fun _ s3=>
     wpAny (model prog w) A (forIn ifs true fun c r=>if r=true then do let ok <- isTrue c env (eval c env);pure (ForInStep.yield ok) else pure (ForInStep.yield r)) (fun ok s4=>
      if ok=true then wpAny (model prog w) A (eval elt env) (fun x s5=>
       wpAny (model prog w) A (call (.builtin "list.append") [acc,x]) (fun _ s6=>∃ m,m<n/\J m s6) (fun _ _=>False) s5) (fun _ _=>False) s4
      else ∃ m,m<n/\J m s4) (fun _ _=>False) s3) (fun _ _=>False) s2) (fun _ _=>False) s1) (fun _ _=>False) s)
  (n:Nat) (h:J n s):codeAny (model prog w) A (.compLoop (.ListComp elt [⟨tg,iter,ifs,0⟩] scope pos) 0 it acc env) R s:=by
 refine codeAny_loop rfl J (fun n s hJ=>?_) n h
 show wpAny _ A ((compTurn (.ListComp elt [⟨tg,iter,ifs,0⟩] scope pos) 0 it acc env).onRaise (fun x=>do noteFrame x env;theTreesLotGoes x)) _ _ s
 refine wpAny_noted (wpAny_mono (E:=fun _ _=>False) ?_ (fun _ _ q=>q) fun _ _ q=>q.elim)
 rw[compTurn_list]
 refine wpAny_bind (wpAny_standAt (wpAny_bind (thn (turn n s hJ) fun r s1 h1=>?_)))
 cases r with
 | none=>exact wpAny_pure (hR _ h1)
 | some v=>
  refine wpAny_bind (thn h1 fun _ s2 h2=>wpAny_bind (thn h2 fun _ s3 h3=>wpAny_bind (thn h3 fun ok s4 h4=>?_)))
  cases ok with
  | false=>exact wpAny_pure ⟨rfl,h4⟩
  | true=>exact wpAny_bind (wpAny_bind (thn h4 fun x s5 h5=>wpAny_bind (thn h5 fun _ s6 h6=>wpAny_pure (wpAny_pure ⟨rfl,h6⟩))))
def PIfs (X:Cx) (ifs:List Expr) (t:TT):Prop:=
 ∀ (pins:List (Addr×Obj)) (s:Shared) (σ:St) (H:Hp) (Q:Bool->Hp->Prop),Inv X pins σ H s->t σ H Q ->
  wpAny (model X.prog X.w) X.A (forIn ifs true fun c r=>if r=true then do let ok <- isTrue c X.env (eval c X.env);pure (ForInStep.yield ok) else pure (ForInStep.yield r)) (TP X pins σ Q) X.xe s
def tAll:TT:=fun _ H Q=>Q true H
theorem pif_nil {X:Cx}:PIfs X [] tAll:=fun pins s σ H Q I h=>wpAny_tests_nil ⟨H,I,h⟩
theorem pif_one {X:Cx}{c:Expr}{t:TT} (h:PT X c t):PIfs X [c] t:=fun pins s σ H Q I q=>wpAny_tests_one (h pins s σ H Q I q)
def sigC (k:Nat) (fr:List (Str×Nat)) (σ:St):St:=List.replicate k none++fr.map fun p=>(σ[p.2]?).join
def Tgt (k:Nat) (g:TG):Prop:=∀ x σ H Q,g x σ H Q->g x σ H fun σ2 H2=>Q σ2 H2/\σ2.length=σ.length/\σ2.drop k=σ.drop k
theorem tgt_name {i k:Nat} (h:i<k):Tgt k (gName i):=fun x σ H Q q=>⟨q,by simp,by rw[List.drop_set_of_lt h]⟩
theorem tgt_two {K:PySem.W.Frag}{i j k:Nat} (hi:i<k) (hj:j<k):Tgt k (gTup K 2 (gCons (gName i) (gCons (gName j) gNil))):=fun x σ H Q q=>by
 obtain⟨a,xs,e1,e2,e3,v,r,e4,v2,r2,e5,e6,q⟩:=q
 exact⟨a,xs,e1,e2,e3,v,r,e4,v2,r2,e5,e6,q,by simp,by rw[List.drop_set_of_lt hj,List.drop_set_of_lt hi]⟩
def lcStep (J:It) (k:Nat) (fr:List (Str×Nat)) (g:ZC->TG) (tc:ZC->TT) (te:ZC->TE) (σ:St) (W:Nat->Nat->List V->Hp->Prop) (fin:List V->Hp->Prop):Prop:=
 ∀ i m ys H,W i m ys H->ys.length<sizeLine/\((J.stop i H/\fin ys H)\/(J.go i H/\∀ (z:ZC) x H1,J.yld i H x H1->g z x (sigC k fr σ) H1 fun σ2 H2=>tc z σ2 H2 fun b H3=>
  if b=true then te z σ2 H3 fun y H4=>∃ m',m'<m/\W (i+1) m' (ys++[y]) H4 else ∃ m',m'<m/\W (i+1) m' ys H3))
def tLC (wi:TI) (k:Nat) (fr:List (Str×Nat)) (g:ZC->TG) (tc:ZC->TT) (te:ZC->TE):TE:=fun σ H Q=>wi σ H fun J H1=>
 ∃ W:Nat->Nat->List V->Hp->Prop,(∃ m,W 0 m [] H1)/\lcStep J k fr g tc te σ W fun ys H2=>∀ p,H2 p=none->Q (.ref p) (upd H2 p (.lst ys))
section
variable {X:Cx}{tg elt iter:Expr}{ifs:List Expr}{scope:Scope}{pos:Pos}{k:Nat}{Nt:List Str}{fr:List (Str×Nat)}{g:ZC->TG}{tc:ZC->TT}{te:ZC->TE}
structure LcOk (X:Cx) (scope:Scope) (Nt:List Str) (fr:List (Str×Nat)):Prop where
 kind:scope.kind=.function
 cell:∀ y∈scope.names,y.2≠.cell
 names:∀ y∈scope.names,y.2=.local->scope.names.lookup y.1=some .local
 free:∀ y∈scope.names,y.2=.free->X.env.kindOf y.1=some .cell
 fr:∀ p∈fr,X.N[p.2]?=some p.1/\scope.names.lookup p.1=some .free
theorem lc_start {pins:List (Addr×Obj)} {σ:St} {H:Hp}{s2:Shared}{cl:List (Str×Addr)}{fp:List Addr}{h1:Heap}{t1:Nat}{C D:Addr}{m:Str->Option Value} (L:LcOk X scope Nt fr) (I:Inv X pins σ H s2)
  (hcl:∀ x c,cl.lookup x=some c->X.env.cells.lookup x=some c) (hcl2:∀ y∈scope.names,y.2=.free->∃ c,cl.lookup y.1=some c) (hf:∀ b∈fp,FpOk X pins H b) (hlt:∀ b∈fp,b<s2.heap.objs.size)
  (hC:s2.heap.objs.size<=C) (hD:s2.heap.objs.size<=D) (hCD:D≠C) (old:∀ b o,s2.heap.get? b=some o->h1.get? b=some o) (hn:h1.Ns C m) (ho:h1.get? D=some { cls:=.type "list",data:=.seq #[] 0 }) :
  Inv (cxC X scope (Nt++fr.map (·.1)) ⟨cl,C,fp,s2,H⟩) [(D,{ cls:=.type "list",data:=.seq #[] 0 })] (sigC Nt.length fr σ) H { s2 with heap:=h1,toks:=t1 }:=by
 have hstk:∀ b∈frs X.stack,b<s2.heap.objs.size:=fun b hb=>by
  rcases List.mem_cons.mp (I.stkSub b hb) with e | e
  ·rw[e];exact I.lt
  ·exact Nat.lt_of_not_le fun z=>I.nofs z e
 have cdn:∀ x c,cl.lookup x=some c->c<s2.heap.objs.size:=fun x c e=>by
  obtain⟨v,q⟩:=I.cell x c (hcl x c e)
  exact q.lt
 refine⟨⟨I.mod,L.kind,I.ok.glob,I.ok.blt,hC,fun x y c e1 e2=>I.ok.inj x y c (hcl _ _ e1) (hcl _ _ e2),fun x hx=>?_,fun x c hf' _=>(nomatch hf'),I.ok.hd,I.ok.frames,.inl rfl,fun b hb=>⟨Nat.ne_of_lt (Nat.lt_of_lt_of_le (hlt b hb) hC),fun x c e=>(hf b hb).2.2.2.2.1 x c (hcl x c e)⟩,
   I.bs,Nat.le_trans I.ok.bsz I.sz,fun b o e hb=>?_,fun b hb z=>?_,I.stack,I.stkFree⟩,
  rfl,I.bare,Un.kept old,⟨m,hn,fun i x v h1' h2 h3=>?_⟩,fun x c e=>?_,I.hok.fresh hC,fun x c e=>I.freeC x c (hcl x c e),fun p hp=>?_,I.hok.kept old,?_⟩
 ·have hx':((relabel scope X.env).names.lookup x=some .cell\/(relabel scope X.env).names.lookup x=some .free):=hx
  rcases hx' with q | q
  ·exact hcl2 _ (rel_back L.cell (.inl rfl) q) rfl
  ·exact hcl2 _ (rel_back L.cell (.inr rfl) q) rfl
 ·rcases (hf b hb).2.2.2.1 with q | q
  ·exact I.ok.noex b o e q
  ·exact absurd (Nat.lt_of_lt_of_le (Heap.lt_size e) (Nat.le_trans I.ok.bsz q)) (Nat.lt_irrefl _)
 ·rcases List.mem_cons.mp (I.stkSub b z) with e | e
  ·exact (hf b hb).2.1 e
  ·exact (hf b hb).2.2.1 e
 ·have h1'':(Nt++fr.map (·.1))[i]?=some x:=h1'
  have hi:¬i<Nt.length:=fun hi=>by
   unfold sigC at h2
   rw[List.getElem?_append_left (by simpa using hi),List.getElem?_replicate]at h2
   split at h2 <;> cases h2
  unfold sigC at h2
  rw[List.getElem?_append_right (by simpa using hi),List.length_replicate,List.getElem?_map]at h2
  rw[List.getElem?_append_right (by lia),List.getElem?_map]at h1''
  cases e:fr[i-Nt.length]? with
  | none=>rw[e]at h2;cases h2
  | some p=>
   rw[e]at h2 h1''
   have ex:p.1=x:=Option.some.inj h1''
   have ev:(σ[p.2]?).join=some v:=Option.some.inj h2
   obtain⟨hN,hfr⟩:=L.fr p (List.mem_of_getElem? e)
   have es:σ[p.2]?=some (some v):=by
    cases q:σ[p.2]? with
    | none=>rw[q]at ev;cases ev
    | some o=>rw[q]at ev;exact congrArg some ev
   have hkc:=L.free (p.1,.free) (PySem.mem_of_lookup hfr) rfl
   obtain⟨mo,hmo,hloc⟩:=I.loc
   obtain⟨u,ru,lk⟩:=hloc p.2 p.1 v hN es (.inr (.inl hkc))
   refine⟨u,ru,?_⟩
   rcases lk with ⟨kk,_⟩ | ⟨_,c,hc,hcell⟩
   ·rw[hkc]at kk;cases kk
   ·obtain⟨c',hc'⟩:=hcl2 _ (PySem.mem_of_lookup hfr) rfl
    have hcc:=hcl _ _ hc'
    rw[hc]at hcc
    cases hcc
    subst ex
    refine .inr ⟨?_,c,hc',?_⟩
    ·exact rel_free hfr
    ·obtain⟨o,q1,q2⟩:=hcell
     exact⟨o,old _ _ q1,q2⟩
 ·obtain⟨v,q⟩:=I.cell x c (hcl x c e)
  obtain⟨o,q1,q2⟩:=q
  exact⟨v,o,old _ _ q1,q2⟩
 ·have hp':p∈([(D,({ cls:=.type "list",data:=.seq #[] 0 }:Obj))]:List (Addr×Obj)):=hp
  rw[List.mem_singleton]at hp'
  subst hp'
  exact⟨ho,I.hok.fresh hD,hCD,fun z=>absurd (Nat.lt_of_lt_of_le (hstk _ z) hD) (Nat.lt_irrefl _),fun v z=>by cases z⟩
 ·unfold sigC
  show _=(Nt++fr.map (·.1)).length
  simp
structure LcEnd (X:Cx) (fp:List Addr) (H1:Hp) (s2:Shared) (fin:List V->Hp->Prop) (D C:Addr) (s':Shared) (ys:List V) (its:List Value) (n:Nat) (H':Hp) (m':Str->Option Value):Prop where
 ns:s'.heap.Ns C m'
 fc:H' C=none
 fd:H' D=none
 gc:s2.heap.objs.size<=C
 gd:s2.heap.objs.size<=D
 cd:D≠C
 un:Un (frs X.stack) fp H1 H' s2.heap s'.heap
 ok:HOk X.prog X.w H' s'.heap
 os:s'.os=s2.os
 bare:AllBare s'.gens
 obj:s'.heap.get? D=some { cls:=.type "list",data:=.seq its.toArray n }
 vals:Vals ys its
 size:ys.length<=sizeLine
 fin:fin ys H'
theorem lc_close {pins:List (Addr×Obj)} {σ:St} {fp:List Addr}{H1 H':Hp}{s2 s':Shared}{fin:List V->Hp->Prop}{D C:Addr}{ys:List V}{its:List Value}{n:Nat}{m':Str->Option Value}{h':Heap}
  (I:Inv X pins σ H1 s2) (hf:∀ b∈fp,FpOk X pins H1 b) (e:LcEnd X fp H1 s2 fin D C s' ys its n H' m') (sb:Heap.SameBut C s'.heap h'):Inv X pins σ (upd H' D (.lst ys)) { s' with heap:=h' }:=by
 have old:∀ b o,s2.heap.get? b=some o->b≠C/\b≠D:=fun b o q=>⟨Nat.ne_of_lt (Nat.lt_of_lt_of_le (Heap.lt_size q) e.gc),Nat.ne_of_lt (Nat.lt_of_lt_of_le (Heap.lt_size q) e.gd)⟩
 have at':∀ b,b≠C->h'.get? b=s'.heap.get? b:=fun b hb=>sb.2 b hb
 refine I.call' (s':={ s' with heap:=h' }) (ch:=fp) e.os ?_ ?_ e.bare fun b hb=>⟨(hf b hb).2.2.2.1,(hf b hb).2.1,(hf b hb).2.2.2.2.1,(hf b hb).2.2.2.2.2⟩
 ·have u:=e.un
  refine⟨fun b o q n hb hx=>?_,fun b o q n hb hx=>?_,fun b o q n hx=>?_,fun b o q hx=>?_,fun b xs q=>?_,fun b o v q=>?_,fun b ps q=>?_⟩
  ·exact (at' b (old b o q).1).trans (u.keep b o q n hb hx)
  ·obtain⟨sl,z⟩:=u.slot b o q n hb hx
   exact⟨sl,(at' b (old b o q).1).trans z⟩
  ·rw[upd_ne (old b o q).2]
   exact u.free b o q n hx
  ·obtain⟨o',z⟩:=u.there b o q hx
   exact⟨o',(at' b (old b o q).1).trans z⟩
  ·have z:=u.tups b xs q
   rw[upd_ne (ne_of_none z e.fd)]
   exact z
  ·have z:=u.frzs b o v q
   rw[upd_ne (ne_of_none z e.fd)]
   exact z
  ·obtain⟨more,z⟩:=u.tbls b ps q
   refine⟨more,?_⟩
   rw[upd_ne (ne_of_none z e.fd)]
   exact z
 ·intro b o q
  by_cases hb:b=D
  ·subst hb
   rw[upd_same]at q
   cases q
   exact⟨e.size,its,n,e.vals,(at' _ e.cd).trans e.obj⟩
  ·rw[upd_ne hb]at q
   refine (e.ok b o q).stay (fun c v hc z=>?_) (fun c z=>?_) fun c xs z=>?_
   ·have hcC:c≠C:=by
     rcases hc with rfl | hc
     ·exact ne_of_none q e.fc
     ·exact ne_of_none hc e.fc
    exact (at' c hcC).trans z
   ·rw[upd_ne (ne_of_none z e.fd)]
    exact z
   ·rw[upd_ne (ne_of_none z e.fd)]
    exact z
theorem lc_block {pins:List (Addr×Obj)} {σ:St} {H1:Hp}{s2:Shared}{cl:List (Str×Addr)}{fp:List Addr}{it:Addr}{tn:Nat->Heap->Prop}{J:It}{W:Nat->Nat->List V->Hp->Prop}{fin:List V->Hp->Prop}{E:Value->Shared->Prop}{RR:Value->Addr->Result->Shared->Prop}{m0:Nat}
  (L:LcOk X scope Nt fr) (hcalm:X.calm=true) (I:Inv X pins σ H1 s2) (hcl:∀ x c,cl.lookup x=some c->X.env.cells.lookup x=some c) (hcl2:∀ y∈scope.names,y.2=.free->∃ c,cl.lookup y.1=some c)
  (T:Turn X.prog X.w X.K tg J fp it tn) (st0:tn 0 s2.heap) (hf:∀ b∈fp,FpOk X pins H1 b)
  (hg:∀ z,PG (cxC X scope (Nt++fr.map (·.1)) z) tg (g z)) (hgt:∀ z,Tgt Nt.length (g z)) (hc:∀ z,PIfs (cxC X scope (Nt++fr.map (·.1)) z) ifs (tc z)) (he:∀ z,PE (cxC X scope (Nt++fr.map (·.1)) z) elt (te z))
  (w0:W 0 m0 [] H1) (step:lcStep J Nt.length fr g tc te σ W fin)
  (hRR:∀ D C s' ys its n H' m',LcEnd X fp H1 s2 fin D C s' ys its n H' m'->RR (.ref D) C (.ok .next) s') :
  wpAny (model X.prog X.w) X.A (newList []) (fun acc s3=>wpAny (model X.prog X.w) X.A (newFunctionEnv scope X.env.globals cl [] X.env.qual none .none (some X.env)) (fun cenv s4=>
   codeAny (model X.prog X.w) X.A (.compStart (.ListComp elt [⟨tg,iter,ifs,0⟩] scope pos) 0 (.ref it) acc { cenv with scope:=relabel scope X.env }) (RR acc cenv.locals) s4) E s3) E s2:=by
 refine wpAny_newObj_type (wpAny_newFunctionEnv L.cell (by intro y hy;simp at hy) (fun h1 hns hsb=>?_) L.kind)
 dsimp only at hns hsb ⊢
 generalize hH2:s2.heap.push { cls:=.type "list",dict:=none,data:=.seq ([]:List Value).toArray }=G at hns hsb ⊢
 have hC:G.objs.size=s2.heap.objs.size+1:=by rw[<- hH2,Heap.size_push]
 have hlt:∀ b∈fp,b<s2.heap.objs.size:=fun b hb=>by
  obtain⟨o,q,_⟩:=T.obj 0 _ st0 b hb
  exact Heap.lt_size q
 have old:∀ b o,s2.heap.get? b=some o->h1.get? b=some o:=fun b o q=>
  hsb.extBut b o (by rw[hC];exact Nat.ne_of_lt (Nat.lt_succ_of_lt (Heap.lt_size q))) (Heap.get?_push_of_some _ (hH2 ▸ Heap.get?_push_of_some _ q))
 have hDC:s2.heap.objs.size≠G.objs.size:=by rw[hC];exact Nat.ne_of_lt (Nat.lt_succ_self _)
 have hacc:h1.get? s2.heap.objs.size=some { cls:=.type "list",data:=.seq #[] 0 }:=hsb.extBut _ _ hDC (Heap.get?_push_of_some _ (hH2 ▸ Heap.get?_push_size _ rfl))
 have hgC:s2.heap.objs.size<=G.objs.size:=by rw[hC];exact Nat.le_succ _
 have I0:=lc_start (t1:=s2.toks+([]:List (Str×Value)).length) (C:=G.objs.size) (D:=s2.heap.objs.size) L I hcl hcl2 hf hlt hgC (Nat.le_refl _) hDC old hns hacc
 have st1:tn 0 h1:=T.keep 0 _ _ st0 fun b _ o q=>old b o q
 generalize hX:cxC X scope (Nt++fr.map (·.1)) ⟨cl,G.objs.size,fp,s2,H1⟩=X' at I0
 have hcd:∀ x c,cl.lookup x=some c->c<s2.heap.objs.size:=fun x c e=>by
  obtain⟨v,q⟩:=I.cell x c (hcl x c e)
  exact q.lt
 have hfr:∀ b∈fp,b ∉ frs X.stack:=fun b hb z=>by
  rcases List.mem_cons.mp (I.stkSub b z) with e | e
  ·exact (hf b hb).2.1 e
  ·exact (hf b hb).2.2.1 e
 have stat:∀ {H':Hp}{ob:Obj},(∀ b∈fp,H' b=none)->∀ b∈fp,FpOk X' [(s2.heap.objs.size,ob)] H' b:=fun {H' ob} hn b hb=>by
  subst hX
  refine⟨hn b hb,Nat.ne_of_lt (Nat.lt_of_lt_of_le (hlt b hb) hgC),hfr b hb,.inl hb,fun x c e=>(hf b hb).2.2.2.2.1 x c (hcl x c e),fun p hp=>?_⟩
  have hp':p∈([(s2.heap.objs.size,ob)]:List (Addr×Obj)):=hp
  rw[List.mem_singleton]at hp'
  subst hp'
  exact Nat.ne_of_gt (hlt b hb)
 have eP:X'.prog=X.prog:=by subst hX;rfl
 have eW:X'.w=X.w:=by subst hX;rfl
 have eK:X'.K=X.K:=by subst hX;rfl
 have eC:X'.calm=true:=by subst hX;exact hcalm
 have hg':PG X' tg (g ⟨cl,G.objs.size,fp,s2,H1⟩):=by subst hX;exact hg _
 have hc':PIfs X' ifs (tc ⟨cl,G.objs.size,fp,s2,H1⟩):=by subst hX;exact hc _
 have he':PE X' elt (te ⟨cl,G.objs.size,fp,s2,H1⟩):=by subst hX;exact he _
 -- what is known of the list that grows
 have grow:∀ {pl:List (Addr×Obj)} {σ':St} {H':Hp}{s':Shared}{ob ob':Obj}{h':Heap},Inv X' pl σ' H' s'->H' s2.heap.objs.size=none->(sigC Nt.length fr σ).length=σ'.length->σ'.drop Nt.length=(sigC Nt.length fr σ).drop Nt.length ->
   Heap.SameBut s2.heap.objs.size s'.heap h'->h'.get? s2.heap.objs.size=some ob'->(∀ v,ob'.data≠.cell v)->Inv X' [(s2.heap.objs.size,ob')] (sigC Nt.length fr σ) H' { s' with heap:=h' }:=fun {pl σ' H' s' ob ob' h'} I' hn hl hd sb ho' hv=>by
  have I1:Inv X' [] σ' H' s':=I'.pins_of fun p hp=>(nomatch hp)
  have g1:s2.heap.objs.size≠X'.env.locals:=by subst hX;exact hDC
  have g2:X'.s₀.heap.objs.size<=s2.heap.objs.size:=by subst hX;exact Nat.le_refl _
  have g3:∀ x c,X'.env.cells.lookup x=some c->c≠s2.heap.objs.size:=by subst hX;exact fun x c e=>Nat.ne_of_lt (hcd x c e)
  have g4:∀ p∈X'.pn++([]:List (Addr×Obj)),p.1≠s2.heap.objs.size:=by subst hX;exact fun p hp=>(nomatch (show p∈([]:List (Addr×Obj)) from hp))
  have g5:s2.heap.objs.size ∉ X'.fs:=by
   subst hX
   intro z
   rcases List.mem_cons.mp (I.stkSub _ z) with e | e
   ·exact absurd (e ▸ I.lt) (Nat.lt_irrefl _)
   ·exact I.nofs (Nat.le_refl _) e
  have I2:Inv X' [] σ' H' { s' with heap:=h' }:=I1.turned (t':=s'.toks) (it:=s2.heap.objs.size) (fun b o hb q=>(sb.2 b hb).trans q) hn g1 (.inr g2) g3 g4
  have I3:Inv X' [(s2.heap.objs.size,ob')] σ' H' { s' with heap:=h' }:=I2.pins_of fun p hp=>by
   rw[List.mem_singleton]at hp
   subst hp
   exact⟨ho',hn,g1,g5,hv⟩
  refine I3.weak hl fun i v q=>?_
  have hi:¬i<Nt.length:=fun hi=>by
   unfold sigC at q
   rw[List.getElem?_append_left (by simpa using hi),List.getElem?_replicate]at q
   split at q <;> cases q
  have z:∀ l:St,l[i]?=(l.drop Nt.length)[i-Nt.length]?:=fun l=>by
   rw[List.getElem?_drop]
   congr 1
   lia
  rw[z,hd,<- z]
  exact q
 have loop:∀ s3:Shared,s3={ s2 with heap:=h1,toks:=s2.toks+([]:List (Str×Value)).length } ->
   codeAny (model X.prog X.w) X.A (.compLoop (.ListComp elt [⟨tg,iter,ifs,0⟩] scope pos) 0 (.ref it) (.ref s2.heap.objs.size) (compEnvC scope cl G.objs.size X.env)) (RR (.ref s2.heap.objs.size) G.objs.size) s3:=by
  rintro s3 rfl
  refine comp_loop (P:=fun s'=>∃ ys its n H' m',LcEnd X fp H1 s2 fin s2.heap.objs.size G.objs.size s' ys its n H' m') (fun s' ⟨ys,its,n,H',m',q⟩=>hRR _ _ s' ys its n H' m' q)
   (fun n s'=>∃ i ys its c H',Inv X' [(s2.heap.objs.size,{ cls:=.type "list",data:=.seq (its:List Value).toArray c })] (sigC Nt.length fr σ) H' s'/\Vals ys its/\tn i s'.heap/\(∀ b∈fp,H' b=none)/\W i n ys H')
   ?_ m0 ⟨0,[],[],0,H1,I0,.nil,st1,fun b hb=>(hf b hb).1,w0⟩
  rintro n s' ⟨i,ys,its,c,H',I',rv,st,fr0,w⟩
  obtain⟨hz,hstep⟩:=step i n ys H' w
  have nD:∀ {pl:List (Addr×Obj)} {σ':St} {H'':Hp}{s'':Shared}{ob:Obj},Inv X' ((s2.heap.objs.size,ob)::pl) σ' H'' s''->s''.heap.get? s2.heap.objs.size=some ob/\H'' s2.heap.objs.size=none:=fun {pl σ' H'' s'' ob} I''=>by
   have q:=I''.pin (s2.heap.objs.size,ob) (List.mem_append_right _ List.mem_cons_self)
   exact⟨q.1,q.2.1⟩
  rcases hstep with ⟨stop,fn⟩ | ⟨go,hgo⟩
  ·have A1:=T.done X' eP eW eK eC i _ s' _ H' (fun _ _=>False) I' (stat fr0) st stop
   have hA:X'.A=X.A:=by subst hX;rfl
   rw[hA]at A1
   refine thn A1 fun r s1 ⟨hr,I1⟩=>?_
   subst hr
   obtain⟨q1,q2⟩:=nD I1
   have hL:X'.env.locals=G.objs.size:=by subst hX;rfl
   obtain⟨m',hm',_⟩:=I1.loc
   have un:Un (frs X.stack) fp H1 H' s2.heap s1.heap:=by subst hX;exact I1.base
   have os:s1.os=s2.os:=by subst hX;exact I1.os
   exact⟨ys,its,c,H',m',⟨hL ▸ hm',hL ▸ I1.free,q2,hgC,Nat.le_refl _,hDC,un,eP ▸ eW ▸ I1.hok,os,I1.bare,q1,rv,Nat.le_of_lt hz,fn⟩⟩
  ·have hA:X'.A=X.A:=by subst hX;rfl
   have hE:X'.env=compEnvC scope cl G.objs.size X.env:=by subst hX;rfl
   have hxe:X'.xe=fun _ _=>False:=by subst hX;rfl
   have A1:=T.item X' eP eW eK eC i _ s' _ H' (fun _ _=>False) I' (stat fr0) st go
   rw[hA]at A1
   refine thn A1 fun r s1 ⟨u,hr,h4⟩=>?_
   subst hr
   refine thn h4 fun _ s5 ⟨x,H5,I5,r5,y5,st5,fr5⟩=>?_
   have I5':=I5.pinned (stat fr5) (T.obj _ _ st5)
   have q5:=hgt _ x _ H5 _ (hgo ⟨cl,G.objs.size,fp,s2,H1⟩ x H5 y5)
   have A2:=hg' _ s5 _ H5 x u _ I5' r5 q5
   rw[eP,eW,hA,hE,hxe]at A2
   refine thn A2 fun _ s6 ⟨σ6,H6,I6,q6,l6,d6⟩=>?_
   have A3:=hc' _ s6 σ6 H6 _ I6 q6
   rw[eP,eW,hA,hE,hxe]at A3
   refine thn A3 fun ok s7 ⟨H7,I7,q7⟩=>?_
   have back:∀ {σ8:St} {H8:Hp}{s8 s9:Shared},Inv X' ([(s2.heap.objs.size,{ cls:=.type "list",data:=.seq its.toArray c })]++pinsAt fp s5.heap) σ8 H8 s8->(∀ b,b≠s2.heap.objs.size->s9.heap.get? b=s8.heap.get? b)->tn (i+1) s9.heap/\∀ b∈fp,H8 b=none:=fun {σ8 H8 s8 s9} I8 h9=>by
    refine⟨T.keep _ _ _ st5 fun b hb o q=>?_,fun b hb=>?_⟩
    ·rw[h9 b (Nat.ne_of_lt (hlt b hb))]
     exact (I8.pin (b,o) (List.mem_append_right _ (List.mem_append_right _ (mem_pinsAt hb q)))).1
    ·obtain⟨o,q,_⟩:=T.obj _ _ st5 b hb
     exact (I8.pin (b,o) (List.mem_append_right _ (List.mem_append_right _ (mem_pinsAt hb q)))).2.1
   cases ok with
   | false=>
    rw[if_neg Bool.false_ne_true]at q7 ⊢
    obtain⟨m',hm',w'⟩:=q7
    obtain⟨e1,e2⟩:=nD I7
    obtain⟨b1,b2⟩:=back (s9:=s7) I7 fun _ _=>rfl
    refine⟨m',hm',i+1,ys,its,c,H7,?_,rv,b1,b2,w'⟩
    exact grow (ob:={ cls:=.type "list",data:=.seq its.toArray c }) (h':=s7.heap) I7 e2 l6.symm d6 (.refl ..) e1 (fun v z=>by cases z)
   | true=>
    rw[if_pos rfl]at q7 ⊢
    have A4:=he' _ s7 σ6 H7 _ I7 q7
    rw[eP,eW,hA,hE,hxe]at A4
    refine thn A4 fun v s8 ⟨y,H8,I8,r8,m',hm',w'⟩=>?_
    obtain⟨e1,e2⟩:=nD I8
    refine append_at (hsz:=by rw[List.size_toArray,<- rv.length];exact Nat.le_of_lt hz) e1 fun h9 sb o9=>?_
    obtain⟨b1,b2⟩:=back (s9:={ s8 with heap:=h9 }) I8 fun b hb=>sb.2 b hb
    have ea:its.toArray.push v=(its++[v]).toArray:=by simp
    rw[ea]at o9
    refine⟨m',hm',i+1,ys++[y],its++[v],c+1,H8,?_,rv.append (.cons r8 .nil),b1,b2,w'⟩
    exact grow (ob:={ cls:=.type "list",data:=.seq its.toArray c }) I8 e2 l6.symm d6 sb o9 (fun v z=>by cases z)
 exact codeAny_compStart_list (loop _ rfl) (T.self X.A 0 _ _ _ st1 (loop _ rfl))
theorem pe_lc {wi:TI} (L:LcOk X scope Nt fr) (hcalm:X.calm=true) (hi:PI X tg iter wi) (hg:∀ z,PG (cxC X scope (Nt++fr.map (·.1)) z) tg (g z)) (hgt:∀ z,Tgt Nt.length (g z))
  (hc:∀ z,PIfs (cxC X scope (Nt++fr.map (·.1)) z) ifs (tc z)) (he:∀ z,PE (cxC X scope (Nt++fr.map (·.1)) z) elt (te z)) (hs:∀ x,foldedSetIterable iter X.env x=pure x:=by intro _;rfl) :
  PE X (.ListComp elt [⟨tg,iter,ifs,0⟩] scope pos) (tLC wi Nt.length fr g tc te):=by
 intro pins s σ H Q I h
 obtain⟨cl,e1,e2,e3⟩:=clos_of (scope:=scope) (env:=X.env) fun y hy hf=>I.ok.has _ (.inl (L.free y hy hf))
 rw[eval_ListComp]
 refine wpAny_comprehension_free (use:=none) rfl hs e1 L.kind L.names (thn (hi pins s σ H _ I h) fun v s1 h1=>thn h1 fun itv s2 h2=>?_)
 obtain⟨it,fp,tn,J,H2,e,I2,T,st2,f2,W,⟨m0,w0⟩,step⟩:=h2
 subst e
 refine lc_block (RR:=fun acc C r s'=>compPost (model X.prog X.w) X.A X.xe none (EP X pins σ Q) acc C r s') L hcalm I2 e2 e3 T st2 f2 hg hgt hc he w0 step fun D C s' ys its n H' m' q=>?_
 exact⟨m',q.ns,fun h' sb=>⟨.ref D,_,lc_close I2 f2 q sb,rfl,q.fin D q.fd⟩⟩
def tLCset (wi:TI) (k:Nat) (fr:List (Str×Nat)) (g:ZC->TG) (tc:ZC->TT) (te:ZC->TE) (j:Nat):TS:=fun Ds σ H=>wi σ H fun J H1=>
 ∃ W:Nat->Nat->List V->Hp->Prop,(∃ m,W 0 m [] H1)/\lcStep J k fr g tc te σ W fun ys H2=>∀ p,H2 p=none->Ds.nx (σ.set j (some (.ref p))) (upd H2 p (.lst ys))
theorem ps_lc {wi:TI}{y:Str}{j:Nat}{py spos:Pos} (L:LcOk X scope Nt fr) (hcalm:X.calm=true) (hN:X.N.Nodup) (hj:X.N[j]?=some y) (hy:Loc X.env.scope y) (hi:PI X tg iter wi) (hg:∀ z,PG (cxC X scope (Nt++fr.map (·.1)) z) tg (g z)) (hgt:∀ z,Tgt Nt.length (g z))
  (hc:∀ z,PIfs (cxC X scope (Nt++fr.map (·.1)) z) ifs (tc z)) (he:∀ z,PE (cxC X scope (Nt++fr.map (·.1)) z) elt (te z)) (hs:∀ x,foldedSetIterable iter X.env x=pure x:=by intro _;rfl)
  (hsw:swapsWith (.ListComp elt [⟨tg,iter,ifs,0⟩] scope pos) (some (.Name y py)) spos.line X.env=pure true:=by rfl)
  (hff:X.fn y=true\/X.env.scope.names.lookup y=some .local:=by first | exact .inl rfl | exact .inr rfl | assumption) :
  PS X (.Assign [.Name y py] (.ListComp elt [⟨tg,iter,ifs,0⟩] scope pos) spos) (tLCset wi Nt.length fr g tc te j):=by
 intro pins s σ H Ds I h
 obtain⟨cl,e1,e2,e3⟩:=clos_of (scope:=scope) (env:=X.env) fun y hy hf=>I.ok.has _ (.inl (L.free y hy hf))
 rw[exec_Assign_Name_used _ _ _ _ hsw]
 refine wpAny_bind (wpAny_standAt (wpAny_bind ?_))
 show wpAny _ X.A (do let _ <- comprehension (.ListComp elt [⟨tg,iter,ifs,0⟩] scope pos) scope X.env _ (newList []) false (eval iter X.env) (some (assign (.Name y py) X.env))) _ _ s
 refine wpAny_bind (thn (wpAny_comprehension_free (use:=some (assign (.Name y py) X.env)) (Q:=fun _ s'=>SP X pins Ds .next s') rfl hs e1 L.kind L.names
  (thn (hi pins s σ H _ I h) fun v s1 h1=>thn h1 fun itv s2 h2=>?_)) fun _ s' hq=>wpAny_pure (wpAny_pure hq))
 obtain⟨it,fp,tn,J,H2,e,I2,T,st2,f2,W,⟨m0,w0⟩,step⟩:=h2
 subst e
 refine lc_block (RR:=fun acc C r s'=>compPost (model X.prog X.w) X.A X.xe (some (assign (.Name y py) X.env)) (fun _ s'=>SP X pins Ds .next s') acc C r s') L hcalm I2 e2 e3 T st2 f2 hg hgt hc he w0 step fun D C s' ys its n H' m' q=>?_
 have I3:Inv X pins σ (upd H' D (.lst ys)) s':=lc_close (h':=s'.heap) I2 f2 q (.refl ..)
 obtain⟨oC,es,ep,hoC,hdC,hkC,hmC⟩:=id q.ns
 have hCH:upd H' D (.lst ys) C=none:=by rw[upd_ne (Ne.symm q.cd)];exact q.fc
 have gL:C≠X.env.locals:=Nat.ne_of_gt (Nat.lt_of_lt_of_le I2.lt q.gc)
 have gF:C ∉ X.fs:=I2.nofs q.gc
 have gE:X.s₀.heap.objs.size<=C:=Nat.le_trans I2.sz q.gc
 have gC:∀ x c,X.env.cells.lookup x=some c->c≠C:=fun x c e=>by
  obtain⟨v,z⟩:=I2.cell x c e
  exact Nat.ne_of_lt (Nat.lt_of_lt_of_le z.lt q.gc)
 have gP:∀ p∈X.pn++pins,p.1≠C:=fun p hp=>Nat.ne_of_lt (Nat.lt_of_lt_of_le (Heap.lt_size (I2.pin p hp).1) q.gc)
 have I4:Inv X (pins++[(C,oC)]) σ (upd H' D (.lst ys)) s':=I3.pins_of fun p hp=>by
  rcases List.mem_append.mp hp with z | z
  ·exact I3.pin p (List.mem_append_right _ z)
  ·rw[List.mem_singleton]at z
   subst z
   exact⟨hoC,hCH,gL,gF,fun v z=>by rw[hdC]at z;cases z⟩
 show wpAny _ _ (assign (.Name y py) X.env (.ref D)) _ _ s'
 refine wpAny_assign_Name (store_ok I4 hN hj hy (show RelV (.ref D) (.ref D) from rfl) (fun s'' I5=>?_) hff)
 have z:=I5.pin (C,oC) (List.mem_append_right _ (List.mem_append_right _ (List.mem_singleton.mpr rfl)))
 refine⟨m',⟨oC,es,ep,z.1,hdC,hkC,hmC⟩,fun h'' sb=>⟨σ.set j (some (.ref D)),_,?_,q.fin D q.fd⟩⟩
 have I6:Inv X pins (σ.set j (some (.ref D))) (upd H' D (.lst ys)) s'':=I5.unpinned
 exact I6.turned (t':=s''.toks) (it:=C) (fun b o hb e=>(sb.2 b hb).trans e) hCH gL (.inr gE) gC gP
end
end L2
end
section
namespace L2
open PySem PySem.Spec PyProof.Rows
section
variable {prog:Program}{w:World}{A:Around}{E:Value->Shared->Prop}{s:Shared}
theorem nextOf_tup {J t:Addr}{i:Nat}{its:Array Value}{x:Value}{Q:Value->Shared->Prop} (hJ:s.heap.IsTupleIter J t i) (ht:s.heap.IsTuple t its) (hx:its[i]?=some x)
  (q:∀ h',h'.IsTupleIter J t (i+1)->Heap.SameBut J s.heap h'->Q x { s with heap:=h' }):wpAny (model prog w) A (Builtin.SmallTypes.nextOf (.ref J)) Q E s:=by
 obtain⟨ob,h1,h2,h3⟩:=id hJ
 obtain⟨ot,g1,_,nt,g2⟩:=ht
 unfold Builtin.SmallTypes.nextOf
 refine wpAny_bind (wpAny_callSpecial?_slot (name:=Str.ofString "__next__") hJ.typeIs F.slot_tuple_iterator_next (wpAny_call_entry F.slot_tuple_iterator_next hJ.typeIs F.entry_tuple_iterator_next ?_ (F.args_tuple_iterator_next_1 _)))
 show wpAny _ _ (field (.ref J) 0 >>= _) _ _ s
 refine wpAny_bind (wpAny_field h1 h3 (x:=.ref t) rfl ?_)
 show wpAny _ _ (if (Value.ref t == Value.none)=true then _ else _) _ _ s
 rw[if_neg (show ¬((Value.ref t == Value.none)=true) from fun z=>Bool.false_ne_true z)]
 show wpAny _ _ (field (.ref J) 1 >>= _) _ _ s
 refine wpAny_bind (wpAny_field h1 h3 (x:=.int i 0) rfl ?_)
 show wpAny _ _ (seqItems? (.ref t) >>= _) _ _ s
 refine wpAny_bind (wpAny_seqItems g1 g2 ?_)
 simp only[Int.toNat_natCast,hx]
 refine wpAny_bind (wpAny_setField h1 h3 (by simp) (wpAny_pure ⟨x,rfl,wpAny_pure (q _ ?a (Heap.SameBut.update ..))⟩))
 exact⟨_,Heap.get?_update_self _ h1 (Obj.isFreed_of_fields (Obj.data_mapFields h3 _)),Eq.trans (Obj.cls_mapFields ..) h2,by rw[Obj.data_mapFields h3] <;> simp [rawInt]⟩
theorem nextOf_tup_end {J t:Addr}{i:Nat}{its:Array Value}{Q:Value->Shared->Prop} (hh:A.handled=none) (hJ:s.heap.IsTupleIter J t i) (ht:s.heap.IsTuple t its) (hx:its[i]?=none)
  (q:∀ h' e,Heap.ExtBut J s.heap h'->(∃ o,h'.get? e=some o/\o.cls=.type "StopIteration")->E (.ref e) { s with heap:=h' }):wpAny (model prog w) A (Builtin.SmallTypes.nextOf (.ref J)) Q E s:=by
 obtain⟨ob,h1,h2,h3⟩:=id hJ
 obtain⟨ot,g1,_,nt,g2⟩:=ht
 unfold Builtin.SmallTypes.nextOf
 refine wpAny_bind (wpAny_callSpecial?_slot (name:=Str.ofString "__next__") hJ.typeIs F.slot_tuple_iterator_next (wpAny_call_entry F.slot_tuple_iterator_next hJ.typeIs F.entry_tuple_iterator_next ?_ (F.args_tuple_iterator_next_1 _)))
 show wpAny _ _ (field (.ref J) 0 >>= _) _ _ s
 refine wpAny_bind (wpAny_field h1 h3 (x:=.ref t) rfl ?_)
 show wpAny _ _ (if (Value.ref t == Value.none)=true then _ else _) _ _ s
 rw[if_neg (show ¬((Value.ref t == Value.none)=true) from fun z=>Bool.false_ne_true z)]
 show wpAny _ _ (field (.ref J) 1 >>= _) _ _ s
 refine wpAny_bind (wpAny_field h1 h3 (x:=.int i 0) rfl ?_)
 show wpAny _ _ (seqItems? (.ref t) >>= _) _ _ s
 refine wpAny_bind (wpAny_seqItems g1 g2 ?_)
 simp only[Int.toNat_natCast,hx]
 refine wpAny_bind (wpAny_rule (wpAny_bind (wpAny_setField h1 h3 (by simp) ?_)))
 show wpAny _ _ (newExc (.type "StopIteration") [] >>= _) _ _ _
 refine wpAny_bind ?_
 simp only[newExc,newTuple]
 refine wpAny_bind (wpAny_newObj_type ?_ (by size_fits))
 refine wpAny_bind (m:=firstArgMember _ _) (wpAny_of_eq (a:=Value.none) (by first | rfl | (simp only[firstArgMember] <;> rfl)) ?_)
 refine wpAny_newObj_type ?_ (by size_fits)
 simp only[raiseNew]
 refine wpAny_bind (wpAny_handled ?_)
 first | rw[show A.in1.handled=none from hh] | rw[hh]
 refine wpAny_bind (wpAny_pure (wpAny_throw (q _ _ ?_ ⟨_,Heap.get?_push_size _ rfl,rfl⟩)))
 exact ((Heap.SameBut.update ..).extBut.push _).push _
structure ZAt (h:Heap) (z TI TO i1 i2 t1 t2:Addr) (k:Nat) (f:Value):Prop where
 z:IsZip h z TI TO f
 ti:IsPair h TI (.ref i1) (.ref i2)
 to:∃ a b,IsPair h TO a b
 j1:h.IsTupleIter i1 t1 k
 j2:h.IsTupleIter i2 t2 k
structure ZNe (z TI TO i1 i2 t1 t2:Addr):Prop where
 a1:TI≠z
 a2:TO≠z
 a3:i1≠z
 a4:i2≠z
 a5:TI≠TO
 a6:TI≠i1
 a7:TI≠i2
 a8:TO≠i1
 a9:TO≠i2
 b1:i1≠i2
 c1:t1≠z/\t1≠TO/\t1≠i1/\t1≠i2
 c2:t2≠z/\t2≠TO/\t2≠i1/\t2≠i2
theorem zip_item {z TI TO i1 i2 t1 t2:Addr}{k:Nat}{xs ys:Array Value}{x y:Value}{Q:Option Value->Shared->Prop} (D:ZNe z TI TO i1 i2 t1 t2) (Z:ZAt s.heap z TI TO i1 i2 t1 t2 k .none)
  (ht1:s.heap.IsTuple t1 xs) (ht2:s.heap.IsTuple t2 ys) (hx:xs[k]?=some x) (hy:ys[k]?=some y)
  (hQ:∀ h',ZAt h' z TI TO i1 i2 t1 t2 (k+1) (rawInt s.heap.objs.size)->IsPair h' s.heap.objs.size x y->h'.objs.size=s.heap.objs.size+1 ->
   (∀ c o,c≠z->c≠TO->c≠i1->c≠i2->s.heap.get? c=some o->h'.get? c=some o)->Q (some (.ref s.heap.objs.size)) { s with heap:=h' }) :
  wpAny (model prog w) A (pyNext (.ref z)) Q E s:=by
 have hT:s.TypeIs (.ref z) "zip":=⟨_,Z.z,rfl⟩
 obtain⟨u0,v0,hTO⟩:=Z.to
 unfold pyNext
 refine wpAny_bind (wpAny_attempt (wpAny_callSpecial?_slot (name:=Str.ofString "__next__") hT F.slot_zip_next (wpAny_call_entry F.slot_zip_next hT F.entry_zip_next ?_ (F.args_zip_next_1 _))))
 show wpAny _ _ (field (.ref z) 2 >>= _) _ _ _
 refine wpAny_bind (wpAny_field Z.z rfl (x:=.bool false) rfl ?_)
 show wpAny _ _ (field (.ref z) 3 >>= _) _ _ _
 refine wpAny_bind (wpAny_field Z.z rfl (x:=.ref TI) rfl ?_)
 refine wpAny_bind (wpAny_seqItems Z.ti rfl ?_)
 show wpAny _ _ (Builtin.SmallTypes.ownedTupleIsFree (.ref z) >>= _) _ _ _
 refine wpAny_bind ?_
 unfold Builtin.SmallTypes.ownedTupleIsFree
 refine wpAny_bind (wpAny_field Z.z rfl (x:=.none) rfl (wpAny_pure ?_))
 simp only[if_true]
 refine wpAny_bind (wpAny_rule (wpAny_bind (wpAny_field Z.z rfl (x:=.ref TO) rfl ?_)))
 refine wpAny_bind (wpAny_setField_rec Z.z (by simp) fun g1 z1 s1=>?_)
 have z1:IsZip g1 z TI TO .ellipsis:=z1
 refine wpAny_bind ?_
 simp only[List.zipIdx_cons,List.zipIdx_nil,List.forIn_cons,List.forIn_nil]
 refine wpAny_bind (wpAny_bind (wpAny_onRaise ?_))
 show wpAny _ _ (Builtin.SmallTypes.nextOf (.ref i1) >>= _) _ _ _
 refine wpAny_bind (nextOf_tup (Z.j1.extBut s1.extBut D.a3) (ht1.extBut s1.extBut D.c1.1) hx fun g2 j12 s2=>wpAny_pure ?_)
 have o2:IsPair g2 TO u0 v0:=s2.extBut _ _ D.a8 (s1.extBut _ _ D.a2 hTO)
 refine wpAny_bind (wpAny_seqItems o2 rfl ?_)
 refine wpAny_bind (wpAny_updateSeq_pair o2 fun g3 o3 s3=>?_)
 have o3:IsPair g3 TO x v0:=o3
 refine wpAny_bind (wpAny_letGo (wpAny_pure ?_))
 refine wpAny_bind (wpAny_bind (wpAny_onRaise ?_))
 show wpAny _ _ (Builtin.SmallTypes.nextOf (.ref i2) >>= _) _ _ _
 refine wpAny_bind (nextOf_tup (((Z.j2.extBut s1.extBut D.a4).extBut s2.extBut D.b1.symm).extBut s3.extBut D.a9.symm) (((ht2.extBut s1.extBut D.c2.1).extBut s2.extBut D.c2.2.2.1).extBut s3.extBut D.c2.2.1) hy fun g4 j24 s4=>wpAny_pure ?_)
 have o4:IsPair g4 TO x v0:=s4.extBut _ _ D.a9 o3
 refine wpAny_bind (wpAny_seqItems o4 rfl ?_)
 refine wpAny_bind (wpAny_updateSeq_pair o4 fun g5 o5 s5=>?_)
 have o5:IsPair g5 TO x y:=o5
 refine wpAny_bind (wpAny_letGo (wpAny_pure (wpAny_pure ?_)))
 refine wpAny_bind (wpAny_seqItems o5 rfl ?_)
 refine wpAny_bind (wpAny_newTuple ?_)
 have sz:g5.objs.size=s.heap.objs.size:=by rw[s5.1,s4.1,s3.1,s2.1,s1.1]
 have z5:IsZip g5 z TI TO .ellipsis:=s5.extBut _ _ D.a2.symm (s4.extBut _ _ D.a4.symm (s3.extBut _ _ D.a2.symm (s2.extBut _ _ D.a3.symm z1)))
 have k5:∀ c o,c≠z->c≠TO->c≠i1->c≠i2->s.heap.get? c=some o->g5.get? c=some o:=fun c o e1 e2 e3 e4 q=>s5.extBut _ _ e2 (s4.extBut _ _ e4 (s3.extBut _ _ e2 (s2.extBut _ _ e3 (s1.extBut _ _ e1 q))))
 have j15:g5.IsTupleIter i1 t1 (k+1):=((j12.extBut s3.extBut D.a8.symm).extBut s4.extBut D.b1).extBut s5.extBut D.a8.symm
 have j25:g5.IsTupleIter i2 t2 (k+1):=j24.extBut s5.extBut D.a9.symm
 have zlt:z<g5.objs.size:=Heap.lt_size z5
 show wpAny _ _ (Builtin.SmallTypes.ownedTupleHandOut (.ref z) (.ref g5.objs.size) >>= _) _ _ _
 refine wpAny_bind ?_
 unfold Builtin.SmallTypes.ownedTupleHandOut
 have z6:IsZip (g5.push { cls:=.type "tuple",data:=.seq #[x,y] }) z TI TO .ellipsis:=Heap.get?_push_of_some _ z5
 refine wpAny_bind (wpAny_setField_rec z6 (by simp) fun g7 z7 s7=>?_)
 have z7:IsZip g7 z TI TO (rawInt g5.objs.size):=z7
 refine wpAny_setField_rec z7 (by simp) fun g8 z8 s8=>?_
 have z8:IsZip g8 z TI TO (rawInt g5.objs.size):=z8
 have up:∀ c o,c≠z->g5.get? c=some o->g8.get? c=some o:=fun c o e q=>s8.extBut _ _ e (s7.extBut _ _ e (Heap.get?_push_of_some _ q))
 have T8:IsPair g8 g5.objs.size x y:=s8.extBut _ _ (Nat.ne_of_gt zlt) (s7.extBut _ _ (Nat.ne_of_gt zlt) (Heap.get?_push_size _ rfl))
 have n8:g8.objs.size=g5.objs.size+1:=by rw[s8.1,s7.1,Heap.size_push]
 rw[sz]at z8 T8 n8
 refine wpAny_pure ⟨_,rfl,wpAny_pure ?_⟩
 show Q (some (.ref g5.objs.size)) _
 rw[sz]
 refine hQ g8 ⟨z8,up _ _ D.a1 (k5 _ _ D.a1 D.a5 D.a6 D.a7 Z.ti),⟨_,_,up _ _ D.a2 o5⟩,?_,?_⟩ T8 n8 fun c o e1 e2 e3 e4 q=>up c o e1 (k5 c o e1 e2 e3 e4 q)
 ·obtain⟨ob,q1,q2⟩:=j15;exact⟨ob,up _ _ D.a3 q1,q2⟩
 ·obtain⟨ob,q1,q2⟩:=j25;exact⟨ob,up _ _ D.a4 q1,q2⟩
theorem zip_end {z TI TO i1 i2 t1 t2:Addr}{k:Nat}{xs ys:Array Value}{Q:Option Value->Shared->Prop} (hh:A.handled=none) (D:ZNe z TI TO i1 i2 t1 t2) (Z:ZAt s.heap z TI TO i1 i2 t1 t2 k .none)
  (ht1:s.heap.IsTuple t1 xs) (ht2:s.heap.IsTuple t2 ys) (hend:xs[k]?=none\/ys[k]?=none)
  (hQ:∀ h',(∀ c o,c≠z->c≠TO->c≠i1->c≠i2->s.heap.get? c=some o->h'.get? c=some o)->Q none { s with heap:=h' }) :
  wpAny (model prog w) A (pyNext (.ref z)) Q E s:=by
 have hT:s.TypeIs (.ref z) "zip":=⟨_,Z.z,rfl⟩
 obtain⟨u0,v0,hTO⟩:=Z.to
 unfold pyNext
 refine wpAny_bind (wpAny_attempt (wpAny_callSpecial?_slot (name:=Str.ofString "__next__") hT F.slot_zip_next (wpAny_call_entry F.slot_zip_next hT F.entry_zip_next ?_ (F.args_zip_next_1 _))))
 show wpAny _ _ (field (.ref z) 2 >>= _) _ _ _
 refine wpAny_bind (wpAny_field Z.z rfl (x:=.bool false) rfl ?_)
 show wpAny _ _ (field (.ref z) 3 >>= _) _ _ _
 refine wpAny_bind (wpAny_field Z.z rfl (x:=.ref TI) rfl ?_)
 refine wpAny_bind (wpAny_seqItems Z.ti rfl ?_)
 show wpAny _ _ (Builtin.SmallTypes.ownedTupleIsFree (.ref z) >>= _) _ _ _
 refine wpAny_bind ?_
 unfold Builtin.SmallTypes.ownedTupleIsFree
 refine wpAny_bind (wpAny_field Z.z rfl (x:=.none) rfl (wpAny_pure ?_))
 simp only[if_true]
 refine wpAny_bind (wpAny_rule (wpAny_bind (wpAny_field Z.z rfl (x:=.ref TO) rfl ?_)))
 refine wpAny_bind (wpAny_setField_rec Z.z (by simp) fun g1 z1 s1=>?_)
 have z1:IsZip g1 z TI TO .ellipsis:=z1
 refine wpAny_bind ?_
 simp only[List.zipIdx_cons,List.zipIdx_nil,List.forIn_cons,List.forIn_nil]
 refine wpAny_bind (wpAny_bind (wpAny_onRaise ?_))
 show wpAny _ _ (Builtin.SmallTypes.nextOf (.ref i1) >>= _) _ _ _
 cases hx:xs[k]? with
 | none=>
  refine wpAny_bind (nextOf_tup_end hh (Z.j1.extBut s1.extBut D.a3) (ht1.extBut s1.extBut D.c1.1) hx fun g2 e s2 he=>?_)
  obtain⟨oe,q1,q2⟩:=he
  have z2:IsZip g2 z TI TO .ellipsis:=s2 _ _ D.a3.symm z1
  have ne:e≠z:=fun x=>by subst x;rw[z2]at q1;cases q1;simp at q2
  exact wpAny_setField_rec z2 (by simp) fun g3 _ s3=>wpAny_bind (wpAny_isInstance (T:="StopIteration") (b:=true) ⟨oe,s3.extBut _ _ ne q1,q2⟩ isSubtype_stop (wpAny_pure (hQ _ fun c o c1 _ c3 _ x=>s3.extBut _ _ c1 (s2 _ _ c3 (s1.extBut _ _ c1 x)))))
 | some x=>
  have hy:ys[k]?=none:=by
   rcases hend with q | q
   ·rw[hx]at q;cases q
   ·exact q
  refine wpAny_bind (nextOf_tup (Z.j1.extBut s1.extBut D.a3) (ht1.extBut s1.extBut D.c1.1) hx fun g2 j12 s2=>wpAny_pure ?_)
  have o2:IsPair g2 TO u0 v0:=s2.extBut _ _ D.a8 (s1.extBut _ _ D.a2 hTO)
  refine wpAny_bind (wpAny_seqItems o2 rfl ?_)
  refine wpAny_bind (wpAny_updateSeq_pair o2 fun g3 o3 s3=>?_)
  refine wpAny_bind (wpAny_letGo (wpAny_pure ?_))
  refine wpAny_bind (wpAny_bind (wpAny_onRaise ?_))
  show wpAny _ _ (Builtin.SmallTypes.nextOf (.ref i2) >>= _) _ _ _
  refine wpAny_bind (nextOf_tup_end hh (((Z.j2.extBut s1.extBut D.a4).extBut s2.extBut D.b1.symm).extBut s3.extBut D.a9.symm) (((ht2.extBut s1.extBut D.c2.1).extBut s2.extBut D.c2.2.2.1).extBut s3.extBut D.c2.2.1) hy fun g4 e s4 he=>?_)
  obtain⟨oe,q1,q2⟩:=he
  have z4:IsZip g4 z TI TO .ellipsis:=s4 _ _ D.a4.symm (s3.extBut _ _ D.a2.symm (s2.extBut _ _ D.a3.symm z1))
  have ne:e≠z:=fun x=>by subst x;rw[z4]at q1;cases q1;simp at q2
  exact wpAny_setField_rec z4 (by simp) fun g5 _ s5=>wpAny_bind (wpAny_isInstance (T:="StopIteration") (b:=true) ⟨oe,s5.extBut _ _ ne q1,q2⟩ isSubtype_stop (wpAny_pure (hQ _ fun c o c1 c2 c3 c4 x=>s5.extBut _ _ c1 (s4 _ _ c4 (s3.extBut _ _ c2 (s2.extBut _ _ c3 (s1.extBut _ _ c1 x)))))))
abbrev zh1 (h:Heap) (a:Addr):Heap:=h.push { cls:=.type "tuple_iterator",data:=.fields #[.ref a,.int 0 0] }
abbrev zh2 (h:Heap) (a b:Addr):Heap:=(zh1 h a).push { cls:=.type "tuple_iterator",data:=.fields #[.ref b,.int 0 0] }
abbrev zh3 (h:Heap) (a b:Addr):Heap:=(zh2 h a b).push { cls:=.type "tuple",data:=.seq #[.ref h.objs.size,.ref (zh1 h a).objs.size] }
abbrev zh4 (h:Heap) (a b:Addr):Heap:=(zh3 h a b).push { cls:=.type "tuple",data:=.seq #[.none,.none] }
abbrev zh5 (h:Heap) (a b:Addr):Heap:=(zh4 h a b).push { cls:=.type "zip",data:=.fields #[.none,.bool false,.bool false,.ref (zh2 h a b).objs.size,.ref (zh3 h a b).objs.size] }
end
theorem meets_zip_tups (a b:Addr) (xs ys:Array Value) :
  Meets (Builtin.«zip.__new__» ⟨[.type "zip",.ref a,.ref b],[]⟩) (fun _ R s=>s.heap.IsTuple a xs/\s.heap.IsTuple b ys/\R (.ok (.ret (.ref (zh4 s.heap a b).objs.size))) { s with heap:=zh5 s.heap a b }):=
 .of_wp fun prog w A R s h=>by
  obtain⟨hp,g,d,tk,os⟩:=s
  obtain⟨q1,q2,h⟩:=h
  have sub:=sub_zip
  have e1:Heap.IsTuple (Shared.heap ⟨hp,g,d,tk,os⟩) a xs:=q1
  have e2:Heap.IsTuple (Shared.heap ⟨hp.push { cls:=.type "tuple_iterator",data:=.fields #[.ref a,.int 0 0] },g,d,tk,os⟩) b ys:=Heap.IsTuple.push q2 _
  wp_walk using wpAny_pyIter_tuple e1,wpAny_pyIter_tuple e2
  exact⟨_,rfl,h⟩
section
variable {prog:Program}{w:World}{A:Around}{E:Value->Shared->Prop}{s:Shared}
theorem call_zip_tups {a b:Addr}{xs ys:Array Value}{Q:Value->Shared->Prop} (h1:s.heap.IsTuple a xs) (h2:s.heap.IsTuple b ys)
  (h:∀ h',ZAt h' (s.heap.objs.size+4) (s.heap.objs.size+2) (s.heap.objs.size+3) s.heap.objs.size (s.heap.objs.size+1) a b 0 .none->h'.objs.size=s.heap.objs.size+5 ->
   (∀ c o,s.heap.get? c=some o->h'.get? c=some o)->Q (.ref (s.heap.objs.size+4)) { s with heap:=h' }):wpAny (model prog w) A (call (.type "zip") [.ref a,.ref b]) Q E s:=by
 refine callType_new F.called_zip (by decide) (F.typeCall_zip_2 _ _) (F.newCall_zip_2 _ _) (fun obj=>F.args_object_init_3 obj _ _) F.entry_zip_new (meets_zip_tups a b xs ys) ⟨h1,h2,?_⟩
 have n1:(zh1 s.heap a).objs.size=s.heap.objs.size+1:=Heap.size_push ..
 have n2:(zh2 s.heap a b).objs.size=s.heap.objs.size+2:=by rw[Heap.size_push,n1]
 have n3:(zh3 s.heap a b).objs.size=s.heap.objs.size+3:=by rw[Heap.size_push,n2]
 have n4:(zh4 s.heap a b).objs.size=s.heap.objs.size+4:=by rw[Heap.size_push,n3]
 have n5:(zh5 s.heap a b).objs.size=s.heap.objs.size+5:=by rw[Heap.size_push,n4]
 have p5:(zh5 s.heap a b).get? (zh4 s.heap a b).objs.size=some _:=Heap.get?_push_size _ rfl
 have p4:(zh5 s.heap a b).get? (zh3 s.heap a b).objs.size=some _:=Heap.get?_push_of_some _ (Heap.get?_push_size _ rfl)
 have p3:(zh5 s.heap a b).get? (zh2 s.heap a b).objs.size=some _:=Heap.get?_push_of_some _ (Heap.get?_push_of_some _ (Heap.get?_push_size _ rfl))
 have p2:(zh5 s.heap a b).get? (zh1 s.heap a).objs.size=some _:=Heap.get?_push_of_some _ (Heap.get?_push_of_some _ (Heap.get?_push_of_some _ (Heap.get?_push_size _ rfl)))
 have p1:(zh5 s.heap a b).get? s.heap.objs.size=some _:=Heap.get?_push_of_some _ (Heap.get?_push_of_some _ (Heap.get?_push_of_some _ (Heap.get?_push_of_some _ (Heap.get?_push_size _ rfl))))
 show _/\_
 rw[n2,n3,n4]at p5
 rw[n1,n2]at p3
 rw[n3]at p4
 rw[n1]at p2
 rw[n4]
 exact⟨⟨_,p5,rfl⟩,h _ ⟨p5,p3,⟨_,_,p4⟩,⟨_,p1,rfl,rfl⟩,⟨_,p2,rfl,rfl⟩⟩ n5 fun c o x=>
  Heap.get?_push_of_some _ (Heap.get?_push_of_some _ (Heap.get?_push_of_some _ (Heap.get?_push_of_some _ (Heap.get?_push_of_some _ x))))⟩
end
def Itz (K:PySem.W.Frag) (a b:Addr):It:=
  ⟨fun i H=>∃ xs ys x y,SqT K H a xs/\SqT K H b ys/\xs[i]?=some x/\ys[i]?=some y,
   fun i H v H'=>∃ p,v=.ref p/\H p=none/\∃ x y,(∀ xs,SqT K H a xs->xs[i]?=some x)/\(∀ ys,SqT K H b ys->ys[i]?=some y)/\H'=upd H p (.tup [x,y]),
   fun i H=>∃ xs ys,SqT K H a xs/\SqT K H b ys/\(xs.length<=i\/ys.length<=i)⟩
theorem turn_zip {P:Program}{w:World}{K:PySem.W.Frag}{elts:List Expr}{kk:Nat}{tp:Pos}{z TI TO i1 i2 a b:Addr} (D:ZNe z TI TO i1 i2 a b) :
  Turn P w K (.Tuple elts kk tp) (Itz K a b) [z,TI,TO,i1,i2] z (fun i h=>ZAt h z TI TO i1 i2 a b i .none) where
 mem:=by simp
 obj:=fun i h st c hc=>by
  obtain⟨q1,q2,⟨u,v,q3⟩,⟨o4,q4,_,d4⟩,⟨o5,q5,_,d5⟩⟩:=st
  simp only[List.mem_cons,List.not_mem_nil,or_false]at hc
  rcases hc with rfl | rfl | rfl | rfl | rfl
  ·exact⟨_,q1,fun v z=>by cases z⟩
  ·exact⟨_,q2,fun v z=>by cases z⟩
  ·exact⟨_,q3,fun v z=>by cases z⟩
  ·exact⟨_,q4,fun v z=>by rw[d4]at z;cases z⟩
  ·exact⟨_,q5,fun v z=>by rw[d5]at z;cases z⟩
 keep:=fun i h h' st k=>by
  obtain⟨q1,q2,⟨u,v,q3⟩,⟨o4,q4,r4⟩,⟨o5,q5,r5⟩⟩:=st
  exact⟨k z (by simp) _ q1,k TI (by simp) _ q2,⟨u,v,k TO (by simp) _ q3⟩,⟨o4,k i1 (by simp) _ q4,r4⟩,⟨o5,k i2 (by simp) _ q5,r5⟩⟩
 item:=by
  intro X hP hw hK hc i pins s σ H E I hf st hg
  subst hP hw hK
  obtain⟨xs,ys,x,y,hxs,hys,hx,hy⟩:=hg
  obtain⟨its,r1,p1,_⟩:=I.tuple hxs
  obtain⟨its2,r2,p2,_⟩:=I.tuple hys
  obtain⟨u,hu,ru⟩:=r1.get hx
  obtain⟨v,hv,rv⟩:=r2.get hy
  refine zip_item D st p1 p2 (x:=u) (y:=v) (by simpa using hu) (by simpa using hv) fun h' Z' T' n' keep=>⟨_,rfl,?_⟩
  refine wpAny_letOwnedTupleGo_zip Z'.z fun h'' z'' sb=>?_
  have hzlt:z<s.heap.objs.size:=Heap.lt_size st.z
  have hT:h''.get? s.heap.objs.size=some { cls:=.type "tuple",data:=.seq #[u,v] }:=sb.extBut _ _ (Nat.ne_of_gt hzlt) T'
  have k2:∀ c o,c ∉ [z,TO,i1,i2]->s.heap.get? c=some o->h''.get? c=some o:=fun c o hc q=>by
   simp only[List.mem_cons,List.not_mem_nil,or_false,not_or]at hc
   exact sb.extBut _ _ hc.1 (keep c o hc.1 hc.2.1 hc.2.2.1 hc.2.2.2 q)
  have fresh:H s.heap.objs.size=none:=I.hok.fresh (Nat.le_refl _)
  have sub:∀ c∈[z,TO,i1,i2],c∈[z,TI,TO,i1,i2]:=fun c hc=>by
   simp only[List.mem_cons,List.not_mem_nil,or_false]at hc ⊢
   rcases hc with h | h | h | h <;> simp [h]
  have none':∀ c∈[z,TO,i1,i2],H c=none:=fun c hc=>(hf c (sub c hc)).1
  have tne:∀ c o,H c=some o->c≠s.heap.objs.size:=fun c o q=>ne_of_none q fresh
  have new:ObjOk X.prog X.w (upd H s.heap.objs.size (.tup [x,y])) h'' s.heap.objs.size (.tup [x,y]):=
   ⟨tupD_at (by show 2<=sizeLine;decide) hT rfl,[u,v],.cons ru (.cons rv .nil),⟨_,hT,rfl,0,rfl⟩⟩
  have ok:HOk X.prog X.w (upd H s.heap.objs.size (.tup [x,y])) h'':=fun c o q=>by
   by_cases hc:c=s.heap.objs.size
   ·subst hc
    rw[upd_same]at q
    cases q
    exact new
   ·rw[upd_ne hc]at q
    refine (I.hok c o q).stay (fun d v hd e=>k2 d v (fun m=>?_) e) (fun d e=>?_) fun d zs e=>?_
    ·rcases hd with rfl | hd
     ·rw[none' _ m]at q;cases q
     ·rw[none' _ m]at hd;cases hd
    ·rw[upd_ne (tne _ _ e)];exact e
    ·rw[upd_ne (tne _ _ e)];exact e
  obtain⟨m,hm,_⟩:=id I.loc
  have hL:∀ c∈[z,TO,i1,i2],c≠X.env.locals:=fun c hc=>(hf c (sub c hc)).2.1
  have I':Inv X pins σ (upd H s.heap.objs.size (.tup [x,y])) { s with heap:=h'' }:=by
   refine I.step (g':=s.gens) (t':=s.toks) (d':=s.drawn) (ch:=[z,TO,i1,i2]) (fun c hc=>⟨(hf c (sub c hc)).2.2.2.1,(hf c (sub c hc)).2.1,(hf c (sub c hc)).2.2.2.2.1,(hf c (sub c hc)).2.2.2.2.2⟩)
    (fun c o _ _ hc q _=>k2 c o hc q) (fun c o _ _ hc q _=>⟨o.slots,k2 c o hc q⟩) (fun c o hc q n=>?_) (fun c o hc q=>⟨o,k2 c o hc q⟩) (fun c zs q=>?_) (fun c o v q=>?_) (fun c ps q=>⟨#[],?_⟩) (fun m' hm'=>?_) ok I.bare
   ·rw[upd_ne (Nat.ne_of_lt (Heap.lt_size q))];exact n
   ·rw[upd_ne (tne _ _ q)];exact q
   ·rw[upd_ne (tne _ _ q)];exact q
   ·rw[upd_ne (tne _ _ q)];simpa using q
   ·obtain⟨o,es,ep,e,rr⟩:=hm'
    exact⟨o,es,ep,k2 _ _ (fun hc=>hL _ hc rfl) e,rr⟩
  refine⟨.ref s.heap.objs.size,_,I',rfl,⟨_,rfl,fresh,x,y,fun zs hz=>by rw[I.tuple_inj hz hxs];exact hx,fun zs hz=>by rw[I.tuple_inj hz hys];exact hy,rfl⟩,?_,fun c hc=>?_⟩
  ·obtain⟨_,q2,⟨e1,e2,q3⟩,⟨o4,q4,r4⟩,⟨o5,q5,r5⟩⟩:=Z'
   exact⟨z'',sb.extBut _ _ D.a1 q2,⟨e1,e2,sb.extBut _ _ D.a2 q3⟩,⟨o4,sb.extBut _ _ D.a3 q4,r4⟩,⟨o5,sb.extBut _ _ D.a4 q5,r5⟩⟩
  ·have hlt:c<s.heap.objs.size:=by
    obtain⟨q1,q2,⟨e1,e2,q3⟩,⟨o4,q4,r4⟩,⟨o5,q5,r5⟩⟩:=st
    simp only[List.mem_cons,List.not_mem_nil,or_false]at hc
    rcases hc with rfl | rfl | rfl | rfl | rfl
    ·exact Heap.lt_size q1
    ·exact Heap.lt_size q2
    ·exact Heap.lt_size q3
    ·exact Heap.lt_size q4
    ·exact Heap.lt_size q5
   rw[upd_ne (Nat.ne_of_lt hlt)]
   exact (hf c hc).1
 done:=by
  intro X hP hw hK hc i pins s σ H E I hf st hg
  subst hP hw hK
  obtain⟨xs,ys,hxs,hys,hl⟩:=hg
  obtain⟨its,r1,p1,_⟩:=I.tuple hxs
  obtain⟨its2,r2,p2,_⟩:=I.tuple hys
  have l1:=r1.length
  have l2:=r2.length
  have sub:∀ c∈[z,TO,i1,i2],c∈[z,TI,TO,i1,i2]:=fun c hc=>by
   simp only[List.mem_cons,List.not_mem_nil,or_false]at hc ⊢
   rcases hc with h | h | h | h <;> simp [h]
  refine zip_end (I.ok.hd hc) D st p1 p2 (hl.elim (fun q=>.inl (by simp;lia)) fun q=>.inr (by simp;lia)) fun h' keep=>⟨rfl,?_⟩
  have k2:∀ c o,c ∉ [z,TO,i1,i2]->s.heap.get? c=some o->h'.get? c=some o:=fun c o hc q=>by
   simp only[List.mem_cons,List.not_mem_nil,or_false,not_or]at hc
   exact keep c o hc.1 hc.2.1 hc.2.2.1 hc.2.2.2 q
  have none':∀ c∈[z,TO,i1,i2],H c=none:=fun c hc=>(hf c (sub c hc)).1
  have ok:HOk X.prog X.w H h':=fun c o q=>(I.hok c o q).stay (fun d v hd e=>k2 d v (fun m=>by
    rcases hd with rfl | hd
    ·rw[none' _ m]at q;cases q
    ·rw[none' _ m]at hd;cases hd) e) (fun _ e=>e) fun _ _ e=>e
  refine I.step (g':=s.gens) (t':=s.toks) (d':=s.drawn) (ch:=[z,TO,i1,i2]) (fun c hc=>⟨(hf c (sub c hc)).2.2.2.1,(hf c (sub c hc)).2.1,(hf c (sub c hc)).2.2.2.2.1,(hf c (sub c hc)).2.2.2.2.2⟩)
    (fun c o _ _ hc q _=>k2 c o hc q) (fun c o _ _ hc q _=>⟨o.slots,k2 c o hc q⟩) (fun c o hc q n=>n) (fun c o hc q=>⟨o,k2 c o hc q⟩) (fun c zs q=>q) (fun c o v q=>q) (fun c ps q=>⟨#[],by simpa using q⟩) (fun m' hm'=>?_) ok I.bare
  obtain⟨o,es,ep,e,rr⟩:=hm'
  exact⟨o,es,ep,k2 _ _ (fun hc=>(hf _ (sub _ hc)).2.1 rfl) e,rr⟩
 self:=fun _ _ _ _ _ st h=>wpAny_pyIter_zip st.z h
section
variable {X:Cx}
def iZip (K:PySem.W.Frag) (ta:TA):TI:=fun σ H R=>ta σ H fun vs H1=>∃ a b xs ys,vs=[.ref a,.ref b]/\SqT K H1 a xs/\SqT K H1 b ys/\R (Itz K a b) H1
theorem pi_zip {a b:Expr}{ta:TA}{elts:List Expr}{kk:Nat}{tp p pos:Pos} (hg:Gl X "zip") (hm:X.mg "zip"=none) (ha:PA X [a,b] ta) (hs:starEach [a,b] X.env=[(false,eval a X.env),(false,eval b X.env)]:=by rfl) (hs2:starEach [b] X.env=[(false,eval b X.env)]:=by rfl) :
  PI X (.Tuple elts kk tp) (.Call (.Name "zip" p) [a,b] [] pos) (iZip X.K ta):=by
 intro pins s σ H R I h
 refine Call_ (ld_blt I hg hm boot_zip (PyProof.Rows.callWith_type1 (thn (ha pos pins s σ H _ I h) fun us s1 ⟨vs,H1,I1,r1,q1⟩=>?_) (by rw[hs,hs2]) (by rw[hs2];rfl)))
 obtain⟨x,y,xs,ys,e,hx,hy,q⟩:=q1
 subst e
 cases r1 with
 | cons r rr=>
  cases rr with
  | cons r' rr=>
   cases rr
   cases r
   cases r'
   obtain⟨its,v1,p1,_⟩:=I1.tuple hx
   obtain⟨its2,v2,p2,_⟩:=I1.tuple hy
   have l1:x<s1.heap.objs.size:=by obtain⟨_,e,_⟩:=p1;exact Heap.lt_size e
   have l2:y<s1.heap.objs.size:=by obtain⟨_,e,_⟩:=p2;exact Heap.lt_size e
   have f:∀ c:Addr,c<s1.heap.objs.size->∀ k:Nat,c≠s1.heap.objs.size+k:=fun c hc k=>Nat.ne_of_lt (Nat.lt_of_lt_of_le hc (Nat.le_add_right _ _))
   refine call_zip_tups p1 p2 fun h' Z n5 keep=>wpAny_pyIter_zip Z.z ?_
   have I2:Inv X pins σ H1 { s1 with heap:=h' }:=I1.kept (t':=s1.toks) keep
   refine⟨_,[s1.heap.objs.size+4,s1.heap.objs.size+2,s1.heap.objs.size+3,s1.heap.objs.size,s1.heap.objs.size+1],_,_,H1,rfl,I2,turn_zip ⟨?_,?_,?_,?_,?_,?_,?_,?_,?_,?_,⟨f _ l1 4,f _ l1 3,Nat.ne_of_lt l1,f _ l1 1⟩,⟨f _ l2 4,f _ l2 3,Nat.ne_of_lt l2,f _ l2 1⟩⟩,Z,fun c hc=>?_,q⟩
   any_goals (show (_:Nat)≠_;lia)
   have hc':s1.heap.objs.size<=c:=by
    simp only[List.mem_cons,List.not_mem_nil,or_false]at hc
    rcases hc with rfl | rfl | rfl | rfl | rfl
    ·exact Nat.le_add_right _ _
    ·exact Nat.le_add_right _ _
    ·exact Nat.le_add_right _ _
    ·exact Nat.le_refl _
    ·exact Nat.le_add_right _ _
   exact I1.fpOk hc' (I1.hok.fresh hc')
end
end L2
end
section
namespace L2
open PySem PySem.Spec PyProof.Rows
section
variable {prog:Program}{w:World}{A:Around}{E:Value->Shared->Prop}{s:Shared}
theorem getItem_tuple_all {t sl:Addr}{items:Array Value}{vl vu:Value}{lo hi:Option Int}{Q:Value->Shared->Prop} (ht:IsTup s.heap t items) (hs:s.heap.IsSliceOf sl vl vu .none) (pl:IsPart vl lo) (pu:IsPart vu hi)
  (hw:HT.sIx items.size 0 lo=0/\HT.sIx items.size items.size hi=items.size) (h:Q (.ref t) s):wpAny (model prog w) A (getItem (.ref t) (.ref sl)) Q E s:=by
 obtain⟨os,hos,hcs,hds⟩:=id hs
 have hTs:s.TypeIs (.ref sl) "slice":=⟨os,hos,hcs⟩
 unfold getItem
 try with_reducible refine wpAny_holding ?_
 first | refine wpAny_bind (wpAny_pure ?_) | skip
 refine wpAny_bind (wpAny_sequenceKey ht.typeIs (by decide) ?_)
 refine wpAny_bind (wpAny_callSpecial?_slot (name:=Str.ofString "__getitem__") ht.typeIs PyProof.Rows.slot_tuple_getitem
  (wpAny_call_entry PyProof.Rows.slot_tuple_getitem ht.typeIs entry_tuple_getitem ?_ (args_tuple_getitem _ _)))
 show wpAny _ _ (Builtin.Tuple.tupleItemsOf (.ref t) >>= _) _ _ s
 refine wpAny_bind (tupleItemsOf_ ht ?_)
 refine wpAny_bind (wpAny_typeOf hTs ?_)
 rw[if_pos (by decide)]
 refine wpAny_bind (HT.sliceApplied_gen hs pl pu ?_)
 have yes:(((HT.sIx items.size 0 lo:Nat):Int) == 0 && (1:Int) == 1 && (HT.sIx items.size items.size hi-HT.sIx items.size 0 lo) == items.size)=true:=by
  rw[hw.1,hw.2];simp
 show wpAny _ _ (if (((HT.sIx items.size 0 lo:Nat):Int) == 0 && (1:Int) == 1 && (HT.sIx items.size items.size hi-HT.sIx items.size 0 lo) == items.size)=true then _ else _) _ _ s
 rw[if_pos yes]
 obtain⟨o,ho,hc,n,hd⟩:=id ht
 have ex:wpAny (model prog w) A.in1 (Builtin.Tuple.tupleIsExact (.ref t)) (fun b s'=>b=true/\s'=s) E s:=by
  unfold Builtin.Tuple.tupleIsExact
  first
   | exact wpAny_bind (wpAny_typeOf ⟨o,ho,hc⟩ (wpAny_pure ⟨by rfl,rfl⟩))
   | exact wpAny_bind (wpAny_load ho (wpAny_pure ⟨by rw[hc];rfl,rfl⟩))
 refine wpAny_bind (thn ex fun b s' hb=>?_)
 obtain⟨rfl,rfl⟩:=hb
 rw[if_pos rfl]
 exact wpAny_bind (wpAny_rule (wpAny_pure ⟨_,rfl,wpAny_pure h⟩))
end
section
variable {X:Cx}
def rSlW (K:PySem.W.Frag):V->Option Int->Option Int->Hp->VK->Prop:=fun x lo hi H Q=>∃ a xs,x=.ref a/\SqT K H a xs/\HT.sIx xs.length 0 lo=0/\HT.sIx xs.length xs.length hi=xs.length/\Q (.ref a) H
theorem sl_tupW:SlR X (rSlW X.K):=by
 intro pins s σ H x v vl vu lo hi sl Q I rx hs pl pu h
 obtain⟨a,xs,rfl,hx,h1,h2,q⟩:=h
 cases rx
 obtain⟨its,r,ht,hz⟩:=I.tuple hx
 have hlen:its.toArray.size=xs.length:=by rw[List.size_toArray];exact r.length.symm
 refine⟨"tuple",_,PyProof.Rows.slot_tuple_getitem.lookup,ht.typeIs,?_⟩
 exact getItem_tuple_all ht hs pl pu (by rw[hlen];exact⟨h1,h2⟩) ⟨.ref a,H,I,rfl,q⟩
def rSlS:V->Option Int->Option Int->Hp->VK->Prop:=fun x lo hi H Q=>∃ z,x=.str z/\z.length<=sizeLine/\Q (.str (Txt.slice z lo hi)) H
theorem sl_str:SlR X rSlS:=by
 intro pins s σ H x v vl vu lo hi sl Q I rx hs pl pu h
 obtain⟨z,rfl,hz,q⟩:=h
 obtain⟨t,rfl⟩:=rx
 obtain⟨os,hos,hcs,hds⟩:=id hs
 refine⟨"str",_,F.slot_str_getitem.lookup,typeIs_str _ _ _,?_⟩
 have fin:∀ (t':Tok) (k:Nat),EP X pins σ Q (.str (Txt.slice z lo hi) t') { s with toks:=k }:=fun t' k=>⟨.str _,H,I.tok _,⟨_,rfl⟩,q⟩
 cases pl with
 | none=>
  cases pu with
  | none=>exact wpAny_getItem_str_slice (l:=none) (u:=none) (st:=none) ⟨os,hos,hcs,hds⟩ rfl (post_val_or_str ⟨Nat.le_trans (Txt.slice_le z _ _) hz,fin⟩)
  | int j uj=>exact wpAny_getItem_str_slice (l:=none) (u:=some (j,uj)) (st:=none) ⟨os,hos,hcs,hds⟩ rfl (post_val_or_str ⟨Nat.le_trans (Txt.slice_le z _ _) hz,fin⟩)
 | int i ui=>
  cases pu with
  | none=>exact wpAny_getItem_str_slice (l:=some (i,ui)) (u:=none) (st:=none) ⟨os,hos,hcs,hds⟩ rfl (post_val_or_str ⟨Nat.le_trans (Txt.slice_le z _ _) hz,fin⟩)
  | int j uj=>exact wpAny_getItem_str_slice (l:=some (i,ui)) (u:=some (j,uj)) (st:=none) ⟨os,hos,hcs,hds⟩ rfl (post_val_or_str ⟨Nat.le_trans (Txt.slice_le z _ _) hz,fin⟩)
theorem sl_U:SlR X (fun x lo hi H Q=>rSlL X.K x lo hi H Q\/(rSlT X.K x lo hi H Q\/(rSlW X.K x lo hi H Q\/rSlS x lo hi H Q))):=sl_list.or (sl_tup.or (sl_tupW.or sl_str))
end
structure Df (K:PySem.W.Frag) (mg:Str->Option Value) (x:Str) (st:Stmt) (f:Addr) (fd:FuncData) (ps:List Str):Prop where
 fn:Fun K x x st f fd
 b:Binds K fd ps []
 mg:mg x=some (.ref f)
theorem Df.kp {K:PySem.W.Frag}{mg:Str->Option Value}{x:Str}{st:Stmt}{f:Addr}{fd:FuncData}{ps:List Str} (D:Df K mg x st f fd ps):PySem.W.keepIn K (.ref f)=true:=D.fn.kp
end L2
namespace L2
open PySem
theorem bt_len:bootBuiltins "len"=some (.builtin "len"):=by decide +kernel
theorem bt_isinstance:bootBuiltins "isinstance"=some (.builtin "isinstance"):=by decide +kernel
theorem bt_sorted:bootBuiltins "sorted"=some (.builtin "sorted"):=by decide +kernel
theorem bt_int:bootBuiltins "int"=some (.type "int"):=by decide +kernel
theorem bt_tuple:bootBuiltins "tuple"=some (.type "tuple"):=by decide +kernel
theorem bt_bool:bootBuiltins "bool"=some (.type "bool"):=by decide +kernel
theorem bt_str:bootBuiltins "str"=some (.type "str"):=by decide +kernel
theorem bt_list:bootBuiltins "list"=some (.type "list"):=by decide +kernel
end L2
end
section
namespace L2
open PySem
def lcChk (sc:Scope) (N:List Str) (scope:Scope) (fr:List (Str×Nat)):Bool:=
 (scope.kind == .function) && scope.names.all (fun y=>decide (y.2≠.cell)) && scope.names.all (fun y=>decide (y.2=.local->scope.names.lookup y.1=some .local)) &&
  scope.names.all (fun y=>decide (y.2=.free->sc.names.lookup y.1=some .cell)) && fr.all (fun p=>decide (N[p.2]?=some p.1) && decide (scope.names.lookup p.1=some .free))
theorem LcOk.of {X:Cx}{sc:Scope}{N:List Str}{scope:Scope}{Nt:List Str}{fr:List (Str×Nat)} (h1:X.env.scope=sc) (h2:X.N=N) (h:lcChk sc N scope fr=true):LcOk X scope Nt fr:=by
 unfold lcChk at h
 simp only[Bool.and_eq_true,List.all_eq_true,decide_eq_true_eq]at h
 obtain⟨⟨⟨⟨a1,a2⟩,a3⟩,a4⟩,a5⟩:=h
 refine⟨eq_of_beq a1,a2,a3,fun y hy hf=>?_,fun p hp=>?_⟩
 ·show X.env.scope.names.lookup y.1=some .cell
  rw[h1];exact a4 y hy hf
 ·rw[h2];exact a5 p hp
end L2
end
section
namespace L2
open PySem PySem.Spec PyProof.Rows
def notStar:Expr->Bool
 | .Starred _ _=>false
 | _=>true
def noStars:List Expr->Bool
 | []=>true
 | e::es=>notStar e && noStars es
theorem star_cons {env:Env}{e:Expr}{es:List Expr} (h:notStar e=true):starEach (e::es) env=(false,eval e env)::starEach es env:=by
 cases e <;> first | rfl | exact absurd h Bool.false_ne_true
theorem stars_any {env:Env}{pos:Pos}:∀ {es:List Expr},noStars es=true->(backTo pos (starEach es env)).any (·.1)=false
 | [],_=>rfl
 | e::es,h=>by
  have h':(notStar e && noStars es)=true:=h
  rw[Bool.and_eq_true]at h'
  rw[star_cons h'.1]
  show (false || (backTo pos (starEach es env)).any (·.1))=false
  rw[stars_any h'.2];rfl
section
variable {X:Cx}
theorem qa_cons {e:Expr}{es:List Expr}{te:TE}{t:TA} (ha:PE X e te) (hr:PA X es t) (hs:notStar e=true:=by rfl):PA X (e::es) (tCons te t):=pa_cons ha hr (star_cons hs)
def constV:Expr->Option V
 | .Constant (.int i) _ _=>some (.int i)
 | .Constant (.str x) _ _=>some (.str x)
 | .Constant (.bool b) _ _=>some (.bl b)
 | _=>none
def constVs:List Expr->Option (List V)
 | []=>some []
 | e::es=>match constV e,constVs es with
  | some v,some vs=>some (v::vs)
  | _,_=>none
theorem pe_const {e:Expr}{v:V} (h:constV e=some v):PE X e (tC v):=by
 unfold constV at h
 split at h
 ·cases h;exact pe_int
 ·cases h;exact pe_str
 ·cases h;exact pe_bl
 ·cases h
theorem constV_ns {e:Expr}{v:V} (h:constV e=some v):notStar e=true:=by
 cases e <;> first | rfl | (unfold constV at h;cases h)
def tVs (vs:List V):TA:=fun _ H Q=>Q vs H
theorem pa_consts:∀ {es:List Expr}{vs:List V},constVs es=some vs->PA X es (tVs vs)
 | [],vs,h=>by cases h;exact pa_nil
 | e::es,vs,h=>by
  unfold constVs at h
  cases h1:constV e with
  | none=>rw[h1]at h;cases h
  | some v=>
   cases h2:constVs es with
   | none=>rw[h1,h2]at h;cases h
   | some us=>
    rw[h1,h2]at h
    cases h
    exact pa_cons (pe_const h1) (pa_consts h2) (star_cons (constV_ns h1))
theorem qe_call {CX:CXT}{k:Nat}{f:Addr}{fd:FuncData}{ps:List Str}{sp:Sp}{dvs:List V}{ds:List Value}{E:XK}{x:Str}{p pos:Pos}{e:Expr}{es:List Expr}{t:TA}
  (F:FnOk X.prog X.w X.K X.mg X.base CX k f fd ps sp) (hr:Room k X.A) (hg:Gl X x) (hm:X.mg x=some (.ref f)) (hk:PySem.W.keepIn X.K (.ref f)=true) (hb:Binds X.K fd ps ds) (hd:Vals dvs ds) (hx:Passes CX X E)
  (ha:PA X (e::es) t) (hs:noStars (e::es)=true:=by rfl) (hdb:(x == ("__debug__" : Str))=false:=by decide):PE X (.Call (.Name x p) (e::es) [] pos) (tCall sp dvs E t):=by
 have h':(notStar e && noStars es)=true:=hs
 rw[Bool.and_eq_true]at h'
 exact pe_call F hr hg hm hk hb hd hx ha hdb (star_cons h'.1) (stars_any h'.2)
theorem qe_callV {CX:CXT}{k i:Nat}{f:Addr}{fd:FuncData}{ps:List Str}{sp:Sp}{dvs:List V}{ds:List Value}{E:XK}{x:Str}{p pos:Pos}{e:Expr}{es:List Expr}{t:TA}
  (F:FnOk X.prog X.w X.K X.mg X.base CX k f fd ps sp) (hr:Room k X.A) (hN:X.N[i]?=some x) (hv:Vis X.env.scope x) (hk:PySem.W.keepIn X.K (.ref f)=true) (hb:Binds X.K fd ps ds) (hd:Vals dvs ds) (hx:Passes CX X E)
  (ha:PA X (e::es) t) (hs:noStars (e::es)=true:=by rfl) (hdb:(x == ("__debug__" : Str))=false:=by decide) (hcd:(x == ("__classdict__" : Str))=false:=by decide) :
  PE X (.Call (.Name x p) (e::es) [] pos) (fun σ H Q=>σ[i]?=some (some (.ref f))/\tCall sp dvs E t σ H Q):=by
 have h':(notStar e && noStars es)=true:=hs
 rw[Bool.and_eq_true]at h'
 exact pe_callV F hr hN hv hk hb hd hx ha hdb hcd (star_cons h'.1) (stars_any h'.2)
theorem qe_callB {x:Str}{p pos:Pos}{e:Expr}{es:List Expr}{t:TA}{id:String}{r:List V->Hp->VK->Prop} (hc:CallR X (.builtin id) r) (hg:Gl X x) (hm:X.mg x=none) (hv:bootBuiltins x=some (.builtin id)) (ha:PA X (e::es) t)
  (hs:noStars (e::es)=true:=by rfl) (hn:x≠"__name__":=by decide) (hdb:(x == ("__debug__" : Str))=false:=by decide):PE X (.Call (.Name x p) (e::es) [] pos) (tCB r t):=by
 have h':(notStar e && noStars es)=true:=hs
 rw[Bool.and_eq_true]at h'
 exact pe_callB hc hg hm hv ha hn hdb (star_cons h'.1) (stars_any h'.2)
theorem qe_callTy {x:Str}{p pos:Pos}{e:Expr}{es:List Expr}{t:TA}{T:String}{r:List V->Hp->VK->Prop} (hc:CallR X (.type T) r) (hg:Gl X x) (hm:X.mg x=none) (hv:bootBuiltins x=some (.type T)) (ha:PA X (e::es) t)
  (hs:noStars (e::es)=true:=by rfl) (hn:x≠"__name__":=by decide) (hdb:(x == ("__debug__" : Str))=false:=by decide):PE X (.Call (.Name x p) (e::es) [] pos) (tCB r t):=by
 have h':(notStar e && noStars es)=true:=hs
 rw[Bool.and_eq_true]at h'
 exact pe_callTy hc hg hm hv ha hn hdb (star_cons h'.1) (stars_any h'.2)
theorem qi_range1 {tg a:Expr}{ta:TA}{p pos:Pos} (hg:Gl X "range") (hm:X.mg "range"=none) (ha:PA X [a] ta) (hs:notStar a=true:=by rfl):PI X tg (.Call (.Name "range" p) [a] [] pos) (iRng1 ta):=
 pi_range1 hg hm ha (by rw[star_cons hs];rfl)
theorem qi_zip {a b:Expr}{ta:TA}{elts:List Expr}{kk:Nat}{tp p pos:Pos} (hg:Gl X "zip") (hm:X.mg "zip"=none) (ha:PA X [a,b] ta) (hs:notStar a=true:=by rfl) (hs2:notStar b=true:=by rfl) :
  PI X (.Tuple elts kk tp) (.Call (.Name "zip" p) [a,b] [] pos) (iZip X.K ta):=
 pi_zip hg hm ha (by rw[star_cons hs,star_cons hs2];rfl) (by rw[star_cons hs2];rfl)
end
end L2
end
section
namespace L2
open PySem PySem.Spec PyProof.Rows
theorem relv_ref (a:Addr):RelV (.ref a) (.ref a):=rfl
theorem relv_int (i:Int) (t:Tok):RelV (.int i) (.int i t):=⟨t,rfl⟩
theorem relv_ty (n:String):RelV (.ty n) (.type n):=rfl
structure Hd (p:Prop):Prop where
 out:p
section
variable {X:Cx}{pos:Pos}{a b c e o:Expr}{es:List Expr}{ta tb tc te to:TE}{t u:TS}{tt tu:TT}{tA:TA}{st:Stmt}{rest:List Stmt}
theorem wv (i:Nat) {x:Str} (hN:X.N[i]?=some x:=by rfl) (hv:Vis X.env.scope x:=by first | exact Or.inl rfl | exact Or.inr (Or.inl rfl) | exact Or.inr (Or.inr rfl)) (hd:(x == ("__debug__" : Str))=false:=by decide)
  (hcd:(x == ("__classdict__" : Str))=false:=by decide):Hd (PE X (.Name x pos) (tVar i)):=⟨pe_var hN hv hd hcd⟩
theorem we_int {i j pos}:Hd (PE X (.Constant (.int i) j pos) (tC (.int i))):=⟨pe_int⟩
theorem we_str {x j pos}:Hd (PE X (.Constant (.str x) j pos) (tC (.str x))):=⟨pe_str⟩
theorem we_bl {x j pos}:Hd (PE X (.Constant (.bool x) j pos) (tC (.bl x))):=⟨pe_bl⟩
theorem we_non {j pos}:Hd (PE X (.Constant .none j pos) (tC .non)):=⟨pe_non⟩
theorem we_glob {x:Str}{v:V}{y:Value} (hg:Gl X x) (hm:X.mg x=some y) (r:RelV v y) (hd:(x == ("__debug__" : Str))=false:=by decide):Hd (PE X (.Name x pos) (tC v)):=⟨pe_glob hg hm r hd⟩
theorem we_bltn {x:Str}{v:V}{y:Value} (hg:Gl X x) (hm:X.mg x=none) (hv:bootBuiltins x=some y) (r:RelV v y) (hn:x≠"__name__":=by decide) (hd:(x == ("__debug__" : Str))=false:=by decide):Hd (PE X (.Name x pos) (tC v)):=⟨pe_bltn hg hm hv r hn hd⟩
theorem we_op {op:Operator}{r:R2} (ho:OpR X (binaryOp op) r) (ha:Hd (PE X a ta)) (hb:Hd (PE X b tb)):Hd (PE X (.BinOp a op b pos) (tOp r ta tb)):=⟨pe_op ho ha.out hb.out⟩
theorem we_un {op:UnaryOp}{r:V->Hp->VK->Prop} (ho:UnR X (unaryOp op) r) (ha:Hd (PE X a ta)):Hd (PE X (.UnaryOp op a pos) (tUn r ta)):=⟨pe_un ho ha.out⟩
theorem we_not (ha:Hd (PE X a ta)):Hd (PE X (.UnaryOp .Not a pos) (tNotV ta)):=⟨pe_not ha.out⟩
theorem we_cmpR {op:CmpOp}{r:R2} (ho:OpR X (compareOp op) r) (ha:Hd (PE X a ta)) (hb:Hd (PE X b tb)) (hm:behindInMarks op b=false):Hd (PE X (.Compare a [op] [b] pos) (tOp r ta tb)):=⟨pe_cmpR ho ha.out hb.out hm⟩
theorem we_one {op} (h:Hd (PE X a ta)):Hd (PE X (.BoolOp op [a] pos) ta):=⟨pe_one h.out⟩
theorem we_and {more:List Expr} (ha:Hd (PE X a ta)) (hb:Hd (PE X (.BoolOp .And (b::more) pos) tb)):Hd (PE X (.BoolOp .And (a::b::more) pos) (tAndV ta tb)):=⟨pe_and ha.out hb.out⟩
theorem we_ifExp (hc:Hd (PT X c tt)) (ha:Hd (PE X a ta)) (hb:Hd (PE X b tb)):Hd (PE X (.IfExp c a b pos) (tIf tt ta tb)):=⟨pe_ifExp hc.out ha.out hb.out⟩
theorem we_lst (h:Hd (PA X es tA)):Hd (PE X (.List es pos) (tLst tA)):=⟨pe_lst h.out⟩
theorem we_tup {x1} (h:Hd (PA X es tA)):Hd (PE X (.Tuple es x1 pos) (tTup tA)):=⟨pe_tup h.out⟩
theorem we_dnewK:Hd (PE X (.Dict [] [] pos) tDNewK):=⟨pe_dnewK⟩
theorem wps_nil:Hd (PPs X pos [] [] []):=⟨pps_nil⟩
theorem wps_cons {k v:Expr}{ks:List (Option Expr)}{vs:List Expr}{tk tv:TE}{trs:List (TE×TE)} (hk:Hd (PE X k tk)) (hv:Hd (PE X v tv)) (hr:Hd (PPs X pos ks vs trs)):Hd (PPs X pos (some k::ks) (v::vs) ((tk,tv)::trs)):=⟨pps_cons hk.out hv.out hr.out⟩
theorem we_disp {keys:List (Option Expr)}{values:List Expr}{trs:List (TE×TE)} (h:Hd (PPs X pos keys values trs)) (hall:keys.all (·.isSome)=true) (hl:keys.length=values.length) (h0:keys≠[]) (h15:keys.length<=15) :
  Hd (PE X (.Dict keys values pos) (tDisp trs)):=⟨pe_disp h.out hall hl h0 h15⟩
theorem we_rev {k:Nat}{p2 p3 p4:Pos} (he:Hd (PE X e te)):Hd (PE X (.Subscript e (.Slice none none (some (.UnaryOp .USub (.Constant (.int 1) k p3) p4)) p2) pos) (tRev X.K te)):=⟨pe_rev he.out⟩
theorem wo_none:Hd (PO X none tNoPart):=⟨po_none⟩
theorem wo_some (h:Hd (PE X e te)):Hd (PO X (some e) (tPart te)):=⟨po_some h.out⟩
theorem we_slice {r:V->Option Int->Option Int->Hp->VK->Prop}{lo hi:Option Expr}{tl th:TO}{p2:Pos} (hr:SlR X r) (he:Hd (PE X e te)) (hl:Hd (PO X lo tl)) (hu:Hd (PO X hi th)):Hd (PE X (.Subscript e (.Slice lo hi none p2) pos) (tSl r te tl th)):=⟨pe_slice hr he.out hl.out hu.out⟩
theorem we_ix {r:R2} (hr:IxR X r) (ha:Hd (PE X a ta)) (hb:Hd (PE X b tb)) (hs:PlainIx b):Hd (PE X (.Subscript a b pos) (tOp r ta tb)):=⟨pe_ix hr ha.out hb.out hs⟩
theorem wa_nil:Hd (PA X [] tNil):=⟨pa_nil⟩
theorem wa_cons (ha:Hd (PE X e te)) (hr:Hd (PA X es tA)) (hs:notStar e=true:=by rfl):Hd (PA X (e::es) (tCons te tA)):=⟨qa_cons ha.out hr.out hs⟩
theorem wa_consts {vs:List V} (h:constVs es=some vs):Hd (PA X es (tVs vs)):=⟨pa_consts h⟩
theorem we_call {CX:CXT}{k:Nat}{f:Addr}{fd:FuncData}{ps:List Str}{sp:Sp}{dvs:List V}{ds:List Value}{E:XK}{x:Str}{p:Pos}
  (F:FnOk X.prog X.w X.K X.mg X.base CX k f fd ps sp) (hr:Room k X.A) (hg:Gl X x) (hm:X.mg x=some (.ref f)) (hk:PySem.W.keepIn X.K (.ref f)=true) (hb:Binds X.K fd ps ds) (hd:Vals dvs ds) (hx:Passes CX X E)
  (ha:Hd (PA X (e::es) tA)) (hs:noStars (e::es)=true:=by rfl) (hdb:(x == ("__debug__" : Str))=false:=by decide):Hd (PE X (.Call (.Name x p) (e::es) [] pos) (tCall sp dvs E tA)):=⟨qe_call F hr hg hm hk hb hd hx ha.out hs hdb⟩
theorem we_callV {CX:CXT}{k i:Nat}{f:Addr}{fd:FuncData}{ps:List Str}{sp:Sp}{dvs:List V}{ds:List Value}{E:XK}{x:Str}{p:Pos}
  (F:FnOk X.prog X.w X.K X.mg X.base CX k f fd ps sp) (hr:Room k X.A) (hN:X.N[i]?=some x) (hv:Vis X.env.scope x) (hk:PySem.W.keepIn X.K (.ref f)=true) (hb:Binds X.K fd ps ds) (hd:Vals dvs ds) (hx:Passes CX X E)
  (ha:Hd (PA X (e::es) tA)) (hs:noStars (e::es)=true:=by rfl) (hdb:(x == ("__debug__" : Str))=false:=by decide) (hcd:(x == ("__classdict__" : Str))=false:=by decide) :
  Hd (PE X (.Call (.Name x p) (e::es) [] pos) (fun σ H Q=>σ[i]?=some (some (.ref f))/\tCall sp dvs E tA σ H Q)):=⟨qe_callV F hr hN hv hk hb hd hx ha.out hs hdb hcd⟩
theorem we_callB {x:Str}{p:Pos}{id:String}{r:List V->Hp->VK->Prop} (hc:CallR X (.builtin id) r) (hg:Gl X x) (hm:X.mg x=none) (hv:bootBuiltins x=some (.builtin id)) (ha:Hd (PA X (e::es) tA))
  (hs:noStars (e::es)=true:=by rfl) (hn:x≠"__name__":=by decide) (hdb:(x == ("__debug__" : Str))=false:=by decide):Hd (PE X (.Call (.Name x p) (e::es) [] pos) (tCB r tA)):=⟨qe_callB hc hg hm hv ha.out hs hn hdb⟩
theorem we_callTy {x:Str}{p:Pos}{T:String}{r:List V->Hp->VK->Prop} (hc:CallR X (.type T) r) (hg:Gl X x) (hm:X.mg x=none) (hv:bootBuiltins x=some (.type T)) (ha:Hd (PA X (e::es) tA))
  (hs:noStars (e::es)=true:=by rfl) (hn:x≠"__name__":=by decide) (hdb:(x == ("__debug__" : Str))=false:=by decide):Hd (PE X (.Call (.Name x p) (e::es) [] pos) (tCB r tA)):=⟨qe_callTy hc hg hm hv ha.out hs hn hdb⟩
theorem we_bm0 {name:Str}{apos cpos:Pos}{T id:String}{r:V->List V->Hp->VK->Prop} (pa:PlainAttrs T) (slot:Slot T name id) (hty:typeOf (.builtin id)=pure (.type "method_descriptor")) (hm:MtR X id r) (ho:Hd (PE X o to))
  (hbase:attributeBase o name X.env (eval o X.env)=eval o X.env:=by rfl) (hline:(apos.endLine == cpos.line)=true:=by rfl):Hd (PE X (.Call (.Attribute o name apos) [] [] cpos) (tBM0 X.K T r to)):=⟨pe_bm0 pa slot hty hm ho.out hbase hline⟩
theorem few_of {env:Env}{cpos:Pos}{es:List Expr} (h:noStars es=true) (hl:es.length<29) :
  ((backTo cpos (starEach es env)).all (fun x=>!x.1) && (backToKw cpos (keywordEach [] env)).all (fun x=>x.1.isSome)
   && decide (es.length+([]:List Keyword).length+(if ([]:List Keyword).isEmpty then 0 else 1)<30))=true:=by
 have h1:(backTo cpos (starEach es env)).all (fun x=>!x.1)=true:=by
  have:=stars_any (env:=env) (pos:=cpos) h
  rw[List.all_eq_not_any_not]
  simpa using this
 have h2:(backToKw cpos (keywordEach [] env)).all (fun x=>x.1.isSome)=true:=rfl
 rw[h1,h2]
 simp
 lia
theorem we_bm {name:Str}{apos cpos:Pos}{T id:String}{r:V->List V->Hp->VK->Prop} (pa:PlainAttrs T) (slot:Slot T name id) (hty:typeOf (.builtin id)=pure (.type "method_descriptor")) (hm:MtR X id r) (ho:Hd (PE X o to)) (ha:Hd (PA X (e::es) tA))
  (hbase:attributeBase o name X.env (eval o X.env)=eval o X.env:=by rfl) (hs:noStars (e::es)=true:=by rfl) (hl:(e::es).length<29:=by decide) (hline:(apos.endLine == cpos.line)=true:=by rfl) :
  Hd (PE X (.Call (.Attribute o name apos) (e::es) [] cpos) (tBM X.K T r to tA)):=by
 have h':(notStar e && noStars es)=true:=hs
 rw[Bool.and_eq_true]at h'
 exact⟨pe_bm pa slot hty hm ho.out ha.out hbase (few_of hs hl) hline (star_cons h'.1) (stars_any h'.2)⟩
theorem wt_cmpR {op:CmpOp}{r:R2} (ho:OpR X (compareOp op) r) (ha:Hd (PE X a ta)) (hb:Hd (PE X b tb)) (hm:behindInMarks op b=false):Hd (PT X (.Compare a [op] [b] pos) (tTest (tOp r ta tb))):=⟨pt_cmpR ho ha.out hb.out hm⟩
theorem ww_and1 (ha:Hd (PT X a tt)):Hd (PW X (.BoolOp .And [a] pos) tt):=⟨pw_and1 ha.out⟩
theorem ww_or1 (ha:Hd (PT X a tt)):Hd (PW X (.BoolOp .Or [a] pos) tt):=⟨pw_or1 ha.out⟩
theorem ww_and {more:List Expr} (ha:Hd (PT X a tt)) (hb:Hd (PW X (.BoolOp .And (b::more) pos) tu)):Hd (PW X (.BoolOp .And (a::b::more) pos) (tAnd tt tu)):=⟨pw_and ha.out hb.out⟩
theorem ww_or {more:List Expr} (ha:Hd (PT X a tt)) (hb:Hd (PW X (.BoolOp .Or (b::more) pos) tu)):Hd (PW X (.BoolOp .Or (a::b::more) pos) (tOr tt tu)):=⟨pw_or ha.out hb.out⟩
theorem wt_pw (h:Hd (PW X e tt)):Hd (PT X e tt):=⟨h.out.pt⟩
theorem wt_not (ha:Hd (PT X a tt)):Hd (PT X (.UnaryOp .Not a pos) (tNot tt)):=⟨pt_not ha.out⟩
theorem wt_val (h:Hd (PE X e te)) (he:∀ whole,isTrue e X.env whole=(do let v <- whole;standAt e.pos;holding [v] (truthy v)):=by intro _;rfl):Hd (PT X e (tB te)):=⟨pt_val h.out he⟩
theorem wt_truth (ha:Hd (PE X a ta)) (he:∀ whole,isTrue a X.env whole=(do let v <- whole;standAt a.pos;holding [v] (truthy v))):Hd (PT X a (fun σ H Q=>ta σ H fun x H'=>∃ k,TruV X.K x H' k/\Q k H')):=⟨pt_truth ha.out he⟩
variable {tg iter:Expr}{wi:TI}{g:TG}
theorem wi_range1 {p:Pos} (hg:Gl X "range") (hm:X.mg "range"=none) (ha:Hd (PA X [a] tA)) (hs:notStar a=true:=by rfl):Hd (PI X tg (.Call (.Name "range" p) [a] [] pos) (iRng1 tA)):=⟨qi_range1 hg hm ha.out hs⟩
theorem wi_zip {elts:List Expr}{kk:Nat}{tp p:Pos} (hg:Gl X "zip") (hm:X.mg "zip"=none) (ha:Hd (PA X [a,b] tA)) (hs:notStar a=true:=by rfl) (hs2:notStar b=true:=by rfl):Hd (PI X (.Tuple elts kk tp) (.Call (.Name "zip" p) [a,b] [] pos) (iZip X.K tA)):=⟨qi_zip hg hm ha.out hs hs2⟩
theorem wi_U (hl:Hd (PE X e te)):Hd (PI X tg e (fun σ H R=>iList X.K te σ H R\/iTup X.K te σ H R)):=⟨pi_U hl.out⟩
theorem wg_name {i:Nat}{x:Str} (hN:X.N.Nodup) (hi:X.N[i]?=some x) (hx:Loc X.env.scope x) (hf:X.fn x=true\/X.env.scope.names.lookup x=some .local:=by first | exact .inl rfl | exact .inr rfl | assumption):Hd (PG X (.Name x pos) (gName i)):=⟨pg_name hN hi hx hf⟩
theorem wgs_nil:Hd (PGs X [] gNil):=⟨pgs_nil⟩
theorem wgs_cons {gs:TGs} (h1:Hd (PG X e g)) (h2:Hd (PGs X es gs)) (hs:(assignEach (e::es) X.env).map (·.2)=assign e X.env::(assignEach es X.env).map (·.2):=by rfl):Hd (PGs X (e::es) (gCons g gs)):=⟨pgs_cons h1.out h2.out hs⟩
theorem wg_tup {k n:Nat}{gs:TGs} (hc:X.calm=true) (h:Hd (PGs X es gs)) (hn:(assignEach es X.env).length=n:=by rfl) (hst:(assignEach es X.env).findIdx? (·.1)=none:=by rfl):Hd (PG X (.Tuple es k pos) (gTup X.K n gs)):=⟨pg_tup hc h.out hn hst⟩
theorem wg_sub {i:Expr}{ti:TE}{ts:TSet} (ho:Hd (PE X o to)) (hi:Hd (PE X i ti)) (hs:PSet X ts)
  (ha:∀ v,assign (.Subscript o i pos) X.env v=(do
   let ov <- holding [v] (eval o X.env)
   let iv <- holding [v,ov] (eval i X.env)
   standAt pos
   holding [v,ov,iv] (setItem ov iv v)
   release [v,ov,iv] []):=by intro _;rfl):Hd (PG X (.Subscript o i pos) (gSub to ti ts)):=⟨pg_sub ho.out hi.out hs ha⟩
theorem wss_nil:Hd (PSs X [] tNext):=⟨pss_nil⟩
theorem wss_one (h1:Hd (PS X st t)):Hd (PSs X [st] t):=⟨pss_one h1.out⟩
theorem wss_cons (h1:Hd (PS X st t)) (h2:Hd (PSs X rest u)):Hd (PSs X (st::rest) (tSeq t u)):=⟨pss_cons h1.out h2.out⟩
theorem ws_ret (he:Hd (PE X e te)):Hd (PS X (.Return (some e) pos) (tRet te)):=⟨ps_ret he.out⟩
theorem ws_if {sa sb:List Stmt} (hc:Hd (PT X c tt)) (ha:Hd (PSs X sa t)) (hb:Hd (PSs X sb u)):Hd (PS X (.If c sa sb pos) (tIfS tt t u)):=⟨ps_if hc.out ha.out hb.out⟩
theorem ws_expr (he:Hd (PE X e te)) (hs:swapsWith e none pos.line X.env=pure false:=by rfl):Hd (PS X (.Expr e pos) (tDrop te)):=⟨ps_expr he.out hs⟩
theorem ws_set {i:Nat}{x:Str}{pos':Pos} (hN:X.N.Nodup) (hi:X.N[i]?=some x) (hx:Loc X.env.scope x) (he:Hd (PE X e te)) (hs:swapsWith e (some (.Name x pos')) pos.line X.env=pure false:=by rfl) (hf:X.fn x=true\/X.env.scope.names.lookup x=some .local:=by first | exact .inl rfl | exact .inr rfl | assumption) :
  Hd (PS X (.Assign [.Name x pos'] e pos) (tAsg te (gName i))):=⟨ps_set hN hi hx he.out hs hf⟩
theorem ws_asg (he:Hd (PE X e te)) (hg:Hd (PG X tg g)) (hs:swapsWithSole [tg] e pos.line X.env=pure false:=by rfl) (hw:swappedStores [tg] e X.env=pure none:=by rfl) (h1:(assignEach [tg] X.env).map (·.2)=[assign tg X.env]:=by rfl) :
  Hd (PS X (.Assign [tg] e pos) (tAsg te g)):=⟨ps_asg he.out hg.out hs hw h1⟩
theorem ws_for {body:List Stmt} (hp:PassesOwn (model X.prog X.w) X.A X.env X.xe) (hc:X.calm=true) (hi:Hd (PI X tg iter wi)) (hg:Hd (PG X tg g)) (hb:Hd (PSs X body t)) (hs:∀ x,foldedSetIterable iter X.env x=pure x:=by intro _;rfl):Hd (PS X (.For tg iter body [] pos) (tFor wi g t)):=⟨ps_for hp hc hi.out hg.out hb.out hs⟩
theorem ws_while {body:List Stmt} (hp:PassesOwn (model X.prog X.w) X.A X.env X.xe) (hc:Hd (PT X c tt)) (hb:Hd (PSs X body t)):Hd (PS X (.While c body [] pos) (tWhile tt t)):=⟨ps_while hp hc.out hb.out⟩
variable {ifs:List Expr}{scope:Scope}{Nt:List Str}{fr:List (Str×Nat)}{gz:ZC->TG}{tz:ZC->TT}{ez:ZC->TE}
theorem wif_nil:Hd (PIfs X [] tAll):=⟨pif_nil⟩
theorem wif_one (h:Hd (PT X c tt)):Hd (PIfs X [c] tt):=⟨pif_one h.out⟩
theorem we_lc (L:LcOk X scope Nt fr) (hcalm:X.calm=true) (hi:Hd (PI X tg iter wi)) (hg:∀ z,Hd (PG (cxC X scope (Nt++fr.map (·.1)) z) tg (gz z))) (hgt:∀ z,Tgt Nt.length (gz z))
  (hc:∀ z,Hd (PIfs (cxC X scope (Nt++fr.map (·.1)) z) ifs (tz z))) (he:∀ z,Hd (PE (cxC X scope (Nt++fr.map (·.1)) z) e (ez z))) (hs:∀ x,foldedSetIterable iter X.env x=pure x:=by intro _;rfl) :
  Hd (PE X (.ListComp e [⟨tg,iter,ifs,0⟩] scope pos) (tLC wi Nt.length fr gz tz ez)):=⟨pe_lc L hcalm hi.out (fun z=>(hg z).out) hgt (fun z=>(hc z).out) (fun z=>(he z).out) hs⟩
theorem ws_lc {y:Str}{j:Nat}{py spos:Pos} (hN:X.N.Nodup) (hj:X.N[j]?=some y) (hy:Loc X.env.scope y) (L:LcOk X scope Nt fr) (hcalm:X.calm=true) (hi:Hd (PI X tg iter wi)) (hg:∀ z,Hd (PG (cxC X scope (Nt++fr.map (·.1)) z) tg (gz z))) (hgt:∀ z,Tgt Nt.length (gz z))
  (hc:∀ z,Hd (PIfs (cxC X scope (Nt++fr.map (·.1)) z) ifs (tz z))) (he:∀ z,Hd (PE (cxC X scope (Nt++fr.map (·.1)) z) e (ez z))) (hs:∀ x,foldedSetIterable iter X.env x=pure x:=by intro _;rfl)
  (hsw:swapsWith (.ListComp e [⟨tg,iter,ifs,0⟩] scope pos) (some (.Name y py)) spos.line X.env=pure true:=by rfl)
  (hff:X.fn y=true\/X.env.scope.names.lookup y=some .local:=by first | exact .inl rfl | exact .inr rfl | assumption) :
  Hd (PS X (.Assign [.Name y py] (.ListComp e [⟨tg,iter,ifs,0⟩] scope pos) spos) (tLCset wi Nt.length fr gz tz ez j)):=⟨ps_lc L hcalm hN hj hy hi.out (fun z=>(hg z).out) hgt (fun z=>(hc z).out) (fun z=>(he z).out) hs hsw hff⟩
end
section
variable {P:Program}{w:World}{K:PySem.W.Frag}{mg:Str->Option Value}{base:Heap}
theorem Fun.okH {x qual:Str}{st:Stmt}{f:Addr}{fd:FuncData}{N ps:List Str}{k:Nat}{sp:Sp} (F:Fun K x qual st f fd) (S:FnScope N ps (defScope st)) (len:∀ vs H Q E,sp vs H Q E->vs.length=ps.length)
  (hbody:∀ (cdv:Value) (A:Around) (outer:List Env) (s:Shared) (H:Hp) (vs:List V) (Q:VK) (E:XK),Room k (A.deeper (envOfC qual (defScope st) s.heap.objs.size f cdv))->sp vs H Q E ->
   ∃ t,Hd (PSs (cxOf CX0 P w K mg base N qual (defScope st) f cdv A outer s H E).nox (defBody st) t)/\t { nx:=fun _ H'=>Q .non H',rt:=Q } (start N vs) H):FnOk P w K mg base CX0 (k+1) f fd ps sp:=
 F.ok S len fun cdv A outer s H vs Q E hr h=>let ⟨t,h1,h2⟩:=hbody cdv A outer s H vs Q E hr h;⟨t,h1.out,h2⟩
end
end L2
end
section
namespace Kn
open PySem PySem.W PyProof.Rows
def krun {α:Type} (lt:Nat->Nat->Bool):KasT α->α
 | .ret a=>a
 | .ask i j k=>krun lt (k (lt i j))
theorem krun_bind {α β:Type} (lt:Nat->Nat->Bool) (f:α->KasT β):∀ t:KasT α,krun lt (t.bind f)=krun lt (f (krun lt t))
 | .ret _=>rfl
 | .ask i j k=>krun_bind lt f (k (lt i j))
section
variable (r:Nat->Nat)
def qlt (i j:Nat):Bool:=decide (r i<r j)
def kat (p:Array Nat) (i:Nat):Nat:=r (p.getD i 0)
def Srt (p:Array Nat) (m:Nat):Prop:=∀ i j,i<j->j<m->kat r p i<kat r p j
def Dsc (p:Array Nat) (m:Nat):Prop:=∀ i j,i<j->j<m->kat r p j<kat r p i
def Inj (p:Array Nat):Prop:=∀ i j,i<p.size->j<p.size->i≠j->kat r p i≠kat r p j
variable {r}
theorem kat_eq {p q:Array Nat}{i j:Nat} (h:p[i]?=q[j]?):kat r p i=kat r q j:=by
 unfold kat
 rw[Array.getD_eq_getD_getElem?,Array.getD_eq_getD_getElem?,h]
theorem Srt.up {p:Array Nat}{n:Nat} (h1:1<=n) (h:Srt r p n) (hn:kat r p (n-1)<kat r p n):Srt r p (n+1):=fun i j hij hj=>by
 by_cases e:j=n
 ·subst e
  by_cases e2:i=j-1
  ·rw[e2];exact hn
  ·exact Nat.lt_trans (h i (j-1) (by lia) (by lia)) hn
 ·exact h i j hij (by lia)
theorem Dsc.up {p:Array Nat}{n:Nat} (h1:1<=n) (h:Dsc r p n) (hn:kat r p n<kat r p (n-1)):Dsc r p (n+1):=fun i j hij hj=>by
 by_cases e:j=n
 ·subst e
  by_cases e2:i=j-1
  ·rw[e2];exact hn
  ·exact Nat.lt_trans hn (h i (j-1) (by lia) (by lia))
 ·exact h i j hij (by lia)
theorem asc_run {p:Array Nat} (hI:Inj r p):∀ (f n:Nat),1<=n->n+f<=p.size->Srt r p n ->
  ∃ m,krun (qlt r) (kas_asc p f n)=m/\n<=m/\m<=n+f/\Srt r p m/\(m<n+f->kat r p m<kat r p (m-1))
 | 0,n,_,_,h=>⟨n,rfl,Nat.le_refl _,Nat.le_refl _,h,fun z=>absurd z (Nat.lt_irrefl _)⟩
 | f+1,n,h1,hz,h=>by
  rw[kas_asc,krun]
  by_cases c:kat r p n<kat r p (n-1)
  ·have e:qlt r (p.getD n 0) (p.getD (n-1) 0)=true:=decide_eq_true c
   rw[e,if_pos rfl]
   exact⟨n,rfl,Nat.le_refl _,by lia,h,fun _=>c⟩
  ·have e:qlt r (p.getD n 0) (p.getD (n-1) 0)=false:=decide_eq_false c
   rw[e,if_neg (by decide)]
   have lt:kat r p (n-1)<kat r p n:=by
    have:=hI (n-1) n (by lia) (by lia) (by lia)
    lia
   obtain⟨m,e1,e2,e3,e4,e5⟩:=asc_run hI f (n+1) (by lia) (by lia) (h.up h1 lt)
   exact⟨m,e1,by lia,by lia,e4,fun z=>e5 (by lia)⟩
theorem desc_run {p:Array Nat} (hI:Inj r p):∀ (f n:Nat),1<=n->n+f<=p.size->Dsc r p n ->
  ∃ m,krun (qlt r) (kas_desc f p n 0)=(p,m,0)/\n<=m/\m<=n+f/\Dsc r p m
 | 0,n,_,_,h=>⟨n,rfl,Nat.le_refl _,Nat.le_refl _,h⟩
 | f+1,n,h1,hz,h=>by
  rw[kas_desc,krun]
  by_cases c:kat r p n<kat r p (n-1)
  ·have e:qlt r (p.getD n 0) (p.getD (n-1) 0)=true:=decide_eq_true c
   rw[e,if_pos rfl,if_neg (by decide)]
   obtain⟨m,e1,e2,e3,e4⟩:=desc_run hI f (n+1) (by lia) (by lia) (h.up h1 c)
   exact⟨m,e1,by lia,by lia,e4⟩
  ·have e:qlt r (p.getD n 0) (p.getD (n-1) 0)=false:=decide_eq_false c
   rw[e,if_neg (by decide),krun]
   have lt:kat r p (n-1)<kat r p n:=by
    have:=hI (n-1) n (by lia) (by lia) (by lia)
    lia
   have e':qlt r (p.getD (n-1) 0) (p.getD n 0)=true:=decide_eq_true lt
   rw[e',if_pos rfl]
   exact⟨n,rfl,Nat.le_refl _,by lia,h⟩
theorem kat_rev {p:Array Nat}{m:Nat} (hm:m<=p.size) (k:Nat):kat r (kas_rev p 0 m) k=if k<m then kat r p (m-1-k) else kat r p k:=by
 have e:=getElem?_mirror_all (xs:=p) (i:=0) hm k
 unfold kas_rev
 split
 ·rename_i h
  rw[if_pos ⟨Nat.zero_le _,h⟩]at e
  rw[kat_eq e]
  congr 1
  lia
 ·rename_i h
  rw[if_neg (by lia)]at e
  exact kat_eq e
theorem rev_perm (p:Array Nat) (m:Nat):(kas_rev p 0 m).Perm p:=mirror_perm _ _ _ _
theorem rev_size (p:Array Nat) (m:Nat):(kas_rev p 0 m).size=p.size:=mirror_size _ _ _ _
theorem inj_rev {p:Array Nat} (hI:Inj r p) {m:Nat} (hm:m<=p.size):Inj r (kas_rev p 0 m):=fun i j hi hj ne=>by
 rw[rev_size]at hi hj
 rw[kat_rev hm,kat_rev hm]
 split <;> split
 ·exact hI _ _ (by lia) (by lia) (by lia)
 ·exact hI _ _ (by lia) (by lia) (by lia)
 ·exact hI _ _ (by lia) (by lia) (by lia)
 ·exact hI _ _ (by lia) (by lia) ne
theorem srt_rev {p:Array Nat}{m:Nat} (hm:m<=p.size) (h:Dsc r p m):Srt r (kas_rev p 0 m) m:=fun i j hij hj=>by
 rw[kat_rev hm,kat_rev hm,if_pos (by lia),if_pos hj]
 exact h (m-1-j) (m-1-i) (by lia) (by lia)
theorem tail_run {p:Array Nat} (hI:Inj r p) {n:Nat} (h1:1<=n) (hn:n<=p.size) (h:Dsc r p n) :
  ∃ m q,krun (qlt r) (kas_tail3 n p.size p)=(m,q)/\q.Perm p/\Inj r q/\1<=m/\m<=p.size/\Srt r q m:=by
 unfold kas_tail3
 rw[krun_bind]
 obtain⟨m,e1,e2,e3,e4,_⟩:=asc_run (inj_rev hI hn) (p.size-n) n h1 (by rw[rev_size];lia) (srt_rev hn h)
 rw[e1]
 exact⟨m,_,rfl,rev_perm _ _,inj_rev hI hn,by lia,by lia,e4⟩
theorem descPart_run {p:Array Nat} (hI:Inj r p) (hz:2<=p.size) (c:kat r p 1<kat r p 0) :
  ∃ m q,krun (qlt r) (kas_descPart 1 p.size p)=(m,q)/\q.Perm p/\Inj r q/\1<=m/\m<=p.size/\Srt r q m:=by
 unfold kas_descPart
 rw[krun_bind]
 obtain⟨m,e1,e2,e3,e4⟩:=desc_run hI (p.size-(1+1)) (1+1) (by lia) (by lia) (fun i j hij hj=>by
  have:i=0:=by lia
  have:j=1:=by lia
  subst i j
  exact c)
 rw[e1]
 dsimp only
 rw[if_neg (by decide)]
 exact tail_run hI (by lia) (by lia) e4
theorem count_run {p:Array Nat} (hI:Inj r p) (hz:2<=p.size) :
  ∃ m q,krun (qlt r) (kas_count p.size p)=(m,q)/\q.Perm p/\Inj r q/\1<=m/\m<=p.size/\Srt r q m:=by
 unfold kas_count
 rw[krun_bind]
 obtain⟨m,e1,e2,e3,e4,e5⟩:=asc_run hI (p.size-1) 1 (by lia) (by lia) (fun i j hij hj=>by lia)
 rw[e1]
 by_cases a:(m == p.size)=true
 ·rw[if_pos a]
  exact⟨m,p,rfl,.refl _,hI,by lia,by lia,e4⟩
 rw[if_neg a]
 have a':m≠p.size:=by simpa using a
 by_cases b:m > 1
 ·rw[if_pos b,krun]
  have e:qlt r (p.getD 0 0) (p.getD (m-1) 0)=true:=decide_eq_true (e4 0 (m-1) (by lia) (by lia))
  rw[e,if_pos rfl]
  exact⟨m,p,rfl,.refl _,hI,by lia,by lia,e4⟩
 ·rw[if_neg b]
  have em:m=1:=by lia
  subst em
  exact descPart_run hI hz (e5 (by lia))
theorem place_run {p:Array Nat} (hI:Inj r p) {k:Nat} (hk:k<p.size) (hs:Srt r p k):∀ (f l u:Nat),l<=u->u<=k->u<=l+f->(∀ i,i<l->kat r p i<kat r p k)->(∀ i,u<=i->i<k->kat r p k<kat r p i) ->
  ∃ m,krun (qlt r) (kas_place p k f l u)=m/\m<=k/\(∀ i,i<m->kat r p i<kat r p k)/\(∀ i,m<=i->i<k->kat r p k<kat r p i)
 | 0,l,u,h1,h2,h3,a,b=>by
  have e:l=u:=by lia
  subst e
  exact⟨l,rfl,h2,a,b⟩
 | f+1,l,u,h1,h2,h3,a,b=>by
  rw[kas_place]
  by_cases c:l ≥ u
  ·rw[if_pos c]
   have e:l=u:=by lia
   subst e
   exact⟨l,rfl,h2,a,b⟩
  ·rw[if_neg c,krun]
   have hm:(l+u) / 2<k:=by lia
   by_cases d:kat r p k<kat r p ((l+u) / 2)
   ·have e:qlt r (p.getD k 0) (p.getD ((l+u) / 2) 0)=true:=decide_eq_true d
    rw[e,if_pos rfl]
    refine place_run hI hk hs f l ((l+u) / 2) (by lia) (by lia) (by lia) a fun i hi hik=>?_
    by_cases z:i=(l+u) / 2
    ·rw[z];exact d
    ·exact Nat.lt_trans d (hs ((l+u) / 2) i (by lia) hik)
   ·have e:qlt r (p.getD k 0) (p.getD ((l+u) / 2) 0)=false:=decide_eq_false d
    rw[e,if_neg (by decide)]
    have d':kat r p ((l+u) / 2)<kat r p k:=by
     have:=hI k ((l+u) / 2) hk (by lia) (by lia)
     lia
    refine place_run hI hk hs f ((l+u) / 2+1) u (by lia) h2 (by lia) (fun i hi=>?_) b
    by_cases z:i=(l+u) / 2
    ·rw[z];exact d'
    ·exact Nat.lt_trans (hs i ((l+u) / 2) (by lia) hm) d'
theorem kat_bub {p:Array Nat}{k l:Nat} (hk:k<p.size) (hl:l<=k) (i:Nat):kat r (bubble p k (k-l)) i=if i=l then kat r p k else if l<i/\i<=k then kat r p (i-1) else kat r p i:=by
 have e:=getElem?_bubble (xs:=p) hk (k-l) (by lia) i
 rw[show k-(k-l)=l by lia]at e
 split
 ·rename_i h;rw[if_pos h]at e;exact kat_eq e
 ·rename_i h
  rw[if_neg h]at e
  split
  ·rename_i h2;rw[if_pos h2]at e;exact kat_eq e
  ·rename_i h2;rw[if_neg h2]at e;exact kat_eq e
theorem bin_run:∀ (f:Nat) (p:Array Nat) (k:Nat),Inj r p->1<=k->k+f<=p.size->Srt r p k->∃ q,krun (qlt r) (kas_bin f p k)=q/\q.Perm p/\Srt r q (k+f)
 | 0,p,k,_,_,_,h=>⟨p,rfl,.refl _,h⟩
 | f+1,p,k,hI,h1,hz,h=>by
  rw[kas_bin,krun_bind]
  obtain⟨l,e1,e2,e3,e4⟩:=place_run hI (k:=k) (by lia) h k 0 k (by lia) (Nat.le_refl _) (by lia) (fun i hi=>by lia) (fun i hi hk=>by lia)
  rw[e1]
  have hb:=kat_bub (r:=r) (p:=p) (k:=k) (l:=l) (by lia) e2
  have hI':Inj r (bubble p k (k-l)):=fun i j hi hj ne=>by
   rw[bubble_size]at hi hj
   rw[hb,hb]
   repeat' split
   all_goals first
    | (exfalso;lia)
    | exact hI _ _ (by lia) (by lia) (by lia)
  have hs':Srt r (bubble p k (k-l)) (k+1):=fun i j hij hj=>by
   rw[hb,hb]
   repeat' split
   all_goals first
    | (exfalso;lia)
    | exact e4 _ (by lia) (by lia)
    | exact e3 _ (by lia)
    | exact h _ _ (by lia) (by lia)
  obtain⟨q,a1,a2,a3⟩:=bin_run f _ (k+1) hI' (by lia) (by rw[bubble_size];lia) hs'
  exact⟨q,a1,a2.trans (bubble_perm _ _ _),by rw[show k+(f+1)=k+1+f by lia];exact a3⟩
theorem sort_run {n:Nat} (h2:2<=n) (hI:∀ i j,i<n->j<n->i≠j->r i≠r j):∃ q:Array Nat,krun (qlt r) (kas_sort n)=q/\q.Perm (List.range n).toArray/\Srt r q n:=by
 unfold kas_sort
 rw[krun_bind]
 have hs:(List.range n).toArray.size=n:=by simp
 have hK:∀ i,i<n->kat r (List.range n).toArray i=r i:=fun i hi=>by
  unfold kat
  rw[Array.getD_eq_getD_getElem?]
  simp [hi]
 have hI':Inj r (List.range n).toArray:=fun i j hi hj ne=>by
  rw[hs]at hi hj
  rw[hK i hi,hK j hj]
  exact hI i j hi hj ne
 obtain⟨m,q,e1,e2,e3,e4,e5,e6⟩:=count_run hI' (by rw[hs];exact h2)
 rw[hs]at e1 e5
 rw[e1]
 dsimp only
 have qs:q.size=n:=by rw[e2.size_eq,hs]
 by_cases c:m<n
 ·rw[if_pos c]
  have em:max m 1=m:=by lia
  rw[em]
  obtain⟨q',a1,a2,a3⟩:=bin_run (n-m) q m e3 e4 (by lia) e6
  exact⟨q',a1,a2.trans e2,by rw[show m+(n-m)=n by lia]at a3;exact a3⟩
 ·rw[if_neg c]
  have:m=n:=by lia
  subst this
  exact⟨q,rfl,e2,e6⟩
end
end Kn
end
section
namespace Kn
open PySem
theorem sLt_total {x y:Str} (h:x≠y):sLt y x=!sLt x y:=by
 have ne:x.cps.toList≠y.cps.toList:=fun e=>h (by cases x;cases y;congr 1;exact Array.toList_inj.mp e)
 unfold sLt
 by_cases a:x.cps.toList<y.cps.toList
 ·have b:¬y.cps.toList<x.cps.toList:=fun b=>List.lt_irrefl _ (List.lt_trans a b)
  simp [a,b]
 ·have b:y.cps.toList<x.cps.toList:=Classical.byContradiction fun b=>ne (List.le_antisymm (List.not_lt.mp b) (List.not_lt.mp a))
  simp [a,b]
theorem cmpK_anti:∀ {a b:List KE}{r:Bool},cmpK a b=some r->a≠b->cmpK b a=some (!r)
 | [],[],_,_,h=>absurd rfl h
 | [],_::_,_,h,_=>by cases h;rfl
 | _::_,[],_,h,_=>by cases h;rfl
 | a::as,b::bs,r,h,hne=>by
  by_cases e:a=b
  ·subst e
   rw[cmpK_same]at h ⊢
   exact cmpK_anti h fun z=>hne (by rw[z])
  ·rw[cmpK,if_neg e]at h
   rw[cmpK,if_neg (fun z=>e z.symm)]
   cases a with
   | i m=>
    cases b with
    | i n=>
     have mn:m≠n:=fun z=>e (by rw[z])
     cases h
     show some (decide (n<m))=_
     by_cases c:m<n
     ·simp [c];lia
     ·simp [c];lia
    | s y=>cases h
   | s x=>
    cases b with
    | i n=>cases h
    | s y=>
     cases h
     show some (sLt y x)=_
     rw[sLt_total fun z=>e (by rw[z])]
theorem key_inj {x y:Val} (h:key x=key y):x=y:=by
 by_cases e:x=y
 ·exact e
 ·exfalso
  have same:∀ (l r s:List KE),cmpK (l++r) (l++s)=cmpK r s:=fun l r s=>by
   induction l with
   | nil=>rfl
   | cons a l ih=>rw[List.cons_append,List.cons_append,cmpK_same,ih]
  have h1:=cmp_key x y [.i 0] [.i 1]
  have h2:=cmp_key x y [.i 1] [.i 0]
  rw[if_neg e,h,same,cmpK_int (by decide)]at h1
  rw[if_neg e,h,same,cmpK_int (by decide)]at h2
  rw[<- h1]at h2
  exact absurd h2 (by decide)
theorem ahead_total {x y:Val} (h:x≠y):aheadB y x=!aheadB x y:=by
 have:=cmpK_anti (cmp_keys x y) fun e=>h (key_inj e)
 rw[cmp_keys]at this
 exact Option.some.inj this
theorem ahead_irrefl (x:Val):aheadB x x=false:=by unfold aheadB;rw[if_pos rfl]
theorem ahead_asymm {x y:Val} (h:aheadB x y=true):aheadB y x=false:=by
 have ne:x≠y:=fun e=>by rw[e,ahead_irrefl]at h;cases h
 rw[ahead_total ne,h];rfl
noncomputable def cnt (v:Val):List (Val×Int)->Int
 | []=>0
 | p::ps=>(if p.1=v then p.2 else 0)+cnt v ps
theorem cnt_append (v:Val) (a b:List (Val×Int)):cnt v (a++b)=cnt v a+cnt v b:=by
 induction a with
 | nil=>simp [cnt]
 | cons p a ih=>rw[List.cons_append,cnt,cnt,ih];lia
theorem cnt_perm (v:Val) {a b:List (Val×Int)} (h:a.Perm b):cnt v a=cnt v b:=by
 induction h with
 | nil=>rfl
 | cons p _ ih=>rw[cnt,cnt,ih]
 | swap p q l=>rw[cnt,cnt,cnt,cnt];lia
 | trans _ _ h1 h2=>rw[h1,h2]
theorem cnt_none {v:Val}{a:List (Val×Int)} (h:∀ p∈a,p.1≠v):cnt v a=0:=by
 induction a with
 | nil=>rfl
 | cons p a ih=>rw[cnt,if_neg (h p List.mem_cons_self),ih fun q hq=>h q (List.mem_cons_of_mem _ hq)];rfl
def Rise (ps:List (Val×Int)):Prop:=ps.Pairwise fun p q=>aheadB p.1 q.1=true
def IsBag (xs qs:List (Val×Int)):Prop:=Rise qs/\(∀ q∈qs,q.2≠0)/\∀ v,cnt v qs=cnt v xs
theorem Rise.cnt {ps:List (Val×Int)} (h:Rise ps):∀ {p},p∈ps->Kn.cnt p.1 ps=p.2:=by
 induction ps with
 | nil=>intro p hp;cases hp
 | cons q ps ih=>
  intro p hp
  have h':=List.pairwise_cons.mp h
  rw[Kn.cnt]
  rcases List.mem_cons.mp hp with e | hm
  ·subst e
   rw[if_pos rfl,cnt_none fun r hr e=>?_]
   ·lia
   ·have:=h'.1 r hr
    rw[e,ahead_irrefl]at this
    cases this
  ·have:=h'.1 p hm
   rw[if_neg (fun e=>by rw[e,ahead_irrefl]at this;cases this),ih h'.2 hm]
   lia
theorem mem_of_cnt {ps:List (Val×Int)} (h:Rise ps) {v:Val} (hv:cnt v ps≠0):(v,cnt v ps)∈ps:=by
 have:∃ p∈ps,p.1=v:=Classical.byContradiction fun z=>hv (cnt_none fun p hp e=>z ⟨p,hp,e⟩)
 obtain⟨p,hp,e⟩:=this
 have:=h.cnt hp
 rw[e]at this
 rw[this]
 subst e
 exact hp
theorem bag_mem {xs qs:List (Val×Int)} (h:IsBag xs qs) (p:Val×Int):p∈qs ↔ (p.2≠0/\cnt p.1 xs=p.2):=by
 constructor
 ·intro hp
  exact⟨h.2.1 p hp,by rw[<- h.2.2];exact h.1.cnt hp⟩
 ·rintro⟨h1,h2⟩
  have:=mem_of_cnt h.1 (v:=p.1) (by rw[h.2.2,h2];exact h1)
  rw[h.2.2,h2]at this
  exact this
theorem rise_unique:∀ {a b:List (Val×Int)},Rise a->Rise b->(∀ p,p∈a ↔ p∈b)->a=b
 | [],[],_,_,_=>rfl
 | [],q::b,_,_,h=>absurd ((h q).mpr List.mem_cons_self) (by simp)
 | p::a,[],_,_,h=>absurd ((h p).mp List.mem_cons_self) (by simp)
 | p::a,q::b,ha,hb,h=>by
  have ha':=List.pairwise_cons.mp ha
  have hb':=List.pairwise_cons.mp hb
  have e:p=q:=by
   rcases List.mem_cons.mp ((h p).mp List.mem_cons_self) with e | m
   ·exact e
   ·rcases List.mem_cons.mp ((h q).mpr List.mem_cons_self) with e | m'
    ·exact e.symm
    ·have h1:=hb'.1 p m
     have h2:=ha'.1 q m'
     rw[ahead_asymm h1]at h2
     cases h2
  subst e
  have na:∀ r∈a,r≠p:=fun r hr e=>by have:=ha'.1 r hr;rw[e,ahead_irrefl]at this;cases this
  have nb:∀ r∈b,r≠p:=fun r hr e=>by have:=hb'.1 r hr;rw[e,ahead_irrefl]at this;cases this
  rw[rise_unique ha'.2 hb'.2 fun r=>⟨fun hr=>((List.mem_cons.mp ((h r).mp (List.mem_cons_of_mem _ hr))).resolve_left (na r hr)),fun hr=>((List.mem_cons.mp ((h r).mpr (List.mem_cons_of_mem _ hr))).resolve_left (nb r hr))⟩]
theorem bag_unique {xs ys a b:List (Val×Int)} (ha:IsBag xs a) (hb:IsBag ys b) (h:∀ v,cnt v xs=cnt v ys):a=b:=
 rise_unique ha.1 hb.1 fun p=>by rw[bag_mem ha,bag_mem hb,h]
noncomputable def nAhead (v:Val) (ys:List Val):Nat:=(ys.filter fun y=>aheadB y v).length
def RiseV (ys:List Val):Prop:=ys.Pairwise fun p q=>aheadB p q=true
theorem nAhead_split {v:Val}{ys:List Val} (h:RiseV ys) (hv:v ∉ ys):(∀ y∈ys.take (nAhead v ys),aheadB y v=true)/\(∀ y∈ys.drop (nAhead v ys),aheadB v y=true):=by
 induction ys with
 | nil=>exact⟨fun y hy=>by simp at hy,fun y hy=>by simp at hy⟩
 | cons y ys ih=>
  have h':=List.pairwise_cons.mp h
  have ne:y≠v:=fun e=>hv (by rw[e];exact List.mem_cons_self)
  have ih':=ih h'.2 fun m=>hv (List.mem_cons_of_mem _ m)
  by_cases c:aheadB y v=true
  ·have e:nAhead v (y::ys)=nAhead v ys+1:=by unfold nAhead;rw[List.filter_cons,if_pos c];rfl
   rw[e]
   refine⟨fun z hz=>?_,fun z hz=>?_⟩
   ·rw[List.take_succ_cons]at hz
    rcases List.mem_cons.mp hz with e | m
    ·rw[e];exact c
    ·exact ih'.1 z m
   ·exact ih'.2 z hz
  ·have c':aheadB v y=true:=by
    have:=ahead_total ne
    rw[this]
    simpa using c
   have no:nAhead v ys=0:=by
    unfold nAhead
    rw[List.length_eq_zero_iff,List.filter_eq_nil_iff]
    intro z hz cz
    have:=ahead_trans c' (h'.1 z hz)
    rw[ahead_asymm this]at cz
    cases cz
   have e:nAhead v (y::ys)=0:=by unfold nAhead at no ⊢;rw[List.filter_cons,if_neg c];exact no
   rw[e]
   refine⟨fun z hz=>by simp at hz,fun z hz=>?_⟩
   rw[List.drop_zero]at hz
   rcases List.mem_cons.mp hz with e | m
   ·rw[e];exact c'
   ·exact ahead_trans c' (h'.1 z m)
theorem rise_put {v:Val}{ys:List Val} (h:RiseV ys) (hv:v ∉ ys):RiseV (ys.take (nAhead v ys)++v::ys.drop (nAhead v ys)):=by
 obtain⟨h1,h2⟩:=nAhead_split h hv
 refine List.pairwise_append.mpr ⟨h.sublist (List.take_sublist _ _),List.pairwise_cons.mpr ⟨h2,h.sublist (List.drop_sublist _ _)⟩,fun a ha b hb=>?_⟩
 rcases List.mem_cons.mp hb with e | m
 ·rw[e];exact h1 a ha
 ·exact ahead_trans (h1 a ha) (h2 b m)
end Kn
end
section
namespace Kn
open PySem PySem.W PyProof.Rows
def Asks {α:Type} (n:Nat) (R:α->Prop):KasT α->Prop
 | .ret a=>R a
 | .ask i j k=>i<n/\j<n/\∀ b,Asks n R (k b)
theorem Asks.bind {α β:Type} {n:Nat}{R:α->Prop}{S:β->Prop}{f:α->KasT β} (hf:∀ a,R a->Asks n S (f a)):∀ {t:KasT α},Asks n R t->Asks n S (t.bind f)
 | .ret a,h=>hf a h
 | .ask _ _ k,h=>⟨h.1,h.2.1,fun b=>Asks.bind hf (h.2.2 b)⟩
theorem wp_of_run {α:Type} {n:Nat}{R:α->Prop}{lt:Nat->Nat->Bool}{cmp:Nat->Nat->(Bool->Shared->Prop)->Shared->Prop}{Q:α->Shared->Prop}{s:Shared}
  (hc:∀ i j C,i<n->j<n->C (lt i j) s->cmp i j C s):∀ {t:KasT α},Asks n R t->Q (krun lt t) s->t.kasWp cmp Q s
 | .ret _,_,q=>q
 | .ask i j k,h,q=>hc i j _ h.1 h.2.1 (wp_of_run hc (h.2.2 _) q)
def Gn (n:Nat) (p:Array Nat):Prop:=∀ x∈p.toList,x<n
theorem Gn.get {n:Nat}{p:Array Nat} (h0:0<n) (h:Gn n p) (i:Nat):p.getD i 0<n:=by
 rw[Array.getD_eq_getD_getElem?]
 cases e:p[i]? with
 | none=>exact h0
 | some x=>exact h x (Array.mem_toList_iff.mpr (Array.mem_of_getElem? e))
theorem Gn.perm {n:Nat}{p q:Array Nat} (h:Gn n p) (e:q.Perm p):Gn n q:=fun x hx=>h x (Array.mem_toList_iff.mpr (e.mem_iff.mp (Array.mem_toList_iff.mp hx)))
section
variable {n:Nat} (h0:0<n)
include h0
theorem asks_asc {p:Array Nat} (g:Gn n p):∀ f m,Asks n (fun _=>True) (kas_asc p f m)
 | 0,_=>trivial
 | f+1,m=>by
  rw[kas_asc]
  refine⟨g.get h0 _,g.get h0 _,fun b=>?_⟩
  dsimp only
  split
  ·trivial
  ·exact asks_asc g f _
theorem asks_desc:∀ (f:Nat) (p:Array Nat) (m q:Nat),Gn n p->Asks n (fun r:Array Nat×Nat×Nat=>Gn n r.1) (kas_desc f p m q)
 | 0,p,_,_,g=>g
 | f+1,p,m,q,g=>by
  rw[kas_desc]
  refine⟨g.get h0 _,g.get h0 _,fun b=>?_⟩
  dsimp only
  by_cases hb:b=true
  ·rw[if_pos hb]
   split
   ·exact asks_desc f _ _ _ (g.perm (mirror_perm _ _ _ _))
   ·exact asks_desc f _ _ _ g
  ·rw[if_neg hb]
   refine⟨g.get h0 _,g.get h0 _,fun b=>?_⟩
   dsimp only
   split
   ·exact g
   ·exact asks_desc f _ _ _ g
theorem asks_tail {p:Array Nat} (g:Gn n p) (m k:Nat):Asks n (fun r:Nat×Array Nat=>Gn n r.2) (kas_tail3 m k p):=by
 unfold kas_tail3
 refine Asks.bind (R:=fun _=>True) (fun m _=>?_) (asks_asc h0 (g.perm (mirror_perm _ _ _ _)) _ _)
 exact g.perm (mirror_perm _ _ _ _)
theorem asks_descPart {p:Array Nat} (g:Gn n p) (m k:Nat):Asks n (fun r:Nat×Array Nat=>Gn n r.2) (kas_descPart m k p):=by
 unfold kas_descPart
 refine Asks.bind (fun r hr=>?_) (asks_desc h0 _ p _ _ g)
 split
 ·exact asks_tail h0 (Gn.perm hr (mirror_perm _ _ _ _)) _ _
 ·exact asks_tail h0 hr _ _
theorem asks_count {p:Array Nat} (g:Gn n p) (k:Nat):Asks n (fun r:Nat×Array Nat=>Gn n r.2) (kas_count k p):=by
 unfold kas_count
 refine Asks.bind (fun m _=>?_) (asks_asc h0 g _ _)
 split
 ·exact g
 split
 ·refine⟨g.get h0 _,g.get h0 _,fun b=>?_⟩
  dsimp only
  split
  ·exact g
  ·exact asks_descPart h0 (g.perm (mirror_perm _ _ _ _)) _ _
 ·exact asks_descPart h0 g _ _
theorem asks_place {p:Array Nat} (g:Gn n p) (k:Nat):∀ f l u,Asks n (fun _=>True) (kas_place p k f l u)
 | 0,_,_=>trivial
 | f+1,l,u=>by
  rw[kas_place]
  split
  ·trivial
  ·refine⟨g.get h0 _,g.get h0 _,fun b=>?_⟩
   dsimp only
   split
   ·exact asks_place g k f _ _
   ·exact asks_place g k f _ _
theorem asks_bin:∀ (f:Nat) (p:Array Nat) (k:Nat),Gn n p->Asks n (fun _=>True) (kas_bin f p k)
 | 0,_,_,_=>trivial
 | f+1,p,k,g=>by
  rw[kas_bin]
  exact Asks.bind (fun l _=>asks_bin f _ _ (g.perm (bubble_perm _ _ _))) (asks_place h0 g _ _ _ _)
theorem asks_sort:Asks n (fun _=>True) (kas_sort n):=by
 unfold kas_sort
 refine Asks.bind (fun r hr=>?_) (asks_count h0 (p:=(List.range n).toArray) (fun x hx=>by simpa using hx) n)
 split
 ·exact asks_bin h0 _ _ _ hr
 ·trivial
end
theorem filt_lt {α:Type} {P Q:α->Bool}{l:List α} (h:∀ z,P z=true->Q z=true) {x:α} (hx:x∈l) (h1:Q x=true) (h2:P x=false):(l.filter P).length<(l.filter Q).length:=by
 have le:∀ l:List α,(l.filter P).length<=(l.filter Q).length:=fun l=>by
  induction l with
  | nil=>exact Nat.le_refl _
  | cons a l ih=>
   rw[List.filter_cons,List.filter_cons]
   by_cases c:P a=true
   ·rw[if_pos c,if_pos (h a c)];simp;exact ih
   ·rw[if_neg c]
    split
    ·simp;lia
    ·exact ih
 induction l with
 | nil=>cases hx
 | cons a l ih=>
  rw[List.filter_cons,List.filter_cons]
  rcases List.mem_cons.mp hx with e | m
  ·subst e
   rw[if_neg (by rw[h2];decide),if_pos h1]
   have:=le l
   simp
   lia
  ·have:=ih m
   by_cases c:P a=true
   ·rw[if_pos c,if_pos (h a c)];simp;exact this
   ·rw[if_neg c]
    split
    ·simp;lia
    ·exact this
theorem rank_lt {xs:List Val}{x y:Val} (hx:x∈xs) (h:aheadB x y=true):nAhead x xs<nAhead y xs:=filt_lt (fun z hz=>ahead_trans hz h) hx h (ahead_irrefl x)
theorem rank_iff {xs:List Val}{x y:Val} (hx:x∈xs) (hy:y∈xs):decide (nAhead x xs<nAhead y xs)=aheadB x y:=by
 cases e:aheadB x y with
 | true=>exact decide_eq_true (rank_lt hx e)
 | false=>
  refine decide_eq_false fun z=>?_
  by_cases c:x=y
  ·subst c;lia
  ·have h:=ahead_total c
   rw[e]at h
   have:=rank_lt hy h
   lia
def vAt (xs:List Val) (i:Nat):Val:=xs[i]?.getD (.num 0)
theorem vAt_eq {xs:List Val}{i:Nat} (h:i<xs.length):vAt xs i=xs[i]:=by unfold vAt;rw[List.getElem?_eq_getElem h];rfl
theorem sort_vals {xs:List Val} (h2:2<=xs.length) (nd:xs.Nodup):∃ p:Array Nat,krun (fun i j=>aheadB (vAt xs i) (vAt xs j)) (kas_sort xs.length)=p/\p.Perm (List.range xs.length).toArray/\(p.toList.map (vAt xs)).Perm xs/\RiseV (p.toList.map (vAt xs)):=by
 have mem:∀ i,i<xs.length->vAt xs i∈xs:=fun i hi=>by rw[vAt_eq hi];exact List.getElem_mem hi
 obtain⟨p,e1,e2,e3⟩:=sort_run (r:=fun i=>nAhead (vAt xs i) xs) h2 fun i j hi hj ne=>by
  have nv:vAt xs i≠vAt xs j:=by
   rw[vAt_eq hi,vAt_eq hj]
   intro z
   exact ne ((List.getElem_inj nd).mp z)
  have h:=ahead_total nv
  cases e:aheadB (vAt xs i) (vAt xs j) with
  | true=>have:=rank_lt (mem i hi) e;lia
  | false=>rw[e]at h;have:=rank_lt (mem j hj) h;lia
 have eqr:∀ i j,i<xs.length->j<xs.length->qlt (fun i=>nAhead (vAt xs i) xs) i j=aheadB (vAt xs i) (vAt xs j):=fun i j hi hj=>rank_iff (mem i hi) (mem j hj)
 have same:∀ {α:Type} {R:α->Prop}{t:KasT α},Asks xs.length R t->krun (qlt (fun i=>nAhead (vAt xs i) xs)) t=krun (fun i j=>aheadB (vAt xs i) (vAt xs j)) t:=fun {α R t} h=>by
  induction t with
  | ret a=>rfl
  | ask i j k ih=>rw[krun,krun,eqr i j h.1 h.2.1];exact ih _ (h.2.2 _)
 have lp:p.toList.length=xs.length:=by rw[Array.length_toList,e2.size_eq];simp
 have pm:p.toList.Perm (List.range xs.length):=by simpa using Array.perm_iff_toList_perm.mp e2
 refine⟨p,(same (asks_sort (by lia))).symm.trans e1,e2,?_,?_⟩
 ·have:=pm.map (vAt xs)
  refine this.trans (List.Perm.of_eq ?_)
  refine List.ext_getElem (by simp) fun i h1 h2=>?_
  simp only[List.getElem_map,List.getElem_range]
  exact vAt_eq h2
 ·refine List.pairwise_iff_getElem.mpr fun i j hi hj hij=>?_
  rw[List.length_map]at hi hj
  have:=e3 i j hij (by lia)
  unfold kat at this
  rw[Array.getD_eq_getD_getElem?,Array.getD_eq_getD_getElem?]at this
  have gi:p[i]?=some p.toList[i]:=by simp [show i<p.size by simpa using hi]
  have gj:p[j]?=some p.toList[j]:=by simp [show j<p.size by simpa using hj]
  rw[gi,gj]at this
  rw[List.getElem_map,List.getElem_map]
  have b1:p.toList[i]<xs.length:=by have:=pm.mem_iff.mp (List.getElem_mem hi);simpa using this
  have b2:p.toList[j]<xs.length:=by have:=pm.mem_iff.mp (List.getElem_mem hj);simpa using this
  rw[<- rank_iff (mem _ b1) (mem _ b2)]
  exact decide_eq_true this
end Kn
end
section
namespace L2
open PySem PySem.Spec PyProof.Rows PySem.W
open Kn (KE cmpK kEl sLt key aheadB RiseV vAt)
def kk:KE->Key
 | .i n=>.inl n
 | .s x=>.inr x
theorem kV_kk (e:KE):kV (kk e)=kv e:=by cases e <;> rfl
theorem kk_inj {a b:KE} (h:kk a=kk b):a=b:=by
 cases a <;> cases b <;> first | (injection h with h;rw[h]) | cases h
theorem map_kk (l:List KE):(l.map kk).map kV=l.map kv:=by
 rw[List.map_map]
 exact List.map_congr_left fun e _=>kV_kk e
theorem kdl_raw {prog:Program}{w:World}{d:Addr}{es:Array DictEntry}{ep:Nat} (lo:(d == sysModules)=false):KdlSrc prog w "dict" d d es.size (fun i v=>∃ e,es[i]?=some e/\v=e.key) (fun h=>DRaw h d es ep) where
 type:=fun _ m=>m.type
 there:=fun _ m=>⟨m.lt,m.lt⟩
 keep:=fun _ _ m k=>m.at fun o e=>k d (.inl rfl) o e
 notList:=by decide
 notTuple:=by decide
 hint:=fun _ _ _ _ m q=>kdl_hint_dict m.type q
 iter:=fun _ _ hh m=>⟨_,_,(fun _ _ q=>draw_iter lo m q),walks_raw hh _ d (Nat.ne_of_lt m.lt) es ep,⟨⟨_,Heap.get?_push_size _ rfl,rfl,rfl⟩,m.at fun o e=>Heap.get?_push_of_some _ e⟩⟩
section
variable {prog:Program}{w:World}{A:Around}{E:Value->Shared->Prop}{s:Shared}
theorem katLex_K {b fin:Bool}{Q:Bool->Shared->Prop}:∀ (a c:List KE) (us ws:List Value) (i:Nat) (r:Bool),Vals (a.map kv) us->Vals (c.map kv) ws->cmpK a c=some r->fin=decide (a.length<c.length)->Q r s->KatLex prog w A b fin Q (us.zip ws) i s
 | [],[],us,ws,i,r,h1,h2,h,hf,q=>by
  cases h1;cases h2;cases h
  subst hf
  exact q
 | [],c::cs,us,ws,i,r,h1,h2,h,hf,q=>by
  cases h1
  cases h
  subst hf
  exact q
 | a::as,[],us,ws,i,r,h1,h2,h,hf,q=>by
  cases h2
  cases h
  rw[List.zip_nil_right]
  subst hf
  exact q
 | a::as,c::cs,us,ws,i,r,h1,h2,h,hf,q=>by
  rw[List.map_cons]at h1 h2
  cases h1 with
  | @cons _ u _ ur ru rus=>
  cases h2 with
  | @cons _ v _ vr rv rvs=>
  rw[List.zip_cons_cons]
  obtain⟨e,he,ie⟩:=eqAt_K (A:=A) (s:=s) ru rv
  refine kat_cons (he _ _ _ _ ?_)
  by_cases ac:a=c
  ·subst ac
   rw[Kn.cmpK_same]at h
   rw[ie.mpr rfl]
   refine kat_yes (katLex_K as cs ur vr (i+1) r rus rvs h (by rw[hf];simp) q)
  ·have e0:e=false:=by cases e with | false=>rfl | true=>exact absurd (ie.mp rfl) ac
   rw[e0]
   rw[cmpK,if_neg ac]at h
   refine kat_no ?_
   cases hb:(b && i == 0) with
   | false=>exact kat_one _ _ (rcLt_K ru rv h _ _ _ _ q)
   | true=>
    cases a with
    | i m=>
     obtain⟨t,rfl⟩:=ru
     cases c with
     | i n=>
      obtain⟨t',rfl⟩:=rv
      cases h
      exact oneLt_int q
     | s z=>cases h
    | s x=>
     obtain⟨t,rfl⟩:=ru
     cases c with
     | i n=>cases h
     | s z=>
      obtain⟨t',rfl⟩:=rv
      cases h
      exact oneLt_str q
def KTs (h:Heap) (a:Addr) (vs:List Value) (xs:List Kn.Val):Prop:=vs.length=xs.length/\∀ (i:Nat) (x:Kn.Val),xs[i]?=some x->∃ (b:Addr) (its:List Value),vs[i]?=some (Value.ref b)/\b≠a/\Vals ((key x).map kv) its/\IsTup h b its.toArray
theorem KTs.keep {h h':Heap}{a:Addr}{vs:List Value}{xs:List Kn.Val} (t:KTs h a vs xs) (k:∀ b o,b≠a->h.get? b=some o->h'.get? b=some o):KTs h' a vs xs:=
 ⟨t.1,fun i x hx=>let ⟨b,its,e1,e2,e3,o,e4,e5⟩:=t.2 i x hx;⟨b,its,e1,e2,e3,o,k b o e2 e4,e5⟩⟩
theorem KTs.firsts {h:Heap}{a:Addr}:∀ {vs:List Value}{xs:List Kn.Val},KTs h a vs xs->∃ fs,KatTups h vs fs/\fs.length=vs.length/\∀ f∈fs,∃ i t,f=Value.int i t
 | [],[],_=>⟨[],.nil,rfl,fun f hf=>(nomatch hf)⟩
 | [],_::_,t=>by have:=t.1;simp at this
 | _::_,[],t=>by have:=t.1;simp at this
 | v::vs,x::xs,t=>by
  obtain⟨fs,h1,h2,h3⟩:=KTs.firsts (vs:=vs) (xs:=xs) ⟨by have:=t.1;simpa using this,fun i y hy=>t.2 (i+1) y (by simpa using hy)⟩
  obtain⟨b,its,e1,e2,e3,o,g1,g2,n,g3⟩:=t.2 0 x rfl
  have ev:v=.ref b:=by simpa using e1
  subst ev
  have hk:∃ m ks,key x=.i m::ks:=by cases x <;> exact⟨_,_,by rw[key]⟩
  obtain⟨m,ks,ek⟩:=hk
  rw[ek,List.map_cons]at e3
  cases e3 with
  | @cons _ u _ ur ru _=>
   obtain⟨tk,rfl⟩:=ru
   refine⟨.int m tk::fs,.cons g1 g2 g3 (by simp) h1,by simp [h2],fun f hf=>?_⟩
   rcases List.mem_cons.mp hf with z | z
   ·exact⟨m,tk,z⟩
   ·exact h3 f z
theorem tup_list_sort {a : Addr} {vs : List Value} {xs : List Kn.Val} {n : Nat} {P : Fin -> Shared -> Prop} (ho : s.heap.get? a = some (seqObj "list" vs.toArray n)) (hT : KTs s.heap a vs xs) (nd : xs.Nodup) (h64 : vs.length < 64)
    (h : ∀ (out : List Value) (ys : List Kn.Val), ys.Perm xs -> RiseV ys -> out.length = ys.length -> (∀ (i : Nat) (y : Kn.Val), ys[i]? = some y -> ∃ j : Nat, xs[j]? = some y /\ out[i]? = vs[j]?) -> P (.done (.ret .none)) { s with heap := sortedHeap s.heap a vs out.toArray }) :
    wpAny (model prog w) A (Builtin.«list.sort» ⟨[.ref a], []⟩) P E s := by
  have la : a < s.heap.objs.size := Heap.lt_size ho
  obtain ⟨e1, g1⟩ : ∃ e1, (s.heap.update a (Obj.mapSeq fun _ => (#[] : Array Value))).get? a = some (seqObj "list" #[] e1) := ⟨_, get?_update_seq ho fun _ => #[]⟩
  have g6 : (((s.heap.update a (Obj.mapSeq fun _ => (#[] : Array Value))).push (seqObj "tuple" vs.toArray 0)).push (seqObj "list" #[] 0)).get? a = some (seqObj "list" #[] e1) := Heap.get?_push_of_some _ (Heap.get?_push_of_some _ g1)
  have sb := Heap.SameBut.update s.heap a (Obj.mapSeq fun _ => (#[] : Array Value))
  have t6 : KTs (((s.heap.update a (Obj.mapSeq fun _ => (#[] : Array Value))).push (seqObj "tuple" vs.toArray 0)).push (seqObj "list" #[] 0)) a vs xs := hT.keep fun b o nb e => Heap.get?_push_of_some _ (Heap.get?_push_of_some _ (sb.extBut b o nb e))
  rw [list_sort_plain]
  refine wpAny_bind (listItems_at ho rfl (wpAny_bind (listUpdate_at ho rfl ?_ (by rw [List.size_toArray, sizeLine_eq]; lia) (Nat.zero_le _))))
  refine wpAny_bind (seqEpoch_at g1 rfl (wpAny_bind (wpAny_newTuple ?_ (by show vs.length <= _; rw [sizeLine_eq]; lia))))
  refine wpAny_bind (wpAny_newList (wpAny_holding ?_) (Nat.zero_le _))
  show wpAny (model prog w) A _ P E { s with heap := ((s.heap.update a (Obj.mapSeq fun _ => (#[] : Array Value))).push (seqObj "tuple" vs.toArray 0)).push (seqObj "list" #[] 0) }
  dsimp only
  by_cases h2 : vs.toArray.size < 2
  · have h2' : vs.length < 2 := by simpa using h2
    rw [if_pos h2, if_pos h2]
    refine wpAny_bind (wpAny_pure ?_)
    rw [StateT.run_pure]
    refine wpAny_bind (wpAny_pure ?_)
    dsimp only
    have ez : (arrOf (SortSt.mk' general' (vs.toArray.zip vs.toArray) #[] 7 none)).map (·.2) = vs.toArray := by
      show (vs.toArray.zip vs.toArray).map (·.2) = vs.toArray
      apply Array.toList_inj.mp
      rw [Array.toList_map, Array.toList_zip]
      simp only [List.toList_toArray]
      have zz : ∀ l : List Value, (l.zip l).map (·.2) = l := fun l => by induction l with | nil => rfl | cons x l ih => simp [ih]
      exact zz vs
    rw [ez]
    refine wpAny_bind (seqEpoch_at g6 rfl (wpAny_bind (listUpdate_at g6 rfl ?_ (Nat.zero_le _) (by rw [List.size_toArray, sizeLine_eq]; lia))))
    simp only [bne_self_eq_false, Bool.false_eq_true, if_false]
    refine wpAny_pure (h vs xs (.refl _) ?_ hT.1 fun i y hy => ⟨i, hy, rfl⟩)
    have hl := hT.1
    match xs, hl with
    | [], _ => exact .nil
    | [x], _ => exact List.pairwise_singleton _ _
    | x :: y :: r, hl => rw [hl] at h2'; simp at h2'; lia
  · have h2' : 2 ≤ vs.length := by have : ¬ vs.length < 2 := by simpa using h2
                                   lia
    rw [if_neg h2, if_neg h2]
    obtain ⟨fs, f1, f2, f3⟩ := t6.firsts
    refine wpAny_bind (kat_kind (T := .type "int") f1 (by rw [f2]; lia) (fun v hv => by obtain ⟨i, t, rfl⟩ := f3 v hv; exact .now) (by decide) ?_)
    obtain ⟨p, p1, p2, p3, p4⟩ := Kn.sort_vals (xs := xs) (by rw [<- hT.1]; exact h2') nd
    have mem : ∀ i, i < xs.length -> xs[i]? = some (vAt xs i) := fun i hi => by rw [Kn.vAt_eq hi]; exact List.getElem?_eq_getElem hi
    refine wpAny_bind (wpAny_mono (kat_run (ks := vs) (Q := fun st' s' => arrOf st' = p.map (kas_item (vs.toArray.zip vs.toArray)) /\ failedOf st' = none /\ s' = { s with heap := ((s.heap.update a (Obj.mapSeq fun _ => (#[] : Array Value))).push (seqObj "tuple" vs.toArray 0)).push (seqObj "list" #[] 0) })
      (G := fun q s' => q = p /\ s' = { s with heap := ((s.heap.update a (Obj.mapSeq fun _ => (#[] : Array Value))).push (seqObj "tuple" vs.toArray 0)).push (seqObj "list" #[] 0) }) rfl h2' h64 (fun q st' s' _ a2 a3 ⟨a4, a5⟩ => ⟨a4 ▸ a2, a3, a5⟩) ?ask) ?_ fun _ _ e => e)
    case ask =>
      refine Kn.wp_of_run (n := xs.length) (R := fun _ => True) (lt := fun i j => aheadB (vAt xs i) (vAt xs j)) (fun i j C hi hj q => ?_) (by rw [hT.1]; exact Kn.asks_sort (by rw [<- hT.1]; lia)) ⟨by rw [hT.1]; exact p1, rfl⟩
      obtain ⟨bi, ti, a1, a2, a3, oi, a4, a5, ni, a6⟩ := t6.2 i _ (mem i hi)
      obtain ⟨bj, tj, c1, c2, c3, oj, c4, c5, nj, c6⟩ := t6.2 j _ (mem j hj)
      unfold kas_ask
      rw [List.getD_eq_getElem?_getD, List.getD_eq_getElem?_getD, a1, c1]
      refine kat_lt a4 a6 c4 c6 ?_
      have l1 := a3.length
      have l2 := c3.length
      rw [List.length_map] at l1 l2
      exact katLex_K _ _ _ _ 0 _ a3 c3 (Kn.cmp_keys _ _) (by simp [l1, l2]) q
    rintro ⟨⟨⟩, st'⟩ s' ⟨har, hf, rfl⟩
    dsimp only
    have hout := kat_snds rfl har
    rw [hout]
    have lp : p.toList.length = vs.length := by rw [Array.length_toList, p2.size_eq, hT.1]; simp
    refine wpAny_bind (seqEpoch_at g6 rfl (wpAny_bind (listUpdate_at g6 rfl ?_ (Nat.zero_le _) (by rw [List.size_toArray, List.length_map, lp, sizeLine_eq]; lia))))
    rw [hf]
    simp only [bne_self_eq_false, Bool.false_eq_true, if_false]
    refine wpAny_pure (h (p.toList.map fun i => vs.getD i Value.none) (p.toList.map (vAt xs)) p3 p4 (by rw [List.length_map, List.length_map]) fun i y hy => ?_)
    rw [List.getElem?_map] at hy
    cases e : p.toList[i]? with
    | none => rw [e] at hy; cases hy
    | some k =>
      rw [e] at hy
      have ey : vAt xs k = y := by injection hy
      have hk : k < xs.length := by
        have : k ∈ p.toList := List.mem_of_getElem? e
        have := (Array.perm_iff_toList_perm.mp p2).mem_iff.mp this
        simpa using this
      refine ⟨k, by rw [mem k hk, ey], ?_⟩
      rw [List.getElem?_map, e]
      show some (vs.getD k Value.none) = vs[k]?
      have hk' : k < vs.length := by rw [hT.1]; exact hk
      rw [List.getD_eq_getElem?_getD, List.getElem?_eq_getElem hk']
      rfl
end
section
variable {X:Cx}
def rSortT:List V->Hp->VK->Prop:=fun ws H Q=>∃ (a:Addr) (kvs:List (List Key×V)) (xs:List Kn.Val),ws=[.ref a]/\H a=some (.dT kvs)/\kvs.map (·.1)=xs.map (fun x=>(key x).map kk)/\xs.Nodup/\xs.length<64 /\
 ∀ (p:Addr) (bs:List V) (ys:List Kn.Val),H p=none->ys.Perm xs->RiseV ys->bs.length=ys.length->(∀ (i:Nat) (y:Kn.Val),ys[i]?=some y->∃ b:Addr,bs[i]?=some (V.ref b)/\H b=some (.tup ((key y).map kv)))->Q (.ref p) (upd H p (.lst bs))
theorem kt_get {H:Hp}:∀ {kvs:List (List Key×V)}{ts:List (List Key×Addr×Value)}{i:Nat}{q:List Key×Addr×Value},KT H kvs ts->ts[i]?=some q->∃ p,kvs[i]?=some p/\p.1=q.1/\H q.2.1=some (.tup (p.1.map kV))
 | _,_,_,_,.nil,e=>by simp at e
 | _,_,0,_,.cons r _,e=>by simp at e;subst e;exact⟨_,rfl,r.1,r.2.1⟩
 | _,_,i+1,q,.cons _ t,e=>by
  obtain⟨p,h1,h2⟩:=kt_get (i:=i) (q:=q) t (by simpa using e)
  exact⟨p,by simpa using h1,h2⟩
theorem call_sortT (hc:X.calm=true):CallR X (.builtin "sorted") rSortT:=by
 intro pins s σ H ws us Q I r h
 obtain⟨a,kvs,xs,rfl,ha,hk,nd,h64,q⟩:=h
 obtain⟨u,rfl,ru⟩:=r.one
 cases ru
 have hh:=I.ok.hd hc
 obtain⟨z,hd,ts,rel,ob,es,ep,o1,o2,o3,o4,_⟩:=dt_of I.hok ha
 have raw:DRaw s.heap a es ep:=⟨ob,o1,o2,o3⟩
 have lk:kvs.length=xs.length:=by have:=congrArg List.length hk;simpa using this
 have lt:kvs.length=ts.length:=Paired.length rel
 have le:es.size=ts.length:=by rw[<- Array.length_toList,o4,List.length_map]
 refine Calls.call_function_entry kind_sorted plain_sorted entry_sorted (args_sorted1 _) ?_
 unfold Builtin.«sorted»
 refine wpAny_bind (m:=checkCount "sorted" 1 1 _) (wpAny_pure ?_)
 refine wpAny_bind (kdu_collect (A:=X.A.in1) (kdl_raw hd) hh raw (by rw[le,<- lt];exact z) fun h' tk acc keep items=>?_)
 have hl:acc.toList.length=es.size:=by rw[Array.length_toList];exact items.1
 refine wpAny_bind (wpAny_newList ?_ (by rw[hl,le,<- lt];exact z))
 have I1:Inv X pins σ H { s with heap:=h',toks:=tk }:=I.kept keep
 have hoL:(h'.push { cls:=.type "list",data:=.seq acc.toList.toArray }).get? h'.objs.size=some (seqObj "list" acc.toList.toArray 0):=Heap.get?_push_size _ rfl
 -- the collected keys
 have ref:∀ (i:Nat) (x:Kn.Val),xs[i]?=some x->∃ b:Addr,acc.toList[i]?=some (Value.ref b)/\H b=some (.tup ((key x).map kv)):=fun i x hx=>by
  have hi:i<xs.length:=(List.getElem?_eq_some_iff.mp hx).1
  have hi2:i<acc.toList.length:=by rw[hl,le,<- lt,lk];exact hi
  obtain⟨e,he,hv⟩:=items.2 i acc.toList[i] (by rw[<- Array.getElem?_toList,List.getElem?_eq_getElem hi2])
  have he':ts[i]?.map (entryOfKey (tupleKind (mixKind X.prog X.w)))=some e:=by rw[<- he,<- Array.getElem?_toList,o4,List.getElem?_map]
  obtain⟨t,ht,et⟩:=Option.map_eq_some_iff.mp he'
  obtain⟨p,hp,ep',hH⟩:=kt_get rel ht
  have kx:p.1=(key x).map kk:=by
   have:=congrArg (fun l=>l[i]?) hk
   simp only[List.getElem?_map,hp,hx,Option.map_some]at this
   injection this
  refine⟨t.2.1,by rw[List.getElem?_eq_getElem hi2,hv,<- et];rfl,?_⟩
  rw[<- map_kk,<- kx];exact hH
 have hT:KTs (h'.push { cls:=.type "list",data:=.seq acc.toList.toArray }) h'.objs.size acc.toList xs:=by
  refine⟨by rw[hl,le,<- lt,lk],fun i x hx=>?_⟩
  obtain⟨b,h1,h2⟩:=ref i x hx
  obtain⟨_,its,r1,o,r2,r3⟩:=(show ObjOk X.prog X.w H h' b (.tup ((key x).map kv)) from I1.hok b _ h2)
  exact⟨b,its,h1,Nat.ne_of_lt (Heap.lt_size r2),r1,o,Heap.get?_push_of_some _ r2,r3⟩
 refine wpAny_bind (wpAny_holding (wpAny_call_entry slot_list_sort ⟨_,hoL,rfl⟩ entry_list_sort (tup_list_sort hoL hT nd (by rw[hT.1];exact h64) fun out ys b1 b2 b3 b4=>⟨_,rfl,?_⟩) (args_list_sort _)))
 refine wpAny_pure ⟨_,rfl,?_⟩
 obtain⟨e,hat⟩:=sortedHeap_at (out:=out.toArray) hoL
 -- what comes out,as values
 have hbs:∃ bs:List V,Vals bs out/\∀ (i:Nat) (y:Kn.Val),ys[i]?=some y->∃ b:Addr,bs[i]?=some (V.ref b)/\H b=some (.tup ((key y).map kv)):=by
  have key':∀ (k:Nat),k<=out.length->∃ bs:List V,Vals bs (out.take k)/\∀ (i:Nat) (y:Kn.Val),i<k->ys[i]?=some y->∃ b:Addr,bs[i]?=some (V.ref b)/\H b=some (.tup ((key y).map kv)):=by
   intro k
   induction k with
   | zero=>intro _;exact⟨[],.nil,fun i y hi=>by lia⟩
   | succ k ih=>
    intro hk'
    obtain⟨bs,r1,r2⟩:=ih (by lia)
    have hy:ys[k]?=some ys[k]:=List.getElem?_eq_getElem (by lia)
    obtain⟨j,j1,j2⟩:=b4 k _ hy
    obtain⟨b,c1,c2⟩:=ref j _ j1
    have ho:out[k]?=some (.ref b):=by rw[j2,c1]
    have lb:bs.length=k:=by have:=r1.length;rw[List.length_take]at this;lia
    refine⟨bs++[.ref b],by rw[List.take_add_one,ho];exact r1.append (.cons rfl .nil),fun i y hi hy'=>?_⟩
    by_cases e:i=k
    ·subst e
     rw[hy]at hy'
     cases hy'
     exact⟨b,by rw[List.getElem?_append_right (by lia),lb];simp,c2⟩
    ·obtain⟨b',d1,d2⟩:=r2 i y (by lia) hy'
     exact⟨b',by rw[List.getElem?_append_left (by lia)];exact d1,d2⟩
  obtain⟨bs,r1,r2⟩:=key' out.length (Nat.le_refl _)
  rw[List.take_length]at r1
  exact⟨bs,r1,fun i y hy=>r2 i y (by have:=(List.getElem?_eq_some_iff.mp hy).1;lia) hy⟩
 obtain⟨bs,v1,v2⟩:=hbs
 have lb:bs.length=ys.length:=by rw[v1.length,b3]
 have hz:bs.length<=sizeLine:=by rw[lb,b1.length_eq,<- lk];exact z
 refine⟨.ref h'.objs.size,upd H h'.objs.size (.lst bs),?_,rfl,q _ bs ys (I1.hok.fresh (Nat.le_refl _)) b1 b2 lb v2⟩
 refine I1.laid (t':=tk) (fun b o hb=>?_) (Nat.le_refl _) ⟨hz,out,e,v1,?_⟩
 ·have hlt:b<h'.objs.size:=Heap.lt_size hb
  rw[sortedHeap_old (Nat.ne_of_lt hlt) (by rw[Heap.size_push];exact Nat.lt_succ_of_lt hlt)]
  exact Heap.get?_push_of_some _ hb
 ·rw[hat]
end
end L2
end
section
namespace L2
open PySem PySem.Spec PyProof.Rows
section
variable {X:Cx}
def isiW (x:V) (T:String) (b:Bool):Prop:=
 (T="int"/\(∃ i,x=.int i)/\b=true)\/(T="bool"/\(∃ i,x=.int i)/\b=false)\/(T="str"/\((∃ i,x=.int i)/\b=false\/(∃ z,x=.str z)/\b=true))
theorem call_isiW:CallR X (.builtin "isinstance") (fun xs H Q=>∃ x T b,xs=[x,.ty T]/\isiW x T b/\Q (.bl b) H):=by
 intro pins s σ H xs us Q I r h
 obtain⟨x,T,b,rfl,hi,q⟩:=h
 obtain⟨u,v,rfl,ru,rv⟩:=r.two
 cases rv
 rcases hi with ⟨rfl,⟨i,rfl⟩,rfl⟩ | ⟨rfl,⟨i,rfl⟩,rfl⟩ | ⟨rfl,⟨⟨i,rfl⟩,rfl⟩ | ⟨⟨z,rfl⟩,rfl⟩⟩
 ·obtain⟨t,rfl⟩:=ru
  exact IsiPair.int_int ⟨.bl true,H,I,rfl,q⟩
 ·obtain⟨t,rfl⟩:=ru
  exact IsiPair.int_bool ⟨.bl false,H,I.tok _,rfl,q⟩
 ·obtain⟨t,rfl⟩:=ru
  exact IsiPair.int_str ⟨.bl false,H,I.tok _,rfl,q⟩
 ·obtain⟨t,rfl⟩:=ru
  exact IsiPair.str_str ⟨.bl true,H,I,rfl,q⟩
theorem call_isiU:CallR X (.builtin "isinstance") (fun xs H Q=>(∃ x T b,xs=[x,.ty T]/\isiV H x T b/\Q (.bl b) H)\/∃ x T b,xs=[x,.ty T]/\isiW x T b/\Q (.bl b) H):=call_isi.or call_isiW
def rEqL:R2:=fun x y H Q=>∃ a b xs,x=.ref a/\y=.ref b/\H a=some (.lst xs)/\H b=some (.lst [])/\Q (.bl (decide (xs=[]))) H
theorem op_eqL (hu:X.A.units<cLine):OpR X (compareOp .Eq) rEqL:=by
 intro pins s σ H x y v u Q I rx ry h
 obtain⟨a,b,xs,rfl,rfl,ha,hb,q⟩:=h
 cases rx
 cases ry
 obtain⟨its,r,p,_⟩:=I.list (SqL.of ha)
 obtain⟨its2,r2,p2,_⟩:=I.list (SqL.of hb)
 cases r2
 by_cases hx:xs=[]
 ·subst hx
  cases r
  refine SeqAt.RcAt.lists (A:=X.A) (e:=fun _=>true) p.isList p2.isList rfl hu (fun j h1=>by simp at h1) _ _ _ _ ⟨.bl true,H,I,rfl,?_⟩
  simpa using q
 ·refine SeqAt.RcAt.lists_lengths (A:=X.A) p.isList p2.isList ?_ hu _ _ _ _ ⟨.bl false,H,I,rfl,?_⟩
  ·have:=r.length
   have h0:its≠[]:=fun z=>hx (by subst z;cases xs with | nil=>rfl | cons _ _=>simp at this)
   cases its with
   | nil=>exact absurd rfl h0
   | cons _ _=>simp
  ·rw[decide_eq_false hx]at q
   exact q
theorem op_eqUL (hu:X.A.units+110<cLine):OpR X (compareOp .Eq) (fun x y H Q=>rEq x y H Q\/(rEqD x y H Q\/rEqL x y H Q)):=op_eq.or ((op_eqD hu).or (op_eqL (by lia)))
variable {pos:Pos}{e f o:Expr}{te tf to:TE}
theorem we_dnewT:Hd (PE X (.Dict [] [] pos) tDNewT):=⟨pe_dnewT⟩
theorem m2_of {m:Str}{apos cpos:Pos} (hb:attributeBase o m X.env (eval o X.env)=eval o X.env) (h1:notStar e=true) (h2:notStar f=true) (hline:(apos.endLine == cpos.line)=true):M2 X o m apos e f cpos:=
 ⟨hb,few_of (by show (notStar e && (notStar f && true))=true;rw[h1,h2];rfl) (by show 2<29;decide),hline,by rw[star_cons h1,star_cons h2];rfl⟩
theorem we_dget2 {apos cpos:Pos} (hu:X.A.units+1<cLine) (ho:Hd (PE X o to)) (he:Hd (PE X e te)) (hf:Hd (PE X f tf)) (hb:attributeBase o "get" X.env (eval o X.env)=eval o X.env:=by rfl) (h1:notStar e=true:=by rfl) (h2:notStar f=true:=by rfl) (hline:(apos.endLine == cpos.line)=true:=by rfl) :
  Hd (PE X (.Call (.Attribute o "get" apos) [e,f] [] cpos) (tDGet2 to te tf)):=⟨pe_dget2 hu ho.out he.out hf.out (m2_of hb h1 h2 hline)⟩
end
end L2
end
section
namespace L2
open PySem PySem.Spec PyProof.Rows
section
variable {X:Cx}
def Its (x:Str):It:=⟨fun i _=>i<x.cps.size,fun i H v H'=>H'=H/\∃ c,x.cps[i]?=some c/\v=.str ⟨#[c]⟩,fun i _=>x.cps.size<=i⟩
theorem turn_str {P:Program}{w:World}{K:PySem.W.Frag}{tg:Expr} (it:Addr) (x:Str) (t:Tok):Turn P w K tg (Its x) [it] it (fun i h=>h.IsStrIter it "str_ascii_iterator" x t i) where
 mem:=by simp
 obj:=fun i h st b hb=>by
  have e:b=it:=by simpa using hb
  subst e
  obtain⟨o,q,_,d⟩:=st
  exact⟨_,q,fun v z=>by rw[d]at z;cases z⟩
 keep:=fun i h h' st k=>by
  obtain⟨o,q,r⟩:=st
  exact⟨o,k it (by simp) _ q,r⟩
 item:=by
  intro X hP hw hK hc i pins s σ H E I hf st hg
  subst hP hw hK
  obtain⟨f0,f1,f2,f3,f4,f5⟩:=hf it (by simp)
  have hi:i<x.cps.size:=hg
  have hx:x.cps[i]?=some x.cps[i]:=Array.getElem?_eq_getElem hi
  refine wpAny_pyNext_ascii_item st hx fun h' st' sb=>?_
  have I1:Inv X pins σ H { s with heap:=h',toks:=s.toks+1 }:=I.turned (t':=s.toks+1) (fun b o hb e=>(sb.2 b hb).trans e) f0 f1 f3 f4 f5
  obtain⟨o,e,c,d⟩:=id st'
  exact⟨_,rfl,go_of (s:={ s with heap:=h',toks:=s.toks+1 }) e c d (by decide) ⟨.str ⟨#[x.cps[i]]⟩,H,I1,⟨_,rfl⟩,⟨rfl,_,hx,rfl⟩,st',fun b hb=>(hf b hb).1⟩⟩
 done:=by
  intro X hP hw hK hc i pins s σ H E I hf st hg
  subst hP hw hK
  obtain⟨f0,f1,f2,f3,f4,f5⟩:=hf it (by simp)
  have hi:x.cps.size<=i:=hg
  exact wpAny_pyNext_ascii_end (I.ok.hd hc) st (Array.getElem?_eq_none hi) fun h' eb=>⟨rfl,I.turned (t':=s.toks) (fun b o hb e=>eb b o hb e) f0 f1 f3 f4 f5⟩
 self:=fun _ _ _ _ _ st h=>wpAny_pyIter_striter_ascii st h
def iStr (tl:TE):TI:=fun σ H R=>tl σ H fun v H1=>∃ x,v=.str x/\x.cps.all (·<128)=true/\R (Its x) H1
theorem pi_str {tg l:Expr}{tl:TE} (hl:PE X l tl):PI X tg l (iStr tl):=by
 intro pins s σ H R I h
 refine thn (hl pins s σ H _ I h) fun v s1 ⟨x,H1,I1,r1,q1⟩=>?_
 obtain⟨z,e,ha,q⟩:=q1
 subst e
 obtain⟨t,rfl⟩:=r1
 refine wpAny_pyIter_ascii ha ?_
 refine⟨s1.heap.objs.size,[s1.heap.objs.size],_,_,H1,rfl,I1.kept (t':=s1.toks) fun b o e=>Heap.get?_push_of_some _ e,turn_str _ z t,⟨_,Heap.get?_push_size _ rfl,rfl,rfl⟩,fun b hb=>?_,q⟩
 have e:b=s1.heap.objs.size:=by simpa using hb
 subst e
 exact I1.fpOk (Nat.le_refl _) (I1.hok.fresh (Nat.le_refl _))
theorem wi_str {tg l:Expr}{tl:TE} (hl:Hd (PE X l tl)):Hd (PI X tg l (iStr tl)):=⟨pi_str hl.out⟩
end
end L2
end
section
namespace L2
open PySem PySem.Spec PyProof.Rows
section
variable {X:Cx}
end
end L2
end
section
namespace Kn
open PySem
def isNum (c:Nat):Bool:=c == 45 || (decide (48<=c) && decide (c<=57))
def isLet (c:Nat):Bool:=decide (97<=c) && decide (c<=122)
def stop (r:List Nat):Prop:=∀ c t,r=c::t->isNum c=false/\isLet c=false
def dg (i:Int):List Nat:=(Str.ofString (toString i)).cps.toList
theorem dg_eq (i:Int):dg i=(toString i).toList.map Char.toNat:=by
 unfold dg
 rw[Str.ofString_eq_toList]
theorem dg_pos (m:Nat):dg (m:Int)=(Nat.toDigits 10 m).map Char.toNat:=by
 rw[dg_eq]
 show (Nat.repr m).toList.map Char.toNat=_
 rw[Nat.toList_repr]
theorem dg_neg (m:Nat):dg (Int.negSucc m)=45::(Nat.toDigits 10 (m+1)).map Char.toNat:=by
 rw[dg_eq]
 show ("-"++Nat.repr (m+1)).toList.map Char.toNat=_
 rw[String.toList_append,Nat.toList_repr,List.map_append]
 rfl
theorem digit_sign {m c:Nat} (h:c∈(Nat.toDigits 10 m).map Char.toNat):48<=c/\c<=57:=by
 obtain⟨ch,hch,e⟩:=List.mem_map.mp h
 have r:=Nat.isDigit_of_mem_toDigits (by decide) (by decide) hch
 subst e
 unfold Char.isDigit at r
 simp only[Bool.and_eq_true,decide_eq_true_eq]at r
 exact⟨r.1,r.2⟩
theorem digits_ne (m:Nat):(Nat.toDigits 10 m).map Char.toNat≠[]:=by
 intro e
 exact Nat.toDigits_ne_nil (List.map_eq_nil_iff.mp e)
def cn (c:Int):List Nat:=if c=1 then [] else 32::42::32::dg c
def sepB (b:Bool):List Nat:=if b=true then [] else [44,32]
mutual
def enc:Val->List Nat
 | .num i=>dg i
 | .word s=>39::s.cps.toList
 | .row ps=>60::encR true ps
 | .bag ps=>123::encB true ps
def encR:Bool->List (Str×Val)->List Nat
 | _,[]=>[62]
 | b,p::ps=>sepB b++(p.1.cps.toList++(58::32::(enc p.2++encR false ps)))
def encB:Bool->List (Val×Int)->List Nat
 | _,[]=>[125]
 | b,p::ps=>sepB b++(enc p.1++(cn p.2++encB false ps))
end
def lets (s:Str):Prop:=∀ c∈s.cps.toList,isLet c=true
theorem stop_of {r:List Nat}{c:Nat}{t:List Nat} (e:r=c::t) (h:isNum c=false/\isLet c=false):stop r:=fun c' t' e'=>by
 rw[e]at e'
 injection e' with e1 _
 rw[<- e1];exact h
end Kn
end
section
namespace Kn
open PySem L2
mutual
def dat:Val->Dt
 | .num i=>.tup [.str "num",.int i]
 | .word s=>.tup [.str "word",.str s]
 | .row ps=>.tup [.str "row",.tup (datR ps)]
 | .bag ps=>.tup [.str "bag",.tup (datB ps)]
def datR:List (Str×Val)->List Dt
 | []=>[]
 | p::ps=>.tup [.str p.1,dat p.2]::datR ps
def datB:List (Val×Int)->List Dt
 | []=>[]
 | p::ps=>.tup [dat p.1,.int p.2]::datB ps
end
theorem datR_map (ps:List (Str×Val)):datR ps=ps.map fun p=>.tup [.str p.1,dat p.2]:=by
 induction ps with
 | nil=>rw[datR];rfl
 | cons p ps ih=>rw[datR,ih];rfl
theorem datB_map (ps:List (Val×Int)):datB ps=ps.map fun p=>.tup [dat p.1,.int p.2]:=by
 induction ps with
 | nil=>rw[datB];rfl
 | cons p ps ih=>rw[datB,ih];rfl
mutual
theorem dat_inj:∀ {x y:Val},dat x=dat y->x=y
 | .num i,.num j,h=>by simp only[dat]at h;injection h with h;injection h with _ h;injection h with h;injection h with h;rw[h]
 | .word i,.word j,h=>by simp only[dat]at h;injection h with h;injection h with _ h;injection h with h;injection h with h;rw[h]
 | .row ps,.row qs,h=>by simp only[dat]at h;injection h with h;injection h with _ h;injection h with h;injection h with h;rw[datR_inj h]
 | .bag ps,.bag qs,h=>by simp only[dat]at h;injection h with h;injection h with _ h;injection h with h;injection h with h;rw[datB_inj h]
 | .num _,.word _,h=>by simp only[dat]at h;injection h with h;injection h with h _;injection h with h;exact absurd h (by decide +kernel)
 | .num _,.row _,h=>by simp only[dat]at h;injection h with h;injection h with h _;injection h with h;exact absurd h (by decide +kernel)
 | .num _,.bag _,h=>by simp only[dat]at h;injection h with h;injection h with h _;injection h with h;exact absurd h (by decide +kernel)
 | .word _,.num _,h=>by simp only[dat]at h;injection h with h;injection h with h _;injection h with h;exact absurd h (by decide +kernel)
 | .word _,.row _,h=>by simp only[dat]at h;injection h with h;injection h with h _;injection h with h;exact absurd h (by decide +kernel)
 | .word _,.bag _,h=>by simp only[dat]at h;injection h with h;injection h with h _;injection h with h;exact absurd h (by decide +kernel)
 | .row _,.num _,h=>by simp only[dat]at h;injection h with h;injection h with h _;injection h with h;exact absurd h (by decide +kernel)
 | .row _,.word _,h=>by simp only[dat]at h;injection h with h;injection h with h _;injection h with h;exact absurd h (by decide +kernel)
 | .row _,.bag _,h=>by simp only[dat]at h;injection h with h;injection h with h _;injection h with h;exact absurd h (by decide +kernel)
 | .bag _,.num _,h=>by simp only[dat]at h;injection h with h;injection h with h _;injection h with h;exact absurd h (by decide +kernel)
 | .bag _,.word _,h=>by simp only[dat]at h;injection h with h;injection h with h _;injection h with h;exact absurd h (by decide +kernel)
 | .bag _,.row _,h=>by simp only[dat]at h;injection h with h;injection h with h _;injection h with h;exact absurd h (by decide +kernel)
theorem datR_inj:∀ {ps qs:List (Str×Val)},datR ps=datR qs->ps=qs
 | [],[],_=>rfl
 | [],q::qs,h=>by simp only[datR]at h;cases h
 | p::ps,[],h=>by simp only[datR]at h;cases h
 | p::ps,q::qs,h=>by
  simp only[datR]at h
  injection h with h1 h2
  injection h1 with h1
  injection h1 with h3 h4
  injection h3 with h3
  injection h4 with h4 _
  rw[datR_inj h2,Prod.ext h3 (dat_inj h4)]
theorem datB_inj:∀ {ps qs:List (Val×Int)},datB ps=datB qs->ps=qs
 | [],[],_=>rfl
 | [],q::qs,h=>by simp only[datB]at h;cases h
 | p::ps,[],h=>by simp only[datB]at h;cases h
 | p::ps,q::qs,h=>by
  simp only[datB]at h
  injection h with h1 h2
  injection h1 with h1
  injection h1 with h3 h4
  injection h4 with h4 _
  injection h4 with h4
  rw[datB_inj h2,Prod.ext (dat_inj h3) h4]
end
def Bd (b:Nat):Nat->Val->Prop
 | _,.num _=>True
 | _,.word s=>s.length<=100
 | 0,.row ps=>ps=[]
 | 0,.bag ps=>ps=[]
 | d+1,.row ps=>ps.length<=b/\∀ p∈ps,p.1.length<=100/\Bd b d p.2
 | d+1,.bag ps=>ps.length<=b/\∀ p∈ps,Bd b d p.1
theorem Bd.mono {b c:Nat} (h:b<=c):∀ {d:Nat}{x:Val},Bd b d x->Bd c d x
 | 0,.num _,_=>by simp only[Bd]
 | _+1,.num _,_=>by simp only[Bd]
 | 0,.word s,q=>by simp only[Bd]at q ⊢;exact q
 | _+1,.word s,q=>by simp only[Bd]at q ⊢;exact q
 | 0,.row ps,q=>by simp only[Bd]at q ⊢;exact q
 | 0,.bag ps,q=>by simp only[Bd]at q ⊢;exact q
 | d+1,.row ps,q=>by simp only[Bd]at q ⊢;exact⟨Nat.le_trans q.1 h,fun p hp=>⟨(q.2 p hp).1,Bd.mono h (q.2 p hp).2⟩⟩
 | d+1,.bag ps,q=>by simp only[Bd]at q ⊢;exact⟨Nat.le_trans q.1 h,fun p hp=>Bd.mono h (q.2 p hp)⟩
theorem Bd.up {b:Nat}:∀ {d:Nat}{x:Val},Bd b d x->Bd b (d+1) x
 | 0,.num _,_=>by simp only[Bd]
 | _+1,.num _,_=>by simp only[Bd]
 | 0,.word s,q=>by simp only[Bd]at q ⊢;exact q
 | _+1,.word s,q=>by simp only[Bd]at q ⊢;exact q
 | 0,.row ps,q=>by simp only[Bd]at q;subst q;simp [Bd]
 | 0,.bag ps,q=>by simp only[Bd]at q;subst q;simp [Bd]
 | d+1,.row ps,q=>by
  simp only[Bd]at q
  rw[Bd]
  exact⟨q.1,fun p hp=>⟨(q.2 p hp).1,Bd.up (q.2 p hp).2⟩⟩
 | d+1,.bag ps,q=>by
  simp only[Bd]at q
  rw[Bd]
  exact⟨q.1,fun p hp=>Bd.up (q.2 p hp)⟩
theorem bd_num {b d:Nat}{i:Int}:Bd b d (.num i):=by cases d <;> simp only[Bd]
theorem bd_word {b d:Nat}{s:Str} (h:s.length<=100):Bd b d (.word s):=by cases d <;> (simp only[Bd];exact h)
theorem depL_le {ds:List Dt}{n:Nat} (h:∀ d∈ds,d.dep<=n):depL ds<=n:=by
 induction ds with
 | nil=>rw[depL];exact Nat.zero_le _
 | cons d ds ih=>
  rw[depL]
  have h1:=h d List.mem_cons_self
  have h2:=ih fun e he=>h e (List.mem_cons_of_mem _ he)
  lia
theorem dep_two (a b:Dt):(Dt.tup [a,b]).dep=max a.dep b.dep+1:=by simp only[Dt.dep,depL];lia
theorem dep_dat {b:Nat}:∀ {d:Nat}{x:Val},Bd b d x->(dat x).dep<=3 * d+2
 | d,.num _,_=>by rw[dat,dep_two,Dt.dep,Dt.dep];lia
 | d,.word _,_=>by rw[dat,dep_two,Dt.dep,Dt.dep];lia
 | 0,.row ps,q=>by simp only[Bd]at q;subst q;rw[dat,dep_two,Dt.dep,datR,Dt.dep,depL];lia
 | 0,.bag ps,q=>by simp only[Bd]at q;subst q;rw[dat,dep_two,Dt.dep,datB,Dt.dep,depL];lia
 | d+1,.row ps,q=>by
  simp only[Bd]at q
  have h:depL (datR ps)<=3 * d+3:=by
   rw[datR_map]
   refine depL_le fun e he=>?_
   obtain⟨p,hp,rfl⟩:=List.mem_map.mp he
   have:=dep_dat (q.2 p hp).2
   rw[dep_two,Dt.dep]
   lia
  rw[dat,dep_two,Dt.dep,Dt.dep]
  lia
 | d+1,.bag ps,q=>by
  simp only[Bd]at q
  have h:depL (datB ps)<=3 * d+3:=by
   rw[datB_map]
   refine depL_le fun e he=>?_
   obtain⟨p,hp,rfl⟩:=List.mem_map.mp he
   have:=dep_dat (q.2 p hp)
   rw[dep_two,Dt.dep]
   lia
  rw[dat,dep_two,Dt.dep,Dt.dep]
  lia
theorem keyR_len {ps:List (Str×Val)}{n:Nat} (h:∀ p∈ps,(key p.2).length<=n):(keyR ps).length<=1+ps.length * (n+2):=by
 induction ps with
 | nil=>simp [keyR]
 | cons p ps ih=>
  have h1:=h p List.mem_cons_self
  have h2:=ih fun e he=>h e (List.mem_cons_of_mem _ he)
  rw[keyR]
  simp only[List.length_cons,List.length_append]
  rw[Nat.succ_mul]
  lia
theorem keyB_len {ps:List (Val×Int)}{n:Nat} (h:∀ p∈ps,(key p.1).length<=n):(keyB ps).length<=1+ps.length * (n+2):=by
 induction ps with
 | nil=>simp [keyB]
 | cons p ps ih=>
  have h1:=h p List.mem_cons_self
  have h2:=ih fun e he=>h e (List.mem_cons_of_mem _ he)
  rw[keyB]
  simp only[List.length_cons,List.length_append]
  rw[Nat.succ_mul]
  lia
theorem pow8 (d:Nat):1<=8 ^ d:=Nat.one_le_pow _ _ (by decide)
theorem key_len:∀ {d:Nat}{x:Val},Bd 7 d x->(key x).length<=16 * 8 ^ d
 | d,.num _,_=>by have:=pow8 d;rw[key];show 2<=_;lia
 | d,.word _,_=>by have:=pow8 d;rw[key];show 2<=_;lia
 | 0,.row ps,q=>by simp only[Bd]at q;subst q;simp [key,keyR]
 | 0,.bag ps,q=>by simp only[Bd]at q;subst q;simp [key,keyB]
 | d+1,.row ps,q=>by
  simp only[Bd]at q
  have h:=keyR_len (n:=16 * 8 ^ d) fun p hp=>key_len (q.2 p hp).2
  have h2:ps.length * (16 * 8 ^ d+2)<=7 * (16 * 8 ^ d+2):=Nat.mul_le_mul_right _ q.1
  have h3:=pow8 d
  have h4:8 ^ (d+1)=8 ^ d * 8:=Nat.pow_succ ..
  rw[key,List.length_cons]
  lia
 | d+1,.bag ps,q=>by
  simp only[Bd]at q
  have h:=keyB_len (n:=16 * 8 ^ d) fun p hp=>key_len (q.2 p hp)
  have h2:ps.length * (16 * 8 ^ d+2)<=7 * (16 * 8 ^ d+2):=Nat.mul_le_mul_right _ q.1
  have h3:=pow8 d
  have h4:8 ^ (d+1)=8 ^ d * 8:=Nat.pow_succ ..
  rw[key,List.length_cons]
  lia
def IsVal (H:Hp) (x:Val) (v:V):Prop:=IsDt H (dat x) v
end Kn
end
section
namespace Kn
open PySem L2
def cod (l:List Str):List Nat:=l.flatMap fun s=>s.cps.toList
theorem cod_cons (s:Str) (l:List Str):cod (s::l)=s.cps.toList++cod l:=List.flatMap_cons
theorem cps_app (a b:Str):(a++b).cps.toList=a.cps.toList++b.cps.toList:=by
 show (a.cps++b.cps).toList=_
 rw[Array.toList_append]
theorem s_lt:(Str.ofString "<").cps.toList=[60]:=by decide +kernel
theorem s_gt:(Str.ofString ">").cps.toList=[62]:=by decide +kernel
theorem s_lb:(Str.ofString "{").cps.toList=[123]:=by decide +kernel
theorem s_rb:(Str.ofString "}").cps.toList=[125]:=by decide +kernel
theorem s_cs:(Str.ofString ", ").cps.toList=[44,32]:=by decide +kernel
theorem s_co:(Str.ofString ": ").cps.toList=[58,32]:=by decide +kernel
theorem glue_cod (g:Str):∀ (ps:List Str) (acc:Array Nat),(ps.foldl (fun acc p=>acc++g.cps++p.cps) acc).toList=acc.toList++ps.flatMap fun p=>g.cps.toList++p.cps.toList
 | [],acc=>by simp
 | p::ps,acc=>by
  rw[List.foldl_cons,glue_cod g ps,List.flatMap_cons,Array.toList_append,Array.toList_append]
  simp [List.append_assoc]
theorem join_cod (g:Str) (p:Str) (ps:List Str):(Txt.join g (p::ps)).cps.toList=p.cps.toList++ps.flatMap fun q=>g.cps.toList++q.cps.toList:=by
 show (((p::ps).drop 1).foldl (fun acc p=>acc++g.cps++p.cps) ((p::ps).headD Str.empty).cps).toList=_
 rw[glue_cod]
 rfl
theorem join_nil (g:Str):(Txt.join g []).cps.toList=[]:=by
 show (([]:List Str).foldl (fun acc p=>acc++g.cps++p.cps) Str.empty.cps).toList=_
 rfl
theorem join_empty (ps:List Str):(Txt.join (Str.ofString "") ps).cps.toList=cod ps:=by
 have e:(Str.ofString "").cps.toList=[]:=by decide +kernel
 cases ps with
 | nil=>rw[join_nil];rfl
 | cons p ps=>rw[join_cod,e,cod_cons];rfl
end Kn
end
section
namespace Kn
open PySem L2
inductive Pt where
 | k (e:KE)
 | v (x:Val)
def Pt.key:Pt->List KE
 | .k e=>[e]
 | .v x=>Kn.key x
def flatK (ps:List Pt):List KE:=ps.flatMap Pt.key
def ptsR:List (Str×Val)->List Pt
 | []=>[.k (.i 0)]
 | p::ps=>.k (.i 1)::.k (.s p.1)::.v p.2::ptsR ps
def ptsB:List (Val×Int)->List Pt
 | []=>[.k (.i 0)]
 | p::ps=>.k (.i 1)::.v p.1::.k (.i p.2)::ptsB ps
def pts:Val->List Pt
 | .num i=>[.k (.i 0),.k (.i i)]
 | .word s=>[.k (.i 1),.k (.s s)]
 | .row ps=>.k (.i 2)::ptsR ps
 | .bag ps=>.k (.i 3)::ptsB ps
theorem flat_R (ps:List (Str×Val)):flatK (ptsR ps)=keyR ps:=by
 induction ps with
 | nil=>rw[ptsR,keyR];rfl
 | cons p ps ih=>rw[ptsR,keyR,<- ih];simp [flatK,Pt.key]
theorem flat_B (ps:List (Val×Int)):flatK (ptsB ps)=keyB ps:=by
 induction ps with
 | nil=>rw[ptsB,keyB];rfl
 | cons p ps ih=>rw[ptsB,keyB,<- ih];simp [flatK,Pt.key]
theorem flat_pts (x:Val):flatK (pts x)=key x:=by
 cases x with
 | num i=>rw[pts,key];rfl
 | word s=>rw[pts,key];rfl
 | row ps=>rw[pts,key,<- flat_R];rfl
 | bag ps=>rw[pts,key,<- flat_B];rfl
theorem key_pos (x:Val):1<=(key x).length:=by cases x <;> rw[key] <;> simp
def Pt.ms:Pt->Nat
 | .k _=>1
 | .v x=>2 * (Kn.key x).length
def msL (ps:List Pt):Nat:=(ps.map Pt.ms).sum
theorem msL_app (a b:List Pt):msL (a++b)=msL a+msL b:=by simp [msL]
theorem msL_rev (a:List Pt):msL a.reverse=msL a:=by simp [msL]
theorem msL_le (ps:List Pt):msL ps<=2 * (flatK ps).length:=by
 induction ps with
 | nil=>simp [msL,flatK]
 | cons p ps ih=>
  have e1:msL (p::ps)=p.ms+msL ps:=by simp [msL]
  have e2:(flatK (p::ps)).length=p.key.length+(flatK ps).length:=by simp [flatK]
  have e3:p.ms<=2 * p.key.length:=by cases p <;> simp [Pt.ms,Pt.key]
  lia
theorem ms_pts (x:Val):msL (pts x)<2 * (key x).length:=by
 have h:∀ (e:KE) (r:List Pt),pts x=.k e::r->msL (pts x)<2 * (key x).length:=fun e r q=>by
  have e0:=flat_pts x
  rw[q]at e0 ⊢
  have e1:msL (.k e::r)=1+msL r:=by simp [msL,Pt.ms]
  have e2:(flatK (.k e::r)).length=1+(flatK r).length:=by simp [flatK,Pt.key];lia
  have e3:=msL_le r
  rw[<- e0,e1,e2]
  lia
 cases x with
 | num i=>exact h _ _ (by rw[pts])
 | word s=>exact h _ _ (by rw[pts])
 | row ps=>exact h _ _ (by rw[pts])
 | bag ps=>exact h _ _ (by rw[pts])
theorem pts_len (ps:List Pt):ps.length<=(flatK ps).length:=by
 induction ps with
 | nil=>simp [flatK]
 | cons p ps ih=>
  have e2:(flatK (p::ps)).length=p.key.length+(flatK ps).length:=by simp [flatK]
  have e3:1<=p.key.length:=by cases p with | k e=>simp [Pt.key] | v x=>exact key_pos x
  rw[List.length_cons]
  lia
def IsPt (H:Hp):Pt->V->Prop
 | .k e,v=>v=kv e
 | .v x,v=>IsVal H x v
def IsPts (H:Hp):List Pt->List V->Prop
 | [],us=>us=[]
 | p::ps,us=>∃ y ys,us=y::ys/\IsPt H p y/\IsPts H ps ys
theorem IsPt.mono {H H':Hp} (t:Tups H H') {p:Pt}{v:V} (h:IsPt H p v):IsPt H' p v:=by
 cases p with
 | k e=>exact h
 | v x=>exact IsDt.mono t h
theorem IsPts.mono {H H':Hp} (t:Tups H H'):∀ {ps:List Pt}{us:List V},IsPts H ps us->IsPts H' ps us
 | [],us,h=>h
 | p::ps,us,h=>let ⟨y,ys,e,h1,h2⟩:=h;⟨y,ys,e,h1.mono t,h2.mono t⟩
theorem IsPts.append {H:Hp}:∀ {ps qs:List Pt}{us vs:List V},IsPts H ps us->IsPts H qs vs->IsPts H (ps++qs) (us++vs)
 | [],qs,us,vs,h,h'=>by rw[show us=[] from h];exact h'
 | p::ps,qs,us,vs,h,h'=>by
  obtain⟨y,ys,rfl,h1,h2⟩:=h
  exact⟨y,ys++vs,rfl,h1,h2.append h'⟩
theorem IsPts.reverse {H:Hp}:∀ {ps:List Pt}{us:List V},IsPts H ps us->IsPts H ps.reverse us.reverse
 | [],us,h=>by rw[show us=[] from h];rfl
 | p::ps,us,h=>by
  obtain⟨y,ys,rfl,h1,h2⟩:=h
  rw[List.reverse_cons,List.reverse_cons]
  exact h2.reverse.append ⟨y,[],rfl,h1,rfl⟩
theorem IsPts.length {H:Hp}:∀ {ps:List Pt}{us:List V},IsPts H ps us->us.length=ps.length
 | [],us,h=>by rw[show us=[] from h];rfl
 | p::ps,us,h=>by
  obtain⟨y,ys,rfl,h1,h2⟩:=h
  simp [h2.length]
theorem IsPts.last {H:Hp}{ps:List Pt}{p:Pt}{us:List V} (h:IsPts H (ps++[p]) us):∃ ys y,us=ys++[y]/\IsPts H ps ys/\IsPt H p y:=by
 induction ps generalizing us with
 | nil=>
  obtain⟨y,ys,rfl,h1,h2⟩:=h
  rw[show ys=[] from h2]
  exact⟨[],y,rfl,rfl,h1⟩
 | cons q ps ih=>
  obtain⟨y,ys,rfl,h1,h2⟩:=h
  obtain⟨zs,z,rfl,a,b⟩:=ih h2
  exact⟨y::zs,z,rfl,⟨y,zs,rfl,h1,a⟩,b⟩
def rankS (s:Str):Option Int:=if s="num" then some 0 else if s="word" then some 1 else if s="row" then some 2 else if s="bag" then some 3 else none
def rRank (a:Addr):R2:=fun x y H Q=>∃ s i,x=.ref a/\y=.str s/\rankS s=some i/\Q (.int i) H
def tagS:Val->Str
 | .num _=>"num"
 | .word _=>"word"
 | .row _=>"row"
 | .bag _=>"bag"
def restD:Val->Dt
 | .num i=>.int i
 | .word s=>.str s
 | .row ps=>.tup (datR ps)
 | .bag ps=>.tup (datB ps)
theorem dat_two (x:Val):dat x=.tup [.str (tagS x),restD x]:=by cases x <;> rw[dat] <;> rfl
theorem IsVal.two {H:Hp}{x:Val}{v:V} (h:IsVal H x v):∃ a w,v=.ref a/\H a=some (.tup [.str (tagS x),w])/\IsDt H (restD x) w:=by
 unfold IsVal at h
 rw[dat_two,IsDt]at h
 obtain⟨a,xs,e,h1,h2⟩:=h
 rw[IsDts]at h2
 obtain⟨y,ys,rfl,h3,h4⟩:=h2
 rw[IsDts]at h4
 obtain⟨w,zs,rfl,h5,h6⟩:=h4
 rw[IsDts]at h6
 subst h6
 rw[IsDt]at h3
 subst h3
 exact⟨a,w,e,h1,h5⟩
theorem rank_tag (x:Val):rankS (tagS x)=some (rank x):=by
 cases x with
 | num i=>show rankS "num"=some 0;decide +kernel
 | word i=>show rankS "word"=some 1;decide +kernel
 | row i=>show rankS "row"=some 2;decide +kernel
 | bag i=>show rankS "bag"=some 3;decide +kernel
end Kn
end
section
namespace Kn
open PySem L2
theorem ahead_self (x:Val):aheadB x x=false:=by unfold aheadB;rw[if_pos rfl]
theorem ahead_ne {x y:Val} (h:x≠y):aheadB x y=ltV x y:=by unfold aheadB;rw[if_neg h]
theorem ahead_tag {x y:Val} (h:tagS x≠tagS y):aheadB x y=decide (rank x<rank y):=by
 have ne:x≠y:=fun z=>h (by rw[z])
 rw[ahead_ne ne]
 cases x <;> cases y <;> first
  | exact absurd rfl h
  | simp [ltV]
theorem ltR_at:∀ {ps qs:List (Str×Val)}{i:Nat}{p q:Str×Val},ps.take i=qs.take i->ps[i]?=some p->qs[i]?=some q->p≠q->ltR ps qs=if p.1=q.1 then ltV p.2 q.2 else sLt p.1 q.1
 | [],qs,i,p,q,_,h,_,_=>by simp at h
 | _::_,[],i,p,q,_,_,h,_=>by simp at h
 | a::ps,b::qs,0,p,q,_,h1,h2,hn=>by
  simp at h1 h2
  subst h1 h2
  rw[ltR,if_neg hn]
 | a::ps,b::qs,i+1,p,q,h,h1,h2,hn=>by
  rw[List.take_succ_cons,List.take_succ_cons]at h
  injection h with e1 e2
  subst e1
  rw[ltR,if_pos rfl]
  exact ltR_at e2 (by simpa using h1) (by simpa using h2) hn
theorem ltR_end:∀ {ps qs:List (Str×Val)},ps.take (min ps.length qs.length)=qs.take (min ps.length qs.length)->ltR ps qs=decide (ps.length<qs.length)
 | [],[],_=>by rw[ltR];rfl
 | [],q::qs,_=>by rw[ltR];simp
 | p::ps,[],_=>by rw[ltR];simp
 | p::ps,q::qs,h=>by
  have e:min (p::ps).length (q::qs).length=min ps.length qs.length+1:=by simp only[List.length_cons];lia
  rw[e,List.take_succ_cons,List.take_succ_cons]at h
  injection h with e1 e2
  subst e1
  rw[ltR,if_pos rfl,ltR_end e2]
  simp
theorem ltB_at:∀ {ps qs:List (Val×Int)}{i:Nat}{p q:Val×Int},ps.take i=qs.take i->ps[i]?=some p->qs[i]?=some q->p≠q->ltB ps qs=if p.1=q.1 then decide (p.2<q.2) else ltV p.1 q.1
 | [],qs,i,p,q,_,h,_,_=>by simp at h
 | _::_,[],i,p,q,_,_,h,_=>by simp at h
 | a::ps,b::qs,0,p,q,_,h1,h2,hn=>by
  simp at h1 h2
  subst h1 h2
  rw[ltB,if_neg hn]
 | a::ps,b::qs,i+1,p,q,h,h1,h2,hn=>by
  rw[List.take_succ_cons,List.take_succ_cons]at h
  injection h with e1 e2
  subst e1
  rw[ltB,if_pos rfl]
  exact ltB_at e2 (by simpa using h1) (by simpa using h2) hn
theorem ltB_end:∀ {ps qs:List (Val×Int)},ps.take (min ps.length qs.length)=qs.take (min ps.length qs.length)->ltB ps qs=decide (ps.length<qs.length)
 | [],[],_=>by rw[ltB];rfl
 | [],q::qs,_=>by rw[ltB];simp
 | p::ps,[],_=>by rw[ltB];simp
 | p::ps,q::qs,h=>by
  have e:min (p::ps).length (q::qs).length=min ps.length qs.length+1:=by simp only[List.length_cons];lia
  rw[e,List.take_succ_cons,List.take_succ_cons]at h
  injection h with e1 e2
  subst e1
  rw[ltB,if_pos rfl,ltB_end e2]
  simp
theorem pick (b:Bool):atI [V.int 1,V.int (-1)] (if b=true then 1 else 0)=some (.int (if b=true then -1 else 1)):=by cases b <;> rfl
theorem pick_lt (b:Bool):decide ((if b=true then (-1:Int) else 1)<0)=b:=by cases b <;> rfl
inductive Pr where
 | r (f:Str) (x:Val)
 | b (x:Val) (n:Int)
def Pr.dat:Pr->Dt
 | .r f x=>.tup [.str f,Kn.dat x]
 | .b x n=>.tup [Kn.dat x,.int n]
def Pr.tag:Pr->Str
 | .r _ _=>"row"
 | .b _ _=>"bag"
noncomputable def Pr.lt:Pr->Pr->Bool
 | .r f x,.r g y=>if f=g then ltV x y else sLt f g
 | .b x n,.b y m=>if x=y then decide (n<m) else ltV x y
 | _,_=>false
end Kn
end
section
namespace Kn
open PySem L2
def TKN:List Str:=[Str.ofString "num",Str.ofString "word",Str.ofString "row",Str.ofString "bag",Str.ofString "var",Str.ofString "table",Str.ofString "at",Str.ofString "add",Str.ofString "mul",Str.ofString "none",Str.ofString "one",Str.ofString "both",Str.ofString "times",Str.ofString "for",Str.ofString "when",Str.ofString "let",Str.ofString "same",Str.ofString "under",Str.ofString "and",Str.ofString "or",Str.ofString "not"]
def nmOk (s:Str):Prop:=1<=s.length/\s.length<=8/\lets s/\s ∉ TKN
def riseS:List Str->Prop
 | []=>True
 | [_]=>True
 | a::b::r=>a.cps.toList<b.cps.toList/\riseS (b::r)
theorem rise_of:∀ {l:List Str},PyProof.Rows.sortedS l=true->l.Nodup->riseS l
 | [],_,_=>by rw[riseS];trivial
 | [_],_,_=>by rw[riseS];trivial
 | a::b::r,h,nd=>by
  have h':PyProof.Rows.risingS a (b::r)=true:=h
  rw[PyProof.Rows.risingS,Bool.and_eq_true]at h'
  rw[List.nodup_cons]at nd
  refine⟨?_,rise_of (l:=b::r) h'.2 nd.2⟩
  have h1:¬b.cps.toList<a.cps.toList:=by
   have:=h'.1
   rw[PyProof.Rows.ltCps_eq]at this
   simpa using this
  have ne:a≠b:=fun z=>nd.1 (by rw[z];exact List.mem_cons_self)
  refine Classical.byContradiction fun q=>ne ?_
  have e:=List.le_antisymm (List.not_lt.mp h1) (List.not_lt.mp q)
  cases a;cases b
  congr 1
  exact Array.toList_inj.mp e
def numS (i:Int):Str:=Str.ofString (toString i)
end Kn
end
section
namespace Kn
open PySem L2
mutual
def vsz:Val->Nat
 | .num _=>1
 | .word _=>1
 | .row ps=>1+vszR ps
 | .bag ps=>1+vszB ps
def vszR:List (Str×Val)->Nat
 | []=>0
 | p::ps=>vsz p.2+vszR ps
def vszB:List (Val×Int)->Nat
 | []=>0
 | p::ps=>vsz p.1+vszB ps
end
theorem vszR_map (ps:List (Str×Val)):vszR ps=(ps.map fun p=>vsz p.2).sum:=by
 induction ps with
 | nil=>rw[vszR];rfl
 | cons p ps ih=>rw[vszR,ih];rfl
theorem vszB_map (ps:List (Val×Int)):vszB ps=(ps.map fun p=>vsz p.1).sum:=by
 induction ps with
 | nil=>rw[vszB];rfl
 | cons p ps ih=>rw[vszB,ih];rfl
theorem vsz_pos (x:Val):1<=vsz x:=by cases x <;> rw[vsz] <;> lia
mutual
def Gv (N C:Nat):Val->Prop
 | .num i=>i.natAbs<N
 | .word s=>nmOk s/\s.length<=9
 | .row ps=>riseS (ps.map (·.1))/\GvR N C ps
 | .bag ps=>(Rise ps/\∀ q∈ps,q.2≠0)/\GvB N C ps
def GvR (N C:Nat):List (Str×Val)->Prop
 | []=>True
 | p::ps=>(nmOk p.1/\p.1.length<=9/\Gv N C p.2)/\GvR N C ps
def GvB (N C:Nat):List (Val×Int)->Prop
 | []=>True
 | p::ps=>(Gv N C p.1/\p.2.natAbs<C)/\GvB N C ps
end
theorem GvR_mem {N C:Nat}{ps:List (Str×Val)}:GvR N C ps ↔ ∀ p∈ps,nmOk p.1/\p.1.length<=9/\Gv N C p.2:=by
 induction ps with
 | nil=>simp [GvR]
 | cons p ps ih=>rw[GvR,ih];simp
theorem GvB_mem {N C:Nat}{ps:List (Val×Int)}:GvB N C ps ↔ ∀ p∈ps,Gv N C p.1/\p.2.natAbs<C:=by
 induction ps with
 | nil=>simp [GvB]
 | cons p ps ih=>rw[GvB,ih];simp
mutual
theorem Gv.mono {N C N' C':Nat} (hN:N<=N') (hC:C<=C'):∀ {x:Val},Gv N C x->Gv N' C' x
 | .num i,h=>by rw[Gv]at *;lia
 | .word s,h=>by rw[Gv]at *;exact h
 | .row ps,h=>by rw[Gv]at *;exact⟨h.1,GvR.mono hN hC h.2⟩
 | .bag ps,h=>by rw[Gv]at *;exact⟨h.1,GvB.mono hN hC h.2⟩
theorem GvR.mono {N C N' C':Nat} (hN:N<=N') (hC:C<=C'):∀ {ps:List (Str×Val)},GvR N C ps->GvR N' C' ps
 | [],_=>by rw[GvR];trivial
 | p::ps,h=>by rw[GvR]at *;exact⟨⟨h.1.1,h.1.2.1,Gv.mono hN hC h.1.2.2⟩,GvR.mono hN hC h.2⟩
theorem GvB.mono {N C N' C':Nat} (hN:N<=N') (hC:C<=C'):∀ {ps:List (Val×Int)},GvB N C ps->GvB N' C' ps
 | [],_=>by rw[GvB];trivial
 | p::ps,h=>by rw[GvB]at *;exact⟨⟨Gv.mono hN hC h.1.1,by lia⟩,GvB.mono hN hC h.2⟩
end
theorem dg_len {i:Int} (h:i.natAbs<10 ^ 34):(dg i).length<=35:=by
 cases i with
 | ofNat m=>
  rw[show Int.ofNat m=(m:Int) from rfl,dg_pos,List.length_map]
  have h':m<10 ^ 34:=h
  have:=(Nat.length_toDigits_le_iff (b:=10) (n:=m) (k:=34) (by decide) (by decide)).mpr h'
  lia
 | negSucc m=>
  rw[dg_neg,List.length_cons,List.length_map]
  have h':m+1<10 ^ 34:=h
  have:=(Nat.length_toDigits_le_iff (b:=10) (n:=m+1) (k:=34) (by decide) (by decide)).mpr h'
  lia
theorem log_of {i:Int} (h:i.natAbs<10 ^ 34):i.natAbs.log2<1920:=by
 by_cases h0:i.natAbs=0
 ·rw[h0];decide
 ·have h1:i.natAbs<2 ^ 1920:=Nat.lt_of_lt_of_le h (Nat.le_trans (show 10 ^ 34<=2 ^ 113 by decide) (Nat.pow_le_pow_right (by decide) (by decide)))
  exact (Nat.log2_lt h0).mpr h1
theorem cn_len {i:Int} (h:i.natAbs<10 ^ 34):(cn i).length<=38:=by
 have:=dg_len h
 unfold cn
 split
 ·simp
 ·simp;lia
mutual
theorem enc_len:∀ {x:Val},Gv (10 ^ 34) (10 ^ 34) x->(enc x).length+45<=100 * vsz x
 | .num i,h=>by rw[Gv]at h;have:=dg_len h;rw[enc,vsz];lia
 | .word s,h=>by
  rw[Gv]at h
  have:s.cps.toList.length<=9:=h.2
  rw[enc,vsz,List.length_cons];lia
 | .row ps,h=>by
  rw[Gv]at h
  have:=encR_len h.2 true
  rw[enc,vsz,List.length_cons];lia
 | .bag ps,h=>by
  rw[Gv]at h
  have:=encB_len h.2 true
  rw[enc,vsz,List.length_cons];lia
theorem encR_len:∀ {ps:List (Str×Val)},GvR (10 ^ 34) (10 ^ 34) ps->∀ b,(encR b ps).length<=1+100 * vszR ps
 | [],_,b=>by rw[encR];simp
 | p::ps,h,b=>by
  rw[GvR]at h
  have h1:=enc_len h.1.2.2
  have h3:=encR_len h.2 false
  have h4:(sepB b).length<=2:=by cases b <;> decide
  have h5:p.1.cps.toList.length<=9:=h.1.2.1
  rw[encR,vszR]
  simp only[List.length_append,List.length_cons]
  lia
theorem encB_len:∀ {ps:List (Val×Int)},GvB (10 ^ 34) (10 ^ 34) ps->∀ b,(encB b ps).length<=1+100 * vszB ps
 | [],_,b=>by rw[encB];simp
 | p::ps,h,b=>by
  rw[GvB]at h
  have h1:=enc_len h.1.1
  have h2:=cn_len h.1.2
  have h3:=encB_len h.2 false
  have h4:(sepB b).length<=2:=by cases b <;> decide
  rw[encB,vszB]
  simp only[List.length_append]
  lia
end
theorem s_st:(Str.ofString " * ").cps.toList=[32,42,32]:=by decide +kernel
theorem s_qu:(Str.ofString "'").cps.toList=[39]:=by decide +kernel
end Kn
end
section
namespace L2
open PySem PySem.Spec PyProof.Rows
section
variable {prog:Program}{w:World}{A:Around}{E:Value->Shared->Prop}{s:Shared}{a:Addr}{zs:List Str}
end
end L2
end
section
namespace L2
open PySem PySem.Spec PyProof.Rows
section
variable {prog:Program}{w:World}{A:Around}{R:Result->Shared->Prop}{I:Addr}{fp wr:List Addr}{G:Array GenState->Array GenState->Prop}{n:Nat}{P:Nat->Value->Prop}{St:Nat->Shared->Prop}
end
section
variable {prog:Program}{w:World}{A:Around}{E:Value->Shared->Prop}{s:Shared}
end
end L2
end
section
namespace L2
open PySem PySem.Spec PyProof.Rows
theorem erase_perm {α:Type}:∀ (l:List α) (i:Nat) (h:i<l.length),(l[i]::l.eraseIdx i).Perm l
 | x::l,0,_=>.refl _
 | x::l,i+1,h=>by
  have hi:i<l.length:=by simpa using h
  have:=erase_perm l i hi
  show (l[i]::x::l.eraseIdx i).Perm (x::l)
  exact (List.Perm.swap x l[i] _).trans (List.Perm.cons x this)
section
variable {M:Model}{prog:Program}{w:World}{A:Around}{E:Value->Shared->Prop}{s:Shared}
end
end L2
end
section
namespace L2
open PySem PySem.Spec PyProof.Rows PySem.W
section
variable {prog:Program}{w:World}{A:Around}{E:Value->Shared->Prop}{s:Shared}
end
end L2
end
section
namespace L2
open PySem PySem.Spec PyProof.Rows PySem.W
section
variable {prog:Program}{w:World}{A:Around}{E:Value->Shared->Prop}{s:Shared}
end
end L2
end
section
namespace L2
open PySem PySem.Spec PyProof.Rows
theorem bt_all:bootBuiltins "all"=some (.builtin "all"):=by decide +kernel
section
variable {X:Cx}
end
end L2
end
section
namespace L2
open PySem PySem.Spec PyProof.Rows
section
variable {X:Cx}
end
section
variable {H:Hp}{p c:Addr}{cs:List Int}{n r t:Int}{kn:Option Int}{kvs:List (Key×V)}
end
def Ex (p:Addr) (H H':Hp):Prop:=∀ b o,b≠p->H b=some o->H' b=some o
theorem Ex.refl (p:Addr) (H:Hp):Ex p H H:=fun _ _ _ h=>h
theorem Ex.trans {p:Addr}{H H1 H2:Hp} (a:Ex p H H1) (b:Ex p H1 H2):Ex p H H2:=fun c o n h=>b c o n (a c o n h)
theorem ex_upd {p:Addr}{H:Hp}{o:HO}:Ex p H (upd H p o):=fun b u n h=>by rw[upd_ne n];exact h
theorem ex_new {p q:Addr}{H:Hp}{o:HO} (h:H q=none):Ex p H (upd H q o):=fun b u n e=>by rw[upd_ne (ne_of_none e h)];exact e
theorem Ex.upd' {p c:Addr}{H H':Hp}{o:HO} (e:Ex p H H') (h:H c=none):Ex p H (upd H' c o):=fun b q n z=>by rw[upd_ne (ne_of_none z h)];exact e b q n z
end L2
end
section
namespace L2
open PySem PySem.Spec PyProof.Rows
section
variable {X:Cx}
end
end L2
end
section
namespace L2
open PySem PySem.Spec PyProof.Rows PyProof.V
section
variable {X:Cx}
variable {pos:Pos}
end
end L2
end
section
namespace L2
open PySem PySem.Spec PyProof.Rows
section
variable {X:Cx}{pos pos' apos:Pos}{o e value:Expr}{es:List Expr}{f:Str}{ta tv to te:TE}{tA:TA}
theorem we_fld (he:Hd (PE X e ta)) (hb:attributeBase e f X.env (eval e X.env)=eval e X.env:=by rfl):Hd (PE X (.Attribute e f pos) (tFld X.K ta f)):=⟨pe_fld he.out hb⟩
theorem ws_fld (ha:Hd (PE X o ta)) (hv:Hd (PE X value tv)) (hs:swapsWith value (some (.Attribute o f pos')) pos.line X.env=pure false:=by rfl):Hd (PS X (.Assign [.Attribute o f pos'] value pos) (sFld X.K ta tv f)):=⟨ps_fld ha.out hv.out hs⟩
theorem we_meth {CX:CXT}{k:Nat}{C fa:Addr}{fd:FuncData}{ps:List Str}{sp:Sp}{dvs:List V}{ds:List Value}{E:XK}{m:Str}{pl:Sem Bool} (he:Hd (PE X o ta)) (c:Cls X.K C) (hm:Meth X.K C m fa) (F:FnOk X.prog X.w X.K X.mg X.base CX k fa fd ps sp) (hr:Room k X.A) (hb:Binds X.K fd ps ds) (hd:Vals dvs ds) (hx:Passes CX X E)
  (ha:Hd (PA X (e::es) tA)) (hs:noStars (e::es)=true:=by rfl) (ht:eval (.Call (.Attribute o m apos) (e::es) [] pos) X.env=(do
   let ov <- eval o X.env
   standAt apos.atName
   let (f,first) <- holding [ov] (getMethod ov m pl)
   callWith pos f first (backTo pos (starEach (e::es) X.env)) (backToKw pos (keywordEach [] X.env))):=by rfl):Hd (PE X (.Call (.Attribute o m apos) (e::es) [] pos) (tMeth C m sp dvs E ta tA)):=by
 have h':(notStar e && noStars es)=true:=hs
 rw[Bool.and_eq_true]at h'
 exact⟨pe_meth he.out c hm F hr hb hd hx ha.out (star_cons h'.1) (stars_any h'.2) ht⟩
theorem we_meth0 {CX:CXT}{k:Nat}{C fa:Addr}{fd:FuncData}{ps:List Str}{sp:Sp}{dvs:List V}{ds:List Value}{E:XK}{m:Str}{pl:Sem Bool} (he:Hd (PE X o ta)) (c:Cls X.K C) (hm:Meth X.K C m fa) (F:FnOk X.prog X.w X.K X.mg X.base CX k fa fd ps sp) (hr:Room k X.A) (hb:Binds X.K fd ps ds) (hd:Vals dvs ds) (hx:Passes CX X E)
  (ht:eval (.Call (.Attribute o m apos) [] [] pos) X.env=(do
   let ov <- eval o X.env
   standAt apos.atName
   let (f,first) <- holding [ov] (getMethod ov m pl)
   callWith pos f first (backTo pos (starEach [] X.env)) (backToKw pos (keywordEach [] X.env))):=by rfl):Hd (PE X (.Call (.Attribute o m apos) [] [] pos) (tMeth C m sp dvs E ta tNil)):=⟨pe_meth0 he.out c hm F hr hb hd hx ht⟩
theorem we_make {CX:CXT}{k:Nat}{C fa:Addr}{fd:FuncData}{ps:List Str}{sp:Sp}{dvs:List V}{ds:List Value}{E:XK}{x:Str}{p:Pos} (M:Mk X.K C fa) (F:FnOk X.prog X.w X.K X.mg X.base CX k fa fd ps sp) (hr:Room (k+1) X.A) (hg:Gl X x) (hm:X.mg x=some (.ref C)) (hb:Binds X.K fd ps ds) (hd:Vals dvs ds) (hx:Passes CX X E)
  (ha:Hd (PA X (e::es) tA)) (hs:noStars (e::es)=true:=by rfl) (hdb:(x == ("__debug__" : Str))=false:=by decide):Hd (PE X (.Call (.Name x p) (e::es) [] pos) (tMake C sp dvs E tA)):=by
 have h':(notStar e && noStars es)=true:=hs
 rw[Bool.and_eq_true]at h'
 exact⟨pe_make M F hr hg hm hb hd hx ha.out hdb (star_cons h'.1) (stars_any h'.2)⟩
theorem we_chain {a b c:Expr}{tb tc:TE}{op op':CmpOp}{r r':R2} (ho:OpR X (compareOp op) r) (ho':OpR X (compareOp op') r') (ha:Hd (PE X a ta)) (hb:Hd (PE X b tb)) (hc:Hd (PE X c tc)) (hm:lastMarks [op,op'] [b,c]=false:=by with_unfolding_all rfl) :
  Hd (PE X (.Compare a [op,op'] [b,c] pos) (tChain r r' ta tb tc)):=⟨pe_chain ho ho' ha.out hb.out hc.out hm⟩
theorem ws_dead {st:Stmt}:Hd (PS X st (fun _ _ _=>False)):=⟨fun _ _ _ _ _ _ h=>h.elim⟩
theorem vals_get:∀ {xs:List V}{us:List Value}{i:Nat}{v:Value},Vals xs us->us[i]?=some v->∃ x,xs[i]?=some x/\RelV x v
 | _,_,i,v,.nil,e=>by simp at e
 | _,_,0,v,.cons r _,e=>by simp at e;subst e;exact⟨_,rfl,r⟩
 | _,_,i+1,v,.cons _ t,e=>by
  obtain⟨x,h1,h2⟩:=vals_get (i:=i) t (by simpa using e)
  exact⟨x,by simpa using h1,h2⟩
def rAll (K:PySem.W.Frag):List V->Hp->VK->Prop:=fun ws H Q=>∃ (p:Addr) (bs:List Bool),ws=[.ref p]/\SqL K H p (bs.map V.bl)/\Q (.bl (bs.all id)) H
theorem call_all (hc:X.calm=true):CallR X (.builtin "all") (rAll X.K):=by
 intro pins s σ H ws us Q I r h
 obtain⟨p,bs,rfl,hq,q⟩:=h
 obtain⟨u,rfl,ru⟩:=r.one
 cases ru
 have hh:=I.ok.hd hc
 obtain⟨its,rv,pl,_⟩:=I.list hq
 have hl:s.heap.IsList p its.toArray:=pl.isList
 obtain⟨ob,o1,o2,k,o3⟩:=id hl
 have ne:p≠s.heap.objs.size:=Nat.ne_of_lt (Heap.lt_size o1)
 have W:=(Walks.list (prog:=X.prog) (w:=X.w) (A:=X.A.in1) hh s.heap.objs.size p ne its.toArray).toS
 have lb:its.length=bs.length:=by have:=rv.length;rw[List.length_map]at this;exact this.symm
 have bv:∀ (i:Nat) (v:Value),its.toArray[i]?=some v->v=.bool (bs.getD i false):=fun i v e=>by
  have e':its[i]?=some v:=by simpa using e
  have hi:i<bs.length:=by have:=(List.getElem?_eq_some_iff.mp e').1;lia
  obtain⟨x,h1,h2⟩:=vals_get rv e'
  rw[List.getElem?_map,List.getElem?_eq_getElem hi]at h1
  cases h1
  rw[List.getD_eq_getElem?_getD,List.getElem?_eq_getElem hi]
  exact h2
 refine call_all_walkS (wpAny_pyIter_list hl ?_)
 refine⟨s.heap.objs.size,_,_,_,_,_,_,fun i=>bs.getD i false,rfl,W,⟨⟨_,Heap.get?_push_size _ rfl,rfl,rfl⟩,hl.push _⟩,?_,fun s' hm=>?_⟩
 ·intro i v s' Q' E' hP hq'
  rw[bv i v hP]
  exact wpAny_truthy_bool hq'
 ·obtain⟨h',g',d',tk',os'⟩:=s'
  have z1:g'=s.gens:=hm.gens
  have z2:d'=s.drawn:=hm.drawn
  have z3:os'=s.os:=hm.os
  subst z1 z2 z3
  have keep:∀ b o,s.heap.get? b=some o->h'.get? b=some o:=fun b o e=>hm.heap b o (fun hb=>absurd (Heap.lt_size e) ((List.mem_singleton.mp hb) ▸ Nat.lt_irrefl _)) (Heap.get?_push_of_some _ e)
  refine⟨.bl (bs.all id),H,I.kept (t':=tk') keep,?_,q⟩
  have e:(List.range its.toArray.size).all (fun i=>bs.getD i false)=bs.all id:=by
   rw[List.size_toArray,lb]
   have:(List.range bs.length).map (fun i=>bs.getD i false)=bs:=by
    refine List.ext_getElem? fun i=>?_
    by_cases hi:i<bs.length
    ·rw[List.getElem?_map,List.getElem?_eq_getElem (by simpa using hi),List.getElem?_eq_getElem hi]
     simp [List.getD_eq_getElem?_getD,List.getElem?_eq_getElem hi]
    ·rw[List.getElem?_eq_none (by simpa using hi),List.getElem?_eq_none (by lia)]
   conv=>rhs;rw[<- this]
   rw[List.all_map];rfl
  rw[e];rfl
end
end L2
end
section
namespace L2
open PySem PySem.Spec PyProof.Rows
section
variable {X:Cx}
end
end L2
end
section
namespace L2
open PySem PySem.Spec PyProof.Rows
def OnlyT (ts:List Addr) (H:Hp):Prop:=(∀ P∈ts,H P=some (.tbl #[]))/\∀ b,H b=none\/(∃ o xs,H b=some (.frz o (.lst xs)))\/(H b=some (.tbl #[])/\b∈ts)
theorem law_callT {P:Program}{w:World}{K:PySem.W.Frag}{mg mb:Str->Option Value}{CX:CXT}{k:Nat}{fa a:Addr}{fd:FuncData}{x:Str}{sp:Sp}{s₁:Shared}{vs:List Value}{ns:List Int}{ts:List Addr}
  (KX:K.In s₁.heap) (hT:∀ P∈ts,s₁.heap.get? P=some (PySem.W.tabObj #[])) (hKT:∀ P∈ts,K.lookup P=none/\∃ c,PySem.W.CodeHd s₁.heap c P)
  (hns:s₁.heap.Ns mainGlobals mg) (hb:s₁.heap.Ns builtinsNs mb) (hbb:∀ x:Str,x≠"__name__"->mb x=bootBuiltins x) (hlim:s₁.heap.NoLimit) (hg:s₁.gens=#[])
  (ha:s₁.heap.get? a=some { cls:=.type "list",data:=.seq vs.toArray }) (hi:IntsAre vs ns) (hl:ns.length<=sizeLine) (hr:Room k callerA)
  (F:∀ base:Heap,K.In base->base.Ns mainGlobals mg->FnOk P w K mg base CX k fa fd [x] sp) (hbind:∀ (s:Shared) (u:Value),BindsTo s fd ⟨[u],[]⟩ [(x,u)])
  (hsp:∀ H:Hp,OnlyT ts H->SqL K H a (ns.map V.int)->sp [.ref a] H (fun v _=>v=.bl true) fun _ _ _=>False)
  (hCX:∀ H e s',CX [] H s₁ (fun _ _ _=>False) e s'->False) :
  codeAny (model P w) callerA (.call (.ref fa) ⟨[.ref a],[]⟩) (fun r s'=>r=.ok (.ret (.bool true))/\OldK s₁.heap s'.heap/\s'.os=s₁.os/\AllBare s'.gens) s₁:=by
 have rv:=vals_ints hi
 have lenV:=hi.length
 have nat:a ∉ ts:=fun z=>by have:=hT a z;rw[ha]at this;cases this
 have core:∀ H:Hp,OnlyT ts H->SqL K H a (ns.map V.int)->HOk P w H s₁.heap->(∀ b,H b≠none->b=a\/b∈ts)->(H a≠none->K.lookup a=none) ->
   codeAny (model P w) callerA (.call (.ref fa) ⟨[.ref a],[]⟩) (fun r s'=>r=.ok (.ret (.bool true))/\OldK s₁.heap s'.heap/\s'.os=s₁.os/\AllBare s'.gens) s₁:=by
  intro H hO hS hok hA hK
  have base_of:∀ {b:Addr}{o:Obj},s₁.heap.get? b=some o->H b=none->(hidT s₁.heap H).get? b=some o:=fun e n=>hidT_get e n
  have noA:∀ {b:Addr}{o:Obj}{es:Array DictEntry}{ep:Nat},s₁.heap.get? b=some o->o.data=.dict es ep->H b=none:=fun {b o es ep} e d=>by
   cases q:H b with
   | none=>rfl
   | some u=>
    rcases hA b (by rw[q];simp) with e' | e'
    ·subst e'
     rw[ha]at e;cases e
     have d':Data.seq vs.toArray _=Data.dict es ep:=d
     cases d'
    ·rw[hT b e']at e;cases e
     have d':Data.fields #[]=Data.dict es ep:=d
     cases d'
  have nsK:∀ {b:Addr}{m:Str->Option Value},s₁.heap.Ns b m->(hidT s₁.heap H).Ns b m:=fun {b m} ⟨o,es,ep,e,d,r⟩=>⟨o,es,ep,base_of e (noA e d),d,r⟩
  have hKb:K.In (hidT s₁.heap H):=fun b o e=>base_of (KX b o e) (by
   cases q:H b with
   | none=>rfl
   | some u=>
    rcases hA b (by rw[q];simp) with e' | e'
    ·subst e'
     rw[hK (by rw[q];simp)]at e;cases e
    ·rw[(hKT b e').1]at e;cases e)
  have hM:Mod K mg (hidT s₁.heap H):=⟨hKb,nsK hns,⟨mb,nsK hb,hbb⟩,let ⟨mc,h1,h2⟩:=hlim;⟨mc,nsK h1,h2⟩⟩
  have e0:Env0 P w K mg (hidT s₁.heap H) callerA [] s₁ H:=⟨rfl,hM,fun b o e=>of_hidT e,Nat.le_of_eq (hidT_size _ _),trivial,fun b hb=>absurd (show b∈([]:List Addr) from hb) (by simp),hok,.of_eq hg⟩
  refine codeAny_mono ((F _ hKb (nsK hns)).run callerA [] s₁ H ⟨[.ref a],[]⟩ [.ref a] [.ref a] _ _ hr e0 (hbind s₁ (.ref a)) (.cons rfl .nil) (hsp H hO hS)) fun r s' h=>?_
  cases r with
  | error e=>exact (hCX H e s' h).elim
  | ok fl=>
   cases fl with
   | next=>exact False.elim h
   | brk=>exact False.elim h
   | cont=>exact False.elim h
   | ret u=>
    obtain⟨v,H',os,bare,un,hok',r',q⟩:=h
    have q':v=.bl true:=q
    subst q'
    obtain rfl:u=Value.bool true:=r'
    refine⟨rfl,⟨fun b o e=>?_,fun b o e=>un.there b o e (by simp)⟩,os,bare⟩
    rcases hO.2 b with z | ⟨ob,xs,z⟩ | ⟨z,hm⟩
    ·exact .inl (un.keep b o e z (by intro z;exact absurd (show b∈([]:List Addr) from z) (by simp)) (by simp))
    ·have z2:=un.frzs b ob _ z
     obtain⟨e1,_⟩:=hok b _ z
     obtain⟨e2,_⟩:=hok' b _ z2
     rw[e]at e1;cases e1
     exact .inl e2
    ·obtain⟨more,z2⟩:=un.tbls b _ z
     have e1:=hok b _ z
     have e2:=hok' b _ z2
     obtain⟨c,C⟩:=(hKT b hm).2
     have e0:s₁.heap.get? b=some (PySem.W.tabObj #[]):=hT b hm
     rw[e]at e0;cases e0
     exact .inr (.inl ⟨(C.tab e).isCodeTable,rfl,#[],more,rfl,e2⟩)
 have tb:∀ b,b∈ts->ObjOk P w (fun _=>none) s₁.heap b (.tbl #[]):=fun b hb=>hT b hb
 cases hk:K.lookup a with
 | some o=>
  have e:=KX a o hk
  rw[ha]at e
  cases e
  refine core (fun b=>if b∈ts then some (.tbl #[]) else none) ⟨fun P hP=>if_pos hP,fun b=>?_⟩ (.inr ⟨_,vs.toArray,_,hk,rfl,rfl,rfl,by rw[List.size_toArray,lenV];exact hl,by simpa using rv⟩) (fun b u z=>?_) (fun b z=>?_) fun z=>absurd (if_neg nat) z
  ·by_cases hb:b∈ts
   ·exact .inr (.inr ⟨if_pos hb,hb⟩)
   ·exact .inl (if_neg hb)
  ·by_cases hb:b∈ts
   ·have z':=(if_pos hb).symm.trans z
    cases z'
    exact hT b hb
   ·have z':=(if_neg hb).symm.trans z
    cases z'
  ·by_cases hb:b∈ts
   ·exact .inr hb
   ·exact absurd (if_neg hb) z
 | none=>
  have h1:∀ {b:Addr},b=a->(if b=a then some (HO.frz { cls:=.type "list",data:=.seq vs.toArray } (.lst (ns.map V.int))) else if b∈ts then some (.tbl #[]) else none)=some (HO.frz { cls:=.type "list",data:=.seq vs.toArray } (.lst (ns.map V.int))):=fun h=>if_pos h
  have h2:∀ {b:Addr},b≠a->b∈ts->(if b=a then some (HO.frz { cls:=.type "list",data:=.seq vs.toArray } (.lst (ns.map V.int))) else if b∈ts then some (.tbl #[]) else none)=some (.tbl #[]):=fun h g=>by rw[if_neg h,if_pos g]
  have h3:∀ {b:Addr},b≠a->b ∉ ts->(if b=a then some (HO.frz { cls:=.type "list",data:=.seq vs.toArray } (.lst (ns.map V.int))) else if b∈ts then some (.tbl #[]) else none)=none:=fun h g=>by rw[if_neg h,if_neg g]
  refine core (fun b=>if b=a then some (.frz { cls:=.type "list",data:=.seq vs.toArray } (.lst (ns.map V.int))) else if b∈ts then some (.tbl #[]) else none) ⟨fun P hP=>h2 (fun z=>nat (z ▸ hP)) hP,fun b=>?_⟩ (.inl (.inr ⟨{ cls:=.type "list",data:=.seq vs.toArray },if_pos rfl⟩)) (fun b u z=>?_) (fun b z=>?_) fun _=>hk
  ·by_cases hb:b=a
   ·exact .inr (.inl ⟨_,_,h1 hb⟩)
   ·by_cases hc:b∈ts
    ·exact .inr (.inr ⟨h2 hb hc,hc⟩)
    ·exact .inl (h3 hb hc)
  ·by_cases hb:b=a
   ·have z':=(h1 hb).symm.trans z
    cases z'
    subst hb
    exact⟨ha,by rw[List.length_map];exact hl,vs,_,rv,ha⟩
   ·by_cases hc:b∈ts
    ·have z':=(h2 hb hc).symm.trans z
     cases z'
     exact hT b hc
    ·have z':=(h3 hb hc).symm.trans z
     cases z'
  ·by_cases hb:b=a
   ·exact .inl hb
   ·by_cases hc:b∈ts
    ·exact .inr hc
    ·exact absurd (h3 hb hc) z
theorem walk_ofT {l:PySem.W.OpenLaw}{n k:Nat}{q:Program}{loose:List Str}{XP:(Str->Option Value)->Heap->Prop}{YP:World->Heap->Prop}{d:DefRec}{K:Params->PySem.W.Frag}{CX:World->CXT}{sp:World->Sp}{x:Str}{ts:List Addr}
  (hn:l.most=some n) (hn2:n<=sizeLine) (hdf:d.params.defaults=[]) (hr:Room k callerA)
  (hY:∀ (w:World) (h:Heap),YP w h->(K w.params).In h/\∀ P∈ts,h.get? P=some (PySem.W.tabObj #[]))
  (hKT:∀ (w:World),∀ P∈ts,(K w.params).lookup P=none/\∃ c,PySem.W.codeHdIn (K w.params) c P=true)
  (F:∀ (w:World) (mg:Str->Option Value) (fa:Addr) (h:Heap),(K w.params).In h->h.Ns mainGlobals mg->mg d.name=some (.ref fa) ->
   ∃ fd:FuncData,(∀ (s:Shared) (u:Value),BindsTo s fd ⟨[u],[]⟩ [(x,u)]) /\
    ∀ base:Heap,(K w.params).In base->base.Ns mainGlobals mg->FnOk l.prog w (K w.params) mg base (CX w) k fa fd [x] (sp w))
  (hsp:∀ (w:World) (H:Hp) (a:Addr) (ns:List Int),ns.length<=n->OnlyT ts H->SqL (K w.params) H a (ns.map V.int)->sp w [.ref a] H (fun v _=>v=.bl true) fun _ _ _=>False)
  (hCX:∀ (w:World) (H:Hp) (s:Shared) (e:Value) (s':Shared),CX w [] H s (fun _ _ _=>False) e s'->False) :
  PySem.W.WalkO q loose XP YP l.row.toRowW d [] (fun f vs=>PySem.call f vs):=by
 refine Att.attach_call hn hdf fun w s₀ s₁ mg mb fa o pm cd doc a vs ns G Y ho hd hcd hmg hobj hints hlen hg=>?_
 obtain⟨KX,hT⟩:=hY w _ Y
 obtain⟨fd,hb,hF⟩:=F w mg fa _ KX G.T.g hmg
 exact law_callT KX hT (fun P hP=>⟨(hKT w P hP).1,let ⟨c,e⟩:=(hKT w P hP).2;⟨c,PySem.W.codeHd_of_K KX e⟩⟩) G.T.g G.T.b G.T.builtins G.T.nolimit hg hobj hints (Nat.le_trans hlen hn2) hr hF hb (fun H hO hS=>hsp w H a ns hlen hO hS) fun H e s'=>hCX w H s₁ e s'
end L2
end
section
namespace Kn
open PySem PySem.W PyProof.Rows
section
variable {lt:Nat->Nat->Bool}
end
end Kn
namespace L2
open PySem PySem.Spec PyProof.Rows PySem.W
open Kn (sLt krun)
mutual
noncomputable def ltD:Dt->Dt->Option Bool
 | .int i,e=>match e with | .int j=>some (decide (i<j)) | _=>none
 | .str x,e=>match e with | .str y=>some (sLt x y) | _=>none
 | .tup ds,e=>match e with | .tup es=>ltDs ds es | _=>none
noncomputable def ltDs:List Dt->List Dt->Option Bool
 | [],es=>some (decide (es≠[]))
 | d::ds,es=>match es with | []=>some false | e::es=>if d=e then ltDs ds es else ltD d e
end
section
open PySem.SeqAt
open PySem.AutoSeq1 (wpAny_loadPart')
open PySem.MeetsSeq PySem.MeetsSeq2 PySem.MeetsSeq3
variable {P:Program}{w:World}{H:Hp}
end
end L2
end
section
namespace L2
open PySem PySem.Spec PyProof.Rows PySem.W
open Kn (sLt krun)
section
variable {prog:Program}{w:World}{A:Around}{E:Value->Shared->Prop}{s:Shared}{H:Hp}
noncomputable def ltB (ds:List (List Dt)) (i j:Nat):Bool:=(ltDs (ds.getD i []) (ds.getD j [])).getD false
end
section
variable {X:Cx}
end
end L2
end
section
namespace Tm
open PySem PySem.W PyProof.Rows
section
variable {M:Model}{A:Around}{E:Value->Shared->Prop}{s:Shared} {κ:SortKind} {S:Keyed->Prop}{L:Keyed->Keyed->Bool}
end
end Tm
end
section
namespace Tm
open PySem PySem.W PyProof.Rows
def Srt (L:Keyed->Keyed->Bool) (l:List Keyed):Prop:=l.Pairwise fun x y=>L y x=false
section
variable {S:Keyed->Prop}{L:Keyed->Keyed->Bool}{la lb out:List Keyed}{ia ib:Nat}
end
end Tm
end
section
namespace Tm
open PySem PySem.W PyProof.Rows
section
variable {M:Model}{A:Around}{E:Value->Shared->Prop}{s:Shared} {κ:SortKind} {S:Keyed->Prop}{L:Keyed->Keyed->Bool}
end
end Tm
end
section
namespace Tm
open PySem PySem.W PyProof.Rows
section
variable {S:Keyed->Prop}{L:Keyed->Keyed->Bool}{la lb lo:List Keyed}{na nb:Nat}
end
section
variable {M:Model}{A:Around}{E:Value->Shared->Prop}{s:Shared} {κ:SortKind} {S:Keyed->Prop}{L:Keyed->Keyed->Bool}
end
end Tm
end
section
namespace Tm
open PySem PySem.W PyProof.Rows
section
variable {S:Keyed->Prop}{L:Keyed->Keyed->Bool}
end
section
variable {M:Model}{A:Around}{E:Value->Shared->Prop}{s:Shared} {κ:SortKind} {S:Keyed->Prop}{L:Keyed->Keyed->Bool}
end
end Tm
end
section
namespace Tm
open PySem PySem.W PyProof.Rows
section
variable {L:Keyed->Keyed->Bool}
end
section
variable {M:Model}{A:Around}{E:Value->Shared->Prop}{s:Shared} {κ:SortKind} {S:Keyed->Prop}{L:Keyed->Keyed->Bool}
end
end Tm
end
section
namespace Tm
open PySem PySem.W PyProof.Rows
section
variable {S:Keyed->Prop}{L:Keyed->Keyed->Bool}
end
section
variable {M:Model}{A:Around}{E:Value->Shared->Prop}{s:Shared} {κ:SortKind} {S:Keyed->Prop}{L:Keyed->Keyed->Bool}
end
end Tm
end
section
namespace Tm
open PySem PySem.W PyProof.Rows
section
variable {L:Keyed->Keyed->Bool}
theorem split2 {α:Type} {l:List α}{i:Nat} (h:i+1<l.length):∃ p x y r,l=p++x::y::r/\p.length=i:=by
 refine⟨l.take i,l[i],l[i+1],l.drop (i+2),?_,by rw[List.length_take];lia⟩
 rw[<- List.drop_eq_getElem_cons h,<- List.drop_eq_getElem_cons (by lia),List.take_append_drop]
end
section
variable {M:Model}{A:Around}{E:Value->Shared->Prop}{s:Shared} {κ:SortKind} {S:Keyed->Prop}{L:Keyed->Keyed->Bool}
end
end Tm
end
section
namespace L2
open PySem PySem.Spec PyProof.Rows PySem.W Kn
theorem s1 (x y:Str) (h:sLt x y=true):sLt y x=false:=by
 by_cases e:x=y
 ·subst e;exact sLt_irrefl x
 ·rw[sLt_total e,h];rfl
theorem s2 (x y:Str) (h:sLt x y=false):x=y\/sLt y x=true:=by
 by_cases e:x=y
 ·exact .inl e
 ·exact .inr (by rw[sLt_total e,h];rfl)
end L2
end
section
namespace L2
open PySem PySem.Spec PyProof.Rows PySem.W Kn
section
variable {prog:Program}{w:World}{A:Around}{E:Value->Shared->Prop}{s:Shared}{H:Hp}
end
section
variable {X:Cx}
end
end L2
end
section
namespace L2
open PySem PySem.Spec PyProof.Rows PySem.W
section
variable {prog:Program}{w:World}{A:Around}{E:Value->Shared->Prop}{s:Shared}
end
section
variable {X:Cx}
end
end L2
end
section
namespace L2
open PySem PySem.Spec PyProof.Rows PySem.W
section
variable {X:Cx}
section
open PySem.AutoSeq1 (wpAny_loadPart')
open PySem.MeetsSeq PySem.MeetsSeq2 PySem.MeetsSeq3 PySem.SeqAt
end
end
end L2
end
section
namespace L2
open PySem PySem.Spec PyProof.Rows PySem.W
section
open AutoSeq1 (wpAny_loadPart')
end
section
variable {prog:Program}{w:World}{A:Around}{E:Value->Shared->Prop}{s:Shared}
end
section
variable {X:Cx}
end
end L2
end
section
namespace L2
open PySem PySem.Spec PyProof.Rows PySem.W
section
variable {X:Cx}
end
end L2
end
section
namespace L2
open PySem PySem.Spec PyProof.Rows
section
variable {P:Program}{w:World}{fs ex:List Addr}{H:Hp}{h h':Heap}{T c:Addr}{ps more:Array Value}{o:HO}
theorem Un.tblNew (hT:H T=some (.tbl ps)) (k:∀ b u,b≠T->h.get? b=some u->h'.get? b=some u) (e:∃ u,h'.get? T=some u) (hp:h.objs.size<=c) (hn:H c=none):Un fs ex H (upd (upd H T (.tbl (ps++more))) c o) h h':=by
 have cT:T≠c:=ne_of_none hT hn
 have nT:∀ b,H b=none->b≠T:=fun b n z=>by rw[z,hT]at n;cases n
 have oth:∀ b u,H b=some u->b≠T->upd (upd H T (.tbl (ps++more))) c o b=some u:=fun b u q z=>by rw[upd_ne (ne_of_none q hn),upd_ne z];exact q
 refine⟨fun b u q n _ _=>k b u (nT b n) q,fun b u q n _ _=>⟨u.slots,k b u (nT b n) q⟩,fun b u q n _=>?_,fun b u q _=>?_,fun b xs q=>oth b _ q fun z=>?_,fun b u xs q=>oth b _ q fun z=>?_,fun b qs q=>?_⟩
 ·rw[upd_ne (Nat.ne_of_lt (Nat.lt_of_lt_of_le (Heap.lt_size q) hp)),upd_ne (nT b n)];exact n
 ·by_cases z:b=T
  ·rw[z];exact e
  ·exact⟨u,k b u z q⟩
 ·rw[z,hT]at q;cases q
 ·rw[z,hT]at q;cases q
 ·by_cases z:b=T
  ·rw[z,hT]at q;cases q
   exact⟨more,by rw[z,upd_ne cT,upd_same]⟩
  ·exact⟨#[],by rw[oth b _ q z];simp⟩
theorem HOk.tblNew (x:HOk P w H h) (hT:H T=some (.tbl ps)) (k:∀ b u,b≠T->h.get? b=some u->h'.get? b=some u) (e:h'.get? T=some (PySem.W.tabObj (ps++more))) (hn:H c=none) (new:∀ H',ObjOk P w H' h' c o):HOk P w (upd (upd H T (.tbl (ps++more))) c o) h':=fun b u q=>by
 have cT:T≠c:=ne_of_none hT hn
 by_cases z:b=c
 ·rw[z,upd_same]at q;cases q;rw[z];exact new _
 rw[upd_ne z]at q
 by_cases y:b=T
 ·rw[y,upd_same]at q;cases q;rw[y];exact e
 rw[upd_ne y]at q
 have oth:∀ b u,H b=some u->b≠T->upd (upd H T (.tbl (ps++more))) c o b=some u:=fun b u q z=>by rw[upd_ne (ne_of_none q hn),upd_ne z];exact q
 have nT:∀ d v,H d=some v->(∀ qs,v≠.tbl qs)->d≠T:=fun d v r m z=>by rw[z,hT]at r;cases r;exact m _ rfl
 refine (x b u q).stay (fun d v hd r=>k d v ?_ r) (fun d r=>oth d _ r (nT d _ r fun _ z=>by cases z)) fun d xs r=>oth d _ r (nT d _ r fun _ z=>by cases z)
 rcases hd with rfl | hd
 ·exact y
 ·exact nT d _ hd fun _ z=>by cases z
end
section
variable {X:Cx}
def CodeO (c:Addr) (qual:Str):Heap->Prop:=fun h=>h.CodeRec (.ref c) qual
def LamT (H:Hp) (T:Addr) (pos:Pos) (qual:Str):Prop:=H T=some (.tbl #[])\/∃ c,H T=some (.tbl #[rawInt pos.line,rawInt pos.col,.ref c])/\H c=some (.ext (CodeO c qual))
theorem codeO_ok {P:Program}{w:World}{h:Heap}{c:Addr}{qual:Str} (x:h.CodeRec (.ref c) qual) (H':Hp):ObjOk P w H' h c (.ext (CodeO c qual)):=by
 refine⟨x,?_,fun h1 h2 y k=>?_⟩
 ·obtain⟨d,o,vs,t,e,e1,e2,e3⟩:=x
  cases e
  exact⟨o,e1⟩
 ·obtain⟨d,o,vs,t,e,e1,e2,e3⟩:=y
  cases e
  exact⟨c,o,vs,t,rfl,k _ e1,e2,e3⟩
structure LmK (K:PySem.W.Frag) (mg:Str->Option Value) (c T:Addr):Prop where
 cd:PySem.W.codeHdIn K c T=true
 bi:∃ (bm:Addr) (ob:Obj),mg "__builtins__"=some (.ref bm)/\K.lookup bm=some ob/\bm≠builtinsNs/\bm≠mainGlobals/\bm≠T/\ob.cls=.type "module"/\ob.dict=some builtinsNs/\ob.data=.plain
 gT:mainGlobals≠T
theorem Fun.okC {P:Program}{w:World}{K:PySem.W.Frag}{mg:Str->Option Value}{base:Heap}{x qual:Str}{st:Stmt}{f c:Addr}{fd:FuncData}{N ps:List Str}{k:Nat}{sp:Sp} (F:Fun K x qual st f fd) (hc:fd.code=.ref c) (S:FnScope N ps (defScope st)) (len:∀ vs H Q E,sp vs H Q E->vs.length=ps.length)
  (body:∀ (A:Around) (outer:List Env) (s:Shared) (H:Hp) (vs:List V) (Q:VK) (E:XK),Room k (A.deeper (envOfC qual (defScope st) s.heap.objs.size f (.ref c)))->sp vs H Q E ->
   ∃ t,Hd (PSs (cxOf CX0 P w K mg base N qual (defScope st) f (.ref c) A outer s H E).nox (defBody st) t)/\t { nx:=fun _ H'=>Q .non H',rt:=Q } (start N vs) H):FnOk P w K mg base CX0 (k+1) f fd ps sp:=by
 obtain⟨oc,od,kV,doc,pm,an,cdv,ct,osl,rfl,lk,hcd⟩:=F.ex
 obtain rfl:cdv=.ref c:=hc
 refine fn_of lk hcd S len fun A outer s H vs Q E hr h=>?_
 obtain⟨t,h1,h2⟩:=body A outer s H vs Q E hr h
 exact⟨t,h1.out.nox,h2⟩
end
end L2
end
section
namespace L2
open PySem PySem.Spec PyProof.Rows
def CellO (c:Addr) (o:Obj):Heap->Prop:=fun h=>h.get? c=some o
def CellIs (o:Obj) (v:V):Prop:=∃ u,RelV v u/\o.data=.cell (some u)
abbrev Clos:=List (Str×Addr)
def inC (clos:Clos) (b:Addr):Prop:=b∈clos.map (·.2)
instance (clos:Clos) (b:Addr):Decidable (inC clos b):=by unfold inC;infer_instance
def addG (H:Hp) (clos:Clos) (g:Addr->Obj):Hp:=fun b=>if inC clos b then some (.ext (CellO b (g b))) else H b
def remC (H:Hp) (clos:Clos):Hp:=fun b=>if inC clos b then none else H b
def backC (H' H:Hp) (clos:Clos):Hp:=fun b=>if inC clos b then H b else H' b
def CellsG (H:Hp) (clos:Clos) (g:Addr->Obj) (ws:List V):Prop:=(∀ b,inC clos b->H b=some (.ext (CellO b (g b))))/\Paired (fun (p:Str×Addr) v=>CellIs (g p.2) v) clos ws
def ClosInj (clos:Clos):Prop:=∀ x y c,clos.lookup x=some c->clos.lookup y=some c->x=y
def LamOC (qual:Str) (params:Arguments) (body:Expr) (scope:Scope) (clos:Clos) (pm:Value) (c:Addr) (ctv:Value) (f:Addr):Heap->Prop:=fun h=>h.get? f=some (PySem.W.kla_obj "<lambda>" qual params body scope clos pm c ctv)
section
variable {P:Program}{w:World}{H H':Hp}{h h':Heap}{clos:Clos}{g:Addr->Obj}
theorem remC_in {b:Addr} (i:inC clos b):remC H clos b=none:=if_pos i
theorem remC_ne {b:Addr} (i:¬inC clos b):remC H clos b=H b:=if_neg i
theorem remC_some {b:Addr}{o:HO} (e:remC H clos b=some o):¬inC clos b/\H b=some o:=by
 by_cases i:inC clos b
 ·rw[remC_in i]at e;cases e
 ·exact⟨i,(remC_ne i).symm.trans e⟩
theorem cellO_ok {c:Addr}{o:Obj} (x:h.get? c=some o) (H':Hp):ObjOk P w H' h c (.ext (CellO c o)):=⟨x,⟨o,x⟩,fun h1 h2 y k=>k _ y⟩
theorem HOk.rem (x:HOk P w H h) (hc:∀ b,inC clos b->∃ q,H b=some (.ext q)):HOk P w (remC H clos) h:=fun b u e=>by
 obtain⟨_,e⟩:=remC_some e
 refine (x b u e).stay (fun d v _ r=>r) (fun d r=>?_) fun d xs r=>?_
 ·rw[remC_ne fun i=>by obtain⟨q,z⟩:=hc d i;rw[z]at r;cases r];exact r
 ·rw[remC_ne fun i=>by obtain⟨q,z⟩:=hc d i;rw[z]at r;cases r];exact r
theorem HOk.addG (x:HOk P w H h) (hn:∀ b,inC clos b->H b=none) (hg:∀ b,inC clos b->h.get? b=some (g b)):HOk P w (addG H clos g) h:=fun b u e=>by
 by_cases i:inC clos b
 ·have e':L2.addG H clos g b=some (.ext (CellO b (g b))):=if_pos i
  rw[e']at e;cases e
  exact cellO_ok (hg b i) _
 ·have e':L2.addG H clos g b=H b:=if_neg i
  rw[e']at e
  have old:∀ d u,H d=some u->L2.addG H clos g d=some u:=fun d u r=>by
   have:L2.addG H clos g d=H d:=if_neg fun i=>by rw[hn d i]at r;cases r
   rw[this];exact r
  exact (x b u e).stay (fun d v _ r=>r) (fun d r=>old _ _ r) fun d xs r=>old _ _ r
theorem HOk.back (x:HOk P w H' h') (hn:∀ b,inC clos b->H' b=none) (hc:∀ b,inC clos b->H b=some (.ext (CellO b (g b)))) (hg:∀ b,inC clos b->h'.get? b=some (g b)):HOk P w (backC H' H clos) h':=fun b u e=>by
 by_cases i:inC clos b
 ·have e':backC H' H clos b=H b:=if_pos i
  rw[e',hc b i]at e;cases e
  exact cellO_ok (hg b i) _
 ·have e':backC H' H clos b=H' b:=if_neg i
  rw[e']at e
  have old:∀ d u,H' d=some u->backC H' H clos d=some u:=fun d u r=>by
   have:backC H' H clos d=H' d:=if_neg fun i=>by rw[hn d i]at r;cases r
   rw[this];exact r
  exact (x b u e).stay (fun d v _ r=>r) (fun d r=>old _ _ r) fun d xs r=>old _ _ r
end
structure LamScope (ps fr:List Str) (scope:Scope):Prop where
 kind:scope.kind=.function
 co:scope.isCoroutine=false
 gen:scope.isGenerator=false
 nd:(ps++fr).Nodup
 nocell:∀ y∈scope.names,y.2≠.cell
 free:∀ y∈scope.names,y.2=.free->y.1∈fr
 isfree:∀ x∈fr,scope.names.lookup x=some .free
 isloc:∀ x∈ps,scope.names.lookup x=some .local
theorem rev_lookup:∀ {ps:List Str}{us:List Value}{i:Nat}{x:Str}{u:Value},ps.Nodup->ps[i]?=some x->us[i]?=some u->(ps.zip us).reverse.lookup x=some u
 | [],_,_,_,_,_,h,_=>by simp at h
 | _::_,[],_,_,_,_,_,h=>by simp at h
 | p::ps,w::us,0,x,u,nd,h1,h2=>by
  simp only[List.getElem?_cons_zero,Option.some.injEq]at h1 h2
  subst h1 h2
  rw[List.zip_cons_cons,List.reverse_cons,List.lookup_append]
  have:(ps.zip us).reverse.lookup p=none:=by
   rw[List.lookup_eq_none_iff]
   rintro⟨a,b⟩ hab
   have ha:=(List.of_mem_zip (List.mem_reverse.mp hab)).1
   have:p≠a:=fun z=>(List.nodup_cons.mp nd).1 (z ▸ ha)
   simpa using this
  rw[this];simp
 | p::ps,w::us,i+1,x,u,nd,h1,h2=>by
  rw[List.zip_cons_cons,List.reverse_cons,List.lookup_append,rev_lookup (List.nodup_cons.mp nd).2 (by simpa using h1) (by simpa using h2)]
  rfl
def envL (qual:Str) (scope:Scope) (clos:Clos) (L f:Addr) (cd:Value):Env:=newEnv scope L mainGlobals clos (qual++".<locals>.") (some f) cd none builtinsNs
def cxL (P:Program) (w:World) (K:PySem.W.Frag) (mg:Str->Option Value) (base:Heap) (N:List Str) (qual:Str) (scope:Scope) (clos:Clos) (f:Addr) (cd:Value) (A:Around) (outer:List Env) (s:Shared) (H:Hp):Cx where
 prog:=P
 w:=w
 K:=K
 mg:=mg
 base:=base
 A:=A.deeper (envL qual scope clos s.heap.objs.size f cd)
 N:=N
 s₀:=s
 H₀:=H
 env:=envL qual scope clos s.heap.objs.size f cd
 outer:=outer
 stack:=envL qual scope clos s.heap.objs.size f cd::outer
 ex:=[]
 calm:=true
 fn:=fun _=>false
 pn:=[]
 xe:=fun _ _=>False
theorem inC_of {clos:Clos}{x:Str}{c:Addr} (e:clos.lookup x=some c):inC clos c:=List.mem_map.mpr ⟨(x,c),PySem.mem_of_lookup e,rfl⟩
theorem lookup_fr:∀ {clos:Clos}{i:Nat}{p:Str×Addr},(clos.map (·.1)).Nodup->clos[i]?=some p->clos.lookup p.1=some p.2
 | [],_,_,_,h=>by simp at h
 | q::r,0,p,_,h=>by
  simp only[List.getElem?_cons_zero,Option.some.injEq]at h
  subst h;simp [List.lookup]
 | q::r,i+1,p,nd,h=>by
  rw[List.map_cons,List.nodup_cons]at nd
  have h':r[i]?=some p:=by simpa using h
  have ne:(p.1 == q.1)=false:=by
   have:p.1≠q.1:=fun z=>nd.1 (by rw[<- z];exact List.mem_map.mpr ⟨p,List.mem_of_getElem? h',rfl⟩)
   simpa using this
  show (match p.1 == q.1 with | true=>some q.2 | false=>r.lookup p.1)=some p.2
  rw[ne];exact lookup_fr nd.2 h'
theorem pair_getC {α β:Type} {F:α->β->Prop}:∀ {l:List α}{m:List β}{i:Nat}{y:β},Paired F l m->m[i]?=some y->∃ x,l[i]?=some x/\F x y
 | _,_,_,_,.nil,h=>by simp at h
 | _,_,0,y,.cons r t,h=>by simp at h;subst h;exact⟨_,rfl,r⟩
 | _,_,i+1,y,.cons r t,h=>by
  obtain⟨x,h1,h2⟩:=pair_getC (i:=i) t (by simpa using h)
  exact⟨x,by simpa using h1,h2⟩
theorem inv_startL {P:Program}{w:World}{K:PySem.W.Frag}{mg:Str->Option Value}{base:Heap}{ps:List Str}{qual:Str}{scope:Scope}{clos:Clos}{f:Addr}{cd:Value}{A:Around}{outer:List Env}{s:Shared}{H:Hp}{us:List Value}{vs ws:List V}{g:Addr->Obj}{h':Heap}{tk:Nat}
  (S:LamScope ps (clos.map (·.1)) scope) (inj:ClosInj clos) (hd:A.handled=none) (e0:Env0 P w K mg base A outer s H) (hl:vs.length=ps.length) (r:Vals vs us) (cg:CellsG H clos g ws)
  (hns:h'.Ns s.heap.objs.size (fun x=>(ps.zip us).reverse.lookup x)) (hsb:Heap.SameBut s.heap.objs.size (s.heap.push { cls:=.type "frame",data:=.dict #[] }) h') :
  Inv (cxL P w K mg base (ps++clos.map (·.1)) qual scope clos f cd A outer s (remC H clos)) [] (vs.map some++ws.map some) (remC H clos) { s with heap:=h',toks:=tk }:=by
 have hk:∀ b o,s.heap.get? b=some o->h'.get? b=some o:=fun b o e=>by
  rw[hsb.2 b (Nat.ne_of_lt (Heap.lt_size e))];exact Heap.get?_push_of_some _ e
 have cells:∀ b,inC clos b->s.heap.get? b=some (g b):=fun b i=>(e0.hok b _ (cg.1 b i)).1
 have hok1:HOk P w (remC H clos) s.heap:=e0.hok.rem fun b i=>⟨_,cg.1 b i⟩
 have bne:∀ b,H b=none->remC H clos b=none:=fun b e=>by
  by_cases i:inC clos b
  ·exact remC_in i
  ·rw[remC_ne i];exact e
 have noA:∀ b:Addr,b ∉ (cxL P w K mg base (ps++clos.map (·.1)) qual scope clos f cd A outer s (remC H clos)).ex:=fun b z=>absurd (show b∈([]:List Addr) from z) (by simp)
 have lw:ws.length=clos.length:=(Paired.length cg.2).symm
 have ndc:(clos.map (·.1)).Nodup:=(List.nodup_append.mp S.nd).2.1
 have isc:∀ x c,clos.lookup x=some c->∃ v,h'.IsCell c v:=fun x c e=>by
  have hm:=PySem.mem_of_lookup e
  obtain⟨i,hi,ei⟩:=List.mem_iff_getElem.mp hm
  have:ws[i]?=some (ws[i]'(by lia)):=List.getElem?_eq_getElem _
  obtain⟨p,e1,u,_,e2⟩:=pair_getC cg.2 this
  have ep:p=(x,c):=by rw[List.getElem?_eq_getElem hi,ei]at e1;exact (Option.some.inj e1).symm
  subst ep
  exact⟨_,_,hk _ _ (cells c (inC_of e)),e2⟩
 refine⟨⟨e0.mod,S.kind,rfl,rfl,Nat.le_refl _,inj,fun y hy=>?_,fun y c z=>(nomatch z),fun _=>hd,Around.frames_deeper e0.frames,.inr ⟨rfl,rfl⟩,fun b z=>absurd z (noA b),fun b o e=>⟨(e0.bs b o e).1,bne _ (e0.bs b o e).2⟩,e0.bsz,fun b _ _=>noA b,fun b z=>absurd z (noA b),e0.funs,fun b hb=>bne _ (e0.frf b hb)⟩,
  rfl,e0.bare,Un.kept hk,⟨_,hns,fun i y v h1 h2 h3=>?_⟩,isc,hok1.fresh (Nat.le_refl _),fun y c h=>remC_in (inC_of h),fun p hp=>absurd (show p∈([]:List (Addr×Obj)) from hp) (by simp),hok1.kept hk,?_⟩
 ·have hy:scope.names.lookup y=some .cell\/scope.names.lookup y=some .free:=hy
  rcases hy with hy | hy
  ·exact absurd rfl (S.nocell _ (PySem.mem_of_lookup hy))
  ·have:=S.free _ (PySem.mem_of_lookup hy) rfl
   obtain⟨p,hp,e⟩:=List.mem_map.mp this
   obtain⟨i,hi,ei⟩:=List.mem_iff_getElem.mp hp
   have:=lookup_fr ndc (List.getElem?_eq_getElem hi)
   rw[ei,e]at this
   exact⟨_,this⟩
 ·have h1:(ps++clos.map (·.1))[i]?=some y:=h1
  by_cases hi:i<ps.length
  ·rw[List.getElem?_append_left hi]at h1
   rw[List.getElem?_append_left (by rw[List.length_map];lia),List.getElem?_map]at h2
   cases e:vs[i]? with
   | none=>rw[e]at h2;cases h2
   | some a=>
    rw[e]at h2;cases h2
    obtain⟨u,hu,rv⟩:=r.get e
    exact⟨u,rv,.inl ⟨S.isloc y (List.mem_of_getElem? h1),rev_lookup (List.nodup_append.mp S.nd).1 h1 hu⟩⟩
  ·rw[List.getElem?_append_right (by lia),List.getElem?_map]at h1
   rw[List.getElem?_append_right (by rw[List.length_map];lia),List.getElem?_map,List.length_map,hl]at h2
   cases e:ws[i-ps.length]? with
   | none=>rw[e]at h2;cases h2
   | some a=>
    rw[e]at h2;cases h2
    obtain⟨p,e1,u,rv,e2⟩:=pair_getC cg.2 e
    rw[e1]at h1;cases h1
    have lk:=lookup_fr ndc e1
    exact⟨u,rv,.inr ⟨.inr (S.isfree _ (List.mem_map.mpr ⟨p,List.mem_of_getElem? e1,rfl⟩)),p.2,lk,_,hk _ _ (cells p.2 (inC_of lk)),e2⟩⟩
 ·show _=(ps++clos.map (·.1)).length
  rw[List.length_append,List.length_append,List.length_map,List.length_map,List.length_map,hl,lw]
theorem lam_ofC {P:Program}{w:World}{K:PySem.W.Frag}{mg:Str->Option Value}{base:Heap}{k:Nat}{f c:Addr}{qual:Str}{params:Arguments}{body:Expr}{scope:Scope}{clos:Clos}{pm ctv:Value}{ps:List Str}{sp:Sp}
  (S:LamScope ps (clos.map (·.1)) scope) (inj:ClosInj clos) (len:∀ vs H Q E,sp vs H Q E->vs.length=ps.length)
  (at_:∀ vs H Q E,sp vs H Q E->H f=some (.ext (LamOC qual params body scope clos pm c ctv f))/\H c=some (.ext (CodeO c qual))/\∃ g ws,CellsG H clos g ws)
  (one:∀ (A:Around) (out:List Env) (s:Shared) (H:Hp) (vs ws:List V) (g:Addr->Obj) (Q:VK) (E:XK),Room k (A.deeper (envL qual scope clos s.heap.objs.size f (.ref c)))->sp vs H Q E->CellsG H clos g ws ->
   ∃ te,Hd (PE (cxL P w K mg base (ps++clos.map (·.1)) qual scope clos f (.ref c) A out s (remC H clos)) body te)/\te (vs.map some++ws.map some) (remC H clos) fun v H'=>(∀ b,inC clos b->H' b=none)->Q v (backC H' H clos)) :
  FnOk P w K mg base CX0 (k+1) f (PySem.W.kla_fn "<lambda>" qual params body scope clos pm (.ref c) ctv) ps sp:=by
 refine⟨len,fun A out s H args us vs Q E room en bnd rel spec=>?_⟩
 obtain⟨hf,hc,g,ws,cg⟩:=at_ _ _ _ _ spec
 have ho:s.heap.get? f=some _:=(en.hok f _ hf).1
 have hr:s.heap.CodeRec (.ref c) qual:=(en.hok c _ hc).1
 have hl:=len _ _ _ _ spec
 refine PySem.W.kla_callFunE room.depth ho rfl S.co S.gen rfl hr (bnd _ _ _ _ ?_)
 refine wpAny_newFunctionEnv S.nocell (fun y hy=>S.isloc _ (List.of_mem_zip (show (y.1,y.2)∈ps.zip us from hy)).1) (fun h' hns hsb=>?_) S.kind
 have hk:∀ b o,s.heap.get? b=some o->h'.get? b=some o:=fun b o e=>by
  rw[hsb.2 b (Nat.ne_of_lt (Heap.lt_size e))];exact Heap.get?_push_of_some _ e
 refine⟨(en.mod.nolimit.keeps fun b o e=>(en.bs b o e).1).keeps hk,PySem.W.kla_codeExpr ?_⟩
 obtain⟨te,ht,hq⟩:=one A out s H vs ws g Q E (room.deeper _) spec cg
 have cells:∀ b,inC clos b->s.heap.get? b=some (g b):=fun b i=>(en.hok b _ (cg.1 b i)).1
 refine wpAny_mono (ht.out [] _ _ _ _ (inv_startL S inj room.hd en hl rel cg hns hsb) hq) (fun u s' ⟨v,H',J,rv,q⟩=>?_) fun e s' z=>z.elim
 have un:=J.base
 have nfr:∀ b,inC clos b->b ∉ frs out:=fun b i z=>by have:=en.frf b z;rw[cg.1 b i]at this;cases this
 have hfree:∀ b,inC clos b->H' b=none:=fun b i=>un.free b _ (cells b i) (remC_in i) (by simp [cxL])
 have bno:∀ {b:Addr}{o:HO},H b=some o->(∀ q,o≠.ext q)->¬inC clos b:=fun e n i=>by rw[cg.1 _ i]at e;cases e;exact n _ rfl
 have bb:∀ {b:Addr},¬inC clos b->backC H' H clos b=H' b:=fun i=>if_neg i
 refine⟨v,backC H' H clos,J.os,J.bare,⟨fun b o e n hb hx=>un.keep b o e ?_ hb hx,fun b o e n hb hx=>un.slot b o e ?_ hb hx,fun b o e n hx=>?_,un.there,fun b xs e=>?_,fun b o v e=>?_,fun b qs e=>?_⟩,J.hok.back hfree cg.1 (fun b i=>un.keep b _ (cells b i) (remC_in i) (nfr b i) (by simp [cxL])),rv,q hfree⟩
 ·by_cases i:inC clos b
  ·exact remC_in i
  ·exact (remC_ne i).trans n
 ·by_cases i:inC clos b
  ·exact remC_in i
  ·exact (remC_ne i).trans n
 ·have i:¬inC clos b:=fun i=>by rw[cg.1 b i]at n;cases n
  rw[bb i]
  exact un.free b o e ((remC_ne i).trans n) hx
 ·have i:=bno e (fun q z=>by cases z)
  rw[bb i];exact un.tups b xs ((remC_ne i).trans e)
 ·have i:=bno e (fun q z=>by cases z)
  rw[bb i];exact un.frzs b o v ((remC_ne i).trans e)
 ·have i:=bno e (fun q z=>by cases z)
  obtain⟨more,z⟩:=un.tbls b qs ((remC_ne i).trans e)
  exact⟨more,by rw[bb i];exact z⟩
section
variable {X:Cx}
theorem lamOC_ok {P:Program}{w:World}{h:Heap}{c f:Addr}{qual:Str}{params:Arguments}{body:Expr}{scope:Scope}{clos:Clos}{pm ctv:Value} (x:h.get? f=some (PySem.W.kla_obj "<lambda>" qual params body scope clos pm c ctv)) (H':Hp):ObjOk P w H' h f (.ext (LamOC qual params body scope clos pm c ctv f)):=
 ⟨x,⟨_,x⟩,fun h1 h2 y k=>k _ y⟩
def tLamC (T:Addr) (qual:Str) (params:Arguments) (body:Expr) (scope:Scope) (clos:Clos) (pm:Value) (pos:Pos):TE:=fun _ H Q=>LamT H T pos qual /\
 ∀ (f c:Addr) (ctv:Value) (H':Hp),H f=none->H' f=some (.ext (LamOC qual params body scope clos pm c ctv f))->H' c=some (.ext (CodeO c qual))->H' T=some (.tbl #[rawInt pos.line,rawInt pos.col,.ref c])->(∀ b o,b≠T->H b=some o->H' b=some o)->Q (.ref f) H'
theorem pe_lamC {clos:Clos}{params:Arguments}{body:Expr}{scope:Scope}{pos:Pos}{c T bm:Addr}{ob:Obj} (hdef:defaultsOf params X.env=([],[])) (hcl:closureFor scope X.env=pure clos) (hge:X.env.globals=mainGlobals) (hcode:X.env.code=.ref c) (hcd:PySem.W.codeHdIn X.K c T=true)
  (hbi:X.mg "__builtins__"=some (.ref bm)) (hbk:X.K.lookup bm=some ob) (h1:bm≠builtinsNs) (h2:bm≠mainGlobals) (h3:bm≠T) (h4:ob.cls=.type "module") (h5:ob.dict=some builtinsNs) (h6:ob.data=.plain) (hgT:mainGlobals≠T) :
  PE X (.Lambda params body scope pos) (tLamC T (X.env.qual++"<lambda>") params body scope clos ((X.mg "__name__").getD .none) pos):=by
 intro pins s σ H Q I ⟨hL,q⟩
 have hg:s.heap.Ns mainGlobals X.mg:=I.mod.glob.keeps I.bk
 have C:PySem.W.CodeHd s.heap c T:=PySem.W.codeHd_of_K I.kIn hcd
 have hb:s.heap.BuiltinsAt X.mg T:=⟨bm,ob,hbi,h1,h2,h3,I.kIn _ _ hbk,h4,h5,h6⟩
 refine PySem.W.kla_eval hdef ?_
 rcases hL with hT | ⟨c',hT,hC⟩
 ·have hP:s.heap.get? T=some (PySem.W.tabObj #[]):=I.hok T _ hT
  refine PySem.W.kla_makeFunction hcl hge hg hcode C hP trivial rfl hgT hb fun c' ctv h' tk ext hc1 hc2 rec tab=>?_
  have hcn:H c'=none:=I.hok.fresh hc1
  have cT:T≠c':=ne_of_none hT hcn
  have I1:Inv X pins σ (upd (upd H T (.tbl (#[]++#[rawInt pos.line,rawInt pos.col,.ref c']))) c' (.ext (CodeO c' (X.env.qual++"<lambda>")))) { s with heap:=h',toks:=tk }:=
   I.un (Un.tblNew hT (fun b u z e=>ext b u z e) ⟨_,tab⟩ hc1 hcn) (I.hok.tblNew hT (fun b u z e=>ext b u z e) tab hcn (codeO_ok rec))
  have hf1:(upd (upd H T (.tbl (#[]++#[rawInt pos.line,rawInt pos.col,.ref c']))) c' (.ext (CodeO c' (X.env.qual++"<lambda>")))) h'.objs.size=none:=I1.hok.fresh (Nat.le_refl _)
  have hf:H h'.objs.size=none:=by
   rw[upd_ne (fun z=>by rw[z,upd_same]at hf1;cases hf1)]at hf1
   rw[upd_ne (fun z=>by rw[z,upd_same]at hf1;cases hf1)]at hf1
   exact hf1
  have fc:c'≠h'.objs.size:=fun z=>by rw[<- z,upd_same]at hf1;cases hf1
  have fT:T≠h'.objs.size:=ne_of_none hT hf
  refine⟨.ref h'.objs.size,upd _ h'.objs.size (.ext (LamOC (X.env.qual++"<lambda>") params body scope clos ((X.mg "__name__").getD .none) c' ctv h'.objs.size)),I1.laid (t':=tk) (fun b u e=>Heap.get?_push_of_some _ e) (Nat.le_refl _) (lamOC_ok (Heap.get?_push_size _ rfl) _),rfl,q _ c' ctv _ hf upd_same ?_ ?_ fun b o z e=>?_⟩
  ·rw[upd_ne fc,upd_same]
  ·rw[upd_ne fT,upd_ne cT,upd_same];simp
  ·rw[upd_ne (ne_of_none e hf),upd_ne (ne_of_none e hcn),upd_ne z];exact e
 ·have hP:s.heap.get? T=some (PySem.W.tabObj #[rawInt pos.line,rawInt pos.col,.ref c']):=I.hok T _ hT
  refine PySem.W.kla_makeFunctionHit (cv:=.ref c') hcl hge hg hcode C hP ?_ ?_ hb fun ctv h' tk k hs=>?_
  ·simp [TriplesOk,rawInt]
  ·simp [codeAmong,rawInt]
  have I1:Inv X pins σ H { s with heap:=h',toks:=tk }:=I.kept k
  have hf:H h'.objs.size=none:=I1.hok.fresh (Nat.le_refl _)
  exact⟨.ref h'.objs.size,upd H h'.objs.size (.ext (LamOC (X.env.qual++"<lambda>") params body scope clos ((X.mg "__name__").getD .none) c' ctv h'.objs.size)),I1.laid (t':=tk) (fun b u e=>Heap.get?_push_of_some _ e) (Nat.le_refl _) (lamOC_ok (Heap.get?_push_size _ rfl) _),rfl,q _ c' ctv _ hf upd_same (by rw[upd_ne (ne_of_none hC hf)];exact hC) (by rw[upd_ne (ne_of_none hT hf)];exact hT) fun b o z e=>by rw[upd_ne (ne_of_none e hf)];exact e⟩
structure CapOk (X:Cx) (clos:Clos) (ix:List Nat):Prop where
 cells:∀ p∈clos,X.env.cells.lookup p.1=some p.2
 at_:Paired (fun (p:Str×Addr) i=>X.N[i]?=some p.1/\X.env.scope.names.lookup p.1=some .cell) clos ix
 fn:∀ x,X.fn x=true
theorem cells_are {pins:List (Addr×Obj)} {σ:St} {H:Hp}{s:Shared}{clos:Clos}{ix:List Nat}{ws:List V}{g:Addr->Obj} (I:Inv X pins σ H s) (cc:∀ p∈clos,X.env.cells.lookup p.1=some p.2) (hg:∀ b o,s.heap.get? b=some o->g b=o)
  (at_:Paired (fun (p:Str×Addr) i=>X.N[i]?=some p.1/\X.env.scope.names.lookup p.1=some .cell) clos ix) (e:(ix.map fun i=>(σ[i]?).join)=ws.map some):Paired (fun (p:Str×Addr) v=>CellIs (g p.2) v) clos ws:=by
 induction at_ generalizing ws with
 | nil=>
  cases ws with
  | nil=>exact .nil
  | cons w r=>cases e
 | @cons p i l1 l2 h t ih=>
  cases ws with
  | nil=>cases e
  | cons w r=>
   rw[List.map_cons,List.map_cons]at e
   injection e with e1 e2
   refine .cons ?_ (ih (fun q hq=>cc q (List.mem_cons_of_mem _ hq)) e2)
   have es:σ[i]?=some (some w):=by
    cases q:σ[i]? with
    | none=>rw[q]at e1;cases e1
    | some o=>rw[q]at e1;exact congrArg some e1
   obtain⟨m,_,hloc⟩:=I.loc
   obtain⟨u,ru,lk⟩:=hloc i p.1 w h.1 es (.inr (.inl h.2))
   rcases lk with ⟨kk,_⟩ | ⟨_,c,hc,o,ho,hd⟩
   ·have kk:X.env.scope.names.lookup p.1=some .local:=kk
    rw[h.2]at kk;cases kk
   ·rw[cc p List.mem_cons_self]at hc
    cases hc
    exact⟨u,ru,by rw[hg _ _ ho];exact hd⟩
theorem run_fnC {pins:List (Addr×Obj)} {σ:St} {H:Hp}{s:Shared}{Q:VK}{us:List Value}{vs:List V}{k:Nat}{f:Addr}{fd:FuncData}{ps:List Str}{sp:Sp}{E:XK}{clos:Clos}{ix:List Nat}{ws:List V} (C:CapOk X clos ix) (F:FnOk X.prog X.w X.K X.mg X.base CX0 k f fd ps sp) (hr:Room k X.A) (hb:Binds X.K fd ps [])
  (I:Inv X pins σ H s) (r:Vals vs us) (ew:(ix.map fun i=>(σ[i]?).join)=ws.map some)
  (h:∀ g:Addr->Obj,Paired (fun (p:Str×Addr) v=>CellIs (g p.2) v) clos ws->(∀ b,inC clos b->H b=none)->sp vs (addG H clos g) (fun v H'=>(∀ b,inC clos b->H' b=some (.ext (CellO b (g b))))/\Q v (remC H' clos)) E) :
  wpAny (model X.prog X.w) X.A (call (.ref f) us) (EP X pins σ Q) X.xe s:=by
 obtain⟨g,hg⟩:∃ g:Addr->Obj,∀ b o,s.heap.get? b=some o->g b=o:=⟨fun b=>(s.heap.get? b).getD { cls:=.none,data:=.plain },fun b o e=>by show (s.heap.get? b).getD _=o;rw[e];rfl⟩
 have lk:∀ b,inC clos b->∃ x,X.env.cells.lookup x=some b:=fun b i=>by
  obtain⟨p,hp,e⟩:=List.mem_map.mp i
  exact⟨p.1,by rw[<- e];exact C.cells p hp⟩
 have free:∀ b,inC clos b->H b=none:=fun b i=>by obtain⟨x,e⟩:=lk b i;exact I.freeC x b e
 have there:∀ b,inC clos b->s.heap.get? b=some (g b):=fun b i=>by
  obtain⟨x,e⟩:=lk b i
  obtain⟨v,o,ho,_⟩:=I.cell x b e
  rw[ho,hg b o ho]
 have above:∀ b,inC clos b->X.s₀.heap.objs.size<=b:=fun b i=>by obtain⟨x,e⟩:=lk b i;exact I.ok.cab x b (C.fn x) e
 have spec:=h g (cells_are I C.cells hg C.at_ ew) free
 have addN:∀ {b:Addr},¬inC clos b->addG H clos g b=H b:=fun i=>if_neg i
 have hl:us.length=ps.length:=by rw[<- r.length];exact F.len _ _ _ _ spec
 have en:Env0 X.prog X.w X.K X.mg X.base X.A X.stack s (addG H clos g):=by
  refine⟨I.ok.frames,I.ok.mod,fun b o e=>⟨(I.bs b o e).1,?_⟩,Nat.le_trans I.ok.bsz I.sz,I.stack,fun b hb=>?_,I.hok.addG free there,I.bare⟩
  ·rw[addN fun i=>absurd (Nat.lt_of_lt_of_le (Heap.lt_size e) I.ok.bsz) (Nat.not_lt.mpr (above b i))]
   exact (I.bs b o e).2
  ·rw[addN fun i=>?_]
   ·exact I.stkFree b hb
   ·rcases List.mem_cons.mp (I.stkSub b hb) with z | z
    ·obtain⟨x,e⟩:=lk b i
     exact I.cne x b e z
    ·obtain⟨_,o,ho,_⟩:=I.ok.funs.mem z
     exact absurd (Heap.lt_size ho) (Nat.not_lt.mpr (above b i))
 have bnd:=hb s us I.kIn (by rw[List.append_nil];exact hl)
 rw[List.append_nil]at bnd
 refine wpAny_call (codeAny_mono (F.run X.A X.stack s (addG H clos g) ⟨us,[]⟩ us vs _ E hr en bnd r spec) fun r s' hq=>?_)
 cases r with
 | error e=>exact hq.elim
 | ok fl=>
  cases fl with
  | next=>exact False.elim hq
  | brk=>exact False.elim hq
  | cont=>exact False.elim hq
  | ret u=>
   obtain⟨v,H',os,bare,un,hok,rv,hc,q⟩:=hq
   obtain⟨hh,gg,d,t,os'⟩:=s'
   obtain rfl:os'=s.os:=os
   have kept:∀ b,inC clos b->hh.get? b=some (g b):=fun b i=>(hok b _ (hc b i)).1
   have nin:∀ {b:Addr}{o:HO},H b=some o->¬inC clos b:=fun e i=>by rw[free _ i]at e;cases e
   refine⟨v,remC H' clos,I.call (h':=hh) (g':=gg) (d':=d) (t':=t) (ch:=[]) ⟨fun b o e n hb hx=>?_,fun b o e n hb hx=>?_,fun b o e n hx=>?_,un.there,fun b xs e=>?_,fun b o v e=>?_,fun b qs e=>?_⟩ (hok.rem fun b i=>⟨_,hc b i⟩) bare (fun b z=>absurd z (by simp)),rv,q⟩
   ·by_cases i:inC clos b
    ·have:=kept b i;rw[hg b o e]at this;exact this
    ·exact un.keep b o e ((addN i).trans n) hb hx
   ·by_cases i:inC clos b
    ·have:=kept b i;rw[hg b o e]at this;exact⟨o.slots,this⟩
    ·exact un.slot b o e ((addN i).trans n) hb hx
   ·by_cases i:inC clos b
    ·exact remC_in i
    ·rw[remC_ne i];exact un.free b o e ((addN i).trans n) hx
   ·rw[remC_ne (nin e)];exact un.tups b xs ((addN (nin e)).trans e)
   ·rw[remC_ne (nin e)];exact un.frzs b o v ((addN (nin e)).trans e)
   ·rw[remC_ne (nin e)];exact un.tbls b qs ((addN (nin e)).trans e)
theorem we_lamC {clos:Clos}{params:Arguments}{body:Expr}{scope:Scope}{pos:Pos}{c T:Addr} (L:LmK X.K X.mg c T) (hcl:closureFor scope X.env=pure clos) (hdef:defaultsOf params X.env=([],[]):=by rfl) (hge:X.env.globals=mainGlobals:=by rfl) (hcode:X.env.code=.ref c:=by rfl) :
  Hd (PE X (.Lambda params body scope pos) (tLamC T (X.env.qual++"<lambda>") params body scope clos ((X.mg "__name__").getD .none) pos)):=by
 obtain⟨cd,⟨bm,ob,b1,b2,b3,b4,b5,b6,b7,b8⟩,gT⟩:=L
 exact⟨pe_lamC hdef hcl hge hcode cd b1 b2 b3 b4 b5 b6 b7 b8 gT⟩
def tCallA0 (C:Addr->Sp->Prop) (E:XK) (te:TE):TE:=fun σ H Q=>te σ H fun y H1=>∃ f sp,y=.ref f/\C f sp/\sp [] H1 Q E
def HeldC (X:Cx) (k:Nat) (f:Addr) (sp:Sp):Prop:=∃ (c:Addr) (qual:Str) (params:Arguments) (body:Expr) (scope:Scope) (clos:Clos) (pm ctv:Value) (ps:List Str),
 FnOk X.prog X.w X.K X.mg X.base CX0 k f (PySem.W.kla_fn "<lambda>" qual params body scope clos pm (.ref c) ctv) ps sp/\Binds X.K (PySem.W.kla_fn "<lambda>" qual params body scope clos pm (.ref c) ctv) ps []/\∀ vs H Q E,sp vs H Q E->H f=some (.ext (LamOC qual params body scope clos pm c ctv f))
theorem pe_callL0 {k:Nat}{C:Addr->Sp->Prop}{E:XK}{fe:Expr}{te:TE}{pos:Pos} (hC:∀ f sp,C f sp->HeldC X k f sp) (room:Room k X.A) (pf:PE X fe te)
  (call:eval (.Call fe [] [] pos) X.env=(do callWith pos (<- eval fe X.env) [] (backTo pos (starEach [] X.env)) (backToKw pos (keywordEach [] X.env))):=by rfl) :
  PE X (.Call fe [] [] pos) (tCallA0 C E te):=by
 rintro pins s σ H Q I h
 refine Call_ (thn (pf pins s σ H _ I h) fun v s1 ⟨y,H1,I1,r1,f,sp,e1,hc,q1⟩=>?_) call
 subst e1
 cases r1
 obtain⟨c,qual,params,body,scope,clos,pm,ctv,ps,F,hb,at_⟩:=hC f sp hc
 have hf:=(I1.hok f _ (at_ _ _ _ _ q1)).1
 refine PySem.W.callWith_of (P:=fun h=>h.get? f=some (PySem.W.kla_obj "<lambda>" qual params body scope clos pm c ctv)) rfl (fun h hh=>PySem.W.keeps_K (K:=[(f,PySem.W.kla_obj "<lambda>" qual params body scope clos pm c ctv)]) ?kp h fun a o z=>?lk) (evalArgs_nil3 ⟨hf,run_fn (us:=[]) (vs:=[]) F room hb .nil (fun _ _ _ _ _ _ _ z=>z.elim) I1 .nil q1⟩)
 case kp=>simp [PySem.W.keepIn,List.lookup]
 case lk=>
  by_cases y:a=f
  ·subst y;simp [List.lookup]at z;rw[<- z];exact hh
  ·have:(a == f)=false:=by simpa using y
   simp [List.lookup,this]at z
theorem we_callL0 {k:Nat}{C:Addr->Sp->Prop}{E:XK}{fe:Expr}{te:TE}{pos:Pos} (hC:∀ f sp,C f sp->HeldC X k f sp) (room:Room k X.A) (pf:Hd (PE X fe te))
  (call:eval (.Call fe [] [] pos) X.env=(do callWith pos (<- eval fe X.env) [] (backTo pos (starEach [] X.env)) (backToKw pos (keywordEach [] X.env))):=by rfl) :
  Hd (PE X (.Call fe [] [] pos) (tCallA0 C E te)):=⟨pe_callL0 hC room pf.out call⟩
end
end L2
end
section
namespace L2
open PySem PySem.Spec PyProof.Rows PySem.W
section
variable {prog:Program}{w:World}{A:Around}{E:Value->Shared->Prop}{s:Shared}
variable {I:Addr}{fp wr:List Addr}{n:Nat}{P:Nat->Value->Prop}{St:Nat->Heap->Prop}
end
end L2
end
section
namespace L2
open PySem PySem.Spec PyProof.Rows PySem.W
open Classical in
section
variable {P:Program}{w:World}{H:Hp}
theorem depL_le {n:Nat}:∀ {ds:List Dt},depL ds<=n->∀ d∈ds,d.dep<=n:=fun h d hd=>Nat.le_trans (dep_mem hd) h
end
end L2
end
section
namespace L2
open PySem PySem.Spec PyProof.Rows PySem.W
section
variable {prog:Program}{w:World}{A:Around}{E:Value->Shared->Prop}{s:Shared}{T:String}{r:Addr}{n:Nat}{P:Nat->Value->Prop}{OK:Heap->Prop}
end
end L2
end
section
namespace L2
open PySem PySem.Spec PyProof.Rows PySem.W
section
variable {X:Cx}
end
end L2
end
section
namespace L2
open PySem PySem.Spec PyProof.Rows PySem.W
open Kn (krun)
section
variable {X:Cx}
end
end L2
end
section
namespace L2
open PySem PySem.Spec PyProof.Rows PySem.W
section
variable {X:Cx}
end
end L2
end
section
namespace L2
open PySem PySem.Spec PyProof.Rows
section
open AutoSeq1 (wpAny_loadPart')
end
section
variable {prog:Program}{w:World}{A:Around}{E:Value->Shared->Prop}{s:Shared}
end
section
variable {X:Cx}
end
end L2
end
section
namespace L2
open PySem PySem.Spec PyProof.Rows PySem.W
section
variable {X:Cx}
end
end L2
end
section
namespace L2
open PySem PySem.Spec PyProof.Rows PySem.W
section
variable {prog:Program}{w:World}{A:Around}{E:Value->Shared->Prop}{s:Shared}
end
section
variable {X:Cx}
end
end L2
end
section
namespace L2
open PySem PySem.Spec PyProof.Rows PySem.W
section
variable {X:Cx}{e o:Expr}{te to:TE}
end
end L2
end
section
namespace L2
open PySem PySem.Spec PyProof.Rows
section
variable {X:Cx}
def rInT:R2:=fun x y H Q=>∃ a b:Str,x=.str a/\y=.str b/\Q (.bl (Txt.contains b a)) H
theorem op_inT:OpR X (compareOp .In) rInT:=by
 intro pins s σ H x y v u Q I rx ry h
 obtain⟨a,b,rfl,rfl,q⟩:=h
 obtain⟨t,rfl⟩:=rx
 obtain⟨t2,rfl⟩:=ry
 exact PySem.P.in_str ⟨.bl _,H,I,rfl,q⟩
def rStarts:V->List V->Hp->VK->Prop:=fun x xs H Q=>∃ a b:Str,x=.str a/\xs=[.str b]/\Q (.bl (Txt.startswith a b)) H
theorem mt_starts:MtR X "str.startswith" rStarts:=by
 intro pins s σ H x xs v us Q I rx rxs h
 obtain⟨a,b,rfl,rfl,q⟩:=h
 obtain⟨t,rfl⟩:=rx
 obtain⟨u,rfl,ru⟩:=rxs.one
 obtain⟨t2,rfl⟩:=ru
 exact call_gives F.slot_str_startswith (typeIs_str _ _ _) F.entry_str_startswith (F.args_str_startswith_2 _ _) (gives_str_startswith a b t t2) ⟨.bl _,H,I,rfl,q⟩
def rIntT:List V->Hp->VK->Prop:=fun xs H Q=>∃ (a:Str) (n:Int),xs=[.str a]/\PySem.intText? a=some n/\a.length<=640/\Q (.int n) H
theorem call_intT:CallR X (.type "int") rIntT:=by
 intro pins s σ H xs us Q I r h
 obtain⟨a,n,rfl,hn,hl,q⟩:=h
 obtain⟨u,rfl,ru⟩:=r.one
 obtain⟨t,rfl⟩:=ru
 exact PySem.W.KIN.call_text hn hl ⟨.int n,H,I.tok _,⟨_,rfl⟩,q⟩
theorem ws_fldaug {o value:Expr}{f:Str}{pos tpos:Pos}{ta tv:TE}{op:Operator}{rd:V->V->Hp->VK->Prop} (ha:Hd (PE X o ta)) (hv:Hd (PE X value tv)) (hop:InOp X op rd):Hd (PS X (.AugAssign (.Attribute o f tpos) op value pos) (sFldAug X.K ta tv rd f)):=⟨ps_fldaug ha.out hv.out hop⟩
theorem relv_str (x:Str) (t:Tok):RelV (.str x) (.str x t):=⟨t,rfl⟩
end
end L2
end
section
namespace Kn
open PySem L2
theorem head_nz (m:Nat) (h:0<m):∃ c t,(Nat.toDigits 10 m).map Char.toNat=c::t/\c≠48:=by
 induction m using Nat.strongRecOn with
 | _ m ih=>
  by_cases h10:m<10
  ·rw[Nat.toDigits_of_lt_base h10]
   refine⟨_,_,rfl,?_⟩
   have:∀ d:Nat,d<10->0<d->(Nat.digitChar d).toNat≠48:=by decide
   exact this m h10 h
  ·have hm:m % 10<10:=Nat.mod_lt m (by decide)
   have t:Nat.toDigits 10 (m / 10)++Nat.toDigits 10 (m % 10)=Nat.toDigits 10 (10 * (m / 10)+m % 10):=Nat.toDigits_append_toDigits (by decide) (by lia) hm
   rw[Nat.div_add_mod]at t
   obtain⟨c,r,e,hc⟩:=ih (m / 10) (by lia) (by lia)
   rw[<- t,List.map_append,e]
   exact⟨c,_,rfl,hc⟩
theorem num_shape (i:Int):(∃ m:Nat,i=m/\dg i=(Nat.toDigits 10 m).map Char.toNat/\(m=0\/∃ c t,dg i=c::t/\c≠48)) \/
  (∃ m:Nat,i=-(m:Int)/\∃ c t,dg i=45::c::t/\(Nat.toDigits 10 m).map Char.toNat=c::t/\c≠48):=by
 cases i with
 | ofNat m=>
  refine .inl ⟨m,rfl,dg_pos m,?_⟩
  by_cases h:m=0
  ·exact .inl h
  ·obtain⟨c,t,e,hc⟩:=head_nz m (by lia)
   exact .inr ⟨c,t,by rw[show Int.ofNat m=(m:Int) from rfl,dg_pos,e],hc⟩
 | negSucc m=>
  obtain⟨c,t,e,hc⟩:=head_nz (m+1) (by lia)
  exact .inr ⟨m+1,by lia,c,t,by rw[dg_neg,e],e,hc⟩
theorem num_read {i:Int} (h:(numS i).length<=640):PySem.intText? (numS i)=some i:=by
 have hl:(numS i).length<=4300:=Nat.le_trans h (by decide)
 rcases num_shape i with ⟨m,rfl,e,_⟩ | ⟨m,rfl,c,t,e,e2,_⟩
 ·have hd:NumText.AllDigits (numS (m:Int)).cps.toList:=fun c hc=>digit_sign (m:=m) (by rw[<- e];exact hc)
  have:=PySem.intText_digits hd (by rw[show (numS (m:Int)).cps.toList=_ from e];exact digits_ne m) hl
  rw[show (numS (m:Int)).cps.toList=_ from e,PySem.W.KIN.val_back]at this
  exact this
 ·have hx:(numS (-(m:Int))).cps.toList=45::(c::t):=e
  have hd:NumText.AllDigits (c::t):=fun d hd=>digit_sign (m:=m) (by rw[e2];exact hd)
  have:=PySem.intText_neg hx hd (by simp) hl
  rw[<- e2,PySem.W.KIN.val_back]at this
  exact this
theorem cut1 {x:Str}{c:Nat}{t:List Nat} (h:x.cps.toList=c::t):Txt.slice x (some 1) none=⟨t.toArray⟩:=by
 show StrLaws.sliceText x (some 1) none=_
 rw[StrLaws.sliceText_from (by rw[h,List.length_cons];lia)]
 rw[h]
 simp
theorem starts_minus (x:Str):Txt.startswith x (Str.ofString "-")=decide (x.cps.toList[0]?=some 45):=by
 have e:Str.ofString "-"=⟨#[45]⟩:=by decide +kernel
 rw[e]
 unfold Txt.startswith
 by_cases h:x.cps.toList[0]?=some 45
 ·have:=(StrLaws.subAt_one x 45 0).mpr h
  rw[decide_eq_true h,decide_eq_true this.1,this.2];rfl
 ·rw[decide_eq_false h]
  cases h1:(decide (0+(⟨#[45]⟩:Str).length<=x.length) && Builtin.Str.subAt x ⟨#[45]⟩ 0)
  ·rfl
  ·rw[Bool.and_eq_true,decide_eq_true_eq]at h1
   exact absurd ((StrLaws.subAt_one x 45 0).mp h1) h
theorem has_one (x:Str) (c:Nat):Txt.contains x ⟨#[c]⟩=decide (c∈x.cps.toList):=StrLaws.found_one x c
end Kn
end
section
namespace Kn
open PySem
theorem cnt_set (v:Val) (d:Int):∀ {ys:List Val}{cs:List Int}{j:Nat} (h:j<cs.length) (hy:j<ys.length),cnt v (ys.zip (cs.set j (cs[j]+d)))=cnt v (ys.zip cs)+(if ys[j]=v then d else 0)
 | [],_,_,_,hy=>by simp at hy
 | _::_,[],_,h,_=>by simp at h
 | y::ys,c::cs,0,_,_=>by
  simp only[List.set_cons_zero,List.getElem_cons_zero,List.zip_cons_cons,cnt]
  split <;> lia
 | y::ys,c::cs,j+1,h,hy=>by
  simp only[List.set_cons_succ,List.getElem_cons_succ,List.zip_cons_cons,cnt]
  rw[cnt_set v d (by simpa using h) (by simpa using hy)]
  lia
theorem zip_split {ys:List Val}{cs:List Int} (h:ys.length=cs.length) (n:Nat):ys.zip cs=(ys.take n).zip (cs.take n)++(ys.drop n).zip (cs.drop n):=by
 rw[<- List.zip_append (by rw[List.length_take,List.length_take,h]),List.take_append_drop,List.take_append_drop]
theorem cnt_put (v u:Val) {ys:List Val}{cs:List Int} (h:ys.length=cs.length) (n:Nat):cnt v ((ys.take n++u::ys.drop n).zip (cs.take n++0::cs.drop n))=cnt v (ys.zip cs):=by
 rw[List.zip_append (by rw[List.length_take,List.length_take,h]),List.zip_cons_cons,cnt_append,cnt,zip_split h n,cnt_append]
 have:(if (u,(0:Int)).1=v then (u,(0:Int)).2 else 0)=0:=by split <;> rfl
 lia
theorem cnt_filter (v:Val) (l:List (Val×Int)):cnt v (l.filter fun q=>decide (q.2≠0))=cnt v l:=by
 induction l with
 | nil=>rfl
 | cons p l ih=>
  rw[List.filter_cons,cnt]
  by_cases c:p.2=0
  ·rw[if_neg (by simp [c]),ih]
   split <;> lia
  ·rw[if_pos (by simp [c]),cnt,ih]
theorem rise_zip {ys:List Val}{cs:List Int} (h:RiseV ys):Rise (ys.zip cs):=by
 induction ys generalizing cs with
 | nil=>exact .nil
 | cons y ys ih=>
  cases cs with
  | nil=>exact .nil
  | cons c cs=>
   have h':=List.pairwise_cons.mp h
   refine List.pairwise_cons.mpr ⟨fun q hq=>h'.1 q.1 (List.of_mem_zip hq).1,ih h'.2⟩
theorem bag_of_zip {xs:List (Val×Int)}{ys:List Val}{cs:List Int} (h:RiseV ys) (hc:∀ v,cnt v (ys.zip cs)=cnt v xs):IsBag xs ((ys.zip cs).filter fun q=>decide (q.2≠0)):=
 ⟨(rise_zip h).sublist List.filter_sublist,fun q hq=>by have:=(List.mem_filter.mp hq).2;simpa using this,fun v=>by rw[cnt_filter,hc]⟩
theorem nAhead_snoc (v y:Val) (ys:List Val):nAhead v (ys++[y])=nAhead v ys+(if aheadB y v=true then 1 else 0):=by
 unfold nAhead
 rw[List.filter_append,List.length_append]
 congr 1
 rw[List.filter_cons]
 split <;> rfl
theorem bag_of_perm {xs:List (Val×Int)}{vs ys:List Val} (f:Val->Int) (hp:ys.Perm vs) (hr:RiseV ys) (hf:∀ v∈vs,f v=cnt v xs) (hn:∀ v,v ∉ vs->cnt v xs=0):IsBag xs ((ys.map fun y=>(y,f y)).filter fun q=>decide (q.2≠0)):=by
 have e:(ys.map fun y=>(y,f y))=ys.zip (ys.map f):=by
  clear hp hr
  induction ys with
  | nil=>rfl
  | cons y ys ih=>simp [ih]
 rw[e]
 refine bag_of_zip hr fun v=>?_
 rw[<- e]
 by_cases c:v∈vs
 ·have hy:v∈ys:=hp.mem_iff.mpr c
  have rs:Rise (ys.map fun y=>(y,f y)):=by rw[e];exact rise_zip hr
  have:=rs.cnt (p:=(v,f v)) (List.mem_map.mpr ⟨v,hy,rfl⟩)
  rw[this]
  exact hf v c
 ·rw[hn v c]
  refine cnt_none fun p hp' e'=>?_
  obtain⟨y,hy,rfl⟩:=List.mem_map.mp hp'
  exact c (e' ▸ hp.mem_iff.mp hy)
end Kn
end
section
namespace Kn
open PySem L2
theorem cnt_abs {v:Val}{c:Nat}{xs:List (Val×Int)} (h:∀ r∈xs,r.2.natAbs<c):(cnt v xs).natAbs<=xs.length * c:=by
 induction xs with
 | nil=>rw[cnt];simp
 | cons p xs ih=>
  have h1:=h p List.mem_cons_self
  have h2:=ih fun r hr=>h r (List.mem_cons_of_mem _ hr)
  rw[cnt,List.length_cons,Nat.succ_mul]
  have h3:(if p.1=v then p.2 else 0).natAbs<=c:=by
   split
   ·lia
   ·simp
  have:=Int.natAbs_add_le (if p.1=v then p.2 else 0) (cnt v xs)
  lia
theorem rise_nodup {qs:List (Val×Int)} (h:Rise qs):(qs.map (·.1)).Nodup:=by
 unfold List.Nodup
 rw[List.pairwise_map]
 exact h.imp fun {a b} hab e=>by rw[e,ahead_irrefl]at hab;cases hab
theorem sum_sub {α:Type} (f:α->Nat):∀ {l m:List α},l.Nodup->(∀ x∈l,x∈m)->(l.map f).sum<=(m.map f).sum
 | [],m,_,_=>Nat.zero_le _
 | a::l,m,nd,h=>by
  rw[List.nodup_cons]at nd
  obtain⟨s,t,rfl⟩:=List.append_of_mem (h a List.mem_cons_self)
  have:=sum_sub f (l:=l) (m:=s++t) nd.2 fun x hx=>by
   have hm:=h x (List.mem_cons_of_mem _ hx)
   rcases List.mem_append.mp hm with z | z
   ·exact List.mem_append_left _ z
   ·rcases List.mem_cons.mp z with z | z
    ·exact absurd (z ▸ hx) nd.1
    ·exact List.mem_append_right _ z
  rw[List.map_append,List.sum_append]at *
  rw[List.map_cons,List.map_cons,List.sum_cons,List.sum_cons]
  lia
theorem bag_sz {xs qs:List (Val×Int)} (h:IsBag xs qs) (a:∀ q∈qs,∃ r∈xs,q.1=r.1):vszB qs<=vszB xs:=by
 have e:∀ l:List (Val×Int),vszB l=((l.map (·.1)).map vsz).sum:=fun l=>by rw[vszB_map,List.map_map];rfl
 rw[e,e]
 refine sum_sub vsz (rise_nodup h.1) fun x hx=>?_
 obtain⟨q,hq,rfl⟩:=List.mem_map.mp hx
 obtain⟨r,hr,er⟩:=a q hq
 exact List.mem_map.mpr ⟨r,hr,er.symm⟩
theorem bag_cnt {xs qs:List (Val×Int)}{c:Nat} (h:IsBag xs qs) (hc:∀ r∈xs,r.2.natAbs<c):∀ q∈qs,q.2.natAbs<=xs.length * c:=fun q hq=>by
 have e:=((bag_mem h q).mp hq).2
 rw[<- e]
 exact cnt_abs hc
theorem vszB_app (a b:List (Val×Int)):vszB (a++b)=vszB a+vszB b:=by rw[vszB_map,List.map_append,List.sum_append,<- vszB_map,<- vszB_map]
theorem vszR_app (a b:List (Str×Val)):vszR (a++b)=vszR a+vszR b:=by rw[vszR_map,List.map_append,List.sum_append,<- vszR_map,<- vszR_map]
end Kn
end
section
namespace L2
open PySem PySem.Spec PyProof.Rows
section
variable {prog:Program}{w:World}{A:Around}{E:Value->Shared->Prop}{s:Shared}
end
section
variable {prog:Program}{w:World}{A:Around}{E:Value->Shared->Prop}{s:Shared}
end
section
variable {X:Cx}
end
end L2
end
section
namespace L2
open PySem
theorem seqH {t u:TS}{D:Ends} {σ:St} {H:Hp} (h:∀ N:St->Hp->Prop,(∀ σ H,u D σ H->N σ H)->t ⟨N,D.rt,D.bk,D.ct⟩ σ H):tSeq t u D σ H:=h (u D) fun _ _ k=>k
theorem vr {σ:St} {i:Nat}{v:V}{H:Hp}{Q:VK} (k:Q v H) (e:σ[i]?=some (some v):=by rfl):tVar i σ H Q:=⟨v,e,k⟩
end L2
end
section
namespace K05
open PySem L2
def top (i:Nat):Stmt:=PySem.Challenge.pw_keptnest_k05_read_in_any_order.main.body.getD i (.Pass ⟨0,0,0,0⟩)
def bd (i j:Nat):Stmt:=(defBody (top i)).getD j (.Pass ⟨0,0,0,0⟩)
def clsBody (s:Stmt):List Stmt:=match s with
 | .ClassDef _ _ _ b _ _ _ _ _ _ _=>b
 | _=>[]
def mtop (i j:Nat):Stmt:=(clsBody (top i)).getD j (.Pass ⟨0,0,0,0⟩)
structure Mf (K:PySem.W.Frag) (C:Addr) (m qual:Str) (st:Stmt) (f:Addr) (fd:FuncData) (ps:List Str):Prop where
 fn:Fun K m qual st f fd
 b:Binds K fd ps []
 mt:Meth K C m f
structure Tx (mg:Str->Option Value):Prop where
 z_len:mg "len"=none
 z_int:mg "int"=none
 z_tuple:mg "tuple"=none
 z_range:mg "range"=none
 z_isinstance:mg "isinstance"=none
 z_zip:mg "zip"=none
 z_sorted:mg "sorted"=none
 z_abs:mg "abs"=none
 z_str:mg "str"=none
 z_list:mg "list"=none
 z_all:mg "all"=none
 z_bool:mg "bool"=none
def Dk (H:Hp) (p:Addr) (n r:Int):Prop:=∃ c f m c0:Int,H p=some (.lst [.int c,.int f,.int m,.int r,.int c0])/\0<=m/\m<=n
def Ex (p:Addr) (H H':Hp):Prop:=∀ b o,b≠p->H b=some o->H' b=some o
theorem Ex.refl (p:Addr) (H:Hp):Ex p H H:=fun _ _ _ h=>h
theorem Ex.trans {p:Addr}{H H1 H2:Hp} (a:Ex p H H1) (b:Ex p H1 H2):Ex p H H2:=fun c o n h=>b c o n (a c o n h)
theorem ex_upd {p:Addr}{H:Hp}{o:HO}:Ex p H (upd H p o):=fun b u n h=>by rw[upd_ne n];exact h
theorem ex_new {p q:Addr}{H:Hp}{o:HO} (h:H q=none):Ex p H (upd H q o):=fun b u n e=>by rw[upd_ne (ne_of_none e h)];exact e
theorem Dk.mono {H:Hp}{p:Addr}{n m r:Int} (h:Dk H p n r) (l:n<=m):Dk H p m r:=by
 obtain⟨c,f,k,c0,e,a,b⟩:=h;exact⟨c,f,k,c0,e,a,by lia⟩
theorem Dk.keep {H H':Hp}{p:Addr}{n r:Int} (h:Dk H p n r) (s:Same H H'):Dk H' p n r:=by
 obtain⟨c,f,k,c0,e,a,b⟩:=h;exact⟨c,f,k,c0,s _ _ e,a,b⟩
theorem Dk.new {H:Hp}{p q:Addr}{n r:Int}{o:HO} (h:Dk H p n r) (hq:H q=none):Dk (upd H q o) p n r:=by
 obtain⟨c,f,k,c0,e,a,b⟩:=h;exact⟨c,f,k,c0,by rw[upd_ne (ne_of_none e hq)];exact e,a,b⟩
theorem Dk.off {H:Hp}{p q:Addr}{n r:Int}{o:HO} (h:Dk H p n r) (hq:p≠q):Dk (upd H q o) p n r:=by
 obtain⟨c,f,k,c0,e,a,b⟩:=h;exact⟨c,f,k,c0,by rw[upd_ne hq];exact e,a,b⟩
theorem Dk.tups {H H':Hp}{p:Addr}{n r:Int} (h:Dk H p n r) (x:Ex p H H'):Tups H H':=fun b xs e=>by
 obtain⟨c,f,k,c0,e',_⟩:=h
 exact x b _ (ne_of e e' (by intro z;cases z)) e
section
variable {P:Program}{w:World}{K:PySem.W.Frag}{mg:Str->Option Value}{base:Heap}{f:Addr}{fd:FuncData}
theorem u110 {k:Nat}{A:Around} (hr:Room k A):A.units+110<cLine:=by have:=hr.un;lia
theorem u0 {k:Nat}{A:Around} (hr:Room k A):A.units<cLine:=by have:=hr.un;lia
theorem ZbL:FnScope ["script","k"] ["script","k"] (defScope (top 29)):=⟨rfl,rfl,rfl,by decide +kernel,rfl,by decide +kernel,by decide +kernel⟩
def spCell (K:PySem.W.Frag):Sp:=fun vs H Q _=>∃ (a:Addr) (ns:List Int) (k:Int),vs=[.ref a,.int k]/\SqL K H a (ns.map V.int)/\0<=k/\∀ i:Int,Q (.int i) H
theorem ok_cell (T:Tx mg) (D:Df K mg "_law_cell_at" (top 29) f fd ["script","k"]):FnOk P w K mg base CX0 1 f fd ["script","k"] (spCell K):=by
 refine D.fn.okH ZbL (fun vs H Q E h=>?_) (fun cdv A outer s H vs Q E hr h=>?_)
 ·obtain⟨a,ns,k,rfl,_⟩:=h;rfl
 obtain⟨a,ns,k,rfl,hS,h0,q⟩:=h
 have hu:=u110 hr
 have hu0:=u0 hr
 have hu1:=hu_of hr
 refine⟨_,(wss_cons (ws_if (wt_cmpR (op_ltU hu0) (wv 1) (we_callB call_lenU rfl T.z_len bt_len (wa_cons (wv 0) wa_nil)) (nomark _)) (wss_one (ws_ret (we_ix (ix_U hu1) (wv 0) (wv 1) (fun _ _=>rfl)))) wss_nil)
   (wss_one (ws_ret we_int))),?_⟩
 refine⟨_,rfl,_,rfl,.inl ⟨a,_,rfl,.inl hS,.inl ⟨_,_,rfl,rfl,_,rfl,?_⟩⟩⟩
 refine ite2 (fun c=>?_) (fun c=>?_)
 ·have c':k<((ns.map V.int).length:Int):=of_decide_eq_true c
  rw[List.length_map]at c'
  have hk:k.toNat<ns.length:=by lia
  refine⟨_,rfl,_,rfl,.inl ⟨a,_,_,_,rfl,rfl,hS,?_,q ns[k.toNat]⟩⟩
  have e:((k.toNat:Nat):Int)=k:=by lia
  have z:atI (ns.map V.int) ((k.toNat:Nat):Int)=some (.int ns[k.toNat]):=atI_nat (by rw[List.getElem?_map,List.getElem?_eq_getElem hk] <;> rfl)
  rw[e]at z
  exact z
 ·exact q 0
theorem ZbM:FnScope ["cell","room"] ["cell","room"] (defScope (top 30)):=⟨rfl,rfl,rfl,by decide +kernel,rfl,by decide +kernel,by decide +kernel⟩
def spDeck:Sp:=fun vs H Q _=>∃ c r:Int,vs=[.int c,.int r]/\∀ p H',H p=none->Same H H'->Dk H' p 0 r->Q (.ref p) H'
theorem same_new {H:Hp}{p:Addr} (h:H p=none) (o:HO):Same H (upd H p o):=fun b u q=>by rw[upd_ne (ne_of_none q h)];exact q
theorem ok_deck (T:Tx mg) (D:Df K mg "_law_deck" (top 30) f fd ["cell","room"]):FnOk P w K mg base CX0 1 f fd ["cell","room"] spDeck:=by
 refine D.fn.okH ZbM (fun vs H Q E h=>?_) (fun cdv A outer s H vs Q E hr h=>?_)
 ·obtain⟨a,r,rfl,_⟩:=h;rfl
 obtain⟨c,r,rfl,q⟩:=h
 have hu:=u110 hr
 refine⟨_,(wss_one (ws_ret (we_lst (wa_cons (wv 0) (wa_cons (we_callTy call_int1 rfl T.z_int bt_int (wa_cons (we_cmpR op_ge (wv 0) (we_op op_pow we_int we_int) (nomark _)) wa_nil)) (wa_cons we_int (wa_cons (wv 1) (wa_cons (wv 0) wa_nil)))))))),?_⟩
 refine⟨_,rfl,_,rfl,_,_,rfl,rfl,⟨by decide,by decide,by decide⟩,_,_,rfl,rfl,.inr ⟨_,rfl,_,rfl,_,rfl,(by show 5<=sizeLine;decide),fun p hp=>?_⟩⟩
 exact q p _ hp (same_new hp _) ⟨_,_,0,_,upd_same,by decide,by decide⟩
theorem bm (a k:Int) (h:0<k) (h2:k<2 ^ 64):-(2 ^ 64)<a % k/\a % k<2 ^ 64:=by
 have h1:=Int.emod_nonneg a (by lia:k≠0)
 have h3:=Int.emod_lt_of_pos a h
 lia
theorem ZaW:FnScope ["deck","many","found","number"] ["deck","many"] (defScope (top 31)):=⟨rfl,rfl,rfl,by decide +kernel,rfl,by decide +kernel,by decide +kernel⟩
def spNext:Sp:=fun vs H Q _=>∃ (p:Addr) (n r many:Int),vs=[.ref p,.int many]/\Dk H p n r/\n<1000000000000/\0<many/\many<1073741824 /\
 ∀ (x:Int) (H':Hp),0<=x->x<many->Ex p H H'->Dk H' p (n+1) r->Q (.int x) H'
theorem ok_next (T:Tx mg) (D:Df K mg "_law_next" (top 31) f fd ["deck","many"]):FnOk P w K mg base CX0 1 f fd ["deck","many"] spNext:=by
 refine D.fn.okH ZaW (fun vs H Q E h=>?_) (fun cdv A outer s H vs Q E hr h=>?_)
 ·obtain⟨p,n,r,many,rfl,_⟩:=h;rfl
 obtain⟨p,n,r,many,rfl,⟨c,f0,m,c0,hp,hm0,hmn⟩,hn,h0,h1,q⟩:=h
 have hu:=u110 hr
 have hu1:=hu_of hr
 refine⟨_,(wss_cons (ws_if (wt_pw (ww_and (wt_cmpR (op_eqU hu) (we_ix (ix_U hu1) (wv 0) we_int (fun _ _=>rfl)) we_int (nomark _)) (ww_and1 (wt_cmpR op_gt (we_ix (ix_U hu1) (wv 0) we_int (fun _ _=>rfl)) we_int (nomark _))))) (wss_cons (ws_set (i:=2) ZaW.nd rfl (Or.inl rfl) (we_op op_mod (we_ix (ix_U hu1) (wv 0) we_int (fun _ _=>rfl)) (wv 1)))
   (wss_cons (ws_asg (we_op op_fdiv (we_ix (ix_U hu1) (wv 0) we_int (fun _ _=>rfl)) (wv 1)) (wg_sub (wv 0) we_int (set_U hu1)))
   (wss_one (ws_ret (wv 2))))) wss_nil)
   (wss_cons (ws_asg (we_op op_plus (we_ix (ix_U hu1) (wv 0) we_int (fun _ _=>rfl)) we_int) (wg_sub (wv 0) we_int (set_U hu1)))
   (wss_cons (ws_set (i:=3) ZaW.nd rfl (Or.inl rfl) (we_op op_plus (we_op op_mod (we_ix (ix_U hu1) (wv 0) we_int (fun _ _=>rfl)) we_int) (we_op op_mul (we_op op_mul we_int (we_ix (ix_U hu1) (wv 0) we_int (fun _ _=>rfl))) (we_ix (ix_U hu1) (wv 0) we_int (fun _ _=>rfl)))))
   (wss_cons (ws_set (i:=3) ZaW.nd rfl (Or.inl rfl) (we_op op_mod (we_op op_plus (wv 3) (we_op op_mul we_int (we_ix (ix_U hu1) (wv 0) we_int (fun _ _=>rfl)))) we_int))
   (wss_cons (ws_set (i:=3) ZaW.nd rfl (Or.inl rfl) (we_op op_mod (we_op op_mul (wv 3) (wv 3)) we_int))
   (wss_one (ws_ret (we_op op_mod (we_op op_fdiv (we_op op_mod (we_op op_mul (wv 3) (we_op op_plus (wv 3) we_int)) we_int) we_int) (wv 1))))))))),?_⟩
 refine⟨_,rfl,.inl ⟨p,_,_,_,rfl,rfl,SqL.of hp,rfl,.inl ⟨rfl,_,rfl,?_⟩⟩⟩
 refine ite2 (fun e1=>?a) (fun e1=>?b)
 case' a=>
  refine⟨_,rfl,.inl ⟨p,_,_,_,rfl,rfl,SqL.of hp,rfl,_,_,rfl,rfl,_,rfl,?_⟩⟩
  refine ite2 (fun e2=>?d) (fun e2=>?e)
 case d=>
  refine⟨_,rfl,.inl ⟨p,_,_,_,rfl,rfl,SqL.of hp,rfl,_,rfl,_,_,rfl,rfl,h0,?_⟩⟩
  refine⟨_,rfl,.inl ⟨p,_,_,_,rfl,rfl,SqL.of hp,rfl,_,rfl,_,_,rfl,rfl,⟨h0,h1⟩,_,rfl,.inl ⟨p,_,_,0,rfl,rfl,hp,rfl,?_⟩⟩⟩
  exact⟨_,rfl,q _ _ (Int.emod_nonneg _ (by lia)) (Int.emod_lt_of_pos _ h0) ex_upd ⟨_,_,_,_,upd_same,hm0,by lia⟩⟩
 all_goals
  refine⟨_,rfl,.inl ⟨p,_,_,_,rfl,rfl,SqL.of hp,rfl,.inl ⟨_,_,rfl,rfl,_,rfl,.inl ⟨p,_,_,2,rfl,rfl,hp,rfl,?_⟩⟩⟩⟩
  have hp1:(upd H p (.lst ([V.int c,.int f0,.int m,.int r,.int c0].set 2 (.int (m+1))))) p=some (.lst [V.int c,.int f0,.int (m+1),.int r,.int c0]):=upd_same
  refine⟨_,rfl,.inl ⟨p,_,_,_,rfl,rfl,SqL.of hp1,rfl,_,_,rfl,rfl,(by show (0:Int)<2147483629;decide),_,rfl,.inl ⟨p,_,_,_,rfl,rfl,SqL.of hp1,rfl,_,_,rfl,rfl,.inl ⟨by decide,by decide⟩,_,rfl,.inl ⟨p,_,_,_,rfl,rfl,SqL.of hp1,rfl,_,_,rfl,rfl,.inr ⟨by lia,by lia⟩,.inl ⟨_,_,rfl,rfl,?_⟩⟩⟩⟩⟩
  refine⟨_,rfl,_,rfl,.inl ⟨p,_,_,_,rfl,rfl,SqL.of hp1,rfl,_,_,rfl,rfl,.inl ⟨by decide,by decide⟩,.inl ⟨_,_,rfl,rfl,_,_,rfl,rfl,(by show (0:Int)<2147483629;decide),?_⟩⟩⟩
  refine⟨_,rfl,_,rfl,_,_,rfl,rfl,.inl (bm _ _ (by decide) (by decide)),_,_,rfl,rfl,(by show (0:Int)<2147483587;decide),?_⟩
  refine⟨_,rfl,_,rfl,.inl ⟨_,_,rfl,rfl,_,_,rfl,rfl,.inl (bm _ _ (by decide) (by decide)),_,_,rfl,rfl,(by show (0:Int)<2147483563;decide),_,_,rfl,rfl,⟨by decide,by decide⟩,_,rfl,_,_,rfl,rfl,h0,?_⟩⟩
  exact q _ _ (Int.emod_nonneg _ (by lia)) (Int.emod_lt_of_pos _ h0) ex_upd ⟨_,_,_,_,hp1,by lia,by lia⟩
end
end K05
end
section
namespace K05
open PySem L2 Kn
theorem atI_mem {α:Type} {xs:List α}{r:Int} (h0:0<=r) (h1:r<xs.length):∃ v,atI xs r=some v/\v∈xs:=by
 have hk:r.toNat<xs.length:=by lia
 have e:((r.toNat:Nat):Int)=r:=by lia
 have z:atI xs ((r.toNat:Nat):Int)=some xs[r.toNat]:=atI_nat (List.getElem?_eq_getElem hk)
 rw[e]at z
 exact⟨_,z,List.getElem_mem hk⟩
theorem Dk.some {H:Hp}{p:Addr}{n r:Int} (h:Dk H p n r):∃ o,H p=some o:=by obtain⟨c,f,m,c0,e,_⟩:=h;exact⟨_,e⟩
theorem Dk.ne {H:Hp}{p q:Addr}{n r:Int} (h:Dk H p n r) (hq:H q=none):q≠p:=by
 obtain⟨o,e⟩:=h.some
 intro z;subst z;rw[e]at hq;cases hq
theorem glue_fold (g:Str):∀ (ps:List Str) (acc:Array Nat),(ps.foldl (fun acc p=>acc++g.cps++p.cps) acc).size=acc.size+(ps.map (·.length)).sum+ps.length * g.length
 | [],acc=>by simp
 | p::ps,acc=>by
  rw[List.foldl_cons,glue_fold g ps,List.map_cons,List.sum_cons,List.length_cons,Nat.succ_mul,Array.size_append,Array.size_append]
  show acc.size+g.length+p.length+_+_=_
  lia
theorem join_le (g:Str) (ps:List Str):(Txt.join g ps).length<=(ps.map (·.length)).sum+ps.length * g.length:=by
 show ((ps.drop 1).foldl (fun acc p=>acc++g.cps++p.cps) (ps.headD Str.empty).cps).size<=_
 rw[glue_fold]
 cases ps with
 | nil=>simp [Str.empty]
 | cons p ps=>
  show p.length+_+_<=_
  rw[List.map_cons,List.sum_cons,List.length_cons,Nat.succ_mul]
  simp only[List.drop_succ_cons,List.drop_zero]
  lia
theorem gall {i:Nat}{x:V} {σ:St} {H:Hp}{A B:St->Hp->Prop} (h:A (σ.set i (some x)) H):gName i x σ H fun σ2 H2=>tAll σ2 H2 fun b H3=>if b=true then A σ2 H3 else B σ2 H3:=by
 show (if true=true then A (σ.set i (some x)) H else B (σ.set i (some x)) H)
 rw[if_pos rfl];exact h
theorem allL:∀ c∈(Str.ofString "etaoinshrdlucmfwypvbgkjqxz").cps.toList,isLet c=true:=by decide +kernel
theorem len_app (a b:Str):(a++b).length=a.length+b.length:=by
 show (a.cps++b.cps).size=_
 rw[Array.size_append];rfl
theorem inV_str (w:Str):∀ l:List Str,inV (.str w) (l.map V.str)=true ↔ w∈l
 | []=>by simp [inV]
 | x::l=>by
  have ih:=inV_str w l
  unfold inV at ih ⊢
  rw[List.map_cons,List.any_cons,Bool.or_eq_true,ih,List.mem_cons]
  show (x == w)=true\/_ ↔ _
  rw[beq_iff_eq]
  exact⟨fun h=>h.elim (fun e=>.inl e.symm) .inr,fun h=>h.elim (fun e=>.inl e.symm) .inr⟩
theorem tkn_x {s:Str} (h:s∈TKN):nmOk (s++Str.ofString "x"):=by
 have:∀ z∈TKN,1<=(z++Str.ofString "x").length/\(z++Str.ofString "x").length<=8/\(∀ c∈(z++Str.ofString "x").cps.toList,isLet c=true)/\(z++Str.ofString "x") ∉ TKN:=by decide +kernel
 exact this s h
section
variable {P:Program}{w:World}{K:PySem.W.Frag}{mg:Str->Option Value}{base:Heap}{f f_next:Addr}{fd fd_next:FuncData}
theorem ZaX:FnScope ["deck","letters","text","words"] ["deck"] (defScope (top 34)):=⟨rfl,rfl,rfl,by decide +kernel,rfl,by decide +kernel,by decide +kernel⟩
def spName:Sp:=fun vs H Q _=>∃ (p:Addr) (n r:Int),vs=[.ref p]/\Dk H p n r/\n+12<1000000000000 /\
 ∀ (x:Str) (H':Hp),x.length<=9->nmOk x->Ex p H H'->Dk H' p (n+12) r->Q (.str x) H'
theorem ok_name (T:Tx mg) (D:Df K mg "_law_name" (top 34) f fd ["deck"]) (Zaa:Df K mg "_law_next" (top 31) f_next fd_next ["deck","many"]) (Zac:FnOk P w K mg base CX0 1 f_next fd_next ["deck","many"] spNext) :
  FnOk P w K mg base CX0 2 f fd ["deck"] spName:=by
 refine D.fn.okH ZaX (fun vs H Q E h=>?_) (fun cdv A outer s H vs Q E hr h=>?_)
 ·obtain⟨p,n,rm,rfl,_⟩:=h;rfl
 obtain⟨p,n,rm,rfl,dk,hn,q⟩:=h
 have hu:=u110 hr
 have hu0:=u0 hr
 have hu1:=hu_of hr
 refine⟨_,(wss_cons (ws_if (wt_cmpR op_gt (we_call Zac (hr.mono (by lia)) rfl Zaa.mg Zaa.kp Zaa.b .nil pass0 (wa_cons (wv 0) (wa_cons we_int wa_nil))) we_int (nomark _)) (wss_one (ws_ret (we_ix (ix_U hu1) (we_lst (wa_consts rfl)) (we_call Zac (hr.mono (by lia)) rfl Zaa.mg Zaa.kp Zaa.b .nil pass0 (wa_cons (wv 0) (wa_cons we_int wa_nil))) (fun _ _=>rfl)))) wss_nil)
   (wss_cons (ws_set (i:=1) ZaX.nd rfl (Or.inr rfl) we_str)
   (wss_cons (ws_set (i:=2) ZaX.nd rfl (Or.inl rfl) (we_bm PySem.F.plainAttrs_str PySem.F.slot_str_join PySem.F.type_str_join mt_join we_str (wa_cons (we_lc (Nt:=["k"]) (fr:=[("letters",1),("deck",0)]) (LcOk.of (sc:=defScope (top 34)) (N:=["deck","letters","text","words"]) rfl rfl (by decide +kernel)) rfl (wi_range1 rfl T.z_range (wa_cons (we_op op_plus we_int (we_call Zac (hr.mono (by lia)) rfl Zaa.mg Zaa.kp Zaa.b .nil pass0 (wa_cons (wv 0) (wa_cons we_int wa_nil)))) wa_nil)) (fun z=>wg_name (i:=0) (by show (["k","letters","deck"]:List Str).Nodup;decide +kernel) rfl (Or.inl rfl) (.inr rfl)) (fun z=>tgt_name (by decide)) (fun z=>wif_nil) (fun z=>(we_ix (ix_U hu1) (wv 1) (we_call Zac (hr.mono (by lia)) rfl Zaa.mg Zaa.kp Zaa.b .nil pass0 (wa_cons (wv 2) (wa_cons we_int wa_nil))) (fun _ _=>rfl)))) wa_nil)))
   (wss_cons (ws_set (i:=3) ZaX.nd rfl (Or.inl rfl) (we_lst (wa_consts rfl)))
   (wss_cons (ws_if (wt_cmpR (op_inU hu) (wv 2) (we_op op_plus (wv 3) (we_lst (wa_consts rfl))) (by with_unfolding_all rfl)) (wss_one (ws_set (i:=2) ZaX.nd rfl (Or.inl rfl) (we_op op_plus (wv 2) we_str))) wss_nil)
   (wss_one (ws_ret (wv 2)))))))),?_⟩
 refine⟨_,rfl,p,n,rm,_,rfl,dk,by lia,by decide,by decide,fun k H1 k0 k1 ex1 dk1=>⟨_,_,rfl,rfl,_,rfl,?_⟩⟩
 refine ite2 (fun c1=>?_) (fun c1=>?_)
 ·refine⟨(by show 8<=sizeLine;decide),fun l hl=>?_⟩
  have nl:=dk1.ne hl
  refine⟨_,rfl,p,n+1,rm,_,rfl,dk1.new hl,by lia,by decide,by decide,fun r H2 h0 h1 ex2 dk2=>?_⟩
  obtain⟨v,hv,hm⟩:=atI_mem (xs:=[V.str "a",.str "b",.str "ab",.str "ba",.str "c",.str "abcdefgh",.str "zz",.str "numx"]) h0 h1
  refine .inl ⟨l,_,r,v,rfl,rfl,SqL.of (ex2 l _ nl upd_same),hv,?_⟩
  have fin:∃ x:Str,v=.str x/\x.length<=9/\nmOk x:=by
   simp only[List.mem_cons,List.not_mem_nil,or_false]at hm
   rcases hm with rfl | rfl | rfl | rfl | rfl | rfl | rfl | rfl <;> exact⟨_,rfl,by decide +kernel,by unfold nmOk lets;decide +kernel⟩
  obtain⟨x,rfl,hx,hxl⟩:=fin
  exact q x H2 hx hxl (ex1.trans ((ex_new hl).trans ex2)) (dk2.mono (by lia))
 -- letters;the drawn ones
 refine⟨rfl,?_⟩
 refine⟨_,rfl,p,n+1,rm,_,rfl,dk1,by lia,by decide,by decide,fun k2 H2 j0 j1 ex2 dk2=>.inl ⟨_,_,rfl,rfl,_,rfl,by lia,by lia,?_⟩⟩
 refine⟨fun i m ys H'=>m+i=(1+k2).toNat/\(∃ zs:List Str,ys=zs.map V.str/\zs.length=i/\∀ z∈zs,z.length=1/\lets z)/\Ex p H H'/\Dk H' p (n+2+i) rm,⟨_,by rw[Nat.add_zero],⟨[],rfl,rfl,fun z hz=>(nomatch hz)⟩,ex1.trans ex2,dk2.mono (by lia)⟩,?_⟩
 rintro i m ys H3 ⟨hm,⟨zs,rfl,hzl,hz1⟩,ex3,dk3⟩
 refine⟨by rw[List.length_map,hzl];exact Nat.lt_of_le_of_lt (show i<=1000 by lia) (by decide),?_⟩
 by_cases hlt:i<(1+k2).toNat
 ·refine .inr ⟨hlt,fun z x H4 hy=>?_⟩
  obtain⟨rfl,rfl⟩:=hy
  refine gall ?_
  refine⟨_,rfl,_,rfl,p,n+2+i,rm,_,rfl,dk3,by lia,by decide,by decide,fun r H5 h0 h1 ex5 dk5=>?_⟩
  obtain⟨c,hc,hcm⟩:=atI_mem (xs:=(Str.ofString "etaoinshrdlucmfwypvbgkjqxz").cps.toList) h0 (by
   have e:(Str.ofString "etaoinshrdlucmfwypvbgkjqxz").cps.toList.length=26:=by decide +kernel
   rw[e];exact h1)
  refine .inr (.inr (.inl ⟨_,r,c,rfl,rfl,(by decide +kernel),hc,?_⟩))
  refine⟨m-1,by lia,by lia,⟨zs++[⟨#[c]⟩],by simp,by simp [hzl],fun z hz=>?_⟩,ex3.trans ex5,dk5.mono (by lia)⟩
  rcases List.mem_append.mp hz with h | h
  ·exact hz1 z h
  ·rw[List.mem_singleton.mp h]
   refine⟨rfl,fun d hd=>?_⟩
   have ed:d=c:=by simpa using hd
   rw[ed]
   exact allL c hcm
 ·refine .inl ⟨by show (1+k2).toNat<=i;lia,fun l hl=>?_⟩
  have hi:i<=8:=by lia
  have hsum:(zs.map (·.length)).sum=zs.length:=by
   clear hzl
   induction zs with
   | nil=>rfl
   | cons z zs ih=>
    rw[List.map_cons,List.sum_cons,(hz1 z List.mem_cons_self).1,ih fun y hy=>hz1 y (List.mem_cons_of_mem _ hy),List.length_cons]
    lia
  have hj:=join_le (Str.ofString "") zs
  have e0:(Str.ofString "").length=0:=by decide +kernel
  rw[hsum,e0,Nat.mul_zero,hzl]at hj
  refine⟨_,l,zs,rfl,rfl,SqL.of upd_same,by rw[hsum,e0,hzl];lia,?_⟩
  have hlt:lets (Txt.join (Str.ofString "") zs):=fun c hc=>by
   rw[join_empty]at hc
   obtain⟨z,hz,hcz⟩:=List.mem_flatMap.mp hc
   exact (hz1 z hz).2 c hcz
  have hjl:(Txt.join (Str.ofString "") zs).length=i:=by
   show (Txt.join (Str.ofString "") zs).cps.size=i
   rw[<- Array.length_toList,join_empty,cod,List.length_flatMap,<- hzl,<- hsum]
   rfl
  generalize Txt.join (Str.ofString "") zs=text at hj hlt hjl ⊢
  refine⟨(by show 14<=sizeLine;decide),fun l2 hl2=>?_⟩
  refine⟨_,rfl,_,rfl,(by show 7<=sizeLine;decide),fun l3 hl3=>?_⟩
  refine .inr (.inr (.inl ⟨l2,l3,_,_,rfl,rfl,by rw[upd_ne (ne_of_none upd_same hl3)];exact upd_same,upd_same,(by show 14+7<=sizeLine;decide),fun l4 hl4=>?_⟩))
  refine .inl ⟨l4,_,rfl,.inl (SqL.of upd_same),rfl,rfl,_,rfl,?_⟩
  refine ite2 (fun c2=>?_) (fun c2=>?_)
  ·refine⟨_,rfl,.inr (.inl ⟨_,_,rfl,rfl,?_,?_⟩)⟩
   ·have e1:(Str.ofString "x").length=1:=by decide +kernel
    rw[e1]
    exact Nat.le_trans (show text.length+1<=100 by lia) (by decide)
   ·refine⟨_,rfl,q _ _ ?_ (tkn_x ((inV_str text TKN).mp (show inV (V.str text) (TKN.map V.str)=true from c2))) (ex3.trans ((ex_new hl).trans ((ex_new hl2).trans ((ex_new hl3).trans (ex_new hl4))))) (((((dk3.new hl).new hl2).new hl3).new hl4).mono (by lia))⟩
    have e1:(Str.ofString "x").length=1:=by decide +kernel
    rw[len_app,e1]
    lia
  ·exact⟨_,rfl,q _ _ (by lia) ⟨by lia,by lia,hlt,fun z=>c2 (show inV (V.str text) (TKN.map V.str)=true from (inV_str text TKN).mpr z)⟩ (ex3.trans ((ex_new hl).trans ((ex_new hl2).trans ((ex_new hl3).trans (ex_new hl4))))) (((((dk3.new hl).new hl2).new hl3).new hl4).mono (by lia))⟩
end
end K05
end
section
namespace K05
open PySem L2
section
variable {P:Program}{w:World}{K:PySem.W.Frag}{mg:Str->Option Value}{base:Heap}{f f_next f_far:Addr}{fd fd_next fd_far:FuncData}
theorem Zba:FnScope ["deck","number","j"] ["deck"] (defScope (top 32)):=⟨rfl,rfl,rfl,by decide +kernel,rfl,by decide +kernel,by decide +kernel⟩
def spInt (c:Int):Sp:=fun vs H Q _=>∃ (p:Addr) (n r:Int),vs=[.ref p]/\Dk H p n r/\n+c<1000000000000 /\
 ∀ (i:Int) (H':Hp),-(10 ^ 30)<i->i<10 ^ 30->Ex p H H'->Dk H' p (n+c) r->Q (.int i) H'
theorem ok_far (T:Tx mg) (D:Df K mg "_law_far" (top 32) f fd ["deck"]) (Zaa:Df K mg "_law_next" (top 31) f_next fd_next ["deck","many"]) (Zac:FnOk P w K mg base CX0 1 f_next fd_next ["deck","many"] spNext) :
  FnOk P w K mg base CX0 2 f fd ["deck"] (spInt 4):=by
 refine D.fn.okH Zba (fun vs H Q E h=>?_) (fun cdv A outer s H vs Q E hr h=>?_)
 ·obtain⟨p,n,rm,rfl,_⟩:=h;rfl
 obtain⟨p,n,rm,rfl,dk,hn,q⟩:=h
 have hu:=u110 hr
 have hu1:=hu_of hr
 refine⟨_,(wss_cons (ws_set (i:=1) Zba.nd rfl (Or.inl rfl) we_int)
   (wss_cons (ws_for PassesOwn.never rfl (wi_range1 rfl T.z_range (wa_cons we_int wa_nil)) (wg_name (i:=2) Zba.nd rfl (Or.inl rfl)) (wss_one (ws_set (i:=1) Zba.nd rfl (Or.inl rfl) (we_op op_plus (we_op op_mul (wv 1) (we_op op_pow we_int we_int)) (we_call Zac (hr.mono (by lia)) rfl Zaa.mg Zaa.kp Zaa.b .nil pass0 (wa_cons (wv 0) (wa_cons (we_op op_pow we_int we_int) wa_nil)))))))
   (wss_one (ws_ret (we_op op_plus (we_op op_sub (we_op op_mod (wv 1) (we_op op_sub (we_op op_mul we_int (we_op op_pow we_int we_int)) we_int)) (we_op op_pow we_int we_int)) we_int))))),?_⟩
 refine⟨4,rfl,by decide,by decide,for_range (n:=4) (fun i σ H'=>∃ (x:Int) (v:Option V),σ=[some (.ref p),some (.int x),v]/\Ex p H H'/\Dk H' p (n+i) rm) ⟨0,none,rfl,.refl _ _,dk.mono (by lia)⟩ ?_ ?_⟩
 ·rintro i σ H' hi ⟨x,v,rfl,ex,dk'⟩
  refine⟨_,rfl,_,_,rfl,rfl,⟨by decide,by decide,by decide⟩,_,_,rfl,rfl,.inr ⟨by decide,by decide⟩,_,rfl,_,_,rfl,rfl,⟨by decide,by decide,by decide⟩,p,n+i,rm,_,rfl,dk',by lia,by decide,by decide,fun r H'' h0 h1 ex' dk''=>.inl ⟨_,_,rfl,rfl,?_⟩⟩
  exact⟨_,_,rfl,ex.trans ex',dk''.mono (by lia)⟩
 ·rintro σ H' ⟨x,v,rfl,ex,dk'⟩
  refine⟨_,rfl,_,_,rfl,rfl,⟨by decide,by decide,by decide⟩,_,_,rfl,rfl,.inl ⟨by decide,by decide⟩,_,_,rfl,rfl,_,_,rfl,rfl,(by show (0:Int)<2 * 10 ^ Int.toNat 30-1;decide),_,_,rfl,rfl,⟨by decide,by decide,by decide⟩,_,_,rfl,rfl,.inl ⟨_,_,rfl,rfl,?_⟩⟩
  have a1:=Int.emod_nonneg x (show (2 * 10 ^ Int.toNat 30-1:Int)≠0 by decide)
  have a2:=Int.emod_lt_of_pos x (show (0:Int)<2 * 10 ^ Int.toNat 30-1 by decide)
  refine q _ H' ?_ ?_ ex dk'
  ·have e:(10:Int) ^ Int.toNat 30=10 ^ 30:=rfl
   rw[e]at a1 a2 ⊢
   lia
  ·have e:(10:Int) ^ Int.toNat 30=10 ^ 30:=rfl
   rw[e]at a1 a2 ⊢
   lia
theorem ZbA:FnScope ["deck","kind"] ["deck"] (defScope (top 33)):=⟨rfl,rfl,rfl,by decide +kernel,rfl,by decide +kernel,by decide +kernel⟩
theorem ok_number (T:Tx mg) (D:Df K mg "_law_number" (top 33) f fd ["deck"]) (Zaa:Df K mg "_law_next" (top 31) f_next fd_next ["deck","many"]) (Zac:FnOk P w K mg base CX0 1 f_next fd_next ["deck","many"] spNext)
  (ZaN:Df K mg "_law_far" (top 32) f_far fd_far ["deck"]) (ZbN:FnOk P w K mg base CX0 2 f_far fd_far ["deck"] (spInt 4)) :
  FnOk P w K mg base CX0 3 f fd ["deck"] (spInt 6):=by
 refine D.fn.okH ZbA (fun vs H Q E h=>?_) (fun cdv A outer s H vs Q E hr h=>?_)
 ·obtain⟨p,n,rm,rfl,_⟩:=h;rfl
 obtain⟨p,n,rm,rfl,dk,hn,q⟩:=h
 have hu:=u110 hr
 have hu0:=u0 hr
 have hu1:=hu_of hr
 refine⟨_,(wss_cons (ws_set (i:=1) ZbA.nd rfl (Or.inl rfl) (we_call Zac (hr.mono (by lia)) rfl Zaa.mg Zaa.kp Zaa.b .nil pass0 (wa_cons (wv 0) (wa_cons we_int wa_nil))))
   (wss_cons (ws_if (wt_cmpR (op_ltU hu0) (wv 1) we_int (nomark _)) (wss_one (ws_ret (we_op op_sub (we_call Zac (hr.mono (by lia)) rfl Zaa.mg Zaa.kp Zaa.b .nil pass0 (wa_cons (wv 0) (wa_cons we_int wa_nil))) we_int))) wss_nil)
   (wss_cons (ws_if (wt_cmpR (op_eqU hu) (wv 1) we_int (nomark _)) (wss_one (ws_ret (we_op op_sub (we_call Zac (hr.mono (by lia)) rfl Zaa.mg Zaa.kp Zaa.b .nil pass0 (wa_cons (wv 0) (wa_cons we_int wa_nil))) we_int))) wss_nil)
   (wss_cons (ws_if (wt_cmpR (op_eqU hu) (wv 1) we_int (nomark _)) (wss_one (ws_ret (we_call ZbN (hr.mono (by lia)) rfl ZaN.mg ZaN.kp ZaN.b .nil pass0 (wa_cons (wv 0) wa_nil)))) wss_nil)
   (wss_one (ws_ret (we_ix (ix_U hu1) (we_lst (wa_cons (we_op op_sub (we_op op_pow we_int we_int) we_int) (wa_cons (we_op op_sub we_int (we_op op_pow we_int we_int)) (wa_cons we_int (wa_cons (we_un un_neg we_int) wa_nil))))) (we_call Zac (hr.mono (by lia)) rfl Zaa.mg Zaa.kp Zaa.b .nil pass0 (wa_cons (wv 0) (wa_cons we_int wa_nil))) (fun _ _=>rfl)))))))),?_⟩
 refine⟨_,rfl,p,n,rm,_,rfl,dk,by lia,by decide,by decide,fun k H1 k0 k1 ex1 dk1=>?_⟩
 refine⟨_,rfl,.inl ⟨_,_,rfl,rfl,_,rfl,?_⟩⟩
 refine ite2 (fun c1=>?_) (fun c1=>?_)
 ·refine⟨_,rfl,p,n+1,rm,_,rfl,dk1,by lia,by decide,by decide,fun r H2 h0 h1 ex2 dk2=>⟨_,_,rfl,rfl,?_⟩⟩
  exact q _ H2 (by lia) (by lia) (ex1.trans ex2) (dk2.mono (by lia))
 refine⟨_,rfl,.inl ⟨rfl,_,rfl,?_⟩⟩
 refine ite2 (fun c2=>?_) (fun c2=>?_)
 ·refine⟨_,rfl,p,n+1,rm,_,rfl,dk1,by lia,by decide,by decide,fun r H2 h0 h1 ex2 dk2=>⟨_,_,rfl,rfl,?_⟩⟩
  exact q _ H2 (by lia) (by lia) (ex1.trans ex2) (dk2.mono (by lia))
 refine⟨_,rfl,.inl ⟨rfl,_,rfl,?_⟩⟩
 refine ite2 (fun c3=>?_) (fun c3=>?_)
 ·exact⟨_,rfl,p,n+1,rm,rfl,dk1,by lia,fun i H2 h0 h1 ex2 dk2=>q i H2 h0 h1 (ex1.trans ex2) (dk2.mono (by lia))⟩
 refine⟨_,_,rfl,rfl,⟨by decide,by decide,by decide⟩,_,_,rfl,rfl,_,_,rfl,rfl,⟨by decide,by decide,by decide⟩,_,_,rfl,rfl,_,rfl,(by show 4<=sizeLine;decide),fun l hl=>?_⟩
 have nl:=dk1.ne hl
 refine⟨_,rfl,p,n+1,rm,_,rfl,dk1.new hl,by lia,by decide,by decide,fun r H2 h0 h1 ex2 dk2=>?_⟩
 obtain⟨v,hv,hm⟩:=atI_mem (xs:=[V.int (10 ^ Int.toNat 30-1),.int (1-10 ^ Int.toNat 30),.int 10,.int (-10)]) h0 h1
 refine .inl ⟨l,_,r,v,rfl,rfl,SqL.of (ex2 l _ nl upd_same),hv,?_⟩
 have fin:∃ i:Int,v=.int i/\-(10 ^ 30)<i/\i<10 ^ 30:=by
  simp only[List.mem_cons,List.not_mem_nil,or_false]at hm
  rcases hm with rfl | rfl | rfl | rfl
  ·exact⟨_,rfl,by decide,by decide⟩
  ·exact⟨_,rfl,by decide,by decide⟩
  ·exact⟨_,rfl,by decide,by decide⟩
  ·exact⟨_,rfl,by decide,by decide⟩
 obtain⟨i,rfl,i0,i1⟩:=fin
 exact q i H2 i0 i1 (ex1.trans ((ex_new hl).trans ex2)) (dk2.mono (by lia))
end
end K05
end
section
namespace K05
open PySem L2 Kn
section
variable {P:Program}{w:World}{K:PySem.W.Frag}{mg:Str->Option Value}{base:Heap}{f f_next f_num:Addr}{fd fd_next fd_num:FuncData}
theorem ZbB:FnScope ["deck","count"] ["deck"] (defScope (top 39)):=⟨rfl,rfl,rfl,by decide +kernel,rfl,by decide +kernel,by decide +kernel⟩
theorem ok_count (T:Tx mg) (D:Df K mg "_law_count" (top 39) f fd ["deck"]) (Zaa:Df K mg "_law_next" (top 31) f_next fd_next ["deck","many"]) (Zac:FnOk P w K mg base CX0 1 f_next fd_next ["deck","many"] spNext)
  (Zak:Df K mg "_law_number" (top 33) f_num fd_num ["deck"]) (ZaH:FnOk P w K mg base CX0 3 f_num fd_num ["deck"] (spInt 6)) :
  FnOk P w K mg base CX0 4 f fd ["deck"] (spInt 8):=by
 refine D.fn.okH ZbB (fun vs H Q E h=>?_) (fun cdv A outer s H vs Q E hr h=>?_)
 ·obtain⟨p,n,rm,rfl,_⟩:=h;rfl
 obtain⟨p,n,rm,rfl,dk,hn,q⟩:=h
 have hu:=u110 hr
 have hu0:=u0 hr
 have hu1:=hu_of hr
 refine⟨_,(wss_cons (ws_set (i:=1) ZbB.nd rfl (Or.inl rfl) (we_ix (ix_U hu1) (we_lst (wa_cons we_int (wa_cons we_int (wa_cons we_int (wa_cons (we_un un_neg we_int) (wa_cons (we_op op_sub (we_call Zac (hr.mono (by lia)) rfl Zaa.mg Zaa.kp Zaa.b .nil pass0 (wa_cons (wv 0) (wa_cons we_int wa_nil))) we_int) (wa_cons (we_op op_fdiv (we_call ZaH (hr.mono (by lia)) rfl Zak.mg Zak.kp Zak.b .nil pass0 (wa_cons (wv 0) wa_nil)) we_int) wa_nil))))))) (we_call Zac (hr.mono (by lia)) rfl Zaa.mg Zaa.kp Zaa.b .nil pass0 (wa_cons (wv 0) (wa_cons we_int wa_nil))) (fun _ _=>rfl)))
   (wss_one (ws_ret (we_op op_plus (wv 1) (we_callTy call_int1 rfl T.z_int bt_int (wa_cons (we_cmpR (op_eqU hu) (wv 1) we_int (nomark _)) wa_nil)))))),?_⟩
 refine⟨_,rfl,_,rfl,p,n,rm,_,rfl,dk,by lia,by decide,by decide,fun r H1 h0 h1 ex1 dk1=>⟨_,_,rfl,rfl,?_⟩⟩
 refine⟨_,rfl,p,n+1,rm,rfl,dk1,by lia,fun i H2 i0 i1 ex2 dk2=>⟨_,_,rfl,rfl,⟨by decide,by decide⟩,(by show 6<=sizeLine;decide),fun l hl=>?_⟩⟩
 have nl:=dk2.ne hl
 refine⟨_,rfl,p,n+1+6,rm,_,rfl,dk2.new hl,by lia,by decide,by decide,fun r3 H3 h03 h13 ex3 dk3=>?_⟩
 obtain⟨v,hv,hm⟩:=atI_mem (xs:=[V.int 1,.int 1,.int 2,.int (-1),.int (r-4),.int (i / 100)]) h03 h13
 refine .inl ⟨l,_,r3,v,rfl,rfl,SqL.of (ex3 l _ nl upd_same),hv,?_⟩
 have fin:∃ c:Int,v=.int c/\-(10 ^ 30)<c/\c+1<10 ^ 30:=by
  simp only[List.mem_cons,List.not_mem_nil,or_false]at hm
  rcases hm with rfl | rfl | rfl | rfl | rfl | rfl
  ·exact⟨_,rfl,by decide,by decide⟩
  ·exact⟨_,rfl,by decide,by decide⟩
  ·exact⟨_,rfl,by decide,by decide⟩
  ·exact⟨_,rfl,by decide,by decide⟩
  ·exact⟨_,rfl,by lia,by lia⟩
  ·exact⟨_,rfl,by lia,by lia⟩
 obtain⟨c,rfl,c0,c1⟩:=fin
 refine⟨_,rfl,_,rfl,.inl ⟨rfl,.inr ⟨_,rfl,.inl ⟨_,_,rfl,rfl,?_⟩⟩⟩⟩
 refine q _ H3 ?_ ?_ (ex1.trans (ex2.trans ((ex_new hl).trans ex3))) (dk3.mono (by lia))
 ·split <;> lia
 ·split <;> lia
end
end K05
end
section
namespace K05
open PySem L2 Kn
section
variable {P:Program}{w:World}{K:PySem.W.Frag}{mg:Str->Option Value}{base:Heap}{f f_side f_pair:Addr}{fd fd_side fd_pair:FuncData}
def spSide (d:Nat):Sp:=fun vs H Q _=>∃ (v u:V) (x y:Val),vs=[v,u]/\IsVal H x v/\IsVal H y u/\Bd 7 d x/\Bd 7 d y/\d<=20 /\
 ∀ (r:Int) (H':Hp),Same H H'->decide (r<0)=aheadB x y->Q (.int r) H'
def PrBd (d:Nat):Pr->Prop
 | .r f x=>f.length<=100/\Bd 7 d x
 | .b x _=>Bd 7 d x
def spPair (d:Nat):Sp:=fun vs H Q _=>∃ (v u:V) (p q:Pr),vs=[.str p.tag,v,u]/\p.tag=q.tag/\IsDt H p.dat v/\IsDt H q.dat u/\p≠q/\PrBd d p/\PrBd d q/\d<=20 /\
 ∀ (r:Int) (H':Hp),Same H H'->decide (r<0)=p.lt q->Q (.int r) H'
theorem dt_two {H:Hp}{a b:Dt}{v:V} (h:IsDt H (.tup [a,b]) v):∃ c y z,v=.ref c/\H c=some (.tup [y,z])/\IsDt H a y/\IsDt H b z:=by
 rw[IsDt]at h
 obtain⟨c,xs,e,h1,h2⟩:=h
 rw[IsDts]at h2
 obtain⟨y,ys,rfl,h3,h4⟩:=h2
 rw[IsDts]at h4
 obtain⟨z,zs,rfl,h5,h6⟩:=h4
 rw[IsDts]at h6
 subst h6
 exact⟨c,y,z,e,h1,h3,h5⟩
theorem ZbC:FnScope ["word","a","b","at"] ["word","a","b"] (defScope (top 36)):=⟨rfl,rfl,rfl,by decide +kernel,rfl,by decide +kernel,by decide +kernel⟩
theorem ok_pair {k d:Nat} (T:Tx mg) (D:Df K mg "_law_pair_side" (top 36) f fd ["word","a","b"]) (Zaj:Df K mg "_law_side" (top 35) f_side fd_side ["one","other"]) (Zbb:FnOk P w K mg base CX0 k f_side fd_side ["one","other"] (spSide d)) :
  FnOk P w K mg base CX0 (k+1) f fd ["word","a","b"] (spPair d):=by
 refine D.fn.okH ZbC (fun vs H Q E h=>?_) (fun cdv A outer s H vs Q E hr h=>?_)
 ·obtain⟨v,u,p,q,rfl,_⟩:=h;rfl
 obtain⟨v,u,p,q,rfl,htag,hp,hq,hne,bp,bq,hd,fin⟩:=h
 have hu:=u110 hr
 have hu0:=u0 hr
 have hu1:=hu_of hr
 refine⟨_,(wss_cons (ws_if (wt_pw (ww_and (wt_cmpR (op_eqU hu) (wv 0) we_str (nomark _)) (ww_and1 (wt_cmpR (op_neU hu) (we_ix (ix_U hu1) (wv 1) we_int (fun _ _=>rfl)) (we_ix (ix_U hu1) (wv 2) we_int (fun _ _=>rfl)) (nomark _))))) (wss_one (ws_ret (we_call Zbb (hr.mono (by lia)) rfl Zaj.mg Zaj.kp Zaj.b .nil pass0 (wa_cons (we_ix (ix_U hu1) (wv 1) we_int (fun _ _=>rfl)) (wa_cons (we_ix (ix_U hu1) (wv 2) we_int (fun _ _=>rfl)) wa_nil))))) wss_nil)
   (wss_cons (ws_if (wt_pw (ww_and (wt_cmpR (op_eqU hu) (wv 0) we_str (nomark _)) (ww_and1 (wt_cmpR (op_eqU hu) (we_ix (ix_U hu1) (wv 1) we_int (fun _ _=>rfl)) (we_ix (ix_U hu1) (wv 2) we_int (fun _ _=>rfl)) (nomark _))))) (wss_one (ws_ret (we_call Zbb (hr.mono (by lia)) rfl Zaj.mg Zaj.kp Zaj.b .nil pass0 (wa_cons (we_ix (ix_U hu1) (wv 1) we_int (fun _ _=>rfl)) (wa_cons (we_ix (ix_U hu1) (wv 2) we_int (fun _ _=>rfl)) wa_nil))))) wss_nil)
   (wss_cons (ws_set (i:=3) ZbC.nd rfl (Or.inl rfl) (we_callTy call_int1 rfl T.z_int bt_int (wa_cons (we_cmpR (op_eqU hu) (we_ix (ix_U hu1) (wv 1) we_int (fun _ _=>rfl)) (we_ix (ix_U hu1) (wv 2) we_int (fun _ _=>rfl)) (nomark _)) wa_nil)))
   (wss_one (ws_ret (we_ix (ix_U hu1) (we_lst (wa_cons we_int (wa_cons (we_un un_neg we_int) wa_nil))) (we_callTy call_int1 rfl T.z_int bt_int (wa_cons (we_cmpR (op_ltU hu0) (we_ix (ix_U hu1) (wv 1) (wv 3) (fun _ _=>rfl)) (we_ix (ix_U hu1) (wv 2) (wv 3) (fun _ _=>rfl)) (nomark _)) wa_nil)) (fun _ _=>rfl))))))),?_⟩
 have tail:∀ (c1 c2:Addr) (y1 z1 y2 z2:V),v=.ref c1->u=.ref c2->H c1=some (.tup [y1,z1])->H c2=some (.tup [y2,z2])->True:=fun _ _ _ _ _ _ _ _ _ _=>trivial
 cases p with
 | r f1 x1=>
  cases q with
  | b _ _=>exact absurd (show (Str.ofString "row" : Str)=Str.ofString "bag" from htag) (by decide +kernel)
  | r f2 x2=>
   obtain⟨c1,y1,z1,rfl,h1,i1,j1⟩:=dt_two hp
   obtain⟨c2,y2,z2,rfl,h2,i2,j2⟩:=dt_two hq
   rw[IsDt]at i1 i2
   subst i1 i2
   refine⟨_,rfl,.inl ⟨rfl,_,rfl,?_⟩⟩
   refine ite2 (fun e=>absurd (of_decide_eq_true e) (by intro z;injection z with z;exact absurd (show (Str.ofString "row" : Str)=Str.ofString "bag" from z) (by decide +kernel))) (fun _=>?_)
   refine iteF ?_
   refine⟨_,rfl,.inl ⟨rfl,_,rfl,?_⟩⟩
   refine ite2 (fun _=>?_) (fun e=>absurd (decide_eq_true (show V.str (Pr.r f1 x1).tag=.str "row" from rfl)) e)
   refine⟨_,rfl,.inr (.inl ⟨c1,_,0,_,rfl,rfl,SqT.of h1,rfl,_,rfl,.inr (.inl ⟨c2,_,0,_,rfl,rfl,SqT.of h2,rfl,.inl ⟨rfl,_,rfl,?_⟩⟩)⟩)⟩
   refine ite2 (fun e=>?_) (fun e=>?_)
   ·have ef:f1=f2:=by have:=of_decide_eq_true e;injection this
    subst ef
    have nx:x1≠x2:=fun z=>hne (by rw[z])
    refine⟨_,rfl,.inr (.inl ⟨c1,_,1,_,rfl,rfl,SqT.of h1,rfl,_,rfl,.inr (.inl ⟨c2,_,1,_,rfl,rfl,SqT.of h2,rfl,_,_,x1,x2,rfl,j1,j2,bp.2,bq.2,hd,fun r H' sH hr'=>fin r H' sH ?_⟩)⟩)⟩
    rw[hr',ahead_ne nx]
    show _=(if f1=f1 then ltV x1 x2 else sLt f1 f1)
    rw[if_pos rfl]
   ·have ef:f1≠f2:=fun z=>e (decide_eq_true (by rw[z]))
    refine⟨_,rfl,.inr (.inl ⟨c1,_,0,_,rfl,rfl,SqT.of h1,rfl,_,rfl,.inr (.inl ⟨c2,_,0,_,rfl,rfl,SqT.of h2,rfl,.inl ⟨rfl,.inr ⟨_,rfl,?_⟩⟩⟩)⟩)⟩
    rw[decide_eq_false (fun z=>ef (by injection z))]
    refine⟨_,rfl,(by show 2<=sizeLine;decide),fun l hl=>?_⟩
    have s1:Same H (upd H l (.lst [.int 1,.int (-1)])):=same_new hl _
    refine⟨_,rfl,_,rfl,.inr (.inl ⟨c1,_,0,_,rfl,rfl,SqT.of (s1 _ _ h1),rfl,_,rfl,_,rfl,.inr (.inl ⟨c2,_,0,_,rfl,rfl,SqT.of (s1 _ _ h2),rfl,.inr (.inl ⟨.s f1,.s f2,_,rfl,rfl,rfl,.inr ⟨_,rfl,.inl ⟨l,_,_,_,rfl,rfl,SqL.of upd_same,pick _,fin _ _ s1 ?_⟩⟩⟩)⟩)⟩)⟩
    rw[pick_lt]
    show _=(if f1=f2 then ltV x1 x2 else sLt f1 f2)
    rw[if_neg ef]
 | b x1 n1=>
  cases q with
  | r _ _=>exact absurd (show (Str.ofString "bag" : Str)=Str.ofString "row" from htag) (by decide +kernel)
  | b x2 n2=>
   obtain⟨c1,y1,z1,rfl,h1,i1,j1⟩:=dt_two hp
   obtain⟨c2,y2,z2,rfl,h2,i2,j2⟩:=dt_two hq
   rw[IsDt]at j1 j2
   subst j1 j2
   have dx:(dat x1).dep<=depMax:=Nat.le_trans (dep_dat bp) (by unfold depMax;lia)
   refine⟨_,rfl,.inl ⟨rfl,_,rfl,?_⟩⟩
   refine ite2 (fun _=>?_) (fun e=>absurd (decide_eq_true (show V.str (Pr.b x1 n1).tag=.str "bag" from rfl)) e)
   have i1':=i1
   have i2':=i2
   rw[dat_two]at i1' i2'
   have dd:depL [Dt.str (tagS x1),restD x1]<=depMax:=by rw[dat_two,Dt.dep]at dx;lia
   refine⟨_,rfl,.inr (.inl ⟨c1,_,0,_,rfl,rfl,SqT.of h1,rfl,_,rfl,.inr (.inl ⟨c2,_,0,_,rfl,rfl,SqT.of h2,rfl,.inr (.inl ⟨_,_,i1',i2',dd,_,rfl,?_⟩)⟩)⟩)⟩
   have eqv:decide ([Dt.str (tagS x1),restD x1]=[Dt.str (tagS x2),restD x2])=decide (x1=x2):=by
    rw[Bool.eq_iff_iff]
    simp only[decide_eq_true_eq]
    constructor
    ·intro z;exact dat_inj (by rw[dat_two,dat_two,z])
    ·rintro rfl;rfl
   rw[eqv]
   by_cases ex:x1=x2
   ·rw[decide_eq_true ex]
    refine iteF ?_
    subst ex
    have nn:n1≠n2:=fun z=>hne (by rw[z])
    refine⟨_,rfl,.inl ⟨rfl,_,rfl,?_⟩⟩
    refine ite2 (fun e=>absurd (of_decide_eq_true e) (by intro z;injection z with z;exact absurd (show (Str.ofString "bag" : Str)=Str.ofString "row" from z) (by decide +kernel))) (fun _=>?_)
    refine iteF ?_
    refine⟨_,rfl,.inr (.inl ⟨c1,_,0,_,rfl,rfl,SqT.of h1,rfl,_,rfl,.inr (.inl ⟨c2,_,0,_,rfl,rfl,SqT.of h2,rfl,.inr ⟨_,_,i1,i2,dx,.inr ⟨_,rfl,?_⟩⟩⟩)⟩)⟩
    rw[decide_eq_true rfl]
    refine⟨_,rfl,(by show 2<=sizeLine;decide),fun l hl=>?_⟩
    have s1:Same H (upd H l (.lst [.int 1,.int (-1)])):=same_new hl _
    refine⟨_,rfl,_,rfl,.inr (.inl ⟨c1,_,1,_,rfl,rfl,SqT.of (s1 _ _ h1),rfl,_,rfl,_,rfl,.inr (.inl ⟨c2,_,1,_,rfl,rfl,SqT.of (s1 _ _ h2),rfl,.inl ⟨n1,n2,rfl,rfl,.inr ⟨_,rfl,.inl ⟨l,_,_,_,rfl,rfl,SqL.of upd_same,pick _,fin _ _ s1 ?_⟩⟩⟩⟩)⟩)⟩
    rw[pick_lt]
    show _=(if x1=x1 then decide (n1<n2) else ltV x1 x1)
    rw[if_pos rfl]
   ·rw[decide_eq_false ex]
    refine iteT ?_
    refine⟨_,rfl,.inr (.inl ⟨c1,_,0,_,rfl,rfl,SqT.of h1,rfl,_,rfl,.inr (.inl ⟨c2,_,0,_,rfl,rfl,SqT.of h2,rfl,_,_,x1,x2,rfl,i1,i2,bp,bq,hd,fun r H' sH hr'=>fin r H' sH ?_⟩)⟩)⟩
    rw[hr',ahead_ne ex]
    show _=(if x1=x2 then decide (n1<n2) else ltV x1 x2)
    rw[if_neg ex]
theorem Zbc:FnScope ["one","other","ranks","a","b"] ["one","other"] (defScope (top 35)):=⟨rfl,rfl,rfl,by decide +kernel,rfl,by decide +kernel,by decide +kernel⟩
def spPairP:Nat->Sp
 | 0=>fun _ _ _ _=>False
 | d+1=>spPair d
def RK:List (Key×V):=mergeK [] [(Sum.inr "num",.int 0),(Sum.inr "word",.int 1),(Sum.inr "row",.int 2),(Sum.inr "bag",.int 3)]
theorem rk_at (x:Val):valV RK (Sum.inr (tagS x))=some (.int (rank x)):=by
 cases x with
 | num i=>show valV RK (Sum.inr "num")=some (.int 0);decide +kernel
 | word i=>show valV RK (Sum.inr "word")=some (.int 1);decide +kernel
 | row i=>show valV RK (Sum.inr "row")=some (.int 2);decide +kernel
 | bag i=>show valV RK (Sum.inr "bag")=some (.int 3);decide +kernel
theorem pairs_of {d : Nat} {x y : Val} (ht : tagS x = tagS y) (hin : ¬ inV (V.str (tagS x)) [.str "num", .str "word"] = true) (bx : Bd 7 d x) (by' : Bd 7 d y) (ne : x ≠ y) :
    ∃ (ps qs : List Pr), restD x = .tup (ps.map Pr.dat) /\ restD y = .tup (qs.map Pr.dat) /\ (∀ p ∈ ps, p.tag = tagS x) /\ (∀ p ∈ qs, p.tag = tagS x) /\ ps.length <= 7 /\ qs.length <= 7 /\
      (∀ e, d = e + 1 -> (∀ p ∈ ps, PrBd e p) /\ ∀ p ∈ qs, PrBd e p) /\ (d = 0 -> ps = []) /\
      (∀ i p q, ps.take i = qs.take i -> ps[i]? = some p -> qs[i]? = some q -> p ≠ q -> aheadB x y = p.lt q) /\ (ps.take (min ps.length qs.length) = qs.take (min ps.length qs.length) -> aheadB x y = decide (ps.length < qs.length)) := by
  cases x with
  | num i => exact absurd (show inV (V.str "num") [.str "num", .str "word"] = true by decide +kernel) hin
  | word i => exact absurd (show inV (V.str "word") [.str "num", .str "word"] = true by decide +kernel) hin
  | row ps =>
    cases y with
    | num i => exact absurd (show (Str.ofString "row" : Str) = Str.ofString "num" from ht) (by decide +kernel)
    | word i => exact absurd (show (Str.ofString "row" : Str) = Str.ofString "word" from ht) (by decide +kernel)
    | bag i => exact absurd (show (Str.ofString "row" : Str) = Str.ofString "bag" from ht) (by decide +kernel)
    | row qs =>
      have inj : ∀ l l' : List (Str × Val), l.map (fun p => Pr.r p.1 p.2) = l'.map (fun p => Pr.r p.1 p.2) -> l = l' := fun l l' h => by
        refine (List.map_inj_right ?_).mp h
        rintro ⟨a, b⟩ ⟨c, e⟩ z; injection z with z1 z2; exact Prod.ext z1 z2
      have bnd : ∀ rs : List (Str × Val), Bd 7 d (.row rs) -> rs.length <= 7 /\ (∀ e, d = e + 1 -> ∀ p ∈ rs, p.1.length <= 100 /\ Bd 7 e p.2) /\ (d = 0 -> rs = []) := fun rs h => by
        cases d with
        | zero => simp only [Bd] at h; subst h; exact ⟨by simp, fun e z => by lia, fun _ => rfl⟩
        | succ d => simp only [Bd] at h; exact ⟨h.1, fun e z => by obtain rfl : d = e := by lia
                                                                   exact h.2, fun z => by lia⟩
      obtain ⟨l1, b1, z1⟩ := bnd ps bx
      obtain ⟨l2, b2, z2⟩ := bnd qs by'
      refine ⟨ps.map fun p => .r p.1 p.2, qs.map fun p => .r p.1 p.2, ?_, ?_, ?_, ?_, by simpa using l1, by simpa using l2, fun e h => ⟨?_, ?_⟩, fun h => by rw [z1 h]; rfl, ?_, ?_⟩
      · rw [restD, datR_map, List.map_map]; rfl
      · rw [restD, datR_map, List.map_map]; rfl
      · intro p hp; obtain ⟨q, _, rfl⟩ := List.mem_map.mp hp; rfl
      · intro p hp; obtain ⟨q, _, rfl⟩ := List.mem_map.mp hp; rfl
      · intro p hp; obtain ⟨q, hq, rfl⟩ := List.mem_map.mp hp; exact b1 e h q hq
      · intro p hp; obtain ⟨q, hq, rfl⟩ := List.mem_map.mp hp; exact b2 e h q hq
      · intro i p q h1 h2 h3 hn
        rw [List.getElem?_map] at h2 h3
        obtain ⟨p', e1, rfl⟩ := Option.map_eq_some_iff.mp h2
        obtain ⟨q', e2, rfl⟩ := Option.map_eq_some_iff.mp h3
        rw [<- List.map_take, <- List.map_take] at h1
        rw [ahead_ne ne, ltV, ltR_at (inj _ _ h1) e1 e2 (fun z => hn (by rw [z]))]
        rfl
      · intro h1
        simp only [List.length_map, <- List.map_take] at h1
        rw [ahead_ne ne, ltV, ltR_end (inj _ _ h1)]
        simp
  | bag ps =>
    cases y with
    | num i => exact absurd (show (Str.ofString "bag" : Str) = Str.ofString "num" from ht) (by decide +kernel)
    | word i => exact absurd (show (Str.ofString "bag" : Str) = Str.ofString "word" from ht) (by decide +kernel)
    | row i => exact absurd (show (Str.ofString "bag" : Str) = Str.ofString "row" from ht) (by decide +kernel)
    | bag qs =>
      have inj : ∀ l l' : List (Val × Int), l.map (fun p => Pr.b p.1 p.2) = l'.map (fun p => Pr.b p.1 p.2) -> l = l' := fun l l' h => by
        refine (List.map_inj_right ?_).mp h
        rintro ⟨a, b⟩ ⟨c, e⟩ z; injection z with z1 z2; exact Prod.ext z1 z2
      have bnd : ∀ rs : List (Val × Int), Bd 7 d (.bag rs) -> rs.length <= 7 /\ (∀ e, d = e + 1 -> ∀ p ∈ rs, Bd 7 e p.1) /\ (d = 0 -> rs = []) := fun rs h => by
        cases d with
        | zero => simp only [Bd] at h; subst h; exact ⟨by simp, fun e z => by lia, fun _ => rfl⟩
        | succ d => simp only [Bd] at h; exact ⟨h.1, fun e z => by obtain rfl : d = e := by lia
                                                                   exact h.2, fun z => by lia⟩
      obtain ⟨l1, b1, z1⟩ := bnd ps bx
      obtain ⟨l2, b2, z2⟩ := bnd qs by'
      refine ⟨ps.map fun p => .b p.1 p.2, qs.map fun p => .b p.1 p.2, ?_, ?_, ?_, ?_, by simpa using l1, by simpa using l2, fun e h => ⟨?_, ?_⟩, fun h => by rw [z1 h]; rfl, ?_, ?_⟩
      · rw [restD, datB_map, List.map_map]; rfl
      · rw [restD, datB_map, List.map_map]; rfl
      · intro p hp; obtain ⟨q, _, rfl⟩ := List.mem_map.mp hp; rfl
      · intro p hp; obtain ⟨q, _, rfl⟩ := List.mem_map.mp hp; rfl
      · intro p hp; obtain ⟨q, hq, rfl⟩ := List.mem_map.mp hp; exact b1 e h q hq
      · intro p hp; obtain ⟨q, hq, rfl⟩ := List.mem_map.mp hp; exact b2 e h q hq
      · intro i p q h1 h2 h3 hn
        rw [List.getElem?_map] at h2 h3
        obtain ⟨p', e1, rfl⟩ := Option.map_eq_some_iff.mp h2
        obtain ⟨q', e2, rfl⟩ := Option.map_eq_some_iff.mp h3
        rw [<- List.map_take, <- List.map_take] at h1
        rw [ahead_ne ne, ltV, ltB_at (inj _ _ h1) e1 e2 (fun z => hn (by rw [z]))]
        rfl
      · intro h1
        simp only [List.length_map, <- List.map_take] at h1
        rw [ahead_ne ne, ltV, ltB_end (inj _ _ h1)]
        simp
end
end K05
end
section
namespace K05
open PySem L2 Kn
section
variable {P:Program}{w:World}{K:PySem.W.Frag}{mg:Str->Option Value}{base:Heap}{f f_side f_pair:Addr}{fd fd_side fd_pair:FuncData}
theorem pr_inj:∀ {p q:Pr},p.tag=q.tag->p.dat=q.dat->p=q
 | .r f x,.r g y,_,h=>by
  injection h with h;injection h with h1 h2;injection h1 with h1;injection h2 with h2 _
  rw[h1,dat_inj h2]
 | .b x n,.b y m,_,h=>by
  injection h with h;injection h with h1 h2;injection h2 with h2 _;injection h2 with h2
  rw[dat_inj h1,h2]
 | .r f x,.b y m,t,_=>absurd (show (Str.ofString "row" : Str)=Str.ofString "bag" from t) (by decide +kernel)
 | .b y m,.r f x,t,_=>absurd (show (Str.ofString "bag" : Str)=Str.ofString "row" from t) (by decide +kernel)
theorem pr_dep {e:Nat}{p:Pr} (h:PrBd e p) (he:e<=20):p.dat.dep<=70:=by
 cases p with
 | r f x=>have:=dep_dat h.2;show (Dt.tup [.str f,dat x]).dep<=70;rw[dep_two,Dt.dep];lia
 | b x n=>have:=dep_dat (show Bd 7 e x from h);show (Dt.tup [dat x,.int n]).dep<=70;rw[dep_two,Dt.dep];lia
theorem pr_tup (p:Pr):∃ ds,p.dat=.tup ds:=by cases p <;> exact⟨_,rfl⟩
theorem ok_side {k d:Nat} (T:Tx mg) (D:Df K mg "_law_side" (top 35) f fd ["one","other"]) (ZaA:Df K mg "_law_pair_side" (top 36) f_pair fd_pair ["word","a","b"]) (ZbO:FnOk P w K mg base CX0 k f_pair fd_pair ["word","a","b"] (spPairP d)) :
  FnOk P w K mg base CX0 (k+1) f fd ["one","other"] (spSide d):=by
 refine D.fn.okH Zbc (fun vs H Q E h=>?_) (fun cdv A outer s H vs Q E hr h=>?_)
 ·obtain⟨v,u,x,y,rfl,_⟩:=h;rfl
 obtain⟨v,u,x,y,rfl,hx,hy,bx,by',hd,fin⟩:=h
 have hu:=u110 hr
 have hu0:=u0 hr
 have hu1:=hu_of hr
 refine⟨_,(wss_cons (ws_if (wt_cmpR (op_eqU hu) (wv 0) (wv 1) (nomark _)) (wss_one (ws_ret we_int)) wss_nil)
   (wss_cons (ws_set (i:=2) Zbc.nd rfl (Or.inl rfl) (we_disp (wps_cons we_str we_int (wps_cons we_str we_int (wps_cons we_str we_int (wps_cons we_str we_int wps_nil)))) rfl rfl (by simp) (by decide)))
   (wss_cons (ws_if (wt_cmpR (op_neU hu) (we_ix (ix_U hu1) (wv 0) we_int (fun _ _=>rfl)) (we_ix (ix_U hu1) (wv 1) we_int (fun _ _=>rfl)) (nomark _)) (wss_one (ws_ret (we_ix (ix_U hu1) (we_lst (wa_cons we_int (wa_cons (we_un un_neg we_int) wa_nil))) (we_callTy call_int1 rfl T.z_int bt_int (wa_cons (we_cmpR (op_ltU hu0) (we_ix (ix_U hu1) (wv 2) (we_ix (ix_U hu1) (wv 0) we_int (fun _ _=>rfl)) (fun _ _=>rfl)) (we_ix (ix_U hu1) (wv 2) (we_ix (ix_U hu1) (wv 1) we_int (fun _ _=>rfl)) (fun _ _=>rfl)) (nomark _)) wa_nil)) (fun _ _=>rfl)))) wss_nil)
   (wss_cons (ws_if (wt_cmpR (op_inU hu) (we_ix (ix_U hu1) (wv 0) we_int (fun _ _=>rfl)) (we_tup (wa_consts rfl)) (by with_unfolding_all rfl)) (wss_one (ws_ret (we_ix (ix_U hu1) (we_lst (wa_cons we_int (wa_cons (we_un un_neg we_int) wa_nil))) (we_callTy call_int1 rfl T.z_int bt_int (wa_cons (we_cmpR (op_ltU hu0) (we_ix (ix_U hu1) (wv 0) we_int (fun _ _=>rfl)) (we_ix (ix_U hu1) (wv 1) we_int (fun _ _=>rfl)) (nomark _)) wa_nil)) (fun _ _=>rfl)))) wss_nil)
   (wss_cons (ws_for PassesOwn.never rfl (wi_zip rfl T.z_zip (wa_cons (we_ix (ix_U hu1) (wv 0) we_int (fun _ _=>rfl)) (wa_cons (we_ix (ix_U hu1) (wv 1) we_int (fun _ _=>rfl)) wa_nil))) (wg_tup rfl (wgs_cons (wg_name (i:=3) Zbc.nd rfl (Or.inl rfl)) (wgs_cons (wg_name (i:=4) Zbc.nd rfl (Or.inl rfl)) wgs_nil))) (wss_one (ws_if (wt_cmpR (op_neU hu) (wv 3) (wv 4) (nomark _)) (wss_one (ws_ret (we_call ZbO (hr.mono (by lia)) rfl ZaA.mg ZaA.kp ZaA.b .nil pass0 (wa_cons (we_ix (ix_U hu1) (wv 0) we_int (fun _ _=>rfl)) (wa_cons (wv 3) (wa_cons (wv 4) wa_nil)))))) wss_nil)))
   (wss_one (ws_ret (we_ix (ix_U hu1) (we_lst (wa_cons we_int (wa_cons (we_un un_neg we_int) wa_nil))) (we_callTy call_int1 rfl T.z_int bt_int (wa_cons (we_cmpR (op_ltU hu0) (we_callB call_lenU rfl T.z_len bt_len (wa_cons (we_ix (ix_U hu1) (wv 0) we_int (fun _ _=>rfl)) wa_nil)) (we_callB call_lenU rfl T.z_len bt_len (wa_cons (we_ix (ix_U hu1) (wv 1) we_int (fun _ _=>rfl)) wa_nil)) (nomark _)) wa_nil)) (fun _ _=>rfl))))))))),?_⟩
 have dx:(dat x).dep<=depMax:=Nat.le_trans (dep_dat bx) (by unfold depMax;lia)
 refine⟨_,rfl,_,rfl,.inr ⟨dat x,dat y,hx,hy,dx,_,rfl,?_⟩⟩
 refine ite2 (fun e=>?_) (fun e=>?_)
 ·have exy:x=y:=dat_inj (of_decide_eq_true e)
  subst exy
  exact fin 0 H (.refl H) (by rw[ahead_self];rfl)
 have ne:x≠y:=fun z=>e (decide_eq_true (by rw[z]))
 intro c hc
 refine⟨upd_same,[(Sum.inr "num",.int 0),(Sum.inr "word",.int 1),(Sum.inr "row",.int 2),(Sum.inr "bag",.int 3)],rfl,by decide,?_⟩
 have s1:Same H (upd (upd H c (.dK [])) c (.dK RK)):=fun b o z=>by rw[upd_ne (ne_of_none z hc),upd_ne (ne_of_none z hc)];exact z
 have hR:(upd (upd H c (.dK [])) c (.dK RK)) c=some (.dK RK):=upd_same
 have hx':IsDt H (dat x) v:=hx
 have hy':IsDt H (dat y) u:=hy
 rw[dat_two]at hx' hy'
 obtain⟨a1,y1,z1,rfl,h1,i1,j1⟩:=dt_two hx'
 obtain⟨a2,y2,z2,rfl,h2,i2,j2⟩:=dt_two hy'
 rw[IsDt]at i1 i2
 subst i1 i2
 refine⟨_,rfl,.inr (.inl ⟨a1,_,0,_,rfl,rfl,SqT.of (s1 _ _ h1),rfl,_,rfl,.inr (.inl ⟨a2,_,0,_,rfl,rfl,SqT.of (s1 _ _ h2),rfl,.inl ⟨rfl,_,rfl,?_⟩⟩)⟩)⟩
 refine ite2 (fun e=>?_) (fun e=>?_)
 ·have nt:tagS x≠tagS y:=fun z=>by rw[z]at e;simp at e
  refine⟨_,rfl,(by show 2<=sizeLine;decide),fun l hl=>?_⟩
  have s2:Same H (upd (upd (upd H c (.dK [])) c (.dK RK)) l (.lst [.int 1,.int (-1)])):=s1.trans (same_new hl _)
  have hR2:(upd (upd (upd H c (.dK [])) c (.dK RK)) l (.lst [.int 1,.int (-1)])) c=some (.dK RK):=same_new hl _ _ _ hR
  have g:∀ z,DGet (upd (upd (upd H c (.dK [])) c (.dK RK)) l (.lst [.int 1,.int (-1)])) c (.str (tagS z)) (some (.int (rank z))):=fun z=>by rw[<- rk_at z];exact DGet.k (k:=Sum.inr (tagS z)) hR2
  refine⟨_,rfl,_,rfl,.inr (.inl ⟨a1,_,0,_,rfl,rfl,SqT.of (s2 _ _ h1),rfl,.inr (.inr (.inr ⟨c,_,rfl,g x,_,rfl,_,rfl,.inr (.inl ⟨a2,_,0,_,rfl,rfl,SqT.of (s2 _ _ h2),rfl,.inr (.inr (.inr ⟨c,_,rfl,g y,.inl ⟨_,_,rfl,rfl,.inr ⟨_,rfl,.inl ⟨l,_,_,_,rfl,rfl,SqL.of upd_same,pick _,fin _ _ s2 ?_⟩⟩⟩⟩))⟩)⟩))⟩)⟩
  rw[pick_lt,ahead_tag nt]
 have et:tagS x=tagS y:=Classical.byContradiction fun z=>e (by simp [z])
 refine⟨_,rfl,.inr (.inl ⟨a1,_,0,_,rfl,rfl,SqT.of (s1 _ _ h1),rfl,?_⟩)⟩
 refine⟨(by show 2<=sizeLine;decide),fun t ht=>?_⟩
 have s3:=s1.trans (same_new ht (.tup [.str "num",.str "word"]))
 refine .inl ⟨t,_,rfl,.inr (SqT.of upd_same),rfl,rfl,_,rfl,?_⟩
 refine ite2 (fun hin0=>?_) (fun hin0=>?_)
 ·have hin:inV (V.str (tagS x)) [.str "num",.str "word"]=true:=hin0
  refine⟨_,rfl,(by show 2<=sizeLine;decide),fun l hl=>?_⟩
  have s4:=s3.trans (same_new hl (.lst [.int 1,.int (-1)]))
  cases x with
  | row ps=>exact absurd (show inV (V.str "row") [.str "num",.str "word"]=true from hin) (by decide +kernel)
  | bag ps=>exact absurd (show inV (V.str "bag") [.str "num",.str "word"]=true from hin) (by decide +kernel)
  | num i=>
   cases y with
   | word j=>exact absurd (show (Str.ofString "num" : Str)=Str.ofString "word" from et) (by decide +kernel)
   | row j=>exact absurd (show (Str.ofString "num" : Str)=Str.ofString "row" from et) (by decide +kernel)
   | bag j=>exact absurd (show (Str.ofString "num" : Str)=Str.ofString "bag" from et) (by decide +kernel)
   | num j=>
    rw[restD,IsDt]at j1 j2
    subst j1 j2
    refine⟨_,rfl,.inr (.inl ⟨a1,_,1,_,rfl,rfl,SqT.of (s4 _ _ h1),rfl,_,rfl,.inr (.inl ⟨a2,_,1,_,rfl,rfl,SqT.of (s4 _ _ h2),rfl,.inl ⟨i,j,rfl,rfl,.inr ⟨_,rfl,.inl ⟨l,_,_,_,rfl,rfl,SqL.of upd_same,pick _,fin _ _ s4 ?_⟩⟩⟩⟩)⟩)⟩
    rw[pick_lt,ahead_ne ne,ltV]
  | word i=>
   cases y with
   | num j=>exact absurd (show (Str.ofString "word" : Str)=Str.ofString "num" from et) (by decide +kernel)
   | row j=>exact absurd (show (Str.ofString "word" : Str)=Str.ofString "row" from et) (by decide +kernel)
   | bag j=>exact absurd (show (Str.ofString "word" : Str)=Str.ofString "bag" from et) (by decide +kernel)
   | word j=>
    rw[restD,IsDt]at j1 j2
    subst j1 j2
    refine⟨_,rfl,.inr (.inl ⟨a1,_,1,_,rfl,rfl,SqT.of (s4 _ _ h1),rfl,_,rfl,.inr (.inl ⟨a2,_,1,_,rfl,rfl,SqT.of (s4 _ _ h2),rfl,.inr (.inl ⟨.s i,.s j,_,rfl,rfl,rfl,.inr ⟨_,rfl,.inl ⟨l,_,_,_,rfl,rfl,SqL.of upd_same,pick _,fin _ _ s4 ?_⟩⟩⟩)⟩)⟩)⟩
    rw[pick_lt,ahead_ne ne,ltV]
 have hin:¬inV (V.str (tagS x)) [.str "num",.str "word"]=true:=hin0
 obtain⟨ps,qs,ex,ey,tp,tq,lp,lq,hb,h0,hat,hend⟩:=pairs_of et hin bx by' ne
 rw[ex,IsDt]at j1
 rw[ey,IsDt]at j2
 obtain⟨b1,us,rfl,g1,k1⟩:=j1
 obtain⟨b2,ws,rfl,g2,k2⟩:=j2
 have n1:us.length=ps.length:=by rw[k1.length,List.length_map]
 have n2:ws.length=qs.length:=by rw[k2.length,List.length_map]
 refine⟨_,rfl,.inr (.inl ⟨a1,_,1,_,rfl,rfl,SqT.of (s3 _ _ h1),rfl,_,rfl,.inr (.inl ⟨a2,_,1,_,rfl,rfl,SqT.of (s3 _ _ h2),rfl,b1,b2,us,ws,rfl,SqT.of (s3 _ _ g1),SqT.of (s3 _ _ g2),?_⟩)⟩)⟩
 refine⟨fun i m σ H'=>Same H H'/\m+i=8/\i<=ps.length/\i<=qs.length/\ps.take i=qs.take i/\∃ o3 o4,σ=[some (.ref a1),some (.ref a2),some (.ref c),o3,o4],⟨8,s3,rfl,by lia,by lia,rfl,none,none,rfl⟩,?_⟩
 rintro i m σ H' ⟨sH,hm,l1,l2,htk,o3,o4,rfl⟩
 by_cases hi:i<ps.length/\i<qs.length
 ·obtain⟨p,hp⟩:∃ p,ps[i]?=some p:=⟨_,List.getElem?_eq_getElem hi.1⟩
  obtain⟨q,hq⟩:∃ q,qs[i]?=some q:=⟨_,List.getElem?_eq_getElem hi.2⟩
  obtain⟨u1,e1,d1⟩:=k1.get (i:=i) (d:=p.dat) (by rw[List.getElem?_map,hp];rfl)
  obtain⟨w1,e2,d2⟩:=k2.get (i:=i) (d:=q.dat) (by rw[List.getElem?_map,hq];rfl)
  refine .inr ⟨⟨us,ws,u1,w1,SqT.of (sH _ _ g1),SqT.of (sH _ _ g2),e1,e2⟩,fun σ' H''=>Same H H''/\(m-1)+(i+1)=8/\i+1<=ps.length/\i+1<=qs.length/\ps.take (i+1)=qs.take (i+1)/\∃ o3 o4,σ'=[some (.ref a1),some (.ref a2),some (.ref c),o3,o4],fun σ' H'' hW=>⟨m-1,by lia,hW⟩,?_⟩
  rintro v H'' ⟨pp,rfl,hpp,x',y',f1,f2,rfl⟩
  have ex':x'=u1:=by have:=f1 us (SqT.of (sH _ _ g1));rw[e1]at this;injection this with this;exact this.symm
  have ey':y'=w1:=by have:=f2 ws (SqT.of (sH _ _ g2));rw[e2]at this;injection this with this;exact this.symm
  subst ex' ey'
  have sJ:=sH.trans (same_new hpp (.tup [x',y']))
  obtain⟨ds,eds⟩:=pr_tup p
  obtain⟨es,ees⟩:=pr_tup q
  have hpm:p∈ps:=List.mem_of_getElem? hp
  have hqm:q∈qs:=List.mem_of_getElem? hq
  have t1:=tp p hpm
  have t2:=tq q hqm
  cases d with
  | zero=>rw[h0 rfl]at hpm;cases hpm
  | succ d=>
  have b1':=(hb d rfl).1 p hpm
  have b2':=(hb d rfl).2 q hqm
  have dp:=pr_dep b1' (by lia)
  have D1:=IsDt.mono sJ.tups d1
  have D2:=IsDt.mono sJ.tups d2
  have D1':=D1
  have D2':=D2
  rw[eds]at D1' dp
  rw[ees]at D2'
  refine⟨pp,_,rfl,SqT.of upd_same,rfl,_,_,rfl,_,_,rfl,rfl,?_⟩
  refine⟨_,rfl,_,rfl,.inr (.inl ⟨ds,es,D1',D2',(by rw[Dt.dep]at dp;unfold depMax;lia),_,rfl,?_⟩)⟩
  refine ite2 (fun e=>?_) (fun e=>?_)
  ·have npq:p≠q:=fun z=>by rw[z,ees]at eds;injection eds with eds;rw[eds]at e;simp at e
   refine⟨_,rfl,.inr (.inl ⟨a1,_,0,_,rfl,rfl,SqT.of (sJ _ _ h1),rfl,_,rfl,_,rfl,_,_,p,q,(by rw[t1];rfl),t1.trans t2.symm,D1,D2,npq,b1',b2',by lia,fun r H3 sH3 hr'=>fin r H3 (sJ.trans sH3) ?_⟩)⟩
   rw[hr',hat i p q htk hp hq npq]
  ·have eq':ds=es:=Classical.byContradiction fun z=>e (by simp [z])
   have epq:p=q:=pr_inj (t1.trans t2.symm) (by rw[eds,ees,eq'])
   refine⟨sJ,by lia,by lia,by lia,?_,_,_,rfl⟩
   rw[List.take_add_one,List.take_add_one,htk,hp,hq,epq]
 ·refine .inl ⟨⟨us,ws,SqT.of (sH _ _ g1),SqT.of (sH _ _ g2),by lia⟩,?_⟩
  refine⟨_,rfl,(by show 2<=sizeLine;decide),fun l hl=>?_⟩
  have s5:=sH.trans (same_new hl (.lst [.int 1,.int (-1)]))
  refine⟨_,rfl,.inr (.inl ⟨a1,_,1,_,rfl,rfl,SqT.of (s5 _ _ h1),rfl,.inl ⟨b1,us,rfl,.inr (SqT.of (s5 _ _ g1)),_,rfl,.inr (.inl ⟨a2,_,1,_,rfl,rfl,SqT.of (s5 _ _ h2),rfl,.inl ⟨b2,ws,rfl,.inr (SqT.of (s5 _ _ g2)),.inl ⟨_,_,rfl,rfl,.inr ⟨_,rfl,.inl ⟨l,_,_,_,rfl,rfl,SqL.of upd_same,pick _,fin _ _ s5 ?_⟩⟩⟩⟩⟩)⟩⟩)⟩
  have him:min ps.length qs.length=i:=by lia
  rw[pick_lt,hend (by rw[him];exact htk),n1,n2]
  simp
end
end K05
end
section
namespace K05
open PySem L2 Kn
section
variable {P:Program}{w:World}{K:PySem.W.Frag}{mg:Str->Option Value}{base:Heap}{f f_side f_pair:Addr}{fd fd_side fd_pair:FuncData}
theorem side_all (T:Tx mg) (D:Df K mg "_law_side" (top 35) f_side fd_side ["one","other"]) (D':Df K mg "_law_pair_side" (top 36) f_pair fd_pair ["word","a","b"]) :
  ∀ d:Nat,FnOk P w K mg base CX0 (2 * d+1) f_side fd_side ["one","other"] (spSide d)
 | 0=>ok_side (k:=0) T D D' ⟨fun _ _ _ _ h=>h.elim,fun _ _ _ _ _ _ _ _ _ _ _ _ _ h=>h.elim⟩
 | d+1=>ok_side (k:=2 * d+1+1) T D D' (ok_pair (k:=2 * d+1) T D' D (side_all T D D' d))
end
end K05
end
section
namespace K05
open PySem L2 Kn
section
variable {P:Program}{w:World}{K:PySem.W.Frag}{mg:Str->Option Value}{base:Heap}{f f_side:Addr}{fd fd_side:FuncData}
structure GoodIt (J:It) (p:Addr) (o:HO) (us:List V):Prop where
 go:∀ i H',H' p=some o->i<us.length->J.go i H'
 yl:∀ i H' x H'',H' p=some o->J.yld i H' x H''->H''=H'/\us[i]?=some x
 st:∀ i H',H' p=some o->us.length<=i->J.stop i H'
theorem iU {σ:St} {H:Hp}{i:Nat}{p:Addr}{o:HO}{us:List V}{R:It->Hp->Prop} (e:σ[i]?=some (some (.ref p))) (ho:o=.lst us\/o=.tup us) (h:H p=some o) (key:∀ J,GoodIt J p o us->R J H) :
  iList K (tVar i) σ H R\/iTup K (tVar i) σ H R:=by
 rcases ho with rfl | rfl
 ·exact .inl ⟨_,e,p,rfl,⟨us,SqL.of h⟩,key _ ⟨fun i H' h l=>⟨us,_,SqL.of h,List.getElem?_eq_getElem l⟩,fun i H' x H'' h y=>⟨y.1,y.2 us (SqL.of h)⟩,fun i H' h l=>⟨us,SqL.of h,l⟩⟩⟩
 ·exact .inr ⟨_,e,p,rfl,⟨us,SqT.of h⟩,key _ ⟨fun i H' h l=>⟨us,_,SqT.of h,List.getElem?_eq_getElem l⟩,fun i H' x H'' h y=>⟨y.1,y.2 us (SqT.of h)⟩,fun i H' h l=>⟨us,SqT.of h,l⟩⟩⟩
theorem ixN_nat {n j:Nat} (h:j<n):ixN n (j:Int)=some j:=by
 unfold ixN
 rw[if_pos (by lia),if_pos (by lia)]
 simp
theorem ZaI:FnScope ["pairs","values","counts","value","count","at"] ["pairs"] (defScope (top 37)):=⟨rfl,rfl,rfl,by decide +kernel,rfl,by decide +kernel,by decide +kernel⟩
def spBag (d:Nat):Sp:=fun vs H Q _=>∃ (p:Addr) (us:List V) (xs:List (Val×Int)),vs=[.ref p]/\(∃ o:HO,H p=some o/\(o=.lst us\/o=.tup us))/\IsDts H (datB xs) us/\xs.length<=100/\(∀ q∈xs,Bd 7 d q.1)/\d<=20 /\
 ∀ (v:V) (H':Hp) (qs:List (Val×Int)),Same H H'->IsVal H' (.bag qs) v->qs.length<=xs.length->(∀ q∈qs,∃ r∈xs,q.1=r.1)->IsBag xs qs->Q v H'
theorem ok_bag {k d:Nat} (T:Tx mg) (D:Df K mg "_law_bag" (top 37) f fd ["pairs"]) (Zaj:Df K mg "_law_side" (top 35) f_side fd_side ["one","other"]) (Zbb:FnOk P w K mg base CX0 k f_side fd_side ["one","other"] (spSide d)) :
  FnOk P w K mg base CX0 (k+1) f fd ["pairs"] (spBag d):=by
 refine D.fn.okH ZaI (fun vs H Q E h=>?_) (fun cdv A outer s H vs Q E hr h=>?_)
 ·obtain⟨p,us,xs,rfl,_⟩:=h;rfl
 obtain⟨p,us,xs,rfl,⟨o,hp,ho⟩,hus,lx,bx,hd,fin⟩:=h
 have hu:=u110 hr
 have hu0:=u0 hr
 have hu1:=hu_of hr
 refine⟨_,(wss_cons (ws_set (i:=1) ZaI.nd rfl (Or.inr rfl) (we_lst wa_nil))
   (wss_cons (ws_set (i:=2) ZaI.nd rfl (Or.inr rfl) (we_lst wa_nil))
   (wss_cons (ws_for PassesOwn.never rfl (wi_U (wv 0)) (wg_tup rfl (wgs_cons (wg_name (i:=3) ZaI.nd rfl (Or.inr rfl)) (wgs_cons (wg_name (i:=4) ZaI.nd rfl (Or.inl rfl)) wgs_nil))) (wss_cons (ws_if (wt_cmpR (op_notInU hu) (wv 3) (wv 1) (by with_unfolding_all rfl)) (wss_cons (ws_set (i:=5) ZaI.nd rfl (Or.inl rfl) (we_callB call_lenU rfl T.z_len bt_len (wa_cons (we_lc (Nt:=["one"]) (fr:=[("value",3)]) (LcOk.of (sc:=defScope (top 37)) (N:=["pairs","values","counts","value","count","at"]) rfl rfl (by decide +kernel)) rfl (wi_U (wv 1)) (fun z=>wg_name (i:=0) (by show (["one","value"]:List Str).Nodup;decide +kernel) rfl (Or.inl rfl) (.inr rfl)) (fun z=>tgt_name (by decide)) (fun z=>wif_one (wt_cmpR (op_ltU hu0) (we_call Zbb (hr.mono (by lia)) rfl Zaj.mg Zaj.kp Zaj.b .nil pass0 (wa_cons (wv 0) (wa_cons (wv 1) wa_nil))) we_int (nomark _))) (fun z=>(wv 0))) wa_nil)))
   (wss_cons (ws_expr (we_bm PySem.F.plainAttrs_list PySem.F.slot_list_insert PySem.F.type_list_insert mt_insert (wv 1) (wa_cons (wv 5) (wa_cons (wv 3) wa_nil))))
   (wss_one (ws_expr (we_bm PySem.F.plainAttrs_list PySem.F.slot_list_insert PySem.F.type_list_insert mt_insert (wv 2) (wa_cons (wv 5) (wa_cons we_int wa_nil))))))) wss_nil)
   (wss_cons (ws_set (i:=5) ZaI.nd rfl (Or.inl rfl) (we_bm PySem.F.plainAttrs_list PySem.F.slot_list_index PySem.F.type_list_index (mt_indexD hu) (wv 1) (wa_cons (wv 3) wa_nil)))
   (wss_one (ws_asg (we_op op_plus (we_ix (ix_U hu1) (wv 2) (wv 5) (fun _ _=>rfl)) (wv 4)) (wg_sub (wv 2) (wv 5) (set_U hu1)))))))
   (wss_one (ws_ret (we_tup (wa_cons we_str (wa_cons (we_callTy call_tuple_of rfl T.z_tuple bt_tuple (wa_cons (we_lc (Nt:=["k"]) (fr:=[("values",1),("counts",2)]) (LcOk.of (sc:=defScope (top 37)) (N:=["pairs","values","counts","value","count","at"]) rfl rfl (by decide +kernel)) rfl (wi_range1 rfl T.z_range (wa_cons (we_callB call_lenU rfl T.z_len bt_len (wa_cons (wv 1) wa_nil)) wa_nil)) (fun z=>wg_name (i:=0) (by show (["k","values","counts"]:List Str).Nodup;decide +kernel) rfl (Or.inl rfl) (.inr rfl)) (fun z=>tgt_name (by decide)) (fun z=>wif_one (wt_cmpR (op_neU hu) (we_ix (ix_U hu1) (wv 2) (wv 0) (fun _ _=>rfl)) we_int (nomark _))) (fun z=>(we_tup (wa_cons (we_ix (ix_U hu1) (wv 1) (wv 0) (fun _ _=>rfl)) (wa_cons (we_ix (ix_U hu1) (wv 2) (wv 0) (fun _ _=>rfl)) wa_nil))))) wa_nil)) wa_nil)))))))),?_⟩
 refine⟨(by show 0<=sizeLine;decide),fun lv hlv=>⟨(by show 0<=sizeLine;decide),fun lc hlc=>?_⟩⟩
 have nvc:lv≠lc:=fun z=>by rw[z,upd_same]at hlc;cases hlc
 have hlc0:H lc=none:=by rw[upd_ne (fun z=>nvc z.symm)]at hlc;exact hlc
 have s0:=(same_new hlv (.lst [])).trans (same_new hlc (.lst []))
 refine iU rfl ho (s0 _ _ hp) fun J hJ=>?_
 have nus:us.length=xs.length:=by rw[hus.length,datB_map,List.length_map]
 have depY:∀ ys:List Val,(∀ y∈ys,∃ r∈xs,y=r.1)->depL (ys.map dat)<=depMax:=fun ys h=>depL_le fun t ht=>by
  obtain⟨y,hy,rfl⟩:=List.mem_map.mp ht
  obtain⟨r,hr',rfl⟩:=h y hy
  exact Nat.le_trans (dep_dat (bx r hr')) (by unfold depMax;lia)
 have line:∀ n:Nat,n<=1000->n<sizeLine:=fun n h=>Nat.lt_of_le_of_lt h (by decide)
 refine⟨fun i m σ H'=>Same H H'/\m+i=xs.length/\(∃ o3 o4 o5,σ=[some (.ref p),some (.ref lv),some (.ref lc),o3,o4,o5]) /\
   ∃ (vls:List V) (cs:List Int) (ys:List Val),H' lv=some (.lst vls)/\H' lc=some (.lst (cs.map V.int))/\IsDts H' (ys.map dat) vls/\ys.length=cs.length/\ys.length<=i/\(∀ y∈ys,∃ r∈xs,y=r.1)/\RiseV ys/\∀ v,cnt v (ys.zip cs)=cnt v (xs.take i),
  ⟨xs.length,s0,rfl,⟨none,none,none,rfl⟩,[],[],[],by rw[upd_ne nvc];exact upd_same,upd_same,.nil,rfl,Nat.le_refl _,(fun y hy=>(nomatch hy)),.nil,fun v=>rfl⟩,?_⟩
 rintro i m σ H' ⟨sH,hm,⟨o3,o4,o5,rfl⟩,vls,cs,ys,hv,hc,iv,len,ll,all,rise,hcnt⟩
 by_cases hi:i<xs.length
 ·refine .inr ⟨hJ.go i H' (sH _ _ hp) (by lia),fun σ' H''=>Same H H''/\(m-1)+(i+1)=xs.length/\(∃ o3 o4 o5,σ'=[some (.ref p),some (.ref lv),some (.ref lc),o3,o4,o5]) /\
   ∃ (vls:List V) (cs:List Int) (ys:List Val),H'' lv=some (.lst vls)/\H'' lc=some (.lst (cs.map V.int))/\IsDts H'' (ys.map dat) vls/\ys.length=cs.length/\ys.length<=i+1/\(∀ y∈ys,∃ r∈xs,y=r.1)/\RiseV ys/\∀ v,cnt v (ys.zip cs)=cnt v (xs.take (i+1)),fun σ' H'' hW=>⟨m-1,by lia,hW⟩,?_⟩
  intro x H'' hy
  obtain⟨e0,hx⟩:=hJ.yl i H' x _ (sH _ _ hp) hy
  rw[e0]
  obtain⟨u,hu',du⟩:=hus.get (i:=i) (d:=.tup [dat xs[i].1,.int xs[i].2]) (by rw[datB_map,List.getElem?_map,List.getElem?_eq_getElem hi];rfl)
  obtain rfl:u=x:=by rw[hu']at hx;injection hx
  obtain⟨c,v,z,rfl,hc1,dv,dz⟩:=dt_two du
  rw[IsDt]at dz
  subst dz
  have hxm:xs[i]∈xs:=List.getElem_mem hi
  have htk:xs.take (i+1)=xs.take i++[xs[i]]:=by rw[List.take_add_one,List.getElem?_eq_getElem hi];rfl
  generalize xs[i]=xi at hxm dv hc1 du htk
  have hcnt':∀ v,cnt v (xs.take (i+1))=cnt v (xs.take i)+(if xi.1=v then xi.2 else 0):=fun v=>by rw[htk,cnt_append];simp only[cnt];lia
  have dv':=IsDt.mono sH.tups dv
  refine⟨c,_,rfl,SqT.of (sH _ _ hc1),rfl,_,_,rfl,_,_,rfl,rfl,?_⟩
  refine⟨_,rfl,_,rfl,.inr ⟨lv,vls,dat xi.1,ys.map dat,rfl,SqL.of hv,dv',iv,depY ys all,_,rfl,?_⟩⟩
  refine ite2 (fun e=>?_) (fun e=>?_)
  ·refine iU rfl (.inl rfl) hv fun J2 hJ2=>?_
   have nvl:vls.length=ys.length:=by rw[iv.length,List.length_map]
   have nm:xi.1 ∉ ys:=fun z=>by
    have z':dat xi.1∈ys.map dat:=List.mem_map.mpr ⟨_,z,rfl⟩
    simp only[if_pos,decide_eq_true z']at e
    revert e;decide
   refine⟨fun i2 m2 zs H2=>Same H' H2/\m2+i2=ys.length/\zs.length<=i2/\zs.length=nAhead xi.1 (ys.take i2),⟨ys.length,.refl _,rfl,Nat.le_refl _,rfl⟩,?_⟩
   rintro i2 m2 zs H2 ⟨s2,hm2,lz,hna⟩
   refine⟨line _ (by lia),?_⟩
   by_cases hi2:i2<ys.length
   ·refine .inr ⟨hJ2.go i2 H2 (s2 _ _ hv) (by lia),fun z x H5 hy2=>?_⟩
    obtain⟨rfl,hx2⟩:=hJ2.yl i2 H2 x _ (s2 _ _ hv) hy2
    obtain⟨y2,hy2',dy2⟩:=iv.get (i:=i2) (d:=dat ys[i2]) (by rw[List.getElem?_map,List.getElem?_eq_getElem hi2];rfl)
    obtain rfl:y2=x:=by rw[hy2']at hx2;injection hx2
    obtain⟨r2,hr2,er2⟩:=all _ (List.getElem_mem hi2)
    refine⟨_,rfl,_,rfl,_,_,ys[i2],xi.1,rfl,IsDt.mono s2.tups dy2,IsDt.mono s2.tups dv',(by rw[er2];exact bx _ hr2),bx _ hxm,hd,fun r H6 s6 hr6=>.inl ⟨r,0,rfl,rfl,_,rfl,?_⟩⟩
    have tk:ys.take (i2+1)=ys.take i2++[ys[i2]]:=by rw[List.take_add_one,List.getElem?_eq_getElem hi2];rfl
    refine ite2 (fun e6=>?_) (fun e6=>?_)
    ·exact⟨_,rfl,m2-1,by lia,s2.trans s6,by lia,by rw[List.length_append];show zs.length+1<=_;lia,by rw[tk,nAhead_snoc,if_pos (hr6.symm.trans e6),List.length_append];show zs.length+1=_;lia⟩
    ·exact⟨m2-1,by lia,s2.trans s6,by lia,by lia,by rw[tk,nAhead_snoc,if_neg (by rw[<- hr6];exact e6)];lia⟩
   refine .inl ⟨hJ2.st i2 H2 (s2 _ _ hv) (by lia),fun l hl=>.inl ⟨l,zs,rfl,.inl (SqL.of upd_same),?_⟩⟩
   have sL:=(sH.trans s2).trans (same_new hl (.lst zs))
   have sK:=s2.trans (same_new hl (.lst zs))
   generalize upd H2 l (.lst zs)=HL at sL sK ⊢
   have hvL:=sK _ _ hv
   have hcL:=sK _ _ hc
   refine⟨_,rfl,.inl ⟨rfl,_,SqL.of hvL⟩,_,rfl,_,rfl,lv,vls,zs.length,v,rfl,rfl,hvL,by lia,by lia,line _ (by lia),?_⟩
   have sM:Same H (upd HL lv (.lst (vls.take ((zs.length:Int)).toNat++v::vls.drop ((zs.length:Int)).toNat))):=fun b q e=>by rw[upd_ne (ne_of_none e hlv)];exact sL b q e
   have tM:Tups HL (upd HL lv (.lst (vls.take ((zs.length:Int)).toNat++v::vls.drop ((zs.length:Int)).toNat))):=Tups.lst hvL
   have hvM:(upd HL lv (.lst (vls.take ((zs.length:Int)).toNat++v::vls.drop ((zs.length:Int)).toNat))) lv=_:=upd_same
   have hcM:(upd HL lv (.lst (vls.take ((zs.length:Int)).toNat++v::vls.drop ((zs.length:Int)).toNat))) lc=_:=(upd_ne (fun z=>nvc z.symm)).trans hcL
   generalize upd HL lv (.lst (vls.take ((zs.length:Int)).toNat++v::vls.drop ((zs.length:Int)).toNat))=HM at sM tM hvM hcM ⊢
   refine⟨_,rfl,.inl ⟨rfl,_,SqL.of hcM⟩,_,rfl,lc,_,zs.length,.int 0,rfl,rfl,hcM,by lia,by rw[List.length_map];lia,line _ (by rw[List.length_map];lia),?_⟩
   have sH3:Same H (upd HM lc (.lst ((cs.map V.int).take ((zs.length:Int)).toNat++.int 0::(cs.map V.int).drop ((zs.length:Int)).toNat))):=fun b q e=>by rw[upd_ne (ne_of_none e hlc0)];exact sM b q e
   have t3:Tups HM (upd HM lc (.lst ((cs.map V.int).take ((zs.length:Int)).toNat++.int 0::(cs.map V.int).drop ((zs.length:Int)).toNat))):=Tups.lst hcM
   have hv3:(upd HM lc (.lst ((cs.map V.int).take ((zs.length:Int)).toNat++.int 0::(cs.map V.int).drop ((zs.length:Int)).toNat))) lv=_:=(upd_ne nvc).trans hvM
   have hc3':(upd HM lc (.lst ((cs.map V.int).take ((zs.length:Int)).toNat++.int 0::(cs.map V.int).drop ((zs.length:Int)).toNat))) lc=_:=upd_same
   generalize upd HM lc (.lst ((cs.map V.int).take ((zs.length:Int)).toNat++.int 0::(cs.map V.int).drop ((zs.length:Int)).toNat))=H3 at sH3 t3 hv3 hc3' ⊢
   obtain⟨n,hn⟩:∃ n,((zs.length:Int)).toNat=n:=⟨_,rfl⟩
   have hnl:n<=ys.length:=by lia
   have hna':n=nAhead xi.1 ys:=by rw[List.take_of_length_le (by lia)]at hna;lia
   rw[hn]at hv3 hc3'
   obtain⟨cs3,ecs⟩:∃ cs3:List Int,cs3=cs.take n++0::cs.drop n:=⟨_,rfl⟩
   obtain⟨ys3,eys⟩:∃ ys3:List Val,ys3=ys.take n++xi.1::ys.drop n:=⟨_,rfl⟩
   obtain⟨vls3,evl⟩:∃ vls3:List V,vls3=vls.take n++v::vls.drop n:=⟨_,rfl⟩
   rw[<- evl]at hv3
   have hc3:H3 lc=some (.lst (cs3.map V.int)):=by rw[hc3',ecs,List.map_append,List.map_cons,List.map_take,List.map_drop]
   have tA:Tups H' H3:=fun b q e=>t3 b q (tM b q (sK b _ e))
   have dv3:IsDt H3 (dat xi.1) v:=IsDt.mono tA dv'
   have iv3:IsDts H3 (ys3.map dat) vls3:=by
    have iw:=IsDts.mono tA iv
    rw[eys,evl,List.map_append,List.map_cons,List.map_take,List.map_drop]
    exact (iw.take n).append (.cons dv3 (iw.drop n))
   have len3:ys3.length=cs3.length:=by rw[eys,ecs];simp [len]
   have ll3:ys3.length<=i+1:=by rw[eys];simp;lia
   have all3:∀ y∈ys3,∃ r∈xs,y=r.1:=by
    intro y hy
    rw[eys]at hy
    rcases List.mem_append.mp hy with h | h
    ·exact all y (List.mem_of_mem_take h)
    ·rcases List.mem_cons.mp h with h | h
     ·exact⟨xi,hxm,h⟩
     ·exact all y (List.mem_of_mem_drop h)
   have rise3:RiseV ys3:=by rw[eys,hna'];exact rise_put rise nm
   have cnt3:∀ v,cnt v (ys3.zip cs3)=cnt v (xs.take i):=fun v=>by rw[eys,ecs,cnt_put v _ len n,hcnt]
   have mem3:dat xi.1∈ys3.map dat:=List.mem_map.mpr ⟨xi.1,by rw[eys];simp,rfl⟩
   refine⟨_,rfl,.inl ⟨rfl,_,SqL.of hv3⟩,_,rfl,lv,vls3,v,dat xi.1,ys3.map dat,rfl,rfl,hv3,dv3,iv3,depY ys3 all3,mem3,fun j hj=>?_⟩
   have hjl:j<cs3.length:=by have:=(List.getElem?_eq_some_iff.mp hj).1;rw[List.length_map]at this;lia
   have hjy:j<ys3.length:=by lia
   have hyj:ys3[j]=xi.1:=by
    rw[List.getElem?_map,List.getElem?_eq_getElem hjy]at hj
    injection hj with hj
    exact dat_inj hj
   refine⟨_,rfl,_,rfl,.inl ⟨lc,_,j,_,rfl,rfl,SqL.of hc3,atI_nat (show (cs3.map V.int)[j]?=some (.int cs3[j]) by rw[List.getElem?_map,List.getElem?_eq_getElem hjl];rfl),_,rfl,.inl ⟨_,_,rfl,rfl,_,rfl,_,rfl,.inl ⟨lc,_,j,j,rfl,rfl,hc3,ixN_nat (by simpa using hjl),?_⟩⟩⟩⟩
   refine⟨fun b q e=>by rw[upd_ne (ne_of_none e hlc0)];exact sH3 b q e,by lia,⟨_,_,_,rfl⟩,vls3,cs3.set j (cs3[j]+xi.2),ys3,by rw[upd_ne nvc];exact hv3,by rw[upd_same,List.map_set],IsDts.mono (Tups.lst hc3) iv3,by rw[List.length_set];exact len3,ll3,all3,rise3,fun v=>by rw[cnt_set v xi.2 hjl hjy,cnt3,hcnt',hyj]⟩
  ·have mem3:dat xi.1∈ys.map dat:=Classical.byContradiction fun z=>e (by simp only[if_pos,decide_eq_false z];rfl)
   obtain⟨H3,vls3,cs3,ys3,rfl,rfl,rfl,rfl⟩:∃ (H3:Hp) (vls3:List V) (cs3:List Int) (ys3:List Val),H3=H'/\vls3=vls/\cs3=cs/\ys3=ys:=⟨_,_,_,_,rfl,rfl,rfl,rfl⟩
   have sH3:=sH
   have hv3:=hv
   have hc3:=hc
   have iv3:=iv
   have dv3:=dv'
   have all3:=all
   have len3:=len
   have ll3:ys3.length<=i+1:=by lia
   have rise3:=rise
   have cnt3:=hcnt
   refine⟨_,rfl,.inl ⟨rfl,_,SqL.of hv3⟩,_,rfl,lv,vls3,v,dat xi.1,ys3.map dat,rfl,rfl,hv3,dv3,iv3,depY ys3 all3,mem3,fun j hj=>?_⟩
   have hjl:j<cs3.length:=by have:=(List.getElem?_eq_some_iff.mp hj).1;rw[List.length_map]at this;lia
   have hjy:j<ys3.length:=by lia
   have hyj:ys3[j]=xi.1:=by
    rw[List.getElem?_map,List.getElem?_eq_getElem hjy]at hj
    injection hj with hj
    exact dat_inj hj
   refine⟨_,rfl,_,rfl,.inl ⟨lc,_,j,_,rfl,rfl,SqL.of hc3,atI_nat (show (cs3.map V.int)[j]?=some (.int cs3[j]) by rw[List.getElem?_map,List.getElem?_eq_getElem hjl];rfl),_,rfl,.inl ⟨_,_,rfl,rfl,_,rfl,_,rfl,.inl ⟨lc,_,j,j,rfl,rfl,hc3,ixN_nat (by simpa using hjl),?_⟩⟩⟩⟩
   refine⟨fun b q e=>by rw[upd_ne (ne_of_none e hlc0)];exact sH3 b q e,by lia,⟨_,_,_,rfl⟩,vls3,cs3.set j (cs3[j]+xi.2),ys3,by rw[upd_ne nvc];exact hv3,by rw[upd_same,List.map_set],IsDts.mono (Tups.lst hc3) iv3,by rw[List.length_set];exact len3,ll3,all3,rise3,fun v=>by rw[cnt_set v xi.2 hjl hjy,cnt3,hcnt',hyj]⟩
 ·refine .inl ⟨hJ.st i H' (sH _ _ hp) (by lia),?_⟩
  have nvl:vls.length=ys.length:=by rw[iv.length,List.length_map]
  refine⟨_,rfl,.inl ⟨lv,vls,rfl,.inl (SqL.of hv),vls.length,rfl,by lia,by lia,?_⟩⟩
  refine⟨fun i2 m2 zs H2=>Same H' H2/\m2+i2=ys.length/\∃ qs:List (Val×Int),IsDts H2 (datB qs) zs/\qs.length<=i2/\(∀ q∈qs,∃ r∈xs,q.1=r.1)/\qs=((ys.zip cs).take i2).filter fun q=>decide (q.2≠0),⟨ys.length,.refl _,rfl,[],.nil,Nat.le_refl _,(fun q hq=>(nomatch hq)),rfl⟩,?_⟩
  rintro i2 m2 zs H2 ⟨s2,hm2,qs,iq,lq,aq,eqs⟩
  have nz:zs.length=qs.length:=by rw[iq.length,datB_map,List.length_map]
  refine⟨line _ (by lia),?_⟩
  have hv2:=s2 _ _ hv
  have hc2:=s2 _ _ hc
  by_cases hi2:i2<ys.length
  ·refine .inr ⟨(by show i2<((vls.length:Int)).toNat;lia),fun z x H5 hy2=>?_⟩
   obtain⟨rfl,rfl⟩:=hy2
   have hic:i2<cs.length:=by lia
   obtain⟨v2,ev2,dv2⟩:=iv.get (i:=i2) (d:=dat ys[i2]) (by rw[List.getElem?_map,List.getElem?_eq_getElem hi2];rfl)
   have at1:atI vls (0+(i2:Int))=some v2:=by rw[Int.zero_add];exact atI_nat ev2
   have at2:atI (cs.map V.int) (0+(i2:Int))=some (.int cs[i2]):=by rw[Int.zero_add];exact atI_nat (by rw[List.getElem?_map,List.getElem?_eq_getElem hic];rfl)
   refine⟨_,rfl,_,rfl,.inl ⟨lc,_,_,_,rfl,rfl,SqL.of hc2,at2,.inl ⟨rfl,_,rfl,?_⟩⟩⟩
   have tkz:(ys.zip cs).take (i2+1)=(ys.zip cs).take i2++[(ys[i2],cs[i2])]:=by
    rw[List.take_add_one,List.getElem?_eq_getElem (by rw[List.length_zip];lia),List.getElem_zip];rfl
   refine ite2 (fun e=>?_) (fun e=>?_)
   ·have e0:cs[i2]≠0:=fun z=>by rw[z]at e;revert e;decide
    refine⟨_,rfl,_,rfl,.inl ⟨lv,_,_,v2,rfl,rfl,SqL.of hv2,at1,_,rfl,_,rfl,.inl ⟨lc,_,_,_,rfl,rfl,SqL.of hc2,at2,(by show 2<=sizeLine;decide),fun l hl=>?_⟩⟩⟩
    refine⟨m2-1,by lia,s2.trans (same_new hl _),by lia,qs++[(ys[i2],cs[i2])],?_,by rw[List.length_append];show qs.length+1<=_;lia,?_,by rw[tkz,List.filter_append,<- eqs];simp [e0]⟩
    ·rw[datB_map,List.map_append,<- datB_map]
     exact (IsDts.mono (same_new hl _).tups iq).append (.one (isDt_new hl (.cons (IsDt.mono s2.tups dv2) (.one (by rw[IsDt])))))
    ·intro q hq
     rcases List.mem_append.mp hq with h | h
     ·exact aq q h
     ·rw[List.mem_singleton.mp h];exact all _ (List.getElem_mem hi2)
   ·have e0:cs[i2]=0:=Classical.byContradiction fun z=>e (by rw[decide_eq_false (fun w=>z (by injection w))];rfl)
    exact⟨m2-1,by lia,s2,by lia,qs,iq,by lia,aq,by rw[tkz,List.filter_append,<- eqs];simp [e0]⟩
  ·refine .inl ⟨(by show ((vls.length:Int)).toNat<=i2;lia),fun l hl=>⟨l,zs,rfl,.inl ⟨SqL.of upd_same,fun t ht=>⟨(by show 2<=sizeLine;decide),fun b hb=>?_⟩⟩⟩⟩
   refine fin _ _ qs ((sH.trans s2).trans ((same_new hl _).trans ((same_new ht _).trans (same_new hb _)))) ?_ (by lia) aq (by
    rw[eqs,List.take_of_length_le (by rw[List.length_zip];lia)]
    exact bag_of_zip rise fun v=>by rw[hcnt,List.take_of_length_le (by lia)])
   show IsDt _ (dat (.bag qs)) _
   rw[dat_two]
   exact isDt_new hb (.cons (by rw[IsDt];rfl) (.one (isDt_tup upd_same (IsDts.mono ((same_new hl _).trans (same_new ht _)).tups iq))))
end
end K05
end
section
namespace K05
open PySem L2 Kn
theorem line1 {n:Nat} (h:n<=2000000):n<sizeLine:=Nat.lt_of_le_of_lt h (by decide)
theorem valV_mem {kvs:List (Key×V)}{k:Key} (h:k∈kvs.map (·.1)):∃ kv∈kvs,kv.1=k/\valV kvs k=some kv.2:=by
 induction kvs with
 | nil=>cases h
 | cons p r ih=>
  by_cases e:p.1=k
  ·exact⟨p,List.mem_cons_self,e,valV_pos e⟩
  ·rw[List.map_cons]at h
   rcases List.mem_cons.mp h with h | h
   ·exact absurd h.symm e
   ·obtain⟨kv,h1,h2,h3⟩:=ih h
    exact⟨kv,List.mem_cons_of_mem _ h1,h2,by rw[valV_neg e];exact h3⟩
theorem put_mem {kvs:List (Key×V)}{k:Key}{v:V}{kv:Key×V} (h:kv∈putK kvs k v):kv∈kvs\/kv=(k,v):=by
 unfold putK at h
 split at h
 ·obtain⟨q,hq,e⟩:=List.mem_map.mp h
  by_cases z:q.1=k
  ·rw[if_pos z]at e;right;rw[<- e,z]
  ·rw[if_neg z]at e;left;rw[<- e];exact hq
 ·rcases List.mem_append.mp h with h | h
  ·exact .inl h
  ·exact .inr (List.mem_singleton.mp h)
theorem putK_cases (kvs:List (Key×V)) (k:Key) (v:V):(k∈kvs.map (·.1)/\(putK kvs k v).map (·.1)=kvs.map (·.1))\/(k ∉ kvs.map (·.1)/\putK kvs k v=kvs++[(k,v)]):=by
 by_cases h:(kvs.any fun kv=>decide (kv.1=k))=true
 ·left
  obtain⟨kv,h1,h2⟩:=List.any_eq_true.mp h
  refine⟨List.mem_map.mpr ⟨kv,h1,of_decide_eq_true h2⟩,?_⟩
  unfold putK
  rw[if_pos h,List.map_map]
  refine List.map_congr_left fun q _=>?_
  show (if q.1=k then (q.1,v) else q).1=q.1
  split <;> rfl
 ·right
  refine⟨fun z=>?_,?_⟩
  ·obtain⟨kv,h1,h2⟩:=List.mem_map.mp z
   exact h (List.any_eq_true.mpr ⟨kv,h1,decide_eq_true h2⟩)
  ·unfold putK
   rw[if_neg h]
def gput (g:Key->Val) (k:Key) (x:Val):Key->Val:=fun j=>if j=k then x else g j
theorem sum_gput {l:List Key} (g:Key->Val) (k:Key) (x:Val) (nd:l.Nodup):(l.map fun j=>vsz (gput g k x j)).sum<=(l.map fun j=>vsz (g j)).sum+vsz x:=by
 induction l with
 | nil=>exact Nat.zero_le _
 | cons j l ih=>
  rw[List.nodup_cons]at nd
  rw[List.map_cons,List.map_cons,List.sum_cons,List.sum_cons]
  by_cases e:j=k
  ·have e2:(l.map fun j=>vsz (gput g k x j))=l.map fun j=>vsz (g j):=List.map_congr_left fun i hi=>by
    have:¬i=k:=fun z=>nd.1 (by rw[e,<- z];exact hi)
    show vsz (if i=k then x else g i)=_
    rw[if_neg this]
   have e3:gput g k x j=x:=if_pos e
   rw[e2,e3];lia
  ·have:=ih nd.2
   have e3:gput g k x j=g j:=if_neg e
   rw[e3];lia
theorem sum_gput_new {l:List Key} (g:Key->Val) (k:Key) (x:Val) (h:k ∉ l):(l.map fun j=>vsz (gput g k x j))=(l.map fun j=>vsz (g j)):=
 List.map_congr_left fun i hi=>by
  have:¬i=k:=fun z=>h (by rw[<- z];exact hi)
  show vsz (if i=k then x else g i)=_
  rw[if_neg this]
theorem nd_inj {l:List (Key×V)} (nd:(l.map (·.1)).Nodup) {a b:Key×V} (ha:a∈l) (hb:b∈l) (e:a.1=b.1):a=b:=by
 induction l with
 | nil=>cases ha
 | cons c l ih=>
  rw[List.map_cons,List.nodup_cons]at nd
  have ha':=List.mem_cons.mp ha
  have hb':=List.mem_cons.mp hb
  by_cases h1:a=c
  ·by_cases h2:b=c
   ·rw[h1,h2]
   ·have hb2:b∈l:=hb'.resolve_left h2
    have h:c.1∈l.map (·.1):=List.mem_map.mpr ⟨b,hb2,by rw[<- e,h1]⟩
    exact absurd h nd.1
  ·have ha2:a∈l:=ha'.resolve_left h1
   by_cases h2:b=c
   ·have h:c.1∈l.map (·.1):=List.mem_map.mpr ⟨a,ha2,by rw[e,h2]⟩
    exact absurd h nd.1
   ·exact ih nd.2 ha2 (hb'.resolve_left h2)
def cst (d:Nat):Int:=100 * 7 ^ d
theorem cst_pos (d:Nat):100<=cst d:=by
 unfold cst
 have:(1:Int)<=7 ^ d:=by exact_mod_cast Nat.one_le_pow d 7 (by decide)
 lia
theorem cst_succ (d:Nat):cst (d+1)=7 * cst d:=by unfold cst;rw[Int.pow_succ];lia
theorem Ex.upd' {p c:Addr}{H H':Hp}{o:HO} (e:Ex p H H') (h:H c=none):Ex p H (upd H' c o):=fun b q n z=>by rw[upd_ne (ne_of_none z h)];exact e b q n z
theorem nd_of:∀ {l:List Str},(l.map Sum.inr:List Key).Nodup->l.Nodup
 | [],_=>.nil
 | a::l,h=>by
  rw[List.map_cons,List.nodup_cons]at h
  exact List.nodup_cons.mpr ⟨fun z=>h.1 (List.mem_map.mpr ⟨a,z,rfl⟩),nd_of h.2⟩
def GV (x:Val):Prop:=Gv (10 ^ 30) (10 ^ 31) x
section
variable {P:Program}{w:World}{K:PySem.W.Frag}{mg:Str->Option Value}{base:Heap}{f f_next f_name f_val:Addr}{fd fd_next fd_name fd_val:FuncData}
def spVal (d:Nat):Sp:=fun vs H Q _=>∃ (p:Addr) (n r:Int),vs=[.ref p,.int d]/\Dk H p n r/\0<=n/\n+cst d<1000000000000 /\
 ∀ (x:Val) (v:V) (H':Hp) (r':Int),Bd 6 d x->GV x->IsVal H' x v->Ex p H H'->Dk H' p (n+cst d) r'->(vsz x:Int)<=r-r'->(r<=1->r'=r-1)->(1<r->-(6 * (d:Int))<=r')->Q v H'
def spRow (d:Nat):Sp:=fun vs H Q _=>∃ (p:Addr) (n r:Int),vs=[.ref p,.int d]/\Dk H p n r/\1<=r/\0<=n/\n+(1+6 * (12+cst d))<1000000000000 /\
 ∀ (ps:List (Str×Val)) (v:V) (H':Hp) (r':Int),ps.length<=6->(∀ q∈ps,q.1.length<=9/\nmOk q.1/\Bd 6 d q.2/\GV q.2)->riseS (ps.map (·.1))->IsDt H' (.tup (datR ps)) v->Ex p H H'->Dk H' p (n+(1+6 * (12+cst d))) r'->(vszR ps:Int)<=r-r'->-(6 * (d:Int))-6<=r'->Q v H'
theorem Zbh:FnScope ["deck","deep","parts","k"] ["deck","deep"] (defScope (top 38)):=⟨rfl,rfl,rfl,by decide +kernel,rfl,by decide +kernel,by decide +kernel⟩
theorem ok_row {k d:Nat} (hk:4<=k) (T:Tx mg) (D:Df K mg "_law_row_parts" (top 38) f fd ["deck","deep"]) (Zaa:Df K mg "_law_next" (top 31) f_next fd_next ["deck","many"]) (Zac:FnOk P w K mg base CX0 1 f_next fd_next ["deck","many"] spNext)
  (Zal:Df K mg "_law_name" (top 34) f_name fd_name ["deck"]) (ZaB:FnOk P w K mg base CX0 2 f_name fd_name ["deck"] spName)
  (Zag:Df K mg "_law_value" (top 40) f_val fd_val ["deck","deep"]) (ZaY:FnOk P w K mg base CX0 k f_val fd_val ["deck","deep"] (spVal d)) :
  FnOk P w K mg base CX0 (k+1) f fd ["deck","deep"] (spRow d):=by
 refine D.fn.okH Zbh (fun vs H Q E h=>?_) (fun cdv A outer s H vs Q E hr h=>?_)
 ·obtain⟨p,n,r,rfl,_⟩:=h;rfl
 obtain⟨p,n,r,rfl,dk,hr1,n0,hn,fin⟩:=h
 have hu:=u110 hr
 have hu0:=u0 hr
 have hu1:=hu_of hr
 have hC0:=cst_pos d
 refine⟨_,(wss_cons (ws_set (i:=2) Zbh.nd rfl (Or.inr rfl) we_dnewK)
   (wss_cons (ws_for PassesOwn.never rfl (wi_range1 rfl T.z_range (wa_cons (we_ix (ix_U hu1) (we_lst (wa_consts rfl)) (we_call Zac (hr.mono (by lia)) rfl Zaa.mg Zaa.kp Zaa.b .nil pass0 (wa_cons (wv 0) (wa_cons we_int wa_nil))) (fun _ _=>rfl)) wa_nil)) (wg_name (i:=3) Zbh.nd rfl (Or.inl rfl)) (wss_one (ws_asg (we_call ZaY (hr.mono (by lia)) rfl Zag.mg Zag.kp Zag.b .nil pass0 (wa_cons (wv 0) (wa_cons (wv 1) wa_nil))) (wg_sub (wv 2) (we_call ZaB (hr.mono (by lia)) rfl Zal.mg Zal.kp Zal.b .nil pass0 (wa_cons (wv 0) wa_nil)) (set_U hu1)))))
   (wss_one (ws_ret (we_callTy call_tuple_of rfl T.z_tuple bt_tuple (wa_cons (we_lc (Nt:=["field"]) (fr:=[("parts",2)]) (LcOk.of (sc:=defScope (top 38)) (N:=["deck","deep","parts","k"]) rfl rfl (by decide +kernel)) rfl (wi_U (we_callB (call_sortD rfl) rfl T.z_sorted bt_sorted (wa_cons (wv 2) wa_nil))) (fun z=>wg_name (i:=0) (by show (["field","parts"]:List Str).Nodup;decide +kernel) rfl (Or.inl rfl) (.inr rfl)) (fun z=>tgt_name (by decide)) (fun z=>wif_nil) (fun z=>(we_tup (wa_cons (wv 0) (wa_cons (we_ix (ix_U hu1) (wv 1) (wv 0) (fun _ _=>rfl)) wa_nil))))) wa_nil)))))),?_⟩
 intro c hc
 refine⟨(by show 8<=sizeLine;decide),fun l hl=>?_⟩
 have ncp:c≠p:=dk.ne hc
 have dk0:=(dk.new (o:=.dK []) hc).new (o:=.lst [.int 0,.int 1,.int 2,.int 3,.int 1,.int 2,.int 6,.int 3]) hl
 have nl:l≠p:=(dk.new (o:=.dK []) hc).ne hl
 have ncl:c≠l:=fun z=>by rw[<- z,upd_same]at hl;cases hl
 refine⟨_,rfl,p,n,_,_,rfl,dk0,by lia,by decide,by decide,fun x H2 h0 h1 ex2 dk2=>?_⟩
 obtain⟨v,hv,hm⟩:=atI_mem (xs:=[V.int 0,.int 1,.int 2,.int 3,.int 1,.int 2,.int 6,.int 3]) h0 h1
 have fj:∃ j:Nat,v=.int j/\j<=6:=by
  simp only[List.mem_cons,List.not_mem_nil,or_false]at hm
  rcases hm with rfl | rfl | rfl | rfl | rfl | rfl | rfl | rfl
  ·exact⟨0,rfl,by decide⟩
  ·exact⟨1,rfl,by decide⟩
  ·exact⟨2,rfl,by decide⟩
  ·exact⟨3,rfl,by decide⟩
  ·exact⟨1,rfl,by decide⟩
  ·exact⟨2,rfl,by decide⟩
  ·exact⟨6,rfl,by decide⟩
  ·exact⟨3,rfl,by decide⟩
 obtain⟨j,rfl,hj⟩:=fj
 have mulC:∀ i:Nat,i<=6->(i:Int) * (12+cst d)<=6 * (12+cst d):=fun i hi=>Int.mul_le_mul_of_nonneg_right (by lia) (by lia)
 have mul0:∀ i:Nat,0<=(i:Int) * (12+cst d):=fun i=>Int.mul_nonneg (by lia) (by lia)
 refine .inl ⟨l,_,x,_,rfl,rfl,SqL.of (ex2 l _ nl upd_same),hv,j,rfl,by lia,by lia,for_range (n:=((j:Int)).toNat) (fun i σ H'=>∃ (o4:Option V) (kvs:List (Key×V)) (g:Key->Val) (q:Int),σ=[some (.ref p),some (.int d),some (.ref c),o4]/\Ex p H H'/\Dk H' p (n+1+i * (12+cst d)) q/\H' c=some (.dK kvs)/\kvs.length<=i/\(kvs.map (·.1)).Nodup/\(((kvs.map (·.1)).map fun j=>vsz (g j)).sum:Int)<=r-q/\-(6 * (d:Int))-i<=q/\∀ kv∈kvs,∃ s:Str,kv.1=Sum.inr s/\s.length<=9/\nmOk s/\(Bd 6 d (g kv.1)/\GV (g kv.1))/\IsDt H' (dat (g kv.1)) kv.2)
  ⟨none,[],fun _=>.num 0,r,rfl,(ex_new hc).trans ((ex_new hl).trans ex2),dk2.mono (by simp),ex2 c _ ncp (by rw[upd_ne ncl];exact upd_same),Nat.le_refl _,List.nodup_nil,by simp,by lia,fun kv h=>(nomatch h)⟩ ?_ ?_⟩
 ·rintro i σ H' hi ⟨o4,kvs,g,q,rfl,ex,dk',hkv,lk,nd,sz,lo,ak⟩
  have hi6:i+1<=6:=by lia
  have m1:=mulC (i+1) hi6
  have m0:=mul0 i
  have ms:((i+1:Nat):Int) * (12+cst d)=i * (12+cst d)+(12+cst d):=by rw[Int.natCast_add,Int.add_mul];simp
  refine⟨_,rfl,_,rfl,p,_,q,rfl,dk',by lia,by lia,fun x v H3 r' kb gb ix ex3 dk3 sz3 l1 l2=>⟨_,rfl,_,rfl,p,_,r',rfl,dk3,by lia,fun s H4 ls ll ex4 dk4=>?_⟩⟩
  have t2:=dk'.tups ex3
  have t3:=dk3.tups ex4
  have hc3:=ex4 c _ ncp (ex3 c _ ncp hkv)
  have tu:Tups H4 (upd H4 c (.dK (putK kvs (Sum.inr s) v))):=fun b ys e=>by rw[upd_ne (fun z=>by rw[z,hc3]at e;cases e)];exact e
  have lo':-(6 * (d:Int))-((i+1:Nat):Int)<=r':=by
   by_cases hq:q<=1
   ·have:=l1 hq;lia
   ·have:=l2 (by lia);lia
  have hsum:((((putK kvs (Sum.inr s) v).map (·.1)).map fun j=>vsz (gput g (Sum.inr s) x j)).sum:Int)<=r-r':=by
   rcases putK_cases kvs (Sum.inr s) v with ⟨_,e⟩ | ⟨h,e⟩
   ·rw[e]
    have:=sum_gput g (Sum.inr s) x nd
    lia
   ·rw[e,List.map_append,List.map_append,sum_gput_new g (Sum.inr s) x h,List.sum_append]
    have e3:gput g (Sum.inr s) x (Sum.inr s)=x:=if_pos rfl
    simp only[List.map_cons,List.map_nil,List.sum_cons,List.sum_nil,e3]
    lia
  have hnd:((putK kvs (Sum.inr s) v).map (·.1)).Nodup:=by
   rcases putK_cases kvs (Sum.inr s) v with ⟨_,e⟩ | ⟨h,e⟩
   ·rw[e];exact nd
   ·rw[e,List.map_append]
    refine List.nodup_append.mpr ⟨nd,by simp,fun a ha b hb=>?_⟩
    have:b=Sum.inr s:=by simpa using hb
    rw[this]
    exact fun z=>h (by rw[<- z];exact ha)
  refine .inr ⟨c,_,rfl,DPut.k (k:=Sum.inr s) hc3 (Nat.lt_of_le_of_lt (show kvs.length<=1000 by lia) (by decide)),?_⟩
  refine⟨_,_,gput g (Sum.inr s) x,r',rfl,(ex.trans (ex3.trans ex4)).upd' hc,(dk4.off (fun z=>ncp z.symm)).mono (by lia),upd_same,Nat.le_trans (length_putK _ _ _) (by lia),hnd,hsum,lo',fun kv hkv'=>?_⟩
  by_cases ek:kv.1=Sum.inr s
  ·have eg:gput g (Sum.inr s) x kv.1=x:=if_pos ek
   have ev:kv.2=v:=by
    have h1:=valV_put kvs (Sum.inr s) (Sum.inr s) v
    rw[if_pos rfl]at h1
    obtain⟨kv2,h2,h3,h4⟩:=valV_mem (kvs:=putK kvs (Sum.inr s) v) (k:=Sum.inr s) (List.mem_map.mpr ⟨kv,hkv',ek⟩)
    have e5:kv2=kv:=nd_inj hnd h2 hkv' (by rw[h3,ek])
    rw[h4,e5]at h1
    injection h1
   rw[eg,ev]
   exact⟨s,ek,ls,ll,⟨kb,gb⟩,IsDt.mono tu (IsDt.mono t3 ix)⟩
  ·have eg:gput g (Sum.inr s) x kv.1=g kv.1:=if_neg ek
   rcases put_mem hkv' with h | h
   ·obtain⟨s',e1,e2,e3,e4,e5⟩:=ak kv h
    rw[eg]
    exact⟨s',e1,e2,e3,e4,IsDt.mono tu (IsDt.mono t3 (IsDt.mono t2 e5))⟩
   ·exact absurd (by rw[h]) ek
 ·rintro σ H' ⟨o4,kvs,g,q,rfl,ex,dk',hkv,lk,nd,sz,lo,ak⟩
  have hj6:kvs.length<=6:=by lia
  refine .inl ⟨_,rfl,c,kvs,rfl,hkv,(fun kv h=>let ⟨s,e,_⟩:=ak kv h;⟨s,e⟩),by lia,fun a ys ha perm srt=>⟨a,rfl,⟨_,SqL.of upd_same⟩,?_⟩⟩
  have ly:ys.length=kvs.length:=by have:=perm.length_eq;simpa using this
  have sa:=same_new ha (.lst (ys.map V.str))
  have hA:(upd H' a (.lst (ys.map V.str))) a=some (.lst (ys.map V.str)):=upd_same
  generalize upd H' a (.lst (ys.map V.str))=HA at sa hA ⊢
  refine⟨fun i2 m2 zs H2=>Same HA H2/\m2+i2=ys.length/\IsDts H2 (datR ((ys.take i2).map fun y=>(y,g (Sum.inr y)))) zs,⟨ys.length,.refl _,rfl,by rw[List.take_zero,List.map_nil,datR];exact .nil⟩,?_⟩
  rintro i2 m2 zs H2 ⟨s2,hm2,iq⟩
  have nz:zs.length=min i2 ys.length:=by rw[iq.length,datR_map,List.length_map,List.length_map,List.length_take]
  refine⟨Nat.lt_of_le_of_lt (show zs.length<=1000 by lia) (by decide),?_⟩
  have hA2:=s2 _ _ hA
  by_cases hi2:i2<ys.length
  ·have hyi:(ys.map V.str)[i2]?=some (.str ys[i2]):=by rw[List.getElem?_map,List.getElem?_eq_getElem hi2];rfl
   refine .inr ⟨⟨_,_,SqL.of hA2,hyi⟩,fun z x H5 hy2=>?_⟩
   obtain⟨rfl,hx⟩:=hy2
   obtain rfl:V.str ys[i2]=x:=by have:=hx _ (SqL.of hA2);rw[hyi]at this;injection this
   obtain⟨kv,hkm,hk1,hk2⟩:=valV_mem (kvs:=kvs) (k:=Sum.inr ys[i2]) (perm.mem_iff.mp (List.mem_map.mpr ⟨_,List.getElem_mem hi2,rfl⟩))
   obtain⟨s',e1,e2,e3,e4,e5⟩:=ak kv hkm
   rw[hk1]at e5
   have gg:DGet H5 c (.str ys[i2]) (some kv.2):=by rw[<- hk2];exact DGet.k (k:=Sum.inr ys[i2]) (s2 _ _ (sa _ _ hkv))
   refine gall ?_
   refine⟨_,rfl,_,rfl,_,rfl,.inr (.inr (.inr ⟨c,_,rfl,gg,(by show 2<=sizeLine;decide),fun t ht=>?_⟩))⟩
   refine⟨m2-1,by lia,s2.trans (same_new ht _),by lia,?_⟩
   rw[List.take_add_one,List.getElem?_eq_getElem hi2,List.map_append,datR_map,List.map_append,<- datR_map]
   exact (IsDts.mono (same_new ht _).tups iq).append (.one (isDt_new ht (.cons (by rw[IsDt]) (.one (IsDt.mono (sa.trans s2).tups e5)))))
  ·refine .inl ⟨⟨_,SqL.of hA2,by rw[List.length_map];lia⟩,fun l2 hl2=>⟨l2,zs,rfl,.inl ⟨SqL.of upd_same,fun t ht=>?_⟩⟩⟩
   have mm:=mulC ((j:Int)).toNat (by lia)
   have sZ:=(sa.trans s2).trans ((same_new hl2 (.lst zs)).trans ((same_new ht (.tup zs))))
   rw[List.take_of_length_le (by lia)]at iq
   have esum:vszR (ys.map fun y=>(y,g (Sum.inr y)))=((kvs.map (·.1)).map fun j=>vsz (g j)).sum:=by
    rw[vszR_map,List.map_map,<- (perm.map fun j=>vsz (g j)).sum_nat,List.map_map]
    rfl
   have hrise:riseS ((ys.map fun y=>(y,g (Sum.inr y))).map (·.1)):=by
    rw[List.map_map,show ((fun x:Str×Val=>x.1) ∘ fun y=>(y,g (Sum.inr y)))=id from rfl,List.map_id]
    exact rise_of srt (by
     have h1:(ys.map Sum.inr:List Key).Nodup:=perm.nodup_iff.mpr nd
     exact nd_of h1)
   refine fin (ys.map fun y=>(y,g (Sum.inr y))) _ _ q (by rw[List.length_map];lia) ?_ hrise ?_ (ex.trans (fun b o nb z=>sZ b o z)) ((dk'.keep sZ).mono (by lia)) (by rw[esum];exact sz) (by lia)
   ·intro p' hp'
    obtain⟨y,hy,rfl⟩:=List.mem_map.mp hp'
    obtain⟨kv,hkm,hk1,hk2⟩:=valV_mem (kvs:=kvs) (k:=Sum.inr y) (perm.mem_iff.mp (List.mem_map.mpr ⟨_,hy,rfl⟩))
    obtain⟨s',e1,e2,e3,e4,e5⟩:=ak kv hkm
    have es:y=s':=by rw[hk1]at e1;injection e1
    rw[hk1]at e4
    exact⟨by rw[es];exact e2,by rw[es];exact e3,e4.1,e4.2⟩
   ·exact isDt_new ht (IsDts.mono (same_new hl2 _).tups iq)
end
end K05
end
section
namespace K05
open PySem L2 Kn
section
variable {P:Program}{w:World}{K:PySem.W.Frag}{mg:Str->Option Value}{base:Heap}{f f_next f_name f_num f_row f_count f_bag:Addr}{fd fd_next fd_name fd_num fd_row fd_count fd_bag:FuncData}
def pre (s:Nat->Sp):Nat->Sp
 | 0=>fun _ _ _ _=>False
 | d+1=>s d
theorem ZaZ:FnScope ["deck","deep","kind","pairs","k","value"] ["deck","deep"] (defScope (top 40)):=⟨rfl,rfl,rfl,by decide +kernel,rfl,by decide +kernel,by decide +kernel⟩
theorem ok_value {k d:Nat} (hk:4<=k) (hd:d<=20) (T:Tx mg) (Zag:Df K mg "_law_value" (top 40) f fd ["deck","deep"]) (ZaY:FnOk P w K mg base CX0 k f fd ["deck","deep"] (pre spVal d))
  (Zaa:Df K mg "_law_next" (top 31) f_next fd_next ["deck","many"]) (Zac:FnOk P w K mg base CX0 1 f_next fd_next ["deck","many"] spNext)
  (Zal:Df K mg "_law_name" (top 34) f_name fd_name ["deck"]) (ZaB:FnOk P w K mg base CX0 2 f_name fd_name ["deck"] spName)
  (Zak:Df K mg "_law_number" (top 33) f_num fd_num ["deck"]) (ZaH:FnOk P w K mg base CX0 3 f_num fd_num ["deck"] (spInt 6))
  (Zaq:Df K mg "_law_count" (top 39) f_count fd_count ["deck"]) (Za0:FnOk P w K mg base CX0 4 f_count fd_count ["deck"] (spInt 8))
  (Zar:Df K mg "_law_row_parts" (top 38) f_row fd_row ["deck","deep"]) (ZbP:FnOk P w K mg base CX0 k f_row fd_row ["deck","deep"] (pre spRow d))
  (Zas:Df K mg "_law_bag" (top 37) f_bag fd_bag ["pairs"]) (ZbQ:FnOk P w K mg base CX0 k f_bag fd_bag ["pairs"] (pre spBag d)) :
  FnOk P w K mg base CX0 (k+1) f fd ["deck","deep"] (spVal d):=by
 refine Zag.fn.okH ZaZ (fun vs H Q E h=>?_) (fun cdv A outer s H vs Q E hr h=>?_)
 ·obtain⟨p,n,r,rfl,_⟩:=h;rfl
 obtain⟨p,n,r,rfl,dk,n0,hn,fin⟩:=h
 have hu:=u110 hr
 have hu0:=u0 hr
 have hu1:=hu_of hr
 have hC:=cst_pos d
 refine⟨_,(wss_cons (ws_asg (we_op op_sub (we_ix (ix_U hu1) (wv 0) we_int (fun _ _=>rfl)) we_int) (wg_sub (wv 0) we_int (set_U hu1)))
   (wss_cons (ws_set (i:=2) ZaZ.nd rfl (Or.inl rfl) (we_call Zac (hr.mono (by lia)) rfl Zaa.mg Zaa.kp Zaa.b .nil pass0 (wa_cons (wv 0) (wa_cons we_int wa_nil))))
   (wss_cons (ws_if (wt_pw (ww_or (wt_cmpR (op_ltU hu0) (wv 1) we_int (nomark _)) (ww_or (wt_cmpR (op_ltU hu0) (we_ix (ix_U hu1) (wv 0) we_int (fun _ _=>rfl)) we_int (nomark _)) (ww_or1 (wt_cmpR (op_ltU hu0) (wv 2) we_int (nomark _)))))) (wss_one (ws_ret (we_tup (wa_cons we_str (wa_cons (we_call ZaH (hr.mono (by lia)) rfl Zak.mg Zak.kp Zak.b .nil pass0 (wa_cons (wv 0) wa_nil)) wa_nil))))) wss_nil)
   (wss_cons (ws_if (wt_cmpR (op_ltU hu0) (wv 2) we_int (nomark _)) (wss_one (ws_ret (we_tup (wa_cons we_str (wa_cons (we_call ZaB (hr.mono (by lia)) rfl Zal.mg Zal.kp Zal.b .nil pass0 (wa_cons (wv 0) wa_nil)) wa_nil))))) wss_nil)
   (wss_cons (ws_if (wt_cmpR (op_ltU hu0) (wv 2) we_int (nomark _)) (wss_one (ws_ret (we_tup (wa_cons we_str (wa_cons (we_call ZbP (hr.mono (by lia)) rfl Zar.mg Zar.kp Zar.b .nil pass0 (wa_cons (wv 0) (wa_cons (we_op op_sub (wv 1) we_int) wa_nil))) wa_nil))))) wss_nil)
   (wss_cons (ws_set (i:=3) ZaZ.nd rfl (Or.inl rfl) (we_lst wa_nil))
   (wss_cons (ws_for PassesOwn.never rfl (wi_range1 rfl T.z_range (wa_cons (we_ix (ix_U hu1) (we_lst (wa_consts rfl)) (we_call Zac (hr.mono (by lia)) rfl Zaa.mg Zaa.kp Zaa.b .nil pass0 (wa_cons (wv 0) (wa_cons we_int wa_nil))) (fun _ _=>rfl)) wa_nil)) (wg_name (i:=4) ZaZ.nd rfl (Or.inl rfl)) (wss_cons (ws_set (i:=5) ZaZ.nd rfl (Or.inl rfl) (we_call ZaY (hr.mono (by lia)) rfl Zag.mg Zag.kp Zag.b .nil pass0 (wa_cons (wv 0) (wa_cons (we_op op_sub (wv 1) we_int) wa_nil))))
   (wss_one (ws_expr (we_bm PySem.F.plainAttrs_list PySem.F.slot_list_append PySem.F.type_list_append mt_append (wv 3) (wa_cons (we_tup (wa_cons (wv 5) (wa_cons (we_call Za0 (hr.mono (by lia)) rfl Zaq.mg Zaq.kp Zaq.b .nil pass0 (wa_cons (wv 0) wa_nil)) wa_nil))) wa_nil))))))
   (wss_one (ws_ret (we_call ZbQ (hr.mono (by lia)) rfl Zas.mg Zas.kp Zas.b .nil pass0 (wa_cons (wv 3) wa_nil))))))))))),?_⟩
 obtain⟨c,f0,m,c0,hp,hm0,hmn⟩:=dk
 refine⟨_,rfl,.inl ⟨p,_,3,_,rfl,rfl,SqL.of hp,rfl,_,_,rfl,rfl,_,rfl,.inl ⟨p,_,3,3,rfl,rfl,hp,rfl,?_⟩⟩⟩
 have dkA:Dk (upd H p (.lst [.int c,.int f0,.int m,.int (r-1),.int c0])) p n (r-1):=⟨c,f0,m,c0,upd_same,hm0,hmn⟩
 refine⟨_,rfl,p,n,r-1,_,rfl,dkA,by lia,by decide,by decide,fun kd H1 k0 k1 ex1 dk1=>?_⟩
 have exA:Ex p H H1:=(ex_upd).trans ex1
 have numK:∀ (i:Int) (H2:Hp) (t:Addr),-(10 ^ 30)<i->i<10 ^ 30->Ex p H H2->Dk H2 p (n+1+6) (r-1)->H2 t=none->Q (.ref t) (upd H2 t (.tup [.str "num",.int i])):=fun i H2 t i0 i1 ex dk ht=>
  fin (.num i) _ _ (r-1) bd_num (by unfold GV;rw[Gv];lia) (by show IsDt _ (dat _) _;rw[dat_two];exact isDt_new ht (.cons (by rw[IsDt];rfl) (.one (by rw[restD,IsDt])))) (ex.trans (ex_new ht)) ((dk.new ht).mono (by lia)) (by rw[vsz];lia) (fun _=>rfl) (fun _=>by lia)
 refine⟨_,rfl,.inl ⟨_,_,rfl,rfl,_,rfl,?_⟩⟩
 refine ite2 (fun e1=>?_) (fun e1=>?_)
 ·refine iteT ?_
  exact⟨_,rfl,p,n+1,r-1,rfl,dk1,by lia,fun i H2 i0 i1 ex2 dk2=>⟨(by show 2<=sizeLine;decide),fun t ht=>numK i H2 t i0 i1 (exA.trans ex2) dk2 ht⟩⟩
 have d1:1<=d:=by have:¬((d:Int)<1):=fun z=>e1 (decide_eq_true z);lia
 obtain⟨c',f',m',c0',hp1,hm1,hmn1⟩:=id dk1
 refine⟨_,rfl,.inl ⟨p,_,3,_,rfl,rfl,SqL.of hp1,rfl,.inl ⟨_,_,rfl,rfl,_,rfl,?_⟩⟩⟩
 refine ite2 (fun e2=>?_) (fun e2=>?_)
 ·refine iteT ?_
  exact⟨_,rfl,p,n+1,r-1,rfl,dk1,by lia,fun i H2 i0 i1 ex2 dk2=>⟨(by show 2<=sizeLine;decide),fun t ht=>numK i H2 t i0 i1 (exA.trans ex2) dk2 ht⟩⟩
 refine⟨_,rfl,.inl ⟨_,_,rfl,rfl,_,rfl,?_⟩⟩
 refine ite2 (fun e3=>?_) (fun e3=>?_)
 ·exact⟨_,rfl,p,n+1,r-1,rfl,dk1,by lia,fun i H2 i0 i1 ex2 dk2=>⟨(by show 2<=sizeLine;decide),fun t ht=>numK i H2 t i0 i1 (exA.trans ex2) dk2 ht⟩⟩
 refine⟨_,rfl,.inl ⟨_,_,rfl,rfl,_,rfl,?_⟩⟩
 refine ite2 (fun e4=>?_) (fun e4=>?_)
 ·refine⟨_,rfl,p,n+1,r-1,rfl,dk1,by lia,fun z H2 lz ll ex2 dk2=>⟨(by show 2<=sizeLine;decide),fun t ht=>?_⟩⟩
  exact fin (.word z) _ _ (r-1) (bd_word (by lia)) (by unfold GV;rw[Gv];exact⟨ll,lz⟩) (by show IsDt _ (dat _) _;rw[dat_two];exact isDt_new ht (.cons (by rw[IsDt];rfl) (.one (by rw[restD,IsDt])))) (exA.trans (ex2.trans (ex_new ht))) ((dk2.new ht).mono (by lia)) (by rw[vsz];lia) (fun _=>rfl) (fun _=>by lia)
 have hr1:1<=r-1:=by have:¬(r-1<1):=fun z=>e2 (decide_eq_true z);lia
 cases d with
 | zero=>lia
 | succ d=>
 have hS:=cst_succ d
 have hC0:=cst_pos d
 have ed:((d+1:Nat):Int)-1=d:=by lia
 refine⟨_,rfl,.inl ⟨_,_,rfl,rfl,_,rfl,?_⟩⟩
 refine ite2 (fun e5=>?_) (fun e5=>?_)
 ·refine⟨_,rfl,_,rfl,_,_,rfl,rfl,p,n+1,r-1,(show [V.ref p,V.int (((d+1:Nat):Int)-1)]=[V.ref p,.int d] by rw[ed]),dk1,hr1,by lia,by lia,fun ps v H2 r' lp ap hrs ip ex2 dk2 sz2 lo2=>⟨(by show 2<=sizeLine;decide),fun t ht=>?_⟩⟩
  exact fin (.row ps) _ _ r' (by rw[Bd];exact⟨lp,fun q hq=>⟨by have:=(ap q hq).1;lia,(ap q hq).2.2.1⟩⟩) (by unfold GV;rw[Gv,GvR_mem];exact⟨hrs,fun q hq=>⟨(ap q hq).2.1,(ap q hq).1,(ap q hq).2.2.2⟩⟩) (by show IsDt _ (dat _) _;rw[dat_two];exact isDt_new ht (.cons (by rw[IsDt];rfl) (.one ip))) (exA.trans (ex2.trans (ex_new ht))) ((dk2.new ht).mono (by lia)) (by rw[vsz];lia) (fun z=>by lia) (fun z=>by lia)
 refine⟨(by show 0<=sizeLine;decide),fun lp hlp=>⟨(by show 8<=sizeLine;decide),fun l hl=>?_⟩⟩
 have nlp:lp≠p:=dk1.ne hlp
 have nll:l≠p:=(dk1.new (o:=.lst []) hlp).ne hl
 have npl:lp≠l:=fun z=>by rw[<- z,upd_same]at hl;cases hl
 have hlp0:H lp=none:=by
  cases e:H lp with
  | none=>rfl
  | some o=>rw[exA lp o nlp e]at hlp;cases hlp
 refine⟨_,rfl,p,n+1,r-1,_,rfl,(dk1.new hlp).new hl,by lia,by decide,by decide,fun r2 H2 h0 h1 ex2 dk2=>?_⟩
 obtain⟨v,hv,hm⟩:=atI_mem (xs:=[V.int 0,.int 1,.int 2,.int 3,.int 4,.int 1,.int 2,.int 6]) h0 h1
 have fj:∃ j:Nat,v=.int j/\j<=6:=by
  simp only[List.mem_cons,List.not_mem_nil,or_false]at hm
  rcases hm with rfl | rfl | rfl | rfl | rfl | rfl | rfl | rfl
  ·exact⟨0,rfl,by decide⟩
  ·exact⟨1,rfl,by decide⟩
  ·exact⟨2,rfl,by decide⟩
  ·exact⟨3,rfl,by decide⟩
  ·exact⟨4,rfl,by decide⟩
  ·exact⟨1,rfl,by decide⟩
  ·exact⟨2,rfl,by decide⟩
  ·exact⟨6,rfl,by decide⟩
 obtain⟨j,rfl,hj⟩:=fj
 have mulC:∀ i:Nat,i<=6->(i:Int) * (cst d+8)<=6 * (cst d+8):=fun i hi=>Int.mul_le_mul_of_nonneg_right (by lia) (by lia)
 have mul0:∀ i:Nat,0<=(i:Int) * (cst d+8):=fun i=>Int.mul_nonneg (by lia) (by lia)
 refine .inl ⟨l,_,r2,_,rfl,rfl,SqL.of (ex2 l _ nll upd_same),hv,j,rfl,by lia,by lia,for_range (n:=((j:Int)).toNat) (fun i σ H'=>∃ (o4 o5:Option V) (us:List V) (xs:List (Val×Int)) (qm:Int),σ=[some (.ref p),some (.int ((d+1:Nat):Int)),some (.int kd),some (.ref lp),o4,o5]/\Ex p H H'/\Dk H' p (n+2+i * (cst d+8)) qm/\H' lp=some (.lst us)/\IsDts H' (datB xs) us/\xs.length=i/\(vszB xs:Int)<=r-1-qm/\-(6 * (d:Int))-i<=qm/\∀ q∈xs,Bd 6 d q.1/\GV q.1/\q.2.natAbs<10 ^ 30)
  ⟨none,none,[],[],r-1,rfl,exA.trans ((ex_new hlp).trans ((ex_new hl).trans ex2)),dk2.mono (by simp;lia),ex2 lp _ nlp (by rw[upd_ne npl];exact upd_same),.nil,rfl,(by rw[vszB];lia),by lia,fun q h=>(nomatch h)⟩ ?_ ?_⟩
 ·rintro i σ H' hi ⟨o4,o5,us,xs,qm,rfl,ex,dk',hL,iu,lx,szx,lox,bx⟩
  have hi6:i+1<=6:=by lia
  have m1:=mulC (i+1) hi6
  have m0:=mul0 i
  have ms:((i+1:Nat):Int) * (cst d+8)=i * (cst d+8)+(cst d+8):=by rw[Int.natCast_add,Int.add_mul];simp
  refine⟨_,rfl,_,rfl,_,_,rfl,rfl,p,_,qm,(show [V.ref p,V.int (((d+1:Nat):Int)-1)]=[V.ref p,.int d] by rw[ed]),dk',by lia,by lia,fun x v H3 r' bx3 gx3 ix ex3 dk3 sz3 l1 l2=>?_⟩
  have nus:us.length=xs.length:=by rw[iu.length,datB_map,List.length_map]
  refine⟨_,rfl,.inl ⟨rfl,_,SqL.of (ex3 lp _ nlp hL)⟩,_,rfl,_,rfl,p,_,r',rfl,dk3,by lia,fun ci H4 i0 i1 ex4 dk4=>⟨(by show 2<=sizeLine;decide),fun t ht=>?_⟩⟩
  have hL4:=ex4 lp _ nlp (ex3 lp _ nlp hL)
  have hL5:(upd H4 t (.tup [v,.int ci])) lp=some (.lst us):=same_new ht _ _ _ hL4
  have t34:Tups H' H4:=fun b q e=>(dk3.tups ex4) b q ((dk'.tups ex3) b q e)
  have ix4:=IsDt.mono (dk3.tups ex4) ix
  have dv5:IsDt (upd H4 t (.tup [v,.int ci])) (.tup [dat x,.int ci]) (.ref t):=isDt_new ht (.cons ix4 (.one (by rw[IsDt])))
  have iu5:=IsDts.mono (same_new ht (.tup [v,.int ci])).tups (IsDts.mono t34 iu)
  have dk5:=dk4.new (o:=.tup [v,.int ci]) ht
  have ex5:Ex p H (upd H4 t (.tup [v,.int ci])):=(ex.trans (ex3.trans ex4)).trans (ex_new ht)
  generalize upd H4 t (.tup [v,.int ci])=H5 at hL5 dv5 iu5 dk5 ex5 ⊢
  refine⟨lp,us,_,rfl,rfl,hL5,Nat.lt_of_le_of_lt (show us.length<=1000 by lia) (by decide),?_⟩
  have t6:Tups H5 (upd H5 lp (.lst (us++[.ref t]))):=Tups.lst hL5
  have lo':-(6 * (d:Int))-((i+1:Nat):Int)<=r':=by
   by_cases hq:qm<=1
   ·have:=l1 hq;lia
   ·have:=l2 (by lia);lia
  have szA:vszB (xs++[(x,ci)])=vszB xs+vsz x:=by rw[vszB_map,List.map_append,List.sum_append,<- vszB_map];simp
  refine⟨_,_,us++[.ref t],xs++[(x,ci)],r',rfl,ex5.upd' hlp0,?_,upd_same,?_,by rw[List.length_append,lx];rfl,by rw[szA];lia,lo',?_⟩
  ·exact (dk5.off (fun z=>nlp z.symm)).mono (by lia)
  ·rw[datB_map,List.map_append,<- datB_map]
   exact (IsDts.mono t6 iu5).append (.one (IsDt.mono t6 dv5))
  ·intro q hq
   rcases List.mem_append.mp hq with h | h
   ·exact bx q h
   ·rw[List.mem_singleton.mp h];exact⟨bx3,gx3,by show ci.natAbs<10 ^ 30;lia⟩
 ·rintro σ H' ⟨o4,o5,us,xs,qm,rfl,ex,dk',hL,iu,lx,szx,lox,bx⟩
  have mm:=mulC ((j:Int)).toNat (by lia)
  refine⟨_,rfl,lp,us,xs,rfl,⟨_,hL,.inl rfl⟩,iu,by lia,fun q hq=>(bx q hq).1.mono (by decide),by lia,fun v H2 qs sH iv lq aq ib=>?_⟩
  have hsz:=bag_sz ib aq
  have hct:=bag_cnt (c:=10 ^ 30) ib fun q hq=>(bx q hq).2.2
  refine fin (.bag qs) v H2 qm (by rw[Bd];exact⟨by lia,fun q hq=>by obtain⟨r2,hr',e⟩:=aq q hq;rw[e];exact (bx r2 hr').1⟩) ?_ iv (ex.trans fun b q nb z=>sH b q z) ((dk'.keep sH).mono (by lia)) (by rw[vsz];lia) (fun z=>by lia) (fun z=>by lia)
  unfold GV
  rw[Gv,GvB_mem]
  refine⟨⟨ib.1,ib.2.1⟩,fun q hq=>?_⟩
  obtain⟨r2,hr',e⟩:=aq q hq
  have h1:=hct q hq
  have h2:xs.length * 10 ^ 30<=6 * 10 ^ 30:=Nat.mul_le_mul_right _ (by lia)
  exact⟨by rw[e];exact (bx r2 hr').2.1,by lia⟩
end
section
variable {P:Program}{w:World}{K:PySem.W.Frag}{mg:Str->Option Value}{base:Heap}{f f_next f_name f_num f_row f_count f_bag f_side f_pair:Addr}{fd fd_next fd_name fd_num fd_row fd_count fd_bag fd_side fd_pair:FuncData}
theorem value_all (T:Tx mg) (Zag:Df K mg "_law_value" (top 40) f fd ["deck","deep"])
  (Zaa:Df K mg "_law_next" (top 31) f_next fd_next ["deck","many"]) (Zac:FnOk P w K mg base CX0 1 f_next fd_next ["deck","many"] spNext)
  (Zal:Df K mg "_law_name" (top 34) f_name fd_name ["deck"]) (ZaB:FnOk P w K mg base CX0 2 f_name fd_name ["deck"] spName)
  (Zak:Df K mg "_law_number" (top 33) f_num fd_num ["deck"]) (ZaH:FnOk P w K mg base CX0 3 f_num fd_num ["deck"] (spInt 6))
  (Zaq:Df K mg "_law_count" (top 39) f_count fd_count ["deck"]) (Za0:FnOk P w K mg base CX0 4 f_count fd_count ["deck"] (spInt 8))
  (Zar:Df K mg "_law_row_parts" (top 38) f_row fd_row ["deck","deep"])
  (Zas:Df K mg "_law_bag" (top 37) f_bag fd_bag ["pairs"]) (Zaj:Df K mg "_law_side" (top 35) f_side fd_side ["one","other"]) (ZaA:Df K mg "_law_pair_side" (top 36) f_pair fd_pair ["word","a","b"]) :
  ∀ d:Nat,d<=20->FnOk P w K mg base CX0 (2 * d+5) f fd ["deck","deep"] (spVal d)
 | 0,h=>ok_value (k:=4) (by decide) h T Zag ⟨fun _ _ _ _ h=>h.elim,fun _ _ _ _ _ _ _ _ _ _ _ _ _ h=>h.elim⟩ Zaa Zac Zal ZaB Zak ZaH Zaq Za0
   Zar ⟨fun _ _ _ _ h=>h.elim,fun _ _ _ _ _ _ _ _ _ _ _ _ _ h=>h.elim⟩ Zas ⟨fun _ _ _ _ h=>h.elim,fun _ _ _ _ _ _ _ _ _ _ _ _ _ h=>h.elim⟩
 | d+1,h=>by
  have ih:=value_all T Zag Zaa Zac Zal ZaB Zak ZaH Zaq Za0 Zar Zas Zaj ZaA d (by lia)
  exact ok_value (k:=2 * d+6) (by lia) h T Zag (ih.mono (by lia)) Zaa Zac Zal ZaB Zak ZaH Zaq Za0
   Zar (ok_row (k:=2 * d+5) (by lia) T Zar Zaa Zac Zal ZaB Zag ih)
   Zas ((ok_bag (k:=2 * d+1) T Zas Zaj (side_all T Zaj ZaA d)).mono (by lia))
end
end K05
end
section
namespace K05
open PySem L2 Kn
theorem iteP {c A B:Prop} [Decidable c] (h:c) (x:A):if c then A else B:=by rw[if_pos h];exact x
theorem iteN {c A B:Prop} [Decidable c] (h:¬c) (x:B):if c then A else B:=by rw[if_neg h];exact x
theorem vne {a b:Str} (h:a≠b):¬(decide (V.str a=V.str b)=true):=fun z=>h (by have:=of_decide_eq_true z;injection this)
theorem tall {σ:St} {H:Hp}{A B:Hp->Prop} (h:A H):tAll σ H fun b H3=>if b=true then A H3 else B H3:=by
 show (if true=true then A H else B H)
 rw[if_pos rfl];exact h
theorem veq {a:V}:decide (a=a)=true:=decide_eq_true rfl
theorem n_wn:(Str.ofString "word")≠"num":=by decide +kernel
theorem n_rn:(Str.ofString "row")≠"num":=by decide +kernel
theorem n_rw:(Str.ofString "row")≠"word":=by decide +kernel
theorem n_bn:(Str.ofString "bag")≠"num":=by decide +kernel
theorem n_bw:(Str.ofString "bag")≠"word":=by decide +kernel
theorem n_br:(Str.ofString "bag")≠"row":=by decide +kernel
section
variable {H:Hp}{v:V}
theorem kd_two {z:Str}{d:Dt} (h:IsDt H (.tup [.str z,d]) v):∃ a u,v=.ref a/\H a=some (.tup [.str z,u])/\IsDt H d u:=by
 rw[IsDt]at h
 obtain⟨a,xs,rfl,h1,h2⟩:=h
 rw[IsDts]at h2
 obtain⟨y1,r1,rfl,h3,h4⟩:=h2
 rw[IsDts]at h4
 obtain⟨y2,r2,rfl,h5,h6⟩:=h4
 rw[IsDts]at h6
 subst h6
 rw[IsDt]at h3
 subst h3
 exact⟨a,y2,rfl,h1,h5⟩
theorem vl_num {n:Int} (h:IsDt H (dat (.num n)) v):∃ a,v=.ref a/\H a=some (.tup [.str "num",.int n]):=by
 rw[dat]at h
 obtain⟨a,u,rfl,h1,h2⟩:=kd_two h
 rw[IsDt]at h2
 subst h2
 exact⟨a,rfl,h1⟩
theorem vl_word {z:Str} (h:IsDt H (dat (.word z)) v):∃ a,v=.ref a/\H a=some (.tup [.str "word",.str z]):=by
 rw[dat]at h
 obtain⟨a,u,rfl,h1,h2⟩:=kd_two h
 rw[IsDt]at h2
 subst h2
 exact⟨a,rfl,h1⟩
theorem vl_row {ps:List (Str×Val)} (h:IsDt H (dat (.row ps)) v):∃ a b ys,v=.ref a/\H a=some (.tup [.str "row",.ref b])/\H b=some (.tup ys)/\IsDts H (datR ps) ys:=by
 rw[dat]at h
 obtain⟨a,u,rfl,h1,h2⟩:=kd_two h
 rw[IsDt]at h2
 obtain⟨b,ys,rfl,h3,h4⟩:=h2
 exact⟨a,b,ys,rfl,h1,h3,h4⟩
theorem vl_bag {ps:List (Val×Int)} (h:IsDt H (dat (.bag ps)) v):∃ a b ys,v=.ref a/\H a=some (.tup [.str "bag",.ref b])/\H b=some (.tup ys)/\IsDts H (datB ps) ys:=by
 rw[dat]at h
 obtain⟨a,u,rfl,h1,h2⟩:=kd_two h
 rw[IsDt]at h2
 obtain⟨b,ys,rfl,h3,h4⟩:=h2
 exact⟨a,b,ys,rfl,h1,h3,h4⟩
theorem vl_itemR {ps:List (Str×Val)}{ys:List V}{i:Nat}{y:V} (h:IsDts H (datR ps) ys) (e:ys[i]?=some y):∃ p c u,ps[i]?=some p/\y=.ref c/\H c=some (.tup [.str p.1,u])/\IsDt H (dat p.2) u:=by
 have hl:=h.length
 have hi:i<ys.length:=(List.getElem?_eq_some_iff.mp e).1
 have hp:i<ps.length:=by rw[datR_map,List.length_map]at hl;lia
 obtain⟨z,e1,d1⟩:=h.get (i:=i) (d:=.tup [.str ps[i].1,dat ps[i].2]) (by rw[datR_map,List.getElem?_map,List.getElem?_eq_getElem hp];rfl)
 rw[e]at e1
 cases e1
 obtain⟨c,u,e2,h1,h2⟩:=kd_two d1
 exact⟨ps[i],c,u,List.getElem?_eq_getElem hp,e2,h1,h2⟩
theorem vl_itemB {ps:List (Val×Int)}{ys:List V}{i:Nat}{y:V} (h:IsDts H (datB ps) ys) (e:ys[i]?=some y):∃ p c u,ps[i]?=some p/\y=.ref c/\H c=some (.tup [u,.int p.2])/\IsDt H (dat p.1) u:=by
 have hl:=h.length
 have hi:i<ys.length:=(List.getElem?_eq_some_iff.mp e).1
 have hp:i<ps.length:=by rw[datB_map,List.length_map]at hl;lia
 obtain⟨z,e1,d1⟩:=h.get (i:=i) (d:=.tup [dat ps[i].1,.int ps[i].2]) (by rw[datB_map,List.getElem?_map,List.getElem?_eq_getElem hp];rfl)
 rw[e]at e1
 cases e1
 obtain⟨c,u,n,e2,h1,h2,h3⟩:=dt_two d1
 rw[IsDt]at h3
 subst h3
 exact⟨ps[i],c,u,List.getElem?_eq_getElem hp,e2,h1,h2⟩
end
def pcR (p:Str×Val):List Nat:=p.1.cps.toList++(58::32::enc p.2)
theorem encRF (ps:List (Str×Val)):encR false ps=(ps.flatMap fun p=>[44,32]++pcR p)++[62]:=by
 induction ps with
 | nil=>rw[encR];rfl
 | cons p ps ih=>rw[encR,ih];simp [sepB,pcR]
theorem encRT (p:Str×Val) (ps:List (Str×Val)):encR true (p::ps)=pcR p++((ps.flatMap fun p=>[44,32]++pcR p)++[62]):=by
 rw[encR,encRF];simp [sepB,pcR]
theorem join_rowR {ps:List (Str×Val)}{ws:List Str} (h:ws.map (fun z=>z.cps.toList)=ps.map pcR):(Txt.join (Str.ofString ", ") ws).cps.toList++[62]=encR true ps:=by
 cases ps with
 | nil=>
  have:ws=[]:=by simpa using h
  subst this
  rw[join_nil,encR];rfl
 | cons p ps=>
  cases ws with
  | nil=>simp at h
  | cons z ws=>
   rw[List.map_cons,List.map_cons]at h
   injection h with h1 h2
   rw[join_cod,encRT,h1,s_cs,List.append_assoc]
   congr 2
   rw[<- List.flatMap_map (f:=fun z:Str=>z.cps.toList) (g:=fun q=>[44,32]++q),h2,List.flatMap_map]
theorem sum_rowR (ps:List (Str×Val)):(ps.map fun p=>(pcR p).length).sum+2 * ps.length+1=(encR false ps).length:=by
 induction ps with
 | nil=>rw[encR];rfl
 | cons p ps ih=>
  rw[encR,List.map_cons,List.sum_cons,List.length_cons]
  simp only[sepB,pcR,List.length_append,List.length_cons]at *
  have:(if false=true then ([]:List Nat) else [44,32]).length=2:=rfl
  lia
theorem sum_rowR2 {ps:List (Str×Val)}{ws:List Str} (h:ws.map (fun z=>z.cps.toList)=ps.map pcR):(ws.map (·.length)).sum=(ps.map fun p=>(pcR p).length).sum:=by
 have e:ws.map (·.length)=(ws.map (fun z=>z.cps.toList)).map List.length:=by rw[List.map_map];rfl
 rw[e,h,List.map_map];rfl
theorem encR_le (ps:List (Str×Val)):(encR false ps).length<=(encR true ps).length+2:=by
 cases ps with
 | nil=>rw[encR,encR];simp
 | cons p ps=>rw[encR,encR];simp [sepB]
def pcB (p:Val×Int):List Nat:=enc p.1++cn p.2
theorem encBF (ps:List (Val×Int)):encB false ps=(ps.flatMap fun p=>[44,32]++pcB p)++[125]:=by
 induction ps with
 | nil=>rw[encB];rfl
 | cons p ps ih=>rw[encB,ih];simp [sepB,pcB]
theorem encBT (p:Val×Int) (ps:List (Val×Int)):encB true (p::ps)=pcB p++((ps.flatMap fun p=>[44,32]++pcB p)++[125]):=by
 rw[encB,encBF];simp [sepB,pcB]
theorem join_rowB {ps:List (Val×Int)}{ws:List Str} (h:ws.map (fun z=>z.cps.toList)=ps.map pcB):(Txt.join (Str.ofString ", ") ws).cps.toList++[125]=encB true ps:=by
 cases ps with
 | nil=>
  have:ws=[]:=by simpa using h
  subst this
  rw[join_nil,encB];rfl
 | cons p ps=>
  cases ws with
  | nil=>simp at h
  | cons z ws=>
   rw[List.map_cons,List.map_cons]at h
   injection h with h1 h2
   rw[join_cod,encBT,h1,s_cs,List.append_assoc]
   congr 2
   rw[<- List.flatMap_map (f:=fun z:Str=>z.cps.toList) (g:=fun q=>[44,32]++q),h2,List.flatMap_map]
theorem sum_rowB (ps:List (Val×Int)):(ps.map fun p=>(pcB p).length).sum+2 * ps.length+1=(encB false ps).length:=by
 induction ps with
 | nil=>rw[encB];rfl
 | cons p ps ih=>
  rw[encB,List.map_cons,List.sum_cons,List.length_cons]
  simp only[sepB,pcB,List.length_append,List.length_cons]at *
  have:(if false=true then ([]:List Nat) else [44,32]).length=2:=rfl
  lia
theorem sum_rowB2 {ps:List (Val×Int)}{ws:List Str} (h:ws.map (fun z=>z.cps.toList)=ps.map pcB):(ws.map (·.length)).sum=(ps.map fun p=>(pcB p).length).sum:=by
 have e:ws.map (·.length)=(ws.map (fun z=>z.cps.toList)).map List.length:=by rw[List.map_map];rfl
 rw[e,h,List.map_map];rfl
theorem encB_le (ps:List (Val×Int)):(encB false ps).length<=(encB true ps).length+2:=by
 cases ps with
 | nil=>rw[encB,encB];simp
 | cons p ps=>rw[encB,encB];simp [sepB]
theorem mem_sum:∀ (l:List Nat),∀ n∈l,n<=l.sum:=by
 intro l
 induction l with
 | nil=>intro n h;cases h
 | cons m l ih=>
  intro n h
  rw[List.sum_cons]
  rcases List.mem_cons.mp h with h | h
  ·lia
  ·have:=ih n h;lia
section
variable {P:Program}{w:World}{K:PySem.W.Frag}{mg:Str->Option Value}{base:Heap}{f:Addr}{fd:FuncData}
theorem Za1:FnScope ["value","word","what","parts","k"] ["value"] (defScope (top 43)):=⟨rfl,rfl,rfl,by decide +kernel,rfl,by decide +kernel,by decide +kernel⟩
def spText (d:Nat):Sp:=fun vs H Q _=>∃ (v:V) (x:Val),vs=[v]/\IsDt H (dat x) v/\Bd 7 d x/\Gv (10 ^ 34) (10 ^ 34) x/\vsz x<=1000 /\
 ∀ (z:Str) (H':Hp),z.cps.toList=enc x->Same H H'->Q (.str z) H'
theorem ok_text {k d:Nat} (T:Tx mg) (Zad:Df K mg "_law_text" (top 43) f fd ["value"]) (Zat:FnOk P w K mg base CX0 k f fd ["value"] (pre spText d)):FnOk P w K mg base CX0 (k+1) f fd ["value"] (spText d):=by
 refine Zad.fn.okH Za1 (fun vs H Q E h=>?_) (fun cdv A outer s H vs Q E hr h=>?_)
 ·obtain⟨v,x,rfl,_⟩:=h;rfl
 obtain⟨v,x,rfl,hx,hd,hg,hz,q⟩:=h
 have hu:=u110 hr
 have hu0:=u0 hr
 have hu1:=hu_of hr
 have hlen:=enc_len hg
 refine⟨_,(wss_cons (ws_asg (wv 0) (wg_tup rfl (wgs_cons (wg_name (i:=1) Za1.nd rfl (Or.inl rfl)) (wgs_cons (wg_name (i:=2) Za1.nd rfl (Or.inl rfl)) wgs_nil))))
   (wss_cons (ws_if (wt_cmpR (op_eqU hu) (wv 1) we_str (nomark _)) (wss_one (ws_ret (we_callTy call_str_int rfl T.z_str bt_str (wa_cons (wv 2) wa_nil)))) wss_nil)
   (wss_cons (ws_if (wt_cmpR (op_eqU hu) (wv 1) we_str (nomark _)) (wss_one (ws_ret (we_op op_plus we_str (wv 2)))) wss_nil)
   (wss_cons (ws_if (wt_cmpR (op_eqU hu) (wv 1) we_str (nomark _)) (wss_one (ws_ret (we_op op_plus (we_op op_plus we_str (we_bm PySem.F.plainAttrs_str PySem.F.slot_str_join PySem.F.type_str_join mt_join we_str (wa_cons (we_lc (Nt:=["field","part"]) (fr:=[]) (LcOk.of (sc:=defScope (top 43)) (N:=["value","word","what","parts","k"]) rfl rfl (by decide +kernel)) rfl (wi_U (wv 2)) (fun z=>wg_tup rfl (wgs_cons (wg_name (i:=0) (by show (["field","part"]:List Str).Nodup;decide +kernel) rfl (Or.inl rfl) (.inr rfl)) (wgs_cons (wg_name (i:=1) (by show (["field","part"]:List Str).Nodup;decide +kernel) rfl (Or.inl rfl) (.inr rfl)) wgs_nil))) (fun z=>tgt_two (by decide) (by decide)) (fun z=>wif_nil) (fun z=>(we_op op_plus (we_op op_plus (wv 0) we_str) (we_call Zat (hr.mono (by lia)) rfl Zad.mg Zad.kp Zad.b .nil pass0 (wa_cons (wv 1) wa_nil))))) wa_nil))) we_str))) wss_nil)
   (wss_cons (ws_lc (j:=3) (hN:=Za1.nd) (hj:=rfl) (hy:=(Or.inl rfl)) (Nt:=["row","count"]) (fr:=[]) (LcOk.of (sc:=defScope (top 43)) (N:=["value","word","what","parts","k"]) rfl rfl (by decide +kernel)) rfl (wi_U (wv 2)) (fun z=>wg_tup rfl (wgs_cons (wg_name (i:=0) (by show (["row","count"]:List Str).Nodup;decide +kernel) rfl (Or.inl rfl) (.inr rfl)) (wgs_cons (wg_name (i:=1) (by show (["row","count"]:List Str).Nodup;decide +kernel) rfl (Or.inl rfl) (.inr rfl)) wgs_nil))) (fun z=>tgt_two (by decide) (by decide)) (fun z=>wif_nil) (fun z=>(we_call Zat (hr.mono (by lia)) rfl Zad.mg Zad.kp Zad.b .nil pass0 (wa_cons (wv 0) wa_nil))))
   (wss_cons (ws_for PassesOwn.never rfl (wi_range1 rfl T.z_range (wa_cons (we_callB call_lenU rfl T.z_len bt_len (wa_cons (wv 3) wa_nil)) wa_nil)) (wg_name (i:=4) Za1.nd rfl (Or.inl rfl)) (wss_one (ws_if (wt_cmpR (op_neU hu) (we_ix (ix_U hu1) (we_ix (ix_U hu1) (wv 2) (wv 4) (fun _ _=>rfl)) we_int (fun _ _=>rfl)) we_int (nomark _)) (wss_one (ws_asg (we_op op_plus (we_op op_plus (we_ix (ix_U hu1) (wv 3) (wv 4) (fun _ _=>rfl)) we_str) (we_callTy call_str_int rfl T.z_str bt_str (wa_cons (we_ix (ix_U hu1) (we_ix (ix_U hu1) (wv 2) (wv 4) (fun _ _=>rfl)) we_int (fun _ _=>rfl)) wa_nil))) (wg_sub (wv 3) (wv 4) (set_U hu1)))) wss_nil)))
   (wss_one (ws_ret (we_op op_plus (we_op op_plus we_str (we_bm PySem.F.plainAttrs_str PySem.F.slot_str_join PySem.F.type_str_join mt_join we_str (wa_cons (wv 3) wa_nil))) we_str))))))))),?_⟩
 cases x with
 | num n=>
  obtain⟨a,rfl,ha⟩:=vl_num hx
  rw[Gv]at hg
  refine⟨_,rfl,a,_,rfl,SqT.of ha,rfl,_,_,rfl,_,_,rfl,rfl,?_⟩
  refine⟨_,rfl,.inl ⟨rfl,_,rfl,iteP veq ?_⟩⟩
  exact⟨_,rfl,n,rfl,log_of hg,q _ H (by rw[enc];rfl) (.refl _)⟩
 | word z=>
  obtain⟨a,rfl,ha⟩:=vl_word hx
  rw[Gv]at hg
  refine⟨_,rfl,a,_,rfl,SqT.of ha,rfl,_,_,rfl,_,_,rfl,rfl,?_⟩
  refine⟨_,rfl,.inl ⟨rfl,_,rfl,iteN (vne n_wn) ?_⟩⟩
  refine⟨_,rfl,.inl ⟨rfl,_,rfl,iteP veq ?_⟩⟩
  have e1:(Str.ofString "'").length=1:=by decide +kernel
  exact⟨_,rfl,.inr (.inl ⟨_,_,rfl,rfl,by rw[e1];exact Nat.le_of_lt (line1 (by have:=hg.2;lia)),q _ H (by rw[cps_app,s_qu,enc];rfl) (.refl _)⟩)⟩
 | row ps=>
  obtain⟨a,b,ys,rfl,ha,hb,hys⟩:=vl_row hx
  refine⟨_,rfl,a,_,rfl,SqT.of ha,rfl,_,_,rfl,_,_,rfl,rfl,?_⟩
  refine⟨_,rfl,.inl ⟨rfl,_,rfl,iteN (vne n_rn) ?_⟩⟩
  refine⟨_,rfl,.inl ⟨rfl,_,rfl,iteN (vne n_rw) ?_⟩⟩
  refine⟨_,rfl,.inl ⟨rfl,_,rfl,iteP veq ?_⟩⟩
  have ly:ys.length=ps.length:=by rw[hys.length,datR_map,List.length_map]
  rw[Gv,GvR_mem]at hg
  replace hg:=hg.2
  have hps:∀ p∈ps,p.1.length<=9/\∃ d',d=d'+1/\Bd 7 d' p.2:=by
   cases d with
   | zero=>simp only[Bd]at hd;subst hd;intro p hp;cases hp
   | succ d=>simp only[Bd]at hd;exact fun p hp=>⟨(hg p hp).2.1,d,rfl,(hd.2 p hp).2⟩
  have hsp:∀ p∈ps,vsz p.2<=vszR ps:=fun p hp=>by rw[vszR_map];exact mem_sum _ _ (List.mem_map.mpr ⟨p,hp,rfl⟩)
  rw[vsz]at hz hlen
  rw[enc,List.length_cons]at hlen
  have hl2:=sum_rowR ps
  have hl3:=encR_le ps
  refine⟨rfl,.inr ⟨_,rfl,b,rfl,⟨ys,SqT.of hb⟩,?_⟩⟩
  refine⟨fun i2 m2 zs H2=>Same H H2/\m2+i2=ps.length/\∃ ws:List Str,zs=ws.map V.str/\ws.map (fun z=>z.cps.toList)=(ps.take i2).map pcR,⟨ps.length,.refl _,rfl,[],rfl,by rw[List.take_zero];rfl⟩,?_⟩
  rintro i2 m2 zs H2 ⟨s2,hm2,ws,rfl,ew⟩
  have lw:ws.length=min i2 ps.length:=by have:=congrArg List.length ew;simpa using this
  refine⟨line1 (by rw[List.length_map];lia),?_⟩
  have hb2:=s2 _ _ hb
  by_cases hi2:i2<ps.length
  ·have hyi:ys[i2]?=some ys[i2]:=List.getElem?_eq_getElem (by lia)
   refine .inr ⟨⟨_,_,SqT.of hb2,hyi⟩,fun z x H5 hy2=>?_⟩
   obtain⟨rfl,hx5⟩:=hy2
   obtain rfl:ys[i2]=x:=by have:=hx5 _ (SqT.of hb2);rw[hyi]at this;injection this
   obtain⟨p,c,u,hp,ey,hc,hu'⟩:=vl_itemR hys hyi
   rw[ey]
   have hpm:=List.mem_of_getElem? hp
   obtain⟨h9,d',rfl,hd'⟩:=hps p hpm
   have hs9:=hsp p hpm
   have hlp:=enc_len (hg p hpm).2.2
   refine⟨c,_,rfl,SqT.of (s2 _ _ hc),rfl,_,_,rfl,_,_,rfl,rfl,?_⟩
   refine tall ?_
   have e2:(Str.ofString ": ").length=2:=by decide +kernel
   refine⟨_,rfl,.inr (.inl ⟨_,_,rfl,rfl,by rw[e2];exact Nat.le_of_lt (line1 (by lia)),?_⟩)⟩
   refine⟨_,rfl,u,p.2,rfl,IsDt.mono s2.tups hu',hd',(hg p hpm).2.2,by lia,fun z5 H6 ez sH=>?_⟩
   have lz:z5.length=(enc p.2).length:=by rw[<- ez];rfl
   refine .inr (.inl ⟨_,_,rfl,rfl,by rw[len_app,e2];exact Nat.le_of_lt (line1 (by lia)),?_⟩)
   refine⟨m2-1,by lia,s2.trans sH,by lia,ws++[p.1++Str.ofString ": "++z5],by simp,?_⟩
   rw[List.take_add_one,hp,List.map_append,List.map_append,ew]
   congr 1
   show [(p.1++Str.ofString ": "++z5).cps.toList]=[pcR p]
   rw[cps_app,cps_app,s_co,ez]
   simp [pcR]
  ·refine .inl ⟨⟨_,SqT.of hb2,by lia⟩,fun l hl=>?_⟩
   rw[List.take_of_length_le (by lia)]at ew
   have e2:(Str.ofString ", ").length=2:=by decide +kernel
   have hsum:=sum_rowR2 ew
   have hj:=join_rowR ew
   refine⟨_,l,ws,rfl,rfl,SqL.of upd_same,by rw[e2,hsum,lw];lia,?_⟩
   have lj:(Txt.join (Str.ofString ", ") ws).length+1=(encR true ps).length:=by rw[<- hj,List.length_append];rfl
   generalize Txt.join (Str.ofString ", ") ws=tx at hj lj ⊢
   have e3:(Str.ofString "<").length=1:=by decide +kernel
   have e4:(Str.ofString ">").length=1:=by decide +kernel
   refine .inr (.inl ⟨_,_,rfl,rfl,by rw[e3];exact Nat.le_of_lt (line1 (by lia)),.inr (.inl ⟨_,_,rfl,rfl,by rw[len_app,e3,e4];exact Nat.le_of_lt (line1 (by lia)),?_⟩)⟩)
   refine q _ _ ?_ (s2.trans (same_new hl _))
   rw[cps_app,cps_app,s_lt,s_gt,enc,<- hj]
   simp
 | bag ps=>
  obtain⟨a,b,ys,rfl,ha,hb,hys⟩:=vl_bag hx
  refine⟨_,rfl,a,_,rfl,SqT.of ha,rfl,_,_,rfl,_,_,rfl,rfl,?_⟩
  refine⟨_,rfl,.inl ⟨rfl,_,rfl,iteN (vne n_bn) ?_⟩⟩
  refine⟨_,rfl,.inl ⟨rfl,_,rfl,iteN (vne n_bw) ?_⟩⟩
  refine⟨_,rfl,.inl ⟨rfl,_,rfl,iteN (vne n_br) ?_⟩⟩
  have ly:ys.length=ps.length:=by rw[hys.length,datB_map,List.length_map]
  rw[Gv,GvB_mem]at hg
  replace hg:=hg.2
  have hps:∀ p∈ps,∃ d',d=d'+1/\Bd 7 d' p.1:=by
   cases d with
   | zero=>simp only[Bd]at hd;subst hd;intro p hp;cases hp
   | succ d=>simp only[Bd]at hd;exact fun p hp=>⟨d,rfl,hd.2 p hp⟩
  have hsp:∀ p∈ps,vsz p.1<=vszB ps:=fun p hp=>by rw[vszB_map];exact mem_sum _ _ (List.mem_map.mpr ⟨p,hp,rfl⟩)
  rw[vsz]at hz hlen
  rw[enc,List.length_cons]at hlen
  have hl2:=sum_rowB ps
  have hl3:=encB_le ps
  refine .inr ⟨_,rfl,b,rfl,⟨ys,SqT.of hb⟩,?_⟩
  refine⟨fun i2 m2 zs H2=>Same H H2/\m2+i2=ps.length/\∃ ws:List Str,zs=ws.map V.str/\ws.map (fun z=>z.cps.toList)=(ps.take i2).map fun p=>enc p.1,⟨ps.length,.refl _,rfl,[],rfl,by rw[List.take_zero];rfl⟩,?_⟩
  rintro i2 m2 zs H2 ⟨s2,hm2,ws,rfl,ew⟩
  have lw:ws.length=min i2 ps.length:=by have:=congrArg List.length ew;simpa using this
  refine⟨line1 (by rw[List.length_map];lia),?_⟩
  have hb2:=s2 _ _ hb
  by_cases hi2:i2<ps.length
  ·have hyi:ys[i2]?=some ys[i2]:=List.getElem?_eq_getElem (by lia)
   refine .inr ⟨⟨_,_,SqT.of hb2,hyi⟩,fun z x H5 hy2=>?_⟩
   obtain⟨rfl,hx5⟩:=hy2
   obtain rfl:ys[i2]=x:=by have:=hx5 _ (SqT.of hb2);rw[hyi]at this;injection this
   obtain⟨p,c,u,hp,ey,hc,hu'⟩:=vl_itemB hys hyi
   rw[ey]
   have hpm:=List.mem_of_getElem? hp
   obtain⟨d',rfl,hd'⟩:=hps p hpm
   have hs9:=hsp p hpm
   refine⟨c,_,rfl,SqT.of (s2 _ _ hc),rfl,_,_,rfl,_,_,rfl,rfl,?_⟩
   refine tall ?_
   refine⟨_,rfl,u,p.1,rfl,IsDt.mono s2.tups hu',hd',(hg p hpm).1,by lia,fun z5 H6 ez sH=>?_⟩
   refine⟨m2-1,by lia,s2.trans sH,by lia,ws++[z5],by simp,?_⟩
   rw[List.take_add_one,hp,List.map_append,List.map_append,ew]
   congr 1
   show [z5.cps.toList]=[enc p.1]
   rw[ez]
  ·refine .inl ⟨⟨_,SqT.of hb2,by lia⟩,fun l hl=>?_⟩
   rw[List.take_of_length_le (by lia)]at ew
   have lw2:ws.length=ps.length:=by lia
   have sL:=s2.trans (same_new hl (.lst (ws.map V.str)))
   have hL:(upd H2 l (.lst (ws.map V.str))) l=some (.lst (ws.map V.str)):=upd_same
   have hl0:H l=none:=by
    cases e':H l with
    | none=>rfl
    | some o=>rw[s2 _ _ e']at hl;cases hl
   generalize upd H2 l (.lst (ws.map V.str))=HL at sL hL ⊢
   refine⟨_,rfl,.inl ⟨l,_,rfl,.inl (SqL.of hL),(ws.map V.str).length,rfl,by lia,by rw[List.length_map];lia,?_⟩⟩
   refine for_range (n:=(((ws.map V.str).length:Nat):Int).toNat) (fun i σ H'=>∃ (us:List Str) (o:Option V),σ=[some (.ref a),some (.str "bag"),some (.ref b),some (.ref l),o]/\Same H H'/\H' l=some (.lst (us.map V.str))/\us.map (fun z=>z.cps.toList)=(ps.take i).map pcB++(ps.drop i).map fun p=>enc p.1)
    ⟨ws,none,rfl,sL,hL,by rw[List.take_zero,List.drop_zero,ew];rfl⟩ ?turn ?done
   case turn=>
    rintro i σ H' hi ⟨us,o,rfl,sH,hU,eu⟩
    have hi':i<ps.length:=by rw[List.length_map]at hi;lia
    have lu:us.length=ps.length:=by
     have:=congrArg List.length eu
     rw[List.length_map,List.length_append,List.length_map,List.length_map,List.length_take,List.length_drop]at this
     lia
    have hyi:ys[i]?=some ys[i]:=List.getElem?_eq_getElem (by lia)
    obtain⟨p,c,u,hp,ey,hc,hu'⟩:=vl_itemB hys hyi
    have hpm:=List.mem_of_getElem? hp
    have hpi:ps[i]=p:=by rw[List.getElem?_eq_getElem hi']at hp;injection hp
    have at1:atI ys (0+(i:Int))=some (.ref c):=by rw[Int.zero_add];exact atI_nat (by rw[hyi,ey])
    have hui:us[i]?=some us[i]:=List.getElem?_eq_getElem (by lia)
    have at2:atI (us.map V.str) (0+(i:Int))=some (.str us[i]):=by rw[Int.zero_add];exact atI_nat (by rw[List.getElem?_map,hui];rfl)
    have eui:us[i].cps.toList=enc p.1:=by
     have h1:=congrArg (fun l=>l[i]?) eu
     simp only[List.getElem?_map,hui]at h1
     rw[List.getElem?_append_right (by rw[List.length_map,List.length_take];lia),List.length_map,List.length_take,List.getElem?_map,List.getElem?_drop,Nat.min_eq_left (by lia),Nat.sub_self,Nat.add_zero,hp]at h1
     injection h1
    have lui:us[i].length=(enc p.1).length:=by rw[<- eui];rfl
    have hcp:=(hg p hpm).2
    have hep:=enc_len (hg p hpm).1
    have hs9:=hsp p hpm
    have hdl:=dg_len hcp
    have hdl':(Str.ofString (toString p.2)).length<=35:=hdl
    have split1:(ps.take (i+1)).map pcB=(ps.take i).map pcB++[pcB p]:=by rw[List.take_add_one,hp,List.map_append];rfl
    have split2:(ps.drop i).map (fun p=>enc p.1)=enc p.1::(ps.drop (i+1)).map fun p=>enc p.1:=by rw[List.drop_eq_getElem_cons hi',hpi,List.map_cons]
    refine⟨_,rfl,_,rfl,.inr (.inl ⟨b,ys,_,_,rfl,rfl,SqT.of (sH _ _ hb),at1,.inr (.inl ⟨c,_,1,_,rfl,rfl,SqT.of (sH _ _ hc),rfl,.inl ⟨rfl,_,rfl,?_⟩⟩)⟩)⟩
    refine ite2 (fun e=>?_) (fun e=>?_)
    ·have e1:¬p.2=1:=fun z=>by rw[z]at e;revert e;decide
     have e3:(Str.ofString " * ").length=3:=by decide +kernel
     refine⟨_,rfl,_,rfl,.inl ⟨l,_,_,_,rfl,rfl,SqL.of hU,at2,.inr (.inl ⟨_,_,rfl,rfl,by rw[e3];exact Nat.le_of_lt (line1 (by lia)),?_⟩)⟩⟩
     refine⟨_,rfl,_,rfl,.inr (.inl ⟨b,ys,_,_,rfl,rfl,SqT.of (sH _ _ hb),at1,.inr (.inl ⟨c,_,1,_,rfl,rfl,SqT.of (sH _ _ hc),rfl,p.2,rfl,log_of hcp,?_⟩)⟩)⟩
     refine .inr (.inl ⟨_,_,rfl,rfl,by rw[len_app,e3];exact Nat.le_of_lt (line1 (by lia)),?_⟩)
     have ix:ixN (us.map V.str).length (0+(i:Int))=some i:=by rw[Int.zero_add];exact ixN_nat (by rw[List.length_map];lia)
     refine⟨_,rfl,_,rfl,.inl ⟨l,_,_,i,rfl,rfl,hU,ix,?_⟩⟩
     refine⟨us.set i (us[i]++Str.ofString " * "++Str.ofString (toString p.2)),_,rfl,fun d od e=>by rw[upd_ne (ne_of_none e hl0)];exact sH d od e,by rw[upd_same,List.map_set],?_⟩
     rw[List.map_set,eu,split2]
     have lt:((ps.take i).map pcB).length=i:=by rw[List.length_map,List.length_take];lia
     have eset:∀ (A B:List (List Nat)) (x y:List Nat),A.length=i->(A++x::B).set i y=A++y::B:=fun A B x y h=>by
      rw[List.set_append_right _ _ (by lia),h,Nat.sub_self];rfl
     rw[eset _ _ _ _ lt,split1,List.append_assoc]
     congr 2
     rw[cps_app,cps_app,eui,s_st]
     show enc p.1++[32,42,32]++dg p.2=enc p.1++cn p.2
     unfold cn
     rw[if_neg e1]
     simp
    ·have e1:p.2=1:=Classical.byContradiction fun z=>e (by rw[decide_eq_false (fun w=>z (by injection w))];rfl)
     refine⟨us,_,rfl,sH,hU,?_⟩
     rw[eu,split2,split1,List.append_assoc]
     congr 2
     show enc p.1=enc p.1++cn p.2
     unfold cn
     rw[if_pos e1,List.append_nil]
   case done=>
    rintro σ H' ⟨us,o,rfl,sH,hU,eu⟩
    have en:(((ws.map V.str).length:Nat):Int).toNat=ps.length:=by rw[List.length_map];lia
    rw[en,List.take_length,List.drop_length,List.map_nil,List.append_nil]at eu
    have lu:us.length=ps.length:=by have:=congrArg List.length eu;simpa using this
    have e2:(Str.ofString ", ").length=2:=by decide +kernel
    have hsum:=sum_rowB2 eu
    have hj:=join_rowB eu
    refine⟨rfl,_,rfl,_,l,us,rfl,rfl,SqL.of hU,by rw[e2,hsum,lu];lia,?_⟩
    have lj:(Txt.join (Str.ofString ", ") us).length+1=(encB true ps).length:=by rw[<- hj,List.length_append];rfl
    generalize Txt.join (Str.ofString ", ") us=tx at hj lj ⊢
    have e3:(Str.ofString "{").length=1:=by decide +kernel
    have e4:(Str.ofString "}").length=1:=by decide +kernel
    refine .inr (.inl ⟨_,_,rfl,rfl,by rw[e3];exact Nat.le_of_lt (line1 (by lia)),.inr (.inl ⟨_,_,rfl,rfl,by rw[len_app,e3,e4];exact Nat.le_of_lt (line1 (by lia)),?_⟩)⟩)
    refine q _ _ ?_ sH
    rw[cps_app,cps_app,s_lb,s_rb,enc,<- hj]
    simp
theorem text_all (T:Tx mg) (Zad:Df K mg "_law_text" (top 43) f fd ["value"]):∀ d:Nat,FnOk P w K mg base CX0 (d+1) f fd ["value"] (spText d)
 | 0=>ok_text (k:=0) T Zad ⟨fun _ _ _ _ h=>h.elim,fun _ _ _ _ _ _ _ _ _ _ _ _ _ h=>h.elim⟩
 | d+1=>ok_text (k:=d+1) T Zad (text_all T Zad d)
end
end K05
end
section
namespace K05
open PySem L2 Kn
section
variable {P:Program}{w:World}{K:PySem.W.Frag}{mg:Str->Option Value}{base:Heap}{f f_parts f_unf f_key aR:Addr}{fd fd_parts fd_unf fd_key:FuncData}{tG tE:Tok}
theorem Zbi:FnScope ["value","parts","pair"] ["value"] (defScope (top 17)):=⟨rfl,rfl,rfl,by decide +kernel,rfl,by decide +kernel,by decide +kernel⟩
def spParts:Sp:=fun vs H Q _=>∃ (v:V) (x:Val),vs=[v]/\IsVal H x v/\(pts x).length<=10000000 /\
 ∀ (p:Addr) (us:List V) (H':Hp),Same H H'->H p=none->H' p=some (.lst us)->IsPts H' (pts x) us->Q (.ref p) H'
theorem isPts_R {H:Hp}:∀ {ps:List (Str×Val)}{ys:List V}{i:Nat}{y:V},IsDts H (datR ps) ys->ys[i]?=some y->∃ f x c w,ps[i]?=some (f,x)/\y=.ref c/\H c=some (.tup [.str f,w])/\IsVal H x w:=fun {ps ys i y} h e=>by
 have hl:=h.length
 have hi:i<ys.length:=(List.getElem?_eq_some_iff.mp e).1
 have hp:i<ps.length:=by rw[datR_map,List.length_map]at hl;lia
 obtain⟨z,e1,d1⟩:=h.get (i:=i) (d:=.tup [.str ps[i].1,dat ps[i].2]) (by rw[datR_map,List.getElem?_map,List.getElem?_eq_getElem hp];rfl)
 rw[e]at e1
 cases e1
 rw[IsDt]at d1
 obtain⟨c,xs,rfl,h1,h2⟩:=d1
 rw[IsDts]at h2
 obtain⟨y1,r1,rfl,h3,h4⟩:=h2
 rw[IsDts]at h4
 obtain⟨y2,r2,rfl,h5,h6⟩:=h4
 rw[IsDts]at h6
 subst h6
 rw[IsDt]at h3
 subst h3
 exact⟨ps[i].1,ps[i].2,c,y2,List.getElem?_eq_getElem hp,rfl,h1,h5⟩
theorem isPts_B {H:Hp}:∀ {ps:List (Val×Int)}{ys:List V}{i:Nat}{y:V},IsDts H (datB ps) ys->ys[i]?=some y->∃ x n c w,ps[i]?=some (x,n)/\y=.ref c/\H c=some (.tup [w,.int n])/\IsVal H x w:=fun {ps ys i y} h e=>by
 have hl:=h.length
 have hi:i<ys.length:=(List.getElem?_eq_some_iff.mp e).1
 have hp:i<ps.length:=by rw[datB_map,List.length_map]at hl;lia
 obtain⟨z,e1,d1⟩:=h.get (i:=i) (d:=.tup [dat ps[i].1,.int ps[i].2]) (by rw[datB_map,List.getElem?_map,List.getElem?_eq_getElem hp];rfl)
 rw[e]at e1
 cases e1
 rw[IsDt]at d1
 obtain⟨c,xs,rfl,h1,h2⟩:=d1
 rw[IsDts]at h2
 obtain⟨y1,r1,rfl,h3,h4⟩:=h2
 rw[IsDts]at h4
 obtain⟨y2,r2,rfl,h5,h6⟩:=h4
 rw[IsDts]at h6
 subst h6
 rw[IsDt]at h5
 subst h5
 exact⟨ps[i].1,ps[i].2,c,y1,List.getElem?_eq_getElem hp,rfl,h1,h3⟩
def ptsR0 (ps:List (Str×Val)):List Pt:=ps.flatMap fun p=>[.k (.i 1),.k (.s p.1),.v p.2]
def ptsB0 (ps:List (Val×Int)):List Pt:=ps.flatMap fun p=>[.k (.i 1),.v p.1,.k (.i p.2)]
theorem ptsR_eq (ps:List (Str×Val)):ptsR ps=ptsR0 ps++[.k (.i 0)]:=by
 induction ps with
 | nil=>rw[ptsR];rfl
 | cons p ps ih=>rw[ptsR,ih];rfl
theorem ptsB_eq (ps:List (Val×Int)):ptsB ps=ptsB0 ps++[.k (.i 0)]:=by
 induction ps with
 | nil=>rw[ptsB];rfl
 | cons p ps ih=>rw[ptsB,ih];rfl
theorem flat_range {α:Type} (h:α->List Pt) (ps:List α):ps.flatMap h=(List.range ps.length).flatMap fun i=>((ps[i]?).map h).getD []:=by
 have key:∀ n,n<=ps.length->(ps.take n).flatMap h=(List.range n).flatMap fun i=>((ps[i]?).map h).getD []:=by
  intro n
  induction n with
  | zero=>intro _;rfl
  | succ n ih=>
   intro hn
   rw[List.take_add_one,List.flatMap_append,ih (by lia),List.range_succ,List.flatMap_append,List.getElem?_eq_getElem (by lia:n<ps.length)]
   simp [List.getElem?_eq_getElem (by lia:n<ps.length)]
 have:=key ps.length (Nat.le_refl _)
 rw[List.take_length]at this
 exact this
theorem ok_parts (T:Tx mg) (D:Df K mg "order_parts" (top 17) f fd ["value"]) (ZbR:mg "RANKS"=some (.ref aR)) (ZbS:mg "GOES_ON"=some (.int 1 tG)) (ZbT:mg "ENDS"=some (.int 0 tE))
  (ZbU:∀ X:Cx,X.K=K->X.w=w->X.A.units+1<cLine->IxR X (rRank aR)):FnOk P w K mg base CX0 1 f fd ["value"] spParts:=by
 refine D.fn.okH Zbi (fun vs H Q E h=>?_) (fun cdv A outer s H vs Q E hr h=>?_)
 ·obtain⟨v,x,rfl,_⟩:=h;rfl
 obtain⟨v,x,rfl,hx,hlen,q⟩:=h
 have hu:=u110 hr
 have hu0:=u0 hr
 have hu1:=hu_of hr
 refine⟨_,(wss_cons (ws_set (i:=1) Zbi.nd rfl (Or.inl rfl) (we_lst (wa_cons (we_ix (ZbU _ rfl rfl hu1) (we_glob rfl ZbR (relv_ref _)) (we_ix (ix_U hu1) (wv 0) we_int (fun _ _=>rfl)) (fun _ _=>rfl)) wa_nil)))
   (wss_cons (ws_if (wt_cmpR (op_inU hu) (we_ix (ix_U hu1) (wv 0) we_int (fun _ _=>rfl)) (we_tup (wa_consts rfl)) (by with_unfolding_all rfl)) (wss_one (ws_ret (we_op op_plus (wv 1) (we_lst (wa_cons (we_ix (ix_U hu1) (wv 0) we_int (fun _ _=>rfl)) wa_nil))))) wss_nil)
   (wss_cons (ws_for PassesOwn.never rfl (wi_U (we_ix (ix_U hu1) (wv 0) we_int (fun _ _=>rfl))) (wg_name (i:=2) Zbi.nd rfl (Or.inl rfl)) (wss_one (ws_expr (we_bm PySem.F.plainAttrs_list PySem.F.slot_list_extend PySem.F.type_list_extend mt_extend (wv 1) (wa_cons (we_lst (wa_cons (we_glob rfl ZbS (relv_int _ _)) (wa_cons (we_ix (ix_U hu1) (wv 2) we_int (fun _ _=>rfl)) (wa_cons (we_ix (ix_U hu1) (wv 2) we_int (fun _ _=>rfl)) wa_nil)))) wa_nil)))))
   (wss_one (ws_ret (we_op op_plus (wv 1) (we_lst (wa_cons (we_glob rfl ZbT (relv_int _ _)) wa_nil)))))))),?_⟩
 obtain⟨a,y,rfl,ha,hy⟩:=hx.two
 refine⟨_,rfl,.inr (.inl ⟨a,_,0,_,rfl,rfl,SqT.of ha,rfl,_,_,rfl,rfl,rank_tag x,(by show 1<=sizeLine;decide),fun p hp=>?_⟩)⟩
 have s1:Same H (upd H p (.lst [.int (rank x)])):=same_new hp _
 have ha1:=s1 _ _ ha
 refine⟨_,rfl,.inr (.inl ⟨a,_,0,_,rfl,rfl,SqT.of ha1,rfl,(by show 2<=sizeLine;decide),fun c hc=>?_⟩)⟩
 have s2:Same H (upd (upd H p (.lst [.int (rank x)])) c (.tup [.str "num",.str "word"])):=s1.trans (same_new hc _)
 have ha2:=s2 _ _ ha
 have hpc:p≠c:=fun z=>by subst z;rw[upd_same]at hc;cases hc
 have hp2:(upd (upd H p (.lst [.int (rank x)])) c (.tup [.str "num",.str "word"])) p=some (.lst [.int (rank x)]):=by rw[upd_ne hpc];exact upd_same
 generalize hH2:upd (upd H p (.lst [.int (rank x)])) c (.tup [.str "num",.str "word"])=H2 at s2 ha2 hp2 ⊢
 refine .inl ⟨c,[.str "num",.str "word"],rfl,.inr (SqT.of (by rw[<- hH2];exact upd_same)),rfl,rfl,_,rfl,?_⟩
 have t2:Tups H H2:=s2.tups
 -- a number,a word
 refine ite2 (fun hin0=>?_) (fun hin0=>?_)
 ·have hin:inV (V.str (tagS x)) [.str "num",.str "word"]=true:=hin0
  obtain⟨z,e1,e2⟩:∃ z:KE,pts x=[.k (.i (rank x)),.k z]/\y=kv z:=by
   cases x with
   | num i=>exact⟨.i i,by rw[pts];rfl,by rw[restD,IsDt]at hy;exact hy⟩
   | word i=>exact⟨.s i,by rw[pts];rfl,by rw[restD,IsDt]at hy;exact hy⟩
   | row ps=>exact absurd (show inV (V.str "row") [.str "num",.str "word"]=true from hin) (by decide +kernel)
   | bag ps=>exact absurd (show inV (V.str "bag") [.str "num",.str "word"]=true from hin) (by decide +kernel)
  refine⟨_,rfl,_,rfl,.inr (.inl ⟨a,_,1,_,rfl,rfl,SqT.of ha2,rfl,(by show 1<=sizeLine;decide),fun l hl=>?_⟩)⟩
  have hl2:(upd H2 l (.lst [y])) p=some (.lst [.int (rank x)]):=by rw[upd_ne (ne_of_none hp2 hl)];exact hp2
  refine .inr (.inr (.inl ⟨p,l,_,_,rfl,rfl,hl2,upd_same,(by show 1+1<=sizeLine;decide),fun o ho=>?_⟩))
  have s4:=(s2.trans (same_new hl _)).trans (same_new ho (.lst ([V.int (rank x)]++[y])))
  refine q o _ _ s4 ((s2.trans (same_new hl _)).free ho) upd_same ?_
  rw[e1,e2]
  exact⟨_,_,rfl,rfl,_,_,rfl,rfl,rfl⟩
 -- a row,a bag
 ·have hin:¬inV (V.str (tagS x)) [.str "num",.str "word"]=true:=hin0
  obtain⟨b,ys,g,e1,hb,hg,e2⟩:∃ (b:Addr) (ys:List V) (g:Nat->List Pt),y=.ref b/\H b=some (.tup ys)/\(∀ i z,ys[i]?=some z->∃ c u1 u2,z=.ref c/\H c=some (.tup [u1,u2])/\(g i).length=3/\IsPts H (g i) [.int 1,u1,u2]) /\
    pts x=.k (.i (rank x))::(List.range ys.length).flatMap g++[.k (.i 0)]:=by
   cases x with
   | num i=>exact absurd (show inV (V.str "num") [.str "num",.str "word"]=true by decide +kernel) hin
   | word i=>exact absurd (show inV (V.str "word") [.str "num",.str "word"]=true by decide +kernel) hin
   | row ps=>
    rw[restD,IsDt]at hy
    obtain⟨b,ys,e,hb,hd⟩:=hy
    have hl:ys.length=ps.length:=by rw[hd.length,datR_map,List.length_map]
    refine⟨b,ys,(fun i=>((ps[i]?).map fun q=>[Pt.k (.i 1),.k (.s q.1),.v q.2]).getD []),e,hb,fun i z hz=>?_,?_⟩
    ·obtain⟨f1,x1,c1,w1,h1,h2,h3,h4⟩:=isPts_R hd hz
     refine⟨c1,_,_,h2,h3,by show (((ps[i]?).map _).getD []).length=3;rw[h1];rfl,?_⟩
     show IsPts H (((ps[i]?).map _).getD []) _
     rw[h1]
     exact⟨_,_,rfl,rfl,_,_,rfl,rfl,_,_,rfl,h4,rfl⟩
    ·rw[pts,ptsR_eq,hl]
     show _=Pt.k (.i 2)::_
     congr 1
     congr 1
     show ps.flatMap _=_
     exact flat_range _ ps
   | bag ps=>
    rw[restD,IsDt]at hy
    obtain⟨b,ys,e,hb,hd⟩:=hy
    have hl:ys.length=ps.length:=by rw[hd.length,datB_map,List.length_map]
    refine⟨b,ys,(fun i=>((ps[i]?).map fun q=>[Pt.k (.i 1),.v q.1,.k (.i q.2)]).getD []),e,hb,fun i z hz=>?_,?_⟩
    ·obtain⟨x1,n1,c1,w1,h1,h2,h3,h4⟩:=isPts_B hd hz
     refine⟨c1,_,_,h2,h3,by show (((ps[i]?).map _).getD []).length=3;rw[h1];rfl,?_⟩
     show IsPts H (((ps[i]?).map _).getD []) _
     rw[h1]
     exact⟨_,_,rfl,rfl,_,_,rfl,h4,_,_,rfl,rfl,rfl⟩
    ·rw[pts,ptsB_eq,hl]
     show _=Pt.k (.i 3)::_
     congr 1
     congr 1
     show ps.flatMap _=_
     exact flat_range _ ps
  subst e1
  have hlen3:∀ i,i<=ys.length->((List.range i).flatMap g).length=3 * i:=fun i=>by
   induction i with
   | zero=>intro _;rfl
   | succ i ih=>
    intro hi
    obtain⟨_,_,_,_,_,h3,_⟩:=hg i ys[i] (List.getElem?_eq_getElem hi)
    rw[List.range_succ,List.flatMap_append,List.length_append,ih (by lia)]
    simp [h3]
    lia
  have hys:3 * ys.length+2<=10000000:=by
   rw[e2]at hlen
   simp only[List.length_cons,List.length_append,hlen3 ys.length (Nat.le_refl _),List.length_nil]at hlen
   lia
  refine .inr ⟨_,rfl,.inr (.inl ⟨a,_,1,_,rfl,rfl,SqT.of ha2,rfl,b,rfl,⟨ys,SqT.of (s2 _ _ hb)⟩,for_tup (K:=K) (a:=b) (xs:=ys) (fun i σ H'=>∃ (us:List V) (vp:Option V),σ=[some (.ref a),some (.ref p),vp]/\Ex p H2 H'/\H' p=some (.lst us)/\IsPts H' (.k (.i (rank x))::(List.range i).flatMap g) us)
   ⟨[.int (rank x)],none,rfl,.refl _ _,hp2,⟨_,_,rfl,rfl,rfl⟩⟩ (fun i σ H' _ ⟨us,vp,_,ex,_,_⟩=>SqT.of (ex _ _ (ne_of (s2 _ _ hb) hp2 (by intro z;cases z)) (s2 _ _ hb))) ?_ ?_⟩)⟩
  ·rintro i z σ H' hz ⟨us,vp,rfl,ex,hus,hpt⟩
   have hi:i<ys.length:=(List.getElem?_eq_some_iff.mp hz).1
   obtain⟨c',u1,u2,rfl,hc',h3,hg3⟩:=hg i z hz
   have hc2:H' c'=some (.tup [u1,u2]):=ex _ _ (ne_of (s2 _ _ hc') hp2 (by intro z;cases z)) (s2 _ _ hc')
   have tH:Tups H H':=fun d xs e=>ex _ _ (ne_of (s2 _ _ e) hp2 (by intro z;cases z)) (s2 _ _ e)
   have hul:us.length=1+3 * i:=by rw[hpt.length,List.length_cons,hlen3 i (by lia)];lia
   refine⟨_,rfl,.inl ⟨rfl,us,SqL.of hus⟩,_,rfl,.inr (.inl ⟨c',_,0,_,rfl,rfl,SqT.of hc2,rfl,_,rfl,.inr (.inl ⟨c',_,1,_,rfl,rfl,SqT.of hc2,rfl,(by show 3<=sizeLine;decide),fun l hl=>?_⟩)⟩)⟩
   have hl2:(upd H' l (.lst [.int 1,u1,u2])) p=some (.lst us):=by rw[upd_ne (ne_of_none hus hl)];exact hus
   refine⟨p,l,us,_,rfl,rfl,hl2,upd_same,by rw[hul];exact Nat.le_trans (show 1+3 * i+3<=10000000 by lia) (by decide),?_⟩
   have tN:Tups H' (upd (upd H' l (.lst [.int 1,u1,u2])) p (.lst (us++[.int 1,u1,u2]))):=(Tups.new hl _).trans (Tups.lst hl2)
   refine⟨us++[.int 1,u1,u2],_,rfl,ex.trans ((ex_new hl).trans ex_upd),upd_same,?_⟩
   rw[List.range_succ,List.flatMap_append,<- List.cons_append]
   refine (hpt.mono tN).append ?_
   simpa using hg3.mono (tH.trans tN)
  ·rintro σ H' ⟨us,vp,rfl,ex,hus,hpt⟩
   have hul:us.length=1+3 * ys.length:=by rw[hpt.length,List.length_cons,hlen3 ys.length (Nat.le_refl _)];lia
   refine⟨_,rfl,(by show 1<=sizeLine;decide),fun l hl=>?_⟩
   have hl2:(upd H' l (.lst [.int 0])) p=some (.lst us):=by rw[upd_ne (ne_of_none hus hl)];exact hus
   refine .inr (.inr (.inl ⟨p,l,us,_,rfl,rfl,hl2,upd_same,by rw[hul];exact Nat.le_trans (show 1+3 * ys.length+1<=10000000 by lia) (by decide),fun o ho=>?_⟩))
   have sH:Same H H':=fun d od e=>ex d od (fun z=>by subst z;rw[hp]at e;cases e) (s2 d od e)
   have s4:=(sH.trans (same_new hl _)).trans (same_new ho (.lst (us++[V.int 0])))
   refine q o _ _ s4 ((sH.trans (same_new hl _)).free ho) upd_same ?_
   rw[e2]
   refine IsPts.append (IsPts.mono ((Tups.new hl _).trans (Tups.new ho _)) hpt) ⟨_,_,rfl,rfl,rfl⟩
theorem Zbd:FnScope ["whole","parts_of","found","waiting","part"] ["whole","parts_of"] (defScope (top 16)):=⟨rfl,rfl,rfl,by decide +kernel,rfl,by decide +kernel,by decide +kernel⟩
def spUnf (fP:Addr):Sp:=fun vs H Q _=>∃ (v:V) (x:Val),vs=[v,.ref fP]/\IsVal H x v/\(key x).length<=5000000 /\
 ∀ (p:Addr) (H':Hp),Same H H'->H p=none->H' p=some (.lst ((key x).map kv))->Q (.ref p) H'
theorem dat_tup {H:Hp}{x:Val}{v:V} (h:IsVal H x v):∃ a xs,v=.ref a/\H a=some (.tup xs):=by
 obtain⟨a,w,e,h1,_⟩:=h.two;exact⟨a,_,e,h1⟩
theorem ok_unf (T:Tx mg) (D:Df K mg "unfolded" (top 16) f fd ["whole","parts_of"]) (D_parts:Df K mg "order_parts" (top 17) f_parts fd_parts ["value"]) (GV:FnOk P w K mg base CX0 1 f_parts fd_parts ["value"] spParts) :
  FnOk P w K mg base CX0 2 f fd ["whole","parts_of"] (spUnf f_parts):=by
 refine D.fn.okH Zbd (fun vs H Q E h=>?_) (fun cdv A outer s H vs Q E hr h=>?_)
 ·obtain⟨v,x,rfl,_⟩:=h;rfl
 obtain⟨v,x,rfl,hx,hlen,q⟩:=h
 have hu:=u110 hr
 have hu0:=u0 hr
 have hu1:=hu_of hr
 have kV:=D_parts.kp
 have bV:=D_parts.b
 have hrV:=hr
 refine⟨_,(wss_cons (ws_set (i:=2) Zbd.nd rfl (Or.inl rfl) (we_lst wa_nil))
   (wss_cons (ws_set (i:=3) Zbd.nd rfl (Or.inl rfl) (we_lst (wa_cons (wv 0) wa_nil)))
   (wss_cons (ws_while PassesOwn.never (wt_truth (wv 3) (fun _=>rfl)) (wss_cons (ws_set (i:=4) Zbd.nd rfl (Or.inl rfl) (we_bm0 PySem.F.plainAttrs_list PySem.F.slot_list_pop PySem.F.type_list_pop mt_pop (wv 3)))
   (wss_one (ws_if (wt_val (we_callB call_isi rfl T.z_isinstance bt_isinstance (wa_cons (wv 4) (wa_cons (we_bltn rfl T.z_tuple bt_tuple (relv_ty _)) wa_nil)))) (wss_one (ws_expr (we_bm PySem.F.plainAttrs_list PySem.F.slot_list_extend PySem.F.type_list_extend mt_extend (wv 3) (wa_cons (we_rev (we_callV (i:=1) GV hrV rfl (Or.inl rfl) kV bV .nil pass0 (wa_cons (wv 4) wa_nil))) wa_nil)))) (wss_one (ws_expr (we_bm PySem.F.plainAttrs_list PySem.F.slot_list_append PySem.F.type_list_append mt_append (wv 2) (wa_cons (wv 4) wa_nil))))))))
   (wss_one (ws_ret (wv 2)))))),?_⟩
 refine⟨(by show 0<=sizeLine;decide),fun p hp=>?_⟩
 refine⟨_,rfl,(by show 1<=sizeLine;decide),fun l hl=>?_⟩
 have s1:Same H (upd H p (.lst [])):=same_new hp _
 have s2:Same H (upd (upd H p (.lst [])) l (.lst [v])):=s1.trans (same_new hl _)
 have hpl:p≠l:=fun z=>by subst z;rw[upd_same]at hl;cases hl
 have hl0:H l=none:=s1.free hl
 refine⟨fun m σ H'=>∃ (ks:List KE) (pend:List Pt) (us:List V) (vp:Option V),σ=[some v,some (.ref f_parts),some (.ref p),some (.ref l),vp]/\Same H H'/\H' p=some (.lst (ks.map kv))/\H' l=some (.lst us)/\IsPts H' pend us/\key x=ks++flatK pend.reverse/\m=msL pend,
  ⟨_,[],[.v x],[v],none,rfl,s2,by rw[upd_ne hpl];exact upd_same,upd_same,⟨v,[],rfl,IsDt.mono s2.tups hx,rfl⟩,by simp [flatK,Pt.key],rfl⟩,?_⟩
 rintro m σ H' ⟨ks,pend,us,vp,rfl,sH,hP,hL,hpt,hkey,rfl⟩
 refine⟨_,rfl,_,.inl ⟨us,SqL.of hL,rfl⟩,?_⟩
 have hklen:ks.length+(flatK pend).length=(key x).length:=by
  rw[hkey,List.length_append]
  congr 1
  unfold flatK
  simp [List.length_flatMap]
 have hpend:=pts_len pend
 cases hpe:pend.reverse with
 | nil=>
  have e:pend=[]:=by simpa using congrArg List.reverse hpe
  subst e
  rw[show us=[] from hpt]
  refine iteF ?_
  refine⟨_,rfl,q p H' sH hp ?_⟩
  rw[hP,hkey]
  simp [flatK]
 | cons top rest=>
  have e:pend=rest.reverse++[top]:=by simpa using congrArg List.reverse hpe
  subst e
  obtain⟨ys,y,rfl,hys,hy⟩:=hpt.last
  have ne:(!(ys++[y]).isEmpty)=true:=by simp
  refine iteP ne ?_
  refine⟨fun σ' H''=>∃ m',m'<msL (rest.reverse++[top])/\∃ (ks:List KE) (pend:List Pt) (us:List V) (vp:Option V),σ'=[some v,some (.ref f_parts),some (.ref p),some (.ref l),vp]/\Same H H''/\H'' p=some (.lst (ks.map kv))/\H'' l=some (.lst us)/\IsPts H'' pend us/\key x=ks++flatK pend.reverse/\m'=msL pend,
   fun σ' H'' z=>z,?_⟩
  have hylen:ys.length=rest.length:=by rw[hys.length,List.length_reverse]
  refine⟨_,rfl,.inl ⟨rfl,_,SqL.of hL⟩,l,ys++[y],y,rfl,rfl,hL,by simp,?_⟩
  rw[List.dropLast_concat]
  have sH3:Same H (upd H' l (.lst ys)):=fun b o e=>by rw[upd_ne (ne_of_none e hl0)];exact sH b o e
  have t3:Tups H' (upd H' l (.lst ys)):=Tups.lst hL
  have hP3:(upd H' l (.lst ys)) p=some (.lst (ks.map kv)):=by rw[upd_ne hpl];exact hP
  have hL3:(upd H' l (.lst ys)) l=some (.lst ys):=upd_same
  have hys3:=hys.mono t3
  have hy3:=hy.mono t3
  generalize upd H' l (.lst ys)=H3 at sH3 t3 hP3 hL3 hys3 hy3 ⊢
  cases top with
  | k e=>
   have hfalse:isiV H3 y "tuple" false:=by
    rw[show y=kv e from hy3]
    cases e with
    | i n=>exact .inl ⟨rfl,.inl ⟨⟨n,rfl⟩,rfl⟩⟩
    | s z=>exact .inl ⟨rfl,.inr (.inl ⟨⟨z,rfl⟩,rfl⟩)⟩
   refine⟨_,rfl,_,_,_,rfl,hfalse,_,rfl,?_⟩
   refine iteF ?_
   refine⟨_,rfl,.inl ⟨rfl,_,SqL.of hP3⟩,_,rfl,p,_,y,rfl,rfl,hP3,?_,?_⟩
   ·rw[List.length_map]
    exact Nat.lt_of_le_of_lt (show ks.length<=5000000 by lia) (by decide)
   ·refine⟨msL rest.reverse,?_,ks++[e],rest.reverse,ys,_,rfl,fun b o z=>by rw[upd_ne (ne_of_none z hp)];exact sH3 b o z,?_,by rw[upd_ne hpl.symm];exact hL3,hys3.mono (Tups.lst hP3),?_,rfl⟩
    ·rw[msL_app];show _<_+msL [.k e];simp [msL,Pt.ms]
    ·rw[upd_same,show y=kv e from hy3];simp
    ·rw[hkey];simp [flatK,Pt.key]
  | v x'=>
   obtain⟨a',xs',rfl,ha'⟩:=dat_tup hy3
   refine⟨_,rfl,_,_,_,rfl,.inl ⟨rfl,.inr (.inr ⟨⟨a',xs',rfl,ha'⟩,rfl⟩)⟩,_,rfl,?_⟩
   refine iteT ?_
   have hk':(key x').length<=(key x).length:=by
    rw[hkey];simp [flatK,Pt.key];lia
   have hpl':(pts x').length<=(key x').length:=by rw[<- flat_pts];exact pts_len _
   refine⟨_,rfl,.inl ⟨rfl,_,SqL.of hL3⟩,rfl,_,rfl,_,x',rfl,hy3,by lia,fun p' us' H4 s4 hp' hus hpt'=>?_⟩
   refine⟨p',us',rfl,SqL.of hus,fun r hr'=>?_⟩
   have hL5:(upd H4 r (.lst us'.reverse)) l=some (.lst ys):=by rw[upd_ne (ne_of_none (s4 _ _ hL3) hr')];exact s4 _ _ hL3
   have hP5:(upd H4 r (.lst us'.reverse)) p=some (.lst (ks.map kv)):=by rw[upd_ne (ne_of_none (s4 _ _ hP3) hr')];exact s4 _ _ hP3
   have t5:Tups H3 (upd H4 r (.lst us'.reverse)):=s4.tups.trans (Tups.new hr' _)
   have hul:us'.length=(pts x').length:=hpt'.length
   have hrest:ks.length+rest.length+(key x').length<=(key x).length:=by
    have:=pts_len rest
    rw[hkey];simp [flatK,Pt.key]at *;lia
   refine⟨l,r,ys,_,rfl,rfl,hL5,upd_same,?_,?_⟩
   ·rw[List.length_reverse,hul,hylen]
    exact Nat.le_trans (show rest.length+(pts x').length<=5000000 by lia) (by decide)
   ·refine⟨msL (rest.reverse++(pts x').reverse),?_,ks,rest.reverse++(pts x').reverse,_,_,rfl,fun b o z=>?_,by rw[upd_ne hpl];exact hP5,upd_same,?_,?_,rfl⟩
    ·rw[msL_app,msL_app,msL_rev (pts x')]
     have:=ms_pts x'
     show _<_+msL [.v x']
     simp only[msL,List.map_cons,List.map_nil,List.sum_cons,List.sum_nil,Pt.ms]at *
     lia
    ·rw[upd_ne (ne_of_none z hl0),upd_ne (ne_of_none (s4 _ _ (sH3 b o z)) hr')];exact s4 _ _ (sH3 b o z)
    ·exact IsPts.append (hys3.mono (t5.trans (Tups.lst hL5))) (hpt'.reverse.mono ((Tups.new hr' _).trans (Tups.lst hL5)))
    ·rw[hkey]
     simp only[List.reverse_append,List.reverse_reverse,List.reverse_cons,List.reverse_nil,List.nil_append]
     unfold flatK
     rw[List.flatMap_append,List.flatMap_append]
     have:=flat_pts x'
     unfold flatK at this
     rw[this]
     simp [Pt.key]
theorem ZbV:FnScope ["value"] ["value"] (defScope (top 18)):=⟨rfl,rfl,rfl,by decide +kernel,rfl,by decide +kernel,by decide +kernel⟩
def spKey:Sp:=fun vs H Q _=>∃ (v:V) (x:Val),vs=[v]/\IsVal H x v/\(key x).length<=5000000 /\
 ∀ (p:Addr) (H':Hp),Same H H'->H' p=some (.tup ((key x).map kv))->Q (.ref p) H'
theorem ok_key (T:Tx mg) (D:Df K mg "order_key" (top 18) f fd ["value"]) (Za2:Df K mg "order_parts" (top 17) f_parts fd_parts ["value"]) (ZaO:Df K mg "unfolded" (top 16) f_unf fd_unf ["whole","parts_of"])
  (ZbW:FnOk P w K mg base CX0 2 f_unf fd_unf ["whole","parts_of"] (spUnf f_parts)):FnOk P w K mg base CX0 3 f fd ["value"] spKey:=by
 refine D.fn.okH ZbV (fun vs H Q E h=>?_) (fun cdv A outer s H vs Q E hr h=>?_)
 ·obtain⟨v,x,rfl,_⟩:=h;rfl
 obtain⟨v,x,rfl,hx,hlen,q⟩:=h
 refine⟨_,(wss_one (ws_ret (we_callTy call_tuple_of rfl T.z_tuple bt_tuple (wa_cons (we_call ZbW (hr.mono (by lia)) rfl ZaO.mg ZaO.kp ZaO.b .nil pass0 (wa_cons (wv 0) (wa_cons (we_glob rfl Za2.mg (relv_ref _)) wa_nil))) wa_nil)))),?_⟩
 refine⟨_,rfl,v,x,rfl,hx,hlen,fun p H' s1 hp hP=>⟨p,_,rfl,.inl ⟨SqL.of hP,fun t ht=>?_⟩⟩⟩
 exact q t _ (s1.trans (same_new ht _)) upd_same
end
end K05
end
section
namespace K05
open PySem L2 Kn
def kx (x:Val):List Key:=(key x).map kk
theorem kx_inj {x y:Val} (h:kx x=kx y):x=y:=key_inj (List.map_inj_right (fun a b e=>kk_inj e) |>.mp h)
theorem kx_kv (x:Val):(kx x).map kV=(key x).map kv:=map_kk _
theorem put_keys {κ:Type} [DecidableEq κ] {kvs:List (κ×V)}{k:κ}{v w:V} (h:valV kvs k=some w):(putK kvs k v).map (·.1)=kvs.map (·.1):=by
 unfold putK
 rw[valV_any,h]
 simp only[Option.isSome_some,if_true,List.map_map]
 refine List.map_congr_left fun p hp=>?_
 show (if p.1=k then (p.1,v) else p).1=p.1
 split <;> rfl
structure Met (H:Hp) (a1 a2:Addr) (xs:List (Val×Int)) (ms:List Val):Prop where
 dv:∃ kvs,H a1=some (.dT kvs)/\kvs.map (·.1)=ms.map kx/\∀ x∈ms,∃ v,valV kvs (kx x)=some v/\IsVal H x v
 dc:∃ kvs,H a2=some (.dT kvs)/\kvs.map (·.1)=ms.map kx/\∀ x∈ms,valV kvs (kx x)=some (.int (cnt x xs))
 nd:ms.Nodup
 from':∀ x∈ms,∃ q∈xs,x=q.1
 all:∀ q∈xs,q.1∈ms
theorem val_none {kvs:List (List Key×V)}{ms:List Val} (h:kvs.map (·.1)=ms.map kx) {x:Val} (hx:x ∉ ms):valV kvs (kx x)=none:=by
 cases e:valV kvs (kx x) with
 | none=>rfl
 | some v=>
  exfalso
  have:=valV_in e
  rw[h]at this
  obtain⟨y,hy,ey⟩:=List.mem_map.mp this
  exact hx (kx_inj ey ▸ hy)
section
variable {P:Program}{w:World}{K:PySem.W.Frag}{mg:Str->Option Value}{base:Heap}{f f_key:Addr}{fd fd_key:FuncData}
theorem ZaP:FnScope ["pairs","values","counts","value","count","key"] ["pairs"] (defScope (top 19)):=⟨rfl,rfl,rfl,by decide +kernel,rfl,by decide +kernel,by decide +kernel⟩
def spBagOf:Sp:=fun vs H Q _=>∃ (p:Addr) (us:List V) (xs:List (Val×Int)),vs=[.ref p]/\(∃ o:HO,H p=some o/\(o=.lst us\/o=.tup us))/\IsDts H (datB xs) us/\xs.length<=60/\(∀ q∈xs,(key q.1).length<=5000000) /\
 ∀ (v:V) (H':Hp) (qs:List (Val×Int)),Same H H'->IsVal H' (.bag qs) v->IsBag xs qs->(∀ q∈qs,∃ r∈xs,q.1=r.1)->Q v H'
theorem ok_bagOf (T:Tx mg) (D:Df K mg "bag_of" (top 19) f fd ["pairs"]) (ZaQ:Df K mg "order_key" (top 18) f_key fd_key ["value"]) (ZbX:FnOk P w K mg base CX0 3 f_key fd_key ["value"] spKey) :
  FnOk P w K mg base CX0 4 f fd ["pairs"] spBagOf:=by
 refine D.fn.okH ZaP (fun vs H Q E h=>?_) (fun cdv A outer s H vs Q E hr h=>?_)
 ·obtain⟨p,us,xs,rfl,_⟩:=h;rfl
 obtain⟨p,us,xs,rfl,⟨o,hp,ho⟩,hus,lx,kl,fin⟩:=h
 have hu:=u110 hr
 have hu0:=u0 hr
 have hu1:=hu_of hr
 refine⟨_,(wss_cons (ws_set (i:=1) ZaP.nd rfl (Or.inr rfl) we_dnewT)
   (wss_cons (ws_set (i:=2) ZaP.nd rfl (Or.inr rfl) we_dnewT)
   (wss_cons (ws_for PassesOwn.never rfl (wi_U (wv 0)) (wg_tup rfl (wgs_cons (wg_name (i:=3) ZaP.nd rfl (Or.inl rfl)) (wgs_cons (wg_name (i:=4) ZaP.nd rfl (Or.inl rfl)) wgs_nil))) (wss_cons (ws_set (i:=5) ZaP.nd rfl (Or.inl rfl) (we_call ZbX (hr.mono (by lia)) rfl ZaQ.mg ZaQ.kp ZaQ.b .nil pass0 (wa_cons (wv 3) wa_nil)))
   (wss_cons (ws_asg (wv 3) (wg_sub (wv 1) (wv 5) (set_U hu1)))
   (wss_one (ws_asg (we_op op_plus (we_dget2 hu1 (wv 2) (wv 5) we_int) (wv 4)) (wg_sub (wv 2) (wv 5) (set_U hu1)))))))
   (wss_one (ws_ret (we_tup (wa_cons we_str (wa_cons (we_callTy call_tuple_of rfl T.z_tuple bt_tuple (wa_cons (we_lc (Nt:=["key"]) (fr:=[("values",1),("counts",2)]) (LcOk.of (sc:=defScope (top 19)) (N:=["pairs","values","counts","value","count","key"]) rfl rfl (by decide +kernel)) rfl (wi_U (we_callB (call_sortT rfl) rfl T.z_sorted bt_sorted (wa_cons (wv 2) wa_nil))) (fun z=>wg_name (i:=0) (by show (["key","values","counts"]:List Str).Nodup;decide +kernel) rfl (Or.inl rfl) (.inr rfl)) (fun z=>tgt_name (by decide)) (fun z=>wif_one (wt_cmpR (op_neU hu) (we_ix (ix_U hu1) (wv 2) (wv 0) (fun _ _=>rfl)) we_int (nomark _))) (fun z=>(we_tup (wa_cons (we_ix (ix_U hu1) (wv 1) (wv 0) (fun _ _=>rfl)) (wa_cons (we_ix (ix_U hu1) (wv 2) (wv 0) (fun _ _=>rfl)) wa_nil))))) wa_nil)) wa_nil)))))))),?_⟩
 intro a1 h1
 intro a2 h2
 have n12:a1≠a2:=fun z=>by rw[z,upd_same]at h2;cases h2
 have h20:H a2=none:=by rw[upd_ne (fun z=>n12 z.symm)]at h2;exact h2
 have s0:=(same_new h1 (.dT [])).trans (same_new h2 (.dT []))
 have nus:us.length=xs.length:=by rw[hus.length,datB_map,List.length_map]
 have line:∀ n:Nat,n<=1000->n<sizeLine:=fun n h=>Nat.lt_of_le_of_lt h (by decide)
 refine iU rfl ho (s0 _ _ hp) fun J hJ=>?_
 refine⟨fun i m σ H'=>Same H H'/\m+i=xs.length/\(∃ o3 o4 o5,σ=[some (.ref p),some (.ref a1),some (.ref a2),o3,o4,o5])/\∃ ms:List Val,Met H' a1 a2 (xs.take i) ms/\ms.length<=i,
  ⟨xs.length,s0,rfl,⟨none,none,none,rfl⟩,[],⟨⟨[],by rw[upd_ne n12];exact upd_same,rfl,fun x hx=>(nomatch hx)⟩,⟨[],upd_same,rfl,fun x hx=>(nomatch hx)⟩,.nil,fun x hx=>(nomatch hx),fun q hq=>by simp at hq⟩,Nat.le_refl _⟩,?_⟩
 rintro i m σ H' ⟨sH,hm,⟨o3,o4,o5,rfl⟩,ms,M,lm⟩
 by_cases hi:i<xs.length
 ·refine .inr ⟨hJ.go i H' (sH _ _ hp) (by lia),fun σ' H''=>Same H H''/\(m-1)+(i+1)=xs.length/\(∃ o3 o4 o5,σ'=[some (.ref p),some (.ref a1),some (.ref a2),o3,o4,o5])/\∃ ms:List Val,Met H'' a1 a2 (xs.take (i+1)) ms/\ms.length<=i+1,fun σ' H'' hW=>⟨m-1,by lia,hW⟩,?_⟩
  intro x H'' hy
  obtain⟨e0,hx⟩:=hJ.yl i H' x _ (sH _ _ hp) hy
  rw[e0]
  obtain⟨u,hu',du⟩:=hus.get (i:=i) (d:=.tup [dat xs[i].1,.int xs[i].2]) (by rw[datB_map,List.getElem?_map,List.getElem?_eq_getElem hi];rfl)
  obtain rfl:u=x:=by rw[hu']at hx;injection hx
  obtain⟨c,v,z,rfl,hc1,dv,dz⟩:=dt_two du
  rw[IsDt]at dz
  subst dz
  have hxm:xs[i]∈xs:=List.getElem_mem hi
  have htk:xs.take (i+1)=xs.take i++[xs[i]]:=by rw[List.take_add_one,List.getElem?_eq_getElem hi];rfl
  generalize xs[i]=xi at hxm dv hc1 du htk
  have dv':IsVal H' xi.1 v:=IsDt.mono sH.tups dv
  refine⟨c,_,rfl,SqT.of (sH _ _ hc1),rfl,_,_,rfl,_,_,rfl,rfl,?_⟩
  refine⟨_,rfl,v,xi.1,rfl,dv',kl _ hxm,fun b H1 s1 hb=>?_⟩
  obtain⟨⟨kvV,hV,kV1,kV2⟩,⟨kvC,hC,kC1,kC2⟩,nd,frm,alls⟩:=M
  have hV1:=s1 _ _ hV
  have hC1:=s1 _ _ hC
  rw[<- kx_kv]at hb
  have lV:kvV.length<sizeLine:=line _ (by have:=congrArg List.length kV1;simp at this;lia)
  have lC:kvC.length<sizeLine:=line _ (by have:=congrArg List.length kC1;simp at this;lia)
  -- values[key]=value
  refine⟨_,rfl,_,rfl,_,rfl,.inr ⟨a1,_,rfl,DPut.t hV1 hb lV,?_⟩⟩
  have t2:Tups H1 (upd H1 a1 (.dT (putK kvV (kx xi.1) v))):=fun d ys e=>by rw[upd_ne (fun q=>by rw[q,hV1]at e;cases e)];exact e
  have hV2:(upd H1 a1 (.dT (putK kvV (kx xi.1) v))) a1=some (.dT (putK kvV (kx xi.1) v)):=upd_same
  have hC2:(upd H1 a1 (.dT (putK kvV (kx xi.1) v))) a2=some (.dT kvC):=by rw[upd_ne (fun q=>n12 q.symm)];exact hC1
  have hb2:=t2 _ _ hb
  have s2:Same H (upd H1 a1 (.dT (putK kvV (kx xi.1) v))):=fun d od e=>by rw[upd_ne (ne_of_none e h1)];exact s1 _ _ (sH _ _ e)
  generalize upd H1 a1 (.dT (putK kvV (kx xi.1) v))=H2 at t2 hV2 hC2 hb2 s2 ⊢
  -- counts[key]=counts.get(key,0)+count
  have hg:((valV kvC (kx xi.1)).getD (.int 0))=V.int (cnt xi.1 (xs.take i)):=by
   by_cases mm:xi.1∈ms
   ·rw[kC2 _ mm];rfl
   ·rw[val_none kC1 mm]
    show V.int 0=_
    rw[cnt_none (v:=xi.1) fun q hq e=>mm (e ▸ alls q hq)]
  refine⟨_,rfl,a2,rfl,.inr ⟨_,.inl hC2⟩,_,rfl,_,DGet.t hC2 hb2,_,rfl,.inl ⟨_,_,hg,rfl,?_⟩⟩
  refine⟨_,rfl,_,rfl,.inr ⟨a2,_,rfl,DPut.t hC2 hb2 lC,?_⟩⟩
  have t3:Tups H2 (upd H2 a2 (.dT (putK kvC (kx xi.1) (.int (cnt xi.1 (xs.take i)+xi.2))))):=fun d ys e=>by rw[upd_ne (fun q=>by rw[q,hC2]at e;cases e)];exact e
  have hcx:∀ y,cnt y (xs.take (i+1))=cnt y (xs.take i)+(if xi.1=y then xi.2 else 0):=fun y=>by rw[htk,cnt_append];simp only[cnt];lia
  refine⟨fun d od e=>by rw[upd_ne (ne_of_none e h20)];exact s2 _ _ e,by lia,⟨_,_,_,rfl⟩,?_⟩
  have old:∀ y,y≠xi.1->kx y≠kx xi.1:=fun y ne e=>ne (kx_inj e)
  have tA:Tups H' (upd H2 a2 (.dT (putK kvC (kx xi.1) (.int (cnt xi.1 (xs.take i)+xi.2))))):=fun d ys e=>t3 _ _ (t2 _ _ (s1 _ _ e))
  have fromOld:∀ x∈ms,∃ q∈xs.take (i+1),x=q.1:=fun x hx=>by
   obtain⟨q,hq,e⟩:=frm x hx
   exact⟨q,by rw[htk];exact List.mem_append_left _ hq,e⟩
  by_cases mm:xi.1∈ms
  ·refine⟨ms,⟨⟨_,by rw[upd_ne n12];exact hV2,?_,fun x hx=>?_⟩,⟨_,upd_same,?_,fun x hx=>?_⟩,nd,fromOld,fun q hq=>?_⟩,by lia⟩
   ·obtain⟨v0,e1,_⟩:=kV2 _ mm
    rw[put_keys e1];exact kV1
   ·by_cases ex:x=xi.1
    ·subst ex
     exact⟨v,by rw[valV_put,if_pos rfl],IsDt.mono tA dv'⟩
    ·obtain⟨v0,e1,e2⟩:=kV2 x hx
     exact⟨v0,by rw[valV_put,if_neg (old x ex)];exact e1,IsDt.mono tA e2⟩
   ·rw[put_keys (kC2 _ mm)];exact kC1
   ·rw[valV_put,hcx]
    by_cases ex:x=xi.1
    ·subst ex;rw[if_pos rfl,if_pos rfl]
    ·rw[if_neg (old x ex),if_neg (fun e=>ex e.symm),kC2 x hx];simp
   ·rw[htk]at hq
    rcases List.mem_append.mp hq with h | h
    ·exact alls q h
    ·rw[List.mem_singleton.mp h];exact mm
  ·have nV:=val_none kV1 mm
   have nC:=val_none kC1 mm
   refine⟨ms++[xi.1],⟨⟨_,by rw[upd_ne n12];exact hV2,?_,fun x hx=>?_⟩,⟨_,upd_same,?_,fun x hx=>?_⟩,?_,fun x hx=>?_,fun q hq=>?_⟩,by rw[List.length_append];show ms.length+1<=_;lia⟩
   ·rw[putK_new _ nV,List.map_append,List.map_append,kV1];rfl
   ·by_cases ex:x=xi.1
    ·subst ex
     exact⟨v,by rw[valV_put,if_pos rfl],IsDt.mono tA dv'⟩
    ·have hx':x∈ms:=(List.mem_append.mp hx).resolve_right fun h=>ex (List.mem_singleton.mp h)
     obtain⟨v0,e1,e2⟩:=kV2 x hx'
     exact⟨v0,by rw[valV_put,if_neg (old x ex)];exact e1,IsDt.mono tA e2⟩
   ·rw[putK_new _ nC,List.map_append,List.map_append,kC1];rfl
   ·rw[valV_put,hcx]
    by_cases ex:x=xi.1
    ·subst ex;rw[if_pos rfl,if_pos rfl]
    ·have hx':x∈ms:=(List.mem_append.mp hx).resolve_right fun h=>ex (List.mem_singleton.mp h)
     rw[if_neg (old x ex),if_neg (fun e=>ex e.symm),kC2 x hx'];simp
   ·refine List.nodup_append.mpr ⟨nd,by simp,fun a ha b hb e=>?_⟩
    rw[List.mem_singleton.mp hb]at e
    exact mm (e ▸ ha)
   ·rcases List.mem_append.mp hx with h | h
    ·exact fromOld x h
    ·exact⟨xi,by rw[htk];exact List.mem_append_right _ (List.mem_singleton.mpr rfl),List.mem_singleton.mp h⟩
   ·rw[htk]at hq
    rcases List.mem_append.mp hq with h | h
    ·exact List.mem_append_left _ (alls q h)
    ·rw[List.mem_singleton.mp h];exact List.mem_append_right _ (List.mem_singleton.mpr rfl)
 -- the bag
 ·refine .inl ⟨hJ.st i H' (sH _ _ hp) (by lia),?_⟩
  rw[List.take_of_length_le (by lia)]at M
  obtain⟨⟨kvV,hV,kV1,kV2⟩,⟨kvC,hC,kC1,kC2⟩,nd,frm,alls⟩:=M
  refine .inl ⟨_,rfl,a2,kvC,ms,rfl,hC,kC1,nd,by lia,fun l bs ys hl perm rise lb get=>⟨l,rfl,⟨_,SqL.of upd_same⟩,?_⟩⟩
  have sA:=same_new hl (.lst bs)
  have hA:(upd H' l (.lst bs)) l=some (.lst bs):=upd_same
  generalize upd H' l (.lst bs)=HA at sA hA ⊢
  have ly:ys.length=ms.length:=perm.length_eq
  refine⟨fun i2 m2 zs H2=>Same HA H2/\m2+i2=ys.length/\∃ qs:List (Val×Int),IsDts H2 (datB qs) zs/\qs.length<=i2/\qs=((ys.map fun y=>(y,cnt y xs)).take i2).filter fun q=>decide (q.2≠0),⟨ys.length,.refl _,rfl,[],.nil,Nat.le_refl _,rfl⟩,?_⟩
  rintro i2 m2 zs H2 ⟨s2,hm2,qs,iq,lq,eqs⟩
  have nz:zs.length=qs.length:=by rw[iq.length,datB_map,List.length_map]
  refine⟨line _ (by lia),?_⟩
  have hA2:=s2 _ _ hA
  have sT:=sA.trans s2
  by_cases hi2:i2<ys.length
  ·obtain⟨b,hbs,hb⟩:=get i2 ys[i2] (List.getElem?_eq_getElem hi2)
   refine .inr ⟨⟨_,_,SqL.of hA2,hbs⟩,fun z x H5 hy2=>?_⟩
   obtain⟨rfl,hx⟩:=hy2
   obtain rfl:V.ref b=x:=by have:=hx _ (SqL.of hA2);rw[hbs]at this;injection this
   have hym:ys[i2]∈ms:=perm.mem_iff.mp (List.getElem_mem hi2)
   obtain⟨v2,ev,iv2⟩:=kV2 _ hym
   have ec:=kC2 _ hym
   have tkq:(ys.map fun y=>(y,cnt y xs)).take (i2+1)=(ys.map fun y=>(y,cnt y xs)).take i2++[(ys[i2],cnt ys[i2] xs)]:=by
    rw[List.take_add_one,List.getElem?_map,List.getElem?_eq_getElem hi2];rfl
   rw[<- kx_kv]at hb
   have gC:DGet H5 a2 (.ref b) (some (.int (cnt ys[i2] xs))):=by rw[<- ec];exact DGet.t (sT _ _ hC) (sT _ _ hb)
   have gV:DGet H5 a1 (.ref b) (some v2):=by rw[<- ev];exact DGet.t (sT _ _ hV) (sT _ _ hb)
   generalize ys[i2]=y at hym ev iv2 ec tkq gC gV
   refine⟨_,rfl,_,rfl,.inr (.inr (.inr ⟨a2,_,rfl,gC,.inl ⟨rfl,_,rfl,?_⟩⟩))⟩
   refine ite2 (fun e=>?_) (fun e=>?_)
   ·have e0:cnt y xs≠0:=fun z=>by rw[z]at e;revert e;decide
    refine⟨_,rfl,_,rfl,.inr (.inr (.inr ⟨a1,_,rfl,gV,_,rfl,_,rfl,.inr (.inr (.inr ⟨a2,_,rfl,gC,(by show 2<=sizeLine;decide),fun t ht=>?_⟩))⟩))⟩
    refine⟨m2-1,by lia,s2.trans (same_new ht _),by lia,qs++[(y,cnt y xs)],?_,by rw[List.length_append];show qs.length+1<=_;lia,by rw[tkq,List.filter_append,<- eqs];simp [e0]⟩
    rw[datB_map,List.map_append,<- datB_map]
    exact (IsDts.mono (same_new ht _).tups iq).append (.one (isDt_new ht (.cons (IsDt.mono sT.tups iv2) (.one (by rw[IsDt])))))
   ·have e0:cnt y xs=0:=Classical.byContradiction fun z=>e (by rw[decide_eq_false (fun w=>z (by injection w))];rfl)
    exact⟨m2-1,by lia,s2,by lia,qs,iq,by lia,by rw[tkq,List.filter_append,<- eqs];simp [e0]⟩
  ·refine .inl ⟨⟨_,SqL.of hA2,by rw[lb];lia⟩,fun l2 hl2=>⟨l2,zs,rfl,.inl ⟨SqL.of upd_same,fun t ht=>⟨(by show 2<=sizeLine;decide),fun b hb=>?_⟩⟩⟩⟩
   have bag:IsBag xs qs:=by
    rw[eqs,List.take_of_length_le (by rw[List.length_map];lia)]
    exact bag_of_perm (fun y=>cnt y xs) perm rise (fun v _=>rfl) fun v hv=>cnt_none fun q hq e=>hv (e ▸ alls q hq)
   refine fin _ _ qs ((sH.trans sT).trans ((same_new hl2 _).trans ((same_new ht _).trans (same_new hb _)))) ?_ bag fun q hq=>?_
   ·show IsDt _ (dat (.bag qs)) _
    rw[dat_two]
    exact isDt_new hb (.cons (by rw[IsDt];rfl) (.one (isDt_tup upd_same (IsDts.mono ((same_new hl2 _).trans (same_new ht _)).tups iq))))
   ·have hq':=hq
    rw[eqs]at hq'
    obtain⟨y,hy,e⟩:=List.mem_map.mp (List.mem_of_mem_take (List.mem_filter.mp hq').1)
    obtain⟨r,hr',e2⟩:=frm y (perm.mem_iff.mp hy)
    exact⟨r,hr',by rw[<- e,<- e2]⟩
end
end K05
end
section
namespace K05
open PySem L2 Kn
inductive Nrw:Dt->Prop where
 | int (i:Int):Nrw (.int i)
 | str (s:Str):Nrw (.str s)
 | tup (ds:List Dt) (h:ds.length<=1000) (a:∀ d∈ds,Nrw d):Nrw (.tup ds)
theorem nrw_two {a b:Dt} (h1:Nrw a) (h2:Nrw b):Nrw (.tup [a,b]):=.tup _ (by show 2<=1000;decide) fun d hd=>by
 simp only[List.mem_cons,List.not_mem_nil,or_false]at hd
 rcases hd with rfl | rfl
 ·exact h1
 ·exact h2
theorem nrw_dat {b:Nat} (hb:b<=1000):∀ {d:Nat}{x:Val},Bd b d x->Nrw (dat x)
 | _,.num i,_=>by rw[dat];exact nrw_two (.str _) (.int _)
 | _,.word s,_=>by rw[dat];exact nrw_two (.str _) (.str _)
 | 0,.row ps,h=>by simp only[Bd]at h;subst h;rw[dat,datR];exact nrw_two (.str _) (.tup _ (Nat.zero_le _) fun d hd=>(nomatch hd))
 | 0,.bag ps,h=>by simp only[Bd]at h;subst h;rw[dat,datB];exact nrw_two (.str _) (.tup _ (Nat.zero_le _) fun d hd=>(nomatch hd))
 | d+1,.row ps,h=>by
  simp only[Bd]at h
  rw[dat]
  refine nrw_two (.str _) (.tup _ (by rw[datR_map,List.length_map];lia) fun e he=>?_)
  rw[datR_map]at he
  obtain⟨p,hp,rfl⟩:=List.mem_map.mp he
  exact nrw_two (.str _) (nrw_dat hb (h.2 p hp).2)
 | d+1,.bag ps,h=>by
  simp only[Bd]at h
  rw[dat]
  refine nrw_two (.str _) (.tup _ (by rw[datB_map,List.length_map];lia) fun e he=>?_)
  rw[datB_map]at he
  obtain⟨p,hp,rfl⟩:=List.mem_map.mp he
  exact nrw_two (nrw_dat hb (h.2 p hp)) (.int _)
section
variable {P:Program}{w:World}{K:PySem.W.Frag}{mg:Str->Option Value}{base:Heap}{f f_whole:Addr}{fd fd_whole:FuncData}
theorem ZbY:FnScope ["thing"] ["thing"] (defScope (top 41)):=⟨rfl,rfl,rfl,by decide +kernel,rfl,by decide +kernel,by decide +kernel⟩
def spWhole:Sp:=fun vs H Q _=>∃ i:Int,vs=[.int i]/\Q (.bl true) H
theorem ok_whole (T:Tx mg) (D:Df K mg "_law_whole" (top 41) f fd ["thing"]):FnOk P w K mg base CX0 1 f fd ["thing"] spWhole:=by
 refine D.fn.okH ZbY (fun vs H Q E h=>?_) (fun cdv A outer s H vs Q E hr h=>?_)
 ·obtain⟨i,rfl,_⟩:=h;rfl
 obtain⟨i,rfl,q⟩:=h
 refine⟨_,(wss_one (ws_ret (we_and (we_callB call_isiU rfl T.z_isinstance bt_isinstance (wa_cons (wv 0) (wa_cons (we_bltn rfl T.z_int bt_int (relv_ty _)) wa_nil))) (we_one (we_not (we_callB call_isiU rfl T.z_isinstance bt_isinstance (wa_cons (wv 0) (wa_cons (we_bltn rfl T.z_bool bt_bool (relv_ty _)) wa_nil)))))))),?_⟩
 refine⟨_,rfl,.inr ⟨_,_,true,rfl,.inl ⟨rfl,⟨i,rfl⟩,rfl⟩,true,rfl,iteT ?_⟩⟩
 exact⟨_,rfl,.inr ⟨_,_,false,rfl,.inr (.inl ⟨rfl,⟨i,rfl⟩,rfl⟩),false,rfl,q⟩⟩
def spLike (n:Nat):Sp:=fun vs H Q _=>∃ (v u:V) (d:Dt),vs=[v,u]/\IsDt H d v/\IsDt H d u/\Nrw d/\d.dep<=n/\n<=60/\∀ H',Same H H'->Q (.bl true) H'
def preL:Nat->Sp
 | 0=>fun _ _ _ _=>False
 | n+1=>spLike n
theorem ZbZ:FnScope ["found","due"] ["found","due"] (defScope (top 42)):=⟨rfl,rfl,rfl,by decide +kernel,rfl,by decide +kernel,by decide +kernel⟩
theorem ok_like {k n:Nat} (hk:1<=k) (T:Tx mg) (Zae:Df K mg "_law_like" (top 42) f fd ["found","due"]) (Za3:FnOk P w K mg base CX0 k f fd ["found","due"] (preL n))
  (Zau:Df K mg "_law_whole" (top 41) f_whole fd_whole ["thing"]) (Za4:FnOk P w K mg base CX0 1 f_whole fd_whole ["thing"] spWhole):FnOk P w K mg base CX0 (k+1) f fd ["found","due"] (spLike n):=by
 refine Zae.fn.okH ZbZ (fun vs H Q E h=>?_) (fun cdv A outer s H vs Q E hr h=>?_)
 ·obtain⟨v,u,d,rfl,_⟩:=h;rfl
 obtain⟨v,u,d,rfl,iv,iu,nw,dn,n60,fin⟩:=h
 have hu:=u110 hr
 have hu0:=u0 hr
 have hu1:=hu_of hr
 refine⟨_,(wss_cons (ws_if (wt_val (we_callB call_isiU rfl T.z_isinstance bt_isinstance (wa_cons (wv 1) (wa_cons (we_bltn rfl T.z_tuple bt_tuple (relv_ty _)) wa_nil)))) (wss_cons (ws_if (wt_pw (ww_or (wt_not (wt_val (we_callB call_isiU rfl T.z_isinstance bt_isinstance (wa_cons (wv 0) (wa_cons (we_bltn rfl T.z_tuple bt_tuple (relv_ty _)) wa_nil))))) (ww_or1 (wt_cmpR (op_neU hu) (we_callB call_lenU rfl T.z_len bt_len (wa_cons (wv 0) wa_nil)) (we_callB call_lenU rfl T.z_len bt_len (wa_cons (wv 1) wa_nil)) (nomark _))))) (wss_one (ws_ret we_bl)) wss_nil)
   (wss_one (ws_ret (we_cmpR (op_eqUL hu) (we_lc (Nt:=["k"]) (fr:=[("found",0),("due",1)]) (LcOk.of (sc:=defScope (top 42)) (N:=["found","due"]) rfl rfl (by decide +kernel)) rfl (wi_range1 rfl T.z_range (wa_cons (we_callB call_lenU rfl T.z_len bt_len (wa_cons (wv 1) wa_nil)) wa_nil)) (fun z=>wg_name (i:=0) (by show (["k","found","due"]:List Str).Nodup;decide +kernel) rfl (Or.inl rfl) (.inr rfl)) (fun z=>tgt_name (by decide)) (fun z=>wif_one (wt_not (wt_val (we_call Za3 (hr.mono (by lia)) rfl Zae.mg Zae.kp Zae.b .nil pass0 (wa_cons (we_ix (ix_U hu1) (wv 1) (wv 0) (fun _ _=>rfl)) (wa_cons (we_ix (ix_U hu1) (wv 2) (wv 0) (fun _ _=>rfl)) wa_nil)))))) (fun z=>(wv 0))) (we_lst wa_nil) (nomark _))))) wss_nil)
   (wss_cons (ws_if (wt_val (we_callB call_isiU rfl T.z_isinstance bt_isinstance (wa_cons (wv 1) (wa_cons (we_bltn rfl T.z_str bt_str (relv_ty _)) wa_nil)))) (wss_one (ws_ret (we_and (we_callB call_isiU rfl T.z_isinstance bt_isinstance (wa_cons (wv 0) (wa_cons (we_bltn rfl T.z_str bt_str (relv_ty _)) wa_nil))) (we_one (we_cmpR (op_eqUL hu) (wv 0) (wv 1) (nomark _)))))) wss_nil)
   (wss_one (ws_ret (we_and (we_call Za4 (hr.mono (by lia)) rfl Zau.mg Zau.kp Zau.b .nil pass0 (wa_cons (wv 0) wa_nil)) (we_one (we_cmpR (op_eqUL hu) (wv 0) (wv 1) (nomark _)))))))),?_⟩
 cases nw with
 | int i=>
  rw[IsDt]at iv iu
  subst iv
  subst iu
  refine⟨_,rfl,.inl ⟨_,_,false,rfl,.inl ⟨rfl,.inl ⟨⟨i,rfl⟩,rfl⟩⟩,_,rfl,?_⟩⟩
  refine iteF ?_
  refine⟨_,rfl,.inr ⟨_,_,false,rfl,.inr (.inr ⟨rfl,.inl ⟨⟨i,rfl⟩,rfl⟩⟩),_,rfl,?_⟩⟩
  refine iteF ?_
  refine⟨_,rfl,i,rfl,true,rfl,iteT ?_⟩
  refine⟨_,rfl,_,rfl,.inl ⟨rfl,?_⟩⟩
  rw[decide_eq_true rfl]
  exact fin _ (.refl _)
 | str z=>
  rw[IsDt]at iv iu
  subst iv
  subst iu
  refine⟨_,rfl,.inl ⟨_,_,false,rfl,.inl ⟨rfl,.inr (.inl ⟨⟨z,rfl⟩,rfl⟩)⟩,_,rfl,?_⟩⟩
  refine iteF ?_
  refine⟨_,rfl,.inr ⟨_,_,true,rfl,.inr (.inr ⟨rfl,.inr ⟨⟨z,rfl⟩,rfl⟩⟩),_,rfl,?_⟩⟩
  refine iteT ?_
  refine⟨_,rfl,.inr ⟨_,_,true,rfl,.inr (.inr ⟨rfl,.inr ⟨⟨z,rfl⟩,rfl⟩⟩),true,rfl,iteT ?_⟩⟩
  refine⟨_,rfl,_,rfl,.inl ⟨rfl,?_⟩⟩
  rw[decide_eq_true rfl]
  exact fin _ (.refl _)
 | tup ds hl hn=>
  rw[IsDt]at iv iu
  obtain⟨a,xs,rfl,ha,ia⟩:=iv
  obtain⟨b,ys,rfl,hb,ib⟩:=iu
  have lx:=ia.length
  have ly:=ib.length
  refine⟨_,rfl,.inl ⟨_,_,true,rfl,.inl ⟨rfl,.inr (.inr ⟨⟨b,ys,rfl,hb⟩,rfl⟩)⟩,_,rfl,?_⟩⟩
  refine iteT ?_
  refine⟨_,rfl,.inl ⟨_,_,true,rfl,.inl ⟨rfl,.inr (.inr ⟨⟨a,xs,rfl,ha⟩,rfl⟩)⟩,_,rfl,?_⟩⟩
  refine iteF ?_
  refine⟨_,rfl,.inl ⟨a,xs,rfl,.inr (SqT.of ha),_,rfl,.inl ⟨b,ys,rfl,.inr (SqT.of hb),.inl ⟨rfl,_,rfl,?_⟩⟩⟩⟩
  rw[lx,ly,decide_eq_true rfl]
  refine iteF ?_
  refine⟨_,rfl,.inl ⟨b,ys,rfl,.inr (SqT.of hb),ys.length,rfl,by lia,by lia,?_⟩⟩
  refine⟨fun i m qs H'=>Same H H'/\m+i=ds.length/\qs=[],⟨ds.length,.refl _,rfl,rfl⟩,?_⟩
  rintro i m qs H' ⟨sH,hm,rfl⟩
  refine⟨by show 0<sizeLine;decide,?_⟩
  by_cases hi:i<ds.length
  ·refine .inr ⟨(by show i<((ys.length:Int)).toNat;lia),fun z x H5 hy=>?_⟩
   obtain⟨rfl,rfl⟩:=hy
   obtain⟨v1,e1,d1⟩:=ia.get (i:=i) (d:=ds[i]) (List.getElem?_eq_getElem hi)
   obtain⟨v2,e2,d2⟩:=ib.get (i:=i) (d:=ds[i]) (List.getElem?_eq_getElem hi)
   have at1:atI xs (0+(i:Int))=some v1:=by rw[Int.zero_add];exact atI_nat e1
   have at2:atI ys (0+(i:Int))=some v2:=by rw[Int.zero_add];exact atI_nat e2
   refine⟨_,rfl,_,rfl,.inr (.inl ⟨a,xs,_,v1,rfl,rfl,SqT.of (sH _ _ ha),at1,_,rfl,_,rfl,.inr (.inl ⟨b,ys,_,v2,rfl,rfl,SqT.of (sH _ _ hb),at2,?_⟩)⟩)⟩
   have dd:ds[i].dep<(Dt.tup ds).dep:=by
    have:=dep_mem (List.getElem_mem hi)
    rw[Dt.dep]
    lia
   cases n with
   | zero=>lia
   | succ n=>
    refine⟨v1,v2,ds[i],rfl,IsDt.mono sH.tups d1,IsDt.mono sH.tups d2,hn _ (List.getElem_mem hi),by lia,by lia,fun H6 s6=>⟨_,rfl,?_⟩⟩
    exact iteF ⟨m-1,by lia,sH.trans s6,by lia,rfl⟩
  ·refine .inl ⟨(by show ((ys.length:Int)).toNat<=i;lia),fun l hl'=>⟨(by show 0<=sizeLine;decide),fun l2 hl2=>?_⟩⟩
   refine .inr (.inr ⟨l,l2,[],rfl,rfl,same_new hl2 _ _ _ upd_same,upd_same,?_⟩)
   exact fin _ (sH.trans ((same_new hl' _).trans (same_new hl2 _)))
theorem like_all (T:Tx mg) (Zae:Df K mg "_law_like" (top 42) f fd ["found","due"]) (Zau:Df K mg "_law_whole" (top 41) f_whole fd_whole ["thing"]) (Za4:FnOk P w K mg base CX0 1 f_whole fd_whole ["thing"] spWhole) :
  ∀ n:Nat,FnOk P w K mg base CX0 (n+2) f fd ["found","due"] (spLike n)
 | 0=>ok_like (k:=1) (by decide) T Zae ⟨fun _ _ _ _ h=>h.elim,fun _ _ _ _ _ _ _ _ _ _ _ _ _ h=>h.elim⟩ Zau Za4
 | n+1=>ok_like (k:=n+2) (by lia) T Zae (like_all T Zae Zau Za4 n) Zau Za4
end
end K05
end
section
namespace L2
open PySem PySem.Spec PyProof.Rows
section
variable {X:Cx}
def rStarts2:V->List V->Hp->VK->Prop:=fun x xs H Q=>∃ (a b:Str) (i:Nat),x=.str a/\xs=[.str b,.int i]/\Q (.bl (decide (i+b.length<=a.length) && Builtin.Str.subAt a b i)) H
theorem mt_starts2:MtR X "str.startswith" rStarts2:=by
 intro pins s σ H x xs v us Q I rx rxs h
 obtain⟨a,b,i,rfl,rfl,q⟩:=h
 obtain⟨t,rfl⟩:=rx
 obtain⟨u1,u2,rfl,r1,r2⟩:=rxs.two
 obtain⟨t1,rfl⟩:=r1
 obtain⟨t2,rfl⟩:=r2
 have e:PySem.fromIndex a.length (i:Int)=i:=by
  unfold PySem.fromIndex
  rw[if_neg (by lia)]
  lia
 refine call_gives F.slot_str_startswith (typeIs_str _ _ _) F.entry_str_startswith (F.args_str_startswith_3 _ _ _) (gives_str_startswith_from a b i t t1 t2) ?_
 rw[e]
 exact⟨.bl _,H,I,rfl,q⟩
def rInK:R2:=fun x y H Q=>∃ a o,y=.ref a/\DGet H a x o/\Q (.bl o.isSome) H
theorem op_inK (hu:X.A.units+1<cLine):OpR X (compareOp .In) rInK:=by
 intro pins s σ H x y v u Q I rx ry h
 obtain⟨a,o,rfl,g,q⟩:=h
 obtain rfl:u=Value.ref a:=ry
 exact d_in hu I g rx fun s3 I3=>⟨.bl o.isSome,H,I3,rfl,q⟩
def tMethC (C:Addr) (m:Str) (sp:Sp) (clos:Clos) (ix:List Nat) (E:XK) (ta:TE) (t:TA):TE:=fun σ H Q=>ta σ H fun x H1=>∃ a dx fs,x=.ref a/\H1 a=some (.ins C dx fs)/\fs.lookup m=none /\
 t σ H1 fun vs H2=>∃ ws:List V,(ix.map fun i=>(σ[i]?).join)=ws.map some /\
 ∀ g:Addr->Obj,Paired (fun (p:Str×Addr) v=>CellIs (g p.2) v) clos ws->(∀ b,inC clos b->H2 b=none)->sp (x::vs) (addG H2 clos g) (fun v H'=>(∀ b,inC clos b->H' b=some (.ext (CellO b (g b))))/\Q v (remC H' clos)) E
theorem we_methC {k:Nat}{C f:Addr}{fd:FuncData}{ps:List Str}{sp:Sp}{E:XK}{clos:Clos}{ix:List Nat}{m:Str}{o e:Expr}{es:List Expr}{apos pos:Pos}{ta:TE}{t:TA}{pl:Sem Bool} (cp:CapOk X clos ix) (he:Hd (PE X o ta)) (c:Cls X.K C) (hm:Meth X.K C m f) (F:FnOk X.prog X.w X.K X.mg X.base CX0 k f fd ps sp) (hr:Room k X.A) (hb:Binds X.K fd ps [])
  (ha:Hd (PA X (e::es) t)) (hs:noStars (e::es)=true:=by rfl) (ht:eval (.Call (.Attribute o m apos) (e::es) [] pos) X.env=(do
   let ov <- eval o X.env
   standAt apos.atName
   let (f,first) <- holding [ov] (getMethod ov m pl)
   callWith pos f first (backTo pos (starEach (e::es) X.env)) (backToKw pos (keywordEach [] X.env))):=by rfl) :
  Hd (PE X (.Call (.Attribute o m apos) (e::es) [] pos) (tMethC C m sp clos ix E ta t)):=by
 have h':(notStar e && noStars es)=true:=hs
 rw[Bool.and_eq_true]at h'
 refine⟨fun pins s σ H Q I h=>?_⟩
 refine PySem.W.methodCall_KW (pl:=pl) (thn (he.out pins s σ H _ I h) fun u s1 ⟨x,H1,I1,rx,a,dx,fs,ex,ea,l,q⟩=>?_) ht
 subst ex
 obtain rfl:u=Value.ref a:=rx
 refine getmeth_ok I1 ea c hm l ?_
 refine PySem.W.callWith_K (first:=[.ref a]) (h₀:=X.base) I.ok.mod.kin hm.kp (thn (ha.out pos pins s1 σ H1 _ I1 q) fun us s2 ⟨vs,H2,I2,r,ws,ew,q2⟩=>⟨I2.kIn,?_⟩) (star_cons h'.1) (stars_any h'.2)
 exact run_fnC (us:=.ref a::us) (vs:=.ref a::vs) cp F hr hb I2 (.cons rfl r) ew q2
end
end L2
end
section
namespace K05
open PySem L2 Kn
theorem let_in {c:Nat} (h1:97<=c) (h2:c<=122):c∈(Str.ofString "abcdefghijklmnopqrstuvwxyz").cps.toList:=by
 have:(Str.ofString "abcdefghijklmnopqrstuvwxyz").cps.toList=(List.range 26).map (97 + ·):=by decide +kernel
 rw[this]
 exact List.mem_map.mpr ⟨c-97,List.mem_range.mpr (by lia),by lia⟩
theorem fig_in {c:Nat} (h1:48<=c) (h2:c<=57):c∈(Str.ofString "0123456789").cps.toList:=by
 have:(Str.ofString "0123456789").cps.toList=(List.range 10).map (48 + ·):=by decide +kernel
 rw[this]
 exact List.mem_map.mpr ⟨c-48,List.mem_range.mpr (by lia),by lia⟩
theorem fig_of (i:Int) (hl:(numS i).length<=640):∃ (b:Bool) (fg:Str),Txt.startswith (numS i) (Str.ofString "-")=b/\(if b then fg=Txt.slice (numS i) (some 1) none else fg=numS i)/\fg≠Str.ofString "" /\
  (∀ c∈fg.cps.toList,48<=c/\c<=57)/\fg.length<=640/\∃ c,atI fg.cps.toList 0=some c/\(c≠48\/numS i=Str.ofString "0"):=by
 have e0:(Str.ofString "").cps.toList=[]:=by decide +kernel
 have hat:∀ (c:Nat) (t:List Nat),atI (c::t) 0=some c:=fun c t=>atI_nat (j:=0) (by rfl)
 rw[starts_minus]
 rcases num_shape i with ⟨m,rfl,e,h⟩ | ⟨m,rfl,c,t,e,e2,h⟩
 ·have e:(numS (m:Int)).cps.toList=_:=e
  have hd:∀ c∈(numS (m:Int)).cps.toList,48<=c/\c<=57:=fun c hc=>digit_sign (m:=m) (by rw[<- e];exact hc)
  obtain⟨c,t,ec⟩:∃ c t,(numS (m:Int)).cps.toList=c::t:=by
   cases q:(numS (m:Int)).cps.toList with
   | nil=>rw[q]at e;exact absurd e.symm (digits_ne m)
   | cons c t=>exact⟨c,t,rfl⟩
  refine⟨false,numS m,?_,by simp,fun z=>?_,hd,hl,c,by rw[ec];exact hat c t,?_⟩
  ·rw[ec]
   refine decide_eq_false fun z=>?_
   have:=hd c (by rw[ec];exact List.mem_cons_self)
   have:c=45:=by simpa using z
   lia
  ·rw[z,e0]at ec;cases ec
  ·rcases h with rfl | ⟨c',t',q,hc⟩
   ·exact .inr (by decide +kernel)
   ·have q:(numS (m:Int)).cps.toList=_:=q
    rw[ec]at q;cases q
    exact .inl hc
 ·have e:(numS (-(m:Int))).cps.toList=_:=e
  refine⟨true,⟨(c::t).toArray⟩,?_,?_,fun z=>?_,fun d hd=>digit_sign (m:=m) (by rw[e2];exact hd),?_,c,hat c t,.inl h⟩
  ·rw[e];rfl
  ·rw[if_pos rfl,Kn.cut1 e]
  ·have:=congrArg (fun x:Str=>x.cps.toList) z
   rw[e0]at this;cases this
  ·have:(numS (-(m:Int))).cps.toList.length<=640:=hl
   rw[e]at this
   show (c::t).toArray.size<=640
   simp at this ⊢
   lia
theorem TKN_flat:(TKN.map V.str).all flatV=true:=by decide +kernel
section
variable {P:Program}{w:World}{K:PySem.W.Frag}{mg:Str->Option Value}{base:Heap}{f f_only:Addr}{fd fd_only:FuncData}
theorem Zb0:FnScope ["text","signs"] ["text","signs"] (defScope (top 8)):=⟨rfl,rfl,rfl,by decide +kernel,rfl,by decide +kernel,by decide +kernel⟩
def spOnly:Sp:=fun vs H Q _=>∃ (t s:Str),vs=[.str t,.str s]/\(∀ c∈t.cps.toList,c∈s.cps.toList/\c<128)/\t.length<=1000/\∀ H',Same H H'->Q (.bl true) H'
theorem ok_only (T:Tx mg) (D:Df K mg "only_of" (top 8) f fd ["text","signs"]):FnOk P w K mg base CX0 1 f fd ["text","signs"] spOnly:=by
 refine D.fn.okH Zb0 (fun vs H Q E h=>?_) (fun cdv A outer s H vs Q E hr h=>?_)
 ·obtain⟨t,s,rfl,_⟩:=h;rfl
 obtain⟨t,s,rfl,hs,hl,fin⟩:=h
 have hu:=u110 hr
 have hu0:=u0 hr
 have hu1:=hu_of hr
 refine⟨_,(wss_one (ws_ret (we_callB (call_all rfl) rfl T.z_all bt_all (wa_cons (we_lc (Nt:=["sign"]) (fr:=[("signs",1)]) (LcOk.of (sc:=defScope (top 8)) (N:=["text","signs"]) rfl rfl (by decide +kernel)) rfl (wi_str (wv 0)) (fun z=>wg_name (i:=0) (by show (["sign","signs"]:List Str).Nodup;decide +kernel) rfl (Or.inl rfl) (.inr rfl)) (fun z=>tgt_name (by decide)) (fun z=>wif_nil) (fun z=>(we_cmpR op_inT (wv 0) (wv 1) (by with_unfolding_all rfl)))) wa_nil)))),?_⟩
 have hl:t.cps.size<=1000:=hl
 refine⟨_,rfl,t,rfl,?_,?_⟩
 ·rw[Array.all_eq_true]
  intro i hi
  exact decide_eq_true (hs _ (Array.mem_toList_iff.mpr (Array.getElem_mem hi))).2
 refine⟨fun i m qs H'=>Same H H'/\m+i=t.cps.size/\qs=(List.replicate i true).map V.bl,⟨t.cps.size,.refl _,rfl,rfl⟩,?_⟩
 rintro i m qs H' ⟨sH,hm,rfl⟩
 refine⟨line1 (by rw[List.length_map,List.length_replicate];lia),?_⟩
 by_cases hi:i<t.cps.size
 ·refine .inr ⟨hi,fun z x H5 hy=>?_⟩
  obtain⟨rfl,c,ec,rfl⟩:=hy
  refine gall ?_
  refine⟨_,rfl,_,rfl,_,_,rfl,rfl,?_⟩
  have hc:c∈t.cps.toList:=by rw[<- Array.getElem?_toList]at ec;exact List.mem_of_getElem? ec
  rw[has_one,decide_eq_true (hs c hc).1]
  refine⟨m-1,by lia,sH,by lia,?_⟩
  rw[List.replicate_succ',List.map_append];rfl
 ·refine .inl ⟨by show _<=_;lia,fun l hl'=>⟨l,_,rfl,SqL.of upd_same,?_⟩⟩
  rw[show (List.replicate i true).all id=true from by simp]
  exact fin _ (sH.trans (same_new hl' _))
theorem Zb1:FnScope ["text"] ["text"] (defScope (top 9)):=⟨rfl,rfl,rfl,by decide +kernel,rfl,by decide +kernel,by decide +kernel⟩
theorem ok_isName {aT:Addr}{t1 t2:Tok} (T:Tx mg) (Zb2:mg "LONGEST_NAME"=some (.int 8 t1)) (Zbj:mg "LETTERS"=some (.str "abcdefghijklmnopqrstuvwxyz" t2)) (Zb3:mg "TAKEN_WORDS"=some (.ref aT)) (hTK:∀ H,SqT K H aT (TKN.map V.str)) (D:Df K mg "is_name" (top 9) f fd ["text"])
  (Zap:Df K mg "only_of" (top 8) f_only fd_only ["text","signs"]) (Zbk:FnOk P w K mg base CX0 1 f_only fd_only ["text","signs"] spOnly):FnOk P w K mg base CX0 2 f fd ["text"] (fun vs H Q _=>∃ x,vs=[.str x]/\nmOk x/\∀ H',Same H H'->Q (.bl true) H'):=by
 refine D.fn.okH Zb1 (fun vs H Q E h=>?_) (fun cdv A outer s H vs Q E hr h=>?_)
 ·obtain⟨t,rfl,_⟩:=h;rfl
 obtain⟨x,rfl,nm,fin⟩:=h
 have hu:=u110 hr
 have hu0:=u0 hr
 have hu1:=hu_of hr
 refine⟨_,(wss_one (ws_ret (we_and (we_chain op_le op_le we_int (we_callB call_lenU rfl T.z_len bt_len (wa_cons (wv 0) wa_nil)) (we_glob rfl Zb2 (relv_int _ _))) (we_and (we_call Zbk (hr.mono (by lia)) rfl Zap.mg Zap.kp Zap.b .nil pass0 (wa_cons (wv 0) (wa_cons (we_glob rfl Zbj (relv_str _ _)) wa_nil))) (we_one (we_cmpR (op_notInU hu) (wv 0) (we_glob rfl Zb3 (relv_ref _)) (by with_unfolding_all rfl))))))),?_⟩
 have l1:=nm.1
 have l2:=nm.2.1
 refine⟨_,rfl,.inr ⟨x,rfl,Nat.le_of_lt (line1 (by lia)),_,_,rfl,rfl,_,rfl,?_⟩⟩
 rw[decide_eq_true (show (1:Int)<=(x.length:Int) by lia)]
 refine⟨_,_,rfl,rfl,?_⟩
 refine⟨_,rfl,?_⟩
 rw[decide_eq_true (show (x.length:Int)<=8 by lia)]
 refine iteT ?_
 refine⟨_,rfl,_,_,rfl,fun c hc=>?_,by lia,fun H1 s1=>?_⟩
 ·have:=nm.2.2.1 c hc
  rw[isLet,Bool.and_eq_true,decide_eq_true_eq,decide_eq_true_eq]at this
  exact⟨let_in this.1 this.2,by lia⟩
 refine⟨_,rfl,_,rfl,.inl ⟨aT,_,rfl,.inr (hTK H1),rfl,TKN_flat,?_⟩⟩
 have:inV (V.str x) (TKN.map V.str)=false:=by
  cases q:inV (V.str x) (TKN.map V.str) with
  | false=>rfl
  | true=>exact absurd ((inV_str x TKN).mp q) nm.2.2.2
 rw[this]
 exact fin H1 s1
theorem ZbD:FnScope ["text","figures"] ["text"] (defScope (top 10)):=⟨rfl,rfl,rfl,by decide +kernel,rfl,by decide +kernel,by decide +kernel⟩
theorem ok_numberOf {t1:Tok} (T:Tx mg) (Zbl:mg "FIGURES"=some (.str "0123456789" t1)) (D:Df K mg "number_of" (top 10) f fd ["text"])
  (Zap:Df K mg "only_of" (top 8) f_only fd_only ["text","signs"]) (Zbk:FnOk P w K mg base CX0 1 f_only fd_only ["text","signs"] spOnly) :
  FnOk P w K mg base CX0 2 f fd ["text"] (fun vs H Q _=>∃ i,vs=[.str (numS i)]/\(numS i).length<=640/\∀ H',Same H H'->Q (.int i) H'):=by
 refine D.fn.okH ZbD (fun vs H Q E h=>?_) (fun cdv A outer s H vs Q E hr h=>?_)
 ·obtain⟨t,rfl,_⟩:=h;rfl
 obtain⟨i,rfl,hl,fin⟩:=h
 have hu:=u110 hr
 have hu0:=u0 hr
 have hu1:=hu_of hr
 refine⟨_,(wss_cons (ws_set (i:=1) ZbD.nd rfl (Or.inl rfl) (we_ifExp (wt_val (we_bm PySem.F.plainAttrs_str PySem.F.slot_str_startswith PySem.F.type_str_startswith mt_starts (wv 0) (wa_cons we_str wa_nil))) (we_slice sl_U (wv 0) (wo_some we_int) wo_none) (wv 0)))
   (wss_cons (ws_if (wt_pw (ww_or (wt_cmpR (op_eqU hu) (wv 1) we_str (nomark _)) (ww_or1 (wt_not (wt_val (we_call Zbk (hr.mono (by lia)) rfl Zap.mg Zap.kp Zap.b .nil pass0 (wa_cons (wv 1) (wa_cons (we_glob rfl Zbl (relv_str _ _)) wa_nil)))))))) (wss_one (ws_ret we_non)) wss_nil)
   (wss_cons (ws_if (wt_pw (ww_and (wt_cmpR (op_eqU hu) (we_ix (ix_U hu1) (wv 1) we_int (fun _ _=>rfl)) we_str (nomark _)) (ww_and1 (wt_cmpR (op_neU hu) (wv 0) we_str (nomark _))))) (wss_one (ws_ret we_non)) wss_nil)
   (wss_one (ws_ret (we_callTy call_intT rfl T.z_int bt_int (wa_cons (wv 0) wa_nil))))))),?_⟩
 have hread:=num_read hl
 obtain⟨b,fg,eb,efg,fne,fd',fl,c,hc,hz⟩:=fig_of i hl
 have hsl:(numS i).length<=sizeLine:=Nat.le_of_lt (line1 (by lia))
 have e1:∀ z:Str,decide (V.str z=V.str (Str.ofString "0"))=decide (z=Str.ofString "0"):=fun z=>by simp
 generalize numS i=tx at hl hread eb efg hz hsl ⊢
 refine⟨_,rfl,rfl,_,_,rfl,rfl,_,rfl,?_⟩
 rw[eb]
 cases b
 case' true=>
  refine iteT ?_
  refine⟨_,rfl,_,rfl,.inr (.inr (.inr ⟨_,rfl,hsl,?_⟩))⟩
  rw[if_pos rfl]at efg
  rw[<- efg]
 case' false=>
  refine iteF ?_
  rw[if_neg (by decide)]at efg
  refine⟨_,rfl,?_⟩
  subst efg
 all_goals
  refine⟨_,rfl,.inl ⟨rfl,_,rfl,?_⟩⟩
  rw[decide_eq_false (fun z=>fne (V.str.inj z))]
  refine iteF ?_
  refine⟨_,rfl,_,_,rfl,fun d hd=>⟨fig_in (fd' d hd).1 (fd' d hd).2,by have:=fd' d hd;lia⟩,by lia,fun H1 s1=>⟨_,rfl,iteF ?_⟩⟩
  refine⟨_,rfl,.inr (.inr (.inl ⟨_,_,_,rfl,rfl,Nat.le_of_lt (line1 (by lia)),hc,.inl ⟨rfl,_,rfl,?_⟩⟩))⟩
  have hend:tRet (tCB rIntT (tCons (tVar 0) tNil)) { nx:=fun x H'=>Q V.non H',rt:=Q } [some (.str _),some (.str fg)] H1:=⟨_,rfl,_,i,rfl,hread,hl,fin H1 s1⟩
  refine ite2 (fun e3=>?_) (fun e3=>hend)
  have ez:c=48:=by
   have:=V.str.inj (of_decide_eq_true e3)
   have:=congrArg (fun x:Str=>x.cps.toList) this
   have e0:(Str.ofString "0").cps.toList=[48]:=by decide +kernel
   rw[e0]at this
   simpa using this
  refine⟨_,rfl,.inl ⟨rfl,_,rfl,?_⟩⟩
  rw[decide_eq_true (congrArg V.str (hz.resolve_left (fun n=>n ez)))]
  exact iteF hend
end
end K05
end
section
namespace K05
open PySem L2 Kn
def AtT (s:Str) (i:Nat) (zs r:List Nat):Prop:=s.cps.toList.drop i=zs++r
theorem AtT.split {s:Str}{i:Nat}{a b r:List Nat} (h:AtT s i (a++b) r):AtT s i a (b++r)/\AtT s (i+a.length) b r:=by
 unfold AtT at h ⊢
 refine⟨by rw[h,List.append_assoc],?_⟩
 rw[<- List.drop_drop,h,List.append_assoc,List.drop_left]
theorem AtT.le {s:Str}{i:Nat}{zs r:List Nat} (h:AtT s i zs r) (hi:i<=s.length):i+zs.length+r.length=s.length:=by
 have h1:=congrArg List.length h
 have h2:s.cps.toList.length=s.length:=Array.length_toList
 rw[List.length_drop,List.length_append,h2]at h1
 lia
def has (s p:Str) (i:Nat):Bool:=decide (i+p.length<=s.length) && Builtin.Str.subAt s p i
theorem has_yes {s p:Str}{i:Nat}{r:List Nat} (hi:i<=s.length) (h:AtT s i p.cps.toList r):has s p i=true:=by
 have hp:p.cps.toList.length=p.length:=Array.length_toList
 have hl:=h.le hi
 unfold AtT at h
 unfold has
 rw[decide_eq_true (by lia),StrLaws.subAt_eq,h,<- hp,List.take_left]
 simp
theorem has_no {s p:Str}{i:Nat}{c:Nat}{ps zs:List Nat} (hp:p.cps.toList=c::ps) (h:s.cps.toList.drop i=zs) (hz:∀ d t,zs=d::t->d≠c):has s p i=false:=by
 unfold has
 rw[StrLaws.subAt_eq,h]
 have hl:p.length=ps.length+1:=by
  have:p.cps.toList.length=p.length:=Array.length_toList
  rw[hp]at this;simpa using this.symm
 rw[hl,hp]
 cases zs with
 | nil=>simp
 | cons d t=>
  have:=hz d t rfl
  simp [this]
theorem cut_mid {s:Str}{i:Nat}{zs r:List Nat} (h:AtT s i zs r) (hi:i<=s.length):Txt.slice s (some (i:Int)) (some ((i+zs.length:Nat):Int))=⟨zs.toArray⟩:=by
 have hl:=h.le hi
 have htl:s.cps.toList.length=s.length:=Array.length_toList
 show StrLaws.sliceText s _ _=_
 rw[StrLaws.sliceText_plain ⟨by lia,by lia,by rw[htl];lia⟩,Int.toNat_natCast,show ((i+zs.length:Nat):Int)-(i:Int)=((zs.length:Nat):Int) by lia,Int.toNat_natCast,h,List.take_left]
theorem let_is {c:Nat} (h:c∈(Str.ofString "abcdefghijklmnopqrstuvwxyz").cps.toList):isLet c=true:=by
 have:∀ c∈(Str.ofString "abcdefghijklmnopqrstuvwxyz").cps.toList,isLet c=true:=by decide +kernel
 exact this c h
theorem num_is {c:Nat} (h:c∈(Str.ofString "-"++Str.ofString "0123456789").cps.toList):isNum c=true:=by
 have:∀ c∈(Str.ofString "-"++Str.ofString "0123456789").cps.toList,isNum c=true:=by decide +kernel
 exact this c h
theorem num_in {c:Nat}{i:Int} (h:c∈dg i):c∈(Str.ofString "-"++Str.ofString "0123456789").cps.toList:=by
 have e:(Str.ofString "-"++Str.ofString "0123456789").cps.toList=45::(List.range 10).map (48 + ·):=by decide +kernel
 have hd:∀ {d:Nat},48<=d->d<=57->d∈(List.range 10).map (48 + ·):=fun {d} h1 h2=>List.mem_map.mpr ⟨d-48,List.mem_range.mpr (by lia),by lia⟩
 rw[e]
 rcases num_shape i with ⟨m,rfl,e,_⟩ | ⟨m,rfl,c',t,e,e2,_⟩
 ·rw[e]at h
  have:=digit_sign h
  exact List.mem_cons_of_mem _ (hd this.1 this.2)
 ·rw[e]at h
  rcases List.mem_cons.mp h with rfl | h
  ·exact List.mem_cons_self
  ·rw[<- e2]at h
   have:=digit_sign h
   exact List.mem_cons_of_mem _ (hd this.1 this.2)
abbrev fR (s:Str) (i:Int):List (Str×V):=[(Str.ofString "text",.str s),(Str.ofString "place",.int i)]
structure Wd (C:Addr) (H:Hp) (x dx:Addr) (s:Str) (i:Nat):Prop where
 at_:H x=some (.ins C dx (fR s (i:Int)))
 le:i<=s.length
 ln:s.length<=10000
theorem Wd.keep {C:Addr}{H H':Hp}{x dx:Addr}{s:Str}{i:Nat} (h:Wd C H x dx s i) (z:Same H H'):Wd C H' x dx s i:=⟨z _ _ h.at_,h.le,h.ln⟩
theorem lkt (s:Str) (i:Int):(fR s i).lookup (Str.ofString "text")=some (.str s):=rfl
theorem lkp (s:Str) (i:Int):(fR s i).lookup (Str.ofString "place")=some (.int i):=rfl
structure NA (K:PySem.W.Frag) (C:Addr):Prop where
 text:NoAttr K C (Str.ofString "text")
 place:NoAttr K C (Str.ofString "place")
section
variable {P:Program}{w:World}{K:PySem.W.Frag}{mg:Str->Option Value}{base:Heap}{f f1 f2 f3:Addr}{fd fd1 fd2 fd3:FuncData}{C:Addr}
theorem Zb4:FnScope ["self","text"] ["self","text"] (defScope (mtop 11 0)):=⟨rfl,rfl,rfl,by decide +kernel,rfl,by decide +kernel,by decide +kernel⟩
def spInit (C:Addr):Sp:=fun vs H Q _=>∃ (x dx:Addr) (t:Str),vs=[.ref x,.str t]/\t.length<=10000/\H x=some (.ins C dx []) /\
 ∀ (H':Hp),(∀ b o,b≠x->H b=some o->H' b=some o)->Wd C H' x dx t 0->Q .non H'
theorem ok_init (T:Tx mg) (Zab:Cls K C) (N:NA K C) (D:Mf K C "__init__" "Reader.__init__" (mtop 11 0) f fd ["self","text"]):FnOk P w K mg base CX0 1 f fd ["self","text"] (spInit C):=by
 refine D.fn.okH Zb4 (fun vs H Q E h=>?_) (fun cdv A outer s H vs Q E hr h=>?_)
 ·obtain⟨x,dx,t,rfl,_⟩:=h;rfl
 obtain⟨x,dx,t,rfl,lt,hx,fin⟩:=h
 have hu:=u110 hr
 have hu0:=u0 hr
 have hu1:=hu_of hr
 refine⟨_,(wss_cons (ws_fld (wv 0) (wv 1))
   (wss_one (ws_fld (wv 0) we_int))),?_⟩
 refine⟨_,rfl,_,rfl,x,C,dx,[],rfl,hx,Zab,N.text,by decide,?_⟩
 rw[show putF (Str.ofString "text") (V.str t) []=[(Str.ofString "text",.str t)] from by rw[putF]]
 refine⟨_,rfl,x,C,dx,_,rfl,upd_same,Zab,N.place,by simp,?_⟩
 rw[show putF (Str.ofString "place") (V.int 0) [(Str.ofString "text",.str t)]=fR t ((0:Nat):Int) from by rw[putF,if_neg (by decide +kernel),putF];rfl]
 exact fin _ (fun b o n e=>by rw[upd_ne n,upd_ne n];exact e) ⟨upd_same,Nat.zero_le _,lt⟩
theorem Wd.put {H:Hp}{x dx:Addr}{s:Str}{i j:Nat} (h:Wd C H x dx s i) (hj:j<=s.length):Wd C (upd H x (.ins C dx (fR s (j:Int)))) x dx s j:=⟨upd_same,hj,h.ln⟩
theorem put_pl (s:Str) (i j:Int):putF (Str.ofString "place") (V.int j) (fR s i)=fR s j:=by rw[putF,if_neg (by decide +kernel),putF,if_pos rfl]
theorem Zb5:FnScope ["self","piece"] ["self","piece"] (defScope (mtop 11 1)):=⟨rfl,rfl,rfl,by decide +kernel,rfl,by decide +kernel,by decide +kernel⟩
def spTakes (C:Addr):Sp:=fun vs H Q _=>∃ (x dx:Addr) (s p:Str) (i:Nat),vs=[.ref x,.str p]/\p.length<=1000/\Wd C H x dx s i /\
 (has s p i=true->∀ H',Ex x H H'->Wd C H' x dx s (i+p.length)->Q (.bl true) H')/\(has s p i=false->Q (.bl false) H)
theorem has_le {s p:Str}{i:Nat} (h:has s p i=true):i+p.length<=s.length:=by
 unfold has at h
 rw[Bool.and_eq_true,decide_eq_true_eq]at h
 exact h.1
theorem ok_takes (T:Tx mg) (Zab:Cls K C) (N:NA K C) (D:Mf K C "takes" "Reader.takes" (mtop 11 1) f fd ["self","piece"]):FnOk P w K mg base CX0 1 f fd ["self","piece"] (spTakes C):=by
 refine D.fn.okH Zb5 (fun vs H Q E h=>?_) (fun cdv A outer s H vs Q E hr h=>?_)
 ·obtain⟨x,dx,s,p,i,rfl,_⟩:=h;rfl
 obtain⟨x,dx,t,p,i,rfl,lp,wd,yes,no⟩:=h
 have hu:=u110 hr
 have hu0:=u0 hr
 have hu1:=hu_of hr
 refine⟨_,(wss_cons (ws_if (wt_not (wt_val (we_bm PySem.F.plainAttrs_str PySem.F.slot_str_startswith PySem.F.type_str_startswith mt_starts2 (we_fld (wv 0)) (wa_cons (wv 1) (wa_cons (we_fld (wv 0)) wa_nil))))) (wss_one (ws_ret we_bl)) wss_nil)
   (wss_cons (ws_fldaug (wv 0) (we_callB call_lenU rfl T.z_len bt_len (wa_cons (wv 1) wa_nil)) in_add)
   (wss_one (ws_ret we_bl)))),?_⟩
 refine⟨_,rfl,x,C,dx,_,_,rfl,wd.at_,Zab,N.text,lkt t _,rfl,_,rfl,_,rfl,x,C,dx,_,_,rfl,wd.at_,Zab,N.place,lkp t _,t,p,i,rfl,rfl,_,rfl,?_⟩
 show if (!has t p i)=true then _ else _
 cases hb:has t p i with
 | false=>exact iteT (no hb)
 | true=>
  refine iteF ?_
  refine⟨_,rfl,x,C,dx,_,_,rfl,wd.at_,Zab,N.place,lkp t _,_,rfl,.inr ⟨p,rfl,Nat.le_of_lt (line1 (by lia)),_,_,rfl,rfl,dx,_,wd.at_,(by show 2<1000;decide),?_⟩⟩
  rw[put_pl,show (i:Int)+(p.length:Int)=((i+p.length:Nat):Int) by lia]
  exact yes hb _ ex_upd (wd.put (has_le hb))
theorem Zb6:FnScope ["self","piece"] ["self","piece"] (defScope (mtop 11 2)):=⟨rfl,rfl,rfl,by decide +kernel,rfl,by decide +kernel,by decide +kernel⟩
def spNeeds (C:Addr):Sp:=fun vs H Q _=>∃ (x dx:Addr) (s p:Str) (i:Nat),vs=[.ref x,.str p]/\p.length<=1000/\Wd C H x dx s i/\has s p i=true/\∀ H',Ex x H H'->Wd C H' x dx s (i+p.length)->Q .non H'
theorem ok_needs (T:Tx mg) (Zab:Cls K C) (D:Mf K C "needs" "Reader.needs" (mtop 11 2) f fd ["self","piece"])
  (Zaf:Mf K C "takes" "Reader.takes" (mtop 11 1) f1 fd1 ["self","piece"]) (Zan:FnOk P w K mg base CX0 1 f1 fd1 ["self","piece"] (spTakes C)):FnOk P w K mg base CX0 2 f fd ["self","piece"] (spNeeds C):=by
 refine D.fn.okH Zb6 (fun vs H Q E h=>?_) (fun cdv A outer s H vs Q E hr h=>?_)
 ·obtain⟨x,dx,s,p,i,rfl,_⟩:=h;rfl
 obtain⟨x,dx,t,p,i,rfl,lp,wd,hb,fin⟩:=h
 have hu:=u110 hr
 have hu0:=u0 hr
 have hu1:=hu_of hr
 refine⟨_,(wss_one (ws_if (wt_not (wt_val (we_meth (wv 0) Zab Zaf.mt Zan (hr.mono (by lia)) Zaf.b .nil pass0 (wa_cons (wv 1) wa_nil)))) (wss_one ws_dead) wss_nil)),?_⟩
 exact⟨_,rfl,x,dx,_,rfl,wd.at_,rfl,_,rfl,x,dx,t,p,i,rfl,lp,wd,fun _ H1 ex1 wd1=>⟨_,rfl,iteF (fin H1 ex1 wd1)⟩,fun z=>by rw[hb]at z;cases z⟩
theorem Zb7:FnScope ["self"] ["self"] (defScope (mtop 11 4)):=⟨rfl,rfl,rfl,by decide +kernel,rfl,by decide +kernel,by decide +kernel⟩
def spEnd (C:Addr):Sp:=fun vs H Q _=>∃ x dx s i,vs=[.ref x]/\Wd C H x dx s i/\Q (.bl (decide (i=s.length))) H
theorem ok_atEnd (T:Tx mg) (Zab:Cls K C) (N:NA K C) (D:Mf K C "at_end" "Reader.at_end" (mtop 11 4) f fd ["self"]):FnOk P w K mg base CX0 1 f fd ["self"] (spEnd C):=by
 refine D.fn.okH Zb7 (fun vs H Q E h=>?_) (fun cdv A outer s H vs Q E hr h=>?_)
 ·obtain⟨x,dx,s,i,rfl,_⟩:=h;rfl
 obtain⟨x,dx,t,i,rfl,wd,fin⟩:=h
 have hu:=u110 hr
 have hu0:=u0 hr
 have hu1:=hu_of hr
 refine⟨_,(wss_one (ws_ret (we_cmpR (op_eqU hu) (we_fld (wv 0)) (we_callB call_lenU rfl T.z_len bt_len (wa_cons (we_fld (wv 0)) wa_nil)) (nomark _)))),?_⟩
 have ln:=wd.ln
 refine⟨_,rfl,x,C,dx,_,_,rfl,wd.at_,Zab,N.place,lkp t _,?_⟩
 refine⟨_,rfl,x,C,dx,_,_,rfl,wd.at_,Zab,N.text,lkt t _,.inr ⟨t,rfl,Nat.le_of_lt (line1 (by lia)),.inl ⟨rfl,?_⟩⟩⟩
 rw[show decide (V.int (i:Int)=V.int (t.length:Int))=decide (i=t.length) from by simp [Int.ofNat_inj]]
 exact fin
theorem ZbE:FnScope ["self","signs","start"] ["self","signs"] (defScope (mtop 11 5)):=⟨rfl,rfl,rfl,by decide +kernel,rfl,by decide +kernel,by decide +kernel⟩
def spRun (C:Addr):Sp:=fun vs H Q _=>∃ (x dx:Addr) (s g:Str) (i:Nat) (zs r:List Nat),vs=[.ref x,.str g]/\Wd C H x dx s i/\AtT s i zs r/\(∀ c∈zs,c∈g.cps.toList)/\(∀ c t,r=c::t->c ∉ g.cps.toList) /\
 ∀ H',Ex x H H'->Wd C H' x dx s (i+zs.length)->Q (.str ⟨zs.toArray⟩) H'
theorem ok_run (T:Tx mg) (Zab:Cls K C) (N:NA K C) (D:Mf K C "run_of" "Reader.run_of" (mtop 11 5) f fd ["self","signs"])
  (Za5:Mf K C "at_end" "Reader.at_end" (mtop 11 4) f1 fd1 ["self"]) (Zbm:FnOk P w K mg base CX0 1 f1 fd1 ["self"] (spEnd C)):FnOk P w K mg base CX0 2 f fd ["self","signs"] (spRun C):=by
 refine D.fn.okH ZbE (fun vs H Q E h=>?_) (fun cdv A outer s H vs Q E hr h=>?_)
 ·obtain⟨x,dx,s,g,i,zs,r,rfl,_⟩:=h;rfl
 obtain⟨x,dx,t,g,i,zs,r,rfl,wd,hat,hin,hout,fin⟩:=h
 have hu:=u110 hr
 have hu0:=u0 hr
 have hu1:=hu_of hr
 refine⟨_,(wss_cons (ws_set (i:=2) ZbE.nd rfl (Or.inl rfl) (we_fld (wv 0)))
   (wss_cons (ws_while PassesOwn.never (wt_pw (ww_and (wt_not (wt_val (we_meth0 (wv 0) Zab Za5.mt Zbm (hr.mono (by lia)) Za5.b .nil pass0))) (ww_and1 (wt_cmpR op_inT (we_ix (ix_U hu1) (we_fld (wv 0)) (we_fld (wv 0)) (fun _ _=>rfl)) (wv 1) (by with_unfolding_all rfl))))) (wss_one (ws_fldaug (wv 0) we_int in_add)))
   (wss_one (ws_ret (we_slice sl_U (we_fld (wv 0)) (wo_some (wv 2)) (wo_some (we_fld (wv 0)))))))),?_⟩
 have ln:=wd.ln
 have hle:=hat.le wd.le
 have hsz:t.length<=sizeLine:=Nat.le_of_lt (line1 (by lia))
 have htl:t.cps.toList.length=t.length:=Array.length_toList
 have nth:∀ j c,(zs++r)[j]?=some c->t.cps.toList[i+j]?=some c:=fun j c e=>by rw[<- hat,List.getElem?_drop]at e;exact e
 refine seqH fun N1 to1=>⟨_,rfl,x,C,dx,_,_,rfl,wd.at_,Zab,N.place,lkp t _,to1 _ _ ?_⟩
 refine seqH fun N2 to2=>?_
 refine⟨fun m σ H'=>∃ j:Nat,m+j=zs.length/\σ=[some (.ref x),some (.str g),some (.int (i:Int))]/\Ex x H H'/\Wd C H' x dx t (i+j),⟨zs.length,0,rfl,rfl,fun _ _ _ e=>e,wd⟩,?_⟩
 rintro m σ H1 ⟨j,hm,rfl,ex1,wd1⟩
 refine⟨_,rfl,x,dx,_,rfl,wd1.at_,rfl,x,dx,t,_,rfl,wd1,_,rfl,?_⟩
 have fin':j=zs.length->N2 [some (.ref x),some (.str g),some (.int (i:Int))] H1:=fun hj=>by
  subst hj
  refine to2 _ _ ⟨_,rfl,x,C,dx,_,_,rfl,wd1.at_,Zab,N.text,lkt t _,_,rfl,_,rfl,_,rfl,x,C,dx,_,_,rfl,wd1.at_,Zab,N.place,lkp t _,_,rfl,.inr (.inr (.inr ⟨t,rfl,hsz,?_⟩))⟩
  have:Txt.slice t (some (i:Int)) (some ((i+zs.length:Nat):Int))=⟨zs.toArray⟩:=cut_mid hat wd.le
  rw[this]
  exact fin _ ex1 wd1
 by_cases he:i+j=t.length
 ·rw[decide_eq_true he]
  refine iteF (iteF ?_)
  exact fin' (by lia)
 ·rw[decide_eq_false he]
  refine iteT ?_
  have hjl:j<(zs++r).length:=by rw[List.length_append];lia
  obtain⟨c,hc⟩:∃ c,(zs++r)[j]?=some c:=⟨_,List.getElem?_eq_getElem hjl⟩
  refine⟨_,rfl,x,C,dx,_,_,rfl,wd1.at_,Zab,N.text,lkt t _,?_⟩
  refine⟨_,rfl,x,C,dx,_,_,rfl,wd1.at_,Zab,N.place,lkp t _,.inr (.inr (.inl ⟨t,_,c,rfl,rfl,hsz,atI_nat (nth j c hc),?_⟩))⟩
  refine⟨_,rfl,_,_,rfl,rfl,_,rfl,?_⟩
  rw[has_one]
  by_cases hj:j<zs.length
  ·have hcz:c∈zs:=by rw[List.getElem?_append_left hj]at hc;exact List.mem_of_getElem? hc
   rw[decide_eq_true (hin c hcz)]
   refine iteT ⟨fun σ H'=>σ=[some (.ref x),some (.str g),some (.int (i:Int))]/\Ex x H H'/\Wd C H' x dx t (i+(j+1)),fun σ' H' ⟨h1,h2,h3⟩=>⟨m-1,by lia,j+1,by lia,h1,h2,h3⟩,?_⟩
   refine⟨_,rfl,x,C,dx,_,_,rfl,wd1.at_,Zab,N.place,lkp t _,_,_,rfl,rfl,dx,_,wd1.at_,(by show 2<1000;decide),rfl,fun b o n e=>?_,?_⟩
   ·rw[upd_ne n];exact ex1 b o n e
   ·rw[put_pl,show ((i+j:Nat):Int)+1=((i+(j+1):Nat):Int) by lia]
    exact wd1.put (by lia)
  ·have hcr:∃ r',r=c::r':=by
    rw[List.getElem?_append_right (by lia)]at hc
    have:j-zs.length=0:=by lia
    rw[this]at hc
    cases r with
    | nil=>cases hc
    | cons d r'=>simp at hc;subst hc;exact⟨_,rfl⟩
   obtain⟨r',er⟩:=hcr
   rw[decide_eq_false (hout c r' er)]
   exact iteF (fin' (by lia))
theorem ZbF:FnScope ["self","name"] ["self"] (defScope (mtop 11 6)):=⟨rfl,rfl,rfl,by decide +kernel,rfl,by decide +kernel,by decide +kernel⟩
def spNm (C:Addr):Sp:=fun vs H Q _=>∃ (x dx:Addr) (s:Str) (i:Nat) (z:Str) (r:List Nat),vs=[.ref x]/\Wd C H x dx s i/\AtT s i z.cps.toList r/\nmOk z/\stop r/\∀ H',Ex x H H'->Wd C H' x dx s (i+z.length)->Q (.str z) H'
theorem ok_nm {t2:Tok} (T:Tx mg) (Zbj:mg "LETTERS"=some (.str "abcdefghijklmnopqrstuvwxyz" t2)) (Zab:Cls K C) (D:Mf K C "name" "Reader.name" (mtop 11 6) f fd ["self"])
  (Za6:Mf K C "run_of" "Reader.run_of" (mtop 11 5) f1 fd1 ["self","signs"]) (Zbn:FnOk P w K mg base CX0 2 f1 fd1 ["self","signs"] (spRun C))
  (ZaR:Df K mg "is_name" (top 9) f2 fd2 ["text"]) (Zb8:FnOk P w K mg base CX0 2 f2 fd2 ["text"] (fun vs H Q _=>∃ x,vs=[.str x]/\nmOk x/\∀ H',Same H H'->Q (.bl true) H')):FnOk P w K mg base CX0 3 f fd ["self"] (spNm C):=by
 refine D.fn.okH ZbF (fun vs H Q E h=>?_) (fun cdv A outer s H vs Q E hr h=>?_)
 ·obtain⟨x,dx,s,i,z,r,rfl,_⟩:=h;rfl
 obtain⟨x,dx,t,i,z,r,rfl,wd,hat,nm,st,fin⟩:=h
 have hu:=u110 hr
 have hu0:=u0 hr
 have hu1:=hu_of hr
 refine⟨_,(wss_cons (ws_set (i:=1) ZbF.nd rfl (Or.inl rfl) (we_meth (wv 0) Zab Za6.mt Zbn (hr.mono (by lia)) Za6.b .nil pass0 (wa_cons (we_glob rfl Zbj (relv_str _ _)) wa_nil)))
   (wss_cons (ws_if (wt_not (wt_val (we_call Zb8 (hr.mono (by lia)) rfl ZaR.mg ZaR.kp ZaR.b .nil pass0 (wa_cons (wv 1) wa_nil)))) (wss_one ws_dead) wss_nil)
   (wss_one (ws_ret (wv 1))))),?_⟩
 have hz:z.cps.toList.length=z.length:=Array.length_toList
 refine⟨_,rfl,x,dx,_,rfl,wd.at_,rfl,x,dx,t,_,i,_,r,rfl,wd,hat,fun c hc=>?_,fun c t' e hc=>?_,fun H1 ex1 wd1=>?_⟩
 ·have:=nm.2.2.1 c hc
  rw[isLet,Bool.and_eq_true,decide_eq_true_eq,decide_eq_true_eq]at this
  exact let_in this.1 this.2
 ·have:=(st c t' e).2
  rw[let_is hc]at this
  cases this
 rw[hz]at wd1
 refine⟨_,rfl,z,rfl,nm,fun H2 s2=>⟨_,rfl,iteF ⟨_,rfl,fin H2 (fun b o n e=>s2 _ _ (ex1 b o n e)) (wd1.keep s2)⟩⟩⟩
theorem ZbG:FnScope ["self","number"] ["self"] (defScope (mtop 11 7)):=⟨rfl,rfl,rfl,by decide +kernel,rfl,by decide +kernel,by decide +kernel⟩
def spNumb (C:Addr):Sp:=fun vs H Q _=>∃ (x dx:Addr) (s:Str) (i:Nat) (n:Int) (r:List Nat),vs=[.ref x]/\Wd C H x dx s i/\AtT s i (dg n) r/\n.natAbs<10 ^ 34/\stop r/\∀ H',Ex x H H'->Wd C H' x dx s (i+(dg n).length)->Q (.int n) H'
theorem ok_numb {t2:Tok} (T:Tx mg) (Zbl:mg "FIGURES"=some (.str "0123456789" t2)) (Zab:Cls K C) (D:Mf K C "number" "Reader.number" (mtop 11 7) f fd ["self"])
  (Za6:Mf K C "run_of" "Reader.run_of" (mtop 11 5) f1 fd1 ["self","signs"]) (Zbn:FnOk P w K mg base CX0 2 f1 fd1 ["self","signs"] (spRun C))
  (ZaS:Df K mg "number_of" (top 10) f2 fd2 ["text"]) (Zb9:FnOk P w K mg base CX0 2 f2 fd2 ["text"] (fun vs H Q _=>∃ i,vs=[.str (numS i)]/\(numS i).length<=640/\∀ H',Same H H'->Q (.int i) H')):FnOk P w K mg base CX0 3 f fd ["self"] (spNumb C):=by
 refine D.fn.okH ZbG (fun vs H Q E h=>?_) (fun cdv A outer s H vs Q E hr h=>?_)
 ·obtain⟨x,dx,s,i,n,r,rfl,_⟩:=h;rfl
 obtain⟨x,dx,t,i,n,r,rfl,wd,hat,bn,st,fin⟩:=h
 have hu:=u110 hr
 have hu0:=u0 hr
 have hu1:=hu_of hr
 refine⟨_,(wss_cons (ws_set (i:=1) ZbG.nd rfl (Or.inl rfl) (we_call Zb9 (hr.mono (by lia)) rfl ZaS.mg ZaS.kp ZaS.b .nil pass0 (wa_cons (we_meth (wv 0) Zab Za6.mt Zbn (hr.mono (by lia)) Za6.b .nil pass0 (wa_cons (we_op op_plus we_str (we_glob rfl Zbl (relv_str _ _))) wa_nil)) wa_nil)))
   (wss_cons (ws_if (wt_cmpR op_isN (wv 1) we_non (nomark _)) (wss_one ws_dead) wss_nil)
   (wss_one (ws_ret (wv 1))))),?_⟩
 refine⟨_,rfl,x,dx,_,rfl,wd.at_,rfl,.inr (.inl ⟨_,_,rfl,rfl,(by decide +kernel),?_⟩)⟩
 refine⟨x,dx,t,_,i,_,r,rfl,wd,hat,fun c hc=>num_in hc,fun c t' e hc=>?_,fun H1 ex1 wd1=>?_⟩
 ·have:=(st c t' e).1
  rw[num_is hc]at this
  cases this
 rw[show (⟨(dg n).toArray⟩:Str)=numS n from rfl]
 refine⟨n,rfl,Nat.le_trans (dg_len bn) (by decide),fun H2 s2=>?_⟩
 exact⟨_,rfl,rfl,_,rfl,iteF ⟨_,rfl,fin H2 (fun b o n e=>s2 _ _ (ex1 b o n e)) (wd1.keep s2)⟩⟩
end
end K05
end
section
namespace K05
open PySem L2 Kn
def lamE1:Expr:=match (defBody (top 23)).getD 3 (.Pass ⟨0,0,0,0⟩) with
 | .If _ [.Return (some (.Call _ [.Call _ [_,e] _ _] _ _)) _] _ _=>e
 | _=>.Name "" ⟨0,0,0,0⟩
def lamE2:Expr:=match (defBody (top 24)).getD 1 (.Pass ⟨0,0,0,0⟩) with
 | .For _ (.Call _ [_,e] _ _) _ _ _=>e
 | _=>.Name "" ⟨0,0,0,0⟩
def lamP (e:Expr):Arguments:=match e with
 | .Lambda p _ _ _=>p
 | _=>defArgs (.Pass ⟨0,0,0,0⟩)
def lamB (e:Expr):Expr:=match e with
 | .Lambda _ b _ _=>b
 | e=>e
def lamS (e:Expr):Scope:=match e with
 | .Lambda _ _ s _=>s
 | _=>defScope (.Pass ⟨0,0,0,0⟩)
def lamQ (e:Expr):Pos:=match e with
 | .Lambda _ _ _ q=>q
 | _=>⟨0,0,0,0⟩
theorem sc_lam1:LamScope [] ["reader","depth"] (lamS lamE1):=⟨rfl,rfl,rfl,by decide +kernel,by decide +kernel,by decide +kernel,by decide +kernel,by decide +kernel⟩
theorem sc_lam2:LamScope [] ["reader","depth"] (lamS lamE2):=⟨rfl,rfl,rfl,by decide +kernel,by decide +kernel,by decide +kernel,by decide +kernel,by decide +kernel⟩
def lamN1:Str:=(Str.ofString "read_value"++".<locals>.")++"<lambda>"
def lamN2:Str:=(Str.ofString "read_row"++".<locals>.")++"<lambda>"
def clo (L:Addr):Clos:=[(Str.ofString "reader",L+1),(Str.ofString "depth",L+2)]
theorem cl1 (L f:Addr) (cd:Value):closureFor (lamS lamE1) (PyProof.Rows.envOfC "read_value" (defScope (top 23)) L f cd)=pure (clo L):=by rfl
theorem cl2 (L f:Addr) (cd:Value):closureFor (lamS lamE2) (PyProof.Rows.envOfC "read_row" (defScope (top 24)) L f cd)=pure (clo L):=by rfl
theorem clo_inj (L:Addr):ClosInj (clo L):=fun x y c h1 h2=>by
 have hl:∀ {z:Str},(clo L).lookup z=some c->(z=Str.ofString "reader"/\c=L+1)\/(z=Str.ofString "depth"/\c=L+2):=fun {z} h=>by
  have:=PySem.mem_of_lookup h
  simp only[clo,List.mem_cons,Prod.mk.injEq,List.not_mem_nil,or_false]at this
  exact this
 rcases hl h1 with ⟨a,b⟩ | ⟨a,b⟩ <;> rcases hl h2 with ⟨d,e⟩ | ⟨d,e⟩
 ·rw[a,d]
 ·exact absurd (b.symm.trans e) (by show L+1≠L+2;exact Nat.ne_of_lt (Nat.lt_succ_self _))
 ·exact absurd (e.symm.trans b) (by show L+1≠L+2;exact Nat.ne_of_lt (Nat.lt_succ_self _))
 ·rw[a,d]
def ER (x T1 T2:Addr) (H H':Hp):Prop:=∀ b o,b≠x->b≠T1->b≠T2->H b=some o->H' b=some o
theorem ER.trans {x T1 T2:Addr}{H H1 H2:Hp} (a:ER x T1 T2 H H1) (b:ER x T1 T2 H1 H2):ER x T1 T2 H H2:=fun c o n1 n2 n3 e=>b c o n1 n2 n3 (a c o n1 n2 n3 e)
theorem ER.ex {x T1 T2:Addr}{H H1:Hp} (a:Ex x H H1):ER x T1 T2 H H1:=fun c o n1 _ _ e=>a c o n1 e
theorem ER.same {x T1 T2:Addr}{H H1:Hp} (a:Same H H1):ER x T1 T2 H H1:=fun c o _ _ _ e=>a c o e
def Tb (T1 T2:Addr) (H:Hp):Prop:=LamT H T1 (lamQ lamE1) lamN1/\LamT H T2 (lamQ lamE2) lamN2
theorem lt_tbl {H:Hp}{T:Addr}{p:Pos}{q:Str} (h:LamT H T p q):∃ qs,H T=some (.tbl qs):=by
 rcases h with h | ⟨c,h,_⟩
 ·exact⟨_,h⟩
 ·exact⟨_,h⟩
theorem lt_keep {H H':Hp}{T:Addr}{p:Pos}{q:Str} (h:LamT H T p q) (e1:∀ qs,H T=some (.tbl qs)->H' T=some (.tbl qs)) (e2:∀ c z,H c=some (.ext z)->H' c=some (.ext z)):LamT H' T p q:=by
 rcases h with h | ⟨c,h,k⟩
 ·exact .inl (e1 _ h)
 ·exact .inr ⟨c,e1 _ h,e2 _ _ k⟩
theorem Tb.keep {T1 T2:Addr}{H H':Hp} (h:Tb T1 T2 H) (e:∀ c o,(∀ C dx fs,o≠.ins C dx fs)->H c=some o->H' c=some o):Tb T1 T2 H':=
 ⟨lt_keep h.1 (fun _ z=>e _ _ (fun _ _ _ q=>by cases q) z) (fun _ _ z=>e _ _ (fun _ _ _ q=>by cases q) z),lt_keep h.2 (fun _ z=>e _ _ (fun _ _ _ q=>by cases q) z) (fun _ _ z=>e _ _ (fun _ _ _ q=>by cases q) z)⟩
theorem Tb.keepL {T1 T2:Addr}{H H':Hp} (h:Tb T1 T2 H) (e:∀ c o,(∀ xs,o≠.lst xs)->H c=some o->H' c=some o):Tb T1 T2 H':=
 ⟨lt_keep h.1 (fun _ z=>e _ _ (fun _ q=>by cases q) z) (fun _ _ z=>e _ _ (fun _ q=>by cases q) z),lt_keep h.2 (fun _ z=>e _ _ (fun _ q=>by cases q) z) (fun _ _ z=>e _ _ (fun _ q=>by cases q) z)⟩
theorem Tb.same {T1 T2:Addr}{H H':Hp} (h:Tb T1 T2 H) (s:Same H H'):Tb T1 T2 H':=h.keep fun c o _ e=>s c o e
theorem Tb.ex {C T1 T2 x dx:Addr}{st:Str}{i:Nat}{H H':Hp} (h:Tb T1 T2 H) (wd:Wd C H x dx st i) (s:Ex x H H'):Tb T1 T2 H':=h.keep fun c o n e=>s c o (fun z=>by rw[z,wd.at_]at e;cases e;exact n _ _ _ rfl) e
theorem ER.tups {C T1 T2 x dx:Addr}{st:Str}{i:Nat}{H H':Hp} (e:ER x T1 T2 H H') (wd:Wd C H x dx st i) (tb:Tb T1 T2 H):Tups H H':=fun a zs q=>by
 obtain⟨q1,h1⟩:=lt_tbl tb.1
 obtain⟨q2,h2⟩:=lt_tbl tb.2
 exact e a _ (fun z=>by rw[z,wd.at_]at q;cases q) (fun z=>by rw[z,h1]at q;cases q) (fun z=>by rw[z,h2]at q;cases q) q
theorem ER.lst {C T1 T2 x dx a:Addr}{st:Str}{i:Nat}{zs:List V}{H H':Hp} (e:ER x T1 T2 H H') (wd:Wd C H x dx st i) (tb:Tb T1 T2 H) (q:H a=some (.lst zs)):H' a=some (.lst zs):=by
 obtain⟨q1,h1⟩:=lt_tbl tb.1
 obtain⟨q2,h2⟩:=lt_tbl tb.2
 exact e a _ (fun z=>by rw[z,wd.at_]at q;cases q) (fun z=>by rw[z,h1]at q;cases q) (fun z=>by rw[z,h2]at q;cases q) q
theorem ER.ext {C T1 T2 x dx a:Addr}{st:Str}{i:Nat}{y:Heap->Prop}{H H':Hp} (e:ER x T1 T2 H H') (wd:Wd C H x dx st i) (tb:Tb T1 T2 H) (q:H a=some (.ext y)):H' a=some (.ext y):=by
 obtain⟨q1,h1⟩:=lt_tbl tb.1
 obtain⟨q2,h2⟩:=lt_tbl tb.2
 exact e a _ (fun z=>by rw[z,wd.at_]at q;cases q) (fun z=>by rw[z,h1]at q;cases q) (fun z=>by rw[z,h2]at q;cases q) q
def Rds (C T1 T2 x dx:Addr) (st:Str) (i n:Nat) (d:Dt) (H:Hp) (Q:VK):Prop:=∀ v H',ER x T1 T2 H H'->Wd C H' x dx st (i+n)->Tb T1 T2 H'->IsDt H' d v->Q v H'
structure LP where
 L:Addr
 pm:Value
 c:Addr
 ctv:Value
 g:Addr->Obj
 x:Addr
 r:Int
 f:Addr
structure LamAt (N:Str) (e:Expr) (q:LP) (H:Hp):Prop where
 fn:H q.f=some (.ext (LamOC N (lamP e) (lamB e) (lamS e) (clo q.L) q.pm q.c q.ctv q.f))
 cd:H q.c=some (.ext (CodeO q.c N))
 cl:CellsG H (clo q.L) q.g [.ref q.x,.int q.r]
theorem LamAt.keep {C T1 T2 dx:Addr}{st:Str}{i:Nat}{N:Str}{e:Expr}{q:LP}{H H':Hp} (h:LamAt N e q H) (wd:Wd C H q.x dx st i) (tb:Tb T1 T2 H) (s:ER q.x T1 T2 H H'):LamAt N e q H':=
 ⟨s.ext wd tb h.fn,s.ext wd tb h.cd,fun b i=>s.ext wd tb (h.cl.1 b i),h.cl.2⟩
def stp (r:List Nat):Prop:=∀ c t,r=c::t->isNum c=false/\isLet c=false/\c≠32
theorem stp.st {r:List Nat} (h:stp r):stop r:=fun c t e=>⟨(h c t e).1,(h c t e).2.1⟩
def spIn (C T1 T2:Addr) (N:Str) (e:Expr) (S:List Nat->Dt->Prop) (q:LP):Sp:=fun vs H Q _=>vs=[]/\LamAt N e q H/\∃ dx st i zs d r,Wd C H q.x dx st i/\Tb T1 T2 H/\S zs d/\AtT st i zs r/\stp r/\Rds C T1 T2 q.x dx st i zs.length d H Q
theorem heap_at {b:Addr}{o:Obj}{u:Option Value} (hd:o.data=.cell u):∃ h:Heap,h.get? b=some o:=by
 refine⟨⟨Array.replicate (b+1) o,{}⟩,?_⟩
 obtain⟨c,d,dt,sl⟩:=o
 cases hd
 unfold Heap.get?
 simp
theorem code_cell {c:Addr}{q:Str}{o:Obj}{u:Option Value} (hd:o.data=.cell u) (e:CodeO c q=CellO c o):False:=by
 obtain⟨h,hh⟩:=heap_at (b:=c) hd
 have:CodeO c q h:=by rw[e];exact hh
 obtain⟨d,o',vs,t,e0,e1,e2,e3⟩:=this
 cases e0
 rw[hh]at e1
 cases e1
 rw[hd]at e2
 cases e2
theorem cell_inj {c:Addr}{o o':Obj}{u:Option Value} (hd:o.data=.cell u) (e:CellO c o=CellO c o'):o=o':=by
 obtain⟨h,hh⟩:=heap_at (b:=c) hd
 have:CellO c o' h:=by rw[<- e];exact hh
 have this:h.get? c=some o':=this
 rw[hh]at this
 exact Option.some.inj this
theorem relv_inj {v v':V}{u:Value} (h:RelV v u) (h':RelV v' u):v=v':=by
 cases v <;> cases v' <;> simp only[RelV]at h h' <;> first
  | rfl
  | (obtain⟨t,e⟩:=h;obtain⟨t',e'⟩:=h';rw[e]at e';cases e';done)
  | (obtain⟨t,e⟩:=h;obtain⟨t',e'⟩:=h';rw[e]at e';cases e';rfl)
  | (obtain⟨t,e⟩:=h;rw[e]at h';cases h';done)
  | (obtain⟨t,e⟩:=h';rw[e]at h;cases h;done)
  | (rw[h]at h';cases h';done)
  | (rw[h]at h';cases h';rfl)
theorem cells_eq {H:Hp}{g g':Addr->Obj}:∀ {clos:Clos}{ws ws':List V},(∀ p∈clos,H p.2=some (.ext (CellO p.2 (g p.2))))->(∀ p∈clos,H p.2=some (.ext (CellO p.2 (g' p.2))))->Paired (fun (p:Str×Addr) v=>CellIs (g p.2) v) clos ws->Paired (fun (p:Str×Addr) v=>CellIs (g' p.2) v) clos ws'->ws=ws'
 | _,_,_,_,_,.nil,.nil=>rfl
 | p::clos,_,_,h1,h2,.cons a r,.cons a' r'=>by
  have e:=h1 p List.mem_cons_self
  rw[h2 p List.mem_cons_self]at e
  obtain⟨u,rv,du⟩:=a
  obtain⟨u',rv',du'⟩:=a'
  have:=cell_inj du' (by injection e with e;injection e)
  rw[this,du]at du'
  cases du'
  rw[relv_inj rv rv',cells_eq (fun q hq=>h1 q (List.mem_cons_of_mem _ hq)) (fun q hq=>h2 q (List.mem_cons_of_mem _ hq)) r r']
theorem cellsG_eq {H:Hp}{g g':Addr->Obj}{clos:Clos}{ws ws':List V} (a:CellsG H clos g ws) (b:CellsG H clos g' ws'):ws=ws':=
 cells_eq (fun p hp=>a.1 _ (List.mem_map.mpr ⟨p,hp,rfl⟩)) (fun p hp=>b.1 _ (List.mem_map.mpr ⟨p,hp,rfl⟩)) a.2 b.2
theorem cell_of {clos:Clos}{g:Addr->Obj}{ws:List V}{b:Addr} (i:inC clos b) (h:Paired (fun (p:Str×Addr) v=>CellIs (g p.2) v) clos ws):∃ u,(g b).data=.cell u:=by
 induction h with
 | nil=>exact absurd i (by simp [inC])
 | @cons p v l1 l2 a t ih=>
  by_cases e:p.2=b
  ·obtain⟨u,_,d⟩:=a
   rw[e]at d
   exact⟨_,d⟩
  ·refine ih ?_
   obtain⟨q,hq,eq⟩:=List.mem_map.mp i
   rcases List.mem_cons.mp hq with rfl | hq
   ·exact absurd eq e
   ·exact List.mem_map.mpr ⟨q,hq,eq⟩
section
variable {C T1 T2 x dx:Addr}{st:Str}{i:Nat}{H H':Hp}{clos:Clos}{g:Addr->Obj}{vs:List V}
theorem Wd.rem (wd:Wd C H x dx st i) (hc:∀ b,inC clos b->∃ y,H b=some (.ext y)):Wd C (remC H clos) x dx st i:=
 ⟨by rw[remC_ne fun z=>by obtain⟨y,e⟩:=hc _ z;rw[wd.at_]at e;cases e];exact wd.at_,wd.le,wd.ln⟩
theorem lt_rem {T:Addr}{p:Pos}{q:Str} (h:LamT H T p q) (cg:CellsG H clos g vs):LamT (remC H clos) T p q:=by
 have n1:∀ {qs},H T=some (.tbl qs)->¬inC clos T:=fun e z=>by rw[cg.1 _ z]at e;cases e
 rcases h with h | ⟨c,h,k⟩
 ·exact .inl (by rw[remC_ne (n1 h)];exact h)
 ·refine .inr ⟨c,by rw[remC_ne (n1 h)];exact h,?_⟩
  rw[remC_ne fun z=>?_]
  ·exact k
  ·obtain⟨u,du⟩:=cell_of z cg.2
   rw[cg.1 _ z]at k
   exact code_cell du (by injection k with k;injection k with k;exact k.symm)
theorem Tb.rem (h:Tb T1 T2 H) (cg:CellsG H clos g vs):Tb T1 T2 (remC H clos):=⟨lt_rem h.1 cg,lt_rem h.2 cg⟩
theorem Wd.back (wd:Wd C H' x dx st i) (hn:∀ b,inC clos b->H' b=none):Wd C (backC H' H clos) x dx st i:=by
 have bb:∀ {b:Addr},¬inC clos b->backC H' H clos b=H' b:=fun i=>if_neg i
 exact⟨by rw[bb fun z=>by have:=hn _ z;rw[wd.at_]at this;cases this];exact wd.at_,wd.le,wd.ln⟩
theorem back_some {b:Addr}{o:HO} (hn:∀ b,inC clos b->H' b=none) (e:H' b=some o):backC H' H clos b=some o:=by
 have bb:∀ {b:Addr},¬inC clos b->backC H' H clos b=H' b:=fun i=>if_neg i
 rw[bb fun z=>by have:=hn _ z;rw[e]at this;cases this];exact e
theorem Tb.back (h:Tb T1 T2 H') (hn:∀ b,inC clos b->H' b=none):Tb T1 T2 (backC H' H clos):=h.keep fun c o _ e=>back_some hn e
theorem ER.back (e:ER x T1 T2 (remC H clos) H'):ER x T1 T2 H (backC H' H clos):=fun b o n1 n2 n3 z=>by
 by_cases i:inC clos b
 ·have:backC H' H clos b=H b:=if_pos i
  rw[this];exact z
 ·have:backC H' H clos b=H' b:=if_neg i
  rw[this];exact e b o n1 n2 n3 (by rw[remC_ne i];exact z)
theorem Rds.lam {n:Nat}{d:Dt}{Q:VK} (h:Rds C T1 T2 x dx st i n d H Q):Rds C T1 T2 x dx st i n d (remC H clos) fun v H'=>(∀ b,inC clos b->H' b=none)->Q v (backC H' H clos):=
 fun v H' e wd tb iv hn=>h v _ e.back (wd.back hn) (tb.back hn) (IsDt.mono (fun _ _ z=>back_some hn z) iv)
theorem Wd.addG (wd:Wd C H x dx st i) (hn:∀ b,inC clos b->H b=none):Wd C (addG H clos g) x dx st i:=by
 have bb:∀ {b:Addr},¬inC clos b->L2.addG H clos g b=H b:=fun i=>if_neg i
 exact⟨by rw[bb fun z=>by have:=hn _ z;rw[wd.at_]at this;cases this];exact wd.at_,wd.le,wd.ln⟩
theorem add_some {b:Addr}{o:HO} (hn:∀ b,inC clos b->H b=none) (e:H b=some o):L2.addG H clos g b=some o:=by
 have bb:∀ {b:Addr},¬inC clos b->L2.addG H clos g b=H b:=fun i=>if_neg i
 rw[bb fun z=>by have:=hn _ z;rw[e]at this;cases this];exact e
theorem Tb.addG (h:Tb T1 T2 H) (hn:∀ b,inC clos b->H b=none):Tb T1 T2 (L2.addG H clos g):=h.keep fun c o _ e=>add_some hn e
theorem addG_cells (hp:Paired (fun (p:Str×Addr) v=>CellIs (g p.2) v) clos vs):CellsG (L2.addG H clos g) clos g vs:=⟨fun b i=>if_pos i,hp⟩
end
theorem Rds.tup {C T1 T2 x dx t:Addr}{st0:Str}{i n:Nat}{ds:List Dt}{H H2:Hp}{Q:VK}{vs:List V} (fin:Rds C T1 T2 x dx st0 i n (.tup ds) H Q) (e:ER x T1 T2 H H2) (wd:Wd C H2 x dx st0 (i+n)) (tb:Tb T1 T2 H2) (iv:IsDts H2 ds vs) (ht:H2 t=none):Q (.ref t) (upd H2 t (.tup vs)):=by
 have st:=same_new ht (.tup vs)
 refine fin _ _ (e.trans (.same st)) (wd.keep st) (tb.same st) ?_
 rw[IsDt]
 exact⟨t,vs,rfl,upd_same,IsDts.mono st.tups iv⟩
theorem Wd.er {C T1 T2 x dx:Addr}{st:Str}{i:Nat}{H H':Hp} (wd:Wd C H x dx st i) (tb:Tb T1 T2 H) (e1:∀ b o,b≠T1->b≠T2->H b=some o->H' b=some o):Wd C H' x dx st i:=by
 obtain⟨q1,h1⟩:=lt_tbl tb.1
 obtain⟨q2,h2⟩:=lt_tbl tb.2
 exact⟨e1 _ _ (fun z=>by have:=wd.at_;rw[z,h1]at this;cases this) (fun z=>by have:=wd.at_;rw[z,h2]at this;cases this) wd.at_,wd.le,wd.ln⟩
end K05
end
section
namespace K05
open PySem L2 Kn
def jn:List (List Nat)->List Nat
 | []=>[]
 | [a]=>a
 | a::b::r=>a++44::32::jn (b::r)
def tl:List (List Nat)->List Nat
 | []=>[]
 | b::r=>44::32::jn (b::r)
theorem jn_cons (a:List Nat) (r:List (List Nat)):jn (a::r)=a++tl r:=by
 cases r with
 | nil=>rw[jn,tl,List.append_nil]
 | cons b r=>rw[jn,tl]
def okC (c:Nat):Prop:=c=62\/c=125
theorem stop_of {c:Nat}{r:List Nat} (h1:isNum c=false) (h2:isLet c=false) (h3:c≠32):stp (c::r):=fun d t e=>by cases e;exact⟨h1,h2,h3⟩
theorem okC.st {c:Nat}{r:List Nat} (h:okC c):stp (c::r):=by rcases h with rfl | rfl <;> exact stop_of (by decide) (by decide) (by decide)
theorem stop_tl {c:Nat}{xs:List (List Nat)}{r:List Nat} (h:okC c):stp ((tl xs++[c])++r):=by
 cases xs with
 | nil=>rw[tl];exact h.st
 | cons b x=>rw[tl];exact stop_of (by decide) (by decide) (by decide)
theorem cps_one (c:Nat):(⟨#[c]⟩:Str).cps.toList=[c]:=rfl
theorem s_cm:(Str.ofString ", ").cps.toList=[44,32]:=by decide +kernel
section
variable {P:Program}{w:World}{K:PySem.W.Frag}{mg:Str->Option Value}{base:Heap}{f f1 f2 f3:Addr}{fd fd1 fd2 fd3:FuncData}{C T1 T2:Addr}
def HeldK (P:Program) (w:World) (K:PySem.W.Frag) (mg:Str->Option Value) (base:Heap) (k:Nat) (f:Addr) (sp:Sp):Prop:=∃ (c:Addr) (qual:Str) (params:Arguments) (body:Expr) (scope:Scope) (clos:Clos) (pm ctv:Value) (ps:List Str),
 FnOk P w K mg base CX0 k f (PySem.W.kla_fn "<lambda>" qual params body scope clos pm (.ref c) ctv) ps sp/\Binds K (PySem.W.kla_fn "<lambda>" qual params body scope clos pm (.ref c) ctv) ps []/\∀ vs H Q E,sp vs H Q E->H f=some (.ext (LamOC qual params body scope clos pm c ctv f))
def spPts (C T1 T2:Addr) (Cf:Addr->Sp->Prop):Sp:=fun vs H Q _=>∃ (N:Str) (e:Expr) (S:List Nat->Dt->Prop) (q:LP) (dx:Addr) (st:Str) (i cl:Nat) (its:List (List Nat×Dt)) (r:List Nat),vs=[.ref q.x,.str ⟨#[cl]⟩,.ref q.f]/\Cf q.f (spIn C T1 T2 N e S q)/\LamAt N e q H /\
 Wd C H q.x dx st i/\Tb T1 T2 H/\okC cl/\its.length<=60/\(∀ p∈its,S p.1 p.2/\∃ c t,p.1=c::t/\c≠cl)/\AtT st i (jn (its.map (·.1))++[cl]) r /\
 ∀ (l:Addr) (vs:List V) (H':Hp),ER q.x T1 T2 H H'->Wd C H' q.x dx st (i+(jn (its.map (·.1))++[cl]).length)->Tb T1 T2 H'->H' l=some (.lst vs)->IsDts H' (its.map (·.2)) vs->Q (.ref l) H'
theorem ZbH:FnScope ["self","closing","read_part","found"] ["self","closing","read_part"] (defScope (mtop 11 8)):=⟨rfl,rfl,rfl,by decide +kernel,rfl,by decide +kernel,by decide +kernel⟩
theorem ok_pts {k:Nat}{Cf:Addr->Sp->Prop} (hk:3<=k) (T:Tx mg) (hC:∀ f sp,Cf f sp->HeldK P w K mg base k f sp) (Zab:Cls K C) (D:Mf K C "parts" "Reader.parts" (mtop 11 8) f fd ["self","closing","read_part"])
  (Zaf:Mf K C "takes" "Reader.takes" (mtop 11 1) f1 fd1 ["self","piece"]) (Zan:FnOk P w K mg base CX0 1 f1 fd1 ["self","piece"] (spTakes C))
  (Zaz:Mf K C "needs" "Reader.needs" (mtop 11 2) f2 fd2 ["self","piece"]) (ZaJ:FnOk P w K mg base CX0 2 f2 fd2 ["self","piece"] (spNeeds C)) :
  FnOk P w K mg base CX0 (k+1) f fd ["self","closing","read_part"] (spPts C T1 T2 Cf):=by
 refine D.fn.okH ZbH (fun vs H Q E h=>?_) (fun cdv A outer s H vs Q E hr h=>?_)
 ·obtain⟨N,e,S,q,dx,st,i,cl,its,r,rfl,_⟩:=h;rfl
 obtain⟨N,e,S,q,dx,st,i,cl,its,r,rfl,cf,la,wd,tb,okc,lit,hs,hat,fin⟩:=h
 have hu:=u110 hr
 have hu0:=u0 hr
 have hu1:=hu_of hr
 refine⟨_,(wss_cons (ws_if (wt_val (we_meth (wv 0) Zab Zaf.mt Zan (hr.mono (by lia)) Zaf.b .nil pass0 (wa_cons (wv 1) wa_nil))) (wss_one (ws_ret (we_lst wa_nil))) wss_nil)
   (wss_cons (ws_set (i:=3) ZbH.nd rfl (Or.inl rfl) (we_lst (wa_cons (we_callL0 (E:=E0) hC (hr.mono (by lia)) (wv 2)) wa_nil)))
   (wss_cons (ws_while PassesOwn.never (wt_val (we_meth (wv 0) Zab Zaf.mt Zan (hr.mono (by lia)) Zaf.b .nil pass0 (wa_cons we_str wa_nil))) (wss_one (ws_expr (we_bm PySem.F.plainAttrs_list PySem.F.slot_list_append PySem.F.type_list_append mt_append (wv 3) (wa_cons (we_callL0 (E:=E0) hC (hr.mono (by lia)) (wv 2)) wa_nil)))))
   (wss_cons (ws_expr (we_meth (wv 0) Zab Zaz.mt ZaJ (hr.mono (by lia)) Zaz.b .nil pass0 (wa_cons (wv 1) wa_nil)))
   (wss_one (ws_ret (wv 3))))))),?_⟩
 cases its with
 | nil=>
  rw[List.map_nil,jn,List.nil_append]at hat
  refine⟨_,rfl,q.x,dx,_,rfl,wd.at_,rfl,_,rfl,q.x,dx,st,_,i,rfl,(by show 1<=1000;decide),wd,fun _ H1 ex1 wd1=>⟨_,rfl,iteT ?_⟩,fun z=>?_⟩
  ·refine⟨(by show 0<=sizeLine;decide),fun l hl=>?_⟩
   have s1:=same_new hl (.lst [])
   exact fin l [] _ ((ER.ex ex1).trans (.same s1)) (wd1.keep s1) ((tb.ex wd ex1).same s1) upd_same .nil
  ·rw[has_yes wd.le (r:=r) (by rw[cps_one];exact hat)]at z;cases z
 | cons p its=>
 obtain⟨sp,c0,t0,ep,nc⟩:=hs p List.mem_cons_self
 rw[List.map_cons,jn_cons]at hat fin
 rw[List.append_assoc]at hat
 refine seqH fun N1 to1=>⟨_,rfl,q.x,dx,_,rfl,wd.at_,rfl,_,rfl,q.x,dx,st,_,i,rfl,(by show 1<=1000;decide),wd,fun z=>?_,fun _=>⟨_,rfl,iteF (to1 _ _ ?_)⟩⟩
 ·have hat':st.cps.toList.drop i=p.1++(tl (its.map (·.1))++[cl])++r:=hat
  rw[has_no (p:=⟨#[cl]⟩) (c:=cl) (ps:=[]) rfl hat' (fun d t' e'=>by rw[ep]at e';cases e';exact nc)]at z
  cases z
 refine seqH fun N2 to2=>⟨_,rfl,q.f,_,rfl,cf,rfl,la,dx,st,i,p.1,p.2,_,wd,tb,sp,hat.split.1,stop_tl okc,fun v H1 e1 wd1 tb1 iv=>?_⟩
 refine⟨(by show 1<=sizeLine;decide),fun l hl=>to2 _ _ ?_⟩
 have s1:=same_new hl (.lst [v])
 have hL:(upd H1 l (.lst [v])) l=some (.lst [v]):=upd_same
 have wd2:=wd1.keep s1
 have tb2:=tb1.same s1
 have e2:ER q.x T1 T2 H (upd H1 l (.lst [v])):=e1.trans (.same s1)
 have iv2:=IsDt.mono s1.tups iv
 have hHl:H l=none:=by
  cases z:H l with
  | none=>rfl
  | some o=>
   have nx:l≠q.x:=fun y=>by rw[y,wd1.at_]at hl;cases hl
   obtain⟨q1,h1⟩:=lt_tbl tb1.1
   obtain⟨q2,h2⟩:=lt_tbl tb1.2
   rw[e1 l o nx (fun y=>by rw[y,h1]at hl;cases hl) (fun y=>by rw[y,h2]at hl;cases hl) z]at hl;cases hl
 generalize upd H1 l (.lst [v])=H2 at hL wd2 tb2 e2 iv2 ⊢
 have hat2:=hat.split.2
 refine seqH fun N3 to3=>?_
 refine⟨fun m σ H'=>∃ (j:Nat) (xs:List V) (i':Nat),m+j=its.length/\σ=[some (.ref q.x),some (.str ⟨#[cl]⟩),some (.ref q.f),some (.ref l)]/\ER q.x T1 T2 H H'/\H' l=some (.lst xs)/\IsDts H' ((p::its.take j).map (·.2)) xs /\
  Wd C H' q.x dx st i'/\Tb T1 T2 H'/\i'+(tl ((its.drop j).map (·.1))++[cl]).length=i+(p.1++tl (its.map (·.1))++[cl]).length/\AtT st i' (tl ((its.drop j).map (·.1))++[cl]) r,⟨its.length,0,[v],i+p.1.length,rfl,rfl,e2,hL,.one iv2,wd2,tb2,by rw[List.drop_zero];simp only[List.length_append];lia,by rw[List.drop_zero];exact hat2⟩,?_⟩
 rintro m σ H3 ⟨j,xs,i',hm,rfl,e3,hL3,ix,wd3,tb3,hi',hat3⟩
 by_cases hj:j<its.length
 ·obtain⟨p1,hp1⟩:∃ p1,its[j]?=some p1:=⟨_,List.getElem?_eq_getElem hj⟩
  have hp1m:p1∈its:=List.mem_of_getElem? hp1
  have hdr:its.drop j=p1::its.drop (j+1):=by rw[List.drop_eq_getElem_cons hj,(List.getElem?_eq_some_iff.mp hp1).2]
  have htk:its.take (j+1)=its.take j++[p1]:=by rw[List.take_add_one,hp1];rfl
  obtain⟨sp1,c1,t1,ep1,nc1⟩:=hs p1 (List.mem_cons_of_mem _ hp1m)
  rw[hdr,List.map_cons,tl,jn_cons]at hat3 hi'
  have hat4:AtT st i' ([44,32]++(p1.1++(tl ((its.drop (j+1)).map (·.1))++[cl]))) r:=by
   have:44::32::(p1.1++tl ((its.drop (j+1)).map (·.1)))++[cl]=[44,32]++(p1.1++(tl ((its.drop (j+1)).map (·.1))++[cl])):=by simp
   rw[<- this];exact hat3
  have l2:(Str.ofString ", ").length=2:=by decide +kernel
  refine⟨_,rfl,q.x,dx,_,rfl,wd3.at_,rfl,q.x,dx,st,_,i',rfl,(by rw[l2];decide),wd3,fun _ H4 ex4 wd4=>⟨_,rfl,iteT ?_⟩,fun z=>?_⟩
  ·rw[l2]at wd4
   have tb4:=tb3.ex wd3 ex4
   have e34:ER q.x T1 T2 H3 H4:=.ex ex4
   have e4:ER q.x T1 T2 H H4:=e3.trans e34
   have hL4:=e34.lst wd3 tb3 hL3
   have ix4:=IsDts.mono (e34.tups wd3 tb3) ix
   have la4:=la.keep wd tb e4
   have hat5:=hat4.split.2
   have lx:xs.length<=61:=by rw[ix.length,List.length_map,List.length_cons,List.length_take];simp at lit;lia
   refine⟨fun σ H'=>∃ (ys:List V) (i'':Nat),σ=[some (.ref q.x),some (.str ⟨#[cl]⟩),some (.ref q.f),some (.ref l)]/\ER q.x T1 T2 H H'/\H' l=some (.lst ys)/\IsDts H' ((p::its.take (j+1)).map (·.2)) ys /\
    Wd C H' q.x dx st i''/\Tb T1 T2 H'/\i''+(tl ((its.drop (j+1)).map (·.1))++[cl]).length=i+(p.1++tl (its.map (·.1))++[cl]).length/\AtT st i'' (tl ((its.drop (j+1)).map (·.1))++[cl]) r,
    fun σ' H' ⟨ys,i'',h1,h2,h3,h4,h5,h6,h7,h8⟩=>⟨m-1,by lia,j+1,ys,i'',by lia,h1,h2,h3,h4,h5,h6,h7,h8⟩,?_⟩
   refine⟨_,rfl,.inl ⟨rfl,_,SqL.of hL4⟩,_,rfl,q.f,_,rfl,cf,rfl,la4,dx,st,_,p1.1,p1.2,_,wd4,tb4,sp1,hat5.split.1,stop_tl okc,fun v H5 e5 wd5 tb5 iv=>?_⟩
   have hL5:=e5.lst wd4 tb4 hL4
   refine⟨l,xs,_,rfl,rfl,hL5,line1 (by lia),xs++[v],_,rfl,fun b o n1 n2 n3 z=>?_,upd_same,?_,⟨?_,wd5.le,wd5.ln⟩,?_,?_,hat5.split.2⟩
   ·rw[upd_ne (ne_of_none z hHl)]
    exact e5 b o n1 n2 n3 (e4 b o n1 n2 n3 z)
   ·have tA:Tups H5 (upd H5 l (.lst (xs++[v]))):=fun b zs z=>by
     rw[upd_ne fun y=>by rw[y,hL5]at z;cases z];exact z
    rw[htk,<- List.cons_append,List.map_append]
    exact (IsDts.mono tA (IsDts.mono (e5.tups wd4 tb4) ix4)).append (.one (IsDt.mono tA iv))
   ·rw[upd_ne fun z=>by have:=wd5.at_;rw[z,hL5]at this;cases this];exact wd5.at_
   ·refine tb5.keepL fun c o n z=>?_
    rw[upd_ne fun y=>by rw[y,hL5]at z;cases z;exact n _ rfl];exact z
   ·simp only[List.length_append,List.length_cons,List.length_nil]at hi' ⊢
    lia
  ·rw[has_yes wd3.le (r:=_) (by rw[s_cm];exact hat4.split.1)]at z;cases z
 ·have hjl:its.length<=j:=by lia
  rw[List.drop_of_length_le hjl,List.map_nil,tl,List.nil_append]at hat3 hi'
  rw[List.take_of_length_le hjl]at ix
  have l2:(Str.ofString ", ").length=2:=by decide +kernel
  refine⟨_,rfl,q.x,dx,_,rfl,wd3.at_,rfl,q.x,dx,st,_,i',rfl,(by rw[l2];decide),wd3,fun z=>?_,fun _=>⟨_,rfl,iteF (to3 _ _ ?_)⟩⟩
  ·have hat':st.cps.toList.drop i'=cl::r:=hat3
   rw[has_no (c:=44) (ps:=[32]) s_cm hat' (fun d t' e'=>by cases e';rcases okc with rfl | rfl <;> decide)]at z
   cases z
  ·refine seqH fun N4 to4=>⟨_,rfl,q.x,dx,_,rfl,wd3.at_,rfl,_,rfl,q.x,dx,st,_,i',rfl,(by show 1<=1000;decide),wd3,has_yes wd3.le (r:=r) (by rw[cps_one];exact hat3),fun H4 ex4 wd4=>to4 _ _ ?_⟩
   have e34:ER q.x T1 T2 H3 H4:=.ex ex4
   refine⟨_,rfl,fin l xs H4 (e3.trans e34) ?_ (tb3.ex wd3 ex4) (e34.lst wd3 tb3 hL3) (IsDts.mono (e34.tups wd3 tb3) ix)⟩
   rw[<- hi']
   exact wd4
end
end K05
end
section
namespace K05
open PySem L2 Kn
inductive Rd:Nat->List Nat->Val->Prop where
 | num {n:Nat}{i:Int} (h:i.natAbs<10 ^ 34):Rd n (dg i) (.num i)
 | word {n:Nat}{s:Str} (h:nmOk s):Rd n (39::s.cps.toList) (.word s)
 | row {n:Nat}{its:List (Str×List Nat×Val)}{qs:List (Str×Val)} (hl:its.length<=60) (hn:∀ p∈its,nmOk p.1) (h:∀ p∈its,Rd n p.2.1 p.2.2) (nd:(its.map (·.1)).Nodup) (pm:qs.Perm (its.map fun p=>(p.1,p.2.2))) (rs:riseS (qs.map (·.1))) :
   Rd (n+1) (60::(jn (its.map fun p=>p.1.cps.toList++(58::32::p.2.1))++[62])) (.row qs)
 | bag {n:Nat}{its:List (List Nat×Val×Int)}{qs:List (Val×Int)} (hl:its.length<=60) (h:∀ p∈its,Rd n p.1 p.2.1) (hc:∀ p∈its,p.2.2≠0/\p.2.2.natAbs<10 ^ 34) (hk:∀ p∈its,(key p.2.1).length<=5000000) (ib:IsBag (its.map fun p=>(p.2.1,p.2.2)) qs) :
   Rd (n+1) (123::(jn (its.map fun p=>p.1++cn p.2.2)++[125])) (.bag qs)
def SR:Nat->List Nat->Val->Prop
 | 0=>fun _ _=>False
 | n+1=>Rd n
def S1 (S:List Nat->Val->Prop) (zs:List Nat) (d:Dt):Prop:=∃ t v c,S t v/\c≠0/\c.natAbs<10 ^ 34/\zs=t++cn c/\d=.tup [dat v,.int c]
def S2 (S:List Nat->Val->Prop) (zs:List Nat) (d:Dt):Prop:=∃ s t v,S t v/\nmOk s/\zs=s.cps.toList++(58::32::t)/\d=.tup [.str s,dat v]
theorem s_st':(Str.ofString " * ").cps.toList=[32,42,32]:=by decide +kernel
theorem s_cl':(Str.ofString ": ").cps.toList=[58,32]:=by decide +kernel
section
variable {P:Program}{w:World}{K:PySem.W.Frag}{mg:Str->Option Value}{base:Heap}{f f1 f2 f3:Addr}{fd fd1 fd2 fd3:FuncData}{C T1 T2:Addr}
theorem ZbI:FnScope ["reader","count"] ["reader"] (defScope (top 27)):=⟨rfl,rfl,rfl,by decide +kernel,rfl,by decide +kernel,by decide +kernel⟩
def spCt (C:Addr):Sp:=fun vs H Q _=>∃ (x dx:Addr) (st:Str) (i:Nat) (c:Int) (r:List Nat),vs=[.ref x]/\Wd C H x dx st i/\AtT st i (cn c) r/\stp r/\c≠0/\c.natAbs<10 ^ 34/\∀ H',Ex x H H'->Wd C H' x dx st (i+(cn c).length)->(∀ a zs,H a=some (.tup zs)->H' a=some (.tup zs))->Q (.int c) H'
theorem ok_ct (T:Tx mg) (Zab:Cls K C) (D:Df K mg "read_count" (top 27) f fd ["reader"])
  (Zaf:Mf K C "takes" "Reader.takes" (mtop 11 1) f1 fd1 ["self","piece"]) (Zan:FnOk P w K mg base CX0 1 f1 fd1 ["self","piece"] (spTakes C))
  (ZaK:Mf K C "number" "Reader.number" (mtop 11 7) f2 fd2 ["self"]) (Za7:FnOk P w K mg base CX0 3 f2 fd2 ["self"] (spNumb C)) :
  FnOk P w K mg base CX0 4 f fd ["reader"] (spCt C):=by
 refine D.fn.okH (k:=3) ZbI (fun vs H Q E h=>?_) (fun cdv A outer s H vs Q E hr h=>?_)
 ·obtain⟨x,dx,st,i,c,r,rfl,_⟩:=h;rfl
 obtain⟨x,dx,st,i,c,r,rfl,wd,hat,sr,c0,cb,fin⟩:=h
 have hu:=u110 hr
 have hu0:=u0 hr
 have hu1:=hu_of hr
 refine⟨_,(wss_cons (ws_if (wt_not (wt_val (we_meth (wv 0) Zab Zaf.mt Zan (hr.mono (by lia)) Zaf.b .nil pass0 (wa_cons we_str wa_nil)))) (wss_one (ws_ret we_int)) wss_nil)
   (wss_cons (ws_set (i:=1) ZbI.nd rfl (Or.inl rfl) (we_meth0 (wv 0) Zab ZaK.mt Za7 (hr.mono (by lia)) ZaK.b .nil pass0))
   (wss_cons (ws_if (wt_cmpR (op_inU hu) (wv 1) (we_tup (wa_consts rfl)) (by with_unfolding_all rfl)) (wss_one ws_dead) wss_nil)
   (wss_one (ws_ret (wv 1)))))),?_⟩
 have l3:(Str.ofString " * ").length=3:=by decide +kernel
 by_cases c1:c=1
 ·subst c1
  have e:cn 1=[]:=rfl
  rw[e]at hat fin
  refine⟨_,rfl,x,dx,_,rfl,wd.at_,rfl,x,dx,st,_,i,rfl,(by rw[l3];decide),wd,fun z=>?_,fun _=>⟨_,rfl,iteT ?_⟩⟩
  ·have hat':st.cps.toList.drop i=r:=hat
   rw[has_no (c:=32) (ps:=[42,32]) s_st' hat' (fun d t e=>(sr d t e).2.2)]at z
   cases z
  ·exact fin H (fun _ _ _ e=>e) wd (fun _ _ e=>e)
 ·have e:cn c=[32,42,32]++dg c:=by unfold cn;rw[if_neg c1];rfl
  rw[e]at hat fin
  refine⟨_,rfl,x,dx,_,rfl,wd.at_,rfl,x,dx,st,_,i,rfl,(by rw[l3];decide),wd,fun _ H1 ex1 wd1=>⟨_,rfl,iteF ?_⟩,fun z=>?_⟩
  ·rw[l3]at wd1
   refine⟨_,rfl,x,dx,_,rfl,wd1.at_,rfl,x,dx,st,_,c,r,rfl,wd1,hat.split.2,cb,sr.st,fun H2 ex2 wd2=>?_⟩
   refine⟨_,rfl,(by show 2<=sizeLine;decide),fun tp htp=>.inl ⟨tp,_,rfl,.inr (SqT.of upd_same),rfl,rfl,_,rfl,?_⟩⟩
   have hv:inV (V.int c) [V.int 0,V.int 1]=false:=by
    have e0:((0:Int) == c)=false:=by simpa using fun z:(0:Int)=c=>c0 z.symm
    have e1:((1:Int) == c)=false:=by simpa using fun z:(1:Int)=c=>c1 z.symm
    show (((0:Int) == c) || (((1:Int) == c) || false))=false
    rw[e0,e1];rfl
   rw[hv]
   refine iteF ⟨_,rfl,?_⟩
   have s3:=same_new htp (.tup [V.int 0,V.int 1])
   have exA:Ex x H (upd H2 tp (.tup [V.int 0,V.int 1])):=fun b o n z=>s3 _ _ (ex2 b o n (ex1 b o n z))
   refine fin _ exA ?_ (fun a zs z=>exA a _ (fun y=>by rw[y,wd.at_]at z;cases z) z)
   rw[List.length_append,<- Nat.add_assoc]
   exact wd2.keep s3
  ·rw[has_yes wd.le (by rw[s_st'];exact hat.split.1)]at z;cases z
def spRv (C T1 T2:Addr) (S:List Nat->Val->Prop) (b:Int):Sp:=fun vs H Q _=>∃ (x dx:Addr) (st:Str) (i:Nat) (t:List Nat) (v:Val) (r:List Nat) (dep:Int),vs=[.ref x,.int dep]/\dep<=b/\Wd C H x dx st i/\Tb T1 T2 H/\S t v/\AtT st i t r/\stop r/\Rds C T1 T2 x dx st i t.length (dat v) H Q
def spPart (C T1 T2:Addr) (S:List Nat->Dt->Prop) (b:Int):Sp:=fun vs H Q _=>∃ (x dx:Addr) (st:Str) (i:Nat) (zs:List Nat) (d:Dt) (r:List Nat) (dep:Int),vs=[.ref x,.int dep]/\dep<=b/\Wd C H x dx st i/\Tb T1 T2 H/\S zs d/\AtT st i zs r/\stp r/\Rds C T1 T2 x dx st i zs.length d H Q
theorem cn_stop {c:Int}{r:List Nat} (h:stp r):stop (cn c++r):=by
 unfold cn
 split
 ·exact h.st
 ·exact fun d t e=>by cases e;exact⟨by decide,by decide⟩
theorem Zca:FnScope ["reader","depth"] ["reader","depth"] (defScope (top 26)):=⟨rfl,rfl,rfl,by decide +kernel,rfl,by decide +kernel,by decide +kernel⟩
theorem ok_counted {k:Nat}{S:List Nat->Val->Prop}{b:Int} (hk:4<=k) (D:Df K mg "read_counted" (top 26) f fd ["reader","depth"])
  (Zah:Df K mg "read_value" (top 23) f1 fd1 ["reader","depth"]) (Za8:FnOk P w K mg base CX0 k f1 fd1 ["reader","depth"] (spRv C T1 T2 S b))
  (ZaC:Df K mg "read_count" (top 27) f2 fd2 ["reader"]) (Zbo:FnOk P w K mg base CX0 4 f2 fd2 ["reader"] (spCt C)) :
  FnOk P w K mg base CX0 (k+1) f fd ["reader","depth"] (spPart C T1 T2 (S1 S) b):=by
 refine D.fn.okH Zca (fun vs H Q E h=>?_) (fun cdv A outer s H vs Q E hr h=>?_)
 ·obtain⟨x,dx,st,i,zs,d,r,dep,rfl,_⟩:=h;rfl
 obtain⟨x,dx,st,i,zs,d,r,dep,rfl,hd,wd,tb,⟨t,v,c,sv,c0,cb,rfl,rfl⟩,hat,sr,fin⟩:=h
 have hu:=u110 hr
 have hu0:=u0 hr
 have hu1:=hu_of hr
 refine⟨_,(wss_one (ws_ret (we_tup (wa_cons (we_call Za8 (hr.mono (by lia)) rfl Zah.mg Zah.kp Zah.b .nil pass0 (wa_cons (wv 0) (wa_cons (wv 1) wa_nil))) (wa_cons (we_call Zbo (hr.mono (by lia)) rfl ZaC.mg ZaC.kp ZaC.b .nil pass0 (wa_cons (wv 0) wa_nil)) wa_nil))))),?_⟩
 refine⟨_,rfl,_,rfl,x,dx,st,i,t,v,_,dep,rfl,hd,wd,tb,sv,hat.split.1,cn_stop sr,fun u H1 e1 wd1 tb1 iv=>?_⟩
 refine⟨_,rfl,x,dx,st,_,c,r,rfl,wd1,hat.split.2,sr,c0,cb,fun H2 ex2 wd2 tp2=>⟨(by show 2<=sizeLine;decide),fun tt ht=>?_⟩⟩
 refine fin.tup (e1.trans (.ex ex2)) ?_ (tb1.ex wd1 ex2) (.cons (IsDt.mono tp2 iv) (.one (by rw[IsDt]))) ht
 rw[List.length_append,<- Nat.add_assoc]
 exact wd2
theorem ZbJ:FnScope ["reader","depth","field"] ["reader","depth"] (defScope (top 25)):=⟨rfl,rfl,rfl,by decide +kernel,rfl,by decide +kernel,by decide +kernel⟩
theorem ok_field {k:Nat}{S:List Nat->Val->Prop}{b:Int} (hk:4<=k) (Zab:Cls K C) (D:Df K mg "read_field" (top 25) f fd ["reader","depth"])
  (Zah:Df K mg "read_value" (top 23) f1 fd1 ["reader","depth"]) (Za8:FnOk P w K mg base CX0 k f1 fd1 ["reader","depth"] (spRv C T1 T2 S b))
  (ZaD:Mf K C "name" "Reader.name" (mtop 11 6) f2 fd2 ["self"]) (ZaT:FnOk P w K mg base CX0 3 f2 fd2 ["self"] (spNm C))
  (Zaz:Mf K C "needs" "Reader.needs" (mtop 11 2) f3 fd3 ["self","piece"]) (ZaJ:FnOk P w K mg base CX0 2 f3 fd3 ["self","piece"] (spNeeds C)) :
  FnOk P w K mg base CX0 (k+1) f fd ["reader","depth"] (spPart C T1 T2 (S2 S) b):=by
 refine D.fn.okH ZbJ (fun vs H Q E h=>?_) (fun cdv A outer s H vs Q E hr h=>?_)
 ·obtain⟨x,dx,st,i,zs,d,r,dep,rfl,_⟩:=h;rfl
 obtain⟨x,dx,st,i,zs,d,r,dep,rfl,hd,wd,tb,⟨z,t,v,sv,nm,rfl,rfl⟩,hat,sr,fin⟩:=h
 have hu:=u110 hr
 have hu0:=u0 hr
 have hu1:=hu_of hr
 refine⟨_,(wss_cons (ws_set (i:=2) ZbJ.nd rfl (Or.inl rfl) (we_meth0 (wv 0) Zab ZaD.mt ZaT (hr.mono (by lia)) ZaD.b .nil pass0))
   (wss_cons (ws_expr (we_meth (wv 0) Zab Zaz.mt ZaJ (hr.mono (by lia)) Zaz.b .nil pass0 (wa_cons we_str wa_nil)))
   (wss_one (ws_ret (we_tup (wa_cons (wv 2) (wa_cons (we_call Za8 (hr.mono (by lia)) rfl Zah.mg Zah.kp Zah.b .nil pass0 (wa_cons (wv 0) (wa_cons (wv 1) wa_nil))) wa_nil))))))),?_⟩
 have hz:z.cps.toList.length=z.length:=Array.length_toList
 have l2:(Str.ofString ": ").length=2:=by decide +kernel
 have h2:=hat.split.2
 rw[hz]at h2
 have h3:AtT st (i+z.length) ([58,32]++t) r:=h2
 refine⟨_,rfl,x,dx,_,rfl,wd.at_,rfl,x,dx,st,i,z,_,rfl,wd,hat.split.1,nm,fun d t e=>by cases e;exact⟨by decide,by decide⟩,fun H1 ex1 wd1=>?_⟩
 refine⟨_,rfl,x,dx,_,rfl,wd1.at_,rfl,x,dx,st,_,_,rfl,(by rw[l2];decide),wd1,has_yes wd1.le (by rw[s_cl'];exact h3.split.1),fun H2 ex2 wd2=>?_⟩
 rw[l2]at wd2
 have tb2:=(tb.ex wd ex1).ex wd1 ex2
 refine⟨_,rfl,_,rfl,_,rfl,x,dx,st,_,t,v,r,dep,rfl,hd,wd2,tb2,sv,h3.split.2,sr.st,fun u H3 e3 wd3 tb3 iv=>⟨(by show 2<=sizeLine;decide),fun tt ht=>?_⟩⟩
 refine fin.tup ((ER.ex ex1).trans ((ER.ex ex2).trans e3)) ?_ tb3 (.cons (by rw[IsDt]) (.one iv)) ht
 rw[List.length_append,hz,List.length_cons,List.length_cons,show i+(z.length+(t.length+1+1))=i+z.length+2+t.length by lia]
 exact wd3
theorem ok_lam1 {k:Nat}{S:List Nat->Dt->Prop}{b:Int}{q:LP} (hq:q.r+1<=b) (Zav:Df K mg "read_counted" (top 26) f fd ["reader","depth"]) (Zbp:FnOk P w K mg base CX0 k f fd ["reader","depth"] (spPart C T1 T2 S b)) :
  FnOk P w K mg base CX0 (k+1) q.f (PySem.W.kla_fn "<lambda>" lamN1 (lamP lamE1) (lamB lamE1) (lamS lamE1) (clo q.L) q.pm (.ref q.c) q.ctv) [] (spIn C T1 T2 lamN1 lamE1 S q):=by
 refine lam_ofC sc_lam1 (clo_inj q.L) (fun vs H Q E h=>?_) (fun vs H Q E h=>⟨h.2.1.fn,h.2.1.cd,_,_,h.2.1.cl⟩) fun A out s H vs us g Q E hr h cg=>?_
 ·obtain⟨rfl,_⟩:=h;rfl
 obtain⟨rfl,la,dx,st,i,zs,d,r,wd,tb,sv,hat,sr,fin⟩:=h
 obtain rfl:=cellsG_eq la.cl cg
 refine⟨_,we_call Zbp (hr.mono (by lia)) rfl Zav.mg Zav.kp Zav.b .nil pass0 (wa_cons (wv 0) (wa_cons (we_op op_add (wv 1) we_int) wa_nil)),?_⟩
 exact⟨_,rfl,_,rfl,_,_,rfl,rfl,q.x,dx,st,i,zs,d,r,_,rfl,hq,wd.rem fun b z=>⟨_,cg.1 b z⟩,tb.rem cg,sv,hat,sr,fin.lam⟩
theorem ok_lam2 {k:Nat}{S:List Nat->Dt->Prop}{b:Int}{q:LP} (hq:q.r+1<=b) (Zaw:Df K mg "read_field" (top 25) f fd ["reader","depth"]) (Zbq:FnOk P w K mg base CX0 k f fd ["reader","depth"] (spPart C T1 T2 S b)) :
  FnOk P w K mg base CX0 (k+1) q.f (PySem.W.kla_fn "<lambda>" lamN2 (lamP lamE2) (lamB lamE2) (lamS lamE2) (clo q.L) q.pm (.ref q.c) q.ctv) [] (spIn C T1 T2 lamN2 lamE2 S q):=by
 refine lam_ofC sc_lam2 (clo_inj q.L) (fun vs H Q E h=>?_) (fun vs H Q E h=>⟨h.2.1.fn,h.2.1.cd,_,_,h.2.1.cl⟩) fun A out s H vs us g Q E hr h cg=>?_
 ·obtain⟨rfl,_⟩:=h;rfl
 obtain⟨rfl,la,dx,st,i,zs,d,r,wd,tb,sv,hat,sr,fin⟩:=h
 obtain rfl:=cellsG_eq la.cl cg
 refine⟨_,we_call Zbq (hr.mono (by lia)) rfl Zaw.mg Zaw.kp Zaw.b .nil pass0 (wa_cons (wv 0) (wa_cons (we_op op_add (wv 1) we_int) wa_nil)),?_⟩
 exact⟨_,rfl,_,rfl,_,_,rfl,rfl,q.x,dx,st,i,zs,d,r,_,rfl,hq,wd.rem fun b z=>⟨_,cg.1 b z⟩,tb.rem cg,sv,hat,sr,fin.lam⟩
def CF (C T1 T2:Addr) (N:Str) (e:Expr) (S:List Nat->Dt->Prop) (b:Int):Addr->Sp->Prop:=fun f sp=>∃ q:LP,q.r+1<=b/\f=q.f/\sp=spIn C T1 T2 N e S q
theorem held1 {k:Nat}{S:List Nat->Dt->Prop}{b:Int} (Zav:Df K mg "read_counted" (top 26) f fd ["reader","depth"]) (Zbp:FnOk P w K mg base CX0 k f fd ["reader","depth"] (spPart C T1 T2 S b)):∀ f sp,CF C T1 T2 lamN1 lamE1 S b f sp->HeldK P w K mg base (k+1) f sp:=by
 rintro f sp ⟨q,hq,rfl,rfl⟩
 exact⟨q.c,lamN1,lamP lamE1,lamB lamE1,lamS lamE1,clo q.L,q.pm,q.ctv,[],ok_lam1 hq Zav Zbp,.all fun us hl=>(by obtain rfl:=List.length_eq_zero_iff.mp hl;rfl),fun vs H Q E h=>h.2.1.fn⟩
theorem held2 {k:Nat}{S:List Nat->Dt->Prop}{b:Int} (Zaw:Df K mg "read_field" (top 25) f fd ["reader","depth"]) (Zbq:FnOk P w K mg base CX0 k f fd ["reader","depth"] (spPart C T1 T2 S b)):∀ f sp,CF C T1 T2 lamN2 lamE2 S b f sp->HeldK P w K mg base (k+1) f sp:=by
 rintro f sp ⟨q,hq,rfl,rfl⟩
 exact⟨q.c,lamN2,lamP lamE2,lamB lamE2,lamS lamE2,clo q.L,q.pm,q.ctv,[],ok_lam2 hq Zaw Zbq,.all fun us hl=>(by obtain rfl:=List.length_eq_zero_iff.mp hl;rfl),fun vs H Q E h=>h.2.1.fn⟩
end
end K05
end
section
namespace K05
open PySem L2 Kn
theorem for_list {K:PySem.W.Frag}{b:Addr}{xs:List V}{g:TG}{tb:TS}{D:Ends} {σ:St} {H:Hp} (Pv:Nat->St->Hp->Prop) (h0:Pv 0 σ H) (stay:∀ i σ H',Pv i σ H'->H' b=some (.lst xs))
  (hs:∀ (E:Ends) i (hi:i<xs.length) σ H',Pv i σ H'->(∀ σ H,Pv (i+1) σ H->E.nx σ H)->(∀ v H,D.rt v H->E.rt v H)->g xs[i] σ H' fun σ2 H2=>tb E σ2 H2) (hd:∀ σ H,Pv xs.length σ H->D.nx σ H) :
  ∃ q,V.ref b=V.ref q/\(∃ ys,SqL K H q ys)/\∃ W:Nat->Nat->St->Hp->Prop,(∃ m,W 0 m σ H)/\∀ i m σ H,W i m σ H ->
   ((Itl K q).stop i H/\D.nx σ H)\/((Itl K q).go i H/\∃ N:St->Hp->Prop,(∀ σ' H',N σ' H'->∃ m',m'<m/\W (i+1) m' σ' H')/\∀ x H',(Itl K q).yld i H x H'->g x σ H' fun σ2 H2=>tb { D with nx:=N,ct:=N,bk:=D.nx } σ2 H2):=by
 refine⟨b,rfl,⟨xs,SqL.of (stay _ _ _ h0)⟩,fun i m σ H=>m+i=xs.length/\Pv i σ H,⟨xs.length,rfl,h0⟩,?_⟩
 rintro i m σ H ⟨hm,p⟩
 have hb:=stay _ _ _ p
 by_cases hi:i<xs.length
 ·refine .inr ⟨⟨_,_,SqL.of hb,List.getElem?_eq_getElem hi⟩,fun σ' H'=>Pv (i+1) σ' H',fun σ' H' h=>⟨m-1,by lia,by lia,h⟩,fun x H' hy=>?_⟩
  obtain⟨eH,hx⟩:=hy
  rw[eH]
  clear eH H'
  have e2:=hx _ (SqL.of hb)
  rw[List.getElem?_eq_getElem hi]at e2
  cases e2
  exact hs _ i hi σ H p (fun _ _ h=>h) fun _ _ h=>h
 ·have ei:i=xs.length:=by lia
  exact .inl ⟨⟨_,SqL.of hb,by lia⟩,hd σ H (ei ▸ p)⟩
theorem inr_perm {a b:List Str} (h:(a.map (Sum.inr:Str->Key)).Perm (b.map Sum.inr)):a.Perm b:=by
 have:=h.filterMap (fun k:Key=>match k with | Sum.inr s=>some s | _=>none)
 have e:∀ l:List Str,(l.map (Sum.inr:Str->Key)).filterMap (fun k:Key=>match k with | Sum.inr s=>some s | _=>none)=l:=fun l=>by
  induction l with
  | nil=>rfl
  | cons x l ih=>rw[List.map_cons,List.filterMap_cons,ih]
 rw[e,e]at this
 exact this
theorem rise_lt:∀ {a:Str}{l:List Str},riseS (a::l)->∀ b∈l,a.cps.toList<b.cps.toList
 | _,[],_,_,hb=>nomatch hb
 | a,c::l,h,b,hb=>by
  rw[riseS]at h
  rcases List.mem_cons.mp hb with rfl | hb
  ·exact h.1
  ·exact List.lt_trans h.1 (rise_lt h.2 b hb)
theorem rise_tail {a:Str}{l:List Str} (h:riseS (a::l)):riseS l:=by
 cases l with
 | nil=>rw[riseS];trivial
 | cons b l=>rw[riseS]at h;exact h.2
theorem rise_eq:∀ {a b:List Str},riseS a->riseS b->a.Perm b->a=b
 | [],b,_,_,p=>(List.nil_perm.mp p).symm
 | x::a,[],_,_,p=>(List.perm_nil.mp p)
 | x::a,y::b,h1,h2,p=>by
  have e:x=y:=by
   rcases List.mem_cons.mp (p.mem_iff.mp List.mem_cons_self) with e | m
   ·exact e
   ·rcases List.mem_cons.mp (p.mem_iff.mpr (List.mem_cons_self (a:=y) (l:=b))) with e | m'
    ·exact e.symm
    ·exact absurd (List.lt_trans (rise_lt h1 _ m') (rise_lt h2 _ m)) (List.lt_irrefl _)
  subst e
  rw[rise_eq (rise_tail h1) (rise_tail h2) ((List.perm_cons x).mp p)]
theorem pts_back {C T1 T2 x dx:Addr}{st:Str}{i j:Nat}{H H':Hp}{clos:Clos}{g:Addr->Obj}{us vs:List V}{ds:List Dt}{l:Addr} (wd0:Wd C H x dx st i) (tb0:Tb T1 T2 H) (hn:∀ b,inC clos b->H b=none) (hp:Paired (fun (p:Str×Addr) v=>CellIs (g p.2) v) clos us)
  (e:ER x T1 T2 (addG H clos g) H') (wd:Wd C H' x dx st j) (tb:Tb T1 T2 H') (hl:H' l=some (.lst vs)) (iv:IsDts H' ds vs) :
  (∀ b,inC clos b->H' b=some (.ext (CellO b (g b))))/\ER x T1 T2 H (remC H' clos)/\Wd C (remC H' clos) x dx st j/\Tb T1 T2 (remC H' clos)/\(remC H' clos) l=some (.lst vs)/\IsDts (remC H' clos) ds vs:=by
 have hc:∀ b,inC clos b->H' b=some (.ext (CellO b (g b))):=fun b z=>e.ext (wd0.addG hn) (tb0.addG hn) (if_pos z)
 have cg:CellsG H' clos g us:=⟨hc,hp⟩
 refine⟨hc,fun b o n1 n2 n3 z=>?_,wd.rem fun b z=>⟨_,hc b z⟩,tb.rem cg,?_,IsDts.mono (fun a zs z=>?_) iv⟩
 ·rw[remC_ne fun y=>by rw[hn _ y]at z;cases z]
  exact e b o n1 n2 n3 (add_some hn z)
 ·rw[remC_ne fun y=>by rw[hc _ y]at hl;cases hl];exact hl
 ·rw[remC_ne fun y=>by rw[hc _ y]at z;cases z]
  exact z
theorem Tb.keepD {T1 T2:Addr}{H H':Hp} (h:Tb T1 T2 H) (e:∀ c o,(∀ xs,o≠.dK xs)->H c=some o->H' c=some o):Tb T1 T2 H':=
 ⟨lt_keep h.1 (fun _ z=>e _ _ (fun _ q=>by cases q) z) (fun _ _ z=>e _ _ (fun _ q=>by cases q) z),lt_keep h.2 (fun _ z=>e _ _ (fun _ q=>by cases q) z) (fun _ _ z=>e _ _ (fun _ q=>by cases q) z)⟩
section
variable {P:Program}{w:World}{K:PySem.W.Frag}{mg:Str->Option Value}{base:Heap}{f c0 f1 f2 f3:Addr}{fd fd1 fd2 fd3:FuncData}{C T1 T2:Addr}
abbrev It3:=Str×List Nat×Val
def rowT (its:List It3):List Nat:=jn (its.map fun p=>p.1.cps.toList++(58::32::p.2.1))++[62]
def spRw (C T1 T2:Addr) (S:List Nat->Val->Prop) (b:Int):Sp:=fun vs H Q _=>∃ (x dx:Addr) (st:Str) (i:Nat) (its:List It3) (qs:List (Str×Val)) (r:List Nat) (dep:Int),vs=[.ref x,.int dep]/\dep+1<=b/\Wd C H x dx st i/\Tb T1 T2 H/\its.length<=60/\(∀ p∈its,nmOk p.1)/\(∀ p∈its,S p.2.1 p.2.2)/\(its.map (·.1)).Nodup/\qs.Perm (its.map fun p=>(p.1,p.2.2))/\riseS (qs.map (·.1)) /\
 AtT st i (rowT its) r/\Rds C T1 T2 x dx st i (rowT its).length (dat (.row qs)) H Q
theorem Zbe:FnScope ["reader","depth","values","field","value"] ["reader","depth"] (defScope (top 24)):=⟨rfl,rfl,rfl,by decide +kernel,rfl,by decide +kernel,by decide +kernel⟩
theorem ok_rrow {k:Nat}{S:List Nat->Val->Prop}{b:Int} (hT:T1≠T2) (hk:4<=k) (T:Tx mg) (LM:LmK K mg c0 T2) (Zab:Cls K C) (D:Df K mg "read_row" (top 24) f fd ["reader","depth"]) (hc:fd.code=.ref c0)
  (Zax:Mf K C "parts" "Reader.parts" (mtop 11 8) f1 fd1 ["self","closing","read_part"]) (Zbr:FnOk P w K mg base CX0 k f1 fd1 ["self","closing","read_part"] (spPts C T1 T2 (CF C T1 T2 lamN2 lamE2 (S2 S) b))) :
  FnOk P w K mg base CX0 (k+1) f fd ["reader","depth"] (spRw C T1 T2 S b):=by
 refine D.fn.okC (k:=k) hc Zbe (fun vs H Q E h=>?_) (fun A outer s H vs Q E hr h=>?_)
 ·obtain⟨x,dx,st,i,its,qs,r,dep,rfl,_⟩:=h;rfl
 obtain⟨x,dx,st,i,its,qs,r,dep,rfl,hd,wd,tb,lit,hnm,hsv,nd,pm,rs,hat,fin⟩:=h
 have hu:=u110 hr
 have hu0:=u0 hr
 have hu1:=hu_of hr
 have hCl:=cl2 s.heap.objs.size f (.ref c0)
 have CP:CapOk (cxOf CX0 P w K mg base ["reader","depth","values","field","value"] "read_row" (defScope (top 24)) f (.ref c0) A outer s H E).nox (clo s.heap.objs.size) [0,1]:=
  ⟨fun p hp=>by
   simp only[clo,List.mem_cons,List.not_mem_nil,or_false]at hp
   rcases hp with rfl | rfl <;> rfl,.cons ⟨rfl,rfl⟩ (.cons ⟨rfl,rfl⟩ .nil),fun _=>rfl⟩
 refine⟨_,(wss_cons (ws_set (i:=2) Zbe.nd rfl (Or.inr rfl) we_dnewK)
   (wss_cons (ws_for PassesOwn.never rfl (wi_U (we_methC (E:=E0) CP (wv 0) Zab Zax.mt Zbr (hr.mono (by lia)) Zax.b (wa_cons we_str (wa_cons (we_lamC LM hCl) wa_nil)))) (wg_tup rfl (wgs_cons (wg_name (i:=3) Zbe.nd rfl (Or.inl rfl)) (wgs_cons (wg_name (i:=4) Zbe.nd rfl (Or.inl rfl)) wgs_nil))) (wss_cons (ws_if (wt_cmpR (op_inK hu1) (wv 3) (wv 2) (by with_unfolding_all rfl)) (wss_one ws_dead) wss_nil)
   (wss_one (ws_asg (wv 4) (wg_sub (wv 2) (wv 3) (set_U hu1))))))
   (wss_one (ws_ret (we_tup (wa_cons we_str (wa_cons (we_callTy call_tuple_of rfl T.z_tuple bt_tuple (wa_cons (we_lc (Nt:=["field"]) (fr:=[("values",2)]) (LcOk.of (sc:=defScope (top 24)) (N:=["reader","depth","values","field","value"]) rfl rfl (by decide +kernel)) rfl (wi_U (we_callB (call_sortD rfl) rfl T.z_sorted bt_sorted (wa_cons (wv 2) wa_nil))) (fun z=>wg_name (i:=0) (by show (["field","values"]:List Str).Nodup;decide +kernel) rfl (Or.inl rfl) (.inr rfl)) (fun z=>tgt_name (by decide)) (fun z=>wif_nil) (fun z=>(we_tup (wa_cons (wv 0) (wa_cons (we_ix (ix_U hu1) (wv 1) (wv 0) (fun _ _=>rfl)) wa_nil))))) wa_nil)) wa_nil))))))),?_⟩
 refine seqH fun N0 to0=>?_
 intro c hc
 refine to0 _ _ ?_
 have ncx:c≠x:=fun z=>by rw[z,wd.at_]at hc;cases hc
 have s0:=same_new hc (.dK [])
 have hC0:(upd H c (.dK [])) c=some (.dK []):=upd_same
 have wd0:=wd.keep s0
 have tb0:=tb.same s0
 generalize upd H c (.dK [])=H0 at s0 hC0 wd0 tb0 ⊢
 refine seqH fun N1 to1=>.inl ⟨_,rfl,x,dx,_,rfl,wd0.at_,rfl,tb0.2,fun fl cc ctv H3 hf h1 h2 h3 ex3=>⟨[.ref x,.int dep],rfl,fun g hp hn0=>?_⟩⟩
 have e03:ER x T1 T2 H0 H3:=fun b o _ _ n e=>ex3 b o n e
 have e3:ER x T1 T2 H H3:=(ER.same s0).trans e03
 have wd3:Wd C H3 x dx st i:=wd0.er tb0 fun b o _ n e=>ex3 b o n e
 have tb3:Tb T1 T2 H3:=⟨lt_keep tb0.1 (fun qs e=>ex3 _ _ hT e) (fun b y e=>ex3 _ _ (fun z=>by obtain⟨qs,h⟩:=lt_tbl tb0.2;rw[z,h]at e;cases e) e),.inr ⟨cc,h3,h2⟩⟩
 have hC3:H3 c=some (.dK []):=ex3 _ _ (fun z=>by obtain⟨qs,h⟩:=lt_tbl tb0.2;rw[z,h]at hC0;cases hC0) hC0
 have em:((its.map fun p=>(p.1.cps.toList++(58::32::p.2.1),Dt.tup [.str p.1,dat p.2.2])).map (·.1))=its.map fun p=>p.1.cps.toList++(58::32::p.2.1):=by rw[List.map_map];rfl
 refine⟨lamN2,lamE2,S2 S,⟨s.heap.objs.size,_,cc,ctv,g,x,dep,fl⟩,dx,st,i,62,its.map fun p=>(p.1.cps.toList++(58::32::p.2.1),Dt.tup [.str p.1,dat p.2.2]),r,rfl,⟨_,hd,rfl,rfl⟩,⟨add_some hn0 h1,add_some hn0 h2,addG_cells hp⟩,wd3.addG hn0,tb3.addG hn0,.inl rfl,by rw[List.length_map];exact lit,fun q hq=>?_,by rw[em];exact hat,?_⟩
 ·obtain⟨p,hpm,rfl⟩:=List.mem_map.mp hq
  refine⟨⟨p.1,p.2.1,p.2.2,hsv p hpm,hnm p hpm,rfl,rfl⟩,?_⟩
  have:=(hnm p hpm).1
  have hl:p.1.cps.toList.length=p.1.length:=Array.length_toList
  cases e:p.1.cps.toList with
  | nil=>rw[e]at hl;simp at hl;lia
  | cons d t=>
   refine⟨d,_,rfl,fun z=>?_⟩
   have:=(hnm p hpm).2.2.1 d (by rw[e];exact List.mem_cons_self)
   rw[z]at this
   exact absurd this (by decide)
 rw[em]
 intro l vs H' e' wd' tb' hl' iv'
 obtain⟨hcl,e5,wd5,tb5,hl5,iv5⟩:=pts_back wd3 tb3 hn0 hp e' wd' tb' hl' iv'
 refine⟨hcl,?_⟩
 generalize remC H' (clo s.heap.objs.size)=H5 at e5 wd5 tb5 hl5 iv5 ⊢
 clear hcl e' wd' tb' hl' iv'
 have ecH:H c=none:=hc
 have hC5:H5 c=some (.dK []):=e5 c _ ncx (fun z=>by obtain⟨qs,h⟩:=lt_tbl tb3.1;rw[z,h]at hC3;cases hC3) (fun z=>by obtain⟨qs,h⟩:=lt_tbl tb3.2;rw[z,h]at hC3;cases hC3) hC3
 have lvs:vs.length=its.length:=by rw[iv5.length,List.length_map,List.length_map]
 have nl:l≠c:=fun z=>by rw[z,hC5]at hl5;cases hl5
 refine for_list (b:=l) (xs:=vs) (fun j σ H'=>∃ (o3 o4:Option V) (kvs:List (Key×V)),σ=[some (.ref x),some (.int dep),some (.ref c),o3,o4]/\(∀ b o,b≠c->H5 b=some o->H' b=some o)/\H' c=some (.dK kvs)/\kvs.map (·.1)=((its.take j).map fun p=>(Sum.inr p.1:Key))/\∀ p∈its.take j,∃ v,((Sum.inr p.1:Key),v)∈kvs/\IsDt H' (dat p.2.2) v)
  ⟨none,none,[],rfl,fun _ _ _ e=>e,hC5,by rw[List.take_zero];rfl,fun p hp=>by rw[List.take_zero]at hp;cases hp⟩ ?stay ?turn ?done
 case stay=>rintro j σ H' ⟨o3,o4,kvs,rfl,k5,_⟩;exact k5 _ _ nl hl5
 case turn=>
  rintro E2 j hj σ H' ⟨o3,o4,kvs,rfl,k5,hk,ek,ak⟩ nx rt
  have hj':j<its.length:=by lia
  obtain⟨p,hp⟩:∃ p,its[j]?=some p:=⟨_,List.getElem?_eq_getElem hj'⟩
  have hpm:p∈its:=List.mem_of_getElem? hp
  have htk:its.take (j+1)=its.take j++[p]:=by rw[List.take_add_one,hp];rfl
  have tps:Tups H5 H':=fun a zs z=>k5 a _ (fun y=>by rw[y,hC5]at z;cases z) z
  obtain⟨u,eu,du⟩:=iv5.get (i:=j) (d:=.tup [.str p.1,dat p.2.2]) (by rw[List.map_map,List.getElem?_map,hp];rfl)
  rw[List.getElem?_eq_getElem hj]at eu
  rw[Option.some.inj eu]
  obtain⟨a1,u1,u2,rfl,h1,h2,h3⟩:=dt_two du
  rw[IsDt]at h2
  subst h2
  have nin:(Sum.inr p.1:Key) ∉ kvs.map (·.1):=fun z=>by
   rw[ek]at z
   obtain⟨p',hp',e⟩:=List.mem_map.mp z
   have e:p'.1=p.1:=by injection e
   have nd2:=nd
   rw[<- List.take_append_drop j its,List.drop_eq_getElem_cons hj',(List.getElem?_eq_some_iff.mp hp).2,List.map_append,List.nodup_append]at nd2
   exact nd2.2.2 p'.1 (List.mem_map.mpr ⟨p',hp',rfl⟩) p.1 (List.mem_map.mpr ⟨p,List.mem_cons_self,rfl⟩) e
  have vn:valV kvs (Sum.inr p.1:Key)=none:=by
   cases q:valV kvs (Sum.inr p.1:Key) with
   | none=>rfl
   | some y=>exact absurd (valV_in q) nin
  have hg:DGet H' c (.str p.1) none:=by rw[<- vn];exact DGet.k (k:=Sum.inr p.1) hk
  have lk:kvs.length<=60:=by have:=congrArg List.length ek;rw[List.length_map,List.length_map,List.length_take]at this;lia
  refine⟨a1,_,rfl,SqT.of (tps _ _ h1),rfl,_,_,rfl,_,_,rfl,rfl,?_⟩
  refine seqH fun N2 to2=>⟨_,rfl,_,rfl,c,_,rfl,hg,_,rfl,iteF (to2 _ _ ?_)⟩
  refine⟨_,rfl,_,rfl,_,rfl,.inr ⟨c,_,rfl,DPut.k (k:=Sum.inr p.1) hk (line1 (by lia)),nx _ _ ?_⟩⟩
  have tu:Tups H' (upd H' c (.dK (putK kvs (Sum.inr p.1) u2))):=fun b ys e=>by rw[upd_ne (fun z=>by rw[z,hk]at e;cases e)];exact e
  rw[putK_new u2 vn]
  rw[putK_new u2 vn]at tu
  refine⟨_,_,kvs++[(Sum.inr p.1,u2)],rfl,fun b o n e=>by rw[upd_ne n];exact k5 b o n e,upd_same,by rw[htk,List.map_append,List.map_append,ek];rfl,fun p' hp'=>?_⟩
  rw[htk]at hp'
  rcases List.mem_append.mp hp' with h | h
  ·obtain⟨v',m1,m2⟩:=ak p' h
   exact⟨v',List.mem_append_left _ m1,IsDt.mono tu m2⟩
  ·rw[List.mem_singleton.mp h]
   exact⟨u2,List.mem_append_right _ List.mem_cons_self,IsDt.mono tu (IsDt.mono tps h3)⟩
 case done=>
  rintro σ H' ⟨o3,o4,kvs,rfl,k5,hk,ek,ak⟩
  rw[lvs,List.take_length]at ek ak
  refine to1 _ _ ?_
  have k60:kvs.length<=60:=by have:=congrArg List.length ek;rw[List.length_map,List.length_map]at this;lia
  have ndk:(kvs.map (·.1)).Nodup:=by
   rw[ek,show (its.map fun p=>(Sum.inr p.1:Key))=(its.map (·.1)).map Sum.inr from by rw[List.map_map];rfl]
   exact List.Pairwise.map _ (fun x y n z=>n (by injection z)) nd
  have hks:∀ kv∈kvs,∃ z:Str,kv.1=Sum.inr z:=fun kv h=>by
   have hm:kv.1∈kvs.map (·.1):=List.mem_map.mpr ⟨kv,h,rfl⟩
   rw[ek]at hm
   obtain⟨p,_,e⟩:=List.mem_map.mp hm
   exact⟨p.1,e.symm⟩
  refine .inl ⟨_,rfl,c,kvs,rfl,hk,hks,by lia,fun a ys ha perm srt=>⟨a,rfl,⟨_,SqL.of upd_same⟩,?_⟩⟩
  have pys:ys.Perm (its.map (·.1)):=inr_perm (by rw[List.map_map];rw[ek]at perm;exact perm)
  have eys:ys=qs.map (·.1):=by
   refine rise_eq (rise_of srt (pys.nodup_iff.mpr nd)) rs (pys.trans ?_)
   have:=pm.map (·.1)
   rw[List.map_map]at this
   exact this.symm
  subst eys
  have hAN:H' a=none:=ha
  have sa:=same_new ha (.lst ((qs.map (·.1)).map V.str))
  have hA:(upd H' a (.lst ((qs.map (·.1)).map V.str))) a=some (.lst ((qs.map (·.1)).map V.str)):=upd_same
  generalize upd H' a (.lst ((qs.map (·.1)).map V.str))=HA at sa hA ⊢
  have lqs:qs.length<=60:=by have:=pm.length_eq;rw[List.length_map]at this;lia
  refine⟨fun i2 m2 zs H2=>Same HA H2/\m2+i2=qs.length/\IsDts H2 (datR (qs.take i2)) zs,⟨qs.length,.refl _,rfl,by rw[List.take_zero,datR];exact .nil⟩,?_⟩
  rintro i2 m2 zs H2 ⟨s2,hm2,iq⟩
  have nz:zs.length=min i2 qs.length:=by rw[iq.length,datR_map,List.length_map,List.length_take]
  refine⟨line1 (by lia),?_⟩
  have hA2:=s2 _ _ hA
  by_cases hi2:i2<qs.length
  ·obtain⟨q,hq⟩:∃ q,qs[i2]?=some q:=⟨_,List.getElem?_eq_getElem hi2⟩
   have hyi:((qs.map (·.1)).map V.str)[i2]?=some (.str q.1):=by rw[List.getElem?_map,List.getElem?_map,hq];rfl
   refine .inr ⟨⟨_,_,SqL.of hA2,hyi⟩,fun z y H6 hy2=>?_⟩
   obtain⟨rfl,hx⟩:=hy2
   obtain rfl:V.str q.1=y:=by have:=hx _ (SqL.of hA2);rw[hyi]at this;injection this
   obtain⟨p,hpm,ep⟩:=List.mem_map.mp (pm.mem_iff.mp (List.mem_of_getElem? hq))
   subst ep
   obtain⟨v',m1,m2'⟩:=ak p hpm
   have vv:valV kvs (Sum.inr p.1:Key)=some v':=by
    obtain⟨kv,h1,h2,h3⟩:=valV_mem (kvs:=kvs) (k:=Sum.inr p.1) (List.mem_map.mpr ⟨_,m1,rfl⟩)
    rw[h3,nd_inj ndk h1 m1 h2]
   have gg:DGet H6 c (.str p.1) (some v'):=by rw[<- vv];exact DGet.k (k:=Sum.inr p.1) (s2 _ _ (sa _ _ hk))
   refine gall ?_
   refine⟨_,rfl,_,rfl,_,rfl,.inr (.inr (.inr ⟨c,_,rfl,gg,(by show 2<=sizeLine;decide),fun t ht=>?_⟩))⟩
   refine⟨m2-1,by lia,s2.trans (same_new ht _),by lia,?_⟩
   rw[List.take_add_one,hq,datR_map,List.map_append,<- datR_map]
   exact (IsDts.mono (same_new ht _).tups iq).append (.one (isDt_new ht (.cons (by rw[IsDt]) (.one (IsDt.mono (sa.trans s2).tups m2')))))
  ·refine .inl ⟨⟨_,SqL.of hA2,by rw[List.length_map,List.length_map];lia⟩,fun l2 hl2=>⟨l2,zs,rfl,.inl ⟨SqL.of upd_same,fun t ht=>?_⟩⟩⟩
   rw[List.take_of_length_le (by lia)]at iq
   have sZ:=(sa.trans s2).trans ((same_new hl2 (.lst zs)).trans ((same_new ht (.tup zs))))
   refine⟨(by show 2<=sizeLine;decide),fun t2 ht2=>?_⟩
   have eF:ER x T1 T2 H H':=fun b o n1 n2 n3 z=>k5 b o (ne_of_none z ecH) ((e3.trans e5) b o n1 n2 n3 z)
   have wdF:Wd C H' x dx st (i+(rowT its).length):=⟨k5 _ _ (Ne.symm ncx) wd5.at_,wd5.le,wd5.ln⟩
   have tbF:Tb T1 T2 H':=tb5.keepD fun b o n z=>k5 b o (fun y=>by rw[y,hC5]at z;cases z;exact n _ rfl) z
   rw[dat]at fin
   refine fin.tup (eF.trans (.same sZ)) (wdF.keep sZ) (tbF.same sZ) (.cons (by rw[IsDt]) (.one ?_)) ht2
   exact isDt_new ht (IsDts.mono (same_new hl2 _).tups iq)
end
end K05
end
section
namespace K05
open PySem L2 Kn
theorem s_q:(Str.ofString "'").cps.toList=[39]:=by decide +kernel
theorem s_l:(Str.ofString "<").cps.toList=[60]:=by decide +kernel
theorem s_b:(Str.ofString "{").cps.toList=[123]:=by decide +kernel
theorem l_q:(Str.ofString "'").length=1:=by decide +kernel
theorem l_l:(Str.ofString "<").length=1:=by decide +kernel
theorem l_b:(Str.ofString "{").length=1:=by decide +kernel
theorem dg_head (i:Int):∃ c t,dg i=c::t/\isNum c=true:=by
 rcases num_shape i with ⟨m,rfl,e,_⟩ | ⟨m,rfl,c,t,e,_,_⟩
 ·cases q:(Nat.toDigits 10 m).map Char.toNat with
  | nil=>exact absurd q (digits_ne m)
  | cons c t=>
   refine⟨c,t,by rw[e,q],?_⟩
   have:=digit_sign (m:=m) (c:=c) (by rw[q];exact List.mem_cons_self)
   unfold isNum
   rw[decide_eq_true this.1,decide_eq_true this.2]
   simp
 ·exact⟨45,_,e,by decide⟩
theorem rd_head {n:Nat}{t:List Nat}{v:Val} (h:Rd n t v):∃ c r,t=c::r/\c≠125:=by
 cases h with
 | @num _ i _=>
  obtain⟨c,r,e,hn⟩:=dg_head i
  exact⟨c,r,e,fun z=>by rw[z]at hn;revert hn;decide⟩
 | word=>exact⟨_,_,rfl,by decide⟩
 | row=>exact⟨_,_,rfl,by decide⟩
 | bag=>exact⟨_,_,rfl,by decide⟩
section
variable {P:Program}{w:World}{K:PySem.W.Frag}{mg:Str->Option Value}{base:Heap}{f c0 f1 f2 f3 f4 f5 f6:Addr}{fd fd1 fd2 fd3 fd4 fd5 fd6:FuncData}{C T1 T2:Addr}
theorem Zcb:FnScope ["reader","depth"] ["reader","depth"] (defScope (top 23)):=⟨rfl,rfl,rfl,by decide +kernel,rfl,by decide +kernel,by decide +kernel⟩
theorem ok_rv {k n:Nat}{t1:Tok} (hT:T1≠T2) (hk:4<=k) (T:Tx mg) (LM:LmK K mg c0 T1) (Zab:Cls K C) (Zbs:mg "DEEPEST"=some (.int 12 t1)) (D:Df K mg "read_value" (top 23) f fd ["reader","depth"]) (hc:fd.code=.ref c0)
  (Zaf:Mf K C "takes" "Reader.takes" (mtop 11 1) f1 fd1 ["self","piece"]) (Zan:FnOk P w K mg base CX0 1 f1 fd1 ["self","piece"] (spTakes C))
  (ZaD:Mf K C "name" "Reader.name" (mtop 11 6) f2 fd2 ["self"]) (ZaT:FnOk P w K mg base CX0 3 f2 fd2 ["self"] (spNm C))
  (ZaK:Mf K C "number" "Reader.number" (mtop 11 7) f3 fd3 ["self"]) (Za7:FnOk P w K mg base CX0 3 f3 fd3 ["self"] (spNumb C))
  (Zax:Mf K C "parts" "Reader.parts" (mtop 11 8) f4 fd4 ["self","closing","read_part"]) (Zbr:FnOk P w K mg base CX0 k f4 fd4 ["self","closing","read_part"] (spPts C T1 T2 (CF C T1 T2 lamN1 lamE1 (S1 (SR n)) (13-n))))
  (ZaE:Df K mg "read_row" (top 24) f5 fd5 ["reader","depth"]) (Zcc:FnOk P w K mg base CX0 (k+1) f5 fd5 ["reader","depth"] (spRw C T1 T2 (SR n) (13-n)))
  (ZaF:Df K mg "bag_of" (top 19) f6 fd6 ["pairs"]) (Zbt:FnOk P w K mg base CX0 4 f6 fd6 ["pairs"] spBagOf) :
  FnOk P w K mg base CX0 (k+2) f fd ["reader","depth"] (spRv C T1 T2 (Rd n) (12-n)):=by
 refine D.fn.okC (k:=k+1) hc Zcb (fun vs H Q E h=>?_) (fun A outer s H vs Q E hr h=>?_)
 ·obtain⟨x,dx,st,i,t,v,r,dep,rfl,_⟩:=h;rfl
 obtain⟨x,dx,st,i,t,v,r,dep,rfl,hd,wd,tb,rd,hat,sr,fin⟩:=h
 have hu:=u110 hr
 have hu0:=u0 hr
 have hu1:=hu_of hr
 have hCl:=cl1 s.heap.objs.size f (.ref c0)
 have CP:CapOk (cxOf CX0 P w K mg base ["reader","depth"] "read_value" (defScope (top 23)) f (.ref c0) A outer s H E).nox (clo s.heap.objs.size) [0,1]:=
  ⟨fun p hp=>by
   simp only[clo,List.mem_cons,List.not_mem_nil,or_false]at hp
   rcases hp with rfl | rfl <;> rfl,.cons ⟨rfl,rfl⟩ (.cons ⟨rfl,rfl⟩ .nil),fun _=>rfl⟩
 refine⟨_,(wss_cons (ws_if (wt_cmpR op_gt (wv 1) (we_glob rfl Zbs (relv_int _ _)) (nomark _)) (wss_one ws_dead) wss_nil)
   (wss_cons (ws_if (wt_val (we_meth (wv 0) Zab Zaf.mt Zan (hr.mono (by lia)) Zaf.b .nil pass0 (wa_cons we_str wa_nil))) (wss_one (ws_ret (we_tup (wa_cons we_str (wa_cons (we_meth0 (wv 0) Zab ZaD.mt ZaT (hr.mono (by lia)) ZaD.b .nil pass0) wa_nil))))) wss_nil)
   (wss_cons (ws_if (wt_val (we_meth (wv 0) Zab Zaf.mt Zan (hr.mono (by lia)) Zaf.b .nil pass0 (wa_cons we_str wa_nil))) (wss_one (ws_ret (we_call Zcc (hr.mono (by lia)) rfl ZaE.mg ZaE.kp ZaE.b .nil pass0 (wa_cons (wv 0) (wa_cons (wv 1) wa_nil))))) wss_nil)
   (wss_cons (ws_if (wt_val (we_meth (wv 0) Zab Zaf.mt Zan (hr.mono (by lia)) Zaf.b .nil pass0 (wa_cons we_str wa_nil))) (wss_one (ws_ret (we_call Zbt (hr.mono (by lia)) rfl ZaF.mg ZaF.kp ZaF.b .nil pass0 (wa_cons (we_methC (E:=E0) CP (wv 0) Zab Zax.mt Zbr (hr.mono (by lia)) Zax.b (wa_cons we_str (wa_cons (we_lamC LM hCl) wa_nil))) wa_nil)))) wss_nil)
   (wss_one (ws_ret (we_tup (wa_cons we_str (wa_cons (we_meth0 (wv 0) Zab ZaK.mt Za7 (hr.mono (by lia)) ZaK.b .nil pass0) wa_nil))))))))),?_⟩
 refine seqH fun N1 to1=>⟨_,rfl,_,_,rfl,rfl,_,rfl,?_⟩
 rw[decide_eq_false (show ¬((12:Int)<dep) by lia)]
 refine iteF (to1 _ _ ?_)
 have no:∀ {p:Str}{c:Nat}{ps:List Nat},p.cps.toList=c::ps->(∀ d t',t++r=d::t'->d≠c)->has st p i=false:=fun hp h=>has_no hp hat h
 cases rd with
 | @num _ a h=>
  obtain⟨c,t',ec,hn⟩:=dg_head a
  have nn:∀ {q:Nat},isNum q=false->∀ d t'',dg a++r=d::t''->d≠q:=fun {q} hq d t'' e z=>by
   rw[ec]at e
   cases e
   rw[z,hq]at hn
   cases hn
  refine seqH fun N2 to2=>⟨_,rfl,x,dx,_,rfl,wd.at_,rfl,x,dx,st,_,i,rfl,(by rw[l_q];decide),wd,(fun z=>by rw[no s_q (nn (by decide))]at z;cases z),fun _=>⟨_,rfl,iteF (to2 _ _ ?_)⟩⟩
  refine seqH fun N3 to3=>⟨_,rfl,x,dx,_,rfl,wd.at_,rfl,x,dx,st,_,i,rfl,(by rw[l_l];decide),wd,(fun z=>by rw[no s_l (nn (by decide))]at z;cases z),fun _=>⟨_,rfl,iteF (to3 _ _ ?_)⟩⟩
  refine seqH fun N4 to4=>⟨_,rfl,x,dx,_,rfl,wd.at_,rfl,x,dx,st,_,i,rfl,(by rw[l_b];decide),wd,(fun z=>by rw[no s_b (nn (by decide))]at z;cases z),fun _=>⟨_,rfl,iteF (to4 _ _ ?_)⟩⟩
  refine⟨_,rfl,x,dx,_,rfl,wd.at_,rfl,x,dx,st,i,a,r,rfl,wd,hat,h,sr,fun H1 ex1 wd1=>⟨(by show 2<=sizeLine;decide),fun tt ht=>?_⟩⟩
  rw[dat]at fin
  exact fin.tup (.ex ex1) wd1 (tb.ex wd ex1) (.cons (by rw[IsDt]) (.one (by rw[IsDt]))) ht
 | @word _ z h=>
  have hat1:AtT st i ([39]++z.cps.toList) r:=hat
  have hz:z.cps.toList.length=z.length:=Array.length_toList
  refine⟨_,rfl,x,dx,_,rfl,wd.at_,rfl,x,dx,st,_,i,rfl,(by rw[l_q];decide),wd,fun _ H1 ex1 wd1=>⟨_,rfl,iteT ?_⟩,fun q=>by rw[has_yes wd.le (by rw[s_q];exact hat1.split.1)]at q;cases q⟩
  rw[l_q]at wd1
  refine⟨_,rfl,x,dx,_,rfl,wd1.at_,rfl,x,dx,st,_,z,r,rfl,wd1,hat1.split.2,h,sr,fun H2 ex2 wd2=>⟨(by show 2<=sizeLine;decide),fun tt ht=>?_⟩⟩
  rw[dat]at fin
  refine fin.tup ((ER.ex ex1).trans (.ex ex2)) ?_ ((tb.ex wd ex1).ex wd1 ex2) (.cons (by rw[IsDt]) (.one (by rw[IsDt]))) ht
  rw[List.length_cons,hz,show i+(z.length+1)=i+1+z.length by lia]
  exact wd2
 | @row n' its qs hl hn h nd pm rs=>
  have hat1:AtT st i ([60]++rowT its) r:=hat
  refine seqH fun N2 to2=>⟨_,rfl,x,dx,_,rfl,wd.at_,rfl,x,dx,st,_,i,rfl,(by rw[l_q];decide),wd,(fun z=>by rw[no s_q (fun d t' e=>by cases e;decide)]at z;cases z),fun _=>⟨_,rfl,iteF (to2 _ _ ?_)⟩⟩
  refine⟨_,rfl,x,dx,_,rfl,wd.at_,rfl,x,dx,st,_,i,rfl,(by rw[l_l];decide),wd,fun _ H1 ex1 wd1=>⟨_,rfl,iteT ?_⟩,fun q=>by rw[has_yes wd.le (by rw[s_l];exact hat1.split.1)]at q;cases q⟩
  rw[l_l]at wd1
  refine⟨_,rfl,_,rfl,x,dx,st,_,its,qs,r,dep,rfl,by lia,wd1,tb.ex wd ex1,hl,hn,h,nd,pm,rs,hat1.split.2,fun u H2 e2 wd2 tb2 iv=>?_⟩
  refine fin u H2 ((ER.ex ex1).trans e2) ?_ tb2 iv
  show Wd C H2 x dx st (i+((rowT its).length+1))
  rw[show i+((rowT its).length+1)=i+1+(rowT its).length by lia]
  exact wd2
 | @bag n' its qs hl h hcn hky ib=>
  have hat1:AtT st i ([123]++(jn (its.map fun p=>p.1++cn p.2.2)++[125])) r:=hat
  refine seqH fun N2 to2=>⟨_,rfl,x,dx,_,rfl,wd.at_,rfl,x,dx,st,_,i,rfl,(by rw[l_q];decide),wd,(fun z=>by rw[no s_q (fun d t' e=>by cases e;decide)]at z;cases z),fun _=>⟨_,rfl,iteF (to2 _ _ ?_)⟩⟩
  refine seqH fun N3 to3=>⟨_,rfl,x,dx,_,rfl,wd.at_,rfl,x,dx,st,_,i,rfl,(by rw[l_l];decide),wd,(fun z=>by rw[no s_l (fun d t' e=>by cases e;decide)]at z;cases z),fun _=>⟨_,rfl,iteF (to3 _ _ ?_)⟩⟩
  refine⟨_,rfl,x,dx,_,rfl,wd.at_,rfl,x,dx,st,_,i,rfl,(by rw[l_b];decide),wd,fun _ H1 ex1 wd1=>⟨_,rfl,iteT ?_⟩,fun q=>by rw[has_yes wd.le (by rw[s_b];exact hat1.split.1)]at q;cases q⟩
  rw[l_b]at wd1
  have tb1:=tb.ex wd ex1
  refine⟨_,rfl,x,dx,_,rfl,wd1.at_,rfl,tb1.1,fun fl cc ctv H3 hf h1 h2 h3 ex3=>⟨[.ref x,.int dep],rfl,fun g hp hn0=>?_⟩⟩
  have e13:ER x T1 T2 H1 H3:=fun b o _ n _ e=>ex3 b o n e
  have wd3:Wd C H3 x dx st (i+1):=wd1.er tb1 fun b o n _ e=>ex3 b o n e
  have tb3:Tb T1 T2 H3:=⟨.inr ⟨cc,h3,h2⟩,lt_keep tb1.2 (fun qs e=>ex3 _ _ (Ne.symm hT) e) (fun b y e=>ex3 _ _ (fun z=>by obtain⟨qs,h⟩:=lt_tbl tb1.1;rw[z,h]at e;cases e) e)⟩
  have em:((its.map fun p=>(p.1++cn p.2.2,Dt.tup [dat p.2.1,.int p.2.2])).map (·.1))=its.map fun p=>p.1++cn p.2.2:=by rw[List.map_map];rfl
  refine⟨lamN1,lamE1,S1 (SR (n'+1)),⟨s.heap.objs.size,_,cc,ctv,g,x,dep,fl⟩,dx,st,i+1,125,its.map fun p=>(p.1++cn p.2.2,Dt.tup [dat p.2.1,.int p.2.2]),r,rfl,⟨_,by show dep+1<=13-((n'+1:Nat):Int);lia,rfl,rfl⟩,⟨add_some hn0 h1,add_some hn0 h2,addG_cells hp⟩,wd3.addG hn0,tb3.addG hn0,.inr rfl,by rw[List.length_map];exact hl,fun q hq=>?_,by rw[em];exact hat1.split.2,?_⟩
  ·obtain⟨p,hpm,rfl⟩:=List.mem_map.mp hq
   refine⟨⟨p.1,p.2.1,p.2.2,h p hpm,(hcn p hpm).1,(hcn p hpm).2,rfl,rfl⟩,?_⟩
   obtain⟨c,t,e,ne⟩:=rd_head (h p hpm)
   exact⟨c,t++cn p.2.2,by rw[e];rfl,ne⟩
  rw[em]
  intro l vs H' e' wd' tb' hl' iv'
  obtain⟨hcl,e5,wd5,tb5,hl5,iv5⟩:=pts_back wd3 tb3 hn0 hp e' wd' tb' hl' iv'
  refine⟨hcl,?_⟩
  generalize remC H' (clo s.heap.objs.size)=H5 at e5 wd5 tb5 hl5 iv5 ⊢
  refine⟨l,vs,its.map fun p=>(p.2.1,p.2.2),rfl,⟨_,hl5,.inl rfl⟩,?_,by rw[List.length_map];exact hl,fun q hq=>?_,fun u H6 qs' s6 iu ib' _=>?_⟩
  ·rw[datB_map,List.map_map]
   rw[List.map_map]at iv5
   exact iv5
  ·obtain⟨p,hpm,rfl⟩:=List.mem_map.mp hq
   exact hky p hpm
  ·have eq:qs'=qs:=bag_unique ib' ib (fun _=>rfl)
   subst eq
   refine fin u H6 ((ER.ex ex1).trans (e13.trans (e5.trans (.same s6)))) ?_ (tb5.same s6) iu
   rw[List.length_cons,show ∀ m:Nat,i+(m+1)=i+1+m from fun m=>by lia]
   exact wd5.keep s6
theorem rv_all {t1:Tok}{c1 fv fr fc ff ft:Addr}{fdv fdr fdc fdf fdt:FuncData} (hT:T1≠T2) (T:Tx mg) (LM1:LmK K mg c0 T1) (LM2:LmK K mg c1 T2) (Zab:Cls K C) (Zbs:mg "DEEPEST"=some (.int 12 t1))
  (Zah:Df K mg "read_value" (top 23) fv fdv ["reader","depth"]) (hc1:fdv.code=.ref c0) (ZaE:Df K mg "read_row" (top 24) fr fdr ["reader","depth"]) (hc2:fdr.code=.ref c1)
  (Zav:Df K mg "read_counted" (top 26) fc fdc ["reader","depth"]) (Zaw:Df K mg "read_field" (top 25) ff fdf ["reader","depth"]) (ZaC:Df K mg "read_count" (top 27) ft fdt ["reader"]) (Zbo:FnOk P w K mg base CX0 4 ft fdt ["reader"] (spCt C))
  (Zaf:Mf K C "takes" "Reader.takes" (mtop 11 1) f1 fd1 ["self","piece"]) (Zan:FnOk P w K mg base CX0 1 f1 fd1 ["self","piece"] (spTakes C))
  (ZaD:Mf K C "name" "Reader.name" (mtop 11 6) f2 fd2 ["self"]) (ZaT:FnOk P w K mg base CX0 3 f2 fd2 ["self"] (spNm C))
  (ZaK:Mf K C "number" "Reader.number" (mtop 11 7) f3 fd3 ["self"]) (Za7:FnOk P w K mg base CX0 3 f3 fd3 ["self"] (spNumb C))
  (Zax:Mf K C "parts" "Reader.parts" (mtop 11 8) f4 fd4 ["self","closing","read_part"])
  (Zaz:Mf K C "needs" "Reader.needs" (mtop 11 2) f5 fd5 ["self","piece"]) (ZaJ:FnOk P w K mg base CX0 2 f5 fd5 ["self","piece"] (spNeeds C))
  (ZaF:Df K mg "bag_of" (top 19) f6 fd6 ["pairs"]) (Zbt:FnOk P w K mg base CX0 4 f6 fd6 ["pairs"] spBagOf) :
  ∀ n:Nat,FnOk P w K mg base CX0 (5 * n+9) fv fdv ["reader","depth"] (spRv C T1 T2 (Rd n) (12-n)):=fun n=>by
 have one:∀ k (n:Nat),4<=k->FnOk P w K mg base CX0 k fv fdv ["reader","depth"] (spRv C T1 T2 (SR n) (13-n))->FnOk P w K mg base CX0 (k+5) fv fdv ["reader","depth"] (spRv C T1 T2 (Rd n) (12-n)):=fun k n hk G=>by
  have gc:=ok_counted hk Zav Zah G ZaC Zbo
  have gf:=ok_field hk Zab Zaw Zah G ZaD ZaT Zaz ZaJ
  have p1:=ok_pts (T1:=T1) (T2:=T2) (by lia) T (held1 Zav gc) Zab Zax Zaf Zan Zaz ZaJ
  have p2:=ok_pts (T1:=T1) (T2:=T2) (by lia) T (held2 Zaw gf) Zab Zax Zaf Zan Zaz ZaJ
  have gr:=ok_rrow hT (by lia) T LM2 Zab ZaE hc2 Zax p2
  exact ok_rv (k:=k+3) hT (by lia) T LM1 Zab Zbs Zah hc1 Zaf Zan ZaD ZaT ZaK Za7 Zax p1 ZaE gr ZaF Zbt
 induction n with
 | zero=>exact one 4 0 (by decide) ⟨fun vs H Q E h=>by obtain⟨x,dx,st,i,t,v,r,dep,rfl,_⟩:=h;rfl,fun _ _ _ _ _ _ _ _ _ _ _ _ _ h=>by obtain⟨x,dx,st,i,t,v,r,dep,_,_,_,_,z,_⟩:=h;exact z.elim⟩
 | succ n ih=>
  have:=one (5 * n+9) (n+1) (by lia) (by rw[show (13:Int)-((n+1:Nat):Int)=12-n by lia];exact ih)
  exact this
theorem Zbu:FnScope ["text","reader","value"] ["text"] (defScope (top 22)):=⟨rfl,rfl,rfl,by decide +kernel,rfl,by decide +kernel,by decide +kernel⟩
def spRead (C T1 T2:Addr):Sp:=fun vs H Q _=>∃ (z:Str) (v:Val),vs=[.str z]/\z.length<=10000/\Rd 9 z.cps.toList v/\Tb T1 T2 H /\
 ∀ u H',(∀ b o,b≠T1->b≠T2->H b=some o->H' b=some o)->Tb T1 T2 H'->IsDt H' (dat v) u->Q u H'
theorem ok_read (T:Tx mg) (Zab:Cls K C) (Zcd:Mk K C f1) (Zce:mg "Reader"=some (.ref C)) (D:Df K mg "read" (top 22) f fd ["text"])
  (Zcf:Mf K C "__init__" "Reader.__init__" (mtop 11 0) f1 fd1 ["self","text"]) (Zcg:FnOk P w K mg base CX0 1 f1 fd1 ["self","text"] (spInit C))
  (Za5:Mf K C "at_end" "Reader.at_end" (mtop 11 4) f2 fd2 ["self"]) (Zbm:FnOk P w K mg base CX0 1 f2 fd2 ["self"] (spEnd C))
  (Zah:Df K mg "read_value" (top 23) f6 fd6 ["reader","depth"]) (Za8:FnOk P w K mg base CX0 54 f6 fd6 ["reader","depth"] (spRv C T1 T2 (Rd 9) (12-9))) :
  FnOk P w K mg base CX0 55 f fd ["text"] (spRead C T1 T2):=by
 refine D.fn.okH (k:=54) Zbu (fun vs H Q E h=>?_) (fun cdv A outer s H vs Q E hr h=>?_)
 ·obtain⟨z,t,rfl,_⟩:=h;rfl
 obtain⟨z,v,rfl,lz,rd,tb,fin⟩:=h
 have hu:=u110 hr
 have hu0:=u0 hr
 have hu1:=hu_of hr
 refine⟨_,(wss_cons (ws_set (i:=1) Zbu.nd rfl (Or.inl rfl) (we_make Zcd Zcg (hr.mono (by lia)) rfl Zce Zcf.b .nil pass0 (wa_cons (wv 0) wa_nil)))
   (wss_cons (ws_set (i:=2) Zbu.nd rfl (Or.inl rfl) (we_call Za8 (hr.mono (by lia)) rfl Zah.mg Zah.kp Zah.b .nil pass0 (wa_cons (wv 1) (wa_cons we_int wa_nil))))
   (wss_cons (ws_if (wt_not (wt_val (we_meth0 (wv 1) Zab Za5.mt Zbm (hr.mono (by lia)) Za5.b .nil pass0))) (wss_one ws_dead) wss_nil)
   (wss_one (ws_ret (wv 2)))))),?_⟩
 have hzl:z.cps.toList.length=z.length:=Array.length_toList
 refine seqH fun N1 to1=>⟨_,rfl,fun x dx hx hdx nd=>?_⟩
 have sM:Same H (upd (upd H dx (.own x)) x (.ins C dx [])):=fun b o e=>by rw[upd_ne (ne_of_none e hx),upd_ne (ne_of_none e hdx)];exact e
 refine⟨x,dx,z,rfl,lz,upd_same,fun H1 ex1 wd1=>⟨rfl,to1 _ _ ?_⟩⟩
 have e1:Same H H1:=fun b o e=>ex1 b o (ne_of_none e hx) (sM b o e)
 have tb1:=tb.same e1
 refine seqH fun N2 to2=>⟨_,rfl,x,dx,z,0,_,v,[],1,rfl,by decide,wd1,tb1,rd,(by unfold AtT;simp),(fun d t e=>by cases e),fun u H2 e2 wd2 tb2 iv=>to2 _ _ ?_⟩
 rw[Nat.zero_add,hzl]at wd2
 refine⟨_,rfl,x,dx,_,rfl,wd2.at_,rfl,x,dx,z,_,rfl,wd2,_,rfl,?_⟩
 rw[decide_eq_true rfl]
 refine iteF ⟨_,rfl,fin u H2 (fun b o n1 n2 e=>e2 b o (ne_of_none e hx) n1 n2 (e1 b o e)) tb2 iv⟩
end
end K05
end
section
namespace K05
open PySem L2 Kn
theorem erase_perm:∀ (l:List Str) {k:Nat} (h:k<l.length),([l[k]]++l.eraseIdx k).Perm l
 | [],_,h=>by cases h
 | x::l,0,_=>by simp
 | x::l,k+1,h=>by
  have ih:=erase_perm l (k:=k) (by simpa using h)
  simp only[List.getElem_cons_succ,List.eraseIdx_cons_succ,List.singleton_append]at ih ⊢
  exact (List.Perm.swap _ _ _).trans (ih.cons x)
theorem map_erase (f:Str->V):∀ (l:List Str) (k:Nat),(l.map f).eraseIdx k=(l.eraseIdx k).map f
 | [],_=>by simp
 | x::l,0=>by simp
 | x::l,k+1=>by simp [map_erase f l k]
section
variable {P:Program}{w:World}{K:PySem.W.Frag}{mg:Str->Option Value}{base:Heap}{f f_next:Addr}{fd fd_next:FuncData}
theorem Zbv:FnScope ["some","deck","left","found"] ["some","deck"] (defScope (top 44)):=⟨rfl,rfl,rfl,by decide +kernel,rfl,by decide +kernel,by decide +kernel⟩
def spMx:Sp:=fun vs H Q _=>∃ (a p:Addr) (zs:List Str) (n r:Int),vs=[.ref a,.ref p]/\H a=some (.lst (zs.map V.str))/\zs.length<=60/\Dk H p n r/\0<=n/\n+60<1000000000000 /\
 ∀ (l:Addr) (ys:List Str) (H':Hp),ys.Perm zs->Ex p H H'->Dk H' p (n+60) r->H' l=some (.lst (ys.map V.str))->Q (.ref l) H'
theorem ok_mixed (T:Tx mg) (D:Df K mg "_law_mixed" (top 44) f fd ["some","deck"]) (Zaa:Df K mg "_law_next" (top 31) f_next fd_next ["deck","many"]) (Zac:FnOk P w K mg base CX0 1 f_next fd_next ["deck","many"] spNext) :
  FnOk P w K mg base CX0 2 f fd ["some","deck"] spMx:=by
 refine D.fn.okH Zbv (fun vs H Q E h=>?_) (fun cdv A outer s H vs Q E hr h=>?_)
 ·obtain⟨a,p,zs,n,r,rfl,_⟩:=h;rfl
 obtain⟨a,p,zs,n,r,rfl,ha,lz,dk,n0,hn,fin⟩:=h
 have hu:=u110 hr
 have hu0:=u0 hr
 have hu1:=hu_of hr
 refine⟨_,(wss_cons (ws_set (i:=2) Zbv.nd rfl (Or.inl rfl) (we_callTy call_list_of rfl T.z_list bt_list (wa_cons (wv 0) wa_nil)))
   (wss_cons (ws_set (i:=3) Zbv.nd rfl (Or.inl rfl) (we_lst wa_nil))
   (wss_cons (ws_while PassesOwn.never (wt_cmpR (op_neU hu) (wv 2) (we_lst wa_nil) (nomark _)) (wss_one (ws_expr (we_bm PySem.F.plainAttrs_list PySem.F.slot_list_append PySem.F.type_list_append mt_append (wv 3) (wa_cons (we_bm PySem.F.plainAttrs_list PySem.F.slot_list_pop PySem.F.type_list_pop mt_popAt (wv 2) (wa_cons (we_call Zac (hr.mono (by lia)) rfl Zaa.mg Zaa.kp Zaa.b .nil pass0 (wa_cons (wv 1) (wa_cons (we_callB call_lenU rfl T.z_len bt_len (wa_cons (wv 2) wa_nil)) wa_nil))) wa_nil)) wa_nil)))))
   (wss_one (ws_ret (wv 3)))))),?_⟩
 refine seqH fun N1 to1=>⟨_,rfl,a,_,rfl,.inl (SqL.of ha),fun l hl=>to1 _ _ ?_⟩
 refine seqH fun N2 to2=>⟨(by show 0<=sizeLine;decide),fun o ho=>to2 _ _ ?_⟩
 have nlp:l≠p:=dk.ne hl
 have dk1:=(dk.new (o:=.lst (zs.map V.str)) hl)
 have nop:o≠p:=dk1.ne ho
 have nlo:l≠o:=fun z=>by rw[<- z,upd_same]at ho;cases ho
 have dk2:=dk1.new (o:=.lst []) ho
 have exA:Ex p H (upd (upd H l (.lst (zs.map V.str))) o (.lst [])):=(ex_new hl).trans (ex_new ho)
 have hL:(upd (upd H l (.lst (zs.map V.str))) o (.lst [])) l=some (.lst (zs.map V.str)):=by rw[upd_ne nlo];exact upd_same
 have hO:(upd (upd H l (.lst (zs.map V.str))) o (.lst [])) o=some (.lst []):=upd_same
 have hHl:H l=none:=hl
 have hHo:H o=none:=by
  cases z:H o with
  | none=>rfl
  | some y=>rw[same_new hl _ _ _ z]at ho;cases ho
 generalize upd (upd H l (.lst (zs.map V.str))) o (.lst [])=H1 at dk2 exA hL hO ⊢
 refine seqH fun N3 to3=>?_
 refine⟨fun m σ H'=>∃ (left found:List Str),m=left.length/\left.length+found.length=zs.length/\(found++left).Perm zs/\σ=[some (.ref a),some (.ref p),some (.ref l),some (.ref o)]/\Ex p H H'/\Dk H' p (n+found.length) r/\H' l=some (.lst (left.map V.str))/\H' o=some (.lst (found.map V.str)),
  ⟨zs.length,zs,[],rfl,rfl,List.Perm.refl _,rfl,exA,dk2.mono (by simp),hL,hO⟩,?_⟩
 rintro m σ H2 ⟨left,found,rfl,ln,pm,rfl,ex2,dk3,hL2,hO2⟩
 refine⟨_,rfl,(by show 0<=sizeLine;decide),fun e he=>.inr (.inr ⟨l,e,_,rfl,rfl,by rw[upd_ne (ne_of_none hL2 he)];exact hL2,upd_same,_,rfl,?_⟩)⟩
 have sE:=same_new he (.lst [])
 have ex3:Ex p H (upd H2 e (.lst [])):=fun b o n z=>sE _ _ (ex2 b o n z)
 have dk4:=dk3.keep sE
 have hL3:=sE _ _ hL2
 have hO3:=sE _ _ hO2
 generalize upd H2 e (.lst [])=H3 at ex3 dk4 hL3 hO3 ⊢
 by_cases hleft:left=[]
 ·subst hleft
  refine iteN (by simp) (to3 _ _ ?_)
  have hp':found.Perm zs:=by simpa using pm
  exact⟨_,rfl,fin o found H3 hp' ex3 (dk4.mono (by have:=hp'.length_eq;lia)) hO3⟩
 ·refine iteP (by simpa using hleft) ?_
  have lpos:0<left.length:=List.length_pos_iff.mpr hleft
  refine⟨fun σ H'=>∃ (left' found':List Str),left'.length<left.length/\left'.length+found'.length=zs.length/\(found'++left').Perm zs/\σ=[some (.ref a),some (.ref p),some (.ref l),some (.ref o)]/\Ex p H H'/\Dk H' p (n+found'.length) r/\H' l=some (.lst (left'.map V.str))/\H' o=some (.lst (found'.map V.str)),
   fun σ' H' ⟨left',found',h0,h⟩=>⟨left'.length,h0,left',found',rfl,h⟩,?_⟩
  refine⟨_,rfl,.inl ⟨rfl,_,SqL.of hO3⟩,_,rfl,.inl ⟨rfl,_,SqL.of hL3⟩,_,rfl,_,rfl,.inl ⟨l,_,rfl,.inl (SqL.of hL3),p,_,r,_,rfl,dk4,by lia,by rw[List.length_map];lia,by rw[List.length_map];lia,fun x H4 x0 x1 ex4 dk5=>?_⟩⟩
  rw[List.length_map]at x1
  obtain⟨k,rfl⟩:∃ k:Nat,x=k:=⟨x.toNat,by lia⟩
  have hk:k<left.length:=by lia
  have hL4:=ex4 l _ nlp hL3
  have hO4:=ex4 o _ nop hO3
  have hsq:seqIndex? (k:Int) (left.map V.str).length=some k:=(ixN_seq (by unfold ixN;rw[if_pos (by lia),List.length_map];simp [hk])).1
  refine⟨l,_,_,k,.str left[k],rfl,rfl,hL4,by lia,by lia,hsq,by rw[List.getElem?_map,List.getElem?_eq_getElem hk];rfl,?_⟩
  have hO5:(upd H4 l (.lst ((left.map V.str).eraseIdx k))) o=some (.lst (found.map V.str)):=by rw[upd_ne (Ne.symm nlo)];exact hO4
  refine⟨o,_,_,rfl,rfl,hO5,line1 (by rw[List.length_map];lia),left.eraseIdx k,found++[left[k]],by rw[List.length_eraseIdx_of_lt hk];lia,by rw[List.length_eraseIdx_of_lt hk,List.length_append];simp;lia,?_,rfl,?_,?_,?_,?_⟩
  ·refine List.Perm.trans ?_ pm
   rw[List.append_assoc]
   refine List.Perm.append_left _ ?_
   exact erase_perm left hk
  ·intro b y nb z
   rw[upd_ne (ne_of_none z hHo),upd_ne (ne_of_none z hHl)]
   exact ex4 b y nb (ex3 b y nb z)
  ·refine ((dk5.off (fun z=>nlp z.symm)).off (fun z=>nop z.symm)).mono ?_
   rw[List.length_append];simp;lia
  ·rw[upd_ne nlo,upd_same,map_erase]
  ·rw[upd_same,List.map_append];rfl
end
end K05
end
section
namespace K05
open PySem L2 Kn
def nz (xs:List Int):List Int:=xs.filter fun x=>decide (x≠0)
theorem nz_sum (xs:List Int):(nz xs).sum=xs.sum:=by
 induction xs with
 | nil=>rfl
 | cons x xs ih=>
  unfold nz at ih ⊢
  by_cases h:x=0
  ·subst h
   rw[List.filter_cons_of_neg (by simp),ih,List.sum_cons];lia
  ·rw[List.filter_cons_of_pos (by simpa using h),List.sum_cons,List.sum_cons,ih]
theorem nz_mem {xs:List Int}{x:Int} (h:x∈nz xs):x∈xs/\x≠0:=by
 have:=List.mem_filter.mp h
 exact⟨this.1,by simpa using this.2⟩
theorem numS_len' {i:Int} (h:i.natAbs<10 ^ 34):(numS i).length<=35:=dg_len h
section
variable {P:Program}{w:World}{K:PySem.W.Frag}{mg:Str->Option Value}{base:Heap}{f f_next:Addr}{fd fd_next:FuncData}
theorem Zbf:FnScope ["text","count","deck","one","found","part"] ["text","count","deck"] (defScope (top 45)):=⟨rfl,rfl,rfl,by decide +kernel,rfl,by decide +kernel,by decide +kernel⟩
def spSplit:Sp:=fun vs H Q _=>∃ (z:Str) (c:Int) (p:Addr) (n r:Int),vs=[.str z,.int c,.ref p]/\z.length<=1000000/\c.natAbs<10 ^ 32/\Dk H p n r/\0<=n/\n+3<1000000000000 /\
 ∀ (l:Addr) (ts:List Str) (cs:List Int) (H':Hp),cs.length<=2->(∀ x∈cs,x≠0/\x.natAbs<10 ^ 33)->cs.sum=c->ts.map (·.cps.toList)=cs.map (fun x=>z.cps.toList++cn x)->Ex p H H'->Dk H' p (n+3) r->H' l=some (.lst (ts.map V.str))->Q (.ref l) H'
theorem ok_split (T:Tx mg) (D:Df K mg "_law_split" (top 45) f fd ["text","count","deck"]) (Zaa:Df K mg "_law_next" (top 31) f_next fd_next ["deck","many"]) (Zac:FnOk P w K mg base CX0 1 f_next fd_next ["deck","many"] spNext) :
  FnOk P w K mg base CX0 2 f fd ["text","count","deck"] spSplit:=by
 refine D.fn.okH Zbf (fun vs H Q E h=>?_) (fun cdv A outer s H vs Q E hr h=>?_)
 ·obtain⟨z,c,p,n,r,rfl,_⟩:=h;rfl
 obtain⟨z,c,p,n,r,rfl,lz,cb,dk,n0,hn,fin⟩:=h
 have hu:=u110 hr
 have hu0:=u0 hr
 have hu1:=hu_of hr
 refine⟨_,(wss_cons (ws_set (i:=3) Zbf.nd rfl (Or.inl rfl) (we_ix (ix_U hu1) (we_lst (wa_cons (wv 1) (wa_cons (we_op op_plus (we_op op_plus (wv 1) we_int) (we_call Zac (hr.mono (by lia)) rfl Zaa.mg Zaa.kp Zaa.b .nil pass0 (wa_cons (wv 2) (wa_cons we_int wa_nil)))) (wa_cons (we_op op_sub (we_un un_neg we_int) (we_call Zac (hr.mono (by lia)) rfl Zaa.mg Zaa.kp Zaa.b .nil pass0 (wa_cons (wv 2) (wa_cons we_int wa_nil)))) wa_nil)))) (we_call Zac (hr.mono (by lia)) rfl Zaa.mg Zaa.kp Zaa.b .nil pass0 (wa_cons (wv 2) (wa_cons we_int wa_nil))) (fun _ _=>rfl)))
   (wss_cons (ws_set (i:=4) Zbf.nd rfl (Or.inl rfl) (we_lst wa_nil))
   (wss_cons (ws_for PassesOwn.never rfl (wi_U (we_lst (wa_cons (wv 3) (wa_cons (we_op op_sub (wv 1) (wv 3)) wa_nil)))) (wg_name (i:=5) Zbf.nd rfl (Or.inl rfl)) (wss_one (ws_if (wt_cmpR (op_eqU hu) (wv 5) we_int (nomark _)) (wss_one (ws_expr (we_bm PySem.F.plainAttrs_list PySem.F.slot_list_append PySem.F.type_list_append mt_append (wv 4) (wa_cons (wv 0) wa_nil)))) (wss_one (ws_if (wt_cmpR (op_neU hu) (wv 5) we_int (nomark _)) (wss_one (ws_expr (we_bm PySem.F.plainAttrs_list PySem.F.slot_list_append PySem.F.type_list_append mt_append (wv 4) (wa_cons (we_op op_plus (we_op op_plus (wv 0) we_str) (we_callTy call_str_int rfl T.z_str bt_str (wa_cons (wv 5) wa_nil))) wa_nil)))) wss_nil)))))
   (wss_one (ws_ret (wv 4)))))),?_⟩
 refine seqH fun N1 to1=>?_
 refine⟨_,rfl,_,rfl,.inl ⟨_,_,rfl,rfl,_,rfl,p,n,r,_,rfl,dk,by lia,by decide,by decide,fun x1 H1 a0 a1 ex1 dk1=>.inl ⟨_,_,rfl,rfl,_,rfl,_,rfl,p,_,r,_,rfl,dk1,by lia,by decide,by decide,fun x2 H2 b0 b1 ex2 dk2=>?_⟩⟩⟩
 refine⟨_,_,rfl,rfl,(by show 3<=sizeLine;decide),fun l hl=>?_⟩
 have nl:=dk2.ne hl
 refine⟨_,rfl,p,_,r,_,rfl,dk2.new hl,by lia,by decide,by decide,fun x3 H3 c0 c1 ex3 dk3=>?_⟩
 obtain⟨v,hv,hm⟩:=atI_mem (xs:=[V.int c,.int (c+2+x1),.int (-5-x2)]) c0 c1
 obtain⟨o,rfl,ob⟩:∃ o:Int,v=.int o/\(o.natAbs<10 ^ 32+20):=by
  simp only[List.mem_cons,List.not_mem_nil,or_false]at hm
  rcases hm with rfl | rfl | rfl
  ·exact⟨_,rfl,by lia⟩
  ·exact⟨_,rfl,by lia⟩
  ·exact⟨_,rfl,by lia⟩
 refine .inl ⟨l,_,x3,_,rfl,rfl,SqL.of (ex3 l _ nl upd_same),hv,to1 _ _ ?_⟩
 have exA:Ex p H H3:=ex1.trans (ex2.trans ((ex_new hl).trans ex3))
 have dkA:Dk H3 p (n+3) r:=dk3.mono (by lia)
 clear hv hm dk3 ex3 dk2 dk1 ex1 ex2 hl nl
 refine seqH fun N2 to2=>⟨(by show 0<=sizeLine;decide),fun q hq=>to2 _ _ ?_⟩
 have nq:q≠p:=dkA.ne hq
 have dkB:=dkA.new (o:=.lst []) hq
 have exB:Ex p H (upd H3 q (.lst [])):=exA.trans (ex_new hq)
 have hQ:(upd H3 q (.lst [])) q=some (.lst []):=upd_same
 generalize upd H3 q (.lst [])=H4 at dkB exB hQ ⊢
 refine seqH fun N3 to3=>.inl ⟨_,rfl,_,rfl,_,rfl,_,_,rfl,rfl,(by show 2<=sizeLine;decide),fun g hg=>?_⟩
 have ng:g≠p:=dkB.ne hg
 have nqg:q≠g:=fun z=>by rw[<- z,hQ]at hg;cases hg
 have dkC:=dkB.new (o:=.lst [.int o,.int (c-o)]) hg
 have exC:Ex p H (upd H4 g (.lst [.int o,.int (c-o)])):=exB.trans (ex_new hg)
 have hG:(upd H4 g (.lst [.int o,.int (c-o)])) g=some (.lst (([o,c-o]:List Int).map V.int)):=upd_same
 have hQ5:(upd H4 g (.lst [.int o,.int (c-o)])) q=some (.lst []):=by rw[upd_ne nqg];exact hQ
 generalize upd H4 g (.lst [.int o,.int (c-o)])=H5 at dkC exC hG hQ5 ⊢
 have hHq:H q=none:=by
  cases e:H q with
  | none=>rfl
  | some y=>rw[exA q y nq e]at hq;cases hq
 refine for_list (b:=g) (xs:=([o,c-o]:List Int).map V.int) (fun j σ H'=>∃ (o5:Option V) (ts:List Str),σ=[some (.str z),some (.int c),some (.ref p),some (.int o),some (.ref q),o5]/\Ex p H H'/\Dk H' p (n+3) r/\H' g=some (.lst (([o,c-o]:List Int).map V.int))/\H' q=some (.lst (ts.map V.str))/\ts.map (·.cps.toList)=(nz (([o,c-o]:List Int).take j)).map (fun x=>z.cps.toList++cn x))
  ⟨none,[],rfl,exC,dkC,hG,hQ5,rfl⟩ ?stay ?turn ?done
 case stay=>rintro j σ H' ⟨o5,ts,rfl,_,_,h,_⟩;exact h
 case turn=>
  rintro E2 j hj σ H' ⟨o5,ts,rfl,ex,dk',hg',hq',et⟩ nx rt
  have hj':j<([o,c-o]:List Int).length:=by rw[List.length_map]at hj;exact hj
  obtain⟨y,hy⟩:∃ y,([o,c-o]:List Int)[j]?=some y:=⟨_,List.getElem?_eq_getElem hj'⟩
  have hyb:y.natAbs<10 ^ 34:=by
   have:=List.mem_of_getElem? hy
   simp only[List.mem_cons,List.not_mem_nil,or_false]at this
   rcases this with rfl | rfl <;> lia
  have htk:nz (([o,c-o]:List Int).take (j+1))=nz (([o,c-o]:List Int).take j)++nz [y]:=by
   rw[List.take_add_one,hy]
   unfold nz
   rw[List.filter_append];rfl
  have lts:ts.length<=2:=by
   have h1:=congrArg List.length et
   rw[List.length_map,List.length_map]at h1
   have h2:(nz (([o,c-o]:List Int).take j)).length<=(([o,c-o]:List Int).take j).length:=List.length_filter_le _ _
   rw[List.length_take]at h2
   simp at h2
   lia
  have eV:(([o,c-o]:List Int).map V.int)[j]=V.int y:=by
   rw[List.getElem_map,(List.getElem?_eq_some_iff.mp hy).2]
  rw[eV]
  have put:∀ t:Str,t.cps.toList=z.cps.toList++cn y->y≠0->E2.nx [some (.str z),some (.int c),some (.ref p),some (.int o),some (.ref q),some (.int y)] (upd H' q (.lst (ts.map V.str++[.str t]))):=fun t e hy0=>by
   refine nx _ _ ⟨_,ts++[t],rfl,fun b u nb e2=>by rw[upd_ne (ne_of_none e2 hHq)];exact ex b u nb e2,(dk'.off (fun z=>nq z.symm)),by rw[upd_ne (Ne.symm nqg)];exact hg',by rw[upd_same,List.map_append];rfl,?_⟩
   rw[List.map_append,et,htk,List.map_append]
   have:nz [y]=[y]:=by unfold nz;rw[List.filter_cons_of_pos (by simpa using hy0)];rfl
   rw[this,List.map_cons,List.map_cons,e];rfl
  refine⟨_,rfl,.inl ⟨rfl,_,rfl,?_⟩⟩
  refine ite2 (fun e1=>?_) (fun e1=>?_)
  ·have y1:y=1:=by have:=of_decide_eq_true e1;injection this
   refine⟨_,rfl,.inl ⟨rfl,_,SqL.of hq'⟩,_,rfl,q,_,_,rfl,rfl,hq',line1 (by rw[List.length_map];lia),put z ?_ (by lia)⟩
   rw[y1];exact (List.append_nil _).symm
  ·have y1:y≠1:=fun e=>e1 (by rw[e];exact decide_eq_true rfl)
   refine⟨_,rfl,.inl ⟨rfl,_,rfl,?_⟩⟩
   refine ite2 (fun e2=>?_) (fun e2=>?_)
   ·have y0:y≠0:=fun e=>by rw[e]at e2;exact absurd e2 (by decide)
    have l3:(Str.ofString " * ").length=3:=by decide +kernel
    have ln:=numS_len' hyb
    refine⟨_,rfl,.inl ⟨rfl,_,SqL.of hq'⟩,_,rfl,.inr (.inl ⟨_,_,rfl,rfl,Nat.le_of_lt (line1 (by rw[l3];lia)),_,rfl,y,rfl,log_of hyb,.inr (.inl ⟨_,_,rfl,rfl,?_,?_⟩)⟩)⟩
    ·refine Nat.le_of_lt (line1 ?_)
     have:=len_app z (Str.ofString " * ")
     show (z++Str.ofString " * ").length+(numS y).length<=2000000
     lia
    ·refine⟨q,_,_,rfl,rfl,hq',line1 (by rw[List.length_map];lia),put _ ?_ y0⟩
     rw[cps_app,cps_app,s_st']
     have:cn y=[32,42,32]++dg y:=by unfold cn;rw[if_neg y1];rfl
     rw[this,List.append_assoc]
     rfl
   ·have y0:y=0:=by
     refine Classical.byContradiction fun h=>e2 ?_
     have:decide (V.int y=V.int 0)=false:=decide_eq_false fun q=>h (by injection q)
     rw[this];rfl
    refine nx _ _ ⟨_,ts,rfl,ex,dk',hg',hq',?_⟩
    have:nz [y]=[]:=by unfold nz;rw[y0];rfl
    rw[htk,this,List.append_nil];exact et
 case done=>
  rintro σ H' ⟨o5,ts,rfl,ex,dk',hg',hq',et⟩
  have et:ts.map (·.cps.toList)=(nz [o,c-o]).map (fun x=>z.cps.toList++cn x):=et
  refine to3 _ _ ⟨_,rfl,fin q ts (nz [o,c-o]) H' (List.length_filter_le _ _) (fun x hx=>?_) ?_ et ex dk' hq'⟩
  ·have:=nz_mem hx
   refine⟨this.2,?_⟩
   have:=this.1
   simp only[List.mem_cons,List.not_mem_nil,or_false]at this
   rcases this with rfl | rfl <;> lia
  ·rw[nz_sum]
   simp only[List.sum_cons,List.sum_nil]
   lia
end
end K05
end
section
namespace K05
open PySem L2 Kn
theorem for_tup {K:PySem.W.Frag}{b:Addr}{xs:List V}{g:TG}{tb:TS}{D:Ends} {σ:St} {H:Hp} (Pv:Nat->St->Hp->Prop) (h0:Pv 0 σ H) (stay:∀ i σ H',Pv i σ H'->H' b=some (.tup xs))
  (hs:∀ (E:Ends) i (hi:i<xs.length) σ H',Pv i σ H'->(∀ σ H,Pv (i+1) σ H->E.nx σ H)->(∀ v H,D.rt v H->E.rt v H)->g xs[i] σ H' fun σ2 H2=>tb E σ2 H2) (hd:∀ σ H,Pv xs.length σ H->D.nx σ H) :
  ∃ q,V.ref b=V.ref q/\(∃ ys,SqT K H q ys)/\∃ W:Nat->Nat->St->Hp->Prop,(∃ m,W 0 m σ H)/\∀ i m σ H,W i m σ H ->
   ((Itt K q).stop i H/\D.nx σ H)\/((Itt K q).go i H/\∃ N:St->Hp->Prop,(∀ σ' H',N σ' H'->∃ m',m'<m/\W (i+1) m' σ' H')/\∀ x H',(Itt K q).yld i H x H'->g x σ H' fun σ2 H2=>tb { D with nx:=N,ct:=N,bk:=D.nx } σ2 H2):=by
 refine⟨b,rfl,⟨xs,SqT.of (stay _ _ _ h0)⟩,fun i m σ H=>m+i=xs.length/\Pv i σ H,⟨xs.length,rfl,h0⟩,?_⟩
 rintro i m σ H ⟨hm,p⟩
 have hb:=stay _ _ _ p
 by_cases hi:i<xs.length
 ·refine .inr ⟨⟨_,_,SqT.of hb,List.getElem?_eq_getElem hi⟩,fun σ' H'=>Pv (i+1) σ' H',fun σ' H' h=>⟨m-1,by lia,by lia,h⟩,fun x H' hy=>?_⟩
  obtain⟨eH,hx⟩:=hy
  rw[eH]
  clear eH H'
  have e2:=hx _ (SqT.of hb)
  rw[List.getElem?_eq_getElem hi]at e2
  cases e2
  exact hs _ i hi σ H p (fun _ _ h=>h) (fun _ _ h=>h)
 ·refine .inl ⟨⟨_,SqT.of hb,by lia⟩,hd σ H ?_⟩
  obtain rfl:i=xs.length:=by lia
  exact p
theorem join_jn (ts:List Str):(Txt.join (Str.ofString ", ") ts).cps.toList=jn (ts.map (·.cps.toList)):=by
  have g:Txt.join (Str.ofString ", ") ts=Str.join (Str.ofString ", ") ts:=StrLaws.glued_eq_join _ _
  rw[g]
  clear g
  induction ts with
  | nil=>rfl
  | cons x r ih=>
   cases r with
   | nil=>rfl
   | cons y r=>
    show (x++Str.ofString ", "++Str.join (Str.ofString ", ") (y::r)).cps.toList=_
    rw[cps_app,cps_app,ih,s_cm,List.append_assoc]
    rfl
theorem join_ln (ts:List Str):(Txt.join (Str.ofString ", ") ts).length<=(ts.map (·.length)).sum+ts.length * 2:=by
 have g:Txt.join (Str.ofString ", ") ts=Str.join (Str.ofString ", ") ts:=StrLaws.glued_eq_join _ _
 have:=StrLaws.join_length_le (Str.ofString ", ") ts
 rw[show (Str.ofString ", ").length=2 by decide +kernel]at this
 rw[g];exact this
def QQ (d:Nat):Nat:=400 * 2 ^ d
theorem QQ_succ (d:Nat):QQ (d+1)=2 * QQ d:=by unfold QQ;rw[Nat.pow_succ];lia
theorem QQ_pos (d:Nat):400<=QQ d:=by
 have:=Nat.one_le_two_pow (n:=d)
 unfold QQ;lia
theorem QQ_le {d:Nat} (h:d<=6):QQ d<=25600:=by
 have:2 ^ d<=2 ^ 6:=Nat.pow_le_pow_right (by decide) h
 unfold QQ;lia
theorem mem_le_sum:∀ {l:List Nat}{x:Nat},x∈l->x<=l.sum
 | [],_,h=>nomatch h
 | y::l,x,h=>by
  rw[List.sum_cons]
  rcases List.mem_cons.mp h with rfl | h
  ·lia
  ·have:=mem_le_sum h;lia
theorem vszR_app (a b:List (Str×Val)):vszR (a++b)=vszR a+vszR b:=by rw[vszR_map,vszR_map,vszR_map,List.map_append,List.sum_append]
def ce:Nat->Int
 | 0=>0
 | d+1=>cst d
theorem ce_pos (d:Nat):0<=ce d:=by
 cases d with
 | zero=>exact Int.le_refl _
 | succ d=>have:=cst_pos d;show 0<=cst d;lia
theorem ce_le (d:Nat):6 * (ce d+3)+60<=cst d:=by
 cases d with
 | zero=>decide
 | succ d=>
  have h1:=cst_succ d
  have h2:=cst_pos d
  show 6 * (cst d+3)+60<=cst (d+1)
  lia
theorem perm_lift {α:Type} {f:Str->List Nat}{g:α->List Nat}{ys ts:List Str} (h:ys.Perm ts):∀ {its:List α},ts.map f=its.map g->∃ its':List α,its'.Perm its/\ys.map f=its'.map g:=by
 induction h with
 | nil=>exact fun {its} e=>⟨its,.refl _,e⟩
 | @cons x l1 l2 _ ih=>
  intro its e
  cases its with
  | nil=>cases e
  | cons a r=>
   rw[List.map_cons,List.map_cons]at e
   injection e with e1 e2
   obtain⟨r',p,e3⟩:=ih e2
   exact⟨a::r',p.cons a,by rw[List.map_cons,List.map_cons,e1,e3]⟩
 | swap x y l=>
  intro its e
  match its,e with
  | [],e=>simp at e
  | [_],e=>simp at e
  | a::b::r,e=>
   simp only[List.map_cons]at e
   injection e with e1 e2
   injection e2 with e2 e3
   exact⟨b::a::r,.swap a b r,by simp only[List.map_cons];rw[e1,e2,e3]⟩
 | trans _ _ ih1 ih2=>
  intro its e
  obtain⟨i1,p1,e1⟩:=ih2 e
  obtain⟨i2,p2,e2⟩:=ih1 e1
  exact⟨i2,p2.trans p1,e2⟩
theorem rise_nd:∀ {l:List Str},riseS l->l.Nodup
 | [],_=>.nil
 | a::l,h=>List.nodup_cons.mpr ⟨fun z=>absurd (rise_lt h a z) (List.lt_irrefl _),rise_nd (rise_tail h)⟩
theorem v0 {x y:V}:atI [x,y] 0=some x:=(show atI [x,y] ((0:Nat):Int)=_ from atI_nat rfl)
theorem v1 {x y:V}:atI [x,y] 1=some y:=(show atI [x,y] ((1:Nat):Int)=_ from atI_nat rfl)
theorem sum_sh {ws:List Str}{m:Nat} (h:∀ w∈ws,w.length<=m):(ws.map (·.length)).sum<=ws.length * m:=by
 induction ws with
 | nil=>simp
 | cons a ws ih=>
  have h1:=h a List.mem_cons_self
  have h2:=ih fun w hw=>h w (List.mem_cons_of_mem _ hw)
  rw[List.map_cons,List.sum_cons,List.length_cons,Nat.succ_mul]
  lia
theorem vszB_app (a b:List (Val×Int)):vszB (a++b)=vszB a+vszB b:=by rw[vszB_map,vszB_map,vszB_map,List.map_append,List.sum_append]
theorem dk_str {H:Hp}{p q:Addr}{n r:Int}{ts:List Str} (dk:Dk H p n r) (h:H q=some (.lst (ts.map V.str))):q≠p:=fun z=>by
 obtain⟨c,f,m,c0,e,_⟩:=dk
 rw[z,e]at h
 cases ts with
 | nil=>cases h
 | cons t ts=>simp at h
theorem cnt_cs (w v:Val) (cs:List Int):cnt w (cs.map fun x=>(v,x))=if v=w then cs.sum else 0:=by
 induction cs with
 | nil=>simp [cnt]
 | cons x cs ih=>
  rw[List.map_cons,cnt,ih,List.sum_cons]
  by_cases h:v=w
  ·rw[if_pos h,if_pos h,if_pos h]
  ·rw[if_neg h,if_neg h,if_neg h];rfl
theorem bd8 {d:Nat}{x:Val} (h:Bd 6 d x) (hd:d<=6):Bd 7 8 x:=by
 have:∀ e,Bd 6 (d+e) x:=fun e=>by
  induction e with
  | zero=>exact h
  | succ e ih=>exact ih.up
 have h8:=this (8-d)
 rw[show d+(8-d)=8 by lia]at h8
 exact h8.mono (by decide)
section
variable {P:Program}{w:World}{K:PySem.W.Frag}{mg:Str->Option Value}{base:Heap}{f f_next f_text f_mixed f_split:Addr}{fd fd_next fd_text fd_mixed fd_split:FuncData}
theorem ZaG:FnScope ["value","deck","word","what","parts","one","other","marks"] ["value","deck"] (defScope (top 46)):=⟨rfl,rfl,rfl,by decide +kernel,rfl,by decide +kernel,by decide +kernel⟩
def spLoose (d:Nat):Sp:=fun vs H Q _=>∃ (u:V) (p:Addr) (n r:Int) (x:Val),vs=[u,.ref p]/\IsDt H (dat x) u/\Bd 6 d x/\GV x/\vsz x<=60/\Dk H p n r/\0<=n/\n+cst d<1000000000000/\d<=6 /\
 ∀ (z:Str) (H':Hp),z.length<=QQ d * vsz x->Rd (d+1) z.cps.toList x->Ex p H H'->Dk H' p (n+cst d) r->Q (.str z) H'
theorem ok_loose {k d:Nat} (hk:9<=k) (T:Tx mg) (Zai:Df K mg "_law_loose" (top 46) f fd ["value","deck"]) (Zbg:FnOk P w K mg base CX0 k f fd ["value","deck"] (pre spLoose d))
  (Zad:Df K mg "_law_text" (top 43) f_text fd_text ["value"]) (Zat:FnOk P w K mg base CX0 9 f_text fd_text ["value"] (spText 8))
  (Zam:Df K mg "_law_mixed" (top 44) f_mixed fd_mixed ["some","deck"]) (ZaL:FnOk P w K mg base CX0 2 f_mixed fd_mixed ["some","deck"] spMx)
  (Zay:Df K mg "_law_split" (top 45) f_split fd_split ["text","count","deck"]) (Za9:FnOk P w K mg base CX0 2 f_split fd_split ["text","count","deck"] spSplit) :
  FnOk P w K mg base CX0 (k+1) f fd ["value","deck"] (spLoose d):=by
 refine Zai.fn.okH ZaG (fun vs H Q E h=>?_) (fun cdv A outer s H vs Q E hr h=>?_)
 ·obtain⟨u,p,n,r,x,rfl,_⟩:=h;rfl
 obtain⟨u,p,n,r,x,rfl,iu,bd,gv,sz,dk,n0,hn,d6,fin⟩:=h
 have hu:=u110 hr
 have hu0:=u0 hr
 have hu1:=hu_of hr
 refine⟨_,(wss_cons (ws_asg (wv 0) (wg_tup rfl (wgs_cons (wg_name (i:=2) ZaG.nd rfl (Or.inl rfl)) (wgs_cons (wg_name (i:=3) ZaG.nd rfl (Or.inl rfl)) wgs_nil))))
   (wss_cons (ws_if (wt_cmpR (op_inU hu) (wv 2) (we_tup (wa_consts rfl)) (by with_unfolding_all rfl)) (wss_one (ws_ret (we_call Zat (hr.mono (by lia)) rfl Zad.mg Zad.kp Zad.b .nil pass0 (wa_cons (wv 0) wa_nil)))) wss_nil)
   (wss_cons (ws_set (i:=4) ZaG.nd rfl (Or.inl rfl) (we_lst wa_nil))
   (wss_cons (ws_for PassesOwn.never rfl (wi_U (wv 3)) (wg_tup rfl (wgs_cons (wg_name (i:=5) ZaG.nd rfl (Or.inl rfl)) (wgs_cons (wg_name (i:=6) ZaG.nd rfl (Or.inl rfl)) wgs_nil))) (wss_one (ws_if (wt_cmpR (op_eqU hu) (wv 2) we_str (nomark _)) (wss_one (ws_expr (we_bm PySem.F.plainAttrs_list PySem.F.slot_list_append PySem.F.type_list_append mt_append (wv 4) (wa_cons (we_op op_plus (we_op op_plus (wv 5) we_str) (we_call Zbg (hr.mono (by lia)) rfl Zai.mg Zai.kp Zai.b .nil pass0 (wa_cons (wv 6) (wa_cons (wv 1) wa_nil)))) wa_nil)))) (wss_one (ws_set (i:=4) ZaG.nd rfl (Or.inl rfl) (we_op op_plus (wv 4) (we_call Za9 (hr.mono (by lia)) rfl Zay.mg Zay.kp Zay.b .nil pass0 (wa_cons (we_call Zbg (hr.mono (by lia)) rfl Zai.mg Zai.kp Zai.b .nil pass0 (wa_cons (wv 5) (wa_cons (wv 1) wa_nil))) (wa_cons (wv 6) (wa_cons (wv 1) wa_nil))))))))))
   (wss_cons (ws_set (i:=7) ZaG.nd rfl (Or.inl rfl) (we_ix (ix_U hu1) (we_lst (wa_cons (we_lst (wa_consts rfl)) (wa_cons (we_lst (wa_consts rfl)) wa_nil))) (we_callTy call_int1 rfl T.z_int bt_int (wa_cons (we_cmpR (op_eqU hu) (wv 2) we_str (nomark _)) wa_nil)) (fun _ _=>rfl)))
   (wss_one (ws_ret (we_op op_plus (we_op op_plus (we_ix (ix_U hu1) (wv 7) we_int (fun _ _=>rfl)) (we_bm PySem.F.plainAttrs_str PySem.F.slot_str_join PySem.F.type_str_join mt_join we_str (wa_cons (we_call ZaL (hr.mono (by lia)) rfl Zam.mg Zam.kp Zam.b .nil pass0 (wa_cons (wv 4) (wa_cons (wv 1) wa_nil))) wa_nil))) (we_ix (ix_U hu1) (wv 7) we_int (fun _ _=>rfl)))))))))),?_⟩
 have hCd:=cst_pos d
 have q400:=QQ_pos d
 cases x with
 | num a=>
  obtain⟨ad,rfl,hA⟩:=vl_num iu
  have gA:a.natAbs<10 ^ 34:=by have:=gv;unfold GV at this;rw[Gv]at this;exact Nat.lt_of_lt_of_le this (by decide)
  refine seqH fun N1 to1=>⟨_,rfl,ad,_,rfl,SqT.of hA,rfl,_,_,rfl,_,_,rfl,rfl,to1 _ _ ?_⟩
  refine⟨_,rfl,(by show 2<=sizeLine;decide),fun tp htp=>.inl ⟨tp,_,rfl,.inr (SqT.of upd_same),rfl,rfl,_,rfl,iteP (by decide +kernel) ?_⟩⟩
  have st:=same_new htp (.tup [V.str "num",V.str "word"])
  refine⟨_,rfl,_,.num a,rfl,IsDt.mono st.tups iu,bd8 bd d6,Gv.mono (by decide) (by decide) gv,by rw[vsz];decide,fun z H1 ez s1=>?_⟩
  have ez':z.cps.toList=dg a:=by rw[ez,enc]
  have lz:z.length<=35:=by have h1:z.cps.toList.length=z.length:=Array.length_toList;rw[ez']at h1;have:=dg_len gA;lia
  exact fin z H1 (by rw[vsz];lia) (by rw[ez'];exact .num gA) (fun b o n e=>s1 _ _ (st _ _ e)) (((dk.keep st).keep s1).mono (by lia))
 | word a=>
  obtain⟨ad,rfl,hA⟩:=vl_word iu
  have gA:nmOk a/\a.length<=9:=by have:=gv;unfold GV at this;rw[Gv]at this;exact this
  refine seqH fun N1 to1=>⟨_,rfl,ad,_,rfl,SqT.of hA,rfl,_,_,rfl,_,_,rfl,rfl,to1 _ _ ?_⟩
  refine⟨_,rfl,(by show 2<=sizeLine;decide),fun tp htp=>.inl ⟨tp,_,rfl,.inr (SqT.of upd_same),rfl,rfl,_,rfl,iteP (by decide +kernel) ?_⟩⟩
  have st:=same_new htp (.tup [V.str "num",V.str "word"])
  refine⟨_,rfl,_,.word a,rfl,IsDt.mono st.tups iu,bd8 bd d6,Gv.mono (by decide) (by decide) gv,by rw[vsz];decide,fun z H1 ez s1=>?_⟩
  have ez':z.cps.toList=39::a.cps.toList:=by rw[ez,enc]
  have lz:z.length<=35:=by
   have h1:z.cps.toList.length=z.length:=Array.length_toList
   have h2:a.cps.toList.length=a.length:=Array.length_toList
   rw[ez',List.length_cons]at h1
   have:=gA.2
   lia
  exact fin z H1 (by rw[vsz];lia) (by rw[ez'];exact .word gA.1) (fun b o n e=>s1 _ _ (st _ _ e)) (((dk.keep st).keep s1).mono (by lia))
 | row ps=>
  obtain⟨ad,b,ys,rfl,hA,hB,iy⟩:=vl_row iu
  have gA:=gv
  unfold GV at gA
  rw[Gv,GvR_mem]at gA
  have lys:ys.length=ps.length:=by rw[iy.length,datR_map,List.length_map]
  have lps:ps.length<=6:=by
   cases d with
   | zero=>simp only[Bd]at bd;rw[bd];simp
   | succ d=>simp only[Bd]at bd;exact bd.1
  have hc6:=ce_le d
  have hcp:=ce_pos d
  refine seqH fun N1 to1=>⟨_,rfl,ad,_,rfl,SqT.of hA,rfl,_,_,rfl,_,_,rfl,rfl,to1 _ _ ?_⟩
  refine seqH fun N2 to2=>⟨_,rfl,(by show 2<=sizeLine;decide),fun tp htp=>.inl ⟨tp,_,rfl,.inr (SqT.of upd_same),rfl,rfl,_,rfl,iteN (by decide +kernel) (to2 _ _ ?_)⟩⟩
  have st:=same_new htp (.tup [V.str "num",V.str "word"])
  have dk1:=dk.keep st
  have hB1:=st _ _ hB
  have iy1:=IsDts.mono st.tups iy
  generalize upd H tp (.tup [V.str "num",V.str "word"])=H1 at st dk1 hB1 iy1 ⊢
  refine seqH fun N3 to3=>⟨(by show 0<=sizeLine;decide),fun q hq=>to3 _ _ ?_⟩
  have nq:q≠p:=dk1.ne hq
  have s2:=same_new hq (.lst [])
  have dk2:=dk1.keep s2
  have hB2:=s2 _ _ hB1
  have iy2:=IsDts.mono s2.tups iy1
  have hQ2:(upd H1 q (.lst [])) q=some (.lst []):=upd_same
  have hHq:H q=none:=by
   cases e:H q with
   | none=>rfl
   | some y=>rw[st _ _ e]at hq;cases hq
  have ex2:Ex p H (upd H1 q (.lst [])):=fun b o n e=>s2 _ _ (st _ _ e)
  have nbq:b≠q:=fun z=>by rw[z,hHq]at hB;cases hB
  generalize upd H1 q (.lst [])=H2 at s2 dk2 hB2 iy2 hQ2 ex2 ⊢
  have mulC:∀ i:Nat,i<=6->(i:Int) * (ce d+3)<=6 * (ce d+3):=fun i hi=>Int.mul_le_mul_of_nonneg_right (by lia) (by lia)
  have mul0:∀ i:Nat,0<=(i:Int) * (ce d+3):=fun i=>Int.mul_nonneg (by lia) (by lia)
  refine seqH fun N4 to4=>.inr ⟨_,rfl,for_tup (b:=b) (xs:=ys) (fun i σ H'=>∃ (o5 o6:Option V) (ts:List Str) (its:List It3),σ=[some (.ref ad),some (.ref p),some (.str "row"),some (.ref b),some (.ref q),o5,o6,none]/\its.map (fun t=>(t.1,t.2.2))=ps.take i/\ts.map (·.cps.toList)=its.map (fun t=>t.1.cps.toList++(58::32::t.2.1))/\(∀ t∈its,Rd d t.2.1 t.2.2)/\(ts.map (·.length)).sum+ts.length * 2<=QQ d * vszR (ps.take i)/\Ex p H H'/\Dk H' p (n+i * (ce d+3)) r/\H' b=some (.tup ys)/\H' q=some (.lst (ts.map V.str)))
   ⟨none,none,[],[],rfl,rfl,rfl,(fun t ht=>nomatch ht),Nat.zero_le _,ex2,dk2.mono (by simp),hB2,hQ2⟩ ?stay ?turn ?done⟩
  case stay=>rintro i σ H' ⟨o5,o6,ts,its,rfl,_,_,_,_,_,_,h,_⟩;exact h
  case turn=>
   rintro E2 i hi σ H' ⟨o5,o6,ts,its,rfl,ei,et,rd,tot,ex,dk',hb',hq'⟩ nx rt
   have hi':i<ps.length:=by lia
   obtain⟨pp,cc,uu,hp,ey,hcc,iu2⟩:=vl_itemR iy (List.getElem?_eq_getElem hi)
   have hpm:pp∈ps:=List.mem_of_getElem? hp
   have tps:Tups H H':=dk.tups ex
   rw[ey]
   obtain⟨d',rfl⟩:∃ d',d=d'+1:=by
    cases d with
    | zero=>simp only[Bd]at bd;rw[bd]at hpm;cases hpm
    | succ d'=>exact⟨d',rfl⟩
   have bdp:Bd 6 d' pp.2:=by simp only[Bd]at bd;exact (bd.2 pp hpm).2
   have gp:=gA.2 pp hpm
   have szp:vsz pp.2<=vszR ps:=by
    rw[vszR_map]
    exact mem_le_sum (List.mem_map.mpr ⟨pp,hpm,rfl⟩)
   rw[vsz]at sz
   have mi:=mulC (i+1) (by lia)
   have m0:=mul0 i
   have ce1:ce (d'+1)=cst d':=rfl
   have ms:((i+1:Nat):Int) * (ce (d'+1)+3)=i * (ce (d'+1)+3)+(ce (d'+1)+3):=by rw[Int.natCast_add,Int.add_mul];simp
   have l2:(Str.ofString ": ").length=2:=by decide +kernel
   have h9:=gp.2.1
   have htk:ps.take (i+1)=ps.take i++[pp]:=by rw[List.take_add_one,hp];rfl
   have lts:ts.length<=6:=by
    have h1:=congrArg List.length et
    have h2:=congrArg List.length ei
    rw[List.length_map,List.length_map]at h1
    rw[List.length_map,List.length_take]at h2
    lia
   refine⟨cc,_,rfl,SqT.of (tps _ _ hcc),rfl,_,_,rfl,_,_,rfl,rfl,?_⟩
   refine⟨_,rfl,.inl ⟨rfl,_,rfl,iteP (by decide +kernel) ?_⟩⟩
   refine⟨_,rfl,.inl ⟨rfl,_,SqL.of hq'⟩,_,rfl,.inr (.inl ⟨_,_,rfl,rfl,Nat.le_of_lt (line1 (by rw[l2];lia)),_,rfl,_,rfl,uu,p,_,r,pp.2,rfl,IsDt.mono tps iu2,bdp,gp.2.2,by lia,dk',by lia,by lia,by lia,fun z H3 lz rdz ex3 dk3=>?_⟩)⟩
   have q1:=QQ_le (show d'<=6 by lia)
   have q4:=QQ_pos d'
   have qs:=QQ_succ d'
   have lzb:z.length<=1600000:=Nat.le_trans lz (Nat.le_trans (Nat.mul_le_mul q1 (show vsz pp.2<=60 by lia)) (by decide))
   have hq3:=ex3 q _ nq hq'
   have ln:(pp.1++Str.ofString ": ").length=pp.1.length+2:=by rw[len_app,l2]
   refine .inr (.inl ⟨_,_,rfl,rfl,Nat.le_of_lt (line1 (by rw[ln];lia)),q,_,_,rfl,rfl,hq3,line1 (by rw[List.length_map];lia),nx _ _ ?_⟩)
   refine⟨_,_,ts++[pp.1++Str.ofString ": "++z],its++[(pp.1,z.cps.toList,pp.2)],rfl,by rw[List.map_append,ei,htk];rfl,?_,fun t ht=>?_,?_,fun b' o nb e=>by rw[upd_ne (ne_of_none e hHq)];exact ex3 b' o nb (ex b' o nb e),(dk3.off (fun z=>nq z.symm)).mono (by lia),by rw[upd_ne nbq];exact dk'.tups ex3 _ _ hb',by rw[upd_same,List.map_append];rfl⟩
   ·rw[List.map_append,List.map_append,et]
    show _++[(pp.1++Str.ofString ": "++z).cps.toList]=_++[pp.1.cps.toList++(58::32::z.cps.toList)]
    rw[cps_app,cps_app,s_cl',List.append_assoc];rfl
   ·rcases List.mem_append.mp ht with h | h
    ·exact rd t h
    ·rw[List.mem_singleton.mp h];exact rdz
   ·rw[List.map_append,List.sum_append,List.length_append,htk,vszR_app]
    show _+((pp.1++Str.ofString ": "++z).length+0)+(ts.length+1) * 2<=QQ (d'+1) * (vszR (ps.take i)+(vsz pp.2+0))
    simp only[Nat.add_zero]
    rw[len_app,ln,Nat.mul_add,show QQ (d'+1) * vsz pp.2=2 * (QQ d' * vsz pp.2) by rw[qs,Nat.mul_assoc]]
    have v1:=vsz_pos pp.2
    have:400<=QQ d' * vsz pp.2:=Nat.le_trans q4 (Nat.le_mul_of_pos_right _ v1)
    lia
  case done=>
   rintro σ H' ⟨o5,o6,ts,its,rfl,ei,et,rd,tot,ex,dk',hb',hq'⟩
   rw[lys,List.take_length]at ei tot
   refine to4 _ _ ?_
   refine seqH fun N5 to5=>⟨(by show 2<=sizeLine;decide),fun l1 hl1=>⟨(by show 2<=sizeLine;decide),fun l2 hl2=>⟨(by show 2<=sizeLine;decide),fun l3 hl3=>⟨_,rfl,.inl ⟨rfl,.inr ⟨_,rfl,?_⟩⟩⟩⟩⟩⟩
   rw[decide_eq_false (show ¬V.str (Str.ofString "row")=V.str (Str.ofString "bag") by decide +kernel)]
   have sA:=(same_new hl1 (.lst [V.str "<",V.str ">"])).trans ((same_new hl2 (.lst [V.str "{",V.str "}"])).trans (same_new hl3 (.lst [.ref l1,.ref l2])))
   refine .inl ⟨l3,_,_,_,rfl,rfl,SqL.of upd_same,v0,to5 _ _ ?_⟩
   have hL1:(upd (upd (upd H' l1 (.lst [V.str "<",V.str ">"])) l2 (.lst [V.str "{",V.str "}"])) l3 (.lst [.ref l1,.ref l2])) l1=some (.lst [V.str "<",V.str ">"]):=by
    have n12:l1≠l2:=fun z=>by rw[<- z,upd_same]at hl2;cases hl2
    have n13:l1≠l3:=fun z=>by rw[<- z,upd_ne n12,upd_same]at hl3;cases hl3
    rw[upd_ne n13,upd_ne n12];exact upd_same
   have nl1:l1≠p:=dk'.ne hl1
   generalize upd (upd (upd H' l1 (.lst [V.str "<",V.str ">"])) l2 (.lst [V.str "{",V.str "}"])) l3 (.lst [.ref l1,.ref l2])=HM at sA hL1 ⊢
   have lits:its.length=ps.length:=by have:=congrArg List.length ei;rw[List.length_map]at this;exact this
   have lts:ts.length=ps.length:=by have:=congrArg List.length et;rw[List.length_map,List.length_map]at this;lia
   have m6:=mulC ps.length lps
   refine⟨_,rfl,.inl ⟨l1,_,_,_,rfl,rfl,SqL.of hL1,v0,rfl,_,rfl,_,rfl,q,p,ts,_,r,rfl,sA _ _ hq',by lia,dk'.keep sA,by have:=mul0 ps.length;rw[lys];lia,by rw[lys];lia,fun l ys' H5 pmt ex5 dk5 hl5=>?_⟩⟩
   have hsum:(ys'.map (·.length)).sum=(ts.map (·.length)).sum:=(pmt.map _).sum_nat
   have hlen:=pmt.length_eq
   have hjl:=join_ln ys'
   have qle:=QQ_le d6
   rw[vsz]at sz fin
   have tb2:QQ d * vszR ps<=25600 * 60:=Nat.mul_le_mul qle (by lia)
   have l1':(Str.ofString "<").length=1:=by decide +kernel
   have l2':(Str.ofString ">").length=1:=by decide +kernel
   refine⟨_,l,ys',rfl,rfl,SqL.of hl5,by rw[show (Str.ofString ", ").length=2 by decide +kernel];lia,.inr (.inl ⟨_,_,rfl,rfl,Nat.le_of_lt (line1 (by rw[l1'];lia)),_,rfl,.inl ⟨l1,_,_,_,rfl,rfl,SqL.of (ex5 l1 _ nl1 hL1),v1,.inr (.inl ⟨_,_,rfl,rfl,Nat.le_of_lt (line1 (by rw[len_app,l1',l2'];lia)),?_⟩)⟩⟩)⟩
   obtain⟨its',pi,ey'⟩:=perm_lift pmt et
   refine fin _ H5 ?_ ?_ (fun b' o nb e=>ex5 b' o nb (sA _ _ (ex b' o nb e))) (dk5.mono (by rw[lys];lia))
   ·rw[len_app,len_app,l1',l2',Nat.mul_add]
    lia
   ·rw[cps_app,cps_app,join_jn,ey',show (Str.ofString "<").cps.toList=[60] by decide +kernel,show (Str.ofString ">").cps.toList=[62] by decide +kernel,List.append_assoc]
    refine Rd.row (by have:=pi.length_eq;lia) (fun t ht=>?_) (fun t ht=>rd t (pi.mem_iff.mp ht)) ?_ ?_ gA.1
    ·have:(t.1,t.2.2)∈ps:=by rw[<- ei];exact List.mem_map.mpr ⟨t,pi.mem_iff.mp ht,rfl⟩
     exact (gA.2 _ this).1
    ·have h1:=(pi.map (·.1)).nodup_iff
     refine h1.mpr ?_
     have:its.map (·.1)=ps.map (·.1):=by rw[<- ei,List.map_map];rfl
     rw[this]
     exact rise_nd gA.1
    ·rw[<- ei]
     exact (pi.map _).symm
 | bag ps=>
  obtain⟨ad,b,ys,rfl,hA,hB,iy⟩:=vl_bag iu
  have gA:=gv
  unfold GV at gA
  rw[Gv,GvB_mem]at gA
  have lys:ys.length=ps.length:=by rw[iy.length,datB_map,List.length_map]
  have lps:ps.length<=6:=by
   cases d with
   | zero=>simp only[Bd]at bd;rw[bd];simp
   | succ d=>simp only[Bd]at bd;exact bd.1
  have hc6:=ce_le d
  have hcp:=ce_pos d
  refine seqH fun N1 to1=>⟨_,rfl,ad,_,rfl,SqT.of hA,rfl,_,_,rfl,_,_,rfl,rfl,to1 _ _ ?_⟩
  refine seqH fun N2 to2=>⟨_,rfl,(by show 2<=sizeLine;decide),fun tp htp=>.inl ⟨tp,_,rfl,.inr (SqT.of upd_same),rfl,rfl,_,rfl,iteN (by decide +kernel) (to2 _ _ ?_)⟩⟩
  have st:=same_new htp (.tup [V.str "num",V.str "word"])
  have dk1:=dk.keep st
  have hB1:=st _ _ hB
  have iy1:=IsDts.mono st.tups iy
  generalize upd H tp (.tup [V.str "num",V.str "word"])=H1 at st dk1 hB1 iy1 ⊢
  refine seqH fun N3 to3=>⟨(by show 0<=sizeLine;decide),fun q hq=>to3 _ _ ?_⟩
  have nq:q≠p:=dk1.ne hq
  have s2:=same_new hq (.lst [])
  have dk2:=dk1.keep s2
  have hB2:=s2 _ _ hB1
  have iy2:=IsDts.mono s2.tups iy1
  have hQ2:(upd H1 q (.lst [])) q=some (.lst []):=upd_same
  have hHq:H q=none:=by
   cases e:H q with
   | none=>rfl
   | some y=>rw[st _ _ e]at hq;cases hq
  have ex2:Ex p H (upd H1 q (.lst [])):=fun b o n e=>s2 _ _ (st _ _ e)
  have nbq:b≠q:=fun z=>by rw[z,hHq]at hB;cases hB
  generalize upd H1 q (.lst [])=H2 at s2 dk2 hB2 iy2 hQ2 ex2 ⊢
  have mulC:∀ i:Nat,i<=6->(i:Int) * (ce d+3)<=6 * (ce d+3):=fun i hi=>Int.mul_le_mul_of_nonneg_right (by lia) (by lia)
  have mul0:∀ i:Nat,0<=(i:Int) * (ce d+3):=fun i=>Int.mul_nonneg (by lia) (by lia)
  refine seqH fun N4 to4=>.inr ⟨_,rfl,for_tup (b:=b) (xs:=ys) (fun i σ H'=>∃ (o5 o6:Option V) (q:Addr) (ts:List Str) (its:List (List Nat×Val×Int)),σ=[some (.ref ad),some (.ref p),some (.str "bag"),some (.ref b),some (.ref q),o5,o6,none]/\(∀ v,cnt v (its.map fun t=>(t.2.1,t.2.2))=cnt v (ps.take i))/\ts.map (·.cps.toList)=its.map (fun t=>t.1++cn t.2.2)/\(∀ t∈its,Rd d t.1 t.2.1/\(t.2.2≠0/\t.2.2.natAbs<10 ^ 34)/\(key t.2.1).length<=5000000)/\its.length<=2 * i/\(ts.map (·.length)).sum+ts.length * 2<=QQ d * vszB (ps.take i)+80 * i/\Ex p H H'/\Dk H' p (n+i * (ce d+3)) r/\H' b=some (.tup ys)/\H' q=some (.lst (ts.map V.str)))
   ⟨none,none,q,[],[],rfl,fun _=>rfl,rfl,(fun t ht=>nomatch ht),Nat.zero_le _,Nat.zero_le _,ex2,dk2.mono (by simp),hB2,hQ2⟩ ?stay ?turn ?done⟩
  case stay=>rintro i σ H' ⟨o5,o6,q,ts,its,rfl,_,_,_,_,_,_,_,h,_⟩;exact h
  case turn=>
   rintro E2 i hi σ H' ⟨o5,o6,q,ts,its,rfl,ei,et,rd,li,tot,ex,dk',hb',hq'⟩ nx rt
   have hi':i<ps.length:=by lia
   obtain⟨pp,cc,uu,hp,ey,hcc,iu2⟩:=vl_itemB iy (List.getElem?_eq_getElem hi)
   have hpm:pp∈ps:=List.mem_of_getElem? hp
   have tps:Tups H H':=dk.tups ex
   have nqp:=dk_str dk' hq'
   rw[ey]
   obtain⟨d',rfl⟩:∃ d',d=d'+1:=by
    cases d with
    | zero=>simp only[Bd]at bd;rw[bd]at hpm;cases hpm
    | succ d'=>exact⟨d',rfl⟩
   have bdp:Bd 6 d' pp.1:=by simp only[Bd]at bd;exact bd.2 pp hpm
   have gp:=gA.2 pp hpm
   have szp:vsz pp.1<=vszB ps:=by
    rw[vszB_map]
    exact mem_le_sum (List.mem_map.mpr ⟨pp,hpm,rfl⟩)
   rw[vsz]at sz
   have mi:=mulC (i+1) (by lia)
   have m0:=mul0 i
   have ce1:ce (d'+1)=cst d':=rfl
   have ms:((i+1:Nat):Int) * (ce (d'+1)+3)=i * (ce (d'+1)+3)+(ce (d'+1)+3):=by rw[Int.natCast_add,Int.add_mul];simp
   have htk:ps.take (i+1)=ps.take i++[pp]:=by rw[List.take_add_one,hp];rfl
   have lts:ts.length=its.length:=by have:=congrArg List.length et;rw[List.length_map,List.length_map]at this;exact this
   have hky:(key pp.1).length<=5000000:=Nat.le_trans (key_len (bdp.mono (by decide))) (Nat.le_trans (Nat.mul_le_mul_left 16 (Nat.pow_le_pow_right (by decide) (show d'<=5 by lia))) (by decide))
   refine⟨cc,_,rfl,SqT.of (tps _ _ hcc),rfl,_,_,rfl,_,_,rfl,rfl,?_⟩
   refine⟨_,rfl,.inl ⟨rfl,_,rfl,iteN (by decide +kernel) ?_⟩⟩
   refine⟨_,rfl,_,rfl,_,rfl,uu,p,_,r,pp.1,rfl,IsDt.mono tps iu2,bdp,gp.1,by lia,dk',by lia,by lia,by lia,fun z H3 lz rdz ex3 dk3=>?_⟩
   have q1:=QQ_le (show d'<=6 by lia)
   have q5:QQ d'<=12800:=by
    have:2 ^ d'<=2 ^ 5:=Nat.pow_le_pow_right (by decide) (show d'<=5 by lia)
    unfold QQ;lia
   have qs:=QQ_succ d'
   have lzb:z.length<=1000000:=Nat.le_trans lz (Nat.le_trans (Nat.mul_le_mul q5 (show vsz pp.1<=60 by lia)) (by decide))
   refine⟨_,rfl,_,rfl,z,pp.2,p,_,r,rfl,lzb,by have:=gp.2;lia,dk3,by lia,by lia,fun l ts2 cs H4 lc hcs sc et2 ex4 dk4 hl4=>?_⟩
   have hq4:=ex4 q _ nqp (ex3 q _ nqp hq')
   have lt2:ts2.length=cs.length:=by have:=congrArg List.length et2;rw[List.length_map,List.length_map]at this;exact this
   refine .inr (.inr (.inl ⟨q,l,_,_,rfl,rfl,hq4,hl4,Nat.le_of_lt (line1 (by rw[List.length_map,List.length_map];lia)),fun l5 hl5=>nx _ _ ?_⟩))
   have s5:=same_new hl5 (.lst (ts.map V.str++ts2.map V.str))
   refine⟨_,_,l5,ts++ts2,its++cs.map (fun x=>(z.cps.toList,pp.1,x)),rfl,fun v=>?_,by rw[List.map_append,List.map_append,et,et2,List.map_map];rfl,fun t ht=>?_,by rw[List.length_append,List.length_map];lia,?_,fun b' o nb e=>s5 _ _ (ex4 b' o nb (ex3 b' o nb (ex b' o nb e))),(dk4.keep s5).mono (by lia),s5 _ _ (dk3.tups ex4 _ _ (dk'.tups ex3 _ _ hb')),by rw[upd_same,List.map_append]⟩
   ·rw[List.map_append,cnt_append,ei,htk,cnt_append,List.map_map]
    have:cnt v ((cs.map fun x=>(pp.1,x)))=cnt v [pp]:=by
     rw[cnt_cs,sc,cnt,cnt]
     split <;> lia
    exact congrArg _ this
   ·rcases List.mem_append.mp ht with h | h
    ·exact rd t h
    ·obtain⟨x,hx,rfl⟩:=List.mem_map.mp h
     exact⟨rdz,⟨(hcs x hx).1,Nat.lt_trans (hcs x hx).2 (by decide)⟩,hky⟩
   ·have hb2:∀ t∈ts2,t.length<=z.length+38:=fun t ht=>by
     have h1:t.cps.toList∈ts2.map (·.cps.toList):=List.mem_map.mpr ⟨t,ht,rfl⟩
     rw[et2]at h1
     obtain⟨x,hx,e⟩:=List.mem_map.mp h1
     have h2:t.cps.toList.length=t.length:=Array.length_toList
     have h3:z.cps.toList.length=z.length:=Array.length_toList
     rw[<- e,List.length_append,h3]at h2
     have:=cn_len (Nat.lt_trans (hcs x hx).2 (by decide:10 ^ 33<10 ^ 34))
     lia
    have h4:=sum_sh hb2
    have h5:ts2.length * (z.length+38)<=2 * (z.length+38):=Nat.mul_le_mul_right _ (by lia)
    rw[List.map_append,List.sum_append,List.length_append,htk,vszB_app]
    show _+_+_<=QQ (d'+1) * (vszB (ps.take i)+(vsz pp.1+0))+80 * (i+1)
    simp only[Nat.add_zero]
    rw[Nat.mul_add,show QQ (d'+1) * vsz pp.1=2 * (QQ d' * vsz pp.1) by rw[qs,Nat.mul_assoc]]
    lia
  case done=>
   rintro σ H' ⟨o5,o6,q,ts,its,rfl,ei,et,rd,li,tot,ex,dk',hb',hq'⟩
   rw[lys,List.take_length]at ei
   rw[lys,List.take_length]at tot
   rw[lys]at li
   refine to4 _ _ ?_
   refine seqH fun N5 to5=>⟨(by show 2<=sizeLine;decide),fun l1 hl1=>⟨(by show 2<=sizeLine;decide),fun l2 hl2=>⟨(by show 2<=sizeLine;decide),fun l3 hl3=>⟨_,rfl,.inl ⟨rfl,.inr ⟨_,rfl,?_⟩⟩⟩⟩⟩⟩
   rw[decide_eq_true (show V.str (Str.ofString "bag")=V.str (Str.ofString "bag") from rfl)]
   have sA:=(same_new hl1 (.lst [V.str "<",V.str ">"])).trans ((same_new hl2 (.lst [V.str "{",V.str "}"])).trans (same_new hl3 (.lst [.ref l1,.ref l2])))
   refine .inl ⟨l3,_,_,_,rfl,rfl,SqL.of upd_same,v1,to5 _ _ ?_⟩
   have hL1:(upd (upd (upd H' l1 (.lst [V.str "<",V.str ">"])) l2 (.lst [V.str "{",V.str "}"])) l3 (.lst [.ref l1,.ref l2])) l2=some (.lst [V.str "{",V.str "}"]):=by
    have n23:l2≠l3:=fun z=>by rw[<- z,upd_same]at hl3;cases hl3
    rw[upd_ne n23];exact upd_same
   have nl1:l2≠p:=(dk'.new hl1).ne hl2
   generalize upd (upd (upd H' l1 (.lst [V.str "<",V.str ">"])) l2 (.lst [V.str "{",V.str "}"])) l3 (.lst [.ref l1,.ref l2])=HM at sA hL1 ⊢
   have lts:ts.length=its.length:=by have:=congrArg List.length et;rw[List.length_map,List.length_map]at this;exact this
   have m6:=mulC ps.length lps
   refine⟨_,rfl,.inl ⟨l2,_,_,_,rfl,rfl,SqL.of hL1,v0,rfl,_,rfl,_,rfl,q,p,ts,_,r,rfl,sA _ _ hq',by lia,dk'.keep sA,by have:=mul0 ps.length;rw[lys];lia,by rw[lys];lia,fun l ys' H5 pmt ex5 dk5 hl5=>?_⟩⟩
   have hsum:(ys'.map (·.length)).sum=(ts.map (·.length)).sum:=(pmt.map _).sum_nat
   have hlen:=pmt.length_eq
   have hjl:=join_ln ys'
   have qle:=QQ_le d6
   rw[vsz]at sz fin
   have tb2:QQ d * vszB ps<=25600 * 60:=Nat.mul_le_mul qle (by lia)
   have l1':(Str.ofString "{").length=1:=by decide +kernel
   have l2':(Str.ofString "}").length=1:=by decide +kernel
   refine⟨_,l,ys',rfl,rfl,SqL.of hl5,by rw[show (Str.ofString ", ").length=2 by decide +kernel];lia,.inr (.inl ⟨_,_,rfl,rfl,Nat.le_of_lt (line1 (by rw[l1'];lia)),_,rfl,.inl ⟨l2,_,_,_,rfl,rfl,SqL.of (ex5 l2 _ nl1 hL1),v1,.inr (.inl ⟨_,_,rfl,rfl,Nat.le_of_lt (line1 (by rw[len_app,l1',l2'];lia)),?_⟩)⟩⟩)⟩
   obtain⟨its',pi,ey'⟩:=perm_lift pmt et
   refine fin _ H5 ?_ ?_ (fun b' o nb e=>ex5 b' o nb (sA _ _ (ex b' o nb e))) (dk5.mono (by rw[lys];lia))
   ·rw[len_app,len_app,l1',l2',Nat.mul_add]
    cases d with
    | zero=>
     simp only[Bd]at bd
     subst bd
     have z0:vszB []=0:=by rw[vszB]
     rw[z0,List.length_nil]at tot
     rw[z0]
     lia
    | succ d'=>
     have qs:=QQ_succ d'
     have q4:=QQ_pos d'
     lia
   ·rw[cps_app,cps_app,join_jn,ey',show (Str.ofString "{").cps.toList=[123] by decide +kernel,show (Str.ofString "}").cps.toList=[125] by decide +kernel,List.append_assoc]
    refine Rd.bag (by have:=pi.length_eq;lia) (fun t ht=>(rd t (pi.mem_iff.mp ht)).1) (fun t ht=>(rd t (pi.mem_iff.mp ht)).2.1) (fun t ht=>(rd t (pi.mem_iff.mp ht)).2.2) ⟨gA.1.1,gA.1.2,fun v=>?_⟩
    rw[<- ei v]
    exact (cnt_perm v (pi.map _)).symm
theorem loose_all (T:Tx mg) (Zai:Df K mg "_law_loose" (top 46) f fd ["value","deck"])
  (Zad:Df K mg "_law_text" (top 43) f_text fd_text ["value"]) (Zat:FnOk P w K mg base CX0 9 f_text fd_text ["value"] (spText 8))
  (Zam:Df K mg "_law_mixed" (top 44) f_mixed fd_mixed ["some","deck"]) (ZaL:FnOk P w K mg base CX0 2 f_mixed fd_mixed ["some","deck"] spMx)
  (Zay:Df K mg "_law_split" (top 45) f_split fd_split ["text","count","deck"]) (Za9:FnOk P w K mg base CX0 2 f_split fd_split ["text","count","deck"] spSplit) :
  ∀ d:Nat,FnOk P w K mg base CX0 (d+10) f fd ["value","deck"] (spLoose d)
 | 0=>ok_loose (k:=9) (by decide) T Zai ⟨fun _ _ _ _ h=>h.elim,fun _ _ _ _ _ _ _ _ _ _ _ _ _ h=>h.elim⟩ Zad Zat Zam ZaL Zay Za9
 | d+1=>ok_loose (k:=d+10) (by lia) T Zai (loose_all T Zai Zad Zat Zam ZaL Zay Za9 d) Zad Zat Zam ZaL Zay Za9
end
end K05
end
section
namespace K05
open PySem L2 Kn
theorem jn_flat:∀ (r:List (List Nat)) (a:List Nat),jn (a::r)=a++r.flatMap fun p=>[44,32]++p
 | [],a=>by rw[jn];simp
 | b::r,a=>by rw[jn,jn_flat r b,List.flatMap_cons];simp
theorem encR_jn (ps:List (Str×Val)):encR true ps=jn (ps.map pcR)++[62]:=by
 cases ps with
 | nil=>rw[encR];rfl
 | cons p ps=>rw[encRT,List.map_cons,jn_flat,List.flatMap_map,List.append_assoc]
theorem encB_jn (ps:List (Val×Int)):encB true ps=jn (ps.map pcB)++[125]:=by
 cases ps with
 | nil=>rw[encB];rfl
 | cons p ps=>rw[encBT,List.map_cons,jn_flat,List.flatMap_map,List.append_assoc]
theorem rd_enc:∀ {d:Nat}{x:Val},d<=6->Bd 6 d x->GV x->Rd (d+1) (enc x) x
 | d,.num i,_,_,g=>by
  unfold GV at g;rw[Gv]at g;rw[enc];exact .num (Nat.lt_of_lt_of_le g (by decide))
 | d,.word s,_,_,g=>by
  unfold GV at g;rw[Gv]at g;rw[enc];exact .word g.1
 | d,.row ps,h6,b,g=>by
  have g':=g
  unfold GV at g'
  rw[Gv,GvR_mem]at g'
  rw[enc,encR_jn]
  have e:ps.map pcR=(ps.map fun p=>((p.1,enc p.2,p.2):It3)).map fun t=>t.1.cps.toList++(58::32::t.2.1):=by rw[List.map_map];rfl
  rw[e]
  have ei:(ps.map fun p=>((p.1,enc p.2,p.2):It3)).map (fun t=>(t.1,t.2.2))=ps:=by rw[List.map_map];exact List.map_id _
  have lps:ps.length<=6:=by
   cases d with
   | zero=>simp only[Bd]at b;rw[b];simp
   | succ d=>simp only[Bd]at b;exact b.1
  refine Rd.row (by rw[List.length_map];lia) (fun t ht=>?_) (fun t ht=>?_) ?_ (by rw[ei]) g'.1
  ·obtain⟨p,hp,rfl⟩:=List.mem_map.mp ht
   exact (g'.2 p hp).1
  ·obtain⟨p,hp,rfl⟩:=List.mem_map.mp ht
   match d,b,h6 with
   | 0,b,_=>simp only[Bd]at b;rw[b]at hp;cases hp
   | d+1,b,h6=>
    simp only[Bd]at b
    have:vsz p.2<vsz (.row ps):=by
     rw[vsz,vszR_map]
     have:=mem_le_sum (List.mem_map.mpr ⟨p,hp,rfl⟩:vsz p.2∈ps.map fun p=>vsz p.2)
     lia
    exact rd_enc (by lia) (b.2 p hp).2 (g'.2 p hp).2.2
  ·rw[List.map_map]
   exact rise_nd g'.1
 | d,.bag ps,h6,b,g=>by
  have g':=g
  unfold GV at g'
  rw[Gv,GvB_mem]at g'
  rw[enc,encB_jn]
  have e:ps.map pcB=(ps.map fun p=>((enc p.1,p.1,p.2):List Nat×Val×Int)).map fun t=>t.1++cn t.2.2:=by rw[List.map_map];rfl
  rw[e]
  have ei:(ps.map fun p=>((enc p.1,p.1,p.2):List Nat×Val×Int)).map (fun t=>(t.2.1,t.2.2))=ps:=by rw[List.map_map];exact List.map_id _
  have lps:ps.length<=6:=by
   cases d with
   | zero=>simp only[Bd]at b;rw[b];simp
   | succ d=>simp only[Bd]at b;exact b.1
  refine Rd.bag (by rw[List.length_map];lia) (fun t ht=>?_) (fun t ht=>?_) (fun t ht=>?_) ⟨g'.1.1,g'.1.2,fun v=>by rw[ei]⟩
  ·obtain⟨p,hp,rfl⟩:=List.mem_map.mp ht
   match d,b,h6 with
   | 0,b,_=>simp only[Bd]at b;rw[b]at hp;cases hp
   | d+1,b,h6=>
    simp only[Bd]at b
    have:vsz p.1<vsz (.bag ps):=by
     rw[vsz,vszB_map]
     have:=mem_le_sum (List.mem_map.mpr ⟨p,hp,rfl⟩:vsz p.1∈ps.map fun p=>vsz p.1)
     lia
    exact rd_enc (by lia) (b.2 p hp) (g'.2 p hp).1
  ·obtain⟨p,hp,rfl⟩:=List.mem_map.mp ht
   exact⟨g'.1.2 p hp,Nat.lt_of_lt_of_le (g'.2 p hp).2 (by decide)⟩
  ·obtain⟨p,hp,rfl⟩:=List.mem_map.mp ht
   match d,b,h6 with
   | 0,b,_=>simp only[Bd]at b;rw[b]at hp;cases hp
   | d+1,b,h6=>
    simp only[Bd]at b
    exact Nat.le_trans (key_len ((b.2 p hp).mono (by decide))) (Nat.le_trans (Nat.mul_le_mul_left 16 (Nat.pow_le_pow_right (by decide) (show d<=5 by lia))) (by decide))
termination_by d x=>vsz x
theorem Rd.up {n:Nat}{t:List Nat}{v:Val} (h:Rd n t v):Rd (n+1) t v:=by
 induction h with
 | num h=>exact .num h
 | word h=>exact .word h
 | row hl hn _ nd pm rs ih=>exact .row hl hn ih nd pm rs
 | bag hl _ hc hk ib ih=>exact .bag hl ih hc hk ib
def und (t:List Nat) (x:Val):List (List Nat×Val×Int):=[(t,x,1),(t,x,-3),(t,x,2),(39::(Str.ofString "zz").cps.toList,.word "zz",1)]
theorem rd_undone {t:List Nat}{x:Val} (h:Rd 7 t x) (hk:(key x).length<=5000000) {its:List (List Nat×Val×Int)} (hp:its.Perm (und t x)):Rd 8 (123::(jn (its.map fun p=>p.1++cn p.2.2)++[125])) (.bag [(.word "zz",1)]):=by
 have hz:nmOk (Str.ofString "zz"):=by unfold nmOk lets;decide +kernel
 have all:∀ p∈its,Rd 7 p.1 p.2.1/\(p.2.2≠0/\p.2.2.natAbs<10 ^ 34)/\(key p.2.1).length<=5000000:=fun p hpm=>by
  have:=hp.mem_iff.mp hpm
  simp only[und,List.mem_cons,List.not_mem_nil,or_false]at this
  rcases this with rfl | rfl | rfl | rfl
  ·exact⟨h,⟨by show (1:Int)≠0;decide,by show (1:Int).natAbs<_;decide⟩,hk⟩
  ·exact⟨h,⟨by show (-3:Int)≠0;decide,by show (-3:Int).natAbs<_;decide⟩,hk⟩
  ·exact⟨h,⟨by show (2:Int)≠0;decide,by show (2:Int).natAbs<_;decide⟩,hk⟩
  ·exact⟨.word hz,⟨by show (1:Int)≠0;decide,by show (1:Int).natAbs<_;decide⟩,by rw[key];show 2<=5000000;decide⟩
 refine Rd.bag (by have:=hp.length_eq;rw[this];show 4<=60;decide) (fun p q=>(all p q).1) (fun p q=>(all p q).2.1) (fun p q=>(all p q).2.2) ⟨List.pairwise_singleton _ _,fun q hq=>by rw[List.mem_singleton.mp hq];show (1:Int)≠0;decide,fun v=>?_⟩
 rw[cnt_perm v (hp.map _)]
 show cnt v [(.word "zz",1)]=cnt v [(x,1),(x,-3),(x,2),(.word "zz",1)]
 simp only[cnt]
 split <;> split <;> lia
theorem keepT {T1 T2:Addr}{H H':Hp} (tb:Tb T1 T2 H) (e:∀ b o,b≠T1->b≠T2->H b=some o->H' b=some o):∀ b o,(∀ qs,o≠.tbl qs)->H b=some o->H' b=some o:=fun b o n z=>by
 obtain⟨q1,h1⟩:=lt_tbl tb.1
 obtain⟨q2,h2⟩:=lt_tbl tb.2
 exact e b o (fun y=>by rw[y,h1]at z;cases z;exact n _ rfl) (fun y=>by rw[y,h2]at z;cases z;exact n _ rfl) z
structure Kp (T1 T2 o p:Addr) (cs:List V) (x:Val) (v:V) (n r:Int) (H:Hp):Prop where
 lst:H o=some (.lst cs)
 tb:Tb T1 T2 H
 iv:IsDt H (dat x) v
 dk:Dk H p n r
theorem Kp.same {T1 T2 o p:Addr}{cs:List V}{x:Val}{v:V}{n r:Int}{H H':Hp} (k:Kp T1 T2 o p cs x v n r H) (s:Same H H'):Kp T1 T2 o p cs x v n r H':=⟨s _ _ k.lst,k.tb.same s,IsDt.mono s.tups k.iv,k.dk.keep s⟩
theorem Kp.read {T1 T2 o p:Addr}{cs:List V}{x:Val}{v:V}{n r:Int}{H H':Hp} (k:Kp T1 T2 o p cs x v n r H) (e:∀ b o,b≠T1->b≠T2->H b=some o->H' b=some o) (tb:Tb T1 T2 H'):Kp T1 T2 o p cs x v n r H':=by
 have kk:=keepT k.tb e
 obtain⟨c,f,m,c0,h,hm⟩:=k.dk
 exact⟨kk _ _ (fun _ z=>by cases z) k.lst,tb,IsDt.mono (fun a zs z=>kk _ _ (fun _ q=>by cases q) z) k.iv,c,f,m,c0,kk _ _ (fun _ z=>by cases z) h,hm⟩
section
variable {P:Program}{w:World}{K:PySem.W.Frag}{mg:Str->Option Value}{base:Heap}{f f_cell f_deck f_value f_loose f_text f_mixed f_like Zbw:Addr}{fd fd_cell fd_deck fd_value fd_loose fd_text fd_mixed fd_like Zbx:FuncData}{C T1 T2:Addr}
theorem cst6:cst 6=11764900:=by unfold cst;decide
theorem ZaM:FnScope ["script","cell","deck","value","text","plain","undone"] ["script"] (defScope (top 47)):=⟨rfl,rfl,rfl,by decide +kernel,rfl,by decide +kernel,by decide +kernel⟩
def spLaw (K:PySem.W.Frag) (T1 T2:Addr):Sp:=fun vs H Q _=>∃ (a:Addr) (ns:List Int),vs=[.ref a]/\SqL K H a (ns.map V.int)/\ns.length<=63/\Tb T1 T2 H/\∀ H',Q (.bl true) H'
theorem ok_law (T:Tx mg) (D:Df K mg "law" (top 47) f fd ["script"])
  (ZaU:Df K mg "_law_cell_at" (top 29) f_cell fd_cell ["script","k"]) (Zch:FnOk P w K mg base CX0 1 f_cell fd_cell ["script","k"] (spCell K))
  (ZaV:Df K mg "_law_deck" (top 30) f_deck fd_deck ["cell","room"]) (Zci:FnOk P w K mg base CX0 1 f_deck fd_deck ["cell","room"] spDeck)
  (Zag:Df K mg "_law_value" (top 40) f_value fd_value ["deck","deep"]) (ZaY:FnOk P w K mg base CX0 17 f_value fd_value ["deck","deep"] (spVal 6))
  (Zai:Df K mg "_law_loose" (top 46) f_loose fd_loose ["value","deck"]) (Zbg:FnOk P w K mg base CX0 16 f_loose fd_loose ["value","deck"] (spLoose 6))
  (Zad:Df K mg "_law_text" (top 43) f_text fd_text ["value"]) (Zat:FnOk P w K mg base CX0 9 f_text fd_text ["value"] (spText 8))
  (Zam:Df K mg "_law_mixed" (top 44) f_mixed fd_mixed ["some","deck"]) (ZaL:FnOk P w K mg base CX0 2 f_mixed fd_mixed ["some","deck"] spMx)
  (Zae:Df K mg "_law_like" (top 42) f_like fd_like ["found","due"]) (Za3:FnOk P w K mg base CX0 25 f_like fd_like ["found","due"] (spLike 23))
  (Zao:Df K mg "read" (top 22) Zbw Zbx ["text"]) (Zby:FnOk P w K mg base CX0 55 Zbw Zbx ["text"] (spRead C T1 T2)) :
  FnOk P w K mg base CX0 56 f fd ["script"] (spLaw K T1 T2):=by
 refine D.fn.okH (k:=55) ZaM (fun vs H Q E h=>?_) (fun cdv A outer s H vs Q E hr h=>?_)
 ·obtain⟨a,ns,rfl,_⟩:=h;rfl
 obtain⟨a,ns,rfl,hS,h63,tb,fin⟩:=h
 have hu:=u110 hr
 have hu0:=u0 hr
 have hu1:=hu_of hr
 have c6:=cst6
 refine⟨_,(wss_cons (ws_for PassesOwn.never rfl (wi_U (we_op op_plus (we_lst (wa_cons (we_call Zch (hr.mono (by lia)) rfl ZaU.mg ZaU.kp ZaU.b .nil pass0 (wa_cons (wv 0) (wa_cons we_int wa_nil))) wa_nil)) (we_slice sl_U (wv 0) (wo_some we_int) (wo_some we_int)))) (wg_name (i:=1) ZaM.nd rfl (Or.inl rfl)) (wss_cons (ws_set (i:=2) ZaM.nd rfl (Or.inl rfl) (we_call Zci (hr.mono (by lia)) rfl ZaV.mg ZaV.kp ZaV.b .nil pass0 (wa_cons (wv 1) (wa_cons we_int wa_nil))))
   (wss_cons (ws_set (i:=3) ZaM.nd rfl (Or.inl rfl) (we_call ZaY (hr.mono (by lia)) rfl Zag.mg Zag.kp Zag.b .nil pass0 (wa_cons (wv 2) (wa_cons we_int wa_nil))))
   (wss_cons (ws_set (i:=4) ZaM.nd rfl (Or.inl rfl) (we_call Zbg (hr.mono (by lia)) rfl Zai.mg Zai.kp Zai.b .nil pass0 (wa_cons (wv 3) (wa_cons (wv 2) wa_nil))))
   (wss_cons (ws_if (wt_pw (ww_and (wt_cmpR (op_ltU hu0) (we_callB call_lenU rfl T.z_len bt_len (wa_cons (wv 4) wa_nil)) we_int (nomark _)) (ww_and1 (wt_not (wt_val (we_call Za3 (hr.mono (by lia)) rfl Zae.mg Zae.kp Zae.b .nil pass0 (wa_cons (we_call Zby (hr.mono (by lia)) rfl Zao.mg Zao.kp Zao.b .nil pass0 (wa_cons (wv 4) wa_nil)) (wa_cons (wv 3) wa_nil)))))))) (wss_one (ws_ret we_bl)) wss_nil)
   (wss_cons (ws_set (i:=5) ZaM.nd rfl (Or.inl rfl) (we_call Zat (hr.mono (by lia)) rfl Zad.mg Zad.kp Zad.b .nil pass0 (wa_cons (wv 3) wa_nil)))
   (wss_cons (ws_if (wt_pw (ww_and (wt_cmpR (op_ltU hu0) (we_callB call_lenU rfl T.z_len bt_len (wa_cons (wv 5) wa_nil)) we_int (nomark _)) (ww_and1 (wt_not (wt_val (we_call Za3 (hr.mono (by lia)) rfl Zae.mg Zae.kp Zae.b .nil pass0 (wa_cons (we_call Zby (hr.mono (by lia)) rfl Zao.mg Zao.kp Zao.b .nil pass0 (wa_cons (wv 5) wa_nil)) (wa_cons (wv 3) wa_nil)))))))) (wss_one (ws_ret we_bl)) wss_nil)
   (wss_cons (ws_set (i:=6) ZaM.nd rfl (Or.inl rfl) (we_op op_plus (we_op op_plus we_str (we_bm PySem.F.plainAttrs_str PySem.F.slot_str_join PySem.F.type_str_join mt_join we_str (wa_cons (we_call ZaL (hr.mono (by lia)) rfl Zam.mg Zam.kp Zam.b .nil pass0 (wa_cons (we_lst (wa_cons (wv 5) (wa_cons (we_op op_plus (wv 5) we_str) (wa_cons (we_op op_plus (wv 5) we_str) (wa_cons we_str wa_nil))))) (wa_cons (wv 2) wa_nil))) wa_nil))) we_str))
   (wss_one (ws_if (wt_pw (ww_and (wt_cmpR (op_ltU hu0) (we_callB call_lenU rfl T.z_len bt_len (wa_cons (wv 6) wa_nil)) we_int (nomark _)) (ww_and1 (wt_not (wt_val (we_call Za3 (hr.mono (by lia)) rfl Zae.mg Zae.kp Zae.b .nil pass0 (wa_cons (we_call Zby (hr.mono (by lia)) rfl Zao.mg Zao.kp Zao.b .nil pass0 (wa_cons (wv 6) wa_nil)) (wa_cons (we_tup (wa_cons we_str (wa_cons (we_tup (wa_cons (we_tup (wa_cons (we_tup (wa_consts rfl)) (wa_cons we_int wa_nil))) wa_nil)) wa_nil))) wa_nil)))))))) (wss_one (ws_ret we_bl)) wss_nil))))))))))
   (wss_one (ws_ret we_bl))),?_⟩
 refine .inl ⟨_,rfl,a,ns,0,rfl,hS,by decide,fun c0=>⟨(by show 1<=sizeLine;decide),fun l hl=>?_⟩⟩
 have s2:Same H (upd H l (.lst [.int c0])):=same_new hl _
 refine⟨_,rfl,_,rfl,_,rfl,.inl ⟨a,_,rfl,s2.seq hS,fun q hq=>?_⟩⟩
 have lc:(cutV (ns.map V.int) (some 1) (some 24)).length<=63:=Nat.le_trans (cutV_length _ _ _) (by rw[List.length_map];exact h63)
 refine .inr (.inr (.inl ⟨l,q,_,_,rfl,rfl,same_new hq _ _ _ upd_same,upd_same,Nat.le_of_lt (line1 (by simp;lia)),fun o ho=>?_⟩))
 have hoO:(upd (upd (upd H l (.lst [.int c0])) q (.lst (cutV (ns.map V.int) (some 1) (some 24)))) o (.lst ([V.int c0]++cutV (ns.map V.int) (some 1) (some 24)))) o=_:=upd_same
 have tbO:=((tb.same s2).same (same_new hq (.lst (cutV (ns.map V.int) (some 1) (some 24))))).same (same_new ho (.lst ([V.int c0]++cutV (ns.map V.int) (some 1) (some 24))))
 generalize upd (upd (upd H l (.lst [.int c0])) q (.lst (cutV (ns.map V.int) (some 1) (some 24)))) o (.lst ([V.int c0]++cutV (ns.map V.int) (some 1) (some 24)))=HO at hoO tbO ⊢
 have allc:∀ z∈[V.int c0]++cutV (ns.map V.int) (some 1) (some 24),∃ c,z=.int c:=by
  intro z hz
  rcases List.mem_append.mp hz with h | h
  ·exact⟨c0,List.mem_singleton.mp h⟩
  ·unfold cutV at h
   obtain⟨c,_,e⟩:=List.mem_map.mp (List.mem_of_mem_drop (List.mem_of_mem_take h))
   exact⟨c,e.symm⟩
 generalize [V.int c0]++cutV (ns.map V.int) (some 1) (some 24)=cs at hoO allc
 refine for_list (b:=o) (xs:=cs) (fun i σ H'=>∃ (o1 o2 o3 o4 o5 o6:Option V),σ=[some (.ref a),o1,o2,o3,o4,o5,o6]/\H' o=some (.lst cs)/\Tb T1 T2 H')
  ⟨none,none,none,none,none,none,rfl,hoO,tbO⟩ ?stay ?turn ?done
 case stay=>rintro i σ H' ⟨_,_,_,_,_,_,_,h,_⟩;exact h
 case done=>
  rintro σ H' ⟨o1,o2,o3,o4,o5,o6,rfl,_⟩
  exact fin _
 case turn=>
 rintro E2 i hi σ H' ⟨o1,o2,o3,o4,o5,o6,rfl,hc,tb'⟩ nx rt
 obtain⟨c,ec⟩:=allc _ (List.getElem_mem hi)
 rw[ec]
 dsimp only[gName,List.set]
 refine seqH fun N1 to1=>⟨_,rfl,c,24,rfl,fun p H1 hp sp dk1=>to1 _ _ ?_⟩
 have nop:o≠p:=ne_of_none hc hp
 have tb1:=tb'.same sp
 refine seqH fun N2 to2=>⟨_,rfl,p,0,24,rfl,dk1,by decide,by rw[c6];decide,fun x v H2 r' bx gx ix ex2 dk2 sz0 l1 l2=>to2 _ _ ?_⟩
 have sx:vsz x<=60:=by have:=l2 (by decide);lia
 have hc2:H2 o=some (.lst cs):=ex2 _ _ nop (sp _ _ hc)
 have tb2:Tb T1 T2 H2:=by
  obtain⟨c1,f1,m1,c2,h,_⟩:=dk1
  exact tb1.keepL fun b o n z=>ex2 b o (fun y=>by rw[y,h]at z;cases z;exact n _ rfl) z
 refine seqH fun N3 to3=>⟨_,rfl,_,rfl,v,p,_,r',x,rfl,ix,bx,gx,sx,dk2,by lia,by lia,by decide,fun z H3 lz rdz ex3 dk3=>to3 _ _ ?_⟩
 have tb3:Tb T1 T2 H3:=by
  obtain⟨c1,f1,m1,c2,h,_⟩:=dk2
  exact tb2.keepL fun b o n z=>ex3 b o (fun y=>by rw[y,h]at z;cases z;exact n _ rfl) z
 have K3:Kp T1 T2 o p cs x v (0+cst 6+cst 6) r' H3:=⟨ex3 _ _ nop hc2,tb3,IsDt.mono (dk2.tups ex3) ix,dk3⟩
 have nrw:=nrw_dat (by decide) bx
 have dep:(dat x).dep<=23:=Nat.le_trans (dep_dat bx) (by decide)
 have lzb:z.length<=sizeLine:=Nat.le_of_lt (line1 (Nat.le_trans lz (Nat.le_trans (Nat.mul_le_mul (QQ_le (Nat.le_refl 6)) sx) (by decide))))
 refine seqH fun N4 to4=>?_
 have go4:∀ H5,Kp T1 T2 o p cs x v (0+cst 6+cst 6) r' H5->N4 [some (.ref a),some (.int c),some (.ref p),some v,some (.str z),o5,o6] H5:=fun H5 K5=>by
  refine to4 _ _ ?_
  refine seqH fun N5 to5=>⟨_,rfl,v,x,rfl,K5.iv,bd8 bx (by decide),Gv.mono (by decide) (by decide) gx,by lia,fun z2 H6 ez s6=>to5 _ _ ?_⟩
  have K6:=K5.same s6
  have rd7:Rd 7 z2.cps.toList x:=by rw[ez];exact rd_enc (by decide) bx gx
  have l2:z2.length<=6000:=by
   have h1:z2.cps.toList.length=z2.length:=Array.length_toList
   have h2:=enc_len (Gv.mono (N':=10 ^ 34) (C':=10 ^ 34) (by decide) (by decide) gx)
   rw[ez]at h1
   lia
  refine seqH fun N6 to6=>?_
  have go6:∀ H7,Kp T1 T2 o p cs x v (0+cst 6+cst 6) r' H7->N6 [some (.ref a),some (.int c),some (.ref p),some v,some (.str z),some (.str z2),o6] H7:=fun H7 K7=>by
   refine to6 _ _ ?_
   have l5:(Str.ofString " * -3").length=5:=by decide +kernel
   have l4:(Str.ofString " * 2").length=4:=by decide +kernel
   have lz3:(Str.ofString "'zz").length=3:=by decide +kernel
   have lo1:(Str.ofString "{").length=1:=by decide +kernel
   have lc1:(Str.ofString "}").length=1:=by decide +kernel
   have la5:=len_app z2 (Str.ofString " * -3")
   have la4:=len_app z2 (Str.ofString " * 2")
   refine seqH fun N7 to7=>⟨rfl,_,rfl,_,rfl,.inr (.inl ⟨_,_,rfl,rfl,Nat.le_of_lt (line1 (by lia)),_,rfl,.inr (.inl ⟨_,_,rfl,rfl,Nat.le_of_lt (line1 (by lia)),(by show 4<=sizeLine;decide),fun lq hlq=>?_⟩)⟩)⟩
   have sq:=same_new hlq (.lst [.str z2,.str (z2++Str.ofString " * -3"),.str (z2++Str.ofString " * 2"),.str "'zz"])
   have K8:=K7.same sq
   refine⟨_,rfl,lq,p,[z2,z2++Str.ofString " * -3",z2++Str.ofString " * 2",Str.ofString "'zz"],_,r',rfl,upd_same,(by show 4<=60;decide),K8.dk,by lia,by lia,fun lm ys H9 pmt ex9 dk9 hl9=>?_⟩
   have hsum:(ys.map (·.length)).sum=([z2,z2++Str.ofString " * -3",z2++Str.ofString " * 2",Str.ofString "'zz"].map (·.length)).sum:=(pmt.map _).sum_nat
   simp only[List.map_cons,List.map_nil,List.sum_cons,List.sum_nil]at hsum
   have hlen:ys.length=4:=pmt.length_eq
   have hjl:=join_ln ys
   have K9:Kp T1 T2 o p cs x v (0+cst 6+cst 6+60) r' H9:=by
    obtain⟨c1,f1,m1,c2,h,_⟩:=K8.dk
    exact⟨ex9 _ _ nop K8.lst,K8.tb.keepL fun b o n z=>ex9 b o (fun y=>by rw[y,h]at z;cases z;exact n _ rfl) z,IsDt.mono (K8.dk.tups ex9) K8.iv,dk9⟩
   refine⟨_,lm,ys,rfl,rfl,SqL.of hl9,by rw[show (Str.ofString ", ").length=2 by decide +kernel];lia,.inr (.inl ⟨_,_,rfl,rfl,Nat.le_of_lt (line1 (by lia)),.inr (.inl ⟨_,_,rfl,rfl,Nat.le_of_lt (line1 (by rw[len_app];lia)),to7 _ _ ?_⟩)⟩)⟩
   have et:[z2,z2++Str.ofString " * -3",z2++Str.ofString " * 2",Str.ofString "'zz"].map (·.cps.toList)=(und z2.cps.toList x).map (fun t=>t.1++cn t.2.2):=by
    have e1:cn 1=[]:=rfl
    have e2:(Str.ofString " * -3").cps.toList=cn (-3):=by decide +kernel
    have e3:(Str.ofString " * 2").cps.toList=cn 2:=by decide +kernel
    have e4:(Str.ofString "'zz").cps.toList=39::(Str.ofString "zz").cps.toList:=by decide +kernel
    simp only[und,List.map_cons,List.map_nil,cps_app,e1,e2,e3,e4,List.append_nil]
   obtain⟨its,pi,ey⟩:=perm_lift pmt et
   have hky:(key x).length<=5000000:=Nat.le_trans (key_len (bx.mono (by decide))) (by decide)
   have rdU:=rd_undone rd7 hky pi
   have eU:(Str.ofString "{"++Txt.join (Str.ofString ", ") ys++Str.ofString "}").cps.toList=123::(jn (its.map fun p=>p.1++cn p.2.2)++[125]):=by
    rw[cps_app,cps_app,join_jn,ey,show (Str.ofString "{").cps.toList=[123] by decide +kernel,show (Str.ofString "}").cps.toList=[125] by decide +kernel,List.append_assoc];rfl
   rw[<- eU]at rdU
   have lU:(Str.ofString "{"++Txt.join (Str.ofString ", ") ys++Str.ofString "}").length<=100000:=by rw[len_app,len_app];lia
   generalize Str.ofString "{"++Txt.join (Str.ofString ", ") ys++Str.ofString "}"=zU at rdU lU ⊢
   have go:∀ H5,Kp T1 T2 o p cs x v (0+cst 6+cst 6+60) r' H5->E2.nx [some (.ref a),some (.int c),some (.ref p),some v,some (.str z),some (.str z2),some (.str zU)] H5:=fun H5 K5=>nx _ _ ⟨_,_,_,_,_,_,rfl,K5.lst,K5.tb⟩
   refine⟨_,rfl,.inr ⟨zU,rfl,Nat.le_of_lt (line1 (by lia)),.inl ⟨_,_,rfl,rfl,_,rfl,?_⟩⟩⟩
   refine ite2 (fun e1=>?_) (fun e1=>go H9 K9)
   have lz4:zU.length<1200:=by have:=of_decide_eq_true e1;lia
   refine⟨_,rfl,zU,_,rfl,by lia,rdU.up,K9.tb,fun u HA eA tbA iuA=>?_⟩
   have KA:=K9.read eA tbA
   refine⟨(by show 2<=sizeLine;decide),fun t1 h1=>⟨(by show 2<=sizeLine;decide),fun t2 h2=>⟨(by show 1<=sizeLine;decide),fun t3 h3=>⟨(by show 2<=sizeLine;decide),fun t4 h4=>?_⟩⟩⟩⟩
   have i1:∀ H,IsDt H (.int 1) (.int 1):=fun H=>by rw[IsDt]
   have d1:=isDt_new h1 (.cons (isDt_str "word") (.one (isDt_str "zz")))
   have d2:=isDt_new h2 (.cons d1 (.one (i1 _)))
   have d3:=isDt_new h3 (.one d2)
   have d4:=isDt_new h4 (.cons (isDt_str "bag") (.one d3))
   have sT:=((same_new h1 (.tup [.str "word",.str "zz"])).trans (same_new h2 (.tup [.ref t1,.int 1]))).trans ((same_new h3 (.tup [.ref t2])).trans (same_new h4 (.tup [.str "bag",.ref t3])))
   have bz:Bd 6 1 (.bag [(.word (Str.ofString "zz"),1)]):=by
    simp only[Bd]
    refine⟨by decide,fun p hp=>?_⟩
    rw[List.mem_singleton.mp hp]
    exact bd_word (by decide +kernel)
   refine⟨u,.ref t4,dat (.bag [(.word (Str.ofString "zz"),1)]),rfl,IsDt.mono sT.tups iuA,?_,nrw_dat (by decide) bz,Nat.le_trans (dep_dat bz) (by decide),by decide,fun HB sB=>⟨_,rfl,iteF (go HB ((KA.same sT).same sB))⟩⟩
   rw[dat,datB,datB,dat]
   exact d4
  refine⟨_,rfl,.inr ⟨z2,rfl,Nat.le_of_lt (line1 (by lia)),.inl ⟨_,_,rfl,rfl,_,rfl,?_⟩⟩⟩
  refine ite2 (fun e1=>?_) (fun e1=>go6 H6 K6)
  refine⟨_,rfl,z2,x,rfl,by lia,rd7.up.up,K6.tb,fun u H7 e7 tb7 iu7=>?_⟩
  have K7:=K6.read e7 tb7
  exact⟨_,rfl,u,v,dat x,rfl,iu7,K7.iv,nrw,dep,by decide,fun H8 s8=>⟨_,rfl,iteF (go6 H8 (K7.same s8))⟩⟩
 refine⟨_,rfl,.inr ⟨z,rfl,lzb,.inl ⟨_,_,rfl,rfl,_,rfl,?_⟩⟩⟩
 refine ite2 (fun e1=>?_) (fun e1=>go4 H3 K3)
 have lz2:z.length<1200:=by have:=of_decide_eq_true e1;lia
 refine⟨_,rfl,z,x,rfl,by lia,rdz.up.up,K3.tb,fun u H4 e4 tb4 iu4=>?_⟩
 have K4:=K3.read e4 tb4
 exact⟨_,rfl,u,v,dat x,rfl,iu4,K4.iv,nrw,dep,by decide,fun H5 s5=>⟨_,rfl,iteF (go4 H5 (K4.same s5))⟩⟩
end
end K05
end
section
namespace K05
open PySem L2 Kn
/-- a def that stands at the program's top -/
def DefAt (K:PySem.W.Frag) (x:Str) (st:Stmt):Prop:=∃ (f:Addr) (fd:FuncData),PySem.W.nsIn K mainGlobals x=some (some (.ref f))/\Fun K x x st f fd
theorem len_0 {us:List Value} (h:us.length=0):us=[]:=List.length_eq_zero_iff.mp h
theorem len_1 {us:List Value} (h:us.length=1):∃ a,us=[a]:=List.length_eq_one_iff.mp h
theorem len_2 {us:List Value} (h:us.length=2):∃ a b,us=[a,b]:=by
 cases us with
 | nil=>cases h
 | cons a t=>
  obtain⟨b,rfl⟩:=len_1 (us:=t) (by simpa using h)
  exact⟨a,b,rfl⟩
theorem len_3 {us:List Value} (h:us.length=3):∃ a b c,us=[a,b,c]:=by
 cases us with
 | nil=>cases h
 | cons a t=>
  obtain⟨b,c,rfl⟩:=len_2 (us:=t) (by simpa using h)
  exact⟨a,b,c,rfl⟩
theorem len_4 {us:List Value} (h:us.length=4):∃ a b c d,us=[a,b,c,d]:=by
 cases us with
 | nil=>cases h
 | cons a t=>
  obtain⟨b,c,d,rfl⟩:=len_3 (us:=t) (by simpa using h)
  exact⟨a,b,c,d,rfl⟩
theorem len_5 {us:List Value} (h:us.length=5):∃ a b c d e,us=[a,b,c,d,e]:=by
 cases us with
 | nil=>cases h
 | cons a t=>
  obtain⟨b,c,d,e,rfl⟩:=len_4 (us:=t) (by simpa using h)
  exact⟨a,b,c,d,e,rfl⟩
theorem defAt_mk {K:PySem.W.Frag}{x:Str}{st:Stmt}{f:Addr}{oc:Value}{od an:Option Addr}{osl:Array (Option Value)}{kV doc pm cdv ct:Value} (a:PySem.W.nsIn K mainGlobals x=some (some (.ref f)))
  (l:K.lookup f=some ⟨oc,od,.func (PySem.W.fnOf x x (defArgs st) (defBody st) (defScope st) .none kV doc pm an cdv ct),osl⟩) (c:PySem.W.codeIn K cdv x=true) (k:PySem.W.keepIn K (.ref f)=true):DefAt K x st:=⟨f,_,a,fun_mk l c k⟩
/-- a def that makes a function: its code,and the code's table at T0 -/
def MkAt (K:PySem.W.Frag) (x:Str) (st:Stmt) (T0:Addr):Prop:=∃ (f c:Addr) (fd:FuncData),PySem.W.nsIn K mainGlobals x=some (some (.ref f))/\Fun K x x st f fd/\fd.code=.ref c/\PySem.W.codeHdIn K c T0=true
theorem mkAt_mk {K:PySem.W.Frag}{x:Str}{st:Stmt}{f c T0:Addr}{oc:Value}{od an:Option Addr}{osl:Array (Option Value)}{kV doc pm ct:Value} (a:PySem.W.nsIn K mainGlobals x=some (some (.ref f)))
  (l:K.lookup f=some ⟨oc,od,.func (PySem.W.fnOf x x (defArgs st) (defBody st) (defScope st) .none kV doc pm an (.ref c) ct),osl⟩) (cd:PySem.W.codeIn K (.ref c) x=true) (k:PySem.W.keepIn K (.ref f)=true) (hd:PySem.W.codeHdIn K c T0=true):MkAt K x st T0:=⟨f,c,_,a,fun_mk l cd k,rfl,hd⟩
/-- the module of the built-in names -/
def BltAt (K:PySem.W.Frag) (T0:Addr):Prop:=∃ (bm:Addr) (ob:Obj),PySem.W.nsIn K mainGlobals "__builtins__"=some (some (.ref bm))/\K.lookup bm=some ob/\bm≠builtinsNs/\bm≠mainGlobals/\bm≠T0/\ob.cls=.type "module"/\ob.dict=some builtinsNs/\ob.data=.plain
theorem blt_mk {K:PySem.W.Frag}{T0 bm:Addr}{ob:Obj} (a:PySem.W.nsIn K mainGlobals "__builtins__"=some (some (.ref bm))) (l:K.lookup bm=some ob) (h1:bm≠builtinsNs) (h2:bm≠mainGlobals) (h3:bm≠T0) (h4:ob.cls=.type "module") (h5:ob.dict=some builtinsNs) (h6:ob.data=.plain):BltAt K T0:=⟨bm,ob,a,l,h1,h2,h3,h4,h5,h6⟩
/-- a method of a class -/
def MethAt (K:PySem.W.Frag) (C:Addr) (m qual:Str) (st:Stmt):Prop:=∃ (f:Addr) (fd:FuncData),Fun K m qual st f fd/\Meth K C m f
theorem methAt_mk {K:PySem.W.Frag}{C:Addr}{m qual:Str}{st:Stmt}{f:Addr}{oc:Value}{od an:Option Addr}{osl:Array (Option Value)}{kV doc pm cdv ct:Value} (a:PySem.W.findIn K (.ref C) m=some (some (.ref f)))
  (l:K.lookup f=some ⟨oc,od,.func (PySem.W.fnOf m qual (defArgs st) (defBody st) (defScope st) .none kV doc pm an cdv ct),osl⟩) (c:PySem.W.codeIn K cdv qual=true) (k:PySem.W.keepIn K (.ref f)=true) (n:PySem.W.isFn K (.ref f)=true):MethAt K C m qual st:=⟨f,_,fun_mk l c k,a,n,k⟩
def RanksAt (K:PySem.W.Frag) (w:World):Prop:=∃ (aR:Addr) (es:Array DictEntry) (n:Nat) (t0 t1 t2 t3:Tok),PySem.W.nsIn K mainGlobals "RANKS"=some (some (.ref aR))/\K.lookup aR=some ⟨.type "dict",none,.dict es n,#[]⟩/\PySem.W.KeysLit w.params es.toList /\
 PySem.W.nsIn K aR "num"=some (some (.int 0 t0))/\PySem.W.nsIn K aR "word"=some (some (.int 1 t1))/\PySem.W.nsIn K aR "row"=some (some (.int 2 t2))/\PySem.W.nsIn K aR "bag"=some (some (.int 3 t3))
theorem ranks_mk {K:PySem.W.Frag}{w:World}{aR:Addr}{es:Array DictEntry}{n:Nat}{t0 t1 t2 t3:Tok} (a:PySem.W.nsIn K mainGlobals "RANKS"=some (some (.ref aR))) (l:K.lookup aR=some ⟨.type "dict",none,.dict es n,#[]⟩) (k:PySem.W.KeysLit w.params es.toList)
  (r0:PySem.W.nsIn K aR "num"=some (some (.int 0 t0))) (r1:PySem.W.nsIn K aR "word"=some (some (.int 1 t1))) (r2:PySem.W.nsIn K aR "row"=some (some (.int 2 t2))) (r3:PySem.W.nsIn K aR "bag"=some (some (.int 3 t3))):RanksAt K w:=
 ⟨aR,es,n,t0,t1,t2,t3,a,l,k,r0,r1,r2,r3⟩
theorem ix_ranks {K:PySem.W.Frag}{w:World}{aR:Addr}{es:Array DictEntry}{n:Nat}{t0 t1 t2 t3:Tok} (l:K.lookup aR=some ⟨.type "dict",none,.dict es n,#[]⟩) (k:PySem.W.KeysLit w.params es.toList)
  (r0:PySem.W.nsIn K aR "num"=some (some (.int 0 t0))) (r1:PySem.W.nsIn K aR "word"=some (some (.int 1 t1))) (r2:PySem.W.nsIn K aR "row"=some (some (.int 2 t2))) (r3:PySem.W.nsIn K aR "bag"=some (some (.int 3 t3))) :
  ∀ X:Cx,X.K=K->X.w=w->X.A.units+1<cLine->IxR X (rRank aR):=by
 intro X eK eW hu value slice pins s σ H x y v u Q I rx ry h hs
 subst eK
 subst eW
 obtain⟨z,i,rfl,rfl,hr,q⟩:=h
 cases rx
 obtain⟨t,rfl⟩:=ry
 have e:∃ t',PySem.W.nsIn X.K aR z=some (some (.int i t')):=by
  unfold rankS at hr
  split at hr
  ·rename_i e;subst e;cases hr;exact⟨_,r0⟩
  split at hr
  ·rename_i e;subst e;cases hr;exact⟨_,r1⟩
  split at hr
  ·rename_i e;subst e;cases hr;exact⟨_,r2⟩
  split at hr
  ·rename_i e;subst e;cases hr;exact⟨_,r3⟩
  ·cases hr
 obtain⟨t',e⟩:=e
 obtain⟨m,F⟩:=I.fr
 exact PySem.W.topItem_K F I.mod.kin l k e ⟨.int i,H,I.tok _,⟨_,rfl⟩,q⟩ hs
/-- the class Reader -/
def ReaderAt (K:PySem.W.Frag):Prop:=∃ C:Addr,PySem.W.nsIn K mainGlobals "Reader"=some (some (.ref C))/\Cls K C/\NA K C/\PySem.W.makesIn K C=true/\PySem.W.keepIn K (.ref C)=true /\
 MethAt K C "__init__" "Reader.__init__" (mtop 11 0)/\MethAt K C "takes" "Reader.takes" (mtop 11 1)/\MethAt K C "needs" "Reader.needs" (mtop 11 2)/\MethAt K C "at_end" "Reader.at_end" (mtop 11 4)/\MethAt K C "run_of" "Reader.run_of" (mtop 11 5)/\MethAt K C "name" "Reader.name" (mtop 11 6)/\MethAt K C "number" "Reader.number" (mtop 11 7)/\MethAt K C "parts" "Reader.parts" (mtop 11 8)
theorem reader_mk {K:PySem.W.Frag}{C:Addr} (a:PySem.W.nsIn K mainGlobals "Reader"=some (some (.ref C))) (c1:PySem.W.plainGet K C Str.empty=true) (c2:PySem.W.hasDictIn K C=true) (c3:PySem.W.plainOver K C=true) (c4:PySem.W.findIn K (.ref C) "__setattr__"=some (some (.builtin "object.__setattr__")))
  (n1:PySem.W.findIn K (.ref C) "text"=some none) (n2:PySem.W.findIn K (.ref C) "place"=some none) (mk:PySem.W.makesIn K C=true) (kp:PySem.W.keepIn K (.ref C)=true)
  (m0:MethAt K C "__init__" "Reader.__init__" (mtop 11 0)) (m1:MethAt K C "takes" "Reader.takes" (mtop 11 1)) (m2:MethAt K C "needs" "Reader.needs" (mtop 11 2)) (m3:MethAt K C "at_end" "Reader.at_end" (mtop 11 4)) (m4:MethAt K C "run_of" "Reader.run_of" (mtop 11 5)) (m5:MethAt K C "name" "Reader.name" (mtop 11 6)) (m6:MethAt K C "number" "Reader.number" (mtop 11 7)) (m7:MethAt K C "parts" "Reader.parts" (mtop 11 8)):ReaderAt K:=
 ⟨C,a,⟨c1,c2,c3,c4⟩,⟨n1,n2⟩,mk,kp,m0,m1,m2,m3,m4,m5,m6,m7⟩
/-- the words that no name is -/
def TakenAt (K:PySem.W.Frag):Prop:=∃ a:Addr,PySem.W.nsIn K mainGlobals "TAKEN_WORDS"=some (some (.ref a))/\∀ H,SqT K H a (TKN.map V.str)
theorem taken_mk {K:PySem.W.Frag}{a:Addr}{od:Option Addr}{its:Array Value}{n:Nat}{osl:Array (Option Value)} (h:PySem.W.nsIn K mainGlobals "TAKEN_WORDS"=some (some (.ref a))) (l:K.lookup a=some ⟨.type "tuple",od,.seq its n,osl⟩) (z:its.size<=sizeLine) (v:Vals (TKN.map V.str) its.toList):TakenAt K:=
 ⟨a,h,fun H=>.inr ⟨_,its,n,l,rfl,rfl,z,v⟩⟩
theorem DefAt.df {K:PySem.W.Frag}{h:Heap}{mg:Str->Option Value}{x:Str}{st:Stmt} (d:DefAt K x st) (X:K.In h) (G:h.Ns mainGlobals mg) (ps:List Str) (b:∀ (kV doc pm:Value) (an:Option Addr) (cdv ct:Value) (us:List Value),us.length=ps.length->bindArgs (PySem.W.fnOf x x (defArgs st) (defBody st) (defScope st) .none kV doc pm an cdv ct) ⟨us,[]⟩=pure (ps.zip us)) :
  ∃ (f:Addr) (fd:FuncData),PySem.W.nsIn K mainGlobals x=some (some (.ref f))/\Df K mg x st f fd ps:=by
 obtain⟨f,fd,a,F⟩:=d
 exact⟨f,fd,a,F,F.binds b,PySem.W.mg_of X G a⟩
theorem all_mk {l:PySem.W.OpenLaw}{w:World}{K:PySem.W.Frag}{h:Heap}{mg:Str->Option Value}{fa T1 T2:Addr}{tG tE k1 k2 k3 k4:Tok} (X:K.In h) (G:h.Ns mainGlobals mg) (hfa:mg "law"=some (.ref fa)) (gT1:mainGlobals≠T1) (gT2:mainGlobals≠T2) (hT:T1≠T2)
  (Zcj:DefAt K "only_of" (top 8)) (Zck:DefAt K "is_name" (top 9)) (Zcl:DefAt K "number_of" (top 10)) (Zcm:DefAt K "unfolded" (top 16)) (Zcn:DefAt K "order_parts" (top 17)) (Zco:DefAt K "order_key" (top 18)) (Zcp:DefAt K "bag_of" (top 19)) (Zcq:DefAt K "read" (top 22)) (Zcr:DefAt K "read_field" (top 25)) (Zcs:DefAt K "read_counted" (top 26)) (Zct:DefAt K "read_count" (top 27)) (Zcu:DefAt K "_law_cell_at" (top 29)) (Zcv:DefAt K "_law_deck" (top 30)) (Zcw:DefAt K "_law_next" (top 31)) (Zcx:DefAt K "_law_far" (top 32)) (Zcy:DefAt K "_law_number" (top 33)) (Zcz:DefAt K "_law_name" (top 34)) (ZcA:DefAt K "_law_side" (top 35)) (ZcB:DefAt K "_law_pair_side" (top 36)) (ZcC:DefAt K "_law_bag" (top 37)) (ZcD:DefAt K "_law_row_parts" (top 38)) (ZcE:DefAt K "_law_count" (top 39)) (ZcF:DefAt K "_law_value" (top 40)) (ZcG:DefAt K "_law_whole" (top 41)) (ZcH:DefAt K "_law_like" (top 42)) (ZcI:DefAt K "_law_text" (top 43)) (ZcJ:DefAt K "_law_mixed" (top 44)) (ZcK:DefAt K "_law_split" (top 45)) (ZcL:DefAt K "_law_loose" (top 46)) (ZcM:DefAt K "law" (top 47))
  (hI1:MkAt K "read_value" (top 23) T1) (hI2:MkAt K "read_row" (top 24) T2) (hB1:BltAt K T1) (hB2:BltAt K T2) (hW:ReaderAt K) (hTk:TakenAt K) (rk:RanksAt K w)
  (c1:PySem.W.nsIn K mainGlobals "LONGEST_NAME"=some (some (.int 8 k1))) (c2:PySem.W.nsIn K mainGlobals "LETTERS"=some (some (.str "abcdefghijklmnopqrstuvwxyz" k2))) (c3:PySem.W.nsIn K mainGlobals "FIGURES"=some (some (.str "0123456789" k3))) (c4:PySem.W.nsIn K mainGlobals "DEEPEST"=some (some (.int 12 k4)))
  (c5:PySem.W.nsIn K mainGlobals "GOES_ON"=some (some (.int 1 tG))) (c6:PySem.W.nsIn K mainGlobals "ENDS"=some (some (.int 0 tE)))
  (z1:PySem.W.nsIn K mainGlobals "len"=some none) (z2:PySem.W.nsIn K mainGlobals "int"=some none) (z3:PySem.W.nsIn K mainGlobals "tuple"=some none) (z4:PySem.W.nsIn K mainGlobals "range"=some none) (z5:PySem.W.nsIn K mainGlobals "isinstance"=some none) (z6:PySem.W.nsIn K mainGlobals "zip"=some none) (z7:PySem.W.nsIn K mainGlobals "sorted"=some none) (z8:PySem.W.nsIn K mainGlobals "abs"=some none) (z9:PySem.W.nsIn K mainGlobals "str"=some none) (z10:PySem.W.nsIn K mainGlobals "list"=some none) (z11:PySem.W.nsIn K mainGlobals "all"=some none) (z12:PySem.W.nsIn K mainGlobals "bool"=some none) :
  ∃ fd:FuncData,(∀ (s:Shared) (v:Value),BindsTo s fd ⟨[v],[]⟩ [("script",v)])/\∀ base:Heap,K.In base->base.Ns mainGlobals mg->FnOk l.prog w K mg base CX0 56 fa fd ["script"] (spLaw K T1 T2):=by
 have T:Tx mg:=⟨PySem.W.mg_none_of X G z1,PySem.W.mg_none_of X G z2,PySem.W.mg_none_of X G z3,PySem.W.mg_none_of X G z4,PySem.W.mg_none_of X G z5,PySem.W.mg_none_of X G z6,PySem.W.mg_none_of X G z7,PySem.W.mg_none_of X G z8,PySem.W.mg_none_of X G z9,PySem.W.mg_none_of X G z10,PySem.W.mg_none_of X G z11,PySem.W.mg_none_of X G z12⟩
 obtain⟨ZcQ,ZcR,ZcS,Zap⟩:=Zcj.df X G ["text","signs"] fun _ _ _ _ _ _ us hl=>by obtain⟨_,_,rfl⟩:=len_2 hl;rfl
 obtain⟨ZcT,ZcU,ZcV,ZaR⟩:=Zck.df X G ["text"] fun _ _ _ _ _ _ us hl=>by obtain⟨_,rfl⟩:=len_1 hl;rfl
 obtain⟨ZcW,ZcX,ZcY,ZaS⟩:=Zcl.df X G ["text"] fun _ _ _ _ _ _ us hl=>by obtain⟨_,rfl⟩:=len_1 hl;rfl
 obtain⟨ZcZ,Zc0,Zc1,ZaO⟩:=Zcm.df X G ["whole","parts_of"] fun _ _ _ _ _ _ us hl=>by obtain⟨_,_,rfl⟩:=len_2 hl;rfl
 obtain⟨Zc2,Zc3,Zc4,Za2⟩:=Zcn.df X G ["value"] fun _ _ _ _ _ _ us hl=>by obtain⟨_,rfl⟩:=len_1 hl;rfl
 obtain⟨Zc5,Zc6,Zc7,ZaQ⟩:=Zco.df X G ["value"] fun _ _ _ _ _ _ us hl=>by obtain⟨_,rfl⟩:=len_1 hl;rfl
 obtain⟨Zc8,Zc9,Zda,ZaF⟩:=Zcp.df X G ["pairs"] fun _ _ _ _ _ _ us hl=>by obtain⟨_,rfl⟩:=len_1 hl;rfl
 obtain⟨Zbw,Zbx,Zdb,Zao⟩:=Zcq.df X G ["text"] fun _ _ _ _ _ _ us hl=>by obtain⟨_,rfl⟩:=len_1 hl;rfl
 obtain⟨Zdc,Zdd,Zde,Zaw⟩:=Zcr.df X G ["reader","depth"] fun _ _ _ _ _ _ us hl=>by obtain⟨_,_,rfl⟩:=len_2 hl;rfl
 obtain⟨Zdf,Zdg,Zdh,Zav⟩:=Zcs.df X G ["reader","depth"] fun _ _ _ _ _ _ us hl=>by obtain⟨_,_,rfl⟩:=len_2 hl;rfl
 obtain⟨Zdi,Zdj,Zdk,ZaC⟩:=Zct.df X G ["reader"] fun _ _ _ _ _ _ us hl=>by obtain⟨_,rfl⟩:=len_1 hl;rfl
 obtain⟨Zdl,Zdm,Zdn,ZaU⟩:=Zcu.df X G ["script","k"] fun _ _ _ _ _ _ us hl=>by obtain⟨_,_,rfl⟩:=len_2 hl;rfl
 obtain⟨Zdo,Zdp,Zdq,ZaV⟩:=Zcv.df X G ["cell","room"] fun _ _ _ _ _ _ us hl=>by obtain⟨_,_,rfl⟩:=len_2 hl;rfl
 obtain⟨Zdr,Zds,Zdt,Zaa⟩:=Zcw.df X G ["deck","many"] fun _ _ _ _ _ _ us hl=>by obtain⟨_,_,rfl⟩:=len_2 hl;rfl
 obtain⟨Zdu,Zdv,Zdw,ZaN⟩:=Zcx.df X G ["deck"] fun _ _ _ _ _ _ us hl=>by obtain⟨_,rfl⟩:=len_1 hl;rfl
 obtain⟨Zdx,Zdy,Zdz,Zak⟩:=Zcy.df X G ["deck"] fun _ _ _ _ _ _ us hl=>by obtain⟨_,rfl⟩:=len_1 hl;rfl
 obtain⟨ZdA,ZdB,ZdC,Zal⟩:=Zcz.df X G ["deck"] fun _ _ _ _ _ _ us hl=>by obtain⟨_,rfl⟩:=len_1 hl;rfl
 obtain⟨ZdD,ZdE,ZdF,Zaj⟩:=ZcA.df X G ["one","other"] fun _ _ _ _ _ _ us hl=>by obtain⟨_,_,rfl⟩:=len_2 hl;rfl
 obtain⟨ZdG,ZdH,ZdI,ZaA⟩:=ZcB.df X G ["word","a","b"] fun _ _ _ _ _ _ us hl=>by obtain⟨_,_,_,rfl⟩:=len_3 hl;rfl
 obtain⟨ZdJ,ZdK,ZdL,Zas⟩:=ZcC.df X G ["pairs"] fun _ _ _ _ _ _ us hl=>by obtain⟨_,rfl⟩:=len_1 hl;rfl
 obtain⟨ZdM,ZdN,ZdO,Zar⟩:=ZcD.df X G ["deck","deep"] fun _ _ _ _ _ _ us hl=>by obtain⟨_,_,rfl⟩:=len_2 hl;rfl
 obtain⟨ZdP,ZdQ,ZdR,Zaq⟩:=ZcE.df X G ["deck"] fun _ _ _ _ _ _ us hl=>by obtain⟨_,rfl⟩:=len_1 hl;rfl
 obtain⟨ZdS,ZdT,ZdU,Zag⟩:=ZcF.df X G ["deck","deep"] fun _ _ _ _ _ _ us hl=>by obtain⟨_,_,rfl⟩:=len_2 hl;rfl
 obtain⟨ZdV,ZdW,ZdX,Zau⟩:=ZcG.df X G ["thing"] fun _ _ _ _ _ _ us hl=>by obtain⟨_,rfl⟩:=len_1 hl;rfl
 obtain⟨ZdY,ZdZ,Zd0,Zae⟩:=ZcH.df X G ["found","due"] fun _ _ _ _ _ _ us hl=>by obtain⟨_,_,rfl⟩:=len_2 hl;rfl
 obtain⟨Zd1,Zd2,Zd3,Zad⟩:=ZcI.df X G ["value"] fun _ _ _ _ _ _ us hl=>by obtain⟨_,rfl⟩:=len_1 hl;rfl
 obtain⟨Zd4,Zd5,Zd6,Zam⟩:=ZcJ.df X G ["some","deck"] fun _ _ _ _ _ _ us hl=>by obtain⟨_,_,rfl⟩:=len_2 hl;rfl
 obtain⟨Zd7,Zd8,Zd9,Zay⟩:=ZcK.df X G ["text","count","deck"] fun _ _ _ _ _ _ us hl=>by obtain⟨_,_,_,rfl⟩:=len_3 hl;rfl
 obtain⟨Zea,Zeb,Zec,Zai⟩:=ZcL.df X G ["value","deck"] fun _ _ _ _ _ _ us hl=>by obtain⟨_,_,rfl⟩:=len_2 hl;rfl
 obtain⟨f_rv,c_rv,fd_rv,a_rv,F_rv,ec1,hcd1⟩:=hI1
 have Zah:Df K mg "read_value" (top 23) f_rv fd_rv ["reader","depth"]:=⟨F_rv,F_rv.binds (ps:=["reader","depth"]) fun _ _ _ _ _ _ us hl=>by obtain⟨_,_,rfl⟩:=len_2 hl;rfl,PySem.W.mg_of X G a_rv⟩
 obtain⟨f_rr,c_rr,fd_rr,a_rr,F_rr,ec2,hcd2⟩:=hI2
 have ZaE:Df K mg "read_row" (top 24) f_rr fd_rr ["reader","depth"]:=⟨F_rr,F_rr.binds (ps:=["reader","depth"]) fun _ _ _ _ _ _ us hl=>by obtain⟨_,_,rfl⟩:=len_2 hl;rfl,PySem.W.mg_of X G a_rr⟩
 obtain⟨bm,ob,b1,b2,b3,b4,b5,b6,b7,b8⟩:=hB1
 have LM1:LmK K mg c_rv T1:=⟨hcd1,⟨bm,ob,PySem.W.mg_of X G b1,b2,b3,b4,b5,b6,b7,b8⟩,gT1⟩
 obtain⟨bm',ob',b1',b2',b3',b4',b5',b6',b7',b8'⟩:=hB2
 have LM2:LmK K mg c_rr T2:=⟨hcd2,⟨bm',ob',PySem.W.mg_of X G b1',b2',b3',b4',b5',b6',b7',b8'⟩,gT2⟩
 obtain⟨C,aC,cC,nC,mkC,kpC,⟨f_m0,fd_m0,F_m0,M_m0⟩,⟨f_m1,fd_m1,F_m1,M_m1⟩,⟨f_m2,fd_m2,F_m2,M_m2⟩,⟨f_m3,fd_m3,F_m3,M_m3⟩,⟨f_m4,fd_m4,F_m4,M_m4⟩,⟨f_m5,fd_m5,F_m5,M_m5⟩,⟨f_m6,fd_m6,F_m6,M_m6⟩,⟨f_m7,fd_m7,F_m7,M_m7⟩⟩:=hW
 have D_m0:Mf K C "__init__" "Reader.__init__" (mtop 11 0) f_m0 fd_m0 ["self","text"]:=⟨F_m0,F_m0.binds (ps:=["self","text"]) fun _ _ _ _ _ _ us hl=>by obtain⟨_,_,rfl⟩:=len_2 hl;rfl,M_m0⟩
 have D_m1:Mf K C "takes" "Reader.takes" (mtop 11 1) f_m1 fd_m1 ["self","piece"]:=⟨F_m1,F_m1.binds (ps:=["self","piece"]) fun _ _ _ _ _ _ us hl=>by obtain⟨_,_,rfl⟩:=len_2 hl;rfl,M_m1⟩
 have D_m2:Mf K C "needs" "Reader.needs" (mtop 11 2) f_m2 fd_m2 ["self","piece"]:=⟨F_m2,F_m2.binds (ps:=["self","piece"]) fun _ _ _ _ _ _ us hl=>by obtain⟨_,_,rfl⟩:=len_2 hl;rfl,M_m2⟩
 have D_m3:Mf K C "at_end" "Reader.at_end" (mtop 11 4) f_m3 fd_m3 ["self"]:=⟨F_m3,F_m3.binds (ps:=["self"]) fun _ _ _ _ _ _ us hl=>by obtain⟨_,rfl⟩:=len_1 hl;rfl,M_m3⟩
 have D_m4:Mf K C "run_of" "Reader.run_of" (mtop 11 5) f_m4 fd_m4 ["self","signs"]:=⟨F_m4,F_m4.binds (ps:=["self","signs"]) fun _ _ _ _ _ _ us hl=>by obtain⟨_,_,rfl⟩:=len_2 hl;rfl,M_m4⟩
 have D_m5:Mf K C "name" "Reader.name" (mtop 11 6) f_m5 fd_m5 ["self"]:=⟨F_m5,F_m5.binds (ps:=["self"]) fun _ _ _ _ _ _ us hl=>by obtain⟨_,rfl⟩:=len_1 hl;rfl,M_m5⟩
 have D_m6:Mf K C "number" "Reader.number" (mtop 11 7) f_m6 fd_m6 ["self"]:=⟨F_m6,F_m6.binds (ps:=["self"]) fun _ _ _ _ _ _ us hl=>by obtain⟨_,rfl⟩:=len_1 hl;rfl,M_m6⟩
 have D_m7:Mf K C "parts" "Reader.parts" (mtop 11 8) f_m7 fd_m7 ["self","closing","read_part"]:=⟨F_m7,F_m7.binds (ps:=["self","closing","read_part"]) fun _ _ _ _ _ _ us hl=>by obtain⟨_,_,_,rfl⟩:=len_3 hl;rfl,M_m7⟩
 obtain⟨aT,a_T,hTK⟩:=hTk
 obtain⟨aR,es,n,t0,t1,t2,t3,aRk,lRk,kRk,r0,r1,r2,r3⟩:=rk
 obtain⟨Zed,ZbK,ZcN,Zbz⟩:=ZcM
 have e:=hfa.symm.trans (PySem.W.mg_of X G ZcN)
 cases e
 have ZcO:Df K mg "law" (top 47) fa ZbK ["script"]:=⟨Zbz,Zbz.binds (ps:=["script"]) fun _ _ _ _ _ _ us hl=>by obtain⟨_,rfl⟩:=len_1 hl;rfl,hfa⟩
 refine⟨ZbK,?_,fun base _ _=>?_⟩
 ·obtain⟨oc,od,kV,doc,pm,an,cdv,ct,osl,rfl,lk,hcd⟩:=Zbz.ex
  exact fun s v=>.of_eq rfl
 have g_cell:=ok_cell (P:=l.prog) (w:=w) (base:=base) T ZaU
 have g_deck:=ok_deck (P:=l.prog) (w:=w) (base:=base) T ZaV
 have g_next:=ok_next (P:=l.prog) (w:=w) (base:=base) T Zaa
 have g_far:=ok_far T ZaN Zaa g_next
 have g_number:=ok_number T Zak Zaa g_next ZaN g_far
 have g_name:=ok_name T Zal Zaa g_next
 have g_parts:=ok_parts (P:=l.prog) (w:=w) (base:=base) T Za2 (PySem.W.mg_of X G aRk) (PySem.W.mg_of X G c5) (PySem.W.mg_of X G c6) (ix_ranks lRk kRk r0 r1 r2 r3)
 have g_unf:=ok_unf T ZaO Za2 g_parts
 have g_key:=ok_key T ZaQ Za2 ZaO g_unf
 have g_of:=ok_bagOf T ZaF ZaQ g_key
 have g_count:=ok_count T Zaq Zaa g_next Zak g_number
 have g_value:=value_all T Zag Zaa g_next Zal g_name Zak g_number Zaq g_count Zar Zas Zaj ZaA 6 (by decide)
 have g_whole:=ok_whole (P:=l.prog) (w:=w) (base:=base) T Zau
 have g_like:=like_all T Zae Zau g_whole 23
 have g_text:=text_all (P:=l.prog) (w:=w) (base:=base) T Zad 8
 have g_mixed:=ok_mixed T Zam Zaa g_next
 have g_split:=ok_split T Zay Zaa g_next
 have g_loose:=loose_all T Zai Zad g_text Zam g_mixed Zay g_split 6
 have g_only:=ok_only (P:=l.prog) (w:=w) (base:=base) T Zap
 have g_isn:=ok_isName T (PySem.W.mg_of X G c1) (PySem.W.mg_of X G c2) (PySem.W.mg_of X G a_T) hTK ZaR Zap g_only
 have g_nof:=ok_numberOf T (PySem.W.mg_of X G c3) ZaS Zap g_only
 have g_init:=ok_init (P:=l.prog) (w:=w) (mg:=mg) (base:=base) T cC nC D_m0
 have g_takes:=ok_takes (P:=l.prog) (w:=w) (mg:=mg) (base:=base) T cC nC D_m1
 have g_needs:=ok_needs T cC D_m2 D_m1 g_takes
 have g_end:=ok_atEnd (P:=l.prog) (w:=w) (mg:=mg) (base:=base) T cC nC D_m3
 have g_run:=ok_run T cC nC D_m4 D_m3 g_end
 have g_nm:=ok_nm T (PySem.W.mg_of X G c2) cC D_m5 D_m4 g_run ZaR g_isn
 have g_nb:=ok_numb T (PySem.W.mg_of X G c3) cC D_m6 D_m4 g_run ZaS g_nof
 have g_ct:=ok_ct T cC ZaC D_m1 g_takes D_m6 g_nb
 have g_rv:=rv_all hT T LM1 LM2 cC (PySem.W.mg_of X G c4) Zah ec1 ZaE ec2 Zav Zaw ZaC g_ct D_m1 g_takes D_m5 g_nm D_m6 g_nb D_m7 D_m2 g_needs ZaF g_of 9
 have ZcP:=ok_read T cC ⟨mkC,M_m0.at_,M_m0.fn,kpC⟩ (PySem.W.mg_of X G aC) Zao D_m0 g_init D_m3 g_end Zah g_rv
 exact ok_law T ZcO ZaU g_cell ZaV g_deck Zag g_value Zai g_loose Zad g_text Zam g_mixed Zae g_like Zao ZcP
theorem walk {l:PySem.W.OpenLaw}{q:Program}{loose:List Str}{XP:(Str->Option Value)->Heap->Prop}{YP:World->Heap->Prop}{d:DefRec}{K:Params->PySem.W.Frag}{T1 T2:Addr} (hn:l.most=some 63) (hdf:d.params.defaults=[])
  (hY:∀ (w:World) (h:Heap),YP w h->(K w.params).In h/\∀ P∈[T1,T2],h.get? P=some (PySem.W.tabObj #[]))
  (hKT:∀ (w:World),∀ P∈[T1,T2],(K w.params).lookup P=none/\∃ c,PySem.W.codeHdIn (K w.params) c P=true)
  (F:∀ (w:World) (mg:Str->Option Value) (fa:Addr) (h:Heap),(K w.params).In h->h.Ns mainGlobals mg->mg d.name=some (.ref fa) ->
   ∃ fd:FuncData,(∀ (s:Shared) (u:Value),BindsTo s fd ⟨[u],[]⟩ [("script",u)])/\∀ base:Heap,(K w.params).In base->base.Ns mainGlobals mg->FnOk l.prog w (K w.params) mg base CX0 56 fa fd ["script"] (spLaw (K w.params) T1 T2)) :
  PySem.W.WalkO q loose XP YP l.row.toRowW d [] (fun f vs=>PySem.call f vs):=
 L2.walk_ofT (n:=63) (k:=56) (x:="script") (ts:=[T1,T2]) (CX:=fun _=>CX0) (sp:=fun w=>spLaw (K w.params) T1 T2) hn (by decide) hdf ⟨rfl,by decide,by decide⟩ hY hKT F (fun _ _ a ns hl hO hS=>⟨a,ns,rfl,hS,hl,⟨.inl (hO.1 T1 List.mem_cons_self),.inl (hO.1 T2 (List.mem_cons_of_mem _ List.mem_cons_self))⟩,fun _=>rfl⟩) fun _ _ _ _ _ z=>z
end K05
open PySem PySem.W PyProof.Rows
set_option maxRecDepth 100000 in
set_option maxHeartbeats 0 in
theorem PySem.Challenge.cw_keptnest_k05_read_in_any_order_holds : PySem.Challenge.rw_keptnest_k05_read_in_any_order.Holds := by
 w_on
 refine PySem.W.holds_law K05.zS fun said=>?_
 refine PySem.W.holds_open (q:=K05.zV) (loose:=K05.zL) (Xt:=fun s=>PySem.W.xlAt K05.zV [] s && PySem.W.recOk (PySem.W.RowW.records (PySem.W.OpenRow.toRowW PySem.Challenge.rw_keptnest_k05_read_in_any_order.row)) s) (XP:=PySem.W.XL K05.zV []) (Yf:=PySem.W.Hook.obs (PySem.W.kmHook K05.zK K05.zA K05.zE K05.zTs)) (Ya:=PySem.W.Hook.val (PySem.W.kmHook K05.zK K05.zA K05.zE K05.zTs)) (YP:=PySem.W.Hook.says (PySem.W.kmHook K05.zK K05.zA K05.zE K05.zTs)) (N:=4212) (Hq.left_two "special-get-raises" K05.zR_false K05.zR_true) (PySem.W.Hook.of _) (PySem.W.Hook.keeps _) (fun s e=>PySem.W.xl_of s (Bool.and_eq_true_iff.mp e).1) PySem.W.XL.keeps (by rfl) (by rfl) (by rfl) (fun s e=>PySem.W.recFacts_of (Bool.and_eq_true_iff.mp e).2) (by rfl) (by first | assumption | decide +kernel) (by decide +kernel) ⟨rfl,rfl,rfl,rfl,rfl,by decide +kernel⟩ ?hw ?hc
 case hw=>w_witness2
 k_fill
 refine K05.walk (l:=PySem.Challenge.rw_keptnest_k05_read_in_any_order) (T1:=172) (T2:=179) rfl rfl (fun w h Y=>⟨PySem.W.km_in_of Y,PySem.W.km_tabs_of Y⟩) ?KT ?F
 case KT=>
  intro w P hP
  simp only[List.mem_cons,List.not_mem_nil,or_false]at hP
  rcases hP with rfl | rfl
  ·exact⟨by kernel_rfl,176,by kernel_rfl⟩
  ·exact⟨by kernel_rfl,181,by kernel_rfl⟩
 case F=>
  intro w mg fa h KX G hmg
  refine' K05.all_mk KX G hmg (by decide) (by decide) (by decide) ?_ ?_ ?_ ?_ ?_ ?_ ?_ ?_ ?_ ?_ ?_ ?_ ?_ ?_ ?_ ?_ ?_ ?_ ?_ ?_ ?_ ?_ ?_ ?_ ?_ ?_ ?_ ?_ ?_ ?_ ?hI1 ?hI2 ?hB1 ?hB2 ?hW ?hTk ?rk ?c1 ?c2 ?c3 ?c4 ?c5 ?c6 ?z1 ?z2 ?z3 ?z4 ?z5 ?z6 ?z7 ?z8 ?z9 ?z10 ?z11 ?z12
  (case c1=>k_is);(case c2=>k_is);(case c3=>k_is);(case c4=>k_is);(case c5=>k_is);(case c6=>k_is)
  iterate 30 (focus (refine' K05.defAt_mk ?_ ?_ ?_ ?_;any_goals k_is))
  case hI1=>refine' K05.mkAt_mk ?a ?l ?c ?k ?d;(case a=>k_is);(case l=>k_is);(case c=>k_is);(case k=>k_is);(case d=>kernel_rfl)
  case hI2=>refine' K05.mkAt_mk ?a ?l ?c ?k ?d;(case a=>k_is);(case l=>k_is);(case c=>k_is);(case k=>k_is);(case d=>kernel_rfl)
  case hB1=>refine' K05.blt_mk ?a ?l ?h1 ?h2 ?h3 ?h4 ?h5 ?h6;(case a=>k_is);(case l=>k_is);(case h1=>decide);(case h2=>decide);(case h3=>decide);(case h4=>rfl);(case h5=>rfl);(case h6=>rfl)
  case hB2=>refine' K05.blt_mk ?a ?l ?h1 ?h2 ?h3 ?h4 ?h5 ?h6;(case a=>k_is);(case l=>k_is);(case h1=>decide);(case h2=>decide);(case h3=>decide);(case h4=>rfl);(case h5=>rfl);(case h6=>rfl)
  case hW=>
   refine' K05.reader_mk ?a ?c1 ?c2 ?c3 ?c4 ?n1 ?n2 ?mk ?kp ?m0 ?m1 ?m2 ?m3 ?m4 ?m5 ?m6 ?m7
   (case a=>k_is);(case c1=>k_is);(case c2=>k_is);(case c3=>k_is);(case c4=>k_is);(case n1=>k_is);(case n2=>k_is);(case mk=>k_is);(case kp=>k_is)
   case m0=>refine' K05.methAt_mk ?a ?l ?c ?k ?n;(case a=>k_is);(case l=>k_is);(case c=>k_is);(case k=>k_is);(case n=>k_is)
   case m1=>refine' K05.methAt_mk ?a ?l ?c ?k ?n;(case a=>k_is);(case l=>k_is);(case c=>k_is);(case k=>k_is);(case n=>k_is)
   case m2=>refine' K05.methAt_mk ?a ?l ?c ?k ?n;(case a=>k_is);(case l=>k_is);(case c=>k_is);(case k=>k_is);(case n=>k_is)
   case m3=>refine' K05.methAt_mk ?a ?l ?c ?k ?n;(case a=>k_is);(case l=>k_is);(case c=>k_is);(case k=>k_is);(case n=>k_is)
   case m4=>refine' K05.methAt_mk ?a ?l ?c ?k ?n;(case a=>k_is);(case l=>k_is);(case c=>k_is);(case k=>k_is);(case n=>k_is)
   case m5=>refine' K05.methAt_mk ?a ?l ?c ?k ?n;(case a=>k_is);(case l=>k_is);(case c=>k_is);(case k=>k_is);(case n=>k_is)
   case m6=>refine' K05.methAt_mk ?a ?l ?c ?k ?n;(case a=>k_is);(case l=>k_is);(case c=>k_is);(case k=>k_is);(case n=>k_is)
   case m7=>refine' K05.methAt_mk ?a ?l ?c ?k ?n;(case a=>k_is);(case l=>k_is);(case c=>k_is);(case k=>k_is);(case n=>k_is)
  case hTk=>
   refine' K05.taken_mk ?a ?l ?z ?v
   (case a=>k_is);(case l=>k_is)
   case z=>show 21<=sizeLine;decide
   case v=>exact .cons ⟨_,rfl⟩ (.cons ⟨_,rfl⟩ (.cons ⟨_,rfl⟩ (.cons ⟨_,rfl⟩ (.cons ⟨_,rfl⟩ (.cons ⟨_,rfl⟩ (.cons ⟨_,rfl⟩ (.cons ⟨_,rfl⟩ (.cons ⟨_,rfl⟩ (.cons ⟨_,rfl⟩ (.cons ⟨_,rfl⟩ (.cons ⟨_,rfl⟩ (.cons ⟨_,rfl⟩ (.cons ⟨_,rfl⟩ (.cons ⟨_,rfl⟩ (.cons ⟨_,rfl⟩ (.cons ⟨_,rfl⟩ (.cons ⟨_,rfl⟩ (.cons ⟨_,rfl⟩ (.cons ⟨_,rfl⟩ (.cons ⟨_,rfl⟩ .nil))))))))))))))))))))
  case rk=>refine' K05.ranks_mk ?a ?l ?k ?r0 ?r1 ?r2 ?r3;(case a=>k_is);(case l=>k_is);(case k=>k_keys);(case r0=>k_is);(case r1=>k_is);(case r2=>k_is);(case r3=>k_is)
  (case z1=>k_is);(case z2=>k_is);(case z3=>k_is);(case z4=>k_is);(case z5=>k_is);(case z6=>k_is);(case z7=>k_is);(case z8=>k_is);(case z9=>k_is);(case z10=>k_is);(case z11=>k_is);(case z12=>k_is)
#print axioms PySem.Challenge.cw_keptnest_k05_read_in_any_order_holds
end
