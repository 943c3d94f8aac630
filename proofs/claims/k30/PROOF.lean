import PyProof.Rows.All
import Wide.All
import OpenK.AllK
import Wide.FinOn
import PySem.Challenge.RW_keptnest_k30_even_and_degree
import Lean
import PyProof.EqAt
import PyProof.EqKinds
import PyProof.TupleCall
import PyProof.DictWalks
import PyProof.DictKeyH
import PySem.Str
import PyProof.NeKinds
import KE.KRevSl
import KE.KDictSum
import PyProof.Rows.SortStr
import PyProof.IsiPairs
import PyProof.IsiHeapPairs
import PyProof.ZipIter
import KE.KSortAsk
import KE.KSortTup
import PyProof.EnumFor
import PyProof.EnumMake
import PyProof.StrWalks
import PyProof.Rows.EnumRows
import PyProof.Rows.FStr
import PyProof.Rows.SetFrom
import PyProof.CallStr
import PyProof.FitsBits
import KE.KUnpack
import KE.KTupSum
import KE.KDictOf
import KE.KEqDict
import PyProof.AttrMissHeap
import KE.KItemsList
import KE.KPairComp
import PyProof.Draws
import PyProof.ListRange
import KE.KRevIter
import KE.KNestM
import KE.KLam
import KE.KNest
import PyProof.SeqI3
set_option Elab.async false
set_option linter.all false
set_option maxRecDepth 100000
set_option maxHeartbeats 4000000
section
namespace Hq
open PySem PySem.W
def vS (s:PySem.Str) (n:Tok):Value:=.str s n
def vI (i:Int) (n:Tok):Value:=.int i n
def vR (a:Addr):Value:=.ref a
def vN:Value:=.none
def sO (s:String):PySem.Str:=PySem.Str.ofString s
def eN (P:Params) (k:PySem.Str) (n:Tok) (v:Value):DictEntry:=⟨PyData.keyHash P k,.str k n,v⟩
def dA (s:Stmt):Arguments:=match s with
 | .FunctionDef _ a _ _ _ _ _ _ _ _=>a
 | _=>{ posonlyargs:=[],args:=[],vararg:=none,kwonlyargs:=[],kw_defaults:=[],kwarg:=none,defaults:=[] }
def dB (s:Stmt):List Stmt:=match s with
 | .FunctionDef _ _ b _ _ _ _ _ _ _=>b
 | _=>[]
def dS (s:Stmt):Scope:=match s with
 | .FunctionDef _ _ _ _ _ _ sc _ _ _=>sc
 | _=>{ kind:=.function,names:=[],isGenerator:=false,isCoroutine:=false }
def cB (s:Stmt):List Stmt:=match s with
 | .ClassDef _ _ _ b _ _ _ _ _ _ _=>b
 | _=>[]
def fO (nm qual:PySem.Str) (st:Stmt) (m cd:Value):Obj:={ cls:=.type "function",data:=.func (PySem.W.fnOf nm qual (dA st) (dB st) (dS st) .none .none .none m none cd .none) }
def RunTo (p q:Program) (loose:List PySem.Str) (Xt:Shared->Bool) {α:Type} (Yf:Shared->α) (Ya:World->α) (N:Nat) (row:String) (b:Bool):Prop:=
 ∀ w:World,(fencedOpening treeTable p w N).map (fun s₀=>(topFrom treeTable p (w.withFollow row b) N s₀).map fun s=>(openSeen q loose (importedModules p.main.body) Xt true s,Yf s))=some (some (openGood q loose,Ya (w.withFollow row b)))
theorem left_two {p q:Program}{loose:List PySem.Str}{Xt:Shared->Bool} {α:Type} {Yf:Shared->α}{Ya:World->α}{N:Nat} (row:String) (h0:RunTo p q loose Xt Yf Ya N row false) (h1:RunTo p q loose Xt Yf Ya N row true):LeftO p q loose Xt Yf Ya N:=fun w=>by
 obtain⟨s₀,a,b1⟩:=Option.map_eq_some_iff.mp (h0 w)
 obtain⟨s₁,a',b2⟩:=Option.map_eq_some_iff.mp (h1 w)
 rw[a]at a'
 cases a'
 have e:=World.withFollow_self w row
 unfold openEnds
 rw[a]
 cases hb:w.params.followText row <;> rw[hb]at e
 ·rw[e]at b1;exact b1
 ·rw[e]at b2;exact b2
end Hq
end
section
set_option maxHeartbeats 0
namespace K30
open PySem Hq
def zT (i:Nat):Stmt:=PySem.Challenge.pw_keptnest_k30_even_and_degree.main.body.getD i (.Pass ⟨0,0,0,0⟩)
def zM (i j:Nat):Stmt:=(cB (zT i)).getD j (.Pass ⟨0,0,0,0⟩)
def zK (P:Params):PySem.W.Frag:=(nat_lit 3,{ cls:=PySem.Value.type "dict",data:=PySem.Data.dict #[eN P "__name__" 165 (vS "law_keptnest_k30_even_and_degree" 332),eN P "__doc__" 166 (vN),eN P "__package__" 167 (vN),eN P "__loader__" 168 (PySem.Value.builtin "__main__.__loader__#opaque"),eN P "__spec__" 169 (vN),eN P "__annotations__" 170 (vR 6),eN P "__builtins__" 171 (vR 4),eN P "__file__" 173 (vS "/claim/cut.py" 172),eN P "__cached__" 174 (vN),eN P "HAVE_MORE" 198 (vR 15),eN P "under" 204 (vR 20),eN P "knots" 214 (vR 27),eN P "tables" 220 (vR 32),eN P "Walk" 285 (vR 75),eN P "folded" 294 (vR 86),eN P "unfold" 304 (vR 93),eN P "fold" 313 (vR 100),eN P "is_even" 321 (vR 105),eN P "degree" 331 (vR 112),eN P "_law_cell_at" 341 (vR 119),eN P "_law_seed" 349 (vR 126),eN P "_law_draw" 359 (vR 133),eN P "_law_key" 365 (vR 138),eN P "_law_bag" 371 (vR 143),eN P "_law_add" 382 (vR 150),eN P "_law_truth" 394 (vR 157),eN P "_law_bound" 408 (vR 164),eN P "_law_answer" 414 (vR 169),eN P "_law_value" 420 (vR 174),eN P "_law_kinds" 428 (vR 181),eN P "_law_store" 438 (vR 188),eN P "_law_seen" 448 (vR 195),eN P "_law_held" 454 (vR 200),eN P "_law_small" 460 (vR 205),eN P "_law_claim" 473 (vR 212),eN P "_law_over" 479 (vR 217),eN P "_law_taken" 485 (vR 222),eN P "_law_asked" 491 (vR 227),eN P "_law_change" 503 (vR 234),eN P "_law_with" 514 (vR 241),eN P "_law_under" 525 (vR 248),eN P "_law_stock" 535 (vR 255),eN P "_law_names" 545 (vR 262),eN P "_law_question" 554 (vR 269),eN P "_law_has" 560 (vR 274),eN P "_law_even" 566 (vR 279),eN P "_law_degree" 575 (vR 286),eN P "law" 588 (vR 293)] 48 }) ::
 (nat_lit 4,{ cls:=PySem.Value.type "module",data:=PySem.Data.plain,dict:=some 0 }) ::
 (nat_lit 15,{ cls:=PySem.Value.type "tuple",data:=PySem.Data.seq #[vS "num" 189,vS "word" 190,vS "var" 191,vS "table" 192,vS "none" 193,vS "at" 194,vS "times" 195,vS "for" 196,vS "let" 197] }) ::
 (nat_lit 19,{ cls:=PySem.Value.type "code",data:=PySem.Data.fields #[vS "under" 199,vS "under" 200,vS "/claim/cut.py" 201,vI 3 0,vI 1 0,vI 0 0,vI 0 0,vI 3 0,vR 16,PySem.Value.bool Bool.true,vI 181 0,vR 17,vN,vN,vN,vR 18,vI 202 0,vI 3 0,vS "/claim/cut.py" 203] }) ::
 (nat_lit 20,fO "under" "under" (zT 2) (vS "keptnest.asks.questions" 187) (vR 19)) ::
 (nat_lit 26,{ cls:=PySem.Value.type "code",data:=PySem.Data.fields #[vS "knots" 205,vS "knots" 206,vS "/claim/cut.py" 207,vI 7 0,vI 1 0,vI 0 0,vI 0 0,vI 3 0,vR 21,PySem.Value.bool Bool.true,vI 181 0,vR 22,vN,vR 23,vR 24,vR 25,vI 212 0,vI 7 0,vS "/claim/cut.py" 213] }) ::
 (nat_lit 27,fO "knots" "knots" (zT 3) (vS "keptnest.asks.questions" 187) (vR 26)) ::
 (nat_lit 31,{ cls:=PySem.Value.type "code",data:=PySem.Data.fields #[vS "tables" 215,vS "tables" 216,vS "/claim/cut.py" 217,vI 15 0,vI 1 0,vI 0 0,vI 0 0,vI 3 0,vR 28,PySem.Value.bool Bool.true,vI 181 0,vR 29,vN,vN,vN,vR 30,vI 218 0,vI 15 0,vS "/claim/cut.py" 219] }) ::
 (nat_lit 32,fO "tables" "tables" (zT 4) (vS "keptnest.asks.questions" 187) (vR 31)) ::
 (nat_lit 45,{ cls:=PySem.Value.type "code",data:=PySem.Data.fields #[vS "__init__" 235,vS "Walk.__init__" 236,vS "/claim/cut.py" 237,vI 20 0,vI 1 0,vI 0 0,vI 0 0,vI 3 0,vR 40,PySem.Value.bool Bool.true,vI 181 0,vR 41,vN,vR 42,vR 43,vR 44,vI 239 0,vI 20 0,vS "/claim/cut.py" 240] }) ::
 (nat_lit 46,fO "__init__" "Walk.__init__" (zM 6 0) (vS "keptnest.asks.walks" 221) (vR 45)) ::
 (nat_lit 52,{ cls:=PySem.Value.type "code",data:=PySem.Data.fields #[vS "later" 242,vS "Walk.later" 243,vS "/claim/cut.py" 244,vI 24 0,vI 4 0,vI 0 0,vI 0 0,vI 3 0,vR 47,PySem.Value.bool Bool.true,vI 181 0,vR 48,vN,vR 49,vR 50,vR 51,vI 249 0,vI 24 0,vS "/claim/cut.py" 250] }) ::
 (nat_lit 53,fO "later" "Walk.later" (zM 6 1) (vS "keptnest.asks.walks" 221) (vR 52)) ::
 (nat_lit 59,{ cls:=PySem.Value.type "code",data:=PySem.Data.fields #[vS "tell" 252,vS "Walk.tell" 253,vS "/claim/cut.py" 254,vI 27 0,vI 2 0,vI 0 0,vI 0 0,vI 3 0,vR 54,PySem.Value.bool Bool.true,vI 181 0,vR 55,vN,vR 56,vR 57,vR 58,vI 257 0,vI 27 0,vS "/claim/cut.py" 258] }) ::
 (nat_lit 60,fO "tell" "Walk.tell" (zM 6 2) (vS "keptnest.asks.walks" 221) (vR 59)) ::
 (nat_lit 64,{ cls:=PySem.Value.type "code",data:=PySem.Data.fields #[vS "take" 260,vS "Walk.take" 261,vS "/claim/cut.py" 262,vI 30 0,vI 2 0,vI 0 0,vI 0 0,vI 3 0,vR 61,PySem.Value.bool Bool.true,vI 181 0,vR 62,vN,vN,vN,vR 63,vI 263 0,vI 30 0,vS "/claim/cut.py" 264] }) ::
 (nat_lit 65,fO "take" "Walk.take" (zM 6 3) (vS "keptnest.asks.walks" 221) (vR 64)) ::
 (nat_lit 71,{ cls:=PySem.Value.type "code",data:=PySem.Data.fields #[vS "run" 266,vS "Walk.run" 267,vS "/claim/cut.py" 268,vI 34 0,vI 1 0,vI 0 0,vI 0 0,vI 3 0,vR 66,PySem.Value.bool Bool.true,vI 181 0,vR 67,vN,vR 68,vR 69,vR 70,vI 273 0,vI 34 0,vS "/claim/cut.py" 274] }) ::
 (nat_lit 72,fO "run" "Walk.run" (zM 6 4) (vS "keptnest.asks.walks" 221) (vR 71)) ::
 (nat_lit 74,{ cls:=PySem.Value.type "dict",data:=PySem.Data.dict #[eN P "__module__" 230 (vS "keptnest.asks.walks" 221),eN P "__firstlineno__" 234 (vI 18 233),eN P "__init__" 241 (vR 46),eN P "later" 251 (vR 53),eN P "tell" 259 (vR 60),eN P "take" 265 (vR 65),eN P "run" 275 (vR 72),eN P "__static_attributes__" 278 (vR 73),eN P "__dict__" 280 (vR 76),eN P "__weakref__" 282 (vR 77),eN P "__doc__" 283 (vN)] 4 }) ::
 (nat_lit 75,{ cls:=PySem.Value.type "type",data:=PySem.Data.cls { name:=sO "Walk",bases:=[PySem.Value.type "object"],mro:=[vR 75,PySem.Value.type "object"],ns:=74,qualname:=sO "Walk" },slots:=#[Option.none,Option.none,Option.some (vS "Walk" 223),Option.some (vS "Walk" 231),Option.some (PySem.Value.builtin "object.__new__"),Option.some (PySem.Value.bool Bool.true)] }) ::
 (nat_lit 85,{ cls:=PySem.Value.type "code",data:=PySem.Data.fields #[vS "folded" 286,vS "folded" 287,vS "/claim/cut.py" 288,vI 39 0,vI 2 0,vI 0 0,vI 0 0,vI 3 0,vR 80,PySem.Value.bool Bool.true,vI 181 0,vR 81,vN,vR 82,vR 83,vR 84,vI 292 0,vI 39 0,vS "/claim/cut.py" 293] }) ::
 (nat_lit 86,fO "folded" "folded" (zT 7) (vS "keptnest.asks.walks" 221) (vR 85)) ::
 (nat_lit 92,{ cls:=PySem.Value.type "code",data:=PySem.Data.fields #[vS "unfold" 295,vS "unfold" 296,vS "/claim/cut.py" 297,vI 43 0,vI 3 0,vI 0 0,vI 0 0,vI 3 0,vR 87,PySem.Value.bool Bool.true,vI 181 0,vR 88,vN,vR 89,vR 90,vR 91,vI 302 0,vI 43 0,vS "/claim/cut.py" 303] }) ::
 (nat_lit 93,fO "unfold" "unfold" (zT 8) (vS "keptnest.asks.walks" 221) (vR 92)) ::
 (nat_lit 99,{ cls:=PySem.Value.type "code",data:=PySem.Data.fields #[vS "fold" 305,vS "fold" 306,vS "/claim/cut.py" 307,vI 47 0,vI 3 0,vI 0 0,vI 0 0,vI 3 0,vR 94,PySem.Value.bool Bool.true,vI 181 0,vR 95,vN,vR 96,vR 97,vR 98,vI 311 0,vI 47 0,vS "/claim/cut.py" 312] }) ::
 (nat_lit 100,fO "fold" "fold" (zT 9) (vS "keptnest.asks.walks" 221) (vR 99)) ::
 (nat_lit 104,{ cls:=PySem.Value.type "code",data:=PySem.Data.fields #[vS "is_even" 316,vS "is_even" 317,vS "/claim/cut.py" 318,vI 50 0,vI 1 0,vI 0 0,vI 0 0,vI 3 0,vR 101,PySem.Value.bool Bool.true,vI 181 0,vR 102,vN,vN,vN,vR 103,vI 319 0,vI 50 0,vS "/claim/cut.py" 320] }) ::
 (nat_lit 105,fO "is_even" "is_even" (zT 11) (vS "keptnest.changes.degrees" 314) (vR 104)) ::
 (nat_lit 111,{ cls:=PySem.Value.type "code",data:=PySem.Data.fields #[vS "degree" 322,vS "degree" 323,vS "/claim/cut.py" 324,vI 53 0,vI 2 0,vI 0 0,vI 0 0,vI 3 0,vR 106,PySem.Value.bool Bool.true,vI 181 0,vR 107,vN,vR 108,vR 109,vR 110,vI 329 0,vI 53 0,vS "/claim/cut.py" 330] }) ::
 (nat_lit 112,fO "degree" "degree" (zT 12) (vS "keptnest.changes.degrees" 314) (vR 111)) ::
 (nat_lit 125,{ cls:=PySem.Value.type "code",data:=PySem.Data.fields #[vS "_law_seed" 342,vS "_law_seed" 343,vS "/claim/cut.py" 344,vI 72 0,vI 1 0,vI 0 0,vI 0 0,vI 3 0,vR 120,PySem.Value.bool Bool.true,vI 181 0,vR 121,vN,vR 122,vR 123,vR 124,vI 347 0,vI 72 0,vS "/claim/cut.py" 348] }) ::
 (nat_lit 126,fO "_law_seed" "_law_seed" (zT 15) (vS "law_keptnest_k30_even_and_degree" 332) (vR 125)) ::
 (nat_lit 132,{ cls:=PySem.Value.type "code",data:=PySem.Data.fields #[vS "_law_draw" 350,vS "_law_draw" 351,vS "/claim/cut.py" 352,vI 75 0,vI 2 0,vI 0 0,vI 0 0,vI 3 0,vR 127,PySem.Value.bool Bool.true,vI 181 0,vR 128,vN,vR 129,vR 130,vR 131,vI 357 0,vI 75 0,vS "/claim/cut.py" 358] }) ::
 (nat_lit 133,fO "_law_draw" "_law_draw" (zT 16) (vS "law_keptnest_k30_even_and_degree" 332) (vR 132)) ::
 (nat_lit 137,{ cls:=PySem.Value.type "code",data:=PySem.Data.fields #[vS "_law_key" 360,vS "_law_key" 361,vS "/claim/cut.py" 362,vI 84 0,vI 1 0,vI 0 0,vI 0 0,vI 3 0,vR 134,PySem.Value.bool Bool.true,vI 181 0,vR 135,vN,vN,vN,vR 136,vI 363 0,vI 84 0,vS "/claim/cut.py" 364] }) ::
 (nat_lit 138,fO "_law_key" "_law_key" (zT 17) (vS "law_keptnest_k30_even_and_degree" 332) (vR 137)) ::
 (nat_lit 142,{ cls:=PySem.Value.type "code",data:=PySem.Data.fields #[vS "_law_bag" 366,vS "_law_bag" 367,vS "/claim/cut.py" 368,vI 90 0,vI 1 0,vI 0 0,vI 0 0,vI 3 0,vR 139,PySem.Value.bool Bool.true,vI 181 0,vR 140,vN,vN,vN,vR 141,vI 369 0,vI 90 0,vS "/claim/cut.py" 370] }) ::
 (nat_lit 143,fO "_law_bag" "_law_bag" (zT 18) (vS "law_keptnest_k30_even_and_degree" 332) (vR 142)) ::
 (nat_lit 173,{ cls:=PySem.Value.type "code",data:=PySem.Data.fields #[vS "_law_value" 415,vS "_law_value" 416,vS "/claim/cut.py" 417,vI 153 0,vI 3 0,vI 0 0,vI 0 0,vI 3 0,vR 170,PySem.Value.bool Bool.true,vI 181 0,vR 171,vN,vN,vN,vR 172,vI 418 0,vI 153 0,vS "/claim/cut.py" 419] }) ::
 (nat_lit 174,fO "_law_value" "_law_value" (zT 23) (vS "law_keptnest_k30_even_and_degree" 332) (vR 173)) ::
 (nat_lit 180,{ cls:=PySem.Value.type "code",data:=PySem.Data.fields #[vS "_law_kinds" 421,vS "_law_kinds" 422,vS "/claim/cut.py" 423,vI 166 0,vI 0 0,vI 0 0,vI 0 0,vI 3 0,vR 175,PySem.Value.bool Bool.true,vI 181 0,vR 176,vN,vR 177,vR 178,vR 179,vI 426 0,vI 166 0,vS "/claim/cut.py" 427] }) ::
 (nat_lit 181,fO "_law_kinds" "_law_kinds" (zT 24) (vS "law_keptnest_k30_even_and_degree" 332) (vR 180)) ::
 (nat_lit 194,{ cls:=PySem.Value.type "code",data:=PySem.Data.fields #[vS "_law_seen" 439,vS "_law_seen" 440,vS "/claim/cut.py" 441,vI 176 0,vI 1 0,vI 0 0,vI 0 0,vI 3 0,vR 189,PySem.Value.bool Bool.true,vI 181 0,vR 190,vN,vR 191,vR 192,vR 193,vI 446 0,vI 176 0,vS "/claim/cut.py" 447] }) ::
 (nat_lit 195,fO "_law_seen" "_law_seen" (zT 26) (vS "law_keptnest_k30_even_and_degree" 332) (vR 194)) ::
 (nat_lit 199,{ cls:=PySem.Value.type "code",data:=PySem.Data.fields #[vS "_law_held" 449,vS "_law_held" 450,vS "/claim/cut.py" 451,vI 182 0,vI 2 0,vI 0 0,vI 0 0,vI 3 0,vR 196,PySem.Value.bool Bool.true,vI 181 0,vR 197,vN,vN,vN,vR 198,vI 452 0,vI 182 0,vS "/claim/cut.py" 453] }) ::
 (nat_lit 200,fO "_law_held" "_law_held" (zT 27) (vS "law_keptnest_k30_even_and_degree" 332) (vR 199)) ::
 (nat_lit 204,{ cls:=PySem.Value.type "code",data:=PySem.Data.fields #[vS "_law_small" 455,vS "_law_small" 456,vS "/claim/cut.py" 457,vI 190 0,vI 4 0,vI 0 0,vI 0 0,vI 3 0,vR 201,PySem.Value.bool Bool.true,vI 181 0,vR 202,vN,vN,vN,vR 203,vI 458 0,vI 190 0,vS "/claim/cut.py" 459] }) ::
 (nat_lit 205,fO "_law_small" "_law_small" (zT 28) (vS "law_keptnest_k30_even_and_degree" 332) (vR 204)) ::
 (nat_lit 211,{ cls:=PySem.Value.type "code",data:=PySem.Data.fields #[vS "_law_claim" 461,vS "_law_claim" 462,vS "/claim/cut.py" 463,vI 202 0,vI 3 0,vI 0 0,vI 0 0,vI 3 0,vR 206,PySem.Value.bool Bool.true,vI 181 0,vR 207,vN,vR 208,vR 209,vR 210,vI 471 0,vI 202 0,vS "/claim/cut.py" 472] }) ::
 (nat_lit 212,fO "_law_claim" "_law_claim" (zT 29) (vS "law_keptnest_k30_even_and_degree" 332) (vR 211)) ::
 (nat_lit 216,{ cls:=PySem.Value.type "code",data:=PySem.Data.fields #[vS "_law_over" 474,vS "_law_over" 475,vS "/claim/cut.py" 476,vI 215 0,vI 3 0,vI 0 0,vI 0 0,vI 3 0,vR 213,PySem.Value.bool Bool.true,vI 181 0,vR 214,vN,vN,vN,vR 215,vI 477 0,vI 215 0,vS "/claim/cut.py" 478] }) ::
 (nat_lit 217,fO "_law_over" "_law_over" (zT 30) (vS "law_keptnest_k30_even_and_degree" 332) (vR 216)) ::
 (nat_lit 221,{ cls:=PySem.Value.type "code",data:=PySem.Data.fields #[vS "_law_taken" 480,vS "_law_taken" 481,vS "/claim/cut.py" 482,vI 228 0,vI 4 0,vI 0 0,vI 0 0,vI 3 0,vR 218,PySem.Value.bool Bool.true,vI 181 0,vR 219,vN,vN,vN,vR 220,vI 483 0,vI 228 0,vS "/claim/cut.py" 484] }) ::
 (nat_lit 222,fO "_law_taken" "_law_taken" (zT 31) (vS "law_keptnest_k30_even_and_degree" 332) (vR 221)) ::
 (nat_lit 226,{ cls:=PySem.Value.type "code",data:=PySem.Data.fields #[vS "_law_asked" 486,vS "_law_asked" 487,vS "/claim/cut.py" 488,vI 234 0,vI 4 0,vI 0 0,vI 0 0,vI 3 0,vR 223,PySem.Value.bool Bool.true,vI 181 0,vR 224,vN,vN,vN,vR 225,vI 489 0,vI 234 0,vS "/claim/cut.py" 490] }) ::
 (nat_lit 227,fO "_law_asked" "_law_asked" (zT 32) (vS "law_keptnest_k30_even_and_degree" 332) (vR 226)) ::
 (nat_lit 261,{ cls:=PySem.Value.type "code",data:=PySem.Data.fields #[vS "_law_names" 536,vS "_law_names" 537,vS "/claim/cut.py" 538,vI 293 0,vI 2 0,vI 0 0,vI 0 0,vI 3 0,vR 256,PySem.Value.bool Bool.true,vI 181 0,vR 257,vN,vR 258,vR 259,vR 260,vI 543 0,vI 293 0,vS "/claim/cut.py" 544] }) ::
 (nat_lit 262,fO "_law_names" "_law_names" (zT 37) (vS "law_keptnest_k30_even_and_degree" 332) (vR 261)) ::
 (nat_lit 268,{ cls:=PySem.Value.type "code",data:=PySem.Data.fields #[vS "_law_question" 546,vS "_law_question" 547,vS "/claim/cut.py" 548,vI 299 0,vI 1 0,vI 0 0,vI 0 0,vI 3 0,vR 263,PySem.Value.bool Bool.true,vI 181 0,vR 264,vN,vR 265,vR 266,vR 267,vI 552 0,vI 299 0,vS "/claim/cut.py" 553] }) ::
 (nat_lit 269,fO "_law_question" "_law_question" (zT 38) (vS "law_keptnest_k30_even_and_degree" 332) (vR 268)) ::
 (nat_lit 273,{ cls:=PySem.Value.type "code",data:=PySem.Data.fields #[vS "_law_has" 555,vS "_law_has" 556,vS "/claim/cut.py" 557,vI 303 0,vI 1 0,vI 0 0,vI 0 0,vI 3 0,vR 270,PySem.Value.bool Bool.true,vI 181 0,vR 271,vN,vN,vN,vR 272,vI 558 0,vI 303 0,vS "/claim/cut.py" 559] }) ::
 (nat_lit 274,fO "_law_has" "_law_has" (zT 39) (vS "law_keptnest_k30_even_and_degree" 332) (vR 273)) ::
 (nat_lit 278,{ cls:=PySem.Value.type "code",data:=PySem.Data.fields #[vS "_law_even" 561,vS "_law_even" 562,vS "/claim/cut.py" 563,vI 309 0,vI 1 0,vI 0 0,vI 0 0,vI 3 0,vR 275,PySem.Value.bool Bool.true,vI 181 0,vR 276,vN,vN,vN,vR 277,vI 564 0,vI 309 0,vS "/claim/cut.py" 565] }) ::
 (nat_lit 279,fO "_law_even" "_law_even" (zT 40) (vS "law_keptnest_k30_even_and_degree" 332) (vR 278)) ::
 (nat_lit 285,{ cls:=PySem.Value.type "code",data:=PySem.Data.fields #[vS "_law_degree" 567,vS "_law_degree" 568,vS "/claim/cut.py" 569,vI 317 0,vI 2 0,vI 0 0,vI 0 0,vI 3 0,vR 280,PySem.Value.bool Bool.true,vI 181 0,vR 281,vN,vR 282,vR 283,vR 284,vI 573 0,vI 317 0,vS "/claim/cut.py" 574] }) ::
 (nat_lit 286,fO "_law_degree" "_law_degree" (zT 41) (vS "law_keptnest_k30_even_and_degree" 332) (vR 285)) ::
 (nat_lit 292,{ cls:=PySem.Value.type "code",data:=PySem.Data.fields #[vS "law" 576,vS "law" 577,vS "/claim/cut.py" 578,vI 330 0,vI 1 0,vI 0 0,vI 0 0,vI 3 0,vR 287,PySem.Value.bool Bool.true,vI 181 0,vR 288,vN,vR 289,vR 290,vR 291,vI 586 0,vI 330 0,vS "/claim/cut.py" 587] }) ::
 (nat_lit 293,fO "law" "law" (zT 42) (vS "law_keptnest_k30_even_and_degree" 332) (vR 292))::[]
def zA:List Addr:=[3,4,15,19,20,26,27,31,32,45,46,52,53,59,60,64,65,71,72,74,75,85,86,92,93,99,100,104,105,111,112,125,126,132,133,137,138,142,143,173,174,180,181,194,195,199,200,204,205,211,212,216,217,221,222,226,227,261,262,268,269,273,274,278,279,285,286,292,293]
def zV:Program:={ PySem.Challenge.pw_keptnest_k30_even_and_degree with main:={ PySem.Challenge.pw_keptnest_k30_even_and_degree.main with body:=[1,2,3,4,6,7,8,9,11,12,14,15,16,17,18,19,20,21,22,23,24,25,26,27,28,29,30,31,32,33,34,35,36,37,38,39,40,41,42].filterMap fun i=>PySem.Challenge.pw_keptnest_k30_even_and_degree.main.body[i]? } }
theorem zE:∀ P,zA=(zK P).map (·.1):=fun _=>rfl
def zTs:List Addr:=[107]
def zL:List PySem.Str:=[]
end K30
end
section
set_option maxHeartbeats 0
namespace K30
open PySem Hq
theorem zR_false:RunTo PySem.Challenge.pw_keptnest_k30_even_and_degree zV zL (fun s=>PySem.W.xlAt zV [] s && PySem.W.recOk (PySem.W.RowW.records (PySem.W.OpenRow.toRowW PySem.Challenge.rw_keptnest_k30_even_and_degree.row)) s) (PySem.W.Hook.obs (PySem.W.kmHook zK zA zE zTs)) (PySem.W.Hook.val (PySem.W.kmHook zK zA zE zTs)) 3150 "special-get-raises" false:=by
 intro w
 kernel_rfl
theorem zR_true:RunTo PySem.Challenge.pw_keptnest_k30_even_and_degree zV zL (fun s=>PySem.W.xlAt zV [] s && PySem.W.recOk (PySem.W.RowW.records (PySem.W.OpenRow.toRowW PySem.Challenge.rw_keptnest_k30_even_and_degree.row)) s) (PySem.W.Hook.obs (PySem.W.kmHook zK zA zE zTs)) (PySem.W.Hook.val (PySem.W.kmHook zK zA zE zTs)) 3150 "special-get-raises" true:=by
 intro w
 kernel_rfl
theorem zS:PySem.Challenge.rw_keptnest_k30_even_and_degree.wellSaid=true:=by kernel_rfl
end K30
end
section
-- CHANGE: your row's module here,as the last of these rows
namespace L2
open PySem PySem.Spec PyProof.Rows
abbrev Key:=Sum Int Str
def keyIs:Key->Value->Bool
 | .inl k,v=>Value.isInt k v
 | .inr x,v=>Value.isStrOf x v
def keyH (w:World):Key->Int
 | .inl k=>hashInt k
 | .inr x=>hashStr w x
theorem keyIs_shape:∀ {k:Key}{v:Value},keyIs k v=true->(∃ i t,k=Sum.inl i/\v=Value.int i t)\/(∃ x t,k=Sum.inr x/\v=Value.str x t)
 | .inl i,v,h=>by
  obtain⟨t,e⟩:=Value.isInt_shape (k:=i) (v:=v) h
  exact .inl ⟨i,t,rfl,e⟩
 | .inr x,v,h=>by
  obtain⟨t,e⟩:=Value.isStrOf_shape (x:=x) (v:=v) h
  exact .inr ⟨x,t,rfl,e⟩
theorem keyIs_int (i:Int) (t:Tok):keyIs (.inl i) (.int i t)=true:=by simp [keyIs,Value.isInt]
theorem keyIs_str (x:Str) (t:Tok):keyIs (.inr x) (.str x t)=true:=by simp [keyIs,Value.isStrOf]
theorem key_ll (a b:Int):decide ((Sum.inl a:Key)=Sum.inl b)=(a == b):=by
 by_cases e:a=b
 ·subst e;simp
 ·have h:¬(Sum.inl a:Key)=Sum.inl b:=fun q=>e (Sum.inl.inj q)
  rw[decide_eq_false h]
  exact (beq_eq_false_iff_ne.mpr e).symm
theorem key_rr (a b:Str):decide ((Sum.inr a:Key)=Sum.inr b)=decide (a=b):=by
 by_cases e:a=b
 ·subst e;simp
 ·have h:¬(Sum.inr a:Key)=Sum.inr b:=fun q=>e (Sum.inr.inj q)
  rw[decide_eq_false h,decide_eq_false e]
theorem key_lr (a:Int) (b:Str):decide ((Sum.inl a:Key)=Sum.inr b)=false:=decide_eq_false (fun q=>nomatch q)
theorem key_rl (a:Str) (b:Int):decide ((Sum.inr a:Key)=Sum.inl b)=false:=decide_eq_false (fun q=>nomatch q)
def mixKind (prog:Program) (w:World):PySem.KeyKind prog w Key where
 is:=keyIs
 hash:=keyH w
 inj:=fun v a b ha hb=>by
  rcases keyIs_shape ha with ⟨i,t,rfl,rfl⟩ | ⟨x,t,rfl,rfl⟩
  ·rcases keyIs_shape hb with ⟨j,u,rfl,e⟩ | ⟨y,u,rfl,e⟩
   ·injection e with e1 _;rw[e1]
   ·exact nomatch e
  ·rcases keyIs_shape hb with ⟨j,u,rfl,e⟩ | ⟨y,u,rfl,e⟩
   ·exact nomatch e
   ·injection e with e1 _;rw[e1]
 byValue:=fun k v h=>by
  rcases keyIs_shape h with ⟨i,t,rfl,rfl⟩ | ⟨x,t,rfl,rfl⟩ <;> rfl
 pyHash:=fun hv h=>by
  rcases keyIs_shape hv with ⟨i,t,rfl,rfl⟩ | ⟨x,t,rfl,rfl⟩
  ·exact wpAny_pyHash_int h
  ·exact wpAny_pyHash_str h
 eqBool:=fun hu hv h=>by
  rcases keyIs_shape hu with ⟨i,t,rfl,rfl⟩ | ⟨x,t,rfl,rfl⟩
  ·rcases keyIs_shape hv with ⟨j,u,rfl,rfl⟩ | ⟨y,u,rfl,rfl⟩
   ·rw[key_ll]at h;exact wpAny_eqBool_int h
   ·rw[key_lr]at h;exact SeqAt.EqAt.int_str i t y u _ _ _ _ h
  ·rcases keyIs_shape hv with ⟨j,u,rfl,rfl⟩ | ⟨y,u,rfl,rfl⟩
   ·rw[key_rl]at h;exact SeqAt.EqAt.str_int x t j u _ _ _ _ h
   ·rw[key_rr]at h;exact wpAny_eqBool_str h
 «strs»:=fun k x t v h=>by
  rcases keyIs_shape h with ⟨i,u,rfl,e⟩ | ⟨y,u,rfl,e⟩
  ·exact nomatch e
  ·injection e with e1 _
   subst e1
   cases v <;> rfl
theorem mixKind_int (prog:Program) (w:World) (i:Int) (t:Tok):(mixKind prog w).is (.inl i) (.int i t)=true:=keyIs_int i t
theorem mixKind_str (prog:Program) (w:World) (x:Str) (t:Tok):(mixKind prog w).is (.inr x) (.str x t)=true:=keyIs_str x t
end L2
namespace L2
open PySem PySem.Spec PyProof.Rows
inductive V where
 | non | bl (b:Bool) | int (i:Int) | str (x:Str) | byt (b:Array UInt8) | flt (b:UInt64) | ref (a:Addr) | ty (n:String)
 deriving DecidableEq
def RelV:V->Value->Prop
 | .non,u=>u=Value.none
 | .bl b,u=>u=Value.bool b
 | .int i,u=>∃ t,u=Value.int i t
 | .str x,u=>∃ t,u=Value.str x t
 | .byt b,u=>∃ t,u=Value.bytes b t
 | .flt b,u=>∃ t,u=Value.float b t
 | .ref a,u=>u=Value.ref a
 | .ty n,u=>u=Value.type n
abbrev Vals:List V->List Value->Prop:=Paired RelV
theorem Vals.length {xs:List V}{us:List Value} (r:Vals xs us):xs.length=us.length:=Paired.length r
theorem Vals.get:∀ {xs:List V}{us:List Value}{i:Nat}{x:V},Vals xs us->xs[i]?=some x->∃ u,us[i]?=some u/\RelV x u
 | _,_,_,_,.nil,e=>by simp at e
 | _,_,0,_,.cons r _,e=>by simp at e;subst e;exact⟨_,rfl,r⟩
 | _,_,i+1,x,.cons _ t,e=>by
  obtain⟨u,h1,h2⟩:=Vals.get (i:=i) (x:=x) t (by simpa using e)
  exact⟨u,by simpa using h1,h2⟩
theorem Vals.set {x:V}{u:Value} (r:RelV x u):∀ {xs:List V}{us:List Value} (i:Nat),Vals xs us->Vals (xs.set i x) (us.set i u)
 | _,_,_,.nil=>.nil
 | _,_,0,.cons _ t=>.cons r t
 | _,_,i+1,.cons q t=>.cons q (Vals.set r i t)
theorem Vals.append {xs ys:List V}{us ws:List Value} (h:Vals xs us) (s:Vals ys ws):Vals (xs++ys) (us++ws):=by
 induction h with
 | nil=>exact s
 | cons r t ih=>exact .cons r ih
theorem Vals.take:∀ {xs:List V}{us:List Value} (n:Nat),Vals xs us->Vals (xs.take n) (us.take n)
 | _,_,0,_=>.nil
 | _,_,_+1,.nil=>.nil
 | _,_,n+1,.cons r t=>.cons r (Vals.take n t)
theorem Vals.drop:∀ {xs:List V}{us:List Value} (n:Nat),Vals xs us->Vals (xs.drop n) (us.drop n)
 | _,_,0,r=>r
 | _,_,_+1,.nil=>.nil
 | _,_,n+1,.cons _ t=>Vals.drop n t
def RelO:Option V->Option Value->Prop
 | some v,some u=>RelV v u
 | none,none=>True
 | _,_=>False
def KV {κ:Type}:List (κ×V)->List (κ×Value)->Prop:=Paired fun (p:κ×V) (q:κ×Value)=>p.1=q.1/\RelV p.2 q.2
def kV:Key->V
 | .inl i=>.int i
 | .inr x=>.str x
inductive HO where
  | lst (xs:List V)
  | tup (xs:List V)
  | dK (kvs:List (Key×V)) | dT (kvs:List (List Key×V))
  | set (S:Int->Bool) (n:Nat)
  | ins (C dx:Addr) (fs:List (Str×V))
  | own (x:Addr)
  | xd (fs:List (Str×V))
  | met (f x:Addr)
  | rng (lo hi:Int)
  | frz (o:Obj) (u:HO)
  | tbl (ps:Array Value)
  | ext (φ:Heap->Prop)
abbrev Hp:=Addr->Option HO
def upd (H:Hp) (a:Addr) (o:HO):Hp:=fun b=>if b=a then some o else H b
theorem upd_same {H:Hp}{a:Addr}{o:HO}:upd H a o a=some o:=by unfold upd;rw[if_pos rfl]
theorem upd_ne {H:Hp}{a b:Addr}{o:HO} (h:b≠a):upd H a o b=H b:=by unfold upd;rw[if_neg h]
theorem ne_of {H:Hp}{a b:Addr}{o u:HO} (h:H a=some o) (h':H b=some u) (d:o≠u):a≠b:=by
 intro e;subst e;rw[h]at h';exact d (Option.some.inj h')
theorem ne_of_none {H:Hp}{a b:Addr}{o:HO} (h:H a=some o) (h':H b=none):a≠b:=by
 intro e;subst e;rw[h]at h';cases h'
def TupD (h:Heap) (a:Addr) (n:Nat):Prop:=n<=sizeLine/\∀ o,h.get? a=some o->o.dict=none
theorem tupD_new {h:Heap}{its:Array Value}{k n:Nat} (z:n<=sizeLine):TupD (h.push { cls:=.type "tuple",data:=.seq its k }) h.objs.size n:=
 ⟨z,fun o q=>by rw[Heap.get?_push_size _ rfl]at q;cases q;rfl⟩
theorem tupD_at {h:Heap}{a:Addr}{o:Obj}{n:Nat} (z:n<=sizeLine) (e:h.get? a=some o) (d:o.dict=none):TupD h a n:=
 ⟨z,fun o' q=>by rw[e]at q;cases q;exact d⟩
section
variable (P:Program) (w:World)
def ObjOk (H:Hp) (h:Heap) (a:Addr):HO->Prop
 | .lst xs=>xs.length<=sizeLine/\∃ (its:List Value) (n:Nat),Vals xs its/\h.get? a=some { cls:=.type "list",data:=.seq its.toArray n }
 | .tup xs=>TupD h a xs.length/\∃ its:List Value,Vals xs its/\IsTup h a its.toArray
 | .dK kvs=>kvs.length<=sizeLine/\(a == sysModules)=false/\∃ vs,KV kvs vs/\h.DictOf (mixKind P w) a vs
 | .dT kvs=>kvs.length<=sizeLine/\(a == sysModules)=false/\∃ xs:List (List Key×Addr×Value),
   Paired (fun (p:List Key×V) (q:List Key×Addr×Value)=>p.1=q.1/\H q.2.1=some (.tup (p.1.map kV))/\RelV p.2 q.2.2) kvs xs /\
   ∃ o es ep,h.get? a=some o/\o.ExactDict/\o.data=.dict es ep/\es.toList=xs.map (entryOfKey (tupleKind (mixKind P w)))/\(xs.map (·.1)).Nodup
 | .set S n=>h.SetOf (intKind P w) a S n
 | .ins C dx fs=>H dx=some (.own a)/\fs.length<=1000/\dx≠a/\h.get? a=some (PySem.W.instObj C dx) /\
   ∃ mA,h.Ns1 dx mA/\(∀ f,RelO (fs.lookup f) (mA f))/\PySem.Within mA (fs.map (·.1))
 | .own _=>∃ o,h.get? a=some o
 | .xd fs=>∃ mA,h.Ns1 a mA/\∀ f,RelO (fs.lookup f) (mA f)
 | .rng lo hi=>∃ t u v,h.get? a=some { cls:=.type "range",data:=.fields #[.int lo t,.int hi u,.int 1 v] }
 | .frz o u=>h.get? a=some o/\ObjOk H h a u
 | .tbl ps=>h.get? a=some { cls:=.none,data:=.fields ps }
 | .met f x=>h.get? a=some (PySem.W.methodObj (.ref f) (.ref x))
 | .ext φ=>φ h/\(∃ o,h.get? a=some o)/\∀ h1 h2:Heap,φ h1->(∀ o,h1.get? a=some o->h2.get? a=some o)->φ h2
def HOk (H:Hp) (h:Heap):Prop:=∀ a o,H a=some o->ObjOk P w H h a o
end
section
variable {P:Program}{w:World}{H H':Hp}{h h':Heap}{a:Addr}{o:HO}
theorem ObjOk.lt (x:ObjOk P w H h a o):a<h.objs.size:=by
 cases o with
 | lst xs=>obtain⟨_,_,_,_,e⟩:=x;exact Heap.lt_size e
 | tup xs=>obtain⟨_,_,_,p⟩:=x;exact p.lt
 | dK kvs=>obtain⟨_,_,_,_,o,_,_,e,_⟩:=x;exact Heap.lt_size e
 | dT kvs=>obtain⟨_,_,_,_,o,_,_,e,_⟩:=x;exact Heap.lt_size e
 | set S n=>obtain⟨o,_,_,_,e,_⟩:=x;exact Heap.lt_size e
 | ins C dx fs=>obtain⟨_,_,_,e,_⟩:=x;exact Heap.lt_size e
 | own y=>obtain⟨_,e⟩:=x;exact Heap.lt_size e
 | xd fs=>obtain⟨_,⟨_,_,_,e,_⟩,_⟩:=x;exact Heap.lt_size e
 | rng lo hi=>obtain⟨_,_,_,e⟩:=x;exact Heap.lt_size e
 | frz ob u=>obtain⟨e,_⟩:=x;exact Heap.lt_size e
 | tbl ps=>exact Heap.lt_size (show h.get? a=some _ from x)
 | met f y=>exact Heap.lt_size (show h.get? a=some _ from x)
 | ext φ=>obtain⟨_,⟨_,e⟩,_⟩:=x;exact Heap.lt_size e
theorem Paired.mapP {α β:Type} {F G:α->β->Prop}:∀ {l₁:List α}{l₂:List β},Paired F l₁ l₂->(∀ a b,F a b->G a b)->Paired G l₁ l₂
 | _,_,.nil,_=>.nil
 | _,_,.cons r t,f=>.cons (f _ _ r) (Paired.mapP t f)
theorem ObjOk.stay (x:ObjOk P w H h a o) (k:∀ b u,(b=a\/H b=some (.own a))->h.get? b=some u->h'.get? b=some u)
  (ho:∀ b,H b=some (.own a)->H' b=some (.own a)) (ht:∀ b xs,H b=some (.tup xs)->H' b=some (.tup xs)):ObjOk P w H' h' a o:=by
 induction o with
 | lst xs=>obtain⟨z,its,n,r,e⟩:=x;exact⟨z,its,n,r,k _ _ (.inl rfl) e⟩
 | tup xs=>obtain⟨z,its,r,ob,e,c⟩:=x;exact⟨tupD_at z.1 (k _ _ (.inl rfl) e) (z.2 _ e),its,r,ob,k _ _ (.inl rfl) e,c⟩
 | dK kvs=>obtain⟨z,y,vs,r,ob,es,ep,e,c⟩:=x;exact⟨z,y,vs,r,ob,es,ep,k _ _ (.inl rfl) e,c⟩
 | dT kvs=>
  obtain⟨z,y,xs,r,ob,es,ep,e,c⟩:=x
  exact⟨z,y,xs,Paired.mapP r fun p q z=>⟨z.1,ht _ _ z.2.1,z.2.2⟩,ob,es,ep,k _ _ (.inl rfl) e,c⟩
 | set S n=>obtain⟨ob,es,ep,t,e,c⟩:=x;exact⟨ob,es,ep,t,k _ _ (.inl rfl) e,c⟩
 | ins C dx fs=>
  obtain⟨d,z,ne,e,mA,⟨od,es,ep,e2,c⟩,r⟩:=x
  exact⟨ho _ d,z,ne,k _ _ (.inl rfl) e,mA,⟨od,es,ep,k _ _ (.inr d) e2,c⟩,r⟩
 | own y=>obtain⟨ob,e⟩:=x;exact⟨ob,k _ _ (.inl rfl) e⟩
 | xd fs=>obtain⟨mA,⟨od,es,ep,e,c⟩,r⟩:=x;exact⟨mA,⟨od,es,ep,k _ _ (.inl rfl) e,c⟩,r⟩
 | rng lo hi=>obtain⟨t,u,v,e⟩:=x;exact⟨t,u,v,k _ _ (.inl rfl) e⟩
 | frz ob u ih=>obtain⟨e,q⟩:=x;exact⟨k _ _ (.inl rfl) e,ih q⟩
 | tbl ps=>
  have e:h.get? a=some { cls:=.none,data:=.fields ps }:=x
  show h'.get? a=some { cls:=.none,data:=.fields ps }
  exact k a _ (.inl rfl) e
 | met f y=>
  have e:h.get? a=some (PySem.W.methodObj (.ref f) (.ref y)):=x
  show h'.get? a=some (PySem.W.methodObj (.ref f) (.ref y))
  exact k a _ (.inl rfl) e
 | ext φ=>obtain⟨p,⟨o,e⟩,st⟩:=x;exact⟨st _ _ p fun o q=>k _ _ (.inl rfl) q,⟨o,k _ _ (.inl rfl) e⟩,st⟩
theorem HOk.lt (x:HOk P w H h) (e:H a=some o):a<h.objs.size:=(x a o e).lt
theorem HOk.fresh (x:HOk P w H h) (e:h.objs.size<=a):H a=none:=by
 cases q:H a with
 | none=>rfl
 | some u=>exact absurd (Nat.lt_of_lt_of_le (x.lt q) e) (Nat.lt_irrefl _)
theorem HOk.kept (x:HOk P w H h) (k:∀ b u,h.get? b=some u->h'.get? b=some u):HOk P w H h':=fun a o e=>
 (x a o e).stay (fun b u _ q=>k b u q) (fun _ q=>q) fun _ _ q=>q
theorem HOk.laid (x:HOk P w H h) (k:∀ b u,h.get? b=some u->h'.get? b=some u) (hp:h.objs.size<=a) (new:ObjOk P w (upd H a o) h' a o):HOk P w (upd H a o) h':=fun b u e=>by
 have hn:=x.fresh hp
 by_cases hb:b=a
 ·subst hb;rw[upd_same]at e;cases e;exact new
 ·rw[upd_ne hb]at e
  exact (x b u e).stay (fun c v _ q=>k c v q) (fun c q=>by rw[upd_ne (ne_of_none q hn)];exact q) fun c xs q=>by rw[upd_ne (ne_of_none q hn)];exact q
end
def Rd (H:Hp) (a:Addr) (u:HO):Prop:=H a=some u\/∃ o,H a=some (.frz o u)
theorem Rd.ok {P:Program}{w:World}{H:Hp}{h:Heap}{a:Addr}{u:HO} (r:Rd H a u) (x:HOk P w H h):ObjOk P w H h a u:=by
 rcases r with r | ⟨o,r⟩
 ·exact x a u r
 ·obtain⟨_,q⟩:=x a _ r
  exact q
def Mut:Option HO->Prop
 | some (.lst _)=>True
 | some (.dK _)=>True
 | some (.dT _)=>True
 | some (.set _ _)=>True
 | some (.ins _ _ _)=>True
 | some (.ext _)=>True
 | _=>False
section
variable {P:Program}{w:World}{H:Hp}{h h':Heap}{x e:Addr}{o':HO}
theorem HOk.write (ok:HOk P w H h) (mu:Mut (H x)) (he:e=x\/H e=some (.own x)) (k:∀ b u,b≠e->h.get? b=some u->h'.get? b=some u) (heo:∃ u,h'.get? e=some u)
  (new:ObjOk P w (upd H x o') h' x o'):HOk P w (upd H x o') h':=fun b u q=>by
 have nown:∀ c y,H c=some (.own y)->c≠x:=fun c y r z=>by subst z;rw[r]at mu;exact mu
 have ntup:∀ c xs,H c=some (.tup xs)->c≠x:=fun c xs r z=>by subst z;rw[r]at mu;exact mu
 by_cases hb:b=x
 ·subst hb;rw[upd_same]at q;cases q;exact new
 ·rw[upd_ne hb]at q
  by_cases hbe:b=e
  ·have q':H b=some (.own x):=by
    rcases he with z | z
    ·exact absurd (hbe.trans z) hb
    ·rw[hbe];exact z
   rw[q]at q';cases q'
   obtain⟨v,hv⟩:=heo
   exact⟨v,by rw[hbe];exact hv⟩
  ·refine (ok b u q).stay (fun c v hc r=>k c v ?_ r) (fun c r=>by rw[upd_ne (nown c b r)];exact r) fun c xs r=>by rw[upd_ne (ntup c xs r)];exact r
   rcases hc with rfl | hc
   ·exact hbe
   ·rintro rfl
    rcases he with z | z
    ·exact nown c b hc z
    ·rw[hc]at z;cases z;exact hb rfl
end
structure Un (fs ex:List Addr) (H H':Hp) (h h':Heap):Prop where
 keep:∀ b o,h.get? b=some o->H b=none->b ∉ fs->b ∉ ex->h'.get? b=some o
 slot:∀ b o,h.get? b=some o->H b=none->b∈fs->b ∉ ex->∃ sl,h'.get? b=some { o with slots:=sl }
 free:∀ b o,h.get? b=some o->H b=none->b ∉ ex->H' b=none
 there:∀ b o,h.get? b=some o->b ∉ ex->∃ o',h'.get? b=some o'
 tups:∀ b xs,H b=some (.tup xs)->H' b=some (.tup xs)
 frzs:∀ b o u,H b=some (.frz o u)->H' b=some (.frz o u)
 tbls:∀ b ps,H b=some (.tbl ps)->∃ more,H' b=some (.tbl (ps++more))
section
variable {fs fs' ex ex':List Addr}{H H1 H2:Hp}{h h1 h2 h':Heap}{a x e:Addr}{o:HO}
theorem Un.any (u:Un fs ex H H1 h h1) {b:Addr}{ob:Obj} (q:h.get? b=some ob) (n:H b=none) (hx:b ∉ ex):∃ sl,h1.get? b=some { ob with slots:=sl }:=by
 by_cases hb:b∈fs
 ·exact u.slot b ob q n hb hx
 ·exact⟨ob.slots,u.keep b ob q n hb hx⟩
theorem Un.kept (k:∀ b u,h.get? b=some u->h'.get? b=some u):Un fs ex H H h h':=
 ⟨fun b ob q _ _ _=>k b ob q,fun b ob q _ _ _=>⟨ob.slots,k b ob q⟩,fun _ _ _ n _=>n,fun b ob q _=>⟨ob,k b ob q⟩,fun _ _ q=>q,fun _ _ _ q=>q,fun _ ps q=>⟨#[],by rw[q];simp⟩⟩
theorem Un.refl:Un fs ex H H h h:=Un.kept fun _ _ q=>q
theorem Un.laid (k:∀ b u,h.get? b=some u->h'.get? b=some u) (hp:h.objs.size<=a) (hn:H a=none):Un fs ex H (upd H a o) h h' where
 keep:=fun b u q _ _ _=>k b u q
 slot:=fun b u q _ _ _=>⟨u.slots,k b u q⟩
 free:=fun b u q n _=>by rw[upd_ne (Nat.ne_of_lt (Nat.lt_of_lt_of_le (Heap.lt_size q) hp))];exact n
 there:=fun b u q _=>⟨u,k b u q⟩
 tups:=fun b xs q=>by rw[upd_ne (ne_of_none q hn)];exact q
 frzs:=fun b u xs q=>by rw[upd_ne (ne_of_none q hn)];exact q
 tbls:=fun b ps q=>⟨#[],by rw[upd_ne (ne_of_none q hn),q];simp⟩
theorem Un.write (mu:Mut (H x)) (he:e=x\/H e=some (.own x)) (k:∀ b u,b≠e->h.get? b=some u->h'.get? b=some u) (heo:∃ u,h'.get? e=some u):Un fs ex H (upd H x o) h h':=by
 have hx:∀ b,H b=none->b≠x:=fun b n z=>by subst z;rw[n]at mu;exact mu
 have hb:∀ b,H b=none->b≠e:=fun b n z=>by
  subst z
  rcases he with r | r
  ·exact hx b n r
  ·rw[n]at r;cases r
 have hm:∀ b u,H b=some u->¬Mut (some u)->b≠x:=fun b u q nm z=>by subst z;rw[q]at mu;exact nm mu
 refine⟨fun b u q n _ _=>k b u (hb b n) q,fun b u q n _ _=>⟨u.slots,k b u (hb b n) q⟩,fun b u q n _=>by rw[upd_ne (hx b n)];exact n,fun b u q _=>?_,
  fun b xs q=>by rw[upd_ne (hm b _ q fun z=>z)];exact q,fun b u xs q=>by rw[upd_ne (hm b _ q fun z=>z)];exact q,fun b ps q=>⟨#[],by rw[upd_ne (hm b _ q fun z=>z),q];simp⟩⟩
 by_cases hbe:b=e
 ·subst hbe;exact heo
 ·exact⟨u,k b u hbe q⟩
end
def trk (h:Heap) (H:Hp):List Addr:=(List.range h.objs.size).filter fun a=>(H a).isSome
def hidT (h:Heap) (H:Hp):Heap:=PySem.W.hideAll h (trk h H)
theorem hidT_size (h:Heap) (H:Hp):(hidT h H).objs.size=h.objs.size:=PySem.W.hideAll_size _ _
theorem hidT_get {h:Heap}{H:Hp}{b:Addr}{o:Obj} (e:h.get? b=some o) (n:H b=none):(hidT h H).get? b=some o:=
 PySem.W.hideAll_get _ e fun hm=>by
  have q:(H b).isSome=true:=(List.mem_filter.mp hm).2
  rw[n]at q;simp at q
theorem of_hidT {h:Heap}{H:Hp}{b:Addr}{o:Obj} (e:(hidT h H).get? b=some o):h.get? b=some o/\H b=none:=by
 have e':h.get? b=some o:=PySem.W.of_hideAll (trk h H) e
 refine⟨e',?_⟩
 cases q:H b with
 | none=>rfl
 | some x=>
  have hm:b∈trk h H:=List.mem_filter.mpr ⟨List.mem_range.mpr (Heap.lt_size e'),by simp [q]⟩
  have z:(hidT h H).get? b=none:=PySem.W.hideAll_none (trk h H) hm
  rw[z]at e;cases e
def allNews (g h:Heap) (L:Addr):List (Addr×Obj):=(List.range h.objs.size).filterMap fun a=>if a=L\/(g.get? a).isSome=true then none else (h.get? a).map fun o=>(a,o)
def rest (g h:Heap) (L d:Addr):List (Addr×Obj):=(allNews g h L).filter fun p=>decide (p.1≠d)
end L2
namespace L2
open PySem PySem.Spec PyProof.Rows
structure Mod (K:PySem.W.Frag) (mg:Str->Option Value) (base:Heap):Prop where
 kin:K.In base
 glob:base.Ns mainGlobals mg
 blt:∃ mb,base.Ns builtinsNs mb/\∀ x:Str,x≠"__name__"->mb x=bootBuiltins x
 nolimit:base.NoLimit
structure Cx where
 prog:Program
 w:World
 K:PySem.W.Frag
 mg:Str->Option Value
 base:Heap
 A:Around
 N:List Str
 s₀:Shared
 H₀:Hp
 env:Env
 outer:List Env
 stack:List Env
 ex:List Addr
 fn:Str->Bool
 calm:Bool
 pn:List (Addr×Obj)
 xe:Value->Shared->Prop
def frs (l:List Env):List Addr:=l.filterMap (·.frame)
abbrev Cx.fs (X:Cx):List Addr:=frs X.outer
def Vis (sc:Scope) (x:Str):Prop:=sc.names.lookup x=some .local\/sc.names.lookup x=some .cell\/sc.names.lookup x=some .free
def Loc (sc:Scope) (x:Str):Prop:=sc.names.lookup x=some .local\/sc.names.lookup x=some .cell
def Look (env:Env) (h:Heap) (m:Str->Option Value) (x:Str) (u:Value):Prop:=
 (env.kindOf x=some .local/\m x=some u)\/((env.kindOf x=some .cell\/env.kindOf x=some .free)/\∃ c,env.cells.lookup x=some c/\h.IsCell c (some u))
structure Cx.Ok (X:Cx):Prop where
 mod:Mod X.K X.mg X.base
 kind:X.env.scope.kind=.function
 glob:X.env.globals=mainGlobals
 blt:X.env.builtins=builtinsNs
 above:X.s₀.heap.objs.size<=X.env.locals
 inj:∀ x y c,X.env.cells.lookup x=some c->X.env.cells.lookup y=some c->x=y
 has:∀ x,(X.env.kindOf x=some .cell\/X.env.kindOf x=some .free)->∃ c,X.env.cells.lookup x=some c
 cab:∀ x c,X.fn x=true->X.env.cells.lookup x=some c->X.s₀.heap.objs.size<=c
 hd:X.calm=true->X.A.handled=none
 frames:X.A.frames=some X.stack
 stk:X.stack=X.outer\/(X.stack=X.env::X.outer/\X.env.frame=some X.env.locals)
 exf:∀ b∈X.ex,b≠X.env.locals/\∀ x c,X.env.cells.lookup x=some c->c≠b
 bs:∀ b o,X.base.get? b=some o->X.s₀.heap.get? b=some o/\X.H₀ b=none
 bsz:X.base.objs.size<=X.s₀.heap.objs.size
 noex:∀ b o,X.base.get? b=some o->b ∉ X.ex
 exfs:∀ b∈X.ex,b ∉ X.fs
 funs:X.s₀.heap.FunFrames X.base X.outer
 frf:∀ b∈X.fs,X.H₀ b=none
structure Inv (X:Cx) (pins:List (Addr×Obj)) (σ:List (Option V)) (H:Hp) (s:Shared):Prop where
 ok:X.Ok
 os:s.os=X.s₀.os
 bare:AllBare s.gens
 base:Un X.fs X.ex X.H₀ H X.s₀.heap s.heap
 loc:∃ m,s.heap.Ns X.env.locals m/\∀ (i:Nat) (x:Str) (v:V),X.N[i]?=some x->σ[i]?=some (some v)->Vis X.env.scope x->∃ u,RelV v u/\Look X.env s.heap m x u
 cell:∀ x c,X.env.cells.lookup x=some c->∃ v,s.heap.IsCell c v
 free:H X.env.locals=none
 freeC:∀ x c,X.env.cells.lookup x=some c->H c=none
 pin:∀ p∈X.pn++pins,s.heap.get? p.1=some p.2/\H p.1=none/\p.1≠X.env.locals/\p.1 ∉ X.fs/\∀ v,p.2.data≠.cell v
 hok:HOk X.prog X.w H s.heap
 len:σ.length=X.N.length
section
variable {X:Cx}{pins:List (Addr×Obj)} {σ:List (Option V)} {H H':Hp}{s:Shared}{h':Heap}
theorem Cx.Ok.nofr (ok:X.Ok) {b:Addr}{o:Obj} (e:X.base.get? b=some o):b ∉ X.fs:=fun hb=>by
 have:=(ok.funs.mem hb).1
 rw[e]at this;cases this
theorem Inv.bs (I:Inv X pins σ H s):∀ b o,X.base.get? b=some o->s.heap.get? b=some o/\H b=none:=fun b o e=>
 ⟨I.base.keep b o (I.ok.bs b o e).1 (I.ok.bs b o e).2 (I.ok.nofr e) (I.ok.noex b o e),I.base.free b o (I.ok.bs b o e).1 (I.ok.bs b o e).2 (I.ok.noex b o e)⟩
theorem Inv.bk (I:Inv X pins σ H s):∀ b o,X.base.get? b=some o->s.heap.get? b=some o:=fun b o e=>(I.bs b o e).1
theorem Inv.mod (I:Inv X pins σ H s):Mod X.K X.mg X.base:=I.ok.mod
theorem Inv.kIn (I:Inv X pins σ H s):X.K.In s.heap:=I.ok.mod.kin.keeps I.bk
theorem Inv.lt (I:Inv X pins σ H s):X.env.locals<s.heap.objs.size:=let ⟨_,hn,_⟩:=I.loc;hn.lt
theorem Inv.sz (I:Inv X pins σ H s):X.s₀.heap.objs.size<=s.heap.objs.size:=Nat.le_trans I.ok.above (Nat.le_of_lt I.lt)
theorem Inv.nofs (I:Inv X pins σ H s) {a:Addr} (h:s.heap.objs.size<=a):a ∉ X.fs:=fun hb=>by
 obtain⟨_,o,ho,_⟩:=I.ok.funs.mem hb
 exact absurd (Nat.lt_of_lt_of_le (Heap.lt_size ho) (Nat.le_trans I.sz h)) (Nat.lt_irrefl _)
theorem Inv.cne (I:Inv X pins σ H s):∀ x c,X.env.cells.lookup x=some c->c≠X.env.locals:=fun x c e z=>by
 obtain⟨v,o,ho,hd⟩:=I.cell x c e
 obtain⟨m,⟨o',es,ep,ho',hd',_⟩,_⟩:=I.loc
 rw[z,ho']at ho;cases ho;rw[hd']at hd;cases hd
theorem Inv.funs (I:Inv X pins σ H s):s.heap.FunFrames X.base X.outer:=by
 have all:∀ (l:List Env),(∀ b∈frs l,b∈X.fs)->X.s₀.heap.FunFrames X.base l->s.heap.FunFrames X.base l:=by
  intro l
  induction l with
  | nil=>intro _ _;trivial
  | cons env r ih=>
   intro hs hl
   obtain⟨hk,⟨L,o,hf,hn,ho,hd⟩,hr⟩:=hl
   have hL:L∈X.fs:=hs L (by unfold frs;rw[List.filterMap_cons,hf];exact List.mem_cons_self)
   obtain⟨sl,e⟩:=I.base.slot L o ho (I.ok.frf L hL) hL fun z=>I.ok.exfs L z hL
   exact⟨hk,⟨L,_,hf,hn,e,hd⟩,ih (fun b hb=>hs b (by unfold frs;rw[List.filterMap_cons,hf];exact List.mem_cons_of_mem _ hb)) hr⟩
 exact all X.outer (fun _ hb=>hb) I.ok.funs
theorem Inv.stack (I:Inv X pins σ H s):s.heap.FunFrames X.base X.stack:=by
 rcases I.ok.stk with e | ⟨e,hf⟩
 ·rw[e];exact I.funs
 ·rw[e]
  obtain⟨m,hn,_⟩:=I.loc
  refine .cons (by rw[I.ok.kind];decide) hf hn ?_ I.funs
  exact Heap.get?_none_of_le (Nat.le_trans I.ok.bsz I.ok.above)
theorem Inv.stkSub (I:Inv X pins σ H s):∀ b∈frs X.stack,b∈X.env.locals::X.fs:=fun b hb=>by
 rcases I.ok.stk with e | ⟨e,hf⟩
 ·rw[e]at hb;exact List.mem_cons_of_mem _ hb
 ·rw[e]at hb
  unfold frs at hb
  rw[List.filterMap_cons,hf]at hb
  exact hb
theorem Inv.stkFree (I:Inv X pins σ H s):∀ b∈frs X.stack,H b=none:=fun b hb=>by
 rcases List.mem_cons.mp (I.stkSub b hb) with e | hb
 ·rw[e];exact I.free
 ·obtain⟨_,o,ho,_⟩:=I.ok.funs.mem hb
  exact I.base.free b o ho (I.ok.frf b hb) fun z=>I.ok.exfs b z hb
theorem Inv.step {g':Array GenState}{t':Nat}{d':Drawn}{ch:List Addr} (I:Inv X pins σ H s)
  (hch:∀ b∈ch,(b∈X.ex\/X.s₀.heap.objs.size<=b)/\b≠X.env.locals/\(∀ x c,X.env.cells.lookup x=some c->c≠b)/\∀ p∈X.pn++pins,p.1≠b)
  (keep:∀ b o,b≠X.env.locals->b ∉ X.fs->b ∉ ch->s.heap.get? b=some o->H b=none->h'.get? b=some o)
  (slot:∀ b o,b≠X.env.locals->b∈X.fs->b ∉ ch->s.heap.get? b=some o->H b=none->∃ sl,h'.get? b=some { o with slots:=sl }) (free:∀ b o,b ∉ ch->s.heap.get? b=some o->H b=none->H' b=none)
  (there:∀ b o,b ∉ ch->s.heap.get? b=some o->∃ o',h'.get? b=some o')
  (tups:∀ b xs,H b=some (.tup xs)->H' b=some (.tup xs)) (frzs:∀ b o u,H b=some (.frz o u)->H' b=some (.frz o u)) (tbls:∀ b ps,H b=some (.tbl ps)->∃ more,H' b=some (.tbl (ps++more)))
  (ns:∀ m,s.heap.Ns X.env.locals m->h'.Ns X.env.locals m) (hok:HOk X.prog X.w H' h') (hg:AllBare g') :
  Inv X pins σ H' { s with heap:=h',gens:=g',drawn:=d',toks:=t' }:=by
 have neL:∀ b o,X.s₀.heap.get? b=some o->b≠X.env.locals:=fun b o e=>Nat.ne_of_lt (Nat.lt_of_lt_of_le (Heap.lt_size e) I.ok.above)
 have neC:∀ b o,X.s₀.heap.get? b=some o->b ∉ X.ex->b ∉ ch:=fun b o e hx hb=>by
  rcases (hch b hb).1 with z | z
  ·exact hx z
  ·exact absurd (Nat.lt_of_lt_of_le (Heap.lt_size e) z) (Nat.lt_irrefl _)
 have cellK:∀ x c,X.env.cells.lookup x=some c->∀ v,s.heap.IsCell c v->h'.IsCell c v:=fun x c e v ⟨o,ho,hd⟩=>by
  have nch:c ∉ ch:=fun z=>(hch c z).2.2.1 x c e rfl
  by_cases hc:c∈X.fs
  ·obtain⟨sl,q⟩:=slot c o (I.cne x c e) hc nch ho (I.freeC x c e)
   exact⟨_,q,hd⟩
  ·exact⟨o,keep c o (I.cne x c e) hc nch ho (I.freeC x c e),hd⟩
 refine⟨I.ok,I.os,hg,⟨fun b o e n hb hx=>?_,fun b o e n hb hx=>?_,fun b o e n hx=>?_,fun b o e hx=>?_,fun b xs e=>tups b xs (I.base.tups b xs e),fun b o xs e=>frzs b o xs (I.base.frzs b o xs e),fun b ps e=>?_⟩,?_,fun x c e=>?_,?_,fun x c e=>?_,fun p hp=>?_,hok,I.len⟩
 ·exact keep b o (neL b o e) hb (neC b o e hx) (I.base.keep b o e n hb hx) (I.base.free b o e n hx)
 ·obtain⟨sl,e1⟩:=I.base.slot b o e n hb hx
  obtain⟨sl',e2⟩:=slot b _ (neL b o e) hb (neC b o e hx) e1 (I.base.free b o e n hx)
  exact⟨sl',e2⟩
 ·obtain⟨o',e1⟩:=I.base.there b o e hx
  exact free b o' (neC b o e hx) e1 (I.base.free b o e n hx)
 ·obtain⟨o',e1⟩:=I.base.there b o e hx
  exact there b o' (neC b o e hx) e1
 ·obtain⟨m1,e1⟩:=I.base.tbls b ps e
  obtain⟨m2,e2⟩:=tbls b _ e1
  exact⟨m1++m2,by rw[e2,Array.append_assoc]⟩
 ·obtain⟨m,hn,hl⟩:=I.loc
  refine⟨m,ns m hn,fun i x v e1 e2 e3=>?_⟩
  obtain⟨u,r,l⟩:=hl i x v e1 e2 e3
  refine⟨u,r,?_⟩
  rcases l with l | ⟨k,c,e,z⟩
  ·exact .inl l
  ·exact .inr ⟨k,c,e,cellK x c e _ z⟩
 ·obtain⟨v,z⟩:=I.cell x c e
  exact⟨v,cellK x c e v z⟩
 ·obtain⟨m,⟨o,_,_,ho,_⟩,_⟩:=I.loc
  exact free _ o (fun z=>(hch _ z).2.1 rfl) ho I.free
 ·obtain⟨v,o,ho,hd⟩:=I.cell x c e
  exact free c o (fun z=>(hch c z).2.2.1 x c e rfl) ho (I.freeC x c e)
 ·obtain⟨e,n,ne,nf,d⟩:=I.pin p hp
  have nch:p.1 ∉ ch:=fun z=>(hch p.1 z).2.2.2 p hp rfl
  exact⟨keep p.1 p.2 ne nf nch e n,free p.1 p.2 nch e n,ne,nf,d⟩
theorem Inv.un {t':Nat} (I:Inv X pins σ H s) (u:Un X.fs [] H H' s.heap h') (hok:HOk X.prog X.w H' h'):Inv X pins σ H' { s with heap:=h',toks:=t' }:=by
 obtain⟨m,⟨o,es,ep,ho,r⟩,_⟩:=id I.loc
 obtain⟨sl,hL⟩:=u.any ho I.free (by simp)
 exact I.step (g':=s.gens) (d':=s.drawn) (ch:=[]) (fun _ z=>nomatch z) (fun b o _ hb _ e n=>u.keep b o e n hb (by simp)) (fun b o _ hb _ e n=>u.slot b o e n hb (by simp)) (fun b o _ e n=>u.free b o e n (by simp)) (fun b o _ e=>u.there b o e (by simp)) u.tups u.frzs u.tbls (fun m' hm=>by
  obtain⟨o',es',ep',ho',r'⟩:=hm
  rw[ho]at ho';cases ho'
  exact⟨_,es',ep',hL,r'⟩) hok I.bare
theorem Inv.call {g':Array GenState}{t':Nat}{d':Drawn}{ch:List Addr} (I:Inv X pins σ H s) (u:Un (frs X.stack) ch H H' s.heap h') (hok:HOk X.prog X.w H' h') (hg:AllBare g')
  (hch:∀ b∈ch,(b∈X.ex\/X.s₀.heap.objs.size<=b)/\b≠X.env.locals/\(∀ x c,X.env.cells.lookup x=some c->c≠b)/\∀ p∈X.pn++pins,p.1≠b) :
  Inv X pins σ H' { s with heap:=h',gens:=g',drawn:=d',toks:=t' }:=by
 obtain⟨m,⟨o,es,ep,ho,r⟩,_⟩:=id I.loc
 obtain⟨sl,hL⟩:=u.any ho I.free fun z=>(hch _ z).2.1 rfl
 exact I.step (ch:=ch) hch (fun b o hL hb hc e n=>u.keep b o e n (fun z=>(List.mem_cons.mp (I.stkSub b z)).elim hL hb) hc) (fun b o _ _ hc e n=>u.any e n hc) (fun b o hc e n=>u.free b o e n hc) (fun b o hc e=>u.there b o e hc) u.tups u.frzs u.tbls (fun m' hm=>by
  obtain⟨o',es',ep',ho',r'⟩:=hm
  rw[ho]at ho';cases ho'
  exact⟨_,es',ep',hL,r'⟩) hok hg
theorem Inv.turned {t':Nat}{it:Addr} (I:Inv X pins σ H s) (k:∀ b o,b≠it->s.heap.get? b=some o->h'.get? b=some o) (hn:H it=none) (hL:it≠X.env.locals)
  (h1:it∈X.ex\/X.s₀.heap.objs.size<=it) (h2:∀ x c,X.env.cells.lookup x=some c->c≠it) (h3:∀ p∈X.pn++pins,p.1≠it):Inv X pins σ H { s with heap:=h',toks:=t' }:=by
 have nit:∀ b u,H b=some u->b≠it:=fun b u e z=>by rw[z,hn]at e;cases e
 refine I.step (g':=s.gens) (d':=s.drawn) (ch:=[it]) (fun b hb=>?_) (fun b o _ _ hc e _=>k b o (fun z=>hc (by simp [z])) e) (fun b o _ _ hc e _=>⟨o.slots,k b o (fun z=>hc (by simp [z])) e⟩) (fun _ _ _ _ n=>n)
  (fun b o hc e=>⟨o,k b o (fun z=>hc (by simp [z])) e⟩) (fun _ _ e=>e) (fun _ _ _ e=>e) (fun b ps e=>⟨#[],by rw[e];simp⟩) (fun m hm=>?_) (fun b u e=>?_) I.bare
 ·have e:b=it:=by simpa using hb
  subst e
  exact⟨h1,hL,h2,h3⟩
 ·obtain⟨o,es,ep,ho,r⟩:=hm
  exact⟨o,es,ep,k _ o (Ne.symm hL) ho,r⟩
 ·refine (I.hok b u e).stay (fun c v hc q=>k c v ?_ q) (fun _ q=>q) fun _ _ q=>q
  rcases hc with z | z
  ·rw[z];exact nit b u e
  ·exact nit c _ z
theorem Inv.tok (I:Inv X pins σ H s) (t:Nat):Inv X pins σ H { s with toks:=t }:=I.un (h':=s.heap) (t':=t) Un.refl I.hok
theorem Inv.kept {t':Nat} (I:Inv X pins σ H s) (k:∀ b u,s.heap.get? b=some u->h'.get? b=some u):Inv X pins σ H { s with heap:=h',toks:=t' }:=I.un (Un.kept k) (I.hok.kept k)
theorem Inv.laid {a:Addr}{o:HO}{t':Nat} (I:Inv X pins σ H s) (k:∀ b u,s.heap.get? b=some u->h'.get? b=some u) (hp:s.heap.objs.size<=a) (new:ObjOk X.prog X.w (upd H a o) h' a o) :
  Inv X pins σ (upd H a o) { s with heap:=h',toks:=t' }:=I.un (Un.laid k hp (I.hok.fresh hp)) (I.hok.laid k hp new)
theorem Inv.write {x e:Addr}{o:HO}{t':Nat} (I:Inv X pins σ H s) (mu:Mut (H x)) (he:e=x\/H e=some (.own x)) (k:∀ b u,b≠e->s.heap.get? b=some u->h'.get? b=some u) (heo:∃ u,h'.get? e=some u)
  (new:ObjOk X.prog X.w (upd H x o) h' x o):Inv X pins σ (upd H x o) { s with heap:=h',toks:=t' }:=I.un (Un.write mu he k heo) (I.hok.write mu he k heo new)
theorem Inv.weak {σ':List (Option V)} (I:Inv X pins σ H s) (hl:σ'.length=σ.length) (w:∀ (i:Nat) v,σ'[i]?=some (some v)->σ[i]?=some (some v)):Inv X pins σ' H s:=
 ⟨I.ok,I.os,I.bare,I.base,let ⟨m,hn,hl'⟩:=I.loc;⟨m,hn,fun i x v e1 e2 e3=>hl' i x v e1 (w i v e2) e3⟩,I.cell,I.free,I.freeC,I.pin,I.hok,hl.trans I.len⟩
theorem Inv.pins_of {pins':List (Addr×Obj)} (I:Inv X pins σ H s) (h:∀ p∈pins',s.heap.get? p.1=some p.2/\H p.1=none/\p.1≠X.env.locals/\p.1 ∉ X.fs/\∀ v,p.2.data≠.cell v):Inv X pins' σ H s:=
 ⟨I.ok,I.os,I.bare,I.base,I.loc,I.cell,I.free,I.freeC,fun p hp=>(List.mem_append.mp hp).elim (fun z=>I.pin p (List.mem_append_left _ z)) (h p),I.hok,I.len⟩
theorem nodup_ix {N:List Str} (hN:N.Nodup) {i j:Nat}{x:Str} (a:N[i]?=some x) (b:N[j]?=some x):i=j:=by
 obtain⟨h1,e1⟩:=List.getElem?_eq_some_iff.mp a
 obtain⟨h2,e2⟩:=List.getElem?_eq_some_iff.mp b
 exact (List.getElem_inj hN).mp (e1.trans e2.symm)
theorem store_ok2 {M:Model}{A:Around}{E:Value->Shared->Prop}{i:Nat}{x:Str}{v:V}{u:Value}{Q:Unit->Shared->Prop} (I:Inv X pins σ H s) (hN:X.N.Nodup) (hi:X.N[i]?=some x) (hx:Loc X.env.scope x) (r:RelV v u)
  (h:∀ s',Inv X pins (σ.set i (some v)) H s'->(∃ a,Heap.SameBut a s.heap s'.heap/\(a=X.env.locals\/X.env.cells.lookup x=some a))->Q () s') (hf:X.fn x=true\/X.env.scope.names.lookup x=some .local:=by first | exact .inl rfl | exact .inr rfl | assumption):wpAny M A (storeName X.env x u) Q E s:=by
 obtain⟨m,hn,hl⟩:=id I.loc
 have hcls:(X.env.scope.kind == .class || (X.env.scope.kind == .module && X.env.locals != X.env.globals))=false:=by rw[I.ok.kind];rfl
 have hiσ:i < σ.length:=by rw[I.len];exact (List.getElem?_eq_some_iff.mp hi).1
 have cne:=I.cne
 have tracked:∀ {a:Addr}{h':Heap},(∃ o,s.heap.get? a=some o/\H a=none)->Heap.SameBut a s.heap h'->HOk X.prog X.w H h':=fun {a h'} ha hs b ob e=>by
  obtain⟨_,_,hfree⟩:=ha
  refine (I.hok b ob e).stay (fun c w' hc q=>(hs.2 c ?_).trans q) (fun _ q=>q) fun _ _ q=>q
  rintro rfl
  rcases hc with rfl | hc
  ·rw[hfree]at e;cases e
  ·rw[hfree]at hc;cases hc
 rcases hx with hk | hk
 ·refine wpAny_storeName_local hk hn (fun h' hn' hs=>?_) hcls
  obtain⟨oL,_,_,hoL,_⟩:=id hn
  refine h _ ⟨I.ok,I.os,I.bare,⟨fun b o e n hb hx=>?_,fun b o e n hb hx=>?_,I.base.free,fun b o e hx=>?_,I.base.tups,I.base.frzs,I.base.tbls⟩,⟨_,hn',fun j y v' e1 e2 e3=>?_⟩,fun y c e=>?_,I.free,I.freeC,fun p hp=>?_,tracked ⟨oL,hoL,I.free⟩ hs,by simpa using I.len⟩ ⟨_,hs,.inl rfl⟩
  ·exact (hs.2 b (Nat.ne_of_lt (Nat.lt_of_lt_of_le (Heap.lt_size e) I.ok.above))).trans (I.base.keep b o e n hb hx)
  ·obtain⟨sl,e1⟩:=I.base.slot b o e n hb hx
   exact⟨sl,(hs.2 b (Nat.ne_of_lt (Nat.lt_of_lt_of_le (Heap.lt_size e) I.ok.above))).trans e1⟩
  ·obtain⟨o',e1⟩:=I.base.there b o e hx
   exact⟨o',(hs.2 b (Nat.ne_of_lt (Nat.lt_of_lt_of_le (Heap.lt_size e) I.ok.above))).trans e1⟩
  ·by_cases hj:j=i
   ·subst hj
    rw[hi]at e1;cases e1
    rw[List.getElem?_set_self hiσ]at e2
    cases e2
    exact⟨u,r,.inl ⟨hk,by simp⟩⟩
   ·rw[List.getElem?_set_ne (Ne.symm hj)]at e2
    obtain⟨u',r',q⟩:=hl j y v' e1 e2 e3
    refine⟨u',r',?_⟩
    rcases q with ⟨k,e⟩ | ⟨k,c,e,z⟩
    ·refine .inl ⟨k,?_⟩
     have:y≠x:=fun e=>hj (nodup_ix hN e1 (e ▸ hi))
     simp [this,e]
    ·exact .inr ⟨k,c,e,z.sameBut hs (cne y c e)⟩
  ·obtain⟨w',z⟩:=I.cell y c e
   exact⟨w',z.sameBut hs (cne y c e)⟩
  ·obtain⟨e,n,ne,nf,d⟩:=I.pin p hp
   exact⟨(hs.2 p.1 ne).trans e,n,ne,nf,d⟩
 ·have hfn:X.fn x=true:=by
   rcases hf with z | z
   ·exact z
   ·rw[z]at hk;cases hk
  obtain⟨c,hc⟩:=I.ok.has x (.inl hk)
  obtain⟨w',z⟩:=I.cell x c hc
  refine wpAny_storeName_cell I.ok.kind hk hc z (fun h' hc' hs=>?_)
  obtain⟨oc,hoc,hocd⟩:=id z
  refine h { s with heap:=h' } ⟨I.ok,I.os,I.bare,⟨fun b o e n hb hx=>?_,fun b o e n hb hx=>?_,I.base.free,fun b o e hx=>?_,I.base.tups,I.base.frzs,I.base.tbls⟩,⟨m,hn.sameBut hs (Ne.symm (cne x c hc)),fun j y v' e1 e2 e3=>?_⟩,fun y c' e=>?_,I.free,I.freeC,fun p hp=>?_,tracked ⟨oc,hoc,I.freeC x c hc⟩ hs,by simpa using I.len⟩ ⟨c,hs,.inr hc⟩
  ·exact (hs.2 b (Nat.ne_of_lt (Nat.lt_of_lt_of_le (Heap.lt_size e) (I.ok.cab x c hfn hc)))).trans (I.base.keep b o e n hb hx)
  ·obtain⟨sl,e1⟩:=I.base.slot b o e n hb hx
   exact⟨sl,(hs.2 b (Nat.ne_of_lt (Nat.lt_of_lt_of_le (Heap.lt_size e) (I.ok.cab x c hfn hc)))).trans e1⟩
  ·obtain⟨o',e1⟩:=I.base.there b o e hx
   exact⟨o',(hs.2 b (Nat.ne_of_lt (Nat.lt_of_lt_of_le (Heap.lt_size e) (I.ok.cab x c hfn hc)))).trans e1⟩
  ·by_cases hj:j=i
   ·subst hj
    rw[hi]at e1;cases e1
    rw[List.getElem?_set_self hiσ]at e2
    cases e2
    exact⟨u,r,.inr ⟨.inl hk,c,hc,hc'⟩⟩
   ·rw[List.getElem?_set_ne (Ne.symm hj)]at e2
    obtain⟨u',r',q⟩:=hl j y v' e1 e2 e3
    refine⟨u',r',?_⟩
    rcases q with q | ⟨k,c',e,z'⟩
    ·exact .inl q
    ·refine .inr ⟨k,c',e,z'.sameBut hs ?_⟩
     rintro rfl
     exact hj (nodup_ix hN e1 (I.ok.inj _ _ _ e hc ▸ hi))
  ·by_cases hcc:c'=c
   ·subst hcc;exact⟨_,hc'⟩
   ·obtain⟨w2,z2⟩:=I.cell y c' e
    exact⟨w2,z2.sameBut hs hcc⟩
  ·obtain⟨e,n,ne,nf,d⟩:=I.pin p hp
   refine⟨(hs.2 p.1 ?_).trans e,n,ne,nf,d⟩
   intro q
   rw[q,hoc]at e
   have q':oc=p.2:=Option.some.inj e
   exact d w' (by rw[<- q'];exact hocd)
theorem store_ok {M:Model}{A:Around}{E:Value->Shared->Prop}{i:Nat}{x:Str}{v:V}{u:Value}{Q:Unit->Shared->Prop} (I:Inv X pins σ H s) (hN:X.N.Nodup) (hi:X.N[i]?=some x) (hx:Loc X.env.scope x) (r:RelV v u)
  (h:∀ s',Inv X pins (σ.set i (some v)) H s'->Q () s') (hf:X.fn x=true\/X.env.scope.names.lookup x=some .local:=by first | exact .inl rfl | exact .inr rfl | assumption):wpAny M A (storeName X.env x u) Q E s:=
 store_ok2 I hN hi hx r (fun s' I' _=>h s' I') hf
theorem Inv.call' {s':Shared}{ch:List Addr} (I:Inv X pins σ H s) (ho:s'.os=s.os) (u:Un (frs X.stack) ch H H' s.heap s'.heap) (hok:HOk X.prog X.w H' s'.heap) (hg:AllBare s'.gens)
  (hch:∀ b∈ch,(b∈X.ex\/X.s₀.heap.objs.size<=b)/\b≠X.env.locals/\(∀ x c,X.env.cells.lookup x=some c->c≠b)/\∀ p∈X.pn++pins,p.1≠b):Inv X pins σ H' s':=by
 obtain⟨h',g',d',t',o'⟩:=s'
 have e:o'=s.os:=ho
 subst e
 exact I.call (g':=g') (t':=t') (d':=d') u hok hg hch
end
abbrev XK:=Value->Option Addr->Hp->Prop
abbrev St:=List (Option V)
abbrev VK:=V->Hp->Prop
abbrev TE:=St->Hp->VK->Prop
abbrev TT:=St->Hp->(Bool->Hp->Prop)->Prop
abbrev TA:=St->Hp->(List V->Hp->Prop)->Prop
structure Ends where
 nx:St->Hp->Prop
 rt:VK
 bk:St->Hp->Prop:=fun _ _=>False
 ct:St->Hp->Prop:=fun _ _=>False
abbrev TS:=Ends->St->Hp->Prop
def EP (X:Cx) (pins:List (Addr×Obj)) (σ:St) (Q:VK) (u:Value) (s':Shared):Prop:=∃ v H',Inv X pins σ H' s'/\RelV v u/\Q v H'
def TP (X:Cx) (pins:List (Addr×Obj)) (σ:St) (Q:Bool->Hp->Prop) (b:Bool) (s':Shared):Prop:=∃ H',Inv X pins σ H' s'/\Q b H'
def AP (X:Cx) (pins:List (Addr×Obj)) (σ:St) (Q:List V->Hp->Prop) (us:List Value) (s':Shared):Prop:=∃ vs H',Inv X pins σ H' s'/\Vals vs us/\Q vs H'
def SP (X:Cx) (pins:List (Addr×Obj)) (D:Ends) (f:Flow) (s':Shared):Prop:=
 match f with
 | .next=>∃ σ' H',Inv X pins σ' H' s'/\D.nx σ' H'
 | .brk=>∃ σ' H',Inv X pins σ' H' s'/\D.bk σ' H'
 | .cont=>∃ σ' H',Inv X pins σ' H' s'/\D.ct σ' H'
 | .ret u=>∃ v σ' H',Inv X pins σ' H' s'/\RelV v u/\D.rt v H'
def PE (X:Cx) (e:Expr) (t:TE):Prop:=
 ∀ (pins:List (Addr×Obj)) (s:Shared) (σ:St) (H:Hp) (Q:VK),Inv X pins σ H s->t σ H Q->wpAny (model X.prog X.w) X.A (eval e X.env) (EP X pins σ Q) X.xe s
def PT (X:Cx) (e:Expr) (t:TT):Prop:=
 ∀ (pins:List (Addr×Obj)) (s:Shared) (σ:St) (H:Hp) (Q:Bool->Hp->Prop),Inv X pins σ H s->t σ H Q->wpAny (model X.prog X.w) X.A (isTrue e X.env (eval e X.env)) (TP X pins σ Q) X.xe s
def PW (X:Cx) (e:Expr) (t:TT):Prop:=
 ∀ (whole:Sem Value) (pins:List (Addr×Obj)) (s:Shared) (σ:St) (H:Hp) (Q:Bool->Hp->Prop),Inv X pins σ H s->t σ H Q->wpAny (model X.prog X.w) X.A (isTrue e X.env whole) (TP X pins σ Q) X.xe s
theorem PW.pt {X:Cx}{e:Expr}{t:TT} (h:PW X e t):PT X e t:=h _
def PA (X:Cx) (es:List Expr) (t:TA):Prop:=
 ∀ (pos:Pos) (pins:List (Addr×Obj)) (s:Shared) (σ:St) (H:Hp) (Q:List V->Hp->Prop),Inv X pins σ H s->t σ H Q->wpAny (model X.prog X.w) X.A (spliced (backTo pos (starEach es X.env))) (AP X pins σ Q) X.xe s
def PS (X:Cx) (st:Stmt) (t:TS):Prop:=
 ∀ (pins:List (Addr×Obj)) (s:Shared) (σ:St) (H:Hp) (D:Ends),Inv X pins σ H s->t D σ H->wpAny (model X.prog X.w) X.A (exec st X.env) (SP X pins D) X.xe s
def PSs (X:Cx) (st:List Stmt) (t:TS):Prop:=
 ∀ (pins:List (Addr×Obj)) (s:Shared) (σ:St) (H:Hp) (D:Ends),Inv X pins σ H s->t D σ H->wpAny (model X.prog X.w) X.A (execs st X.env) (SP X pins D) X.xe s
theorem thn {α:Type} {t:Sem α}{Q Q':α->Shared->Prop}{M:Model}{A:Around}{E:Value->Shared->Prop}{s:Shared} (h:wpAny M A t Q E s) (hQ:∀ a s,Q a s->Q' a s):wpAny M A t Q' E s:=wpAny_mono h hQ fun _ _ x=>x
end L2
namespace L2
open PySem PySem.Spec PyProof.Rows
section
variable {X:Cx}
def tVar (i:Nat):TE:=fun σ H Q=>∃ v,σ[i]?=some (some v)/\Q v H
def tC (v:V):TE:=fun _ H Q=>Q v H
theorem pe_var {i:Nat}{x:Str}{pos:Pos} (hN:X.N[i]?=some x) (hv:Vis X.env.scope x) (hd:(x == ("__debug__" : Str))=false:=by decide) (hcd:(x == ("__classdict__" : Str))=false:=by decide):PE X (.Name x pos) (tVar i):=by
 intro pins s σ H Q I h
 obtain⟨v,e,h⟩:=h
 obtain⟨m,hn,hl⟩:=I.loc
 obtain⟨u,r,l⟩:=hl i x v hN e hv
 have fin:EP X pins σ Q u s:=⟨v,H,I,r,h⟩
 rcases l with ⟨hk,hm⟩ | ⟨hk,c,hc,hcell⟩
 ·exact wpAny_Name (wpAny_loadName_local I.ok.kind hk hn hm fin) hd
 ·rcases hk with hk | hk
  ·exact wpAny_Name (wpAny_loadName_cell I.ok.kind hk hc hcell fin) hd
  ·exact wpAny_Name (wpAny_loadName_free I.ok.kind hk hc hcell fin hcd) hd
theorem pe_int {i j pos}:PE X (.Constant (.int i) j pos) (tC (.int i)):=fun _ _ _ H _ I h=>wpAny_Constant_int ⟨.int i,H,I.tok _,⟨_,rfl⟩,h⟩
theorem pe_bl {b j pos}:PE X (.Constant (.bool b) j pos) (tC (.bl b)):=fun _ _ _ H _ I h=>Constant_bool ⟨.bl b,H,I,rfl,h⟩
theorem pe_str {x j pos}:PE X (.Constant (.str x) j pos) (tC (.str x)):=fun _ _ _ H _ I h=>Calls.Constant_str ⟨.str x,H,I.tok _,⟨_,rfl⟩,h⟩
def Gl (X:Cx) (x:Str):Prop:=X.env.kindOf x=some .globalImplicit
theorem ld_glob {E:Value->Shared->Prop}{pins:List (Addr×Obj)}{s:Shared} {σ:St} {H:Hp}{x:Str}{u:Value}{pos:Pos}{Q:Value->Shared->Prop} (I:Inv X pins σ H s) (hg:Gl X x) (hm:X.mg x=some u) (h:Q u s)
  (hd:(x == ("__debug__" : Str))=false:=by decide):wpAny (model X.prog X.w) X.A (eval (.Name x pos) X.env) Q E s:=
 Calls.Name_function_global I.ok.kind hg (Calls.loadGlobal_global (by rw[I.ok.glob];exact I.mod.glob.keeps I.bk) hm h) hd
theorem ld_blt {E:Value->Shared->Prop}{pins:List (Addr×Obj)}{s:Shared} {σ:St} {H:Hp}{x:Str}{u:Value}{pos:Pos}{Q:Value->Shared->Prop} (I:Inv X pins σ H s) (hg:Gl X x) (hm:X.mg x=none) (hv:bootBuiltins x=some u) (h:Q u s)
  (hn:x≠"__name__":=by decide) (hd:(x == ("__debug__" : Str))=false:=by decide):wpAny (model X.prog X.w) X.A (eval (.Name x pos) X.env) Q E s:=by
 obtain⟨mb,h1,h2⟩:=I.mod.blt
 exact Calls.Name_function_global I.ok.kind hg (Calls.loadGlobal_builtin (by rw[I.ok.glob];exact I.mod.glob.keeps I.bk) hm (by rw[I.ok.blt];exact h1.keeps I.bk) ((h2 x hn).trans hv) h) hd
theorem pe_glob {x:Str}{v:V}{u:Value}{pos:Pos} (hg:Gl X x) (hm:X.mg x=some u) (r:RelV v u) (hd:(x == ("__debug__" : Str))=false:=by decide):PE X (.Name x pos) (tC v):=
 fun _ _ _ H _ I h=>ld_glob I hg hm ⟨v,H,I,r,h⟩ hd
theorem pe_bltn {x:Str}{v:V}{u:Value}{pos:Pos} (hg:Gl X x) (hm:X.mg x=none) (hv:bootBuiltins x=some u) (r:RelV v u) (hn:x≠"__name__":=by decide) (hd:(x == ("__debug__" : Str))=false:=by decide):PE X (.Name x pos) (tC v):=
 fun _ _ _ H _ I h=>ld_blt I hg hm hv ⟨v,H,I,r,h⟩ hn hd
variable {a b:Expr}{ta tb:TE}{pos:Pos}
def tB (t:TE):TT:=fun σ H Q=>t σ H fun x H1=>∃ c,x=.bl c/\Q c H1
theorem pt_val {e:Expr}{t:TE} (h:PE X e t) (he:∀ whole,isTrue e X.env whole=(do let v <- whole;standAt e.pos;holding [v] (truthy v)):=by intro _;rfl):PT X e (tB t):=by
 intro pins s σ H Q I hw
 refine isTrue_plain (thn (h pins s σ H _ I hw) fun v s1 ⟨x,H1,I1,r1,q1⟩=>?_) (he _)
 obtain⟨d,rfl,q⟩:=q1
 cases r1
 exact wpAny_truthy_bool ⟨H1,I1,q⟩
variable {tA tB':TT}{rest:List Expr}
def tAnd (t u:TT):TT:=fun σ H Q=>t σ H fun c H1=>if c=true then u σ H1 Q else Q false H1
def tOr (t u:TT):TT:=fun σ H Q=>t σ H fun c H1=>if c=true then Q true H1 else u σ H1 Q
def tNot (t:TT):TT:=fun σ H Q=>t σ H fun c H1=>Q (!c) H1
theorem pw_and1 (ha:PT X a tA):PW X (.BoolOp .And [a] pos) tA:=by
 intro wh pins s σ H Q I h
 refine isTrue_and (thn (ha pins s σ H Q I h) fun c s1 e=>?_)
 cases c with
 | true=>exact isTrue_and_nil e
 | false=>exact e
theorem pw_or1 (ha:PT X a tA):PW X (.BoolOp .Or [a] pos) tA:=by
 intro wh pins s σ H Q I h
 refine isTrue_or (thn (ha pins s σ H Q I h) fun c s1 e=>?_)
 cases c with
 | false=>exact isTrue_or_nil e
 | true=>exact e
theorem pw_and (ha:PT X a tA) (hb:PW X (.BoolOp .And (b::rest) pos) tB'):PW X (.BoolOp .And (a::b::rest) pos) (tAnd tA tB'):=by
 intro wh pins s σ H Q I h
 refine isTrue_and (thn (ha pins s σ H _ I h) fun c s1 ⟨H1,I1,q1⟩=>?_)
 cases c with
 | true=>exact hb wh pins s1 σ H1 Q I1 q1
 | false=>exact⟨H1,I1,q1⟩
theorem pw_or (ha:PT X a tA) (hb:PW X (.BoolOp .Or (b::rest) pos) tB'):PW X (.BoolOp .Or (a::b::rest) pos) (tOr tA tB'):=by
 intro wh pins s σ H Q I h
 refine isTrue_or (thn (ha pins s σ H _ I h) fun c s1 ⟨H1,I1,q1⟩=>?_)
 cases c with
 | true=>exact⟨H1,I1,q1⟩
 | false=>exact hb wh pins s1 σ H1 Q I1 q1
theorem pt_not (ha:PT X a tA):PT X (.UnaryOp .Not a pos) (tNot tA):=by
 intro pins s σ H Q I h
 exact isTrue_not (ha pins s σ H (fun c H1=>Q (!c) H1) I h)
def tAndV (ta tb:TE):TE:=fun σ H Q=>ta σ H fun x H1=>∃ c,x=.bl c/\if c=true then tb σ H1 Q else Q (.bl false) H1
def tNotV (ta:TE):TE:=fun σ H Q=>ta σ H fun x H1=>∃ c,x=.bl c/\Q (.bl (!c)) H1
theorem pe_one {op} {t:TE} (h:PE X a t):PE X (.BoolOp op [a] pos) t:=fun pins s σ H Q I hw=>BoolOp_one (h pins s σ H Q I hw)
theorem pe_and (ha:PE X a ta) (hb:PE X (.BoolOp .And (b::rest) pos) tb):PE X (.BoolOp .And (a::b::rest) pos) (tAndV ta tb):=by
 intro pins s σ H Q I h
 refine BoolOp_and (thn (ha pins s σ H _ I h) fun v s1 ⟨x,H1,I1,r1,q1⟩=>?_)
 obtain⟨c,rfl,q1⟩:=q1
 cases r1
 refine wpAny_truthy_bool ?_
 cases c with
 | true=>exact hb pins s1 σ H1 Q I1 q1
 | false=>exact⟨.bl false,H1,I1,rfl,q1⟩
theorem pe_not (ha:PE X a ta):PE X (.UnaryOp .Not a pos) (tNotV ta):=by
 intro pins s σ H Q I h
 refine UnaryOp_ (thn (ha pins s σ H _ I h) fun v s1 ⟨x,H1,I1,r1,q1⟩=>?_)
 obtain⟨c,rfl,q1⟩:=q1
 cases r1
 exact not_of (wpAny_truthy_bool ⟨.bl (!c),H1,I1,rfl,q1⟩)
def tIf (t:TT) (ta tb:TE):TE:=fun σ H Q=>t σ H fun c H1=>if c=true then ta σ H1 Q else tb σ H1 Q
theorem pe_ifExp {c:Expr} (hc:PT X c tA) (ha:PE X a ta) (hb:PE X b tb):PE X (.IfExp c a b pos) (tIf tA ta tb):=by
 intro pins s σ H Q I h
 refine wpAny_IfExp (thn (hc pins s σ H _ I h) fun d s1 ⟨H1,I1,q1⟩=>?_)
 cases d with
 | true=>exact ha pins s1 σ H1 Q I1 q1
 | false=>exact hb pins s1 σ H1 Q I1 q1
end
end L2
namespace L2
open PySem PySem.Spec PyProof.Rows
def SqL (K:PySem.W.Frag) (H:Hp) (a:Addr) (xs:List V):Prop:=
 Rd H a (.lst xs) \/
  ∃ (o:Obj) (its:Array Value) (n:Nat),K.lookup a=some o/\o.cls=.type "list"/\o.dict=none/\o.data=.seq its n/\its.size<=sizeLine/\Vals xs its.toList
def SqT (K:PySem.W.Frag) (H:Hp) (a:Addr) (xs:List V):Prop:=
 Rd H a (.tup xs) \/
  ∃ (o:Obj) (its:Array Value) (n:Nat),K.lookup a=some o/\o.cls=.type "tuple"/\o.data=.seq its n/\its.size<=sizeLine/\Vals xs its.toList
def absV:Value->Option V
 | .none=>some .non
 | .bool b=>some (.bl b)
 | .int i _=>some (.int i)
 | .str x _=>some (.str x)
 | .bytes b _=>some (.byt b)
 | .float b _=>some (.flt b)
 | .ref a=>some (.ref a)
 | .type n=>some (.ty n)
 | _=>none
theorem RelV.abs {x:V}{u:Value} (r:RelV x u):absV u=some x:=by
 cases x with
 | non=>cases r;rfl
 | bl _=>cases r;rfl
 | int _=>obtain⟨t,rfl⟩:=r;rfl
 | str _=>obtain⟨t,rfl⟩:=r;rfl
 | byt _=>obtain⟨t,rfl⟩:=r;rfl
 | flt _=>obtain⟨t,rfl⟩:=r;rfl
 | ref _=>cases r;rfl
 | ty _=>cases r;rfl
theorem RelV.inj {x y:V}{u:Value} (r:RelV x u) (q:RelV y u):x=y:=Option.some.inj (r.abs.symm.trans q.abs)
theorem Vals.inj:∀ {xs ys:List V}{us:List Value},Vals xs us->Vals ys us->xs=ys
 | _,_,_,.nil,.nil=>rfl
 | _,_,_,.cons r t,.cons r' t'=>by rw[r.inj r',Vals.inj t t']
section
variable {X:Cx}{pins:List (Addr×Obj)} {σ:St} {H:Hp}{s:Shared}{a:Addr}{xs ys:List V}
theorem SqL.of {K:PySem.W.Frag} (h:H a=some (.lst xs)):SqL K H a xs:=.inl (.inl h)
theorem SqT.of {K:PySem.W.Frag} (h:H a=some (.tup xs)):SqT K H a xs:=.inl (.inl h)
theorem Inv.list (I:Inv X pins σ H s) (h:SqL X.K H a xs):∃ its:List Value,Vals xs its/\PlainL s.heap a its.toArray/\xs.length<=sizeLine:=by
 rcases h with h | ⟨o,its,n,hk,hc,hd,hs,hz,r⟩
 ·obtain⟨z,its,n,r,e⟩:=h.ok I.hok
  exact⟨its,r,⟨_,n,e,rfl,rfl,rfl⟩,z⟩
 ·refine⟨its.toList,r,⟨o,n,I.kIn a o hk,hc,hd,by simpa using hs⟩,?_⟩
  have e:=r.length
  simp only[Array.length_toList]at e
  lia
theorem Inv.tuple (I:Inv X pins σ H s) (h:SqT X.K H a xs):∃ its:List Value,Vals xs its/\IsTup s.heap a its.toArray/\xs.length<=sizeLine:=by
 rcases h with h | ⟨o,its,n,hk,hc,hs,hz,r⟩
 ·obtain⟨z,its,r,p⟩:=h.ok I.hok
  exact⟨its,r,p,z.1⟩
 ·refine⟨its.toList,r,⟨o,I.kIn a o hk,hc,n,by simpa using hs⟩,?_⟩
  have e:=r.length
  simp only[Array.length_toList]at e
  lia
theorem Inv.list_inj (I:Inv X pins σ H s) (h:SqL X.K H a xs) (h':SqL X.K H a ys):xs=ys:=by
 obtain⟨its,r,⟨o,n,e,_,_,d⟩,_⟩:=I.list h
 obtain⟨its',r',⟨o',n',e',_,_,d'⟩,_⟩:=I.list h'
 rw[e]at e';cases e'
 rw[d]at d'
 injection d' with d1 _
 have:its=its':=by simpa using congrArg Array.toList d1
 subst this
 exact r.inj r'
theorem Inv.tuple_inj (I:Inv X pins σ H s) (h:SqT X.K H a xs) (h':SqT X.K H a ys):xs=ys:=by
 obtain⟨its,r,⟨o,e,_,n,d⟩,_⟩:=I.tuple h
 obtain⟨its',r',⟨o',e',_,n',d'⟩,_⟩:=I.tuple h'
 rw[e]at e';cases e'
 rw[d]at d'
 injection d' with d1 _
 have:its=its':=by simpa using congrArg Array.toList d1
 subst this
 exact r.inj r'
end
abbrev Cx.wish (X:Cx) (E:Value->Shared->Prop):Cx:={ X with xe:=E }
abbrev Cx.nox (X:Cx):Cx:=X.wish fun _ _=>False
theorem Cx.Ok.wish {X:Cx} (ok:X.Ok) (E:Value->Shared->Prop):(X.wish E).Ok:=
 ⟨ok.mod,ok.kind,ok.glob,ok.blt,ok.above,ok.inj,ok.has,ok.cab,ok.hd,ok.frames,ok.stk,ok.exf,ok.bs,ok.bsz,ok.noex,ok.exfs,ok.funs,ok.frf⟩
theorem Cx.Ok.unwish {X:Cx}{E:Value->Shared->Prop} (ok:(X.wish E).Ok):X.Ok:=
 ⟨ok.mod,ok.kind,ok.glob,ok.blt,ok.above,ok.inj,ok.has,ok.cab,ok.hd,ok.frames,ok.stk,ok.exf,ok.bs,ok.bsz,ok.noex,ok.exfs,ok.funs,ok.frf⟩
section
variable {X:Cx}{pins:List (Addr×Obj)} {σ:St} {H:Hp}{s:Shared}{E:Value->Shared->Prop}
theorem Inv.wish (I:Inv X pins σ H s) (E:Value->Shared->Prop):Inv (X.wish E) pins σ H s:=⟨I.ok.wish E,I.os,I.bare,I.base,I.loc,I.cell,I.free,I.freeC,I.pin,I.hok,I.len⟩
theorem Inv.unwish (I:Inv (X.wish E) pins σ H s):Inv X pins σ H s:=⟨I.ok.unwish,I.os,I.bare,I.base,I.loc,I.cell,I.free,I.freeC,I.pin,I.hok,I.len⟩
theorem SP.unwish {D:Ends}{f:Flow}{s':Shared} (h:SP (X.wish E) pins D f s'):SP X pins D f s':=by
 cases f with
 | next=>obtain⟨σ',H',I,q⟩:=h;exact⟨σ',H',I.unwish,q⟩
 | brk=>obtain⟨σ',H',I,q⟩:=h;exact⟨σ',H',I.unwish,q⟩
 | cont=>obtain⟨σ',H',I,q⟩:=h;exact⟨σ',H',I.unwish,q⟩
 | ret u=>obtain⟨v,σ',H',I,r,q⟩:=h;exact⟨v,σ',H',I.unwish,r,q⟩
theorem PSs.nox {st:List Stmt}{t:TS} (h:PSs X.nox st t):PSs X st t:=fun pins s σ H D I hw=>
 wpAny_mono (h pins s σ H D (I.wish _) hw) (fun _ _ q=>q.unwish) fun _ _ z=>False.elim z
end
section
variable {X:Cx}{st:Stmt}{rest:List Stmt}{t u:TS}{e:Expr}{te:TE}{pos:Pos}
def tNext:TS:=fun D σ H=>D.nx σ H
def tSeq (t u:TS):TS:=fun D σ H=>t { D with nx:=u D } σ H
theorem pss_nil:PSs X [] tNext:=fun _ _ σ H _ I h=>wpAny_execs_nil ⟨σ,H,I,h⟩
theorem pss_cons (h1:PS X st t) (h2:PSs X rest u):PSs X (st::rest) (tSeq t u):=by
 intro pins s σ H D I h
 refine wpAny_execs_cons (thn (h1 pins s σ H { D with nx:=u D } I h) fun f s1 q=>?_)
 cases f with
 | next=>
  obtain⟨σ',H',I',q⟩:=q
  exact h2 pins s1 σ' H' D I' q
 | ret v=>exact q
 | brk=>exact q
 | cont=>exact q
theorem pss_one (h1:PS X st t):PSs X [st] t:=by
 intro pins s σ H D I h
 refine wpAny_execs_cons (thn (h1 pins s σ H D I h) fun f s1 q=>?_)
 cases f with
 | next=>exact wpAny_execs_nil q
 | ret v=>exact q
 | brk=>exact q
 | cont=>exact q
theorem Inv.quiet {pins:List (Addr×Obj)} {σ:St} {H:Hp}{s:Shared} (I:Inv X pins σ H s):interactive X.env=false:=by simp [interactive,I.ok.kind]
def tDrop (te:TE):TS:=fun D σ H=>te σ H fun _ H1=>D.nx σ H1
theorem ps_expr (he:PE X e te) (hs:swapsWith e none pos.line X.env=pure false:=by rfl):PS X (.Expr e pos) (tDrop te):=by
 intro pins s σ H D I h
 exact wpAny_Expr_any (thn (he pins s σ H _ I h) fun v s1 ⟨x,H1,I1,r1,q1⟩=>⟨σ,H1,I1,q1⟩) I.quiet hs
def tRet (te:TE):TS:=fun D σ H=>te σ H D.rt
theorem ps_ret (he:PE X e te):PS X (.Return (some e) pos) (tRet te):=by
 intro pins s σ H D I h
 exact wpAny_Return_some (thn (he pins s σ H _ I h) fun v s1 ⟨x,H1,I1,r1,q1⟩=>⟨x,σ,H1,I1,r1,q1⟩)
def tIfS (c:TT) (t u:TS):TS:=fun D σ H=>c σ H fun b H1=>if b=true then t D σ H1 else u D σ H1
theorem ps_if {c:Expr}{a b:List Stmt}{tc:TT} (hc:PT X c tc) (ha:PSs X a t) (hb:PSs X b u):PS X (.If c a b pos) (tIfS tc t u):=by
 intro pins s σ H D I h
 refine wpAny_If (thn (hc pins s σ H _ I h) fun d s1 ⟨H1,I1,q1⟩=>?_)
 cases d with
 | true=>exact ha pins s1 σ H1 D I1 q1
 | false=>exact hb pins s1 σ H1 D I1 q1
end
abbrev TG:=V->St->Hp->(St->Hp->Prop)->Prop
abbrev TGs:=List V->St->Hp->(St->Hp->Prop)->Prop
def PG (X:Cx) (target:Expr) (t:TG):Prop:=
 ∀ (pins:List (Addr×Obj)) (s:Shared) (σ:St) (H:Hp) (v:V) (u:Value) (Q:St->Hp->Prop),Inv X pins σ H s->RelV v u->t v σ H Q ->
  wpAny (model X.prog X.w) X.A (assign target X.env u) (fun _ s'=>∃ σ' H',Inv X pins σ' H' s'/\Q σ' H') X.xe s
def PGs (X:Cx) (ts:List Expr) (t:TGs):Prop:=
 ∀ (pins:List (Addr×Obj)) (s:Shared) (σ:St) (H:Hp) (vs:List V) (us:List Value) (Q:St->Hp->Prop),Inv X pins σ H s->Vals vs us->t vs σ H Q ->
  wpAny (model X.prog X.w) X.A (assignInOrder ((assignEach ts X.env).map (·.2)) us) (fun _ s'=>∃ σ' H',Inv X pins σ' H' s'/\Q σ' H') X.xe s
abbrev TSet:=V->V->V->Hp->(Hp->Prop)->Prop
def PSet (X:Cx) (t:TSet):Prop:=
 ∀ (pins:List (Addr×Obj)) (s:Shared) (σ:St) (H:Hp) (o i v:V) (ov iv u:Value) (Q:Hp->Prop),Inv X pins σ H s->RelV o ov->RelV i iv->RelV v u->t o i v H Q ->
  wpAny (model X.prog X.w) X.A (setItem ov iv u) (fun _ s'=>∃ H',Inv X pins σ H' s'/\Q H') X.xe s
section
variable {X:Cx}{pos:Pos}
def gName (i:Nat):TG:=fun v σ H Q=>Q (σ.set i (some v)) H
theorem pg_name {i:Nat}{x:Str} (hN:X.N.Nodup) (hi:X.N[i]?=some x) (hx:Loc X.env.scope x) (hf:X.fn x=true\/X.env.scope.names.lookup x=some .local:=by first | exact .inl rfl | exact .inr rfl | assumption):PG X (.Name x pos) (gName i):=by
 intro pins s σ H v u Q I r h
 exact wpAny_assign_Name (store_ok I hN hi hx r (fun s' I'=>⟨_,H,I',h⟩) hf)
def gNil:TGs:=fun vs σ H Q=>vs=[]/\Q σ H
def gCons (t:TG) (u:TGs):TGs:=fun vs σ H Q=>∃ v r,vs=v::r/\t v σ H fun σ' H'=>u r σ' H' Q
theorem pgs_nil:PGs X [] gNil:=by
 intro pins s σ H vs us Q I r h
 obtain⟨e,h⟩:=h
 subst e
 cases r
 exact assignInOrder_nil ⟨σ,H,I,h⟩
theorem pgs_cons {e:Expr}{es:List Expr}{t:TG}{u:TGs} (h1:PG X e t) (h2:PGs X es u)
  (hs:(assignEach (e::es) X.env).map (·.2)=assign e X.env::(assignEach es X.env).map (·.2):=by rfl):PGs X (e::es) (gCons t u):=by
 intro pins s σ H vs us Q I r h
 obtain⟨v,vr,e1,h⟩:=h
 subst e1
 cases r with
 | cons r rr=>
  rw[hs]
  refine assignInOrder_cons (thn (h1 pins s σ H _ _ _ I r h) fun _ s1 ⟨σ1,H1,I1,q1⟩=>?_)
  exact h2 pins s1 σ1 H1 _ _ Q I1 rr q1
def gTup (K:PySem.W.Frag) (n:Nat) (t:TGs):TG:=fun v σ H Q=>∃ a xs,v=.ref a/\SqT K H a xs/\xs.length=n/\t xs σ H Q
theorem pg_tup {es:List Expr}{k:Nat}{t:TGs}{n:Nat} (hc:X.calm=true) (h:PGs X es t)
  (hn:(assignEach es X.env).length=n:=by rfl) (hst:(assignEach es X.env).findIdx? (·.1)=none:=by rfl):PG X (.Tuple es k pos) (gTup X.K n t):=by
 intro pins s σ H v u Q I r hw
 obtain⟨a,xs,e1,hq,hl,hw⟩:=hw
 subst e1
 cases r
 obtain⟨its,rv,ht,hz⟩:=I.tuple hq
 refine assign_Tuple_tuple (I.ok.hd hc) ht (by simp [hn,<- hl,rv.length]) hst fun h' hx=>?_
 have I1:Inv X pins σ H { s with heap:=h' }:=I.kept (t':=s.toks) fun b o e=>hx b o (Nat.ne_of_lt (Heap.lt_size e)) e
 exact h pins _ σ H xs _ Q I1 (by simpa using rv) hw
def gSub (to ti:TE) (t:TSet):TG:=fun v σ H Q=>to σ H fun o H1=>ti σ H1 fun i H2=>t o i v H2 fun H3=>Q σ H3
theorem pg_sub {o i:Expr}{to ti:TE}{t:TSet} (ho:PE X o to) (hi:PE X i ti) (hs:PSet X t)
  (ha:∀ v,assign (.Subscript o i pos) X.env v=(do
   let ov <- holding [v] (eval o X.env)
   let iv <- holding [v,ov] (eval i X.env)
   standAt pos
   holding [v,ov,iv] (setItem ov iv v)
   release [v,ov,iv] []):=by intro _;rfl):PG X (.Subscript o i pos) (gSub to ti t):=by
 intro pins s σ H v u Q I r h
 rw[ha]
 refine wpAny_bind (wpAny_holding (thn (ho pins s σ H _ I h) fun ov s1 ⟨x,H1,I1,r1,q1⟩=>?_))
 refine wpAny_bind (wpAny_holding (thn (hi pins s1 σ H1 _ I1 q1) fun iv s2 ⟨y,H2,I2,r2,q2⟩=>?_))
 refine wpAny_bind (wpAny_standAt (wpAny_bind (wpAny_holding (thn (hs pins s2 σ H2 x y v ov iv u _ I2 r1 r2 r q2) fun _ s3 ⟨H3,I3,q3⟩=>?_))))
 exact wpAny_release ⟨σ,H3,I3,q3⟩
def tAsg (te:TE) (g:TG):TS:=fun D σ H=>te σ H fun x H1=>g x σ H1 D.nx
theorem ps_asg {tg e:Expr}{te:TE}{g:TG} (he:PE X e te) (hg:PG X tg g) (hs:swapsWithSole [tg] e pos.line X.env=pure false:=by rfl) (hw:swappedStores [tg] e X.env=pure none:=by rfl)
  (h1:(assignEach [tg] X.env).map (·.2)=[assign tg X.env]:=by rfl):PS X (.Assign [tg] e pos) (tAsg te g):=by
 intro pins s σ H D I h
 refine wpAny_Assign_stores (thn (he pins s σ H _ I h) fun v s1 ⟨x,H1,I1,r1,q1⟩=>?_) hs hw
 rw[h1]
 exact thn (hg pins s1 σ H1 x v _ I1 r1 q1) fun _ s2 q=>q
theorem ps_set {i:Nat}{x:Str}{e:Expr}{te:TE}{pos':Pos} (hN:X.N.Nodup) (hi:X.N[i]?=some x) (hx:Loc X.env.scope x) (he:PE X e te) (hs:swapsWith e (some (.Name x pos')) pos.line X.env=pure false:=by rfl) (hf:X.fn x=true\/X.env.scope.names.lookup x=some .local:=by first | exact .inl rfl | exact .inr rfl | assumption) :
  PS X (.Assign [.Name x pos'] e pos) (tAsg te (gName i)):=by
 intro pins s σ H D I h
 refine wpAny_Assign_Name (thn (he pins s σ H _ I h) fun v s1 ⟨y,H1,I1,r1,q1⟩=>?_) hs
 exact store_ok I1 hN hi hx r1 (fun s2 I2=>⟨_,H1,I2,q1⟩) hf
end
section
variable {X:Cx}{pos:Pos}
def tWhile (c:TT) (tb:TS):TS:=fun D σ H=>∃ W:Nat->St->Hp->Prop,(∃ m,W m σ H)/\∀ m σ H,W m σ H ->
 c σ H fun b H1=>if b=true then ∃ N:St->Hp->Prop,(∀ σ' H',N σ' H'->∃ m',m'<m/\W m' σ' H')/\tb { D with nx:=N,ct:=N,bk:=D.nx } σ H1 else D.nx σ H1
theorem ps_while {c:Expr}{body:List Stmt}{tc:TT}{tb:TS} (hp:PassesOwn (model X.prog X.w) X.A X.env X.xe) (hc:PT X c tc) (hb:PSs X body tb):PS X (.While c body [] pos) (tWhile tc tb):=by
 intro pins s σ H D I h
 obtain⟨W,⟨m0,w0⟩,turn⟩:=h
 refine wpAny_While (codeAny_whileLoop (fun n s'=>∃ σ' H',Inv X pins σ' H' s'/\W n σ' H') ?_ m0 ⟨σ,H,I,w0⟩)
 rintro n s1 ⟨σ1,H1,I1,w1⟩
 refine wpAny_passesOwn hp (thn (hc pins s1 σ1 H1 _ I1 (turn n σ1 H1 w1)) fun b s2 ⟨H2,I2,q2⟩=>?_)
 cases b with
 | true=>
  obtain⟨N,hN,q2⟩:=q2
  rw[if_pos rfl]
  refine wpAny_passesOwn hp (thn (hb pins s2 σ1 H2 _ I2 q2) fun f s3 q3=>?_)
  cases f with
  | next=>
   obtain⟨σ3,H3,I3,n3⟩:=q3
   obtain⟨m',hm,w3⟩:=hN σ3 H3 n3
   exact⟨m',hm,σ3,H3,I3,w3⟩
  | cont=>
   obtain⟨σ3,H3,I3,n3⟩:=q3
   obtain⟨m',hm,w3⟩:=hN σ3 H3 n3
   exact⟨m',hm,σ3,H3,I3,w3⟩
  | brk=>exact q3
  | ret v=>exact q3
 | false=>
  rw[if_neg Bool.false_ne_true]
  exact wpAny_execs_nil ⟨σ1,H2,I2,q2⟩
end
structure It where
 go:Nat->Hp->Prop
 yld:Nat->Hp->V->Hp->Prop
 stop:Nat->Hp->Prop
def FpOk (X:Cx) (pins:List (Addr×Obj)) (H:Hp) (b:Addr):Prop:=
 H b=none/\b≠X.env.locals/\b ∉ X.fs/\(b∈X.ex\/X.s₀.heap.objs.size<=b)/\(∀ x c,X.env.cells.lookup x=some c->c≠b)/\∀ p∈X.pn++pins,p.1≠b
theorem Inv.fpOk {X:Cx}{pins:List (Addr×Obj)} {σ:St} {H H':Hp}{s:Shared}{b:Addr} (I:Inv X pins σ H s) (hb:s.heap.objs.size<=b) (hn:H' b=none):FpOk X pins H' b:=by
 refine⟨hn,Nat.ne_of_gt (Nat.lt_of_lt_of_le I.lt hb),I.nofs hb,.inr (Nat.le_trans I.sz hb),fun x c e z=>?_,fun p hp z=>?_⟩
 ·obtain⟨v,q⟩:=I.cell x c e
  exact absurd (Nat.lt_of_lt_of_le q.lt (by rw[z];exact hb)) (Nat.lt_irrefl _)
 ·exact absurd (Nat.lt_of_lt_of_le (Heap.lt_size (I.pin p hp).1) (by rw[z];exact hb)) (Nat.lt_irrefl _)
structure Turn (P:Program) (w:World) (K:PySem.W.Frag) (tg:Expr) (J:It) (fp:List Addr) (it:Addr) (tn:Nat->Heap->Prop):Prop where
 mem:it∈fp
 obj:∀ i h,tn i h->∀ b∈fp,∃ o,h.get? b=some o/\∀ v,o.data≠.cell v
 keep:∀ i h h',tn i h->(∀ b∈fp,∀ o,h.get? b=some o->h'.get? b=some o)->tn i h'
 item:∀ (X:Cx),X.prog=P->X.w=w->X.K=K->X.calm=true->∀ (i:Nat) (pins:List (Addr×Obj)) (s:Shared) (σ:St) (H:Hp) (E:Value->Shared->Prop),Inv X pins σ H s->(∀ b∈fp,FpOk X pins H b)->tn i s.heap->J.go i H ->
  wpAny (model P w) X.A (pyNext (.ref it)) (fun r s1=>∃ u,r=some u /\
   wpAny (model P w) X.A (letOwnedTupleGo tg (.ref it) u) (fun _ s2=>∃ x H',Inv X pins σ H' s2/\RelV x u/\J.yld i H x H'/\tn (i+1) s2.heap/\∀ b∈fp,H' b=none) E s1) E s
 done:∀ (X:Cx),X.prog=P->X.w=w->X.K=K->X.calm=true->∀ (i:Nat) (pins:List (Addr×Obj)) (s:Shared) (σ:St) (H:Hp) (E:Value->Shared->Prop),Inv X pins σ H s->(∀ b∈fp,FpOk X pins H b)->tn i s.heap->J.stop i H ->
  wpAny (model P w) X.A (pyNext (.ref it)) (fun r s1=>r=none/\Inv X pins σ H s1) E s
 self:∀ (A:Around) (i:Nat) (s:Shared) (Q:Value->Shared->Prop) (E:Value->Shared->Prop),tn i s.heap->Q (.ref it) s->wpAny (model P w) A (pyIter (.ref it)) Q E s
abbrev TI:=St->Hp->(It->Hp->Prop)->Prop
def PIE (X:Cx) (pins:List (Addr×Obj)) (σ:St) (tg:Expr) (R:It->Hp->Prop) (itv:Value) (s2:Shared):Prop:=
 ∃ (it:Addr) (fp:List Addr) (tn:Nat->Heap->Prop) (J:It) (H':Hp),itv=.ref it/\Inv X pins σ H' s2/\Turn X.prog X.w X.K tg J fp it tn/\tn 0 s2.heap/\(∀ b∈fp,FpOk X pins H' b)/\R J H'
def PI (X:Cx) (tg iter:Expr) (wi:TI):Prop:=
 ∀ (pins:List (Addr×Obj)) (s:Shared) (σ:St) (H:Hp) (R:It->Hp->Prop),Inv X pins σ H s->wi σ H R ->
  wpAny (model X.prog X.w) X.A (eval iter X.env) (fun v s1=>wpAny (model X.prog X.w) X.A (pyIter v) (PIE X pins σ tg R) X.xe s1) X.xe s
theorem go_of {M:Model}{A:Around}{E:Value->Shared->Prop}{s:Shared}{tg:Expr}{it:Addr}{u:Value}{o:Obj}{n:String}{vs:Array Value}{Q:Unit->Shared->Prop} (ho:s.heap.get? it=some o) (hc:o.cls=.type n) (hd:o.data=.fields vs)
    (hn:["enumerate","zip","dict_itemiterator","dict_reverseitemiterator","odict_iterator","itertools.zip_longest","itertools.pairwise"].contains n=false) (hQ:Q () s):wpAny M A (letOwnedTupleGo tg (.ref it) u) Q E s:=by
  unfold letOwnedTupleGo
  cases tg <;> first
    | exact wpAny_pure hQ
    | (cases u <;> first
        | exact wpAny_pure hQ
        | (refine wpAny_bind (wpAny_load ho ?_)
           rw[hc,hd]
           show wpAny M A (if (["enumerate","zip","dict_itemiterator","dict_reverseitemiterator","odict_iterator","itertools.zip_longest","itertools.pairwise"].contains n && vs[0]? == some (rawInt _))=true then _ else _) Q E s
           rw[if_neg (by intro h;rw[hn,Bool.false_and]at h;cases h)]
           exact wpAny_pure hQ))
def Itl (K:PySem.W.Frag) (a:Addr):It:=
 ⟨fun i H=>∃ xs x,SqL K H a xs/\xs[i]?=some x,fun i H x H'=>H'=H/\∀ xs,SqL K H a xs->xs[i]?=some x,fun i H=>∃ xs,SqL K H a xs/\xs.length<=i⟩
def Itt (K:PySem.W.Frag) (a:Addr):It:=
 ⟨fun i H=>∃ xs x,SqT K H a xs/\xs[i]?=some x,fun i H x H'=>H'=H/\∀ xs,SqT K H a xs->xs[i]?=some x,fun i H=>∃ xs,SqT K H a xs/\xs.length<=i⟩
def Itr (lo:Int) (n:Nat):It:=⟨fun i _=>i<n,fun i H x H'=>H'=H/\x=.int (lo+i),fun i _=>n<=i⟩
theorem turn_list {P:Program}{w:World}{K:PySem.W.Frag}{tg:Expr} (a it:Addr):Turn P w K tg (Itl K a) [it] it (fun i h=>h.IsListIter it a i) where
 mem:=by simp
 obj:=fun i h st b hb=>by
  have e:b=it:=by simpa using hb
  subst e
  obtain⟨o,e,c,d⟩:=st
  exact⟨o,e,fun v z=>by rw[d]at z;cases z⟩
 keep:=fun i h h' st k=>st.at fun o e=>k it (by simp) o e
 item:=by
  intro X hP hw hK hc i pins s σ H E I hf st hg
  subst hP hw hK
  obtain⟨xs,x,hq,hx⟩:=hg
  obtain⟨its,rv,p,hz⟩:=I.list hq
  obtain⟨u,hu,ru⟩:=rv.get hx
  obtain⟨f0,f1,f2,f3,f4,f5⟩:=hf it (by simp)
  refine wpAny_pyNext_list_item st p.isList (x:=u) (by simpa using hu) fun h' st' sb=>?_
  have I1:Inv X pins σ H { s with heap:=h' }:=I.turned (t':=s.toks) (fun b o hb e=>(sb.2 b hb).trans e) f0 f1 f3 f4 f5
  obtain⟨o,e,c,d⟩:=id st'
  exact⟨u,rfl,go_of (s:={ s with heap:=h' }) e c d (by decide) ⟨x,H,I1,ru,⟨rfl,fun ys hy=>by rw[I.list_inj hy hq];exact hx⟩,st',fun b hb=>(hf b hb).1⟩⟩
 done:=by
  intro X hP hw hK hc i pins s σ H E I hf st hg
  subst hP hw hK
  obtain⟨xs,hq,hx⟩:=hg
  obtain⟨its,rv,p,hz⟩:=I.list hq
  obtain⟨f0,f1,f2,f3,f4,f5⟩:=hf it (by simp)
  have hl:=rv.length
  exact wpAny_pyNext_list_end (I.ok.hd hc) st p.isList (by simp;lia) fun h' eb=>⟨rfl,I.turned (t':=s.toks) (fun b o hb e=>eb b o hb e) f0 f1 f3 f4 f5⟩
 self:=fun _ _ _ _ _ st h=>wpAny_pyIter_listiter st h
theorem turn_tuple {P:Program}{w:World}{K:PySem.W.Frag}{tg:Expr} (a it:Addr):Turn P w K tg (Itt K a) [it] it (fun i h=>h.IsTupleIter it a i) where
 mem:=by simp
 obj:=fun i h st b hb=>by
  have e:b=it:=by simpa using hb
  subst e
  obtain⟨o,e,c,d⟩:=st
  exact⟨o,e,fun v z=>by rw[d]at z;cases z⟩
 keep:=fun i h h' st k=>st.at fun o e=>k it (by simp) o e
 item:=by
  intro X hP hw hK hc i pins s σ H E I hf st hg
  subst hP hw hK
  obtain⟨xs,x,hq,hx⟩:=hg
  obtain⟨its,rv,p,hz⟩:=I.tuple hq
  obtain⟨u,hu,ru⟩:=rv.get hx
  obtain⟨f0,f1,f2,f3,f4,f5⟩:=hf it (by simp)
  refine wpAny_pyNext_tuple_item st (show s.heap.IsTuple a its.toArray from p) (x:=u) (by simpa using hu) fun h' st' sb=>?_
  have I1:Inv X pins σ H { s with heap:=h' }:=I.turned (t':=s.toks) (fun b o hb e=>(sb.2 b hb).trans e) f0 f1 f3 f4 f5
  obtain⟨o,e,c,d⟩:=id st'
  exact⟨u,rfl,go_of (s:={ s with heap:=h' }) e c d (by decide) ⟨x,H,I1,ru,⟨rfl,fun ys hy=>by rw[I.tuple_inj hy hq];exact hx⟩,st',fun b hb=>(hf b hb).1⟩⟩
 done:=by
  intro X hP hw hK hc i pins s σ H E I hf st hg
  subst hP hw hK
  obtain⟨xs,hq,hx⟩:=hg
  obtain⟨its,rv,p,hz⟩:=I.tuple hq
  obtain⟨f0,f1,f2,f3,f4,f5⟩:=hf it (by simp)
  have hl:=rv.length
  exact wpAny_pyNext_tuple_end (I.ok.hd hc) st (show s.heap.IsTuple a its.toArray from p) (by simp;lia) fun h' eb=>⟨rfl,I.turned (t':=s.toks) (fun b o hb e=>eb b o hb e) f0 f1 f3 f4 f5⟩
 self:=fun _ _ _ _ _ st h=>wpAny_pyIter_tupleiter st h
theorem turn_range {P:Program}{w:World}{K:PySem.W.Frag}{tg:Expr} (it:Addr) (lo:Int) (n:Nat):Turn P w K tg (Itr lo n) [it] it (fun i h=>IsRangeIter h it (lo+(i:Nat) * 1) ((n:Int)-(i:Nat)) 1) where
 mem:=by simp
 obj:=fun i h st b hb=>by
  have e:b=it:=by simpa using hb
  subst e
  exact⟨_,st,fun v z=>by
   have z':Data.fields _=Data.cell v:=z
   cases z'⟩
 keep:=fun i h h' st k=>k it (by simp) _ st
 item:=by
  intro X hP hw hK hc i pins s σ H E I hf st hg
  subst hP hw hK
  obtain⟨f0,f1,f2,f3,f4,f5⟩:=hf it (by simp)
  have W:=Walks.range (prog:=X.prog) (w:=X.w) (I.ok.hd hc) it lo 1 n
  refine W.item i s _ _ hg st fun v h' tk hv st' kk=>?_
  obtain⟨t,rfl⟩:=hv
  have I1:Inv X pins σ H { s with heap:=h',toks:=tk }:=I.turned (fun b o hb e=>kk b o (by simpa using hb) e) f0 f1 f3 f4 f5
  refine⟨_,rfl,go_of (s:={ s with heap:=h',toks:=tk }) (n:="range_iterator") st' rfl rfl (by decide) ⟨.int (lo+i),H,I1,⟨t,?_⟩,⟨rfl,rfl⟩,st',fun b hb=>(hf b hb).1⟩⟩
  rw[Int.mul_one]
 done:=by
  intro X hP hw hK hc i pins s σ H E I hf st hg
  subst hP hw hK
  obtain⟨f0,f1,f2,f3,f4,f5⟩:=hf it (by simp)
  exact wpAny_pyNext_range_end (I.ok.hd hc) st (by have:n<=i:=hg;lia) fun h' eb=>⟨rfl,I.turned (t':=s.toks) (fun b o hb e=>eb b o hb e) f0 f1 f3 f4 f5⟩
 self:=fun _ _ _ _ _ st h=>wpAny_pyIter_rangeiter st h
end L2
namespace L2
open PySem PySem.Spec PyProof.Rows
section
variable {X:Cx}{tg:Expr}
def iList (K:PySem.W.Frag) (tl:TE):TI:=fun σ H R=>tl σ H fun x H1=>∃ a,x=.ref a/\(∃ xs,SqL K H1 a xs)/\R (Itl K a) H1
def iTup (K:PySem.W.Frag) (tl:TE):TI:=fun σ H R=>tl σ H fun x H1=>∃ a,x=.ref a/\(∃ xs,SqT K H1 a xs)/\R (Itt K a) H1
theorem pi_list {l:Expr}{tl:TE} (hl:PE X l tl):PI X tg l (iList X.K tl):=by
 intro pins s σ H R I h
 refine thn (hl pins s σ H _ I h) fun v s1 ⟨x,H1,I1,r1,q1⟩=>?_
 obtain⟨a,e,⟨xs,hq⟩,q⟩:=q1
 subst e
 cases r1
 obtain⟨its,rv,p,hz⟩:=I1.list hq
 refine wpAny_pyIter_list p.isList ?_
 refine⟨s1.heap.objs.size,[s1.heap.objs.size],_,_,H1,rfl,I1.kept (t':=s1.toks) fun b o e=>Heap.get?_push_of_some _ e,turn_list a _,⟨_,Heap.get?_push_size _ rfl,rfl,rfl⟩,fun b hb=>?_,q⟩
 have e:b=s1.heap.objs.size:=by simpa using hb
 subst e
 exact I1.fpOk (Nat.le_refl _) (I1.hok.fresh (Nat.le_refl _))
theorem pi_tup {l:Expr}{tl:TE} (hl:PE X l tl):PI X tg l (iTup X.K tl):=by
 intro pins s σ H R I h
 refine thn (hl pins s σ H _ I h) fun v s1 ⟨x,H1,I1,r1,q1⟩=>?_
 obtain⟨a,e,⟨xs,hq⟩,q⟩:=q1
 subst e
 cases r1
 obtain⟨its,rv,p,hz⟩:=I1.tuple hq
 refine wpAny_pyIter_tuple (show s1.heap.IsTuple a its.toArray from p) ?_
 refine⟨s1.heap.objs.size,[s1.heap.objs.size],_,_,H1,rfl,I1.kept (t':=s1.toks) fun b o e=>Heap.get?_push_of_some _ e,turn_tuple a _,⟨_,Heap.get?_push_size _ rfl,rfl,rfl⟩,fun b hb=>?_,q⟩
 have e:b=s1.heap.objs.size:=by simpa using hb
 subst e
 exact I1.fpOk (Nat.le_refl _) (I1.hok.fresh (Nat.le_refl _))
theorem range_it {pins:List (Addr×Obj)} {σ:St} {H:Hp}{s:Shared}{R:It->Hp->Prop}{E:Value->Shared->Prop}{lo hi:Int}{t u v:Tok}{tk:Nat} (I:Inv X pins σ H s) (h1:-(2 ^ 62)<=lo) (h2:lo<2 ^ 62) (h3:-(2 ^ 62)<=hi) (h4:hi<2 ^ 62)
  (q:R (Itr lo (hi-lo).toNat) H):wpAny (model X.prog X.w) X.A (pyIter (.ref s.heap.objs.size)) (PIE X pins σ tg R) E { s with heap:=s.heap.push { cls:=.type "range",data:=.fields #[.int lo t,.int hi u,.int 1 v] },toks:=tk }:=by
 refine wpAny_pyIter_range (IsRange.new ..) (small_one h1 h2 h3 h4) ?_
 have I1:Inv X pins σ H { s with heap:=s.heap.push { cls:=.type "range",data:=.fields #[.int lo t,.int hi u,.int 1 v] },toks:=tk }:=I.kept fun b o e=>Heap.get?_push_of_some _ e
 refine⟨(s.heap.push { cls:=.type "range",data:=.fields #[.int lo t,.int hi u,.int 1 v] }).objs.size,[(s.heap.push { cls:=.type "range",data:=.fields #[.int lo t,.int hi u,.int 1 v] }).objs.size],_,_,H,rfl,
  I1.kept (t':=tk) fun b o e=>Heap.get?_push_of_some _ e,turn_range _ lo (hi-lo).toNat,?_,fun b hb=>?_,q⟩
 ·have e1:lo+((0:Nat):Int) * 1=lo:=by simp
  have e2:(((hi-lo).toNat:Nat):Int)-((0:Nat):Int)=Builtin.Range.rangeSize lo hi 1:=by rw[rangeSize_one];split <;> lia
  show IsRangeIter _ _ (lo+((0:Nat):Int) * 1) ((((hi-lo).toNat:Nat):Int)-((0:Nat):Int)) 1
  rw[e1,e2]
  exact Heap.get?_push_size _ rfl
 ·have e:b=(s.heap.push { cls:=.type "range",data:=.fields #[.int lo t,.int hi u,.int 1 v] }).objs.size:=by simpa using hb
  subst e
  exact I1.fpOk (Nat.le_refl _) (I1.hok.fresh (Nat.le_refl _))
def iRng1 (ta:TA):TI:=fun σ H R=>ta σ H fun vs H1=>∃ j:Int,vs=[.int j]/\-(2 ^ 62)<=j/\j<2 ^ 62/\R (Itr 0 j.toNat) H1
theorem pi_range1 {a:Expr}{ta:TA}{p pos:Pos} (hg:Gl X "range") (hm:X.mg "range"=none) (ha:PA X [a] ta) (hs:starEach [a] X.env=[(false,eval a X.env)]:=by rfl):PI X tg (.Call (.Name "range" p) [a] [] pos) (iRng1 ta):=by
 intro pins s σ H R I h
 refine Call_ (ld_blt I hg hm boot_range (PyProof.Rows.callWith_type1 (thn (ha pos pins s σ H _ I h) fun us s1 ⟨vs,H1,I1,r1,q1⟩=>?_) hs rfl))
 obtain⟨j,e,q1,q2,q⟩:=q1
 subst e
 cases r1 with
 | cons r rr=>
  cases rr
  obtain⟨t,rfl⟩:=r
  exact call_range_1 (range_it I1 (by lia) (by lia) q1 q2 (by simpa using q))
def tFor (wi:TI) (g:TG) (tb:TS):TS:=fun D σ H=>wi σ H fun J H1=>∃ W:Nat->Nat->St->Hp->Prop,(∃ m,W 0 m σ H1)/\∀ i m σ H,W i m σ H ->
 (J.stop i H/\D.nx σ H)\/(J.go i H/\∃ N:St->Hp->Prop,(∀ σ' H',N σ' H'->∃ m',m'<m/\W (i+1) m' σ' H')/\∀ x H',J.yld i H x H'->g x σ H' fun σ2 H2=>tb { D with nx:=N,ct:=N,bk:=D.nx } σ2 H2)
def pinsAt (fp:List Addr) (h:Heap):List (Addr×Obj):=fp.filterMap fun b=>(h.get? b).map fun o=>(b,o)
theorem mem_pinsAt {fp:List Addr}{h:Heap}{b:Addr}{o:Obj} (hb:b∈fp) (e:h.get? b=some o):(b,o)∈pinsAt fp h:=List.mem_filterMap.mpr ⟨b,hb,by rw[e];rfl⟩
theorem of_pinsAt {fp:List Addr}{h:Heap}{p:Addr×Obj} (hp:p∈pinsAt fp h):p.1∈fp/\h.get? p.1=some p.2:=by
 obtain⟨b,hb,e⟩:=List.mem_filterMap.mp hp
 cases q:h.get? b with
 | none=>rw[q]at e;cases e
 | some o=>
  rw[q]at e
  have e':(b,o)=p:=Option.some.inj e
  subst e'
  exact⟨hb,q⟩
theorem Inv.pinned {pins:List (Addr×Obj)} {σ:St} {H:Hp}{s:Shared}{fp:List Addr} (I:Inv X pins σ H s) (hf:∀ b∈fp,FpOk X pins H b) (ho:∀ b∈fp,∃ o,s.heap.get? b=some o/\∀ v,o.data≠.cell v):Inv X (pins++pinsAt fp s.heap) σ H s:=
 I.pins_of fun p hp=>(List.mem_append.mp hp).elim (fun z=>I.pin p (List.mem_append_right _ z)) fun z=>by
  obtain⟨hb,e⟩:=of_pinsAt z
  obtain⟨f0,f1,f2,_⟩:=hf p.1 hb
  obtain⟨o,e',d⟩:=ho p.1 hb
  rw[e]at e';cases e'
  exact⟨e,f0,f1,f2,d⟩
theorem Inv.unpinned {pins pl:List (Addr×Obj)} {σ:St} {H:Hp}{s:Shared} (I:Inv X (pins++pl) σ H s):Inv X pins σ H s:=I.pins_of fun p hp=>I.pin p (List.mem_append_right _ (List.mem_append_left _ hp))
theorem ps_for {iter:Expr}{body:List Stmt}{wi:TI}{g:TG}{tb:TS}{pos:Pos} (hp:PassesOwn (model X.prog X.w) X.A X.env X.xe) (hc:X.calm=true) (hi:PI X tg iter wi) (hg:PG X tg g) (hb:PSs X body tb)
  (hs:∀ x,foldedSetIterable iter X.env x=pure x:=by intro _;rfl):PS X (.For tg iter body [] pos) (tFor wi g tb):=by
 intro pins s σ H D I h
 refine wpAny_For (thn (hi pins s σ H _ I h) fun v s1 h1=>thn h1 fun itv s2 h2=>?_) hs
 obtain⟨it,fp,tn,J,H2,e,I2,T,st2,f2,W,⟨m0,w0⟩,turn⟩:=h2
 subst e
 -- what stays true of the iterator's objects through the loop
 have stat:∀ {H':Hp},(∀ b∈fp,H' b=none)->∀ b∈fp,FpOk X pins H' b:=fun hn b hb=>⟨hn b hb,(f2 b hb).2⟩
 refine codeAny_forLoop_any (fun n s'=>∃ i σ' H',Inv X pins σ' H' s'/\tn i s'.heap/\(∀ b∈fp,H' b=none)/\W i n σ' H') ?_ m0 ⟨0,σ,H2,I2,st2,fun b hb=>(f2 b hb).1,w0⟩
 rintro n s3 ⟨i,σ3,H3,I3,st3,fr3,w3⟩
 rcases turn i n σ3 H3 w3 with ⟨stop,qn⟩ | ⟨go,N,hN,step⟩
 ·refine wpAny_passesOwn hp (thn (T.done X rfl rfl rfl hc i pins s3 σ3 H3 X.xe I3 (stat fr3) st3 stop) fun r s4 ⟨hr,I4⟩=>?_)
  subst hr
  exact wpAny_execs_nil ⟨σ3,H3,I4,qn⟩
 ·refine wpAny_passesOwn hp (thn (T.item X rfl rfl rfl hc i pins s3 σ3 H3 X.xe I3 (stat fr3) st3 go) fun r s4 ⟨u,hr,h4⟩=>?_)
  subst hr
  refine wpAny_passesOwn hp (thn h4 fun _ s5 ⟨x,H5,I5,r5,y5,st5,fr5⟩=>?_)
  have I5':=I5.pinned (stat fr5) (T.obj _ _ st5)
  refine wpAny_passesOwn hp (thn (hg _ s5 σ3 H5 x u _ I5' r5 (step x H5 y5)) fun _ s6 ⟨σ6,H6,I6,q6⟩=>?_)
  refine wpAny_passesOwn hp (thn (hb _ s6 σ6 H6 _ I6 q6) fun f s7 q7=>?_)
  have again:∀ {σ7:St} {H7:Hp},Inv X (pins++pinsAt fp s5.heap) σ7 H7 s7->N σ7 H7->∃ m,m<n/\∃ i σ' H',Inv X pins σ' H' s7/\tn i s7.heap/\(∀ b∈fp,H' b=none)/\W i m σ' H':=fun {σ7 H7} I7 n7=>by
   obtain⟨m',hm,w7⟩:=hN σ7 H7 n7
   refine⟨m',hm,i+1,σ7,H7,I7.unpinned,T.keep _ _ _ st5 fun b hb o e=>(I7.pin (b,o) (List.mem_append_right _ (List.mem_append_right _ (mem_pinsAt hb e)))).1,fun b hb=>?_,w7⟩
   obtain⟨o,e,d⟩:=T.obj _ _ st5 b hb
   exact (I7.pin (b,o) (List.mem_append_right _ (List.mem_append_right _ (mem_pinsAt hb e)))).2.1
  cases f with
  | next=>obtain⟨σ7,H7,I7,n7⟩:=q7;exact again I7 n7
  | cont=>obtain⟨σ7,H7,I7,n7⟩:=q7;exact again I7 n7
  | brk=>obtain⟨σ7,H7,I7,q7⟩:=q7;exact⟨σ7,H7,I7.unpinned,q7⟩
  | ret v=>obtain⟨x7,σ7,H7,I7,r7,q7⟩:=q7;exact⟨x7,σ7,H7,I7.unpinned,r7,q7⟩
end
theorem for_list {K:PySem.W.Frag}{a:Addr}{xs:List V}{g:TG}{tb:TS}{D:Ends} {σ:St} {H:Hp} (Pv:Nat->St->Hp->Prop) (h0:Pv 0 σ H) (hl:∀ i σ H,i<=xs.length->Pv i σ H->SqL K H a xs)
  (hs:∀ i x σ H,xs[i]?=some x->Pv i σ H->g x σ H fun σ2 H2=>tb { D with nx:=Pv (i+1),ct:=Pv (i+1),bk:=D.nx } σ2 H2) (hd:∀ σ H,Pv xs.length σ H->D.nx σ H) :
  ∃ W:Nat->Nat->St->Hp->Prop,(∃ m,W 0 m σ H)/\∀ i m σ H,W i m σ H ->
   ((Itl K a).stop i H/\D.nx σ H)\/((Itl K a).go i H/\∃ N:St->Hp->Prop,(∀ σ' H',N σ' H'->∃ m',m'<m/\W (i+1) m' σ' H')/\∀ x H',(Itl K a).yld i H x H'->g x σ H' fun σ2 H2=>tb { D with nx:=N,ct:=N,bk:=D.nx } σ2 H2):=by
 refine⟨fun i m σ H=>m=xs.length-i/\i<=xs.length/\Pv i σ H,⟨xs.length,by simp,Nat.zero_le _,h0⟩,?_⟩
 rintro i m σ H ⟨rfl,hi,p⟩
 have q:=hl i σ H hi p
 by_cases hlt:i<xs.length
 ·refine .inr ⟨⟨xs,xs[i],q,by simp [hlt]⟩,Pv (i+1),fun σ' H' p'=>⟨xs.length-(i+1),by lia,rfl,hlt,p'⟩,fun x H' y=>?_⟩
  obtain⟨e,y⟩:=y
  subst e
  exact hs i x σ _ (y xs q) p
 ·have e:i=xs.length:=by lia
  subst e
  exact .inl ⟨⟨xs,q,Nat.le_refl _⟩,hd σ H p⟩
end L2
namespace L2
open PySem PySem.Spec PyProof.Rows
abbrev R2:=V->V->Hp->VK->Prop
def OpR (X:Cx) (f:Value->Value->Sem Value) (r:R2):Prop:=
 ∀ (pins:List (Addr×Obj)) (s:Shared) (σ:St) (H:Hp) (x y:V) (v u:Value) (Q:VK),Inv X pins σ H s->RelV x v->RelV y u->r x y H Q ->
  wpAny (model X.prog X.w) X.A (f v u) (EP X pins σ Q) X.xe s
def UnR (X:Cx) (f:Value->Sem Value) (r:V->Hp->VK->Prop):Prop:=
 ∀ (pins:List (Addr×Obj)) (s:Shared) (σ:St) (H:Hp) (x:V) (v:Value) (Q:VK),Inv X pins σ H s->RelV x v->r x H Q ->
  wpAny (model X.prog X.w) X.A (f v) (EP X pins σ Q) X.xe s
def CallR (X:Cx) (f:Value) (r:List V->Hp->VK->Prop):Prop:=
 ∀ (pins:List (Addr×Obj)) (s:Shared) (σ:St) (H:Hp) (xs:List V) (us:List Value) (Q:VK),Inv X pins σ H s->Vals xs us->r xs H Q ->
  wpAny (model X.prog X.w) X.A (call f us) (EP X pins σ Q) X.xe s
def TruR (X:Cx) (r:V->Hp->(Bool->Hp->Prop)->Prop):Prop:=
 ∀ (pins:List (Addr×Obj)) (s:Shared) (σ:St) (H:Hp) (x:V) (v:Value) (Q:Bool->Hp->Prop),Inv X pins σ H s->RelV x v->r x H Q ->
  wpAny (model X.prog X.w) X.A (truthy v) (TP X pins σ Q) X.xe s
def tOp (r:R2) (ta tb:TE):TE:=fun σ H Q=>ta σ H fun x H1=>tb σ H1 fun y H2=>r x y H2 Q
def tUn (r:V->Hp->VK->Prop) (ta:TE):TE:=fun σ H Q=>ta σ H fun x H1=>r x H1 Q
def rI (C:Int->Int->Prop) (g:Int->Int->V):R2:=fun x y H Q=>∃ i j,x=.int i/\y=.int j/\C i j/\Q (g i j) H
def rI0 (g:Int->Int->V):R2:=fun x y H Q=>∃ i j,x=.int i/\y=.int j/\Q (g i j) H
def rU (g:Int->V):V->Hp->VK->Prop:=fun x H Q=>∃ i,x=.int i/\Q (g i) H
section
variable {X:Cx}{a b c:Expr}{ta tb tc:TE}{pos:Pos}
theorem binT (ha:PE X a ta) (hb:PE X b tb) {pins:List (Addr×Obj)}{s:Shared} {σ:St} {H:Hp}{R:V->V->Hp->Prop} (I:Inv X pins σ H s)
  (h:ta σ H fun x H1=>tb σ H1 fun y H2=>R x y H2) {Q:Value->Shared->Prop}{f:Value->Value->Sem Value}
  (hf:∀ v u s2 x y H2,Inv X pins σ H2 s2->RelV x v->RelV y u->R x y H2->wpAny (model X.prog X.w) X.A (f v u) Q X.xe s2) :
  wpAny (model X.prog X.w) X.A (eval a X.env) (fun v s₁=>wpAny (model X.prog X.w) X.A (eval b X.env) (fun u s₂=>wpAny (model X.prog X.w) X.A (f v u) Q X.xe s₂) X.xe s₁) X.xe s:=by
 refine thn (ha pins s σ H _ I h) fun v s1 ⟨x,H1,I1,r1,q1⟩=>?_
 refine thn (hb pins s1 σ H1 _ I1 q1) fun u s2 ⟨y,H2,I2,r2,q2⟩=>?_
 exact hf v u s2 x y H2 I2 r1 r2 q2
theorem pe_op {op:Operator}{r:R2} (ho:OpR X (binaryOp op) r) (ha:PE X a ta) (hb:PE X b tb):PE X (.BinOp a op b pos) (tOp r ta tb):=by
 intro pins s σ H Q I h
 exact wpAny_BinOp (binT ha hb I h fun v u s2 x y H2 I2 rx ry q=>ho pins s2 σ H2 x y v u Q I2 rx ry q)
theorem pe_un {op:UnaryOp}{r:V->Hp->VK->Prop} (ho:UnR X (unaryOp op) r) (ha:PE X a ta):PE X (.UnaryOp op a pos) (tUn r ta):=by
 intro pins s σ H Q I h
 exact UnaryOp_ (thn (ha pins s σ H _ I h) fun v s1 ⟨x,H1,I1,r1,q1⟩=>ho pins s1 σ H1 x v Q I1 r1 q1)
theorem opI {f:Value->Value->Sem Value}{C:Int->Int->Prop}{g:Int->Int->Int}
  (rule:∀ (i j:Int) (t u:Tok) (s:Shared) (Q:Value->Shared->Prop) (E:Value->Shared->Prop),C i j->Q (.int (g i j) s.toks) { s with toks:=s.toks+1 }->wpAny (model X.prog X.w) X.A (f (.int i t) (.int j u)) Q E s) :
  OpR X f (rI C fun i j=>.int (g i j)):=by
 intro pins s σ H x y v u Q I rx ry h
 obtain⟨i,j,rfl,rfl,hc,q⟩:=h
 obtain⟨t,rfl⟩:=rx
 obtain⟨t',rfl⟩:=ry
 exact rule i j t t' s _ _ hc ⟨.int (g i j),H,I.tok _,⟨_,rfl⟩,q⟩
theorem opI0 {f:Value->Value->Sem Value}{g:Int->Int->Int}
  (rule:∀ (i j:Int) (t u:Tok) (s:Shared) (Q:Value->Shared->Prop) (E:Value->Shared->Prop),Q (.int (g i j) s.toks) { s with toks:=s.toks+1 }->wpAny (model X.prog X.w) X.A (f (.int i t) (.int j u)) Q E s) :
  OpR X f (rI0 fun i j=>.int (g i j)):=by
 intro pins s σ H x y v u Q I rx ry h
 obtain⟨i,j,rfl,rfl,q⟩:=h
 obtain⟨t,rfl⟩:=rx
 obtain⟨t',rfl⟩:=ry
 exact rule i j t t' s _ _ ⟨.int (g i j),H,I.tok _,⟨_,rfl⟩,q⟩
theorem opB0 {f:Value->Value->Sem Value}{g:Int->Int->Bool}
  (rule:∀ (i j:Int) (t u:Tok) (s:Shared) (Q:Value->Shared->Prop) (E:Value->Shared->Prop),Q (.bool (g i j)) s->wpAny (model X.prog X.w) X.A (f (.int i t) (.int j u)) Q E s) :
  OpR X f (rI0 fun i j=>.bl (g i j)):=by
 intro pins s σ H x y v u Q I rx ry h
 obtain⟨i,j,rfl,rfl,q⟩:=h
 obtain⟨t,rfl⟩:=rx
 obtain⟨t',rfl⟩:=ry
 exact rule i j t t' s _ _ ⟨.bl (g i j),H,I,rfl,q⟩
def CDiv (i j:Int):Prop:=0<j/\j<1073741824
def CPow (i j:Int):Prop:=0<=j/\j<=1000000/\i.natAbs<2 ^ 64
def CMul (i j:Int):Prop:=(-(2 ^ 64)<i/\i<2 ^ 64)\/(-(2 ^ 64)<j/\j<2 ^ 64)
theorem CMul.ok {i j:Int} (h:CMul i j):IntMulOk i j:=by
 rcases h with ⟨h1,h2⟩ | ⟨h1,h2⟩
 ·exact .of_left (intBits_le_64 h1 h2)
 ·exact .of_right (intBits_le_64 h1 h2)
theorem op_add:OpR X (binaryOp .Add) (rI0 fun i j=>.int (i+j)):=opI0 fun _ _ _ _ _ _ _ q=>add_int q
theorem op_sub:OpR X (binaryOp .Sub) (rI0 fun i j=>.int (i-j)):=opI0 fun _ _ _ _ _ _ _ q=>sub_int q
theorem op_mul:OpR X (binaryOp .Mult) (rI CMul fun i j=>.int (i * j)):=opI fun _ _ _ _ _ _ _ hc q=>mul_int q hc.ok
theorem op_fdiv:OpR X (binaryOp .FloorDiv) (rI CDiv fun i j=>.int (i / j)):=opI fun i j _ _ _ _ _ hc q=>by
 have h1:(0:Int)<j:=hc.1
 have h2:j<1073741824:=hc.2
 exact floordiv_int (by lia) (by rw[Int.fdiv_eq_ediv_of_nonneg i (by lia)];exact q) (.inl (PyProof.noPylong_small (by lia)))
theorem op_mod:OpR X (binaryOp .Mod) (rI (fun _ j=>0<j) fun i j=>.int (i % j)):=opI fun i j _ _ _ _ _ hc q=>by
 have h1:(0:Int)<j:=hc
 exact mod_int' (by lia) (by rw[Int.fmod_eq_emod_of_nonneg i (by lia)];exact q)
theorem op_pow:OpR X (binaryOp .Pow) (rI CPow fun i j=>.int (i ^ j.toNat)):=opI fun _ _ _ _ _ _ _ hc q=>pow_int_small hc.1 hc.2.1 hc.2.2 q
theorem unI {f:Value->Sem Value}{g:Int->Int}
  (rule:∀ (i:Int) (t:Tok) (s:Shared) (Q:Value->Shared->Prop) (E:Value->Shared->Prop),Q (.int (g i) s.toks) { s with toks:=s.toks+1 }->wpAny (model X.prog X.w) X.A (f (.int i t)) Q E s) :
  UnR X f (rU fun i=>.int (g i)):=by
 intro pins s σ H x v Q I rx h
 obtain⟨i,rfl,q⟩:=h
 obtain⟨t,rfl⟩:=rx
 exact rule i t s _ _ ⟨.int (g i),H,I.tok _,⟨_,rfl⟩,q⟩
theorem un_neg:UnR X (unaryOp .USub) (rU fun i=>.int (-i)):=unI fun _ _ _ _ _ q=>neg_int q
end
def scal:V->V->Bool
 | .non,.non=>true | .non,.int _=>true | .int _,.non=>true | .non,.bl _=>true | .bl _,.non=>true | .non,.str _=>true | .str _,.non=>true
 | .int _,.int _=>true | .bl _,.bl _=>true | .str _,.str _=>true | .byt _,.byt _=>true
 | .int _,.str _=>true | .str _,.int _=>true | .bl _,.str _=>true | .str _,.bl _=>true
 | _,_=>false
def rEq:R2:=fun x y H Q=>scal x y=true/\Q (.bl (decide (x=y))) H
def rNe:R2:=fun x y H Q=>scal x y=true/\Q (.bl (!decide (x=y))) H
theorem dec_int {i j:Int}:decide (V.int i=V.int j)=(i == j):=by
 rw[Bool.eq_iff_iff]
 simp
theorem dec_bl {i j:Bool}:decide (V.bl i=V.bl j)=(i == j):=by
 rw[Bool.eq_iff_iff]
 simp
theorem dec_str {i j:Str}:decide (V.str i=V.str j)=(i == j):=by
 rw[Bool.eq_iff_iff]
 simp
theorem dec_byt {i j:Array UInt8}:decide (V.byt i=V.byt j)=(i.toList == j.toList):=by
 rw[Bool.eq_iff_iff]
 cases i
 cases j
 simp
section
variable {X:Cx}{a b c:Expr}{ta tb tc:TE}{pos:Pos}
theorem fin_bl {pins:List (Addr×Obj)} {σ:St} {H:Hp}{s:Shared}{Q:VK}{k k':Bool} (I:Inv X pins σ H s) (q:Q (.bl k) H) (e:k=k'):EP X pins σ Q (.bool k') s:=by
 subst e
 exact⟨.bl k,H,I,rfl,q⟩
theorem op_eq:OpR X (compareOp .Eq) rEq:=by
 intro pins s σ H x y v u Q I rx ry h
 obtain⟨hs,q⟩:=h
 cases x with
 | non=>
  cases rx
  cases y with
  | non=>cases ry;exact PySem.EqNone.eq_none_none (fin_bl I q (by simp))
  | bl j=>cases ry;exact PySem.EqNone.eq_none_bool (fin_bl I q (by simp))
  | int j=>obtain⟨t',rfl⟩:=ry;exact PySem.EqNone.eq_none_int (fin_bl I q (by simp))
  | str j=>obtain⟨t',rfl⟩:=ry;exact PySem.EqNone.eq_none_str (fin_bl I q (by simp))
  | _=>exact absurd (show false=true from hs) Bool.false_ne_true
 | bl i=>
  cases rx
  cases y with
  | non=>cases ry;exact PySem.EqNone.eq_bool_none (fin_bl I q (by simp))
  | bl j=>cases ry;exact eq_bool (fin_bl I q dec_bl)
  | str j=>obtain⟨t',rfl⟩:=ry;exact PySem.EqMixed.eq_bool_str (fin_bl I q (by simp))
  | _=>exact absurd (show false=true from hs) Bool.false_ne_true
 | int i=>
  obtain⟨t,rfl⟩:=rx
  cases y with
  | non=>cases ry;exact PySem.EqNone.eq_int_none (fin_bl I q (by simp))
  | int j=>obtain⟨t',rfl⟩:=ry;exact eq_int (fin_bl I q dec_int)
  | str j=>obtain⟨t',rfl⟩:=ry;exact PySem.EqMixed.eq_int_str (fin_bl I q (by simp))
  | _=>exact absurd (show false=true from hs) Bool.false_ne_true
 | str i=>
  obtain⟨t,rfl⟩:=rx
  cases y with
  | non=>cases ry;exact PySem.EqNone.eq_str_none (fin_bl I q (by simp))
  | bl j=>cases ry;exact PySem.EqMixed.eq_str_bool (fin_bl I q (by simp))
  | int j=>obtain⟨t',rfl⟩:=ry;exact PySem.EqMixed.eq_str_int (fin_bl I q (by simp))
  | str j=>obtain⟨t',rfl⟩:=ry;exact eq_str (fin_bl I q dec_str)
  | _=>exact absurd (show false=true from hs) Bool.false_ne_true
 | byt i=>
  obtain⟨t,rfl⟩:=rx
  cases y with
  | byt j=>obtain⟨t',rfl⟩:=ry;exact PySem.W.eq_bytes (fin_bl I q dec_byt)
  | _=>exact absurd (show false=true from hs) Bool.false_ne_true
 | _=>cases y <;> exact absurd (show false=true from hs) Bool.false_ne_true
theorem op_ne:OpR X (compareOp .NotEq) rNe:=by
 intro pins s σ H x y v u Q I rx ry h
 obtain⟨hs,q⟩:=h
 cases x with
 | non=>
  cases rx
  cases y with
  | non=>cases ry;exact PySem.EqNone.ne_none_none (fin_bl I q (by simp))
  | bl j=>cases ry;exact PySem.EqNone.ne_none_bool (fin_bl I q (by simp))
  | int j=>obtain⟨t',rfl⟩:=ry;exact PySem.EqNone.ne_none_int (fin_bl I q (by simp))
  | str j=>obtain⟨t',rfl⟩:=ry;exact PySem.EqNone.ne_none_str (fin_bl I q (by simp))
  | _=>exact absurd (show false=true from hs) Bool.false_ne_true
 | bl i=>
  cases rx
  cases y with
  | non=>cases ry;exact PySem.EqNone.ne_bool_none (fin_bl I q (by simp))
  | bl j=>cases ry;exact ne_bool (fin_bl I q (congrArg not dec_bl))
  | str j=>obtain⟨t',rfl⟩:=ry;exact PySem.EqMixed.ne_bool_str (fin_bl I q (by simp))
  | _=>exact absurd (show false=true from hs) Bool.false_ne_true
 | int i=>
  obtain⟨t,rfl⟩:=rx
  cases y with
  | non=>cases ry;exact PySem.EqNone.ne_int_none (fin_bl I q (by simp))
  | int j=>obtain⟨t',rfl⟩:=ry;exact ne_int (fin_bl I q (congrArg not dec_int))
  | str j=>obtain⟨t',rfl⟩:=ry;exact PySem.EqMixed.ne_int_str (fin_bl I q (by simp))
  | _=>exact absurd (show false=true from hs) Bool.false_ne_true
 | str i=>
  obtain⟨t,rfl⟩:=rx
  cases y with
  | non=>cases ry;exact PySem.EqNone.ne_str_none (fin_bl I q (by simp))
  | bl j=>cases ry;exact PySem.EqMixed.ne_str_bool (fin_bl I q (by simp))
  | int j=>obtain⟨t',rfl⟩:=ry;exact PySem.EqMixed.ne_str_int (fin_bl I q (by simp))
  | str j=>obtain⟨t',rfl⟩:=ry;exact ne_str (fin_bl I q (congrArg not dec_str))
  | _=>exact absurd (show false=true from hs) Bool.false_ne_true
 | byt i=>
  obtain⟨t,rfl⟩:=rx
  cases y with
  | byt j=>obtain⟨t',rfl⟩:=ry;exact PySem.W.ne_bytes (fin_bl I q (congrArg not dec_byt))
  | _=>exact absurd (show false=true from hs) Bool.false_ne_true
 | _=>cases y <;> exact absurd (show false=true from hs) Bool.false_ne_true
theorem op_lt:OpR X (compareOp .Lt) (rI0 fun i j=>.bl (decide (i<j))):=opB0 fun _ _ _ _ _ _ _ q=>lt_int q
theorem op_le:OpR X (compareOp .LtE) (rI0 fun i j=>.bl (decide (i<=j))):=opB0 fun _ _ _ _ _ _ _ q=>le_int q
theorem op_gt:OpR X (compareOp .Gt) (rI0 fun i j=>.bl (decide (j<i))):=opB0 fun _ _ _ _ _ _ _ q=>gt_int q
theorem op_ge:OpR X (compareOp .GtE) (rI0 fun i j=>.bl (decide (j<=i))):=opB0 fun _ _ _ _ _ _ _ q=>ge_int q
theorem OpR.or {f:Value->Value->Sem Value}{r r':R2} (h:OpR X f r) (h':OpR X f r'):OpR X f (fun x y H Q=>r x y H Q\/r' x y H Q):=by
 intro pins s σ H x y v u Q I rx ry q
 rcases q with q | q
 ·exact h pins s σ H x y v u Q I rx ry q
 ·exact h' pins s σ H x y v u Q I rx ry q
theorem nomark (b:Expr) {op:CmpOp} (h:op≠.In:=by decide) (h2:op≠.NotIn:=by decide):behindInMarks op b=false:=by
 have e1:(op == CmpOp.In)=false:=by cases op <;> first | rfl | exact absurd rfl h
 have e2:(op == CmpOp.NotIn)=false:=by cases op <;> first | rfl | exact absurd rfl h2
 cases b <;> simp [behindInMarks,e1,e2]
theorem pe_cmpR {op:CmpOp}{r:R2} (ho:OpR X (compareOp op) r) (ha:PE X a ta) (hb:PE X b tb) (hm:behindInMarks op b=false):PE X (.Compare a [op] [b] pos) (tOp r ta tb):=by
 intro pins s σ H Q I h
 exact wpAny_Compare1 (binT ha hb I h fun v u s2 x y H2 I2 rx ry q=>ho pins s2 σ H2 x y v u Q I2 rx ry q) hm
def tTest (t:TE):TT:=fun σ H Q=>t σ H fun x H'=>∃ k,x=.bl k/\Q k H'
theorem pt_cmpR {op:CmpOp}{r:R2} (ho:OpR X (compareOp op) r) (ha:PE X a ta) (hb:PE X b tb) (hm:behindInMarks op b=false):PT X (.Compare a [op] [b] pos) (tTest (tOp r ta tb)):=by
 intro pins s σ H Q I h
 refine wpAny_isTrue_Compare1 (thn (ha pins s σ H _ I h) fun v s1 ⟨x,H1,I1,r1,q1⟩=>thn (hb pins s1 σ H1 _ I1 q1) fun u s2 ⟨y,H2,I2,r2,q2⟩=>
  thn (ho pins s2 σ H2 x y v u _ I2 r1 r2 q2) fun c s3 ⟨z,H3,I3,r3,k,e,q3⟩=>?_) hm
 subst e
 cases r3
 exact wpAny_truthy_bool ⟨H3,I3,q3⟩
def TruV (K:PySem.W.Frag) (x:V) (H:Hp) (k:Bool):Prop:=
 match x with
 | .non=>k=false
 | .bl b=>k=b
 | .int i=>k=(i != 0)
 | .str y=>y.length<=sizeLine/\k=((y.length:Int) != 0)
 | .byt y=>y.size<=sizeLine/\k=((y.size:Int) != 0)
 | .ref p=>(∃ xs,SqL K H p xs/\k=!xs.isEmpty)\/(∃ xs,SqT K H p xs/\k=!xs.isEmpty)\/∃ kvs,H p=some (.dK kvs)/\k=!kvs.isEmpty
 | _=>False
theorem isEmpty_kv {κ:Type} {kvs:List (κ×V)}{vs:List (κ×Value)} (r:KV kvs vs):(!vs.isEmpty)=!kvs.isEmpty:=by
 cases r <;> rfl
theorem isEmpty_of {xs:List V}{its:List Value} (r:Vals xs its):(!its.toArray.isEmpty)=!xs.isEmpty:=by
 cases r <;> simp
theorem line63:(sizeLine:Nat)<2 ^ 63:=by rw[sizeLine_eq];decide
theorem tru_ok:TruR X (fun x H Q=>∃ k,TruV X.K x H k/\Q k H):=by
 intro pins s σ H x v Q I rx h
 obtain⟨k,e,q⟩:=h
 have hl:=line63
 have hs:sizeLine=16777216:=sizeLine_eq
 cases x with
 | non=>
  cases rx
  have e':k=false:=e
  subst e'
  exact truthy_none ⟨H,I,q⟩
 | bl b=>
  cases rx
  have e':k=b:=e
  subst e'
  exact wpAny_truthy_bool ⟨H,I,q⟩
 | int i=>
  obtain⟨t,rfl⟩:=rx
  have e':k=(i != 0):=e
  subst e'
  exact PySem.P.truthy_int ⟨H,I,q⟩
 | str y=>
  obtain⟨t,rfl⟩:=rx
  obtain⟨hy,e'⟩:y.length<=sizeLine/\k=((y.length:Int) != 0):=e
  subst e'
  exact PySem.P.truthy_str (by lia) ⟨H,I.tok _,q⟩
 | byt y=>
  obtain⟨t,rfl⟩:=rx
  obtain⟨hy,e'⟩:y.size<=sizeLine/\k=((y.size:Int) != 0):=e
  subst e'
  exact PySem.W.truthy_bytes (by lia) ⟨H,I.tok _,q⟩
 | ref p=>
  cases rx
  have e':(∃ xs,SqL X.K H p xs/\k=!xs.isEmpty)\/(∃ xs,SqT X.K H p xs/\k=!xs.isEmpty)\/∃ kvs,H p=some (.dK kvs)/\k=!kvs.isEmpty:=e
  rcases e' with ⟨xs,hx,e'⟩ | ⟨xs,hx,e'⟩ | ⟨kvs,hx,e'⟩
  ·subst e'
   obtain⟨its,r,pl,hz⟩:=I.list hx
   have hlen:=r.length
   exact wpAny_truthy_list pl.isList (by simp only[List.size_toArray];lia) ⟨H,I.tok _,by rw[isEmpty_of r];exact q⟩
  ·subst e'
   obtain⟨its,r,pl,hz⟩:=I.tuple hx
   have hlen:=r.length
   exact truthy_tuple pl (by simp only[List.size_toArray];lia) ⟨H,I.tok _,by rw[isEmpty_of r];exact q⟩
  ·subst e'
   obtain⟨hz,hS,vs,r,m⟩:kvs.length<=sizeLine/\(p == sysModules)=false/\∃ vs,KV kvs vs/\s.heap.DictOf (mixKind X.prog X.w) p vs:=I.hok p _ hx
   have hlen:kvs.length=vs.length:=Paired.length r
   exact wpAny_truthy_dict hS m (by lia) ⟨H,I.tok _,by rw[isEmpty_kv r];exact q⟩
 | _=>exact (show False from e).elim
theorem pt_truth (ha:PE X a ta) (he:∀ whole,isTrue a X.env whole=(do let v <- whole;standAt a.pos;holding [v] (truthy v))) :
  PT X a (fun σ H Q=>ta σ H fun x H'=>∃ k,TruV X.K x H' k/\Q k H'):=by
 intro pins s σ H Q I h
 exact isTrue_plain (thn (ha pins s σ H _ I h) fun v s1 ⟨x,H1,I1,r1,q1⟩=>tru_ok pins s1 σ H1 x v Q I1 r1 q1) (he _)
theorem op_add_str:OpR X (binaryOp .Add) (fun x y H Q=>∃ i j,x=.str i/\y=.str j/\i.length+j.length<=sizeLine/\Q (.str (i++j)) H):=by
 intro pins s σ H x y v u Q I rx ry h
 obtain⟨i,j,rfl,rfl,hz,q⟩:=h
 obtain⟨t,rfl⟩:=rx
 obtain⟨t',rfl⟩:=ry
 exact add_str (fun t' tk=>⟨.str (i++j),H,I.tok _,⟨_,rfl⟩,q⟩) hz
theorem vals1 {x:V}{us:List Value} (r:Vals [x] us):∃ u,us=[u]/\RelV x u:=by
 cases r with
 | cons r1 r2=>cases r2;exact⟨_,rfl,r1⟩
theorem vals2 {x y:V}{us:List Value} (r:Vals [x,y] us):∃ u w',us=[u,w']/\RelV x u/\RelV y w':=by
 cases r with
 | cons r1 r2=>
  cases r2 with
  | cons r3 r4=>cases r4;exact⟨_,_,rfl,r1,r3⟩
theorem call_max2 (hc:X.calm=true):CallR X (.builtin "max") (fun xs H Q=>∃ i j,xs=[.int i,.int j]/\Q (.int (if j > i then j else i)) H):=by
 intro pins s σ H xs us Q I r h
 obtain⟨i,j,rfl,q⟩:=h
 obtain⟨u,w',rfl,⟨t,rfl⟩,⟨t',rfl⟩⟩:=vals2 r
 refine max_two_ints (I.ok.hd hc) fun h' tk k=>⟨_,H,I.kept k,?_,q⟩
 by_cases hj:j > i
 ·rw[if_pos hj,if_pos hj];exact⟨_,rfl⟩
 ·rw[if_neg hj,if_neg hj];exact⟨_,rfl⟩
theorem call_int1:CallR X (.type "int") (fun xs H Q=>(∃ i,xs=[.int i]/\Q (.int i) H)\/∃ k,xs=[.bl k]/\Q (.int (if k then 1 else 0)) H):=by
 intro pins s σ H xs us Q I r h
 rcases h with ⟨i,rfl,q⟩ | ⟨k,rfl,q⟩
 ·obtain⟨u,rfl,t,rfl⟩:=vals1 r
  exact call_int_int ⟨.int i,H,I,⟨_,rfl⟩,q⟩
 ·obtain⟨u,rfl,r1⟩:=vals1 r
  cases r1
  exact call_int_bool ⟨.int (if k then 1 else 0),H,I.tok _,⟨_,rfl⟩,q⟩
end
end L2
namespace L2
open PySem PySem.Spec PyProof.Rows
structure ObjM (h:Heap) (x dx C:Addr) (mA:Str->Option Value):Prop where
 obj:h.get? x=some (PySem.W.instObj C dx)
 ns:h.Ns1 dx mA
 ne:dx≠x
theorem lookIn_ns {h:Heap}{dx:Addr}{mA:Str->Option Value} (n:h.Ns1 dx mA):∃ od,h.get? dx=some od/\∀ name,PySem.W.lookIn name od=some (mA name):=by
 obtain⟨o,es,ep,ho,hd,hk,_,hm⟩:=n
 refine⟨o,ho,fun name=>?_⟩
 have e:=hm name
 unfold nsFind findBy at e
 rw[<- Array.find?_toList]at e
 unfold PySem.W.lookIn
 rw[hd]
 dsimp only
 split
 ·rename_i y q
  rw[q]at e
  exact congrArg some e
 ·rename_i q
  rw[q]at e
  have a:es.toList.any (·.refKey)=false:=by
   rw[List.any_eq_false]
   intro y hy
   obtain⟨z,t,hkey⟩:=hk y (Array.mem_toList_iff.mp hy)
   simp [DictEntry.refKey,hkey]
  have a':¬es.toList.any (·.refKey)=true:=by rw[a];exact Bool.false_ne_true
  rw[if_neg a']
  exact congrArg some e
theorem ObjM.look {h:Heap}{x dx C:Addr}{mA:Str->Option Value} (I:ObjM h x dx C mA):∃ od,PySem.W.InstAt h x (PySem.W.instObj C dx) C (some od)/\∀ name,PySem.W.lookIn name od=some (mA name):=
 let ⟨od,ho,hl⟩:=lookIn_ns I.ns
 ⟨od,⟨I.obj,rfl,rfl,ho⟩,hl⟩
section
variable {prog:Program}{w:World}{A:Around}{E:Value->Shared->Prop}{s:Shared}{K:PySem.W.Frag}{x dx C f:Addr}{mA:Str->Option Value}{name:Str}{v:Value}
theorem get_map {expr:Bool}{Q:Value->Shared->Prop} (X:K.In s.heap) (I:ObjM s.heap x dx C mA) (hg:PySem.W.plainGet K C name=true) (hh:PySem.W.hasDictIn K C=true)
  (ha:PySem.W.findIn K (.ref C) name=some none) (hv:mA name=some v) (hv':PySem.W.handedIn v=true) (h:Q v { s with toks:=s.toks+1 }) :
  wpAny (model prog w) A (getAttr (.ref x) name expr) Q E s:=by
 obtain⟨od,J,hl⟩:=I.look
 exact PySem.W.get_value X J (PySem.W.plainGet_of hg).1 (PySem.W.findObj_own hh ha rfl (by rw[hl,hv])) hv' h
theorem get_meth {pl:Sem Bool}{Q:Value×List Value->Shared->Prop} (X:K.In s.heap) (I:ObjM s.heap x dx C mA) (hg:PySem.W.plainGet K C name=true)
  (hf:PySem.W.findIn K (.ref C) name=some (some (.ref f))) (ht:PySem.W.isFn K (.ref f)=true) (hv:mA name=none) (h:Q (.ref f,[.ref x]) s) :
  wpAny (model prog w) A (getMethod (.ref x) name pl) Q E s:=by
 obtain⟨od,J,hl⟩:=I.look
 exact PySem.W.method_fn X J (PySem.W.plainGet_of hg).1 (PySem.W.plainGet_of hg).2 hf (beq_iff_eq.mp ht) (by show (PySem.W.lookIn name od).map (·.isSome)=some false;rw[hl,hv];rfl) h
theorem set_map {ns:List Str}{Q:Unit->Shared->Prop} (X:K.In s.heap) (I:ObjM s.heap x dx C mA)
  (hs:PySem.W.findIn K (.ref C) "__setattr__"=some (some (.builtin "object.__setattr__"))) (hp:PySem.W.plainOver K C=true) (ht:PySem.W.takerIn K C name=some none) (hh:PySem.W.hasDictIn K C=true)
  (hw:PySem.Within mA ns) (hsz:ns.length<=sizeLine)
  (h:∀ h',ObjM h' x dx C (fun y=>if y=name then some v else mA y)->Heap.SameBut dx s.heap h'->Q () { s with heap:=h',toks:=s.toks+2 }) :
  wpAny (model prog w) A (setAttr (.ref x) name v) Q E s:=by
 obtain⟨od,J,hl⟩:=I.look
 refine PySem.W.set_plain X J hs (PySem.W.osa_open (s:={ s with toks:=s.toks+1 }) (r:=none) X J hp ht fun b=>?_)
 obtain⟨cd,hc,hd'⟩:=PySem.W.any_some hh
 have hx:s.heap.get? x=some ⟨.ref C,some dx,.plain,#[]⟩:=I.obj
 refine wpAny_bind (wpAny_pure (wpAny_bind (wpAny_bind (wpAny_loadPart hx (wpAny_bind (PySem.W.Looks.here (s:={ s with toks:=s.toks+1 }) (PySem.W.looks_clsIn X hc) ?_))))))
 rw[hd']
 refine wpAny_pure (a:=some dx) (wpAny_bind (wpAny_pure (wpAny_bind ?_)))
 refine wpAny_nsSet1 (s:={ s with toks:=s.toks+1 }) I.ns fun h' hn2 hs2=>?_
 obtain⟨oD,esD,epD,hoD,hdD,hcD⟩:=hn2.count (PySem.Within.cons name v hw)
 refine wpAny_bind (wpAny_lookBehind hoD (by rw[hdD];exact pastItsLine_dict (Nat.le_trans hcD (by rw[List.length_cons];lia))) ?_)
 exact wpAny_pure (h _ ⟨(hs2.2 _ (Ne.symm I.ne)).trans I.obj,hn2,I.ne⟩ hs2)
theorem make_map {R:Result->Shared->Prop}{vs:List Value}{kw:List (Str×Value)} (X:K.In s.heap) (hm:PySem.W.makesIn K C=true)
  (hi:PySem.W.findIn K (.ref C) "__init__"=some (some (.ref f))) (hf:PySem.W.typeIn K (.ref f)=some (.type "function"))
  (h:codeAny (model prog w) (A.under (.builtin "type.__call__" ⟨.ref C::vs,kw⟩)) (.call (.ref f) ⟨.ref (s.heap.objs.size+1)::vs,kw⟩) (PySem.W.InitBack (s.heap.objs.size+1) R)
   { s with heap:=(s.heap.push PySem.W.emptyDict).push (PySem.W.instObj C s.heap.objs.size) }) :
  codeAny (model prog w) A (.call (.ref C) ⟨vs,kw⟩) R s:=by
 obtain⟨hh,g,d,t,os⟩:=s
 exact PySem.W.make_core (PySem.W.makes_of X hm) (PySem.W.looks_findIn X hi) (fun self=>PySem.W.bind_fn X self hf) (.inl rfl) h
end
def putF (f:Str) (v:V):List (Str×V)->List (Str×V)
 | []=>[(f,v)]
 | (g,x)::r=>if g=f then (g,v)::r else (g,x)::putF f v r
theorem lookup_putF (f g:Str) (v:V):∀ fs:List (Str×V),(putF f v fs).lookup g=if g=f then some v else fs.lookup g
 | []=>by
  show List.lookup g [(f,v)]=_
  by_cases h:g=f
  ·have hb:(g == f)=true:=beq_iff_eq.mpr h
   simp only[List.lookup,hb,if_pos h]
  ·have hb:(g == f)=false:=beq_eq_false_iff_ne.mpr h
   simp only[List.lookup,hb,if_neg h]
 | (k,x)::r=>by
  have ih:=lookup_putF f g v r
  rw[show putF f v ((k,x)::r)=(if k=f then (k,v)::r else (k,x)::putF f v r) from rfl]
  by_cases hk:k=f
  ·rw[if_pos hk]
   by_cases h:g=k
   ·have hb:(g == k)=true:=beq_iff_eq.mpr h
    simp only[List.lookup,hb,if_pos (h.trans hk)]
   ·have hb:(g == k)=false:=beq_eq_false_iff_ne.mpr h
    simp only[List.lookup,hb,if_neg (fun e:g=f=>h (e.trans hk.symm))]
  ·rw[if_neg hk]
   by_cases h:g=k
   ·have hb:(g == k)=true:=beq_iff_eq.mpr h
    simp only[List.lookup,hb,if_neg (fun e:g=f=>hk (h.symm.trans e))]
   ·have hb:(g == k)=false:=beq_eq_false_iff_ne.mpr h
    simp only[List.lookup,hb]
    exact ih
theorem keys_putF (f:Str) (v:V):∀ fs:List (Str×V),f∈(putF f v fs).map (·.1)/\∀ g,g∈fs.map (·.1)->g∈(putF f v fs).map (·.1)
 | []=>⟨by simp [putF],fun g h=>by simp at h⟩
 | (k,x)::r=>by
  obtain⟨i1,i2⟩:=keys_putF f v r
  rw[show putF f v ((k,x)::r)=(if k=f then (k,v)::r else (k,x)::putF f v r) from rfl]
  by_cases hk:k=f
  ·rw[if_pos hk]
   subst hk
   exact⟨by simp,fun g h=>by simpa using h⟩
  ·rw[if_neg hk]
   refine⟨?_,fun g h=>?_⟩
   ·rw[List.map_cons]
    exact List.mem_cons_of_mem _ i1
   ·rw[List.map_cons]at h ⊢
    rcases List.mem_cons.mp h with e | e
    ·exact List.mem_cons.mpr (.inl e)
    ·exact List.mem_cons_of_mem _ (i2 g e)
theorem length_putF (f:Str) (v:V):∀ fs:List (Str×V),(putF f v fs).length<=fs.length+1
 | []=>by simp [putF]
 | (k,x)::r=>by
  have ih:=length_putF f v r
  rw[show putF f v ((k,x)::r)=(if k=f then (k,v)::r else (k,x)::putF f v r) from rfl]
  by_cases hk:k=f
  ·rw[if_pos hk,List.length_cons,List.length_cons];lia
  ·rw[if_neg hk,List.length_cons,List.length_cons];lia
theorem RelO.some_of {v:V}{o:Option Value} (r:RelO (some v) o):∃ u,o=some u/\RelV v u:=by
 cases o with
 | none=>exact (show False from r).elim
 | some u=>exact⟨u,rfl,r⟩
theorem RelO.none_of {o:Option Value} (r:RelO none o):o=none:=by
 cases o with
 | none=>rfl
 | some u=>exact (show False from r).elim
theorem handed_of {v:V}{u:Value} (r:RelV v u):PySem.W.handedIn u=true:=by
 cases v with
 | non=>cases (show u=Value.none from r);rfl
 | bl b=>cases (show u=Value.bool b from r);rfl
 | int i=>obtain⟨t,e⟩:=(show ∃ t,u=Value.int i t from r);cases e;rfl
 | str x=>obtain⟨t,e⟩:=(show ∃ t,u=Value.str x t from r);cases e;rfl
 | byt b=>obtain⟨t,e⟩:=(show ∃ t,u=Value.bytes b t from r);cases e;rfl
 | flt b=>obtain⟨t,e⟩:=(show ∃ t,u=Value.float b t from r);cases e;rfl
 | ref a=>cases (show u=Value.ref a from r);rfl
 | ty n=>cases (show u=Value.type n from r);rfl
section
variable {P:Program}{w:World}{H H':Hp}{h h':Heap}{a C dx:Addr}{fs fs':List (Str×V)}
theorem ins_get (hok:HOk P w H h) (e:H a=some (.ins C dx fs)):∃ mA,ObjM h a dx C mA/\(∀ f,RelO (fs.lookup f) (mA f))/\PySem.Within mA (fs.map (·.1))/\fs.length<=1000/\H dx=some (.own a):=by
 obtain⟨d,z,ne,ob,mA,n,r,q⟩:=(show ObjOk P w H h a (.ins C dx fs) from hok a _ e)
 exact⟨mA,⟨ob,n,ne⟩,r,q,z,d⟩
end
structure Cls (K:PySem.W.Frag) (C:Addr):Prop where
 pg:PySem.W.plainGet K C Str.empty=true
 hd:PySem.W.hasDictIn K C=true
 po:PySem.W.plainOver K C=true
 sa:PySem.W.findIn K (.ref C) "__setattr__"=some (some (.builtin "object.__setattr__"))
theorem Cls.get {K:PySem.W.Frag}{C:Addr} (c:Cls K C) (f:Str):PySem.W.plainGet K C f=true:=c.pg
def NoAttr (K:PySem.W.Frag) (C:Addr) (f:Str):Prop:=PySem.W.findIn K (.ref C) f=some none
theorem NoAttr.taker {K:PySem.W.Frag}{C:Addr}{f:Str} (n:NoAttr K C f):PySem.W.takerIn K C f=some none:=by
 unfold PySem.W.takerIn
 rw[show PySem.W.findIn K (.ref C) f=some none from n]
 rfl
structure Meth (K:PySem.W.Frag) (C:Addr) (m:Str) (f:Addr):Prop where
 at_:PySem.W.findIn K (.ref C) m=some (some (.ref f))
 fn:PySem.W.isFn K (.ref f)=true
 kp:PySem.W.keepIn K (.ref f)=true
section
variable {X:Cx}{pins:List (Addr×Obj)} {σ:St} {H:Hp}{s:Shared}{a C dx:Addr}{fs:List (Str×V)}{f:Str}{v:V}{A:Around}{E:Value->Shared->Prop}
theorem getattr_ok {b:Bool}{Q:Value->Shared->Prop} (I:Inv X pins σ H s) (e:H a=some (.ins C dx fs)) (c:Cls X.K C) (n:NoAttr X.K C f) (l:fs.lookup f=some v)
  (h:∀ u s',Inv X pins σ H s'->RelV v u->Q u s'):wpAny (model X.prog X.w) A (getAttr (.ref a) f b) Q E s:=by
 obtain⟨mA,O,r,_,_,_⟩:=ins_get I.hok e
 obtain⟨u,hu,ru⟩:=RelO.some_of (v:=v) (o:=mA f) (by rw[<- l];exact r f)
 exact get_map I.kIn O (c.get f) c.hd n hu (handed_of ru) (h u _ (I.tok _) ru)
theorem getmeth_ok {m:Str}{g:Addr}{pl:Sem Bool}{Q:Value×List Value->Shared->Prop} (I:Inv X pins σ H s) (e:H a=some (.ins C dx fs)) (c:Cls X.K C) (k:Meth X.K C m g) (l:fs.lookup m=none)
  (h:Q (.ref g,[.ref a]) s):wpAny (model X.prog X.w) A (getMethod (.ref a) m pl) Q E s:=by
 obtain⟨mA,O,r,_,_,_⟩:=ins_get I.hok e
 have hn:mA m=none:=RelO.none_of (by rw[<- l];exact r m)
 exact get_meth I.kIn O (c.get m) k.at_ k.fn hn h
theorem setattr_ok {y:V}{u:Value}{Q:Unit->Shared->Prop} (I:Inv X pins σ H s) (e:H a=some (.ins C dx fs)) (c:Cls X.K C) (n:NoAttr X.K C f) (hl:fs.length<1000) (ry:RelV y u)
  (h:∀ s',Inv X pins σ (upd H a (.ins C dx (putF f y fs))) s'->Q () s'):wpAny (model X.prog X.w) A (setAttr (.ref a) f u) Q E s:=by
 obtain⟨mA,O,r,wi,_,ho⟩:=ins_get I.hok e
 have hz:(fs.map (·.1)).length<=sizeLine:=by rw[List.length_map,sizeLine_eq];lia
 refine set_map I.kIn O c.sa c.po n.taker c.hd wi hz fun h' O' sb=>h _ ?_
 have hd:∃ o,h'.get? dx=some o:=let ⟨o,_,_,e',_⟩:=O'.ns;⟨o,e'⟩
 refine I.write (x:=a) (e:=dx) (by rw[e];exact True.intro) (.inr ho) (fun b q hb z=>(sb.2 b hb).trans z) hd ?_
 refine⟨by rw[upd_ne O.ne];exact ho,?_,O.ne,O'.obj,_,O'.ns,fun g=>?_,fun g hg=>?_⟩
 ·have:=length_putF f y fs;lia
 ·show RelO ((putF f y fs).lookup g) (if g=f then some u else mA g)
  rw[lookup_putF]
  by_cases q:g=f
  ·rw[if_pos q,if_pos q];exact ry
  ·rw[if_neg q,if_neg q];exact r g
 ·by_cases q:g=f
  ·rw[q];exact (keys_putF f y fs).1
  ·refine (keys_putF f y fs).2 g (wi g fun z=>hg ?_)
   show (if g=f then some u else mA g)=none
   rw[if_neg q];exact z
theorem Inv.made (I:Inv X pins σ H s):Inv X pins σ (upd (upd H s.heap.objs.size (.own (s.heap.objs.size+1))) (s.heap.objs.size+1) (.ins C s.heap.objs.size []))
  { s with heap:=(s.heap.push PySem.W.emptyDict).push (PySem.W.instObj C s.heap.objs.size) }:=by
 have e1:(s.heap.push PySem.W.emptyDict).get? s.heap.objs.size=some PySem.W.emptyDict:=Heap.get?_push_size s.heap rfl
 have e2:((s.heap.push PySem.W.emptyDict).push (PySem.W.instObj C s.heap.objs.size)).get? (s.heap.objs.size+1)=some (PySem.W.instObj C s.heap.objs.size):=by
  have:=Heap.get?_push_size (s.heap.push PySem.W.emptyDict) (o:=PySem.W.instObj C s.heap.objs.size) rfl
  rwa [Heap.size_push]at this
 have e3:(s.heap.push PySem.W.emptyDict).Ns s.heap.objs.size (fun _=>none):=⟨PySem.W.emptyDict,#[],_,e1,rfl,(fun e he=>absurd he (by simp)),fun _=>rfl⟩
 have I1:=I.laid (a:=s.heap.objs.size) (o:=.own (s.heap.objs.size+1)) (h':=s.heap.push PySem.W.emptyDict) (t':=s.toks) (fun b u q=>Heap.get?_push_of_some _ q) (Nat.le_refl _) ⟨_,e1⟩
 refine I1.laid (a:=s.heap.objs.size+1) (o:=.ins C s.heap.objs.size []) (t':=s.toks) (fun b u q=>Heap.get?_push_of_some _ q) (Nat.le_of_eq (Heap.size_push _ _)) ?_
 have ne:s.heap.objs.size≠s.heap.objs.size+1:=Nat.ne_of_lt (Nat.lt_succ_self _)
 refine⟨by rw[upd_ne ne,upd_same],Nat.zero_le _,ne,e2,fun _=>none,(Heap.Ns1.of_empty e3).at fun o q=>Heap.get?_push_of_some _ q,fun _=>True.intro,fun y hy=>absurd rfl hy⟩
theorem attr_of {prog:Program}{w:World}{env:Env}{e:Expr}{f:Str}{pos:Pos}{s:Shared}{Q:Value->Shared->Prop} (hb:attributeBase e f env (eval e env)=eval e env)
  (h:wpAny (model prog w) A (eval e env) (fun o s₁=>wpAny (model prog w) A (getAttr o f true) Q E s₁) E s):wpAny (model prog w) A (eval (.Attribute e f pos) env) Q E s:=
 Attribute_any_ h (by rw[arm_eval_Attribute,hb])
end
def tFld (K:PySem.W.Frag) (ta:TE) (f:Str):TE:=fun σ H Q=>ta σ H fun x H1=>∃ a C dx fs v,x=.ref a/\H1 a=some (.ins C dx fs)/\Cls K C/\NoAttr K C f/\fs.lookup f=some v/\Q v H1
def sFld (K:PySem.W.Frag) (ta tv:TE) (f:Str):TS:=fun D σ H=>tv σ H fun y H1=>ta σ H1 fun x H2=>∃ a C dx fs,x=.ref a/\H2 a=some (.ins C dx fs)/\Cls K C/\NoAttr K C f/\fs.length<1000 /\
 D.nx σ (upd H2 a (.ins C dx (putF f y fs)))
section
variable {X:Cx}{o e value:Expr}{f:Str}{pos pos' tpos:Pos}{ta tv:TE}
theorem pe_fld (he:PE X e ta) (hb:attributeBase e f X.env (eval e X.env)=eval e X.env):PE X (.Attribute e f pos) (tFld X.K ta f):=by
 intro pins s σ H Q I h
 refine attr_of hb (thn (he pins s σ H _ I h) fun u s1 ⟨x,H1,I1,rx,a,C,dx,fs,v,ex,ea,c,n,l,q⟩=>?_)
 subst ex
 obtain rfl:u=Value.ref a:=rx
 exact getattr_ok I1 ea c n l fun u' s2 I2 ru=>⟨v,H1,I2,ru,q⟩
theorem ps_fld (ha:PE X o ta) (hv:PE X value tv) (hs:swapsWith value (some (.Attribute o f pos')) pos.line X.env=pure false):PS X (.Assign [.Attribute o f pos'] value pos) (sFld X.K ta tv f):=by
 intro pins s σ H D I h
 refine plainObj_wpAny_Assign_Attribute (thn (hv pins s σ H _ I h) fun u s1 ⟨y,H1,I1,ry,q⟩=>thn (ha pins s1 σ H1 _ I1 q) fun ov s2 ⟨x,H2,I2,rx,a,C,dx,fs,ex,ea,c,n,l,q2⟩=>?_) hs
 subst ex
 obtain rfl:ov=Value.ref a:=rx
 exact setattr_ok I2 ea c n l ry fun s3 I3=>⟨σ,_,I3,q2⟩
end
section
variable {X:Cx}{pins:List (Addr×Obj)} {σ:St} {H:Hp}{s:Shared}{A:Around}{E:Value->Shared->Prop}{Q:Value->Shared->Prop}{c:Value}{b:Bool}
end
end L2
namespace L2
open PySem PySem.Spec PyProof.Rows
structure Room (k:Nat) (A:Around):Prop where
 hd:A.handled=none
 dp:A.depth+3 * k+5<recursionLimit
 un:A.units+16 * k+200<cLine
theorem Room.mono {j k:Nat}{A:Around} (r:Room k A) (h:j<=k):Room j A:=⟨r.hd,by have:=r.dp;lia,by have:=r.un;lia⟩
theorem Room.deeper {k:Nat}{A:Around} (r:Room (k+1) A) (env:Env):Room k (A.deeper env):=
 ⟨r.hd,by have:=r.dp;show A.depth+1+3 * k+5<_;lia,by have:=r.un;show A.units+3+16 * k+200<_;lia⟩
theorem make_depth {A:Around}{C:Addr}{us:List Value}{kw:List (Str×Value)}:(A.under (.builtin "type.__call__" ⟨.ref C::us,kw⟩)).depth=A.depth+1:=by
 first | rfl | simp [Around.under,Code.weight,Code.isCreation,Code.isGuard,Code.isCaller,Code.frames,Code.isFrame,guardIds]
theorem make_units {A:Around}{C:Addr}{us:List Value}{kw:List (Str×Value)}:(A.under (.builtin "type.__call__" ⟨.ref C::us,kw⟩)).units=A.units+1:=by
 first | rfl | simp [Around.under,Code.cUnits,Code.frames,Code.isFrame]
theorem Room.make {k:Nat}{A:Around} (r:Room (k+1) A) (C:Addr) (us:List Value) (kw:List (Str×Value)):Room k (A.under (.builtin "type.__call__" ⟨.ref C::us,kw⟩)):=
 ⟨r.hd,by have:=r.dp;rw[make_depth];lia,by have:=r.un;rw[make_units];lia⟩
theorem Room.depth {k:Nat}{A:Around} (r:Room k A):A.depth<recursionLimit:=by have:=r.dp;lia
theorem Room.units {k:Nat}{A:Around} (r:Room k A):A.units+64<cLine:=by have:=r.un;lia
def tNil:TA:=fun _ H Q=>Q [] H
def tCons (ta:TE) (tr:TA):TA:=fun σ H Q=>ta σ H fun x H1=>tr σ H1 fun xs H2=>Q (x::xs) H2
section
variable {X:Cx}{e:Expr}{es:List Expr}{te:TE}{t:TA}{pos:Pos}
theorem pa_nil:PA X [] tNil:=fun _ _ _ _ H Q I h=>Calls.spliced_nil ⟨[],H,I,.nil,h⟩
theorem pa_cons (ha:PE X e te) (hr:PA X es t) (hs:starEach (e::es) X.env=(false,eval e X.env)::starEach es X.env:=by rfl):PA X (e::es) (tCons te t):=by
 intro pos pins s σ H Q I h
 rw[hs]
 show wpAny _ _ (spliced ((false,eval e X.env)::backTo pos (starEach es X.env))) _ _ s
 refine Calls.spliced_cons (thn (ha pins s σ H _ I h) fun u s1 ⟨x,H1,I1,r1,q1⟩=>?_)
 exact thn (hr pos pins s1 σ H1 _ I1 q1) fun us s2 ⟨xs,H2,I2,r2,q2⟩=>⟨x::xs,H2,I2,.cons r1 r2,q2⟩
def tTup (t:TA):TE:=fun σ H Q=>t σ H fun xs H1=>xs.length<=sizeLine/\∀ p,H1 p=none->Q (.ref p) (upd H1 p (.tup xs))
def tLst (t:TA):TE:=fun σ H Q=>t σ H fun xs H1=>xs.length<=sizeLine/\∀ p,H1 p=none->Q (.ref p) (upd H1 p (.lst xs))
theorem pe_tup {x1} (h:PA X es t):PE X (.Tuple es x1 pos) (tTup t):=by
 intro pins s σ H Q I hq
 refine wpAny_Tuple_spliced (thn (h pos pins s σ H _ I hq) fun us s1 ⟨xs,H1,I1,r,z,q⟩=>⟨by rw[<- r.length];exact z,?_⟩)
 have hf:H1 s1.heap.objs.size=none:=I1.hok.fresh (Nat.le_refl _)
 refine⟨.ref s1.heap.objs.size,upd H1 s1.heap.objs.size (.tup xs),I1.laid (t':=s1.toks) (fun b u e=>Heap.get?_push_of_some _ e) (Nat.le_refl _) ?_,rfl,q _ hf⟩
 exact⟨tupD_new z,us,r,⟨_,Heap.get?_push_size _ rfl,rfl,_,rfl⟩⟩
theorem pe_lst (h:PA X es t):PE X (.List es pos) (tLst t):=by
 intro pins s σ H Q I hq
 refine wpAny_List_spliced (thn (h pos pins s σ H _ I hq) fun us s1 ⟨xs,H1,I1,r,z,q⟩=>⟨by rw[<- r.length];exact z,?_⟩)
 have hf:H1 s1.heap.objs.size=none:=I1.hok.fresh (Nat.le_refl _)
 refine⟨.ref s1.heap.objs.size,upd H1 s1.heap.objs.size (.lst xs),I1.laid (t':=s1.toks) (fun b u e=>Heap.get?_push_of_some _ e) (Nat.le_refl _) ?_,rfl,q _ hf⟩
 exact⟨z,us,0,r,Heap.get?_push_size _ rfl⟩
end
abbrev Sp:=List V->Hp->VK->XK->Prop
abbrev CXT:=List Env->Hp->Shared->XK->Value->Shared->Prop
structure Env0 (P:Program) (w:World) (K:PySem.W.Frag) (mg:Str->Option Value) (base:Heap) (A:Around) (outer:List Env) (s:Shared) (H:Hp):Prop where
 frames:A.frames=some outer
 mod:Mod K mg base
 bs:∀ b o,base.get? b=some o->s.heap.get? b=some o/\H b=none
 bsz:base.objs.size<=s.heap.objs.size
 funs:s.heap.FunFrames base outer
 frf:∀ b∈frs outer,H b=none
 hok:HOk P w H s.heap
 bare:AllBare s.gens
def CE (outer:List Env) (P:Program) (w:World) (H:Hp) (s:Shared) (Q:VK) (u:Value) (s':Shared):Prop:=
 ∃ v H',s'.os=s.os/\AllBare s'.gens/\Un (frs outer) [] H H' s.heap s'.heap/\HOk P w H' s'.heap/\RelV v u/\Q v H'
def CR (CX:CXT) (outer:List Env) (P:Program) (w:World) (H:Hp) (s:Shared) (Q:VK) (E:XK) (r:Result) (s':Shared):Prop:=
 match r with
 | .ok (.ret u)=>CE outer P w H s Q u s'
 | .ok _=>False
 | .error e=>CX outer H s E e s'
structure FnOk (P:Program) (w:World) (K:PySem.W.Frag) (mg:Str->Option Value) (base:Heap) (CX:CXT) (k:Nat) (f:Addr) (fd:FuncData) (ps:List Str) (sp:Sp):Prop where
 len:∀ vs H Q E,sp vs H Q E->vs.length=ps.length
 run:∀ (A:Around) (outer:List Env) (s:Shared) (H:Hp) (args:Args) (us:List Value) (vs:List V) (Q:VK) (E:XK),Room k A->Env0 P w K mg base A outer s H->BindsTo s fd args (ps.zip us)->Vals vs us->sp vs H Q E ->
  codeAny (model P w) A (.call (.ref f) args) (CR CX outer P w H s Q E) s
theorem Env0.make {P:Program}{w:World}{K:PySem.W.Frag}{mg:Str->Option Value}{base:Heap}{A:Around}{outer:List Env}{s:Shared}{H:Hp} (e:Env0 P w K mg base A outer s H) (C:Addr) (us:List Value) (kw:List (Str×Value)) :
  Env0 P w K mg base (A.under (.builtin "type.__call__" ⟨.ref C::us,kw⟩)) outer s H:=⟨by first | exact e.frames | (simpa [Around.under,Code.envs,Code.isFrame,pushEnvs] using e.frames),e.mod,e.bs,e.bsz,e.funs,e.frf,e.hok,e.bare⟩
section
variable {X:Cx}{pins:List (Addr×Obj)} {σ:St} {H:Hp}{s s':Shared}
theorem Inv.env0 (I:Inv X pins σ H s):Env0 X.prog X.w X.K X.mg X.base X.A X.stack s H:=
 ⟨I.ok.frames,I.ok.mod,I.bs,Nat.le_trans I.ok.bsz I.sz,I.stack,I.stkFree,I.hok,I.bare⟩
theorem Inv.after {Q:VK}{u:Value} (I:Inv X pins σ H s) (h:CE X.stack X.prog X.w H s Q u s'):EP X pins σ Q u s':=by
 obtain⟨v,H',os,bare,un,hok,r,q⟩:=h
 obtain⟨hh,g,d,t,os'⟩:=s'
 obtain rfl:os'=s.os:=os
 exact⟨v,H',I.call (h':=hh) (g':=g) (d':=d) (t':=t) (ch:=[]) un hok bare (fun b z=>absurd z (by simp)),r,q⟩
end
def tCall (sp:Sp) (dvs:List V) (E:XK) (t:TA):TE:=fun σ H Q=>t σ H fun vs H1=>sp (vs++dvs) H1 Q E
def tMeth (C:Addr) (m:Str) (sp:Sp) (dvs:List V) (E:XK) (ta:TE) (t:TA):TE:=fun σ H Q=>ta σ H fun x H1=>∃ a dx fs,x=.ref a/\H1 a=some (.ins C dx fs)/\fs.lookup m=none /\
 t σ H1 fun vs H2=>sp (x::(vs++dvs)) H2 Q E
def tMake (C:Addr) (sp:Sp) (dvs:List V) (E:XK) (t:TA):TE:=fun σ H Q=>t σ H fun vs H1=>∀ x dx,H1 x=none->H1 dx=none->dx≠x ->
 sp (.ref x::(vs++dvs)) (upd (upd H1 dx (.own x)) x (.ins C dx [])) (fun v H2=>v=.non/\Q (.ref x) H2) E
def Binds (K:PySem.W.Frag) (fd:FuncData) (ps:List Str) (ds:List Value):Prop:=
 ∀ (s:Shared) (us:List Value),K.In s.heap->(us++ds).length=ps.length->BindsTo s fd ⟨us,[]⟩ (ps.zip (us++ds))
theorem Binds.all {K:PySem.W.Frag}{fd:FuncData}{ps:List Str} (h:∀ us:List Value,us.length=ps.length->bindArgs fd ⟨us,[]⟩=pure (ps.zip us)):Binds K fd ps []:=fun s us _ hl=>by
 rw[List.append_nil]at hl ⊢
 exact .of_eq (h us hl)
def Passes (CX:CXT) (X:Cx) (E:XK):Prop:=∀ (pins:List (Addr×Obj)) (σ:St) (H:Hp) (s:Shared) (e:Value) (s':Shared),Inv X pins σ H s->CX X.stack H s E e s'->X.xe e s'
section
variable {X:Cx}{CX:CXT}{k:Nat}{f C:Addr}{fd:FuncData}{ps:List Str}{sp:Sp}{dvs:List V}{ds:List Value}{E:XK}{x m:Str}{p pos apos:Pos}{e o:Expr}{es:List Expr}{ta:TE}{t:TA}
theorem run_fn {pins:List (Addr×Obj)} {σ:St} {H:Hp}{s:Shared}{Q:VK}{us:List Value}{vs:List V} (F:FnOk X.prog X.w X.K X.mg X.base CX k f fd ps sp) (hr:Room k X.A) (hb:Binds X.K fd ps ds) (hd:Vals dvs ds) (hx:Passes CX X E)
  (I:Inv X pins σ H s) (r:Vals vs us) (h:sp (vs++dvs) H Q E):wpAny (model X.prog X.w) X.A (call (.ref f) us) (EP X pins σ Q) X.xe s:=by
 have r2:Vals (vs++dvs) (us++ds):=r.append hd
 have hl:(us++ds).length=ps.length:=by rw[<- r2.length];exact F.len _ _ _ _ h
 refine wpAny_call (codeAny_mono (F.run X.A X.stack s H ⟨us,[]⟩ (us++ds) (vs++dvs) Q E hr I.env0 (hb s us I.kIn hl) r2 h) fun r s' hq=>?_)
 cases r with
 | error e=>exact hx pins σ H s e s' I hq
 | ok fl=>
  cases fl with
  | ret u=>exact I.after hq
  | next=>exact False.elim hq
  | brk=>exact False.elim hq
  | cont=>exact False.elim hq
theorem pe_call (F:FnOk X.prog X.w X.K X.mg X.base CX k f fd ps sp) (hr:Room k X.A) (hg:Gl X x) (hm:X.mg x=some (.ref f)) (hk:PySem.W.keepIn X.K (.ref f)=true) (hb:Binds X.K fd ps ds) (hd:Vals dvs ds) (hx:Passes CX X E)
  (ha:PA X (e::es) t) (hdb:(x == ("__debug__" : Str))=false:=by decide) (he:starEach (e::es) X.env=(false,eval e X.env)::starEach es X.env:=by rfl) (hpl:(backTo pos (starEach es X.env)).any (·.1)=false:=by rfl) :
  PE X (.Call (.Name x p) (e::es) [] pos) (tCall sp dvs E t):=by
 intro pins s σ H Q I h
 refine wpAny_Call_Name_kw (ld_glob I hg hm ?_ hdb)
 refine PySem.W.callWith_K (h₀:=X.base) I.ok.mod.kin hk (thn (ha pos pins s σ H _ I h) fun us s1 ⟨vs,H1,I1,r,q⟩=>⟨I1.kIn,?_⟩) he hpl
 exact run_fn F hr hb hd hx I1 r q
theorem pe_call0 (F:FnOk X.prog X.w X.K X.mg X.base CX k f fd ps sp) (hr:Room k X.A) (hg:Gl X x) (hm:X.mg x=some (.ref f)) (hk:PySem.W.keepIn X.K (.ref f)=true) (hb:Binds X.K fd ps ds) (hd:Vals dvs ds) (hx:Passes CX X E)
  (hdb:(x == ("__debug__" : Str))=false:=by decide):PE X (.Call (.Name x p) [] [] pos) (tCall sp dvs E tNil):=by
 intro pins s σ H Q I h
 refine wpAny_Call_Name_kw (ld_glob I hg hm ?_ hdb)
 exact PySem.W.callWith_K0 I.kIn hk (run_fn (us:=[]) F hr hb hd hx I .nil h)
theorem pe_meth {pl:Sem Bool} (he:PE X o ta) (c:Cls X.K C) (hm:Meth X.K C m f) (F:FnOk X.prog X.w X.K X.mg X.base CX k f fd ps sp) (hr:Room k X.A) (hb:Binds X.K fd ps ds) (hd:Vals dvs ds) (hx:Passes CX X E) (ha:PA X (e::es) t)
  (hst:starEach (e::es) X.env=(false,eval e X.env)::starEach es X.env:=by rfl) (hpl:(backTo pos (starEach es X.env)).any (·.1)=false:=by rfl)
  (ht:eval (.Call (.Attribute o m apos) (e::es) [] pos) X.env=(do
   let ov <- eval o X.env
   standAt apos.atName
   let (f,first) <- holding [ov] (getMethod ov m pl)
   callWith pos f first (backTo pos (starEach (e::es) X.env)) (backToKw pos (keywordEach [] X.env))):=by rfl) :
  PE X (.Call (.Attribute o m apos) (e::es) [] pos) (tMeth C m sp dvs E ta t):=by
 intro pins s σ H Q I h
 refine PySem.W.methodCall_KW (pl:=pl) (thn (he pins s σ H _ I h) fun u s1 ⟨x,H1,I1,rx,a,dx,fs,ex,ea,l,q⟩=>?_) ht
 subst ex
 obtain rfl:u=Value.ref a:=rx
 refine getmeth_ok I1 ea c hm l ?_
 refine PySem.W.callWith_K (first:=[.ref a]) (h₀:=X.base) I.ok.mod.kin hm.kp (thn (ha pos pins s1 σ H1 _ I1 q) fun us s2 ⟨vs,H2,I2,r,q2⟩=>⟨I2.kIn,?_⟩) hst hpl
 exact run_fn (us:=.ref a::us) (vs:=.ref a::vs) F hr hb hd hx I2 (.cons rfl r) q2
theorem pe_meth0 {pl:Sem Bool} (he:PE X o ta) (c:Cls X.K C) (hm:Meth X.K C m f) (F:FnOk X.prog X.w X.K X.mg X.base CX k f fd ps sp) (hr:Room k X.A) (hb:Binds X.K fd ps ds) (hd:Vals dvs ds) (hx:Passes CX X E)
  (ht:eval (.Call (.Attribute o m apos) [] [] pos) X.env=(do
   let ov <- eval o X.env
   standAt apos.atName
   let (f,first) <- holding [ov] (getMethod ov m pl)
   callWith pos f first (backTo pos (starEach [] X.env)) (backToKw pos (keywordEach [] X.env))):=by rfl) :
  PE X (.Call (.Attribute o m apos) [] [] pos) (tMeth C m sp dvs E ta tNil):=by
 intro pins s σ H Q I h
 refine PySem.W.methodCall_KW (pl:=pl) (thn (he pins s σ H _ I h) fun u s1 ⟨x,H1,I1,rx,a,dx,fs,ex,ea,l,q⟩=>?_) ht
 subst ex
 obtain rfl:u=Value.ref a:=rx
 refine getmeth_ok I1 ea c hm l ?_
 exact PySem.W.callWith_K0 (first:=[.ref a]) I1.kIn hm.kp (run_fn (us:=[.ref a]) (vs:=[.ref a]) F hr hb hd hx I1 (.cons rfl .nil) q)
structure Mk (K:PySem.W.Frag) (C f:Addr):Prop where
 makes:PySem.W.makesIn K C=true
 init:PySem.W.findIn K (.ref C) "__init__"=some (some (.ref f))
 fn:PySem.W.isFn K (.ref f)=true
 kp:PySem.W.keepIn K (.ref C)=true
theorem run_make {pins:List (Addr×Obj)} {σ:St} {H:Hp}{s:Shared}{Q:VK}{us:List Value}{vs:List V} (M:Mk X.K C f) (F:FnOk X.prog X.w X.K X.mg X.base CX k f fd ps sp) (hr:Room (k+1) X.A) (hb:Binds X.K fd ps ds) (hd:Vals dvs ds)
  (hx:Passes CX X E) (I:Inv X pins σ H s) (r:Vals vs us)
  (h:∀ x dx,H x=none->H dx=none->dx≠x->sp (.ref x::(vs++dvs)) (upd (upd H dx (.own x)) x (.ins C dx [])) (fun v H2=>v=.non/\Q (.ref x) H2) E) :
  wpAny (model X.prog X.w) X.A (call (.ref C) us) (EP X pins σ Q) X.xe s:=by
 have hq:=h (s.heap.objs.size+1) s.heap.objs.size (I.hok.fresh (Nat.le_succ _)) (I.hok.fresh (Nat.le_refl _)) (Nat.ne_of_lt (Nat.lt_succ_self _))
 have I2:=Inv.made (C:=C) I
 have r2:Vals (V.ref (s.heap.objs.size+1)::(vs++dvs)) (Value.ref (s.heap.objs.size+1)::(us++ds)):=.cons rfl (r.append hd)
 have hl:(Value.ref (s.heap.objs.size+1)::us++ds).length=ps.length:=by
  have e:=r2.length
  rw[F.len _ _ _ _ hq]at e
  exact e.symm
 refine wpAny_call (make_map (f:=f) I.kIn M.makes M.init (beq_iff_eq.mp M.fn) (codeAny_mono (F.run _ X.stack _ _ ⟨Value.ref (s.heap.objs.size+1)::us,[]⟩ (Value.ref (s.heap.objs.size+1)::(us++ds)) _ _ E (hr.make C us [])
  (I2.env0.make C us []) (hb _ (Value.ref (s.heap.objs.size+1)::us) I2.kIn hl) r2 hq) fun r s' hq'=>?_))
 cases r with
 | error e=>exact hx pins σ _ _ e s' I2 hq'
 | ok fl=>
  cases fl with
  | ret u=>
   obtain⟨v,H',I3,rv,ev,q3⟩:=I2.after hq'
   subst ev
   exact⟨rv,⟨V.ref (s.heap.objs.size+1),H',I3,rfl,q3⟩⟩
  | next=>exact False.elim hq'
  | brk=>exact False.elim hq'
  | cont=>exact False.elim hq'
theorem pe_make0 (M:Mk X.K C f) (F:FnOk X.prog X.w X.K X.mg X.base CX k f fd ps sp) (hr:Room (k+1) X.A) (hg:Gl X x) (hm:X.mg x=some (.ref C)) (hb:Binds X.K fd ps ds) (hd:Vals dvs ds) (hx:Passes CX X E)
  (hdb:(x == ("__debug__" : Str))=false:=by decide):PE X (.Call (.Name x p) [] [] pos) (tMake C sp dvs E tNil):=by
 intro pins s σ H Q I h
 refine wpAny_Call_Name_kw (ld_glob I hg hm ?_ hdb)
 exact PySem.W.callWith_K0 I.kIn M.kp (run_make (us:=[]) M F hr hb hd hx I .nil h)
end
section
variable {X:Cx}{CX:CXT}{k:Nat}{f C:Addr}{fd:FuncData}{ps ks:List Str}{sp:Sp}{E:XK}{x m:Str}{p pos apos kpos:Pos}{e o:Expr}{es:List Expr}{kws:List Keyword}{te ta:TE}{t tk:TA}{nm:Option Str}
variable {g:List Value->List Value->List Value}{gV:List V->List V->List V}
end
structure FnScope (N P:List Str) (sc:Scope):Prop where
 kind:sc.kind=.function
 co:sc.isCoroutine=false
 gen:sc.isGenerator=false
 nd:N.Nodup
 pre:N.take P.length=P
 par:∀ x∈P,sc.names.lookup x=some .local\/sc.names.lookup x=some .cell
 nofree:∀ y∈sc.names,y.2≠.free
theorem bindL_out {kindOf:Str->Option NameKind}{x:Str}:∀ {binds:List (Str×Value)}{m:Str->Option Value},(∀ v,(x,v) ∉ binds)->bindL kindOf binds m x=m x
 | [],_,_=>rfl
 | (n,v)::r,m,h=>by
  unfold bindL
  rw[bindL_out fun w hw=>h w (List.mem_cons_of_mem _ hw)]
  split
  ·have:x≠n:=by rintro rfl;exact h v List.mem_cons_self
   simp [this]
  ·rfl
theorem bindC_out {kindOf:Str->Option NameKind}{x:Str}:∀ {binds:List (Str×Value)}{m:Str->Option Value},(∀ v,(x,v) ∉ binds)->bindC kindOf binds m x=m x
 | [],_,_=>rfl
 | (n,v)::r,m,h=>by
  unfold bindC
  rw[bindC_out fun w hw=>h w (List.mem_cons_of_mem _ hw)]
  split
  ·rfl
  ·have:x≠n:=by rintro rfl;exact h v List.mem_cons_self
   simp [this]
theorem bindL_get {kindOf:Str->Option NameKind}{x:Str}{v:Value}:∀ {P:List Str}{vs:List Value}{i:Nat}{m:Str->Option Value},P.Nodup->P[i]?=some x->vs[i]?=some v->kindOf x=some .local ->
  bindL kindOf (P.zip vs) m x=some v
 | [],_,_,_,_,h,_,_=>by simp at h
 | _::_,[],_,_,_,_,h,_=>by simp at h
 | p::P,w::vs,0,m,nd,h1,h2,hk=>by
  simp at h1 h2;subst h1;subst h2
  show bindL kindOf ((p,w)::P.zip vs) m p=_
  unfold bindL
  rw[bindL_out fun v hv=>(List.nodup_cons.mp nd).1 (List.of_mem_zip hv).1,if_pos hk]
  simp
 | p::P,w::vs,i+1,m,nd,h1,h2,hk=>by
  show bindL kindOf ((p,w)::P.zip vs) m x=_
  unfold bindL
  exact bindL_get (i:=i) (List.nodup_cons.mp nd).2 (by simpa using h1) (by simpa using h2) hk
theorem bindC_get {kindOf:Str->Option NameKind}{x:Str}{v:Value}:∀ {P:List Str}{vs:List Value}{i:Nat}{m:Str->Option Value},P.Nodup->P[i]?=some x->vs[i]?=some v->kindOf x≠some .local ->
  bindC kindOf (P.zip vs) m x=some v
 | [],_,_,_,_,h,_,_=>by simp at h
 | _::_,[],_,_,_,_,h,_=>by simp at h
 | p::P,w::vs,0,m,nd,h1,h2,hk=>by
  simp at h1 h2;subst h1;subst h2
  show bindC kindOf ((p,w)::P.zip vs) m p=_
  unfold bindC
  rw[bindC_out fun v hv=>(List.nodup_cons.mp nd).1 (List.of_mem_zip hv).1,if_neg hk]
  simp
 | p::P,w::vs,i+1,m,nd,h1,h2,hk=>by
  show bindC kindOf ((p,w)::P.zip vs) m x=_
  unfold bindC
  exact bindC_get (i:=i) (List.nodup_cons.mp nd).2 (by simpa using h1) (by simpa using h2) hk
def start (N:List Str) (vs:List V):St:=vs.map some++List.replicate (N.length-vs.length) none
def cxOf (CX:CXT) (P:Program) (w:World) (K:PySem.W.Frag) (mg:Str->Option Value) (base:Heap) (N:List Str) (qual:Str) (scope:Scope) (f:Addr) (cd:Value) (A:Around) (outer:List Env) (s:Shared) (H:Hp) (E:XK):Cx where
 prog:=P
 w:=w
 K:=K
 mg:=mg
 base:=base
 A:=A.deeper (envOfC qual scope s.heap.objs.size f cd)
 N:=N
 s₀:=s
 H₀:=H
 env:=envOfC qual scope s.heap.objs.size f cd
 outer:=outer
 stack:=envOfC qual scope s.heap.objs.size f cd::outer
 ex:=[]
 calm:=true
 fn:=fun _=>true
 pn:=[]
 xe:=fun e s'=>wpAny (model P w) (A.deeper (envOfC qual scope s.heap.objs.size f cd)) (leaving (envOfC qual scope s.heap.objs.size f cd) e) (fun _ s''=>CX outer H s E e s'') (fun e' s''=>CX outer H s E e' s'') s'
theorem cell_has {sc:Scope}{n:Nat}{x:Str} (h:sc.names.lookup x=some .cell):∃ c,(cellsFrom n sc.names []).lookup x=some c:=by
 have q:=PySem.W.cellsFrom_some sc.names n [] (.inl h)
 exact Option.isSome_iff_exists.mp q
theorem inv_start {CX:CXT}{P:Program}{w:World}{K:PySem.W.Frag}{mg:Str->Option Value}{base:Heap}{N ps:List Str}{qual:Str}{scope:Scope}{f:Addr}{cd:Value}{A:Around}{outer:List Env}{s s1:Shared}{H:Hp}{E:XK}{us:List Value}{vs:List V}
  (S:FnScope N ps scope) (hd:A.handled=none) (e0:Env0 P w K mg base A outer s H) (hl:vs.length=ps.length) (r:Vals vs us)
  (x:InCallC s s.heap.objs.size (bindL (envOfC qual scope s.heap.objs.size f cd).kindOf (ps.zip us) fun _=>none) (cellsFrom (s.heap.objs.size+1) scope.names []) (bindC (envOfC qual scope s.heap.objs.size f cd).kindOf (ps.zip us) fun _=>none) s1) :
  Inv (cxOf CX P w K mg base N qual scope f cd A outer s H E) [] (start N vs) H s1:=by
 have hpl:ps.length<=N.length:=by have:=congrArg List.length S.pre;rw[List.length_take]at this;lia
 obtain⟨h1,tk,rfl,hk⟩:=x.done
 have noA:∀ b:Addr,b ∉ (cxOf CX P w K mg base N qual scope f cd A outer s H E).ex:=fun b z=>absurd (show b∈([]:List Addr) from z) (by simp)
 refine⟨⟨e0.mod,S.kind,rfl,rfl,Nat.le_refl _,fun y z c h1 h2=>?_,fun y hy=>?_,fun y c _ h=>?_,fun _=>hd,Around.frames_deeper e0.frames,.inr ⟨rfl,rfl⟩,fun b z=>absurd z (noA b),e0.bs,e0.bsz,fun b _ _=>noA b,fun b z=>absurd z (noA b),e0.funs,e0.frf⟩,
  rfl,e0.bare,Un.kept hk,⟨_,x.toInCall.ns,fun i y v h1 h2 h3=>?_⟩,fun y c h=>⟨_,x.cell y c h⟩,e0.hok.fresh (Nat.le_refl _),fun y c h=>?_,fun p hp=>absurd (show p∈([]:List (Addr×Obj)) from hp) (by simp),e0.hok.kept hk,?_⟩
 ·exact name_of_addr x.apart (PySem.mem_of_lookup h1) (PySem.mem_of_lookup h2)
 ·have hy:scope.names.lookup y=some .cell\/scope.names.lookup y=some .free:=hy
  rcases hy with hy | hy
  ·exact cell_has hy
  ·exact absurd rfl (S.nofree _ (PySem.mem_of_lookup hy))
 ·exact Nat.le_of_lt (x.above y c (PySem.mem_of_lookup h))
 ·have hi:i<vs.length:=by
   unfold start at h2
   by_cases hi:i<vs.length
   ·exact hi
   ·rw[List.getElem?_append_right (by simpa using hi)]at h2
    rw[List.getElem?_replicate]at h2
    split at h2 <;> cases h2
  have ha:vs[i]?=some v:=by
   unfold start at h2
   rw[List.getElem?_append_left (by simpa using hi),List.getElem?_map]at h2
   cases e:vs[i]? with
   | none=>rw[e]at h2;cases h2
   | some a=>rw[e]at h2;cases h2;rfl
  obtain⟨u,hu,rv⟩:=r.get ha
  have hp:ps[i]?=some y:=by
   rw[<- S.pre,List.getElem?_take_of_lt (by lia)];exact h1
  have ndP:ps.Nodup:=by rw[<- S.pre];exact S.nd.sublist (List.take_sublist _ _)
  refine⟨u,rv,?_⟩
  rcases S.par y (List.mem_of_getElem? hp) with k | k
  ·exact .inl ⟨k,bindL_get ndP hp hu k⟩
  ·obtain⟨c,e⟩:=cell_has (n:=s.heap.objs.size+1) k
   refine .inr ⟨.inl k,c,e,?_⟩
   have q:=x.cell y c e
   rw[bindC_get ndP hp hu (by show scope.names.lookup y≠_;rw[k];decide)]at q
   exact q
 ·exact e0.hok.fresh (Nat.le_of_lt (x.above y c (PySem.mem_of_lookup h)))
 ·unfold start
  show _=N.length
  rw[List.length_append,List.length_map,List.length_replicate]
  lia
theorem fn_of {CX:CXT}{P:Program}{w:World}{K:PySem.W.Frag}{mg:Str->Option Value}{base:Heap}{k:Nat}{f:Addr}{name qual:Str}{params:Arguments}{body:List Stmt}{scope:Scope}{dV kV doc pm cdv ct oc:Value}{an od:Option Addr}
  {osl:Array (Option Value)}{N ps:List Str}{sp:Sp} (lk:K.lookup f=some ⟨oc,od,.func (PySem.W.fnOf name qual params body scope dV kV doc pm an cdv ct),osl⟩) (hcd:PySem.W.codeIn K cdv qual=true) (S:FnScope N ps scope)
  (len:∀ vs H Q E,sp vs H Q E->vs.length=ps.length)
  (hbody:∀ (A:Around) (outer:List Env) (s:Shared) (H:Hp) (vs:List V) (Q:VK) (E:XK),Room k (A.deeper (envOfC qual scope s.heap.objs.size f cdv))->sp vs H Q E ->
   ∃ t,PSs (cxOf CX P w K mg base N qual scope f cdv A outer s H E) body t/\t { nx:=fun _ H'=>Q .non H',rt:=Q } (start N vs) H) :
  FnOk P w K mg base CX (k+1) f (PySem.W.fnOf name qual params body scope dV kV doc pm an cdv ct) ps sp:=by
 refine⟨len,fun A outer s H args us vs Q E hr e0 hb r hsp=>?_⟩
 have hl:=len _ _ _ _ hsp
 have KX:K.In s.heap:=e0.mod.kin.keeps fun b o e=>(e0.bs b o e).1
 have lim:s.heap.NoLimit:=e0.mod.nolimit.keeps fun b o e=>(e0.bs b o e).1
 have hkind:∀ y∈ps.zip us,scope.names.lookup y.1=some .local\/(scope.names.lookup y.1=some .cell/\((cellsFrom (s.heap.objs.size+1) scope.names []).lookup y.1).isSome=true):=fun⟨n,v⟩ hy=>by
  rcases S.par n (List.of_mem_zip hy).1 with q | q
  ·exact .inl q
  ·exact .inr ⟨q,PySem.W.cellsFrom_some _ _ _ (.inl q)⟩
 refine codeAny_call_function hr.depth (KX _ _ lk) rfl S.co S.gen rfl (PySem.W.codeRec_of KX hcd) (hb _ _ _ _ ?_)
 refine wpAny_newFunctionEnv_cells S.kind hkind fun env he s1 x=>?_
 subst he
 refine⟨lim.keeps x.toInCall.keep,codeAny_func ?_⟩
 obtain⟨t,ht,hq⟩:=hbody A outer s H vs Q E (hr.deeper _) hsp
 have I:Inv (cxOf CX P w K mg base N qual scope f cdv A outer s H E) [] (start N vs) H s1:=inv_start S hr.hd e0 hl r x
 refine wpAny_mono (ht [] s1 (start N vs) H _ I hq) (fun fl s' hs=>?_) fun e s' hs=>hs
 have fin:∀ {σ':St} {H':Hp}{v:V}{u:Value},Inv (cxOf CX P w K mg base N qual scope f cdv A outer s H E) [] σ' H' s'->RelV v u->Q v H'->CE outer P w H s Q u s':=
  fun {σ' H' v u} J rv q=>⟨v,H',J.os,J.bare,J.base,J.hok,rv,q⟩
 cases fl with
 | ret u=>
  obtain⟨v,σ',H',J,rv,q⟩:=hs
  exact fin J rv q
 | next=>
  obtain⟨σ',H',J,q⟩:=hs
  exact fin (v:=V.non) (u:=Value.none) J rfl q
 | brk=>
  obtain⟨_,_,_,q⟩:=hs
  exact False.elim q
 | cont=>
  obtain⟨_,_,_,q⟩:=hs
  exact False.elim q
end L2
namespace L2
open PySem PySem.Spec PyProof.Rows
section
variable {X:Cx}{x:Str}{p pos:Pos}{e:Expr}{es:List Expr}{t:TA}{id T:String}{r:List V->Hp->VK->Prop}
def tCB (r:List V->Hp->VK->Prop) (t:TA):TE:=fun σ H Q=>t σ H fun vs H1=>r vs H1 Q
theorem pe_callB (hc:CallR X (.builtin id) r) (hg:Gl X x) (hm:X.mg x=none) (hv:bootBuiltins x=some (.builtin id)) (ha:PA X (e::es) t) (hn:x≠"__name__":=by decide) (hdb:(x == ("__debug__" : Str))=false:=by decide)
  (he:starEach (e::es) X.env=(false,eval e X.env)::starEach es X.env:=by rfl) (hpl:(backTo pos (starEach es X.env)).any (·.1)=false:=by rfl):PE X (.Call (.Name x p) (e::es) [] pos) (tCB r t):=by
 intro pins s σ H Q I h
 refine wpAny_Call_Name_kw (ld_blt I hg hm hv ?_ hn hdb)
 exact PyProof.Rows.callWith_builtin1 (thn (ha pos pins s σ H _ I h) fun us s1 ⟨vs,H1,I1,r1,q1⟩=>hc pins s1 σ H1 vs us Q I1 r1 q1) he hpl
theorem pe_callTy (hc:CallR X (.type T) r) (hg:Gl X x) (hm:X.mg x=none) (hv:bootBuiltins x=some (.type T)) (ha:PA X (e::es) t) (hn:x≠"__name__":=by decide) (hdb:(x == ("__debug__" : Str))=false:=by decide)
  (he:starEach (e::es) X.env=(false,eval e X.env)::starEach es X.env:=by rfl) (hpl:(backTo pos (starEach es X.env)).any (·.1)=false:=by rfl):PE X (.Call (.Name x p) (e::es) [] pos) (tCB r t):=by
 intro pins s σ H Q I h
 refine wpAny_Call_Name_kw (ld_blt I hg hm hv ?_ hn hdb)
 exact PyProof.Rows.callWith_type1 (thn (ha pos pins s σ H _ I h) fun us s1 ⟨vs,H1,I1,r1,q1⟩=>hc pins s1 σ H1 vs us Q I1 r1 q1) he hpl
end
end L2
namespace L2
open PySem PySem.Spec PyProof.Rows
section
variable {κ:Type} [DecidableEq κ]
def valV (kvs:List (κ×V)) (k:κ):Option V:=(kvs.find? fun kv=>decide (kv.1=k)).map (·.2)
def putK (kvs:List (κ×V)) (k:κ) (v:V):List (κ×V):=
 if (kvs.any fun kv=>decide (kv.1=k))=true then kvs.map (fun kv=>if kv.1=k then (kv.1,v) else kv) else kvs++[(k,v)]
theorem valV_pos {p:κ×V}{r:List (κ×V)}{k:κ} (e:p.1=k):valV (p::r) k=some p.2:=by simp [valV,List.find?_cons,e]
theorem valV_neg {p:κ×V}{r:List (κ×V)}{k:κ} (e:¬p.1=k):valV (p::r) k=valV r k:=by simp [valV,List.find?_cons,e]
theorem valV_any (k:κ):∀ kvs:List (κ×V),(kvs.any fun kv=>decide (kv.1=k))=(valV kvs k).isSome
 | []=>rfl
 | p::r=>by
  rw[List.any_cons]
  by_cases e:p.1=k
  ·simp only[valV_pos e,decide_eq_true e,Bool.true_or,Option.isSome_some]
  ·rw[valV_neg e,decide_eq_false e,Bool.false_or];exact valV_any k r
theorem length_putK (kvs:List (κ×V)) (k:κ) (v:V):(putK kvs k v).length<=kvs.length+1:=by
 unfold putK
 split
 ·rw[List.length_map];lia
 ·rw[List.length_append,List.length_cons,List.length_nil];lia
theorem putK_new {kvs:List (κ×V)}{k:κ} (v:V) (h:valV kvs k=none):putK kvs k v=kvs++[(k,v)]:=by
 unfold putK
 rw[valV_any,h]
 exact if_neg (by decide)
theorem RelO.isSome_eq {o:Option V}{u:Option Value} (r:RelO o u):o.isSome=u.isSome:=by
 cases o with
 | none=>cases u with
  | none=>rfl
  | some _=>exact (show False from r).elim
 | some _=>cases u with
  | none=>exact (show False from r).elim
  | some _=>rfl
theorem KV.val {kvs:List (κ×V)}{vs:List (κ×Value)} (r:KV kvs vs) (k:κ):RelO (valV kvs k) (valueAt vs k):=by
 unfold KV at r
 induction r with
 | nil=>exact True.intro
 | @cons p q ps qs h t ih=>
  obtain⟨h1,h2⟩:=h
  by_cases e:p.1=k
  ·have e':q.1=k:=h1.symm.trans e
   have b:valueAt (q::qs) k=some q.2:=by simp [valueAt,List.find?_cons,e']
   rw[valV_pos e,b];exact h2
  ·have e':¬q.1=k:=fun z=>e (h1.trans z)
   have b:valueAt (q::qs) k=valueAt qs k:=by simp [valueAt,List.find?_cons,e']
   rw[valV_neg e,b];exact ih
theorem KV.any {kvs:List (κ×V)}{vs:List (κ×Value)} (r:KV kvs vs) (k:κ):(kvs.any fun kv=>decide (kv.1=k))=vs.any fun kv=>decide (kv.1=k):=by
 unfold KV at r
 induction r with
 | nil=>rfl
 | cons h t ih=>rw[List.any_cons,List.any_cons,ih,h.1]
theorem KV.repl {kvs:List (κ×V)}{vs:List (κ×Value)} (r:KV kvs vs) (k:κ) {y:V}{u:Value} (ry:RelV y u) :
  KV (kvs.map fun kv=>if kv.1=k then (kv.1,y) else kv) (vs.map fun kv=>if kv.1=k then (kv.1,u) else kv):=by
 unfold KV at r ⊢
 induction r with
 | nil=>exact .nil
 | @cons p q ps qs h t ih=>
  rw[List.map_cons,List.map_cons]
  refine .cons ?_ ih
  obtain⟨h1,h2⟩:=h
  by_cases e:p.1=k
  ·rw[if_pos e,if_pos (h1.symm.trans e)];exact⟨h1,ry⟩
  ·rw[if_neg e,if_neg (fun z=>e (h1.trans z))];exact⟨h1,h2⟩
theorem KV.put {kvs:List (κ×V)}{vs:List (κ×Value)} (r:KV kvs vs) (k:κ) {y:V}{u:Value} (ry:RelV y u):KV (putK kvs k y) (stored vs k u):=by
 unfold putK stored
 rw[r.any k]
 by_cases e:(vs.any fun kv=>decide (kv.1=k))=true
 ·rw[if_pos e,if_pos e];exact r.repl k ry
 ·rw[if_neg e,if_neg e];exact Paired.snoc r ⟨rfl,ry⟩
theorem KV.length {kvs:List (κ×V)}{vs:List (κ×Value)} (r:KV kvs vs):kvs.length=vs.length:=Paired.length r
end
theorem kV_is {P:Program}{w:World}{k:Key}{u:Value} (r:RelV (kV k) u):(mixKind P w).is k u=true:=by
 cases k with
 | inl i=>obtain⟨t,e⟩:=(show ∃ t,u=Value.int i t from r);subst e;exact mixKind_int P w i t
 | inr x=>obtain⟨t,e⟩:=(show ∃ t,u=Value.str x t from r);subst e;exact mixKind_str P w x t
theorem items_are {P:Program}{w:World}:∀ {ks:List Key}{us:List Value},Vals (ks.map kV) us->ItemsAre (mixKind P w) ks us
 | [],_,r=>by rw[List.map_nil]at r;cases r;exact .nil
 | k::ks,_,r=>by
  rw[List.map_cons]at r
  cases r with
  | cons h t=>exact .cons (kV_is h) (items_are t)
abbrev KT (H:Hp):List (List Key×V)->List (List Key×Addr×Value)->Prop:=Paired fun p q=>p.1=q.1/\H q.2.1=some (.tup (p.1.map kV))/\RelV p.2 q.2.2
theorem KT.val {H:Hp}{kvs:List (List Key×V)}{xs:List (List Key×Addr×Value)} (r:KT H kvs xs) (k:List Key):RelO (valV kvs k) ((atKey xs k).map (·.2)):=by
 induction r with
 | nil=>exact True.intro
 | @cons p q ps qs h t ih=>
  obtain⟨h1,_,h2⟩:=h
  by_cases e:p.1=k
  ·have e':q.1=k:=h1.symm.trans e
   have b:atKey (q::qs) k=some q.2:=by simp [atKey,List.find?_cons,e']
   rw[valV_pos e,b];exact h2
  ·have e':¬q.1=k:=fun z=>e (h1.trans z)
   have b:atKey (q::qs) k=atKey qs k:=by simp [atKey,List.find?_cons,e']
   rw[valV_neg e,b];exact ih
theorem KT.repl {H:Hp}{kvs:List (List Key×V)}{xs:List (List Key×Addr×Value)} (r:KT H kvs xs) (k:List Key) {y:V}{u:Value} (ry:RelV y u) :
  KT H (kvs.map fun kv=>if kv.1=k then (kv.1,y) else kv) (xs.map (putAt k u)):=by
 induction r with
 | nil=>exact .nil
 | @cons p q ps qs h t ih=>
  rw[List.map_cons,List.map_cons]
  refine .cons ?_ ih
  obtain⟨h1,h2,h3⟩:=h
  unfold putAt
  by_cases e:p.1=k
  ·rw[if_pos e,if_pos (h1.symm.trans e)];exact⟨h1,h2,ry⟩
  ·rw[if_neg e,if_neg (fun z=>e (h1.trans z))];exact⟨h1,h2,h3⟩
theorem KT.put {H:Hp}{kvs:List (List Key×V)}{xs:List (List Key×Addr×Value)} (r:KT H kvs xs) (k:List Key) {b:Addr}{y:V}{u:Value} (hb:H b=some (.tup (k.map kV))) (ry:RelV y u) :
  KT H (putK kvs k y) (storedH xs k b u):=by
 have e:(kvs.any fun kv=>decide (kv.1=k))=(atKey xs k).isSome:=by
  rw[valV_any,(r.val k).isSome_eq,Option.isSome_map]
 unfold putK storedH
 rw[e]
 by_cases q:(atKey xs k).isSome=true
 ·rw[if_pos q,if_pos q];exact r.repl k ry
 ·rw[if_neg q,if_neg q];exact Paired.snoc r ⟨rfl,hb,ry⟩
theorem KT.keeps {H H':Hp}{kvs:List (List Key×V)}{xs:List (List Key×Addr×Value)} (r:KT H kvs xs) (ht:∀ b ys,H b=some (.tup ys)->H' b=some (.tup ys)):KT H' kvs xs:=
 Paired.mapP r fun _ _ z=>⟨z.1,ht _ _ z.2.1,z.2.2⟩
section
variable {P:Program}{w:World}{H:Hp}{h:Heap}{a:Addr}
theorem rd_of {u:HO} (ok:HOk P w H h) (e:Rd H a u):ObjOk P w H h a u:=e.ok ok
theorem dk_rd {kvs:List (Key×V)} (ok:HOk P w H h) (e:Rd H a (.dK kvs)):kvs.length<=sizeLine/\(a == sysModules)=false/\∃ vs,KV kvs vs/\h.DictOf (mixKind P w) a vs:=
 show ObjOk P w H h a (.dK kvs) from rd_of ok e
theorem dk_of {kvs:List (Key×V)} (ok:HOk P w H h) (e:H a=some (.dK kvs)):kvs.length<=sizeLine/\(a == sysModules)=false/\∃ vs,KV kvs vs/\h.DictOf (mixKind P w) a vs:=dk_rd ok (.inl e)
theorem key_of {ks:List Key} (ok:HOk P w H h) (e:H a=some (.tup (ks.map kV))):(tupleKind (mixKind P w)).is h ks a:=by
 obtain⟨_,its,r,o,h1,h2,n,h3⟩:=(show ObjOk P w H h a (.tup (ks.map kV)) from ok a _ e)
 exact⟨o,its.toArray,n,h1,h2,h3,by simpa using items_are r⟩
theorem dt_rd {kvs:List (List Key×V)} (ok:HOk P w H h) (e:Rd H a (.dT kvs)):kvs.length<=sizeLine/\(a == sysModules)=false /\
  ∃ xs,KT H kvs xs/\h.DictOfH (tupleKind (mixKind P w)) a xs:=by
 obtain⟨z,y,xs,r,o,es,ep,h1,h2,h3,h4,h5⟩:=(show ObjOk P w H h a (.dT kvs) from rd_of ok e)
 refine⟨z,y,xs,r,o,es,ep,h1,h2,h3,h4,fun x hx=>?_,h5⟩
 have all:∀ {l:List (List Key×V)}{m:List (List Key×Addr×Value)},KT H l m->∀ x∈m,(tupleKind (mixKind P w)).is h x.1 x.2.1:=by
  intro l m q
  induction q with
  | nil=>intro x hx;exact nomatch hx
  | @cons p q ps qs hq t ih=>
   intro x hx
   rcases List.mem_cons.mp hx with e | hx
   ·subst e
    exact key_of ok (by rw[<- hq.1];exact hq.2.1)
   ·exact ih x hx
 exact all r x hx
theorem dt_of {kvs:List (List Key×V)} (ok:HOk P w H h) (e:H a=some (.dT kvs)):kvs.length<=sizeLine/\(a == sysModules)=false /\
  ∃ xs,KT H kvs xs/\h.DictOfH (tupleKind (mixKind P w)) a xs:=dt_rd ok (.inl e)
end
def DGet (H:Hp) (a:Addr) (y:V) (r:Option V):Prop:=
 (∃ kvs k,Rd H a (.dK kvs)/\y=kV k/\r=valV kvs k)\/∃ kvs k b,Rd H a (.dT kvs)/\y=.ref b/\H b=some (.tup (k.map kV))/\r=valV kvs k
def DPut (H:Hp) (a:Addr) (y v:V) (H':Hp):Prop:=
 (∃ kvs k,H a=some (.dK kvs)/\y=kV k/\kvs.length<sizeLine/\H'=upd H a (.dK (putK kvs k v))) \/
 ∃ kvs k b,H a=some (.dT kvs)/\y=.ref b/\H b=some (.tup (k.map kV))/\kvs.length<sizeLine/\H'=upd H a (.dT (putK kvs k v))
theorem DGet.k {H:Hp}{a:Addr}{kvs:List (Key×V)}{k:Key} (e:H a=some (.dK kvs)):DGet H a (kV k) (valV kvs k):=.inl ⟨kvs,k,.inl e,rfl,rfl⟩
theorem DPut.k {H:Hp}{a:Addr}{kvs:List (Key×V)}{k:Key}{v:V} (e:H a=some (.dK kvs)) (hl:kvs.length<sizeLine):DPut H a (kV k) v (upd H a (.dK (putK kvs k v))):=.inl ⟨kvs,k,e,rfl,hl,rfl⟩
section
variable {X:Cx}{pins:List (Addr×Obj)} {σ:St} {H:Hp}{s:Shared}{a:Addr}{y v:V}{u r:Value}{o:Option V}{A:Around}{E:Value->Shared->Prop}
theorem Inv.big (I:Inv X pins σ H s):sysModules<s.heap.objs.size:=by
 have h:mainGlobals<s.heap.objs.size:=(I.mod.glob.keeps I.bk).lt
 exact Nat.lt_trans (by decide) h
theorem d_getItem {Q:Value->Shared->Prop} (hu:A.units+1<cLine) (I:Inv X pins σ H s) (g:DGet H a y (some v)) (ry:RelV y u) (h:∀ w' s',Inv X pins σ H s'->RelV v w'->Q w' s') :
  wpAny (model X.prog X.w) A (getItem (.ref a) u) Q E s:=by
 rcases g with ⟨kvs,k,e,ey,l⟩ | ⟨kvs,k,b,e,ey,eb,l⟩
 ·subst ey
  obtain⟨z,hd,vs,rel,dd⟩:=dk_rd I.hok e
  obtain⟨w',hw,rw'⟩:=RelO.some_of (v:=v) (o:=valueAt vs k) (by rw[l];exact rel.val k)
  exact wpAny_getItem_of (kV_is ry) dd.mapOf hw (h w' _ (I.tok _) rw')
 ·subst ey
  cases (show u=Value.ref b from ry)
  obtain⟨z,hd,xs,rel,dd⟩:=dt_rd I.hok e
  obtain⟨w',hw,rw'⟩:=RelO.some_of (v:=v) (o:=(atKey xs k).map (·.2)) (by rw[l];exact rel.val k)
  obtain⟨p,hp,hp2⟩:=Option.map_eq_some_iff.mp hw
  refine wpAny_getItem_heap (tupleKind_room_in1 hu) (key_of I.hok eb) dd hp ?_
  rw[hp2]
  exact h w' _ (I.tok _) rw'
theorem d_notIn {Q:Value->Shared->Prop} (hu:A.units+1<cLine) (I:Inv X pins σ H s) (g:DGet H a y o) (ry:RelV y u) (h:∀ s',Inv X pins σ H s'->Q (.bool (!o.isSome)) s') :
  wpAny (model X.prog X.w) A (compareOp .NotIn u (.ref a)) Q E s:=by
 rcases g with ⟨kvs,k,e,ey,l⟩ | ⟨kvs,k,b,e,ey,eb,l⟩
 ·subst ey
  obtain⟨z,hd,vs,rel,dd⟩:=dk_rd I.hok e
  refine wpAny_notIn_of (kV_is ry) hd dd.mapOf ?_
  rw[<- (rel.val k).isSome_eq,<- l]
  exact h _ (I.tok _)
 ·subst ey
  cases (show u=Value.ref b from ry)
  obtain⟨z,hd,xs,rel,dd⟩:=dt_rd I.hok e
  refine wpAny_notIn_heap (tupleKind_room_in1 hu) (key_of I.hok eb) hd dd ?_
  have q:=(rel.val k).isSome_eq
  rw[Option.isSome_map]at q
  rw[<- q,<- l]
  exact h _ (I.tok _)
theorem d_write {h':Heap}{t':Nat}{ob:HO} (I:Inv X pins σ H s) (mu:Mut (H a)) (hs:Heap.SameBut a s.heap h') (he:∃ q,h'.get? a=some q) (new:ObjOk X.prog X.w (upd H a ob) h' a ob) :
  Inv X pins σ (upd H a ob) { s with heap:=h',toks:=t' }:=
 I.write (x:=a) (e:=a) mu (.inl rfl) (fun b q hb z=>(hs.2 b hb).trans z) he new
theorem dk_new {P:Program}{w:World}{H':Hp}{h':Heap}{kvs:List (Key×V)}{vs:List (Key×Value)} (z:kvs.length<=sizeLine) (hd:(a == sysModules)=false) (rel:KV kvs vs) (dd:h'.DictOf (mixKind P w) a vs) :
  ObjOk P w H' h' a (.dK kvs):=⟨z,hd,vs,rel,dd⟩
theorem d_setItem {H':Hp}{Q:Unit->Shared->Prop} (hu:A.units+1<cLine) (I:Inv X pins σ H s) (g:DPut H a y v H') (ry:RelV y u) (rv:RelV v r) (h:∀ s',Inv X pins σ H' s'->Q () s') :
  wpAny (model X.prog X.w) A (setItem (.ref a) u r) Q E s:=by
 rcases g with ⟨kvs,k,e,ey,l,eH⟩ | ⟨kvs,k,b,e,ey,eb,l,eH⟩
 ·subst ey eH
  obtain⟨z,hd,vs,rel,dd⟩:=dk_of I.hok e
  have hz:vs.length<=sizeLine:=by rw[<- rel.length];exact z
  have hl:(putK kvs k v).length<=sizeLine:=by have:=length_putK kvs k v;lia
  refine wpAny_setItem_pairs (hsz:=hz) (kV_is ry) dd fun h' dd' hs=>h _ ?_
  have he:∃ q,h'.get? a=some q:=let ⟨q,_,_,hq,_⟩:=dd';⟨q,hq⟩
  exact d_write I (by rw[e];exact True.intro) hs he (dk_new hl hd (rel.put k rv) dd')
 ·subst ey eH
  cases (show u=Value.ref b from ry)
  obtain⟨z,hd,xs,rel,dd⟩:=dt_of I.hok e
  have hz:xs.length<=sizeLine:=by rw[<- Paired.length rel];exact z
  have hl:(putK kvs k v).length<=sizeLine:=by have:=length_putK kvs k v;lia
  refine wpAny_setItem_heap (hsz:=hz) (tupleKind_room_in1 hu) (key_of I.hok eb) dd fun h' dd' hs=>h _ ?_
  obtain⟨q,es,ep,hq,h2,h3,h4,_,h5⟩:=dd'
  refine d_write I (by rw[e];exact True.intro) hs ⟨q,hq⟩ ⟨hl,hd,_,(rel.put k eb rv).keeps fun c ys ec=>?_,q,es,ep,hq,h2,h3,h4,h5⟩
  rw[upd_ne (ne_of ec e (fun z=>nomatch z))]
  exact ec
end
section
variable {X:Cx}{pins:List (Addr×Obj)} {σ:St} {H:Hp}{s:Shared}{a:Addr}{kvs:List (Key×V)}{k:Key}{u:Value}{A:Around}{E:Value->Shared->Prop}
end
theorem dict_typeIs {X:Cx}{pins:List (Addr×Obj)} {σ:St} {H:Hp}{s:Shared}{a:Addr}{y:V}{o:Option V} (I:Inv X pins σ H s) (g:DGet H a y o):s.TypeIs (.ref a) "dict":=by
 rcases g with ⟨kvs,k,e,_,_⟩ | ⟨kvs,k,b,e,_,_,_⟩
 ·obtain⟨_,_,vs,_,dd⟩:=dk_rd I.hok e
  exact dd.typeIs
 ·obtain⟨_,_,xs,_,dd⟩:=dt_rd I.hok e
  exact dd.typeIs
section
variable {X:Cx}{o i e value:Expr}{pos pos' tpos:Pos}{td ty tv:TE}
end
theorem dk_empty {P:Program}{w:World}{H:Hp} (h:Heap) (hb:sysModules<h.objs.size):ObjOk P w H (h.push { cls:=.type "dict",data:=.dict #[] }) h.objs.size (.dK []):=
 ⟨Nat.zero_le _,beq_eq_false_iff_ne.mpr (Ne.symm (Nat.ne_of_lt hb)),[],.nil,Heap.DictOf.new h⟩
def tDNewK:TE:=fun _ H Q=>∀ p,H p=none->Q (.ref p) (upd H p (.dK []))
section
variable {X:Cx}{pos:Pos}
theorem pe_dnewK:PE X (.Dict [] [] pos) tDNewK:=fun pins s σ H Q I h=>
 wpAny_Dict_empty ⟨.ref s.heap.objs.size,_,I.laid (a:=s.heap.objs.size) (o:=.dK []) (t':=s.toks) (fun _ _ q=>Heap.get?_push_of_some _ q) (Nat.le_refl _) (dk_empty s.heap I.big),rfl,h _ (I.hok.fresh (Nat.le_refl _))⟩
end
def tPairs:List (TE×TE)->St->Hp->(List (V×V)->Hp->Prop)->Prop
 | [],_,H,Q=>Q [] H
 | (tk,tv)::r,σ,H,Q=>tk σ H fun x H1=>tv σ H1 fun y H2=>tPairs r σ H2 fun ps H3=>Q ((x,y)::ps) H3
abbrev VV:List (V×V)->List (Value×Value)->Prop:=Paired fun p q=>RelV p.1 q.1/\RelV p.2 q.2
def PPs (X:Cx) (pos:Pos) (keys:List (Option Expr)) (values:List Expr) (trs:List (TE×TE)):Prop:=
 ∀ (pins:List (Addr×Obj)) (s:Shared) (σ:St) (H:Hp) (Q:List (V×V)->Hp->Prop),Inv X pins σ H s->tPairs trs σ H Q ->
  wpAny (model X.prog X.w) X.A (evalPairs (pairTrees keys values X.env pos)) (fun vs s'=>∃ ps H',Inv X pins σ H' s'/\VV ps vs/\Q ps H') X.xe s
theorem pps_nil {X:Cx}{pos:Pos}:PPs X pos [] [] []:=fun pins s σ H Q I h=>pairTrees_nil_walk ⟨[],H,I,.nil,h⟩
theorem pps_cons {X:Cx}{pos:Pos}{k v:Expr}{ks:List (Option Expr)}{vs:List Expr}{tk tv:TE}{trs:List (TE×TE)} (hk:PE X k tk) (hv:PE X v tv) (hr:PPs X pos ks vs trs) :
  PPs X pos (some k::ks) (v::vs) ((tk,tv)::trs):=fun pins s σ H Q I h=>
 pairTrees_cons_walk (thn (hk pins s σ H _ I h) fun u s1 ⟨x,H1,I1,rx,q1⟩=>thn (hv pins s1 σ H1 _ I1 q1) fun w2 s2 ⟨y,H2,I2,ry,q2⟩=>
  thn (hr pins s2 σ H2 _ I2 q2) fun ws s3 ⟨ps,H3,I3,rel,q3⟩=>⟨(x,y)::ps,H3,I3,.cons ⟨rx,ry⟩ rel,q3⟩)
def mergeK (kvs more:List (Key×V)):List (Key×V):=more.foldl (fun acc kv=>putK acc kv.1 kv.2) kvs
theorem KV.merge:∀ {more:List (Key×V)}{rs:List (Key×Value)}{kvs:List (Key×V)}{vs:List (Key×Value)},KV more rs->KV kvs vs->KV (mergeK kvs more) (merged vs rs):=by
 intro more rs kvs vs r
 unfold KV at r
 induction r generalizing kvs vs with
 | nil=>intro q;exact q
 | @cons p q ps qs h t ih=>
  intro r0
  have e:KV (putK kvs p.1 p.2) (stored vs q.1 q.2):=by
   have:=r0.put p.1 h.2
   rw[<- h.1];exact this
  exact ih e
theorem length_mergeK:∀ (more kvs:List (Key×V)),(mergeK kvs more).length<=kvs.length+more.length
 | [],kvs=>by show kvs.length<=kvs.length+0;lia
 | p::r,kvs=>by
  have h1:=length_mergeK r (putK kvs p.1 p.2)
  have h2:=length_putK kvs p.1 p.2
  show (mergeK (putK kvs p.1 p.2) r).length<=_
  rw[List.length_cons];lia
theorem carries_of {P:Program}{w:World}:∀ {kvs:List (Key×V)}{ws:List (Value×Value)},VV (kvs.map fun kv=>(kV kv.1,kv.2)) ws->∃ rs,Carries (mixKind P w) ws rs/\KV kvs rs
 | [],_,r=>by rw[List.map_nil]at r;cases r;exact⟨[],True.intro,.nil⟩
 | p::kvs,_,r=>by
  rw[List.map_cons]at r
  cases r with
  | @cons a b as bs h t=>
   obtain⟨rs,c,q⟩:=carries_of (P:=P) (w:=w) t
   obtain⟨b1,b2⟩:=b
   exact⟨(p.1,b2)::rs,⟨kV_is h.1,rfl,c⟩,.cons ⟨rfl,h.2⟩ q⟩
def tDisp (trs:List (TE×TE)):TE:=fun σ H Q=>∀ p,H p=none->tPairs trs σ (upd H p (.dK [])) fun ps H2=>H2 p=some (.dK [])/\∃ kvs:List (Key×V),ps=kvs.map (fun kv=>(kV kv.1,kv.2))/\kvs.length<=15/\Q (.ref p) (upd H2 p (.dK (mergeK [] kvs)))
theorem pe_disp {X:Cx}{pos:Pos}{keys:List (Option Expr)}{values:List Expr}{trs:List (TE×TE)} (h:PPs X pos keys values trs) (hall:keys.all (·.isSome)=true) (hl:keys.length=values.length) (h0:keys≠[])
  (h15:keys.length<=15):PE X (.Dict keys values pos) (tDisp trs):=by
 intro pins s σ H Q I q
 have hn:=I.hok.fresh (Nat.le_refl s.heap.objs.size)
 have I1:=I.laid (a:=s.heap.objs.size) (o:=.dK []) (h':=s.heap.push { cls:=.type "dict",data:=.dict #[] }) (t':=s.toks) (fun _ _ q=>Heap.get?_push_of_some _ q) (Nat.le_refl _) (dk_empty s.heap I.big)
 refine wpAny_Dict_walk (knd:=mixKind X.prog X.w) hall hl h0 h15 (thn (h pins _ σ _ _ I1 (q _ hn)) fun ws s2 ⟨ps,H2,I2,rel,e,kvs,ep,lk,q2⟩=>?_)
 subst ep
 obtain⟨rs,c,rk⟩:=carries_of (P:=X.prog) (w:=X.w) rel
 obtain⟨z,hd,vs0,r0,dd⟩:=dk_of I2.hok e
 cases r0
 refine⟨rs,c,dd,fun h' dd' hs=>⟨.ref s.heap.objs.size,_,?_,rfl,q2⟩⟩
 have hz:(mergeK [] kvs).length<=sizeLine:=by
  have h1:=length_mergeK kvs []
  rw[List.length_nil]at h1
  rw[sizeLine_eq];lia
 have he:∃ q,h'.get? s.heap.objs.size=some q:=let ⟨q,_,_,hq,_⟩:=dd';⟨q,hq⟩
 exact d_write I2 (by rw[e];exact True.intro) hs he (dk_new hz hd (rk.merge .nil) dd')
structure M1 (X:Cx) (o:Expr) (m:Str) (apos:Pos) (e:Expr) (cpos:Pos):Prop where
 base:attributeBase o m X.env (eval o X.env)=eval o X.env
 few:((backTo cpos (starEach [e] X.env)).all (fun x=>!x.1) && (backToKw cpos (keywordEach [] X.env)).all (fun x=>x.1.isSome)
  && decide (([e]:List Expr).length+([]:List Keyword).length+(if ([]:List Keyword).isEmpty then 0 else 1)<30))=true
 line:(apos.endLine == cpos.line)=true
 trees:backTo cpos (starEach [e] X.env)=[(false,eval e X.env)]
structure M2 (X:Cx) (o:Expr) (m:Str) (apos:Pos) (e f:Expr) (cpos:Pos):Prop where
 base:attributeBase o m X.env (eval o X.env)=eval o X.env
 few:((backTo cpos (starEach [e,f] X.env)).all (fun x=>!x.1) && (backToKw cpos (keywordEach [] X.env)).all (fun x=>x.1.isSome)
  && decide (([e,f]:List Expr).length+([]:List Keyword).length+(if ([]:List Keyword).isEmpty then 0 else 1)<30))=true
 line:(apos.endLine == cpos.line)=true
 trees:backTo cpos (starEach [e,f] X.env)=[(false,eval e X.env),(false,eval f X.env)]
section
variable {X:Cx}{pins:List (Addr×Obj)} {σ:St} {H:Hp}{s:Shared}{a:Addr}{y d:V}{u r:Value}{o:Option V}{A:Around}{E:Value->Shared->Prop}
end
section
variable {X:Cx}{o e f:Expr}{apos cpos:Pos}{td ty tx:TE}
end
section
variable {X:Cx}{pins:List (Addr×Obj)} {σ:St} {H:Hp}{s:Shared}{a:Addr}{kvs:List (Key×V)}{A:Around}{E:Value->Shared->Prop}
end
section
variable {X:Cx}{pins:List (Addr×Obj)} {σ:St} {H:Hp}{s:Shared}{a:Addr}{y:V}{u:Value}{A:Around}{E:Value->Shared->Prop}
end
end L2
namespace HT
open PySem PyProof.Rows
theorem rcLt_int (A:Around) (s:Shared) (a:Int) (t:Tok) (c:Int) (u:Tok) (prog:Program) (w:World) (E:Value->Shared->Prop) (Q:Value->Shared->Prop) (h:Q (.bool (decide (a<c))) s) :
  wpAny (model prog w) A (richCompare .Lt (.int a t) (.int c u)) Q E s:=
 (PyProof.Rows.lt_int h:wpAny (model prog w) A (compareOp .Lt (.int a t) (.int c u)) Q E s)
section
open PySem.SeqAt
open PySem.AutoSeq1 (wpAny_loadPart')
open PySem.MeetsSeq PySem.MeetsSeq2 PySem.MeetsSeq3
end
section
variable {prog:Program}{w:World}{A:Around}{E:Value->Shared->Prop}{s:Shared}
theorem cat_tup {t b:Addr}{vs ws:List Value}{Q:Value->Shared->Prop} (ht:IsTup s.heap t vs.toArray) (hb:IsTup s.heap b ws.toArray) (hv:vs≠[])
  (h1:ws=[]->Q (.ref t) s) (h2:ws≠[]->Q (.ref s.heap.objs.size) { s with heap:=s.heap.push { cls:=.type "tuple",data:=.seq (vs++ws).toArray } })
  (hsz:vs.length+ws.length<=sizeLine):wpAny (model prog w) A (binaryOp .Add (.ref t) (.ref b)) Q E s:=by
 obtain⟨⟨cls,dd,data,sl⟩,ho,hc,n,hd⟩:=id ht
 obtain⟨⟨cls2,dd2,data2,sl2⟩,ho2,hc2,n2,hd2⟩:=id hb
 simp only at hc hd hc2 hd2
 subst hc hd hc2 hd2
 have e:vs.toArray++ws.toArray=(vs++ws).toArray:=by simp
 by_cases hw:ws=[]
 ·exact concat_meets ⟨_,ho,rfl⟩ ⟨_,ho2,rfl⟩ noFill_tuple_add seq_tuple_add PySem.F.slot_tuple_add PySem.F.entry_tuple_add (PySem.F.args_tuple_add_2 _ _)
   (tuple_addW1 t b vs.toArray ws.toArray n n2 dd dd2 sl sl2 (by simpa using hv) (by simp [hw])) ⟨ho,ho2,h1 hw⟩
 ·refine concat_meets ⟨_,ho,rfl⟩ ⟨_,ho2,rfl⟩ noFill_tuple_add seq_tuple_add PySem.F.slot_tuple_add PySem.F.entry_tuple_add (PySem.F.args_tuple_add_2 _ _)
   (tuple_addW2 t b vs.toArray ws.toArray n n2 dd dd2 sl sl2 (by simpa using hv) (by simpa using hw) (by rw[List.size_toArray,List.size_toArray];exact hsz)) ⟨ho,ho2,?_⟩
  rw[e]
  exact h2 hw
def sIx (n d:Nat):Option Int->Nat
 | none=>d
 | some v=>if v<0 then (v+(n:Int)).toNat else min v.toNat n
theorem sIx_nat (n d k:Nat):sIx n d (some (k:Int))=min k n:=by
 show (if (k:Int)<0 then ((k:Int)+(n:Int)).toNat else min (k:Int).toNat n)=min k n
 rw[if_neg (by lia),Int.toNat_natCast]
theorem sIx_le (n d:Nat) (hd:d<=n) (o:Option Int):sIx n d o<=n:=by
 cases o with
 | none=>exact hd
 | some v=>
  show (if v<0 then (v+(n:Int)).toNat else min v.toNat n)<=n
  by_cases hv:v<0
  ·rw[if_pos hv];lia
  ·rw[if_neg hv];exact Nat.min_le_right _ _
theorem clip_eq (v:Int) (n d:Nat):(if v<0 then max (v+(n:Int)) 0 else min v (n:Int))=((sIx n d (some v):Nat):Int):=by
 show (if v<0 then max (v+(n:Int)) 0 else min v (n:Int))=(((if v<0 then (v+(n:Int)).toNat else min v.toNat n):Nat):Int)
 by_cases hv:v<0
 ·simp only[if_pos hv];lia
 ·simp only[if_neg hv];lia
theorem adjust_gen (lo hi:Option Int) (n:Nat):Builtin.Slice.sliceAdjust lo hi 1 (n:Int)=(((sIx n 0 lo:Nat):Int),((sIx n n hi:Nat):Int)):=by
 have h1:¬((1:Int)<0):=by lia
 unfold Builtin.Slice.sliceAdjust
 simp only[h1,if_false]
 refine Prod.ext ?_ ?_
 ·cases lo with
  | none=>rfl
  | some v=>exact clip_eq v n 0
 ·cases hi with
  | none=>rfl
  | some v=>exact clip_eq v n n
theorem places_gen (i j:Nat):Builtin.Slice.slicePlaces (i:Int) (j:Int) 1=j-i:=by
 unfold Builtin.Slice.slicePlaces
 have h1:(1:Int) > 0:=by lia
 simp only[h1,if_true,Int.ediv_one]
 split <;> lia
theorem slicePart_ {v:Value}{o:Option Int}{Q:Option Int->Shared->Prop} (p:IsPart v o) (h:Q o s):wpAny (model prog w) A (Builtin.Slice.slicePartIndex v) Q E s:=by
 cases p with
 | none=>exact slicePart_none h
 | int i t=>exact slicePart_int h
theorem sliceApplied_gen {sl:Addr}{vl vu:Value}{lo hi:Option Int}{n:Nat}{Q:Int×Int×Nat->Shared->Prop} (hs:s.heap.IsSliceOf sl vl vu .none) (pl:IsPart vl lo) (pu:IsPart vu hi)
  (h:Q (((sIx n 0 lo:Nat):Int),1,sIx n n hi-sIx n 0 lo) s):wpAny (model prog w) A (Builtin.Slice.sliceApplied (.ref sl) (pure (n:Int))) Q E s:=by
 obtain⟨os,hos,hcs,hds⟩:=id hs
 unfold Builtin.Slice.sliceApplied Builtin.Slice.sliceFields
 refine wpAny_bind (wpAny_bind (wpAny_field hos hds (x:=vl) rfl (wpAny_bind (wpAny_field hos hds (x:=vu) rfl (wpAny_bind (wpAny_field hos hds (x:=.none) rfl (wpAny_pure ?_)))))))
 refine wpAny_bind (slicePart_none ?_)
 show wpAny _ _ (if ((1:Int) == 0)=true then _ else _) _ _ s
 rw[if_neg (by decide)]
 refine wpAny_bind (slicePart_ pl (wpAny_bind (slicePart_ pu (wpAny_bind (wpAny_pure ?_)))))
 show wpAny _ _ (match Builtin.Slice.sliceAdjust lo hi 1 (n:Int) with | (lo,hi)=>pure (lo,(1:Int),Builtin.Slice.slicePlaces lo hi 1)) _ _ s
 rw[adjust_gen lo hi n]
 show wpAny _ _ (pure (((sIx n 0 lo:Nat):Int),(1:Int),Builtin.Slice.slicePlaces ((sIx n 0 lo:Nat):Int) ((sIx n n hi:Nat):Int) 1)) _ _ s
 rw[places_gen]
 exact wpAny_pure h
theorem pick_gen (xs:Array Value) (i k:Nat):((List.range k).filterMap fun (m:Nat)=>xs[((i:Int)+(m:Int) * 1).toNat]?).toArray=((xs.toList.drop i).take k).toArray:=by
 have e:(fun (m:Nat)=>xs[((i:Int)+(m:Int) * 1).toNat]?)=fun m=>xs[i+m]?:=by
  funext m
  have:((i:Int)+(m:Int) * 1).toNat=i+m:=by lia
  rw[this]
 rw[e]
 have:=pick_run xs i k
 rw[List.filterMap_map]at this
 have e2:((fun x=>xs[x]?) ∘ fun x=>i+x)=fun m=>xs[i+m]?:=rfl
 rw[e2]at this
 rw[this]
theorem getItem_tuple_cut {t sl:Addr}{items:Array Value}{vl vu:Value}{lo hi:Option Int}{Q:Value->Shared->Prop} (ht:IsTup s.heap t items) (hs:s.heap.IsSliceOf sl vl vu .none) (pl:IsPart vl lo) (pu:IsPart vu hi)
  (hw:¬(sIx items.size 0 lo=0/\sIx items.size items.size hi=items.size))
  (h:Q (.ref s.heap.objs.size) { s with heap:=s.heap.push { cls:=.type "tuple",data:=.seq ((items.toList.drop (sIx items.size 0 lo)).take (sIx items.size items.size hi-sIx items.size 0 lo)).toArray } })
  (hsz:items.size<=sizeLine):wpAny (model prog w) A (getItem (.ref t) (.ref sl)) Q E s:=by
 have htake:sizeOk (.seq ((items.toList.drop (sIx items.size 0 lo)).take (sIx items.size items.size hi-sIx items.size 0 lo)).toArray):=by
  show ((items.toList.drop (sIx items.size 0 lo)).take (sIx items.size items.size hi-sIx items.size 0 lo)).toArray.size<=sizeLine
  rw[List.size_toArray,List.length_take,List.length_drop,Array.length_toList]
  lia
 have hj:sIx items.size items.size hi<=items.size:=sIx_le _ _ (Nat.le_refl _) hi
 obtain⟨os,hos,hcs,hds⟩:=id hs
 have hTs:s.TypeIs (.ref sl) "slice":=⟨os,hos,hcs⟩
 unfold getItem
 try with_reducible refine wpAny_holding ?_
 first | refine wpAny_bind (wpAny_pure ?_) | skip
 refine wpAny_bind (wpAny_sequenceKey ht.typeIs (by decide) ?_)
 refine wpAny_bind (wpAny_callSpecial?_slot (name:=Str.ofString "__getitem__") ht.typeIs PyProof.Rows.slot_tuple_getitem
  (wpAny_call_entry PyProof.Rows.slot_tuple_getitem ht.typeIs entry_tuple_getitem ?_ (args_tuple_getitem _ _)))
 show wpAny _ _ (Builtin.Tuple.tupleItemsOf (.ref t) >>= _) _ _ s
 refine wpAny_bind (tupleItemsOf_ ht ?_)
 refine wpAny_bind (wpAny_typeOf hTs ?_)
 rw[if_pos (by decide)]
 refine wpAny_bind (sliceApplied_gen hs pl pu ?_)
 have hno:¬((((sIx items.size 0 lo:Nat):Int) == 0 && (1:Int) == 1 && (sIx items.size items.size hi-sIx items.size 0 lo) == items.size)=true):=by
  intro q
  rw[Bool.and_eq_true,Bool.and_eq_true]at q
  have q1:((sIx items.size 0 lo:Nat):Int)=0:=eq_of_beq q.1.1
  have q2:sIx items.size items.size hi-sIx items.size 0 lo=items.size:=eq_of_beq q.2
  exact hw ⟨by lia,by lia⟩
 show wpAny _ _ (if (((sIx items.size 0 lo:Nat):Int) == 0 && (1:Int) == 1 && (sIx items.size items.size hi-sIx items.size 0 lo) == items.size)=true then _ else _) _ _ s
 rw[if_neg hno,pick_gen]
 first
  | exact wpAny_bind (m:=Builtin.Tuple.tupleExact _) (wpAny_newObj_type (wpAny_pure ⟨_,rfl,wpAny_pure h⟩) htake)
  | exact wpAny_bind (m:=Builtin.Tuple.tupleExact _) (wpAny_newObj_type (wpAny_bind (wpAny_pure (wpAny_pure ⟨_,rfl,wpAny_pure h⟩))) htake)
  | exact wpAny_bind (wpAny_bind (m:=Builtin.Tuple.tupleExact _) (wpAny_newObj_type (wpAny_pure (wpAny_pure ⟨_,rfl,wpAny_pure h⟩)) htake))
  | exact wpAny_bind (wpAny_bind (m:=Builtin.Tuple.tupleExact _) (wpAny_newObj_type (wpAny_pure ⟨_,rfl,wpAny_pure h⟩) htake))
end
end HT
namespace L2
open PySem PySem.Spec PyProof.Rows
abbrev TO:=St->Hp->(Option Int->Hp->Prop)->Prop
def PO (X:Cx) (e:Option Expr) (t:TO):Prop:=
 ∀ (pins:List (Addr×Obj)) (s:Shared) (σ:St) (H:Hp) (Q:Option Int->Hp->Prop),Inv X pins σ H s->t σ H Q ->
  wpAny (model X.prog X.w) X.A (evalPart e X.env) (fun u s'=>∃ o H',Inv X pins σ H' s'/\IsPart u o/\Q o H') X.xe s
def tNoPart:TO:=fun _ H Q=>Q none H
def tPart (t:TE):TO:=fun σ H Q=>t σ H fun x H1=>∃ i,x=.int i/\Q (some i) H1
theorem intsAre_of {ns:List Int}:∀ {us:List Value},Vals (ns.map V.int) us->IntsAre us ns:=by
 induction ns with
 | nil=>intro us r;rw[List.map_nil]at r;cases r;exact .nil
 | cons n ns ih=>
  intro us r
  rw[List.map_cons]at r
  cases r with
  | cons r1 r2=>
   obtain⟨t,e⟩:=r1
   subst e
   exact .cons n t (ih r2)
section
variable {X:Cx}{e:Expr}{te:TE}{lo hi:Option Expr}{tl th:TO}{pos p2:Pos}
theorem po_none:PO X none tNoPart:=by
 intro pins s σ H Q I h
 rw[evalPart_none]
 exact wpAny_pure ⟨none,H,I,.none,h⟩
theorem po_some (h:PE X e te):PO X (some e) (tPart te):=by
 intro pins s σ H Q I hw
 rw[evalPart_some]
 refine thn (h pins s σ H _ I hw) fun u s1 ⟨x,H1,I1,r1,q1⟩=>?_
 obtain⟨i,rfl,q⟩:=q1
 obtain⟨t,rfl⟩:=r1
 exact⟨some i,H1,I1,.int i t,q⟩
def SlR (X:Cx) (r:V->Option Int->Option Int->Hp->VK->Prop):Prop:=
 ∀ (pins:List (Addr×Obj)) (s:Shared) (σ:St) (H:Hp) (x:V) (v vl vu:Value) (lo hi:Option Int) (sl:Addr) (Q:VK),Inv X pins σ H s->RelV x v->s.heap.IsSliceOf sl vl vu .none->IsPart vl lo->IsPart vu hi->r x lo hi H Q ->
  ∃ T id,typeLookup (.type T) "__getitem__"=pure (some (.builtin id))/\s.TypeIs v T/\wpAny (model X.prog X.w) X.A (getItem v (.ref sl)) (EP X pins σ Q) X.xe s
theorem SlR.or {r r':V->Option Int->Option Int->Hp->VK->Prop} (h:SlR X r) (h':SlR X r'):SlR X (fun x lo hi H Q=>r x lo hi H Q\/r' x lo hi H Q):=by
 intro pins s σ H x v vl vu lo hi sl Q I rx hs pl pu q
 rcases q with q | q
 ·exact h pins s σ H x v vl vu lo hi sl Q I rx hs pl pu q
 ·exact h' pins s σ H x v vl vu lo hi sl Q I rx hs pl pu q
def tSl (r:V->Option Int->Option Int->Hp->VK->Prop) (te:TE) (tl th:TO):TE:=fun σ H Q=>te σ H fun x H1=>tl σ H1 fun l H2=>th σ H2 fun u H3=>r x l u H3 Q
theorem pe_slice {r:V->Option Int->Option Int->Hp->VK->Prop} (hr:SlR X r) (he:PE X e te) (hl:PO X lo tl) (hu:PO X hi th):PE X (.Subscript e (.Slice lo hi none p2) pos) (tSl r te tl th):=by
 intro pins s σ H Q I h
 refine Subscript_ (thn (he pins s σ H _ I h) fun v s1 ⟨x,H1,I1,r1,q1⟩=>?_)
 refine wpAny_Slice (thn (hl pins s1 σ H1 _ I1 q1) fun vl s2 ⟨l,H2,I2,pl,q2⟩=>thn (hu pins s2 σ H2 _ I2 q2) fun vu s3 ⟨u,H3,I3,pu,q3⟩=>?_)
 rw[evalPart_none]
 refine wpAny_pure ?_
 have I4:Inv X pins σ H3 { s3 with heap:=s3.heap.push { cls:=.type "slice",data:=.fields #[vl,vu,.none] } }:=I3.kept (t':=s3.toks) fun b ob q=>Heap.get?_push_of_some _ q
 obtain⟨T,id,hT,ht,hg⟩:=hr pins { s3 with heap:=s3.heap.push { cls:=.type "slice",data:=.fields #[vl,vu,.none] } } σ H3 x v vl vu l u s3.heap.objs.size Q I4 r1 (Heap.IsSliceOf.new ..) pl pu q3
 show wpAny (model X.prog X.w) X.A (subscriptTail e (.Slice lo hi none p2) v (.ref s3.heap.objs.size)) (EP X pins σ Q) X.xe { s3 with heap:=s3.heap.push { cls:=.type "slice",data:=.fields #[vl,vu,.none] } }
 exact tail_any (ops:=[.ref s3.heap.objs.size,v]) ht hT hg (by with_unfolding_all rfl)
def cutV (xs:List V) (lo hi:Option Int):List V:=(xs.drop (HT.sIx xs.length 0 lo)).take (HT.sIx xs.length xs.length hi-HT.sIx xs.length 0 lo)
theorem cutV_length (xs:List V) (lo hi:Option Int):(cutV xs lo hi).length<=xs.length:=by
 unfold cutV
 rw[List.length_take,List.length_drop]
 lia
def rSlT (K:PySem.W.Frag):V->Option Int->Option Int->Hp->VK->Prop:=fun x lo hi H Q=>∃ a xs,x=.ref a/\SqT K H a xs /\
 ¬(HT.sIx xs.length 0 lo=0/\HT.sIx xs.length xs.length hi=xs.length)/\∀ p,H p=none->Q (.ref p) (upd H p (.tup (cutV xs lo hi)))
theorem sl_tup:SlR X (rSlT X.K):=by
 intro pins s σ H x v vl vu lo hi sl Q I rx hs pl pu h
 obtain⟨a,xs,rfl,hx,hw,q⟩:=h
 cases rx
 obtain⟨its,r,ht,hz⟩:=I.tuple hx
 have hlen:its.toArray.size=xs.length:=by rw[List.size_toArray];exact r.length.symm
 refine⟨"tuple",_,PyProof.Rows.slot_tuple_getitem.lookup,ht.typeIs,?_⟩
 refine HT.getItem_tuple_cut ht hs pl pu (by rw[hlen];exact hw) ?_ (by rw[hlen];exact hz)
 rw[hlen]
 refine⟨.ref s.heap.objs.size,_,I.laid (t':=s.toks) (o:=.tup (cutV xs lo hi)) (fun b ob q=>Heap.get?_push_of_some _ q) (Nat.le_refl _) ?_,rfl,q _ (I.hok.fresh (Nat.le_refl _))⟩
 exact⟨tupD_new (Nat.le_trans (cutV_length xs lo hi) hz),_,(r.drop (HT.sIx xs.length 0 lo)).take (HT.sIx xs.length xs.length hi-HT.sIx xs.length 0 lo),IsTup.new _ _⟩
def rCatT (K:PySem.W.Frag):R2:=fun x y H Q=>∃ a b xs ys,x=.ref a/\y=.ref b/\SqT K H a xs/\SqT K H b ys/\xs≠[]/\xs.length+ys.length<=sizeLine /\
 (ys=[]->Q (.ref a) H)/\(ys≠[]->∀ p,H p=none->Q (.ref p) (upd H p (.tup (xs++ys))))
theorem Vals.nil_iff {xs:List V}{us:List Value} (r:Vals xs us):us=[] ↔ xs=[]:=by
 cases r with
 | nil=>simp
 | cons _ _=>simp
theorem op_catT:OpR X (binaryOp .Add) (rCatT X.K):=by
 intro pins s σ H x y v u Q I rx ry h
 obtain⟨a,b,xs,ys,rfl,rfl,ha,hb,hx,hz,q1,q2⟩:=h
 cases rx
 cases ry
 obtain⟨its,r1,p1,_⟩:=I.tuple ha
 obtain⟨its2,r2,p2,_⟩:=I.tuple hb
 refine HT.cat_tup p1 p2 (fun z=>hx (r1.nil_iff.mp z)) (fun z=>⟨.ref a,H,I,rfl,q1 (r2.nil_iff.mp z)⟩) (fun z=>?_) (by rw[<- r1.length,<- r2.length];exact hz)
 refine⟨.ref s.heap.objs.size,_,I.laid (t':=s.toks) (o:=.tup (xs++ys)) (fun b ob q=>Heap.get?_push_of_some _ q) (Nat.le_refl _) ?_,rfl,q2 (fun w=>z (r2.nil_iff.mpr w)) _ (I.hok.fresh (Nat.le_refl _))⟩
 exact⟨tupD_new (by rw[List.length_append];exact hz),_,r1.append r2,IsTup.new _ _⟩
end
end L2
namespace L2
open PySem PySem.Spec PyProof.Rows
def ixN (n:Nat) (i:Int):Option Nat:=if 0<=i then (if i<n then some i.toNat else none) else if -(n:Int)<=i then some (i+n).toNat else none
def atI {α:Type} (xs:List α) (i:Int):Option α:=(ixN xs.length i).bind fun j=>xs[j]?
theorem ixN_seq {n:Nat}{i:Int}{j:Nat} (h:ixN n i=some j):seqIndex? i n=some j/\j<n/\-(n:Int)<=i/\i<n:=by
 unfold ixN at h
 by_cases h0:0<=i
 ·rw[if_pos h0]at h
  by_cases h1:i<n
  ·rw[if_pos h1]at h
   have e:i.toNat=j:=Option.some.inj h
   exact⟨by rw[seqIndex_of h0 h1,e],by lia,by lia,h1⟩
  ·rw[if_neg h1]at h;cases h
 ·rw[if_neg h0]at h
  by_cases h1:-(n:Int)<=i
  ·rw[if_pos h1]at h
   have e:(i+n).toNat=j:=Option.some.inj h
   exact⟨by rw[seqIndex_neg (by lia) h1,e],by lia,h1,by lia⟩
  ·rw[if_neg h1]at h;cases h
theorem atI_get {α:Type} {xs:List α}{i:Int}{v:α} (h:atI xs i=some v):∃ j,seqIndex? i xs.length=some j/\xs[j]?=some v/\j<xs.length/\-(xs.length:Int)<=i/\i<xs.length:=by
 unfold atI at h
 cases e:ixN xs.length i with
 | none=>rw[e]at h;cases h
 | some j=>
  rw[e]at h
  obtain⟨h1,h2,h3,h4⟩:=ixN_seq e
  exact⟨j,h1,h,h2,h3,h4⟩
theorem atI_nat {α:Type} {xs:List α}{j:Nat}{v:α} (h:xs[j]?=some v):atI xs (j:Int)=some v:=by
 have hj:j<xs.length:=(List.getElem?_eq_some_iff.mp h).1
 have e:ixN xs.length (j:Int)=some j:=by
  unfold ixN
  rw[if_pos (by lia),if_pos (by lia)];simp
 unfold atI;rw[e];exact h
def PlainIx (b:Expr):Prop:=∀ o i,subscripted b false o i=operate [o,i] (getItem o i)
def IxR (X:Cx) (r:R2):Prop:=
 ∀ (value slice:Expr) (pins:List (Addr×Obj)) (s:Shared) (σ:St) (H:Hp) (x y:V) (v u:Value) (Q:VK),Inv X pins σ H s->RelV x v->RelV y u->r x y H Q ->
  subscripted slice false v u=operate [v,u] (getItem v u)->wpAny (model X.prog X.w) X.A (subscriptTail value slice v u) (EP X pins σ Q) X.xe s
def MtR (X:Cx) (id:String) (r:V->List V->Hp->VK->Prop):Prop:=
 ∀ (pins:List (Addr×Obj)) (s:Shared) (σ:St) (H:Hp) (x:V) (xs:List V) (v:Value) (us:List Value) (Q:VK),Inv X pins σ H s->RelV x v->Vals xs us->r x xs H Q ->
  wpAny (model X.prog X.w) X.A (call (.builtin id) (v::us)) (EP X pins σ Q) X.xe s
section
variable {X:Cx}{a b:Expr}{ta tb:TE}{pos:Pos}
theorem IxR.or {r r':R2} (h:IxR X r) (h':IxR X r'):IxR X (fun x y H Q=>r x y H Q\/r' x y H Q):=by
 intro value slice pins s σ H x y v u Q I rx ry q hs
 rcases q with q | q
 ·exact h value slice pins s σ H x y v u Q I rx ry q hs
 ·exact h' value slice pins s σ H x y v u Q I rx ry q hs
theorem pe_ix {r:R2} (hr:IxR X r) (ha:PE X a ta) (hb:PE X b tb) (hs:PlainIx b):PE X (.Subscript a b pos) (tOp r ta tb):=by
 intro pins s σ H Q I h
 exact Subscript_ (binT ha hb I h fun v u s2 x y H2 I2 rx ry q=>hr a b pins s2 σ H2 x y v u Q I2 rx ry q (hs _ _))
def rIxL (K:PySem.W.Frag):R2:=fun x y H Q=>∃ p xs i v,x=.ref p/\y=.int i/\SqL K H p xs/\atI xs i=some v/\Q v H
def rIxT (K:PySem.W.Frag):R2:=fun x y H Q=>∃ p xs i v,x=.ref p/\y=.int i/\SqT K H p xs/\atI xs i=some v/\Q v H
def rIxS:R2:=fun x y H Q=>∃ z i c,x=.str z/\y=.int i/\z.length<=sizeLine/\atI z.cps.toList i=some c/\Q (.str ⟨#[c]⟩) H
theorem ix_list:IxR X (rIxL X.K):=by
 intro value slice pins s σ H x y v u Q I rx ry h hs
 obtain⟨p,xs,i,z,rfl,rfl,hq,he,q⟩:=h
 cases rx
 obtain⟨t,rfl⟩:=ry
 obtain⟨its,r,pl,hz⟩:=I.list hq
 obtain⟨j,h1,h2,h3,h4,h5⟩:=atI_get he
 obtain⟨w,ew,rw'⟩:=r.get h2
 have hl:=r.length
 have hn:=line63
 have fin:EP X pins σ Q w s:=⟨z,H,I,rw',q⟩
 by_cases h0:0<=i
 ·have hj:i.toNat=j:=by
   rw[seqIndex_of h0 h5]at h1
   exact Option.some.inj h1
  exact item_listR pl.isList h0 (by lia) (by rw[hj];simpa using ew) fin hs
 ·have hj:(i+(its.toArray.size:Int)).toNat=j:=by
   rw[seqIndex_neg (by lia) h4]at h1
   rw[List.size_toArray,<- hl]
   exact Option.some.inj h1
  exact subscriptTail_builtinR (x:=w) pl.isList.typeIs slot_list_getitem.lookup
   (wpAny_getItem_list_neg (Q:=fun r s'=>r=w/\EP X pins σ Q r s') pl.isList (by lia) (by rw[List.size_toArray] <;> lia) (by lia) (by rw[hj];simpa using ew) ⟨rfl,fin⟩) hs
theorem ix_tup:IxR X (rIxT X.K):=by
 intro value slice pins s σ H x y v u Q I rx ry h hs
 obtain⟨p,xs,i,z,rfl,rfl,hq,he,q⟩:=h
 cases rx
 obtain⟨t,rfl⟩:=ry
 obtain⟨its,r,pl,hz⟩:=I.tuple hq
 obtain⟨j,h1,h2,h3,h4,h5⟩:=atI_get he
 obtain⟨w,ew,rw'⟩:=r.get h2
 have hl:=r.length
 have hn:=line63
 have fin:EP X pins σ Q w s:=⟨z,H,I,rw',q⟩
 exact subscriptTail_builtinR (x:=w) pl.typeIs slot_tuple_getitem.lookup
  (getItem_tuple (j:=j) (Q:=fun r s'=>r=w/\EP X pins σ Q r s') pl (by lia) (by lia) (by rw[List.size_toArray,<- hl];exact h1) (by simpa using ew) ⟨rfl,fin⟩) hs
theorem ix_str:IxR X rIxS:=by
 intro value slice pins s σ H x y v u Q I rx ry h hs
 obtain⟨z,i,c,rfl,rfl,hz,he,q⟩:=h
 obtain⟨t,rfl⟩:=rx
 obtain⟨t',rfl⟩:=ry
 obtain⟨j,h1,h2,h3,h4,h5⟩:=atI_get he
 have hl:z.cps.toList.length=z.length:=by simp [Str.length]
 rw[hl]at h1 h4 h5
 have hn:=line63
 exact tail_any (typeIs_str s z t) slot_str_getitem.lookup (getItem_str (c:=c) (by
  have e1:decide (i < -(2 ^ 63:Int))=false:=decide_eq_false (by lia)
  have e2:decide (i ≥ 2 ^ 63)=false:=decide_eq_false (by lia)
  rw[e1,e2,Bool.or_false]) (by rw[h1];simpa using h2) ⟨.str ⟨#[c]⟩,H,I.tok _,⟨_,rfl⟩,q⟩) hs
theorem mapSeq_set (its:List Value) (n j:Nat) (u:Value):Obj.mapSeq (·.setIfInBounds j u) { cls:=.type "list",data:=.seq its.toArray n }={ cls:=.type "list",data:=.seq (its.set j u).toArray n }:=by
 simp [Obj.mapSeq]
theorem Inv.lst {pins:List (Addr×Obj)} {σ:St} {H:Hp}{s:Shared}{p:Addr}{xs:List V} (I:Inv X pins σ H s) (h:H p=some (.lst xs)) :
  ∃ (its:List Value) (n:Nat),Vals xs its/\s.heap.get? p=some { cls:=.type "list",data:=.seq its.toArray n }/\xs.length<=sizeLine:=by
 obtain⟨z,its,n,r,e⟩:=I.hok p _ h
 exact⟨its,n,r,e,z⟩
theorem Inv.lstUpd {pins:List (Addr×Obj)} {σ:St} {H:Hp}{s:Shared}{p:Addr}{xs ys:List V}{its its':List Value}{n n':Nat}{f:Obj->Obj} (I:Inv X pins σ H s) (h:H p=some (.lst xs))
  (ho:s.heap.get? p=some { cls:=.type "list",data:=.seq its.toArray n }) (hf:f { cls:=.type "list",data:=.seq its.toArray n }={ cls:=.type "list",data:=.seq its'.toArray n' }) (r:Vals ys its') (hz:ys.length<=sizeLine) (t:Nat) :
  Inv X pins σ (upd H p (.lst ys)) { s with heap:=s.heap.update p f,toks:=t }:=by
 have e:(s.heap.update p f).get? p=some { cls:=.type "list",data:=.seq its'.toArray n' }:=by
  rw[Heap.get?_update_self f ho (by rw[hf] <;> rfl),hf]
 refine I.write (x:=p) (e:=p) (by rw[h];trivial) (.inl rfl) (fun b u hb q=>(Heap.get?_update_other _ _ (Ne.symm hb)).trans q) ⟨_,e⟩ ?_
 exact⟨hz,its',n',r,e⟩
def rSetL:V->V->V->Hp->(Hp->Prop)->Prop:=fun o i v H Q=>∃ p xs k j,o=.ref p/\i=.int k/\H p=some (.lst xs)/\ixN xs.length k=some j/\Q (upd H p (.lst (xs.set j v)))
theorem set_list:PSet X rSetL:=by
 intro pins s σ H o i v ov iv u Q I ro ri rv h
 obtain⟨p,xs,k,j,rfl,rfl,hp,hj,q⟩:=h
 cases ro
 obtain⟨t,rfl⟩:=ri
 obtain⟨its,n,r,ho,hz⟩:=I.lst hp
 obtain⟨h1,h2,h3,h4⟩:=ixN_seq hj
 have hl:=r.length
 have hn:=line63
 have I':Inv X pins σ (upd H p (.lst (xs.set j v))) { s with heap:=s.heap.update p (Obj.mapSeq (·.setIfInBounds j u)) }:=
  I.lstUpd hp ho (mapSeq_set its n j u) (r.set rv j) (by rw[List.length_set];exact hz) s.toks
 by_cases h0:0<=k
 ·have hk:k.toNat=j:=by
   rw[seqIndex_of h0 h4]at h1
   exact Option.some.inj h1
  exact PySem.W.ki_setAt ho h0 (by lia) (by rw[List.size_toArray,<- hl];exact h4) (by rw[hk];exact⟨_,I',q⟩)
 ·have hk:(k+(its.toArray.size:Int)).toNat=j:=by
   rw[seqIndex_neg (by lia) h3]at h1
   rw[List.size_toArray,<- hl]
   exact Option.some.inj h1
  exact PySem.W.ki_setBack ho (by lia) (by rw[List.size_toArray,<- hl];exact h3) (by lia) (by rw[hk];exact⟨_,I',q⟩)
theorem slice_bounds (lo hi:Option Int) (n:Nat):(sliceBounds lo hi none n).1=((HT.sIx n 0 lo:Nat):Int)/\(sliceBounds lo hi none n).2.1=((HT.sIx n n hi:Nat):Int)/\(sliceBounds lo hi none n).2.2=1:=by
 refine⟨?_,?_,rfl⟩
 ·cases lo with
  | none=>simp [sliceBounds,HT.sIx]
  | some i=>
   simp only[sliceBounds,HT.sIx,Option.getD_none,show (1:Int) > 0 by decide,if_true]
   by_cases h:i<0
   ·simp only[h,if_true] <;> lia
   ·simp only[h,if_false] <;> lia
 ·cases hi with
  | none=>simp [sliceBounds,HT.sIx]
  | some i=>
   simp only[sliceBounds,HT.sIx,Option.getD_none,show (1:Int) > 0 by decide,if_true]
   by_cases h:i<0
   ·simp only[h,if_true] <;> lia
   ·simp only[h,if_false] <;> lia
theorem slicePick_cut (its:List Value) (lo hi:Option Int):slicePick its.toArray lo hi none=((its.drop (HT.sIx its.length 0 lo)).take (HT.sIx its.length its.length hi-HT.sIx its.length 0 lo)).toArray:=by
 obtain⟨h1,h2,h3⟩:=slice_bounds lo hi its.toArray.size
 unfold slicePick
 rw[h1,h2,h3]
 simp only[sliceRange_one,pick_run,List.size_toArray] <;> rfl
def rSlL (K:PySem.W.Frag):V->Option Int->Option Int->Hp->VK->Prop:=fun x lo hi H Q=>∃ a xs,x=.ref a/\SqL K H a xs/\∀ p,H p=none->Q (.ref p) (upd H p (.lst (cutV xs lo hi)))
theorem sl_list:SlR X (rSlL X.K):=by
 intro pins s σ H x v vl vu lo hi sl Q I rx hs pl pu h
 obtain⟨a,xs,rfl,hx,q⟩:=h
 cases rx
 obtain⟨its,r,ht,hz⟩:=I.list hx
 have hlen:=r.length
 refine⟨"list",_,slot_list_getitem.lookup,ht.isList.typeIs,?_⟩
 refine wpAny_getItem_list_slice ht.isList hs pl pu .none (by simp) ?_ (by rw[List.size_toArray] <;> lia)
 rw[slicePick_cut,<- hlen]
 refine⟨.ref s.heap.objs.size,_,I.laid (t':=s.toks) (o:=.lst (cutV xs lo hi)) (fun b ob q=>Heap.get?_push_of_some _ q) (Nat.le_refl _) ?_,rfl,q _ (I.hok.fresh (Nat.le_refl _))⟩
 exact⟨Nat.le_trans (cutV_length xs lo hi) hz,_,0,(r.drop (HT.sIx xs.length 0 lo)).take (HT.sIx xs.length xs.length hi-HT.sIx xs.length 0 lo),Heap.get?_push_size _ rfl⟩
def flatV:V->Bool
 | .non=>true
 | .bl _=>true
 | .int _=>true
 | .str _=>true
 | _=>false
def eqV:V->V->Bool
 | .non,.non=>true
 | .bl a,.bl b=>a == b
 | .bl a,.int b=>(if a then 1 else 0) == b
 | .int a,.bl b=>a == (if b then 1 else 0)
 | .int a,.int b=>a == b
 | .str a,.str b=>a == b
 | _,_=>false
theorem eqAt_V {A:Around}{s:Shared}{y x:V}{u v:Value} (ry:RelV y u) (rx:RelV x v) (fy:flatV y=true) (fx:flatV x=true):SeqAt.EqAt A s u v (eqV y x):=by
 cases y with
 | non=>
  cases ry
  cases x with
  | non=>cases rx;exact SeqAt.EqAt.same _
  | bl b=>cases rx;exact SeqAt.EqAt.none_bool b
  | int b=>obtain⟨t,rfl⟩:=rx;exact SeqAt.EqAt.none_int b t
  | str b=>obtain⟨t,rfl⟩:=rx;exact SeqAt.EqAt.none_str b t
  | _=>exact absurd (show false=true from fx) Bool.false_ne_true
 | bl a=>
  cases ry
  cases x with
  | non=>cases rx;exact SeqAt.EqAt.bool_none a
  | bl b=>cases rx;exact SeqAt.EqAt.bool_bool a b
  | int b=>obtain⟨t,rfl⟩:=rx;exact SeqAt.EqAt.bool_int a b t
  | str b=>obtain⟨t,rfl⟩:=rx;exact SeqAt.EqAt.bool_str a b t
  | _=>exact absurd (show false=true from fx) Bool.false_ne_true
 | int a=>
  obtain⟨t',rfl⟩:=ry
  cases x with
  | non=>cases rx;exact SeqAt.EqAt.int_none a t'
  | bl b=>cases rx;exact SeqAt.EqAt.int_bool a t' b
  | int b=>obtain⟨t,rfl⟩:=rx;exact SeqAt.EqAt.int_int a t' b t
  | str b=>obtain⟨t,rfl⟩:=rx;exact SeqAt.EqAt.int_str a t' b t
  | _=>exact absurd (show false=true from fx) Bool.false_ne_true
 | str a=>
  obtain⟨t',rfl⟩:=ry
  cases x with
  | non=>cases rx;exact SeqAt.EqAt.str_none a t'
  | bl b=>cases rx;exact SeqAt.EqAt.str_bool a t' b
  | int b=>obtain⟨t,rfl⟩:=rx;exact SeqAt.EqAt.str_int a t' b t
  | str b=>obtain⟨t,rfl⟩:=rx;exact SeqAt.EqAt.str_str a t' b t
  | _=>exact absurd (show false=true from fx) Bool.false_ne_true
 | _=>exact absurd (show false=true from fy) Bool.false_ne_true
def eqU (x:V) (u:Value):Bool:=match u with
 | .none=>eqV .non x
 | .bool b=>eqV (.bl b) x
 | .int i _=>eqV (.int i) x
 | .str z _=>eqV (.str z) x
 | _=>false
theorem eqU_of {x y:V}{u:Value} (r:RelV y u) (f:flatV y=true):eqU x u=eqV y x:=by
 cases y with
 | non=>cases r;rfl
 | bl b=>cases r;rfl
 | int i=>obtain⟨t,rfl⟩:=r;rfl
 | str z=>obtain⟨t,rfl⟩:=r;rfl
 | _=>exact absurd (show false=true from f) Bool.false_ne_true
theorem any_eqU {x:V}:∀ {xs:List V}{us:List Value},Vals xs us->xs.all flatV=true->us.any (eqU x)=xs.any fun y=>eqV y x
 | _,_,.nil,_=>rfl
 | y::xs,u::us,.cons r t,f=>by
  rw[List.all_cons,Bool.and_eq_true]at f
  rw[List.any_cons,List.any_cons,eqU_of r f.1,any_eqU t f.2]
theorem mem_eqAt {A:Around}{s:Shared}{x:V}{v:Value} (rx:RelV x v) (fx:flatV x=true):∀ {xs:List V}{us:List Value},Vals xs us->xs.all flatV=true->∀ u∈us,SeqAt.EqAt A s u v (eqU x u)
 | _,_,.nil,_=>fun u hu=>by cases hu
 | y::xs,u::us,.cons r t,f=>fun u' hu=>by
  rw[List.all_cons,Bool.and_eq_true]at f
  rcases List.mem_cons.mp hu with rfl | hu
  ·rw[eqU_of r f.1];exact eqAt_V r rx f.1 fx
  ·exact mem_eqAt rx fx t f.2 u' hu
def inV (x:V) (xs:List V):Bool:=xs.any fun y=>eqV y x
def rIn (K:PySem.W.Frag) (neg:Bool):R2:=fun x y H Q=>∃ p xs,y=.ref p/\(SqL K H p xs\/SqT K H p xs)/\flatV x=true/\xs.all flatV=true/\Q (.bl (if neg then !inV x xs else inV x xs)) H
theorem op_in_seq:OpR X (compareOp .In) (rIn X.K false):=by
 intro pins s σ H x y v u Q I rx ry h
 obtain⟨p,xs,rfl,hq,fx,fs,q⟩:=h
 cases ry
 rcases hq with hq | hq
 ·obtain⟨its,r,pl,hz⟩:=I.list hq
  refine SeqAt.in_listAt (eqU x) pl.isList (fun w hw=>mem_eqAt rx fx r fs w (by simpa using hw)) ⟨.bl _,H,I,rfl,?_⟩
  rw[show its.toArray.any (eqU x)=its.any (eqU x) by simp,any_eqU r fs]
  exact q
 ·obtain⟨its,r,pl,hz⟩:=I.tuple hq
  refine SeqAt.in_tupleAt (eqU x) pl (fun w hw=>mem_eqAt rx fx r fs w (by simpa using hw)) ⟨.bl _,H,I,rfl,?_⟩
  rw[show its.toArray.any (eqU x)=its.any (eqU x) by simp,any_eqU r fs]
  exact q
theorem call_len_seq:CallR X (.builtin "len") (fun xs H Q=>∃ p ys,xs=[.ref p]/\(SqL X.K H p ys\/SqT X.K H p ys)/\Q (.int ys.length) H):=by
 intro pins s σ H xs us Q I r h
 obtain⟨p,ys,rfl,hq,q⟩:=h
 obtain⟨u,rfl,rx⟩:=vals1 r
 cases rx
 have hn:=line63
 rcases hq with hq | hq
 ·obtain⟨its,r',pl,hz⟩:=I.list hq
  have hlen:=r'.length
  exact Calls.call_len_list pl.isList (by simp only[List.size_toArray] <;> lia) ⟨.int ys.length,H,I.tok _,⟨s.toks+1,by rw[List.size_toArray,hlen]⟩,q⟩
 ·obtain⟨its,r',pl,hz⟩:=I.tuple hq
  have hlen:=r'.length
  exact len_tuple pl (by simp only[List.size_toArray] <;> lia) ⟨.int ys.length,H,I.tok _,⟨s.toks+1,by rw[List.size_toArray,hlen]⟩,q⟩
theorem call_len_str:CallR X (.builtin "len") (fun xs H Q=>∃ z,xs=[.str z]/\z.length<=sizeLine/\Q (.int z.length) H):=by
 intro pins s σ H xs us Q I r h
 obtain⟨z,rfl,hz,q⟩:=h
 obtain⟨u,rfl,t,rfl⟩:=vals1 r
 have hn:=line63
 exact len_str (by lia) ⟨.int z.length,H,I.tok _,⟨_,rfl⟩,q⟩
theorem CallR.or {f:Value}{r r':List V->Hp->VK->Prop} (h:CallR X f r) (h':CallR X f r'):CallR X f (fun xs H Q=>r xs H Q\/r' xs H Q):=by
 intro pins s σ H xs us Q I rs q
 rcases q with q | q
 ·exact h pins s σ H xs us Q I rs q
 ·exact h' pins s σ H xs us Q I rs q
theorem call_tuple_of:CallR X (.type "tuple") (fun xs H Q=>∃ p ys,xs=[.ref p]/\((SqL X.K H p ys/\∀ l,H l=none->Q (.ref l) (upd H l (.tup ys)))\/(SqT X.K H p ys/\Q (.ref p) H))):=by
 intro pins s σ H xs us Q I r h
 obtain⟨p,ys,rfl,h⟩:=h
 obtain⟨u,rfl,rx⟩:=vals1 r
 cases rx
 rcases h with ⟨hq,q⟩ | ⟨hq,q⟩
 ·obtain⟨its,r',pl,hz⟩:=I.list hq
  have hlen:=r'.length
  refine call_tuple_list pl.isList (fun h' kp=>?_) (by simp only[List.size_toArray] <;> lia)
  have I1:Inv X pins σ H { s with heap:=h' }:=I.kept (t':=s.toks) kp
  have I2:Inv X pins σ (upd H h'.objs.size (.tup ys)) { s with heap:=h'.push { cls:=.type "tuple",data:=.seq its.toArray } }:=
   I1.laid (t':=s.toks) (fun b o e=>Heap.get?_push_of_some _ e) (Nat.le_refl _) (show ObjOk X.prog X.w _ _ _ (.tup ys) from ⟨tupD_new hz,its,r',IsTup.new _ _⟩)
  exact⟨.ref h'.objs.size,_,I2,rfl,q _ (I1.hok.fresh (Nat.le_refl _))⟩
 ·obtain⟨its,r',pl,hz⟩:=I.tuple hq
  exact call_tuple_same pl ⟨.ref p,H,I,rfl,q⟩
def tyV (K:PySem.W.Frag) (T:String) (x:V) (H:Hp):Prop:=match x with
 | .str _=>T="str"
 | .int _=>T="int"
 | .ref p=>(T="list"/\∃ xs,SqL K H p xs)\/(T="tuple"/\∃ o,K.lookup p=some o/\o.cls=.type "tuple"/\o.dict=none) \/
   (T="dict"/\((∃ kvs,H p=some (.dK kvs))\/∃ kvs,H p=some (.dT kvs)))\/(T="set"/\∃ S n,H p=some (.set S n))
 | _=>False
theorem tyV_is {pins:List (Addr×Obj)} {σ:St} {H:Hp}{s:Shared}{T:String}{x:V}{v:Value} (I:Inv X pins σ H s) (r:RelV x v) (ty:tyV X.K T x H) :
  s.TypeIs v T/\∀ a,v=.ref a->∃ ob,s.heap.get? a=some ob/\ob.dict=none:=by
 cases x with
 | str z=>
  obtain⟨t,rfl⟩:=r
  cases (show T="str" from ty)
  exact⟨typeIs_str s z t,fun _ e=>nomatch e⟩
 | int i=>
  obtain⟨t,rfl⟩:=r
  cases (show T="int" from ty)
  exact⟨typeIs_int s i t,fun _ e=>nomatch e⟩
 | ref p=>
  cases r
  rcases ty with ⟨rfl,xs,hq⟩ | ⟨rfl,o,hk,hc,hd⟩ | ⟨rfl,hk⟩ | ⟨rfl,S,n,hk⟩
  ·obtain⟨its,_,pl,_⟩:=I.list hq
   refine⟨pl.isList.typeIs,fun a e=>?_⟩
   cases e
   obtain⟨o,n,e,c,hd,_⟩:=pl
   exact⟨o,e,hd⟩
  ·refine⟨⟨o,I.kIn p o hk,hc⟩,fun a e=>?_⟩
   cases e
   exact⟨o,I.kIn _ o hk,hd⟩
  ·have z:∃ o,s.heap.get? p=some o/\o.ExactDict:=by
    rcases hk with ⟨kvs,hk⟩ | ⟨kvs,hk⟩
    ·obtain⟨_,_,_,_,o,_,_,e,ex,_⟩:=I.hok p _ hk
     exact⟨o,e,ex⟩
    ·obtain⟨_,_,_,_,o,_,_,e,ex,_⟩:=I.hok p _ hk
     exact⟨o,e,ex⟩
   obtain⟨o,e,ex⟩:=z
   refine⟨⟨o,e,ex.1⟩,fun a e2=>?_⟩
   cases e2
   exact⟨o,e,ex.2.1⟩
  ·obtain⟨o,_,_,_,e,ex,_⟩:=I.hok p _ hk
   refine⟨⟨o,e,ex.1⟩,fun a e2=>?_⟩
   cases e2
   exact⟨o,e,ex.2.1⟩
 | _=>exact False.elim ty
def tBM0 (K:PySem.W.Frag) (T:String) (r:V->List V->Hp->VK->Prop) (to:TE):TE:=fun σ H Q=>to σ H fun x H1=>tyV K T x H1/\r x [] H1 Q
def tBM (K:PySem.W.Frag) (T:String) (r:V->List V->Hp->VK->Prop) (to:TE) (t:TA):TE:=fun σ H Q=>to σ H fun x H1=>tyV K T x H1/\t σ H1 fun xs H2=>r x xs H2 Q
variable {o e:Expr}{es:List Expr}{to:TE}{t:TA}{name:Str}{apos cpos:Pos}{T id:String}{r:V->List V->Hp->VK->Prop}
theorem pe_bm0 (pa:PlainAttrs T) (slot:Slot T name id) (hty:typeOf (.builtin id)=pure (.type "method_descriptor")) (hm:MtR X id r) (ho:PE X o to)
  (hbase:attributeBase o name X.env (eval o X.env)=eval o X.env:=by rfl) (hline:(apos.endLine == cpos.line)=true:=by rfl):PE X (.Call (.Attribute o name apos) [] [] cpos) (tBM0 X.K T r to):=by
 intro pins s σ H Q I h
 refine wpAny_Call_method0_late hbase hline (thn (ho pins s σ H _ I h) fun v s1 ⟨x,H1,I1,r1,ty,q1⟩=>?_)
 obtain⟨h1,h2⟩:=tyV_is I1 r1 ty
 exact⟨T,id,pa,slot,hty,h1,h2,Calls.callWith_builtin rfl (PySem.evalArgs_none (hm pins s1 σ H1 x [] v [] Q I1 r1 .nil q1))⟩
theorem pe_bm (pa:PlainAttrs T) (slot:Slot T name id) (hty:typeOf (.builtin id)=pure (.type "method_descriptor")) (hm:MtR X id r) (ho:PE X o to) (ha:PA X (e::es) t)
  (hbase:attributeBase o name X.env (eval o X.env)=eval o X.env:=by rfl)
  (hfew:((backTo cpos (starEach (e::es) X.env)).all (fun x=>!x.1) && (backToKw cpos (keywordEach [] X.env)).all (fun x=>x.1.isSome)
   && decide ((e::es).length+([]:List Keyword).length+(if ([]:List Keyword).isEmpty then 0 else 1)<30))=true:=by rfl)
  (hline:(apos.endLine == cpos.line)=true:=by rfl) (hs:starEach (e::es) X.env=(false,eval e X.env)::starEach es X.env:=by rfl) (hplain:(backTo cpos (starEach es X.env)).any (·.1)=false:=by rfl) :
  PE X (.Call (.Attribute o name apos) (e::es) [] cpos) (tBM X.K T r to t):=by
 intro pins s σ H Q I h
 refine wpAny_Call_method_late hbase hfew hline rfl (thn (ho pins s σ H _ I h) fun v s1 ⟨x,H1,I1,r1,ty,q1⟩=>?_)
 obtain⟨h1,h2⟩:=tyV_is I1 r1 ty
 refine⟨T,id,pa,slot,hty,h1,h2,?_⟩
 have hA:=ha cpos pins s1 σ H1 _ I1 q1
 rw[hs]at hA ⊢
 refine Calls.callWith_builtin (by show (false || (backTo cpos (starEach es X.env)).any (·.1))=false;rw[hplain] <;> rfl) (Calls.evalArgs_plain ?_)
 exact thn hA fun us s2 ⟨vs,H2,I2,r2,q2⟩=>hm pins s2 σ H2 x vs v us Q I2 r1 r2 q2
/- xs.append(e),list.index on a module's tuple .. are MtR facts of 06m -/
end
end L2
namespace L2
open PySem PySem.Spec PyProof.Rows
def MtM (X:Cx) (id:String) (r:V->List V->Hp->VK->Prop):Prop:=
 ∀ (pins:List (Addr×Obj)) (s:Shared) (σ:St) (H:Hp) (x:V) (xs:List V) (v:Value) (us:List Value) (Q:VK),Inv X pins σ H s->RelV x v->Vals xs us->r x xs H Q ->
  wpAny (model X.prog X.w) X.A (call (.builtin id) (v::us)) (EP X pins σ Q) X.xe s
theorem Vals.one {x:V}{us:List Value} (h:Vals [x] us):∃ u,us=[u]/\RelV x u:=by
 cases h with
 | cons r t=>cases t;exact⟨_,rfl,r⟩
theorem Vals.two {x y:V}{us:List Value} (h:Vals [x,y] us):∃ u v,us=[u,v]/\RelV x u/\RelV y v:=by
 cases h with
 | cons r t=>
  obtain⟨v,rfl,q⟩:=Vals.one t
  exact⟨_,_,rfl,r,q⟩
theorem Vals.zero:∀ {us:List Value},Vals [] us->us=[]
 | _,.nil=>rfl
theorem Vals.dropLast {xs:List V}{us:List Value} (h:Vals xs us):Vals xs.dropLast us.dropLast:=by
 induction h with
 | nil=>exact .nil
 | cons r t ih=>
  cases t with
  | nil=>exact .nil
  | cons q t'=>exact .cons r ih
theorem Vals.reverse {xs:List V}{us:List Value} (h:Vals xs us):Vals xs.reverse us.reverse:=by
 induction h with
 | nil=>exact .nil
 | cons r t ih=>rw[List.reverse_cons,List.reverse_cons];exact Vals.append ih (.cons r .nil)
theorem erase_last {α:Type} (l:List α):l.eraseIdx (l.length-1)=l.dropLast:=by
 induction l with
 | nil=>rfl
 | cons a r ih=>
  cases r with
  | nil=>rfl
  | cons b r=>
   have e:(a::b::r).length-1=((b::r).length-1)+1:=by
    have h1:(a::b::r).length=r.length+2:=rfl
    have h2:(b::r).length=r.length+1:=rfl
    lia
   rw[e,List.eraseIdx_cons_succ,ih]
   all_goals rfl
section
variable {X:Cx}{pins:List (Addr×Obj)} {σ:St} {H:Hp}{s:Shared}{l b:Addr}{xs ys zs:List V}
theorem Inv.lset {its its':List Value}{n:Nat}{f:Array Value->Array Value}{t':Nat} (I:Inv X pins σ H s) (hH:H l=some (.lst xs))
  (e:s.heap.get? l=some { cls:=.type "list",data:=.seq its.toArray n }) (hf:f its.toArray=its'.toArray) (hv:Vals ys its') (hz:ys.length<=sizeLine) :
  Inv X pins σ (upd H l (.lst ys)) { s with heap:=s.heap.update l (Obj.mapSeq f),toks:=t' }:=by
 have q:=PySem.IsL.update e f
 rw[hf]at q
 refine I.write (x:=l) (e:=l) (by rw[hH];exact trivial) (.inl rfl) (fun b' u hb hu=>(Heap.get?_update_other s.heap (Obj.mapSeq f) (Ne.symm hb)).trans hu) ⟨_,q⟩ ?_
 exact⟨hz,its',_,hv,q⟩
theorem Inv.lnew {its:List Value}{t':Nat} (I:Inv X pins σ H s) (hv:Vals ys its) (hz:ys.length<=sizeLine) :
  Inv X pins σ (upd H s.heap.objs.size (.lst ys)) { s with heap:=s.heap.push { cls:=.type "list",data:=.seq its.toArray },toks:=t' }:=
 I.laid (fun _ _ q=>Heap.get?_push_of_some _ q) (Nat.le_refl _) ⟨hz,its,0,hv,Heap.get?_push_size _ rfl⟩
theorem Inv.fresh (I:Inv X pins σ H s):H s.heap.objs.size=none:=I.hok.fresh (Nat.le_refl _)
theorem Inv.lstM (I:Inv X pins σ H s) (hH:H l=some (.lst xs)):xs.length<=sizeLine/\∃ (its:List Value) (n:Nat),Vals xs its/\xs.length=its.length/\s.heap.get? l=some { cls:=.type "list",data:=.seq its.toArray n }:=by
 obtain⟨z,its,n,r,e⟩:=I.hok l _ hH
 exact⟨z,its,n,r,r.length,e⟩
theorem notLongL {n:Nat} (h:n<=sizeLine):Builtin.List.listTooLong n=false:=by
 unfold Builtin.List.listTooLong
 exact decide_eq_false (by lia)
end
section
variable {X:Cx}
def rAppend:V->List V->Hp->VK->Prop:=fun x vs H Q=>∃ l xs y,x=.ref l/\vs=[y]/\H l=some (.lst xs)/\xs.length<sizeLine/\Q .non (upd H l (.lst (xs++[y])))
theorem mt_append:MtM X "list.append" rAppend:=by
 intro pins s σ H x vs v us Q I rx rv h
 obtain⟨l,xs,y,rfl,rfl,hH,hz,q⟩:=h
 cases rx
 obtain⟨u,rfl,ru⟩:=rv.one
 obtain⟨z,its,n,r,hl,e⟩:=I.lstM hH
 refine call_meets F.slot_list_append ⟨_,e,rfl⟩ F.entry_list_append (F.args_list_append_2 _ _) (PySem.list_append l its.toArray n u (by rw[List.size_toArray];lia)) ⟨e,?_⟩
 refine⟨.non,_,I.lset (its':=its++[u]) hH e (by simp) (r.append (.cons ru .nil)) ?_,rfl,q⟩
 rw[List.length_append,List.length_singleton]
 lia
def rExtend:V->List V->Hp->VK->Prop:=fun x vs H Q=>∃ l b xs zs,x=.ref l/\vs=[.ref b]/\H l=some (.lst xs)/\H b=some (.lst zs)/\xs.length+zs.length<=sizeLine/\Q .non (upd H l (.lst (xs++zs)))
theorem mt_extend:MtM X "list.extend" rExtend:=by
 intro pins s σ H x vs v us Q I rx rv h
 obtain⟨l,b,xs,zs,rfl,rfl,hH,hB,hz,q⟩:=h
 cases rx
 obtain⟨u,rfl,ru⟩:=rv.one
 cases ru
 obtain⟨z,its,n,r,hl,e⟩:=I.lstM hH
 obtain⟨z2,its2,n2,r2,hl2,e2⟩:=I.lstM hB
 have hsz:its.toArray.size+its2.toArray.size<=sizeLine:=by rw[List.size_toArray,List.size_toArray];lia
 have hlong:¬(!its.toArray.isEmpty && Builtin.List.listTooLong (its.toArray.size+its2.toArray.size))=true:=by
  rw[notLongL hsz,Bool.and_false]
  exact Bool.false_ne_true
 refine call_meets F.slot_list_extend ⟨_,e,rfl⟩ F.entry_list_extend (F.args_list_extend_2 _ _)
  (AutoSeq1.list_extend_list_list_0 l its.toArray n b its2.toArray n2 hlong (by rw[List.size_toArray];lia) (by lia)) ⟨e,e2,?_⟩
 refine⟨.non,_,I.lset (its':=its++its2) hH e (by simp) (r.append r2) ?_,rfl,q⟩
 rw[List.length_append]
 lia
def rPop:V->List V->Hp->VK->Prop:=fun x vs H Q=>∃ l xs y,x=.ref l/\vs=[]/\H l=some (.lst xs)/\xs[xs.length-1]?=some y/\Q y (upd H l (.lst xs.dropLast))
theorem mt_pop:MtM X "list.pop" rPop:=by
 intro pins s σ H x vs v us Q I rx rv h
 obtain⟨l,xs,y,rfl,rfl,hH,hy,q⟩:=h
 cases rx
 have hus:=rv.zero
 subst hus
 obtain⟨z,its,n,r,hl,e⟩:=I.lstM hH
 obtain⟨u,hu,ru⟩:=r.get hy
 have hy':its.toArray[its.toArray.size-1]?=some u:=by
  show its.toArray[its.length-1]?=some u
  rw[<- Array.getElem?_toList,<- hl]
  exact hu
 refine call_meets F.slot_list_pop ⟨_,e,rfl⟩ F.entry_list_pop (F.args_list_pop_1 _) (MeetsSeq.list_pop_last l its.toArray n u hy' (by rw[List.size_toArray];lia)) ⟨e,?_⟩
 refine⟨y,_,I.lset (its':=its.dropLast) hH e ?_ r.dropLast ?_,ru,q⟩
 ·show its.toArray.eraseIdxIfInBounds (its.toArray.size-1)=its.dropLast.toArray
  rw[List.size_toArray,List.eraseIdxIfInBounds_toArray,erase_last]
 ·rw[List.length_dropLast]
  lia
def rCat:R2:=fun x y H Q=>∃ l b xs zs,x=.ref l/\y=.ref b/\H l=some (.lst xs)/\H b=some (.lst zs)/\xs.length+zs.length<=sizeLine/\∀ p,H p=none->Q (.ref p) (upd H p (.lst (xs++zs)))
theorem op_cat:OpR X (binaryOp .Add) rCat:=by
 intro pins s σ H x y v u Q I rx ry h
 obtain⟨l,b,xs,zs,rfl,rfl,hH,hB,hz,q⟩:=h
 cases rx
 cases ry
 obtain⟨z,its,n,r,hl,e⟩:=I.lstM hH
 obtain⟨z2,its2,n2,r2,hl2,e2⟩:=I.lstM hB
 refine PySem.P.add_list e e2 ?_ (by rw[List.size_toArray,List.size_toArray];lia)
 have ea:its.toArray++its2.toArray=(its++its2).toArray:=by simp
 rw[ea]
 exact⟨.ref _,_,I.lnew (t':=s.toks) (r.append r2) (by rw[List.length_append];lia),rfl,q _ I.fresh⟩
end
section
variable {prog:Program}{w:World}{A:Around}{E:Value->Shared->Prop}{s:Shared}
set_option maxRecDepth 100000 in
end
section
variable {X:Cx}
end
end L2
namespace Att
open PySem PySem.W PySem.Calls PyProof.Rows
theorem ints_of_wellAll {P:Params}{h:Heap}:∀ (ns:List Int) (vs:List Value),WellAll P h vs (ns.map WData.int)->IntsAre vs ns:=by
 intro ns
 induction ns with
 | nil=>
  intro vs w
  rw[List.map_nil]at w
  cases w
  exact .nil
 | cons n ns ih=>
  intro vs w
  rw[List.map_cons]at w
  cases w with
  | cons a b=>
   cases a
   exact .cons _ _ (ih _ b)
theorem script_of {l:OpenLaw}{n:Nat} (hn:l.most=some n) {P:Params}{h:Heap}{args:List WData}{vals:List Value}
  (hpre:l.row.toRowW.claim.pre args=true) (hwl:WellAll P h vals args) :
  ∃ a vs ns,vals=[Value.ref a]/\args=[WData.list (ns.map WData.int)]/\h.get? a=some { cls:=.type "list",data:=.seq vs.toArray }/\IntsAre vs ns/\ns.length<=n:=by
 have hsh:WShape.hasAll [] args [.list .int]=true:=(pre_splitW hpre).1
 have hc:l.pre.holds [] { args:=args }=true:=(pre_splitW hpre).2
 obtain⟨d,r,rfl,h1,h2⟩:=hasAllW_cons hsh
 obtain rfl:=hasAllW_nil h2
 obtain⟨xs,rfl,h3⟩:=hasW_list h1
 obtain⟨ns,rfl⟩:=items_int h3
 have hlen:ns.length<=n:=by
  unfold OpenLaw.pre at hc
  have h4:(WTm.not (.lt (.lit (.int (n:Int))) (.len (.arg 0)))).holds [] { args:=[.list (ns.map .int)] }=true:=by
   have h4:=(holds_andW hc).1
   rw[hn]at h4
   exact h4
  have h5:=condW_of h4 (w_not (w_lt w_lit (w_len_list (w_arg rfl))))
  rw[List.length_map]at h5
  refine Nat.le_of_not_lt fun q=>?_
  have q':(n:Int)<((ns.length:Nat):Int):=by lia
  first
   | (rw[decide_eq_true q']at h5;exact absurd h5 (by decide))
   | (simp at h5;lia)
 cases hwl with
 | cons w1 w2=>
  cases w2
  cases w1 with
  | list ho hall=>exact⟨_,_,ns,rfl,rfl,ho,ints_of_wellAll ns _ hall,hlen⟩
theorem post_true (l:OpenLaw) (args:List WData):l.row.toRowW.claim.post args (.bool true) args=true:=
 postW_of (r:=l.row.toRowW) (X:=(true == true))
  (show WShape.has [] (.bool true) .bool=true by first | rfl | decide | simp [WShape.has,WShape.arms,WShape.armsAll])
  (show (WTm.eq .res (.lit (.bool true))).value [] { args:=args,res:=some (.bool true),after:=args }=some (.bool (true == true)) from w_eq_bool (w_res rfl) w_lit) rfl
theorem attach_call {l:OpenLaw}{n:Nat}{q:Program}{loose:List Str}{XP:(Str->Option Value)->Heap->Prop}{YP:World->Heap->Prop}{d:DefRec}
  (hn:l.most=some n) (hdf:d.params.defaults=[])
  (call:∀ (w:World) (s₀ s₁:Shared) (mg mb:Str->Option Value) (fa:Addr) (o:Obj) (pm cd doc:Value) (a:Addr) (vs:List Value) (ns:List Int),
   Ground q loose [] XP w s₀ mg mb s₁.heap->YP w s₁.heap ->
   s₁.heap.get? fa=some o->o.data=.func (docDef d.name d.params d.body d.scope pm cd doc)->s₁.heap.CodeRec cd d.name->mg d.name=some (.ref fa) ->
   s₁.heap.get? a=some { cls:=.type "list",data:=.seq vs.toArray }->IntsAre vs ns->ns.length<=n->s₁.gens=#[] ->
   codeAny (model l.prog w) callerA (.call (.ref fa) ⟨[.ref a],[]⟩) (fun r s'=>r=.ok (.ret (.bool true))/\OldK s₁.heap s'.heap/\s'.os=s₁.os/\AllBare s'.gens) s₁) :
  WalkO q loose XP YP l.row.toRowW d [] (fun f vs=>PySem.call f vs):=by
 intro w s₀ s₁ mg mb G Y fa o pm cd doc dV kV ho hd hcd hD hmg hg args vals as hpre hlay hrd hwl hlo
 obtain rfl:dV=.none:=Dflts.none hD hdf
 obtain rfl:kV=.none:=Dflts.noKw hD
 obtain⟨a,vs,ns,rfl,rfl,hobj,hints,hlen⟩:=script_of hn hpre hwl
 refine enter_call (codeAny_mono (call w s₀ s₁ mg mb fa o pm cd doc a vs ns G Y ho (fd_plain hd) hcd hmg hobj hints hlen hg) fun r s' hq=>?_)
 obtain⟨rfl,h2,h3,h4⟩:=hq
 exact⟨.inl ⟨.bool true,.bool true,[],rfl,fun _=>rfl,.bool true,post_true l _,fun _=>⟨List.Pairwise.nil,fun _ hm=>(nomatch hm)⟩⟩,h2,h3,h4⟩
section
variable {prog:Program}{w:World}{A:Around}{E:Value->Shared->Prop}{s:Shared}{K:Frag}
end
end Att
namespace L2
open PySem PySem.Spec PyProof.Rows
theorem vals_ints:∀ {vs:List Value}{ns:List Int},IntsAre vs ns->Vals (ns.map V.int) vs
 | _,_,.nil=>.nil
 | _,_,.cons n t h=>.cons ⟨t,rfl⟩ (vals_ints h)
def Only (H:Hp):Prop:=∀ b,H b=none\/∃ o xs,H b=some (.frz o (.lst xs))
theorem law_call {P:Program}{w:World}{K:PySem.W.Frag}{mg mb:Str->Option Value}{CX:CXT}{k:Nat}{fa a:Addr}{fd:FuncData}{x:Str}{sp:Sp}{s₁:Shared}{vs:List Value}{ns:List Int}
  (KX:K.In s₁.heap) (hns:s₁.heap.Ns mainGlobals mg) (hb:s₁.heap.Ns builtinsNs mb) (hbb:∀ x:Str,x≠"__name__"->mb x=bootBuiltins x) (hlim:s₁.heap.NoLimit) (hg:s₁.gens=#[])
  (ha:s₁.heap.get? a=some { cls:=.type "list",data:=.seq vs.toArray }) (hi:IntsAre vs ns) (hl:ns.length<=sizeLine) (hr:Room k callerA)
  (F:∀ base:Heap,K.In base->base.Ns mainGlobals mg->FnOk P w K mg base CX k fa fd [x] sp) (hbind:∀ (s:Shared) (u:Value),BindsTo s fd ⟨[u],[]⟩ [(x,u)])
  (hsp:∀ H:Hp,Only H->SqL K H a (ns.map V.int)->sp [.ref a] H (fun v _=>v=.bl true) fun _ _ _=>False)
  (hCX:∀ H e s',CX [] H s₁ (fun _ _ _=>False) e s'->False) :
  codeAny (model P w) callerA (.call (.ref fa) ⟨[.ref a],[]⟩) (fun r s'=>r=.ok (.ret (.bool true))/\OldK s₁.heap s'.heap/\s'.os=s₁.os/\AllBare s'.gens) s₁:=by
 have rv:=vals_ints hi
 have lenV:=hi.length
 -- from an abstract heap in which nothing but the script may be tracked
 have core:∀ H:Hp,Only H->SqL K H a (ns.map V.int)->HOk P w H s₁.heap->(∀ b,H b≠none->b=a)->(H a≠none->K.lookup a=none) ->
   codeAny (model P w) callerA (.call (.ref fa) ⟨[.ref a],[]⟩) (fun r s'=>r=.ok (.ret (.bool true))/\OldK s₁.heap s'.heap/\s'.os=s₁.os/\AllBare s'.gens) s₁:=by
  intro H hO hS hok hA hK
  have base_of:∀ {b:Addr}{o:Obj},s₁.heap.get? b=some o->H b=none->(hidT s₁.heap H).get? b=some o:=fun e n=>hidT_get e n
  have noA:∀ {b:Addr}{o:Obj}{es:Array DictEntry}{ep:Nat},s₁.heap.get? b=some o->o.data=.dict es ep->H b=none:=fun {b o es ep} e d=>by
   cases q:H b with
   | none=>rfl
   | some u=>
    have e':b=a:=hA b (by rw[q];simp)
    subst e'
    rw[ha]at e;cases e
    have d':Data.seq vs.toArray _=Data.dict es ep:=d
    cases d'
  have nsK:∀ {b:Addr}{m:Str->Option Value},s₁.heap.Ns b m->(hidT s₁.heap H).Ns b m:=fun {b m} ⟨o,es,ep,e,d,r⟩=>⟨o,es,ep,base_of e (noA e d),d,r⟩
  have hKb:K.In (hidT s₁.heap H):=fun b o e=>base_of (KX b o e) (by
   cases q:H b with
   | none=>rfl
   | some u=>
    have e':b=a:=hA b (by rw[q];simp)
    subst e'
    rw[hK (by rw[q];simp)]at e;cases e)
  have hM:Mod K mg (hidT s₁.heap H):=⟨hKb,nsK hns,⟨mb,nsK hb,hbb⟩,let ⟨mc,h1,h2⟩:=hlim;⟨mc,nsK h1,h2⟩⟩
  have e0:Env0 P w K mg (hidT s₁.heap H) callerA [] s₁ H:=⟨rfl,hM,fun b o e=>of_hidT e,Nat.le_of_eq (hidT_size _ _),trivial,fun b hb=>absurd (show b∈([]:List Addr) from hb) (by simp),hok,.of_eq hg⟩
  refine codeAny_mono ((F _ hKb (nsK hns)).run callerA [] s₁ H ⟨[.ref a],[]⟩ [.ref a] [.ref a] _ _ hr e0 (hbind s₁ (.ref a)) (.cons rfl .nil) (hsp H hO hS)) fun r s' h=>?_
  cases r with
  | error e=>exact (hCX H e s' h).elim
  | ok fl=>
   cases fl with
   | next=>exact False.elim h
   | brk=>exact False.elim h
   | cont=>exact False.elim h
   | ret u=>
    obtain⟨v,H',os,bare,un,hok',r',q⟩:=h
    have q':v=.bl true:=q
    subst q'
    obtain rfl:u=Value.bool true:=r'
    refine⟨rfl,OldK.of_keep fun b o e=>?_,os,bare⟩
    cases q:H b with
    | none=>exact un.keep b o e q (by intro z;exact absurd (show b∈([]:List Addr) from z) (by simp)) (by simp)
    | some u=>
     rcases hO b with z | ⟨ob,xs,z⟩
     ·rw[q]at z;cases z
     ·have z2:=un.frzs b ob _ z
      obtain⟨e1,_⟩:=hok b _ z
      obtain⟨e2,_⟩:=hok' b _ z2
      rw[e]at e1;cases e1
      exact e2
 cases hk:K.lookup a with
 | some o=>
  -- the script is one of the module's own objects
  have e:=KX a o hk
  rw[ha]at e
  cases e
  refine core (fun _=>none) (fun _=>.inl rfl) (.inr ⟨_,vs.toArray,_,hk,rfl,rfl,rfl,by rw[List.size_toArray,lenV];exact hl,by simpa using rv⟩) (fun b u z=>by have z':(none:Option HO)=some u:=z;cases z') (fun b z=>absurd rfl z) fun z=>absurd rfl z
 | none=>
  refine core (fun b=>if b=a then some (.frz { cls:=.type "list",data:=.seq vs.toArray } (.lst (ns.map V.int))) else none) (fun b=>?_) (.inl (.inr ⟨{ cls:=.type "list",data:=.seq vs.toArray },if_pos rfl⟩)) (fun b u z=>?_) (fun b z=>?_) fun _=>hk
  ·by_cases hb:b=a
   ·exact .inr ⟨_,_,if_pos hb⟩
   ·exact .inl (if_neg hb)
  ·by_cases hb:b=a
   ·have z':=(if_pos hb).symm.trans z
    cases z'
    subst hb
    exact⟨ha,by rw[List.length_map];exact hl,vs,_,rv,ha⟩
   ·have z':=(if_neg hb).symm.trans z
    cases z'
  ·by_cases hb:b=a
   ·exact hb
   ·exact absurd (if_neg hb) z
end L2
namespace L2
open PySem PySem.Spec PyProof.Rows
abbrev KOf {K:PySem.W.Frag}{h:Heap} (_:K.In h):PySem.W.Frag:=K
theorem walk_of {l:PySem.W.OpenLaw}{n k:Nat}{q:Program}{loose:List Str}{XP:(Str->Option Value)->Heap->Prop}{YP:World->Heap->Prop}{d:DefRec}{K:Params->PySem.W.Frag}{CX:World->CXT}{sp:World->Sp}{x:Str}
  (hn:l.most=some n) (hn2:n<=sizeLine) (hdf:d.params.defaults=[]) (hr:Room k callerA)
  (hY:∀ (w:World) (h:Heap),YP w h->(K w.params).In h)
  (F:∀ (w:World) (mg:Str->Option Value) (fa:Addr) (h:Heap),(K w.params).In h->h.Ns mainGlobals mg->mg d.name=some (.ref fa) ->
   ∃ fd:FuncData,(∀ (s:Shared) (u:Value),BindsTo s fd ⟨[u],[]⟩ [(x,u)]) /\
    ∀ base:Heap,(K w.params).In base->base.Ns mainGlobals mg->FnOk l.prog w (K w.params) mg base (CX w) k fa fd [x] (sp w))
  (hsp:∀ (w:World) (H:Hp) (a:Addr) (ns:List Int),ns.length<=n->Only H->SqL (K w.params) H a (ns.map V.int)->sp w [.ref a] H (fun v _=>v=.bl true) fun _ _ _=>False)
  (hCX:∀ (w:World) (H:Hp) (s:Shared) (e:Value) (s':Shared),CX w [] H s (fun _ _ _=>False) e s'->False) :
  PySem.W.WalkO q loose XP YP l.row.toRowW d [] (fun f vs=>PySem.call f vs):=by
 refine Att.attach_call hn hdf fun w s₀ s₁ mg mb fa o pm cd doc a vs ns G Y ho hd hcd hmg hobj hints hlen hg=>?_
 have KX:=hY w _ Y
 obtain⟨fd,hb,hF⟩:=F w mg fa _ KX G.T.g hmg
 exact law_call KX G.T.g G.T.b G.T.builtins G.T.nolimit hg hobj hints (Nat.le_trans hlen hn2) hr hF hb (fun H hO hS=>hsp w H a ns hlen hO hS) fun H e s'=>hCX w H s₁ e s'
end L2
/- THE LAST THEOREM (shape;LID,My.* are yours):
   My.Adr: a structure of the addresses that your layer names (classes,functions);My.Txt K t: a structure (Prop) of the equations over K;
   My.txt_mk:{K} {implicit addresses ..} (e1:nsIn K mainGlobals "law"=some (some (.ref f))) (e2:K.lookup f=some ⟨oc,od,.func (fnOf "law" "law" params body scope dV kV doc pm an cdv ct),sl⟩) (e3:codeIn K cdv "law"=true) ..:∃ t,My.Txt K t
set_option maxRecDepth 100000 in
set_option maxHeartbeats 0 in
theorem PySem.Challenge.cw_LID_holds : PySem.Challenge.rw_LID.Holds := by
 w_on;o_law;k_head;(case hw=>w_witness2)
 k_fill
 refine L2.walk_of (l:=PySem.Challenge.rw_LID) (n:=63) (k:=40) (x:="script") (CX:=fun w=>..) (sp:=fun _=>My.sp_law) rfl (by decide) rfl ⟨rfl,by decide,by decide⟩ (fun w h Y=>PySem.W.kIn_of Y) ?F ?S ?C
 case F=>
  intro w mg fa h KX G hmg
  have T:∃ t,My.Txt (L2.KOf KX) t:=by
   dsimp only[L2.KOf]                          -- K must stand as «<heap const> w.params» for k_is
   refine' My.txt_mk ?e1 ?e2 ?e3 ..
   (case e1=>PySem.W.k_is)                    -- in the order: a name->its address->its object->its parts
   (case e2=>PySem.W.k_is)
   ..
  obtain⟨t,T⟩:=T
  have e0:=hmg.symm.trans (PySem.W.mg_of KX G T.law)
  cases e0                                       -- fa is the law's own address
  exact⟨_,fun s u=>.of_eq rfl,fun base kb nb=>My.law_fn T kb nb⟩     -- if «.of_eq rfl» comes too early: refine' ⟨_,?b,fun base kb nb=>My.law_fn T kb nb⟩;exact fun s u=>.of_eq rfl
 case S=>exact fun w H a ns hl hO hS=>..
 case C=>exact ..
(the tactic k_is has no namespace: write k_is) -/
namespace L2
open PySem PySem.Spec PyProof.Rows
def defArgs (s:Stmt):Arguments:=match s with
 | .FunctionDef _ a _ _ _ _ _ _ _ _=>a
 | _=>{ posonlyargs:=[],args:=[],vararg:=none,kwonlyargs:=[],kw_defaults:=[],kwarg:=none,defaults:=[] }
def defBody (s:Stmt):List Stmt:=match s with
 | .FunctionDef _ _ b _ _ _ _ _ _ _=>b
 | _=>[]
def defScope (s:Stmt):Scope:=match s with
 | .FunctionDef _ _ _ _ _ _ sc _ _ _=>sc
 | _=>{ kind:=.function,names:=[],isGenerator:=false,isCoroutine:=false }
abbrev CX0:CXT:=fun _ _ _ _ _ _=>False
abbrev E0:XK:=fun _ _ _=>False
theorem pass0 {X:Cx}:Passes CX0 X E0:=fun _ _ _ _ _ _ _ h=>h.elim
structure Fun (K:PySem.W.Frag) (x qual:Str) (st:Stmt) (f:Addr) (fd:FuncData):Prop where
 ex:∃ (oc:Value) (od:Option Addr) (kV doc pm:Value) (an:Option Addr) (cdv ct:Value) (osl:Array (Option Value)),
  fd=PySem.W.fnOf x qual (defArgs st) (defBody st) (defScope st) .none kV doc pm an cdv ct/\K.lookup f=some ⟨oc,od,.func fd,osl⟩/\PySem.W.codeIn K cdv qual=true
 kp:PySem.W.keepIn K (.ref f)=true
section
variable {P:Program}{w:World}{K:PySem.W.Frag}{mg:Str->Option Value}{base:Heap}
theorem Fun.ok {x qual:Str}{st:Stmt}{f:Addr}{fd:FuncData}{N ps:List Str}{k:Nat}{sp:Sp} (F:Fun K x qual st f fd) (S:FnScope N ps (defScope st)) (len:∀ vs H Q E,sp vs H Q E->vs.length=ps.length)
  (hbody:∀ (cdv:Value) (A:Around) (outer:List Env) (s:Shared) (H:Hp) (vs:List V) (Q:VK) (E:XK),Room k (A.deeper (envOfC qual (defScope st) s.heap.objs.size f cdv))->sp vs H Q E ->
   ∃ t,PSs (cxOf CX0 P w K mg base N qual (defScope st) f cdv A outer s H E).nox (defBody st) t/\t { nx:=fun _ H'=>Q .non H',rt:=Q } (start N vs) H):FnOk P w K mg base CX0 (k+1) f fd ps sp:=by
 obtain⟨oc,od,kV,doc,pm,an,cdv,ct,osl,rfl,lk,hcd⟩:=F.ex
 refine fn_of lk hcd S len fun A outer s H vs Q E hr hsp=>?_
 obtain⟨t,h,q⟩:=hbody cdv A outer s H vs Q E hr hsp
 exact⟨t,h.nox,q⟩
theorem Fun.binds {x qual:Str}{st:Stmt}{f:Addr}{fd:FuncData}{ps:List Str} (F:Fun K x qual st f fd)
  (h:∀ (kV doc pm:Value) (an:Option Addr) (cdv ct:Value) (us:List Value),us.length=ps.length->bindArgs (PySem.W.fnOf x qual (defArgs st) (defBody st) (defScope st) .none kV doc pm an cdv ct) ⟨us,[]⟩=pure (ps.zip us)):Binds K fd ps []:=by
 obtain⟨oc,od,kV,doc,pm,an,cdv,ct,osl,rfl,lk,hcd⟩:=F.ex
 exact .all (h kV doc pm an cdv ct)
theorem fun_mk {x qual:Str}{st:Stmt}{f:Addr}{oc:Value}{od an:Option Addr}{osl:Array (Option Value)}{kV doc pm cdv ct:Value} (l:K.lookup f=some ⟨oc,od,.func (PySem.W.fnOf x qual (defArgs st) (defBody st) (defScope st) .none kV doc pm an cdv ct),osl⟩)
  (c:PySem.W.codeIn K cdv qual=true) (k:PySem.W.keepIn K (.ref f)=true):Fun K x qual st f (PySem.W.fnOf x qual (defArgs st) (defBody st) (defScope st) .none kV doc pm an cdv ct):=⟨⟨oc,od,kV,doc,pm,an,cdv,ct,osl,rfl,l,c⟩,k⟩
end
theorem hu_of {A:Around}{k:Nat} (hr:Room k A):A.units+1<cLine:=Nat.lt_of_le_of_lt (Nat.add_le_add_left (by decide:1<=64) _) hr.units
section
variable {X:Cx}
end
theorem iteF {A B:Prop} (h:B):if false=true then A else B:=by
 rw[if_neg Bool.false_ne_true]
 exact h
theorem iteT {A B:Prop} (h:A):if true=true then A else B:=by
 rw[if_pos rfl]
 exact h
theorem ite2 {c A B:Prop} [Decidable c] (h1:c->A) (h2:¬c->B):if c then A else B:=by
 by_cases h:c
 ·rw[if_pos h]
  exact h1 h
 ·rw[if_neg h]
  exact h2 h
def Same (H H':Hp):Prop:=∀ b o,H b=some o->H' b=some o
theorem Same.refl (H:Hp):Same H H:=fun _ _ h=>h
theorem Same.trans {H H1 H2:Hp} (a:Same H H1) (b:Same H1 H2):Same H H2:=fun c o h=>b c o (a c o h)
end L2
namespace L2
open PySem PySem.Spec PyProof.Rows
section
variable {X:Cx}
end
end L2
namespace L2
open PySem PySem.Spec PyProof.Rows
section
variable {κ:Type} [DecidableEq κ]
end
end L2
end
section
namespace L2
open PySem
section
variable {prog:Program}{w:World}{A:Around}{E:Value->Shared->Prop}{s:Shared}
end
end L2
end
section
namespace Kn
open PySem
inductive Val where
 | num (i:Int)
 | word (s:Str)
 | row (ps:List (Str×Val))
 | bag (ps:List (Val×Int))
inductive KE where
 | i (n:Int)
 | s (x:Str)
noncomputable instance:DecidableEq Val:=fun a b=>Classical.propDecidable (a=b)
noncomputable instance:DecidableEq KE:=fun a b=>Classical.propDecidable (a=b)
def sLt (a b:Str):Bool:=decide (a.cps.toList<b.cps.toList)
def rank:Val->Int
 | .num _=>0
 | .word _=>1
 | .row _=>2
 | .bag _=>3
mutual
def key:Val->List KE
 | .num i=>[.i 0,.i i]
 | .word s=>[.i 1,.s s]
 | .row ps=>.i 2::keyR ps
 | .bag ps=>.i 3::keyB ps
def keyR:List (Str×Val)->List KE
 | []=>[.i 0]
 | p::ps=>.i 1::.s p.1::(key p.2++keyR ps)
def keyB:List (Val×Int)->List KE
 | []=>[.i 0]
 | p::ps=>.i 1::(key p.1++.i p.2::keyB ps)
end
mutual
noncomputable def ltV:Val->Val->Bool
 | .num i,.num j=>decide (i<j)
 | .word s,.word t=>sLt s t
 | .row ps,.row qs=>ltR ps qs
 | .bag ps,.bag qs=>ltB ps qs
 | x,y=>decide (rank x<rank y)
noncomputable def ltR:List (Str×Val)->List (Str×Val)->Bool
 | [],[]=>false
 | [],_::_=>true
 | _::_,[]=>false
 | p::ps,q::qs=>if p=q then ltR ps qs else if p.1=q.1 then ltV p.2 q.2 else sLt p.1 q.1
noncomputable def ltB:List (Val×Int)->List (Val×Int)->Bool
 | [],[]=>false
 | [],_::_=>true
 | _::_,[]=>false
 | p::ps,q::qs=>if p=q then ltB ps qs else if p.1=q.1 then decide (p.2<q.2) else ltV p.1 q.1
end
def kEl:KE->KE->Option Bool
 | .i m,.i n=>some (decide (m<n))
 | .s x,.s y=>some (sLt x y)
 | _,_=>none
noncomputable def cmpK:List KE->List KE->Option Bool
 | [],[]=>some false
 | [],_::_=>some true
 | _::_,[]=>some false
 | a::as,b::bs=>if a=b then cmpK as bs else kEl a b
noncomputable def aheadB (x y:Val):Bool:=if x=y then false else ltV x y
theorem sLt_irrefl (x:Str):sLt x x=false:=by
 unfold sLt
 exact decide_eq_false (List.lt_irrefl _)
end Kn
end
section
namespace L2
open PySem PySem.Spec PyProof.Rows
inductive Dt where
 | int (i:Int)
 | str (x:Str)
 | tup (ds:List Dt)
noncomputable instance:DecidableEq Dt:=fun a b=>Classical.propDecidable (a=b)
mutual
def Dt.dep:Dt->Nat
 | .int _=>0
 | .str _=>0
 | .tup ds=>depL ds+1
def depL:List Dt->Nat
 | []=>0
 | d::ds=>max d.dep (depL ds)
end
theorem dep_mem:∀ {ds:List Dt}{d:Dt},d∈ds->d.dep<=depL ds
 | d::ds,e,h=>by
  rw[depL]
  rcases List.mem_cons.mp h with rfl | h
  ·exact Nat.le_max_left _ _
  ·exact Nat.le_trans (dep_mem h) (Nat.le_max_right _ _)
mutual
def IsDt (H:Hp):Dt->V->Prop
 | .int i,v=>v=.int i
 | .str x,v=>v=.str x
 | .tup ds,v=>∃ a xs,v=.ref a/\H a=some (.tup xs)/\IsDts H ds xs
def IsDts (H:Hp):List Dt->List V->Prop
 | [],xs=>xs=[]
 | d::ds,xs=>∃ y ys,xs=y::ys/\IsDt H d y/\IsDts H ds ys
end
def Tups (H H':Hp):Prop:=∀ b xs,H b=some (.tup xs)->H' b=some (.tup xs)
theorem Tups.trans {H H1 H2:Hp} (a:Tups H H1) (b:Tups H1 H2):Tups H H2:=fun c xs h=>b c xs (a c xs h)
theorem Same.tups {H H':Hp} (h:Same H H'):Tups H H':=fun b xs e=>h b _ e
theorem Tups.new {H:Hp}{p:Addr} (h:H p=none) (o:HO):Tups H (upd H p o):=fun b xs e=>by rw[upd_ne (ne_of_none e h)];exact e
theorem Tups.lst {H:Hp}{p:Addr}{xs ys:List V} (h:H p=some (.lst xs)):Tups H (upd H p (.lst ys)):=fun b zs e=>by
 rw[upd_ne (ne_of e h (by intro z;cases z))];exact e
mutual
theorem IsDt.mono {H H':Hp} (t:Tups H H'):∀ {d:Dt}{v:V},IsDt H d v->IsDt H' d v
 | .int i,v,h=>by rw[IsDt]at h ⊢;exact h
 | .str x,v,h=>by rw[IsDt]at h ⊢;exact h
 | .tup ds,v,h=>by
  rw[IsDt]at h ⊢
  obtain⟨a,xs,e,h1,h2⟩:=h
  exact⟨a,xs,e,t a xs h1,IsDts.mono t h2⟩
theorem IsDts.mono {H H':Hp} (t:Tups H H'):∀ {ds:List Dt}{xs:List V},IsDts H ds xs->IsDts H' ds xs
 | [],xs,h=>by rw[IsDts]at h ⊢;exact h
 | d::ds,xs,h=>by
  rw[IsDts]at h ⊢
  obtain⟨y,ys,e,h1,h2⟩:=h
  exact⟨y,ys,e,IsDt.mono t h1,IsDts.mono t h2⟩
end
mutual
theorem IsDt.inj {H:Hp}:∀ {d e:Dt}{v:V},IsDt H d v->IsDt H e v->d=e
 | .int i,e,v,h,h'=>by
  rw[IsDt]at h;subst h
  cases e with
  | int j=>rw[IsDt]at h';cases h';rfl
  | str y=>rw[IsDt]at h';cases h'
  | tup es=>rw[IsDt]at h';obtain⟨_,_,z,_⟩:=h';cases z
 | .str i,e,v,h,h'=>by
  rw[IsDt]at h;subst h
  cases e with
  | int j=>rw[IsDt]at h';cases h'
  | str y=>rw[IsDt]at h';cases h';rfl
  | tup es=>rw[IsDt]at h';obtain⟨_,_,z,_⟩:=h';cases z
 | .tup ds,e,v,h,h'=>by
  rw[IsDt]at h
  obtain⟨a,xs,rfl,h1,h2⟩:=h
  cases e with
  | int j=>rw[IsDt]at h';cases h'
  | str y=>rw[IsDt]at h';cases h'
  | tup es=>
   rw[IsDt]at h'
   obtain⟨b,ys,z,g1,g2⟩:=h'
   cases z
   rw[h1]at g1
   cases g1
   rw[IsDts.inj h2 g2]
theorem IsDts.inj {H:Hp}:∀ {ds es:List Dt}{xs:List V},IsDts H ds xs->IsDts H es xs->ds=es
 | [],es,xs,h,h'=>by
  rw[IsDts]at h;subst h
  cases es with
  | nil=>rfl
  | cons e es=>rw[IsDts]at h';obtain⟨_,_,z,_⟩:=h';cases z
 | d::ds,es,xs,h,h'=>by
  rw[IsDts]at h
  obtain⟨y,ys,rfl,h1,h2⟩:=h
  cases es with
  | nil=>rw[IsDts]at h';cases h'
  | cons e es=>
   rw[IsDts]at h'
   obtain⟨y',ys',z,g1,g2⟩:=h'
   cases z
   rw[IsDt.inj h1 g1,IsDts.inj h2 g2]
end
theorem IsDts.length {H:Hp}:∀ {ds:List Dt}{xs:List V},IsDts H ds xs->xs.length=ds.length
 | [],xs,h=>by rw[IsDts]at h;subst h;rfl
 | d::ds,xs,h=>by
  rw[IsDts]at h
  obtain⟨y,ys,rfl,h1,h2⟩:=h
  simp [IsDts.length h2]
theorem IsDts.get {H:Hp}:∀ {ds:List Dt}{xs:List V}{i:Nat}{d:Dt},IsDts H ds xs->ds[i]?=some d->∃ y,xs[i]?=some y/\IsDt H d y
 | [],xs,i,d,h,e=>by simp at e
 | c::ds,xs,0,d,h,e=>by
  rw[IsDts]at h
  obtain⟨y,ys,rfl,h1,h2⟩:=h
  simp at e;subst e
  exact⟨y,rfl,h1⟩
 | c::ds,xs,i+1,d,h,e=>by
  rw[IsDts]at h
  obtain⟨y,ys,rfl,h1,h2⟩:=h
  obtain⟨z,q,r⟩:=IsDts.get (i:=i) h2 (by simpa using e)
  exact⟨z,by simpa using q,r⟩
theorem IsDts.append {H:Hp}:∀ {ds es:List Dt}{xs ys:List V},IsDts H ds xs->IsDts H es ys->IsDts H (ds++es) (xs++ys)
 | [],es,xs,ys,h,h'=>by rw[IsDts]at h;subst h;exact h'
 | d::ds,es,xs,ys,h,h'=>by
  rw[IsDts]at h
  obtain⟨z,zs,rfl,h1,h2⟩:=h
  rw[List.cons_append,List.cons_append,IsDts]
  exact⟨z,zs++ys,rfl,h1,IsDts.append h2 h'⟩
theorem IsDts.one {H:Hp}{d:Dt}{v:V} (h:IsDt H d v):IsDts H [d] [v]:=by
 rw[IsDts];exact⟨v,[],rfl,h,by rw[IsDts]⟩
theorem IsDts.cons {H:Hp}{d:Dt}{v:V}{ds:List Dt}{vs:List V} (h:IsDt H d v) (h':IsDts H ds vs):IsDts H (d::ds) (v::vs):=by
 rw[IsDts];exact⟨v,vs,rfl,h,h'⟩
theorem IsDts.nil {H:Hp}:IsDts H [] []:=by rw[IsDts]
theorem isDt_int {H:Hp} (i:Int):IsDt H (.int i) (.int i):=by rw[IsDt]
theorem isDt_str {H:Hp} (x:Str):IsDt H (.str x) (.str x):=by rw[IsDt]
theorem isDt_tup {H:Hp}{a:Addr}{xs:List V}{ds:List Dt} (h:H a=some (.tup xs)) (h':IsDts H ds xs):IsDt H (.tup ds) (.ref a):=by rw[IsDt];exact⟨a,xs,rfl,h,h'⟩
theorem isDt_new {H:Hp}{p:Addr}{xs:List V}{ds:List Dt} (hp:H p=none) (h':IsDts H ds xs):IsDt (upd H p (.tup xs)) (.tup ds) (.ref p):=
 isDt_tup upd_same (h'.mono (.new hp _))
section
variable {P:Program}{w:World}{H:Hp}
theorem all_eq (ds es:List Dt):((List.range (min ds.length es.length)).all (fun j=>decide (ds[j]?=es[j]?)) && ds.length == es.length)=decide (ds=es):=by
 rw[Bool.eq_iff_iff]
 simp only[Bool.and_eq_true,List.all_eq_true,List.mem_range,decide_eq_true_eq,beq_iff_eq]
 constructor
 ·rintro⟨h1,h2⟩
  refine List.ext_getElem? fun i=>?_
  by_cases hi:i<min ds.length es.length
  ·exact h1 i hi
  ·rw[List.getElem?_eq_none (by lia),List.getElem?_eq_none (by lia)]
 ·rintro rfl
  exact⟨fun _ _=>rfl,rfl⟩
theorem eqAt_D:∀ (n:Nat) (A:Around) (s:Shared) (d e:Dt) (v u:V) (x y:Value),HOk P w H s.heap->d.dep<=n->A.units+n<cLine->IsDt H d v->IsDt H e u->RelV v x->RelV u y->SeqAt.EqAt A s x y (decide (d=e)):=by
 intro n
 induction n with
 | zero=>
  intro A s d e v u x y ok hd hu iv iu rv ru
  cases d with
  | int i=>
   rw[IsDt]at iv;subst iv
   obtain⟨t,rfl⟩:=rv
   cases e with
   | int j=>
    rw[IsDt]at iu;subst iu
    obtain⟨t',rfl⟩:=ru
    have z:decide (Dt.int i=Dt.int j)=(i == j):=by rw[Bool.eq_iff_iff];simp
    rw[z];exact SeqAt.EqAt.int_int i t j t'
   | str z=>
    rw[IsDt]at iu;subst iu
    obtain⟨t',rfl⟩:=ru
    rw[decide_eq_false (by intro q;cases q)];exact SeqAt.EqAt.int_str i t z t'
   | tup es=>
    rw[IsDt]at iu
    obtain⟨a,xs,rfl,h1,h2⟩:=iu
    cases ru
    obtain⟨hz,its,r,p⟩:=ok a _ h1
    rw[decide_eq_false (by intro q;cases q)];exact SeqAt.EqAt.int_tuple i t p (by lia)
  | str i=>
   rw[IsDt]at iv;subst iv
   obtain⟨t,rfl⟩:=rv
   cases e with
   | int j=>
    rw[IsDt]at iu;subst iu
    obtain⟨t',rfl⟩:=ru
    rw[decide_eq_false (by intro q;cases q)];exact SeqAt.EqAt.str_int i t j t'
   | str z=>
    rw[IsDt]at iu;subst iu
    obtain⟨t',rfl⟩:=ru
    have q:decide (Dt.str i=Dt.str z)=(i == z):=by rw[Bool.eq_iff_iff];simp
    rw[q];exact SeqAt.EqAt.str_str i t z t'
   | tup es=>
    rw[IsDt]at iu
    obtain⟨a,xs,rfl,h1,h2⟩:=iu
    cases ru
    obtain⟨hz,its,r,p⟩:=ok a _ h1
    rw[decide_eq_false (by intro q;cases q)];exact SeqAt.EqAt.str_tuple i t p (by lia)
  | tup ds=>rw[Dt.dep]at hd;lia
 | succ n ih=>
  intro A s d e v u x y ok hd hu iv iu rv ru
  cases d with
  | int i=>exact ih A s _ e v u x y ok (by rw[Dt.dep];lia) (by lia) iv iu rv ru
  | str i=>exact ih A s _ e v u x y ok (by rw[Dt.dep];lia) (by lia) iv iu rv ru
  | tup ds=>
   rw[IsDt]at iv
   obtain⟨a,xs,rfl,h1,h2⟩:=iv
   cases rv
   obtain⟨hz,its,r,p⟩:=ok a _ h1
   cases e with
   | int j=>
    rw[IsDt]at iu;subst iu
    obtain⟨t',rfl⟩:=ru
    rw[decide_eq_false (by intro q;cases q)];exact SeqAt.EqAt.tuple_int j t' p (by lia)
   | str z=>
    rw[IsDt]at iu;subst iu
    obtain⟨t',rfl⟩:=ru
    rw[decide_eq_false (by intro q;cases q)];exact SeqAt.EqAt.tuple_str z t' p (by lia)
   | tup es=>
    have iu':=iu
    rw[IsDt]at iu
    obtain⟨b,ys,rfl,g1,g2⟩:=iu
    cases ru
    obtain⟨hz2,its2,r2,p2⟩:=ok b _ g1
    by_cases hab:a=b
    ·subst hab
     rw[h1]at g1
     cases g1
     rw[IsDts.inj h2 g2,decide_eq_true rfl]
     exact SeqAt.EqAt.same _
    ·have l1:its.toArray.size=ds.length:=by rw[List.size_toArray,<- r.length,h2.length]
     have l2:its2.toArray.size=es.length:=by rw[List.size_toArray,<- r2.length,g2.length]
     have q:=SeqAt.RcAt.tuples (s:=s) (A:=A) (e:=fun j=>decide (ds[j]?=es[j]?)) p p2 (by lia) fun j hj1 hj2=>by
      have k1:j<ds.length:=by rw[<- l1];exact hj1
      have k2:j<es.length:=by rw[<- l2];exact hj2
      obtain⟨y1,e1,i1⟩:=h2.get (i:=j) (List.getElem?_eq_getElem k1)
      obtain⟨y2,e2,i2⟩:=g2.get (i:=j) (List.getElem?_eq_getElem k2)
      obtain⟨u1,f1,q1⟩:=r.get e1
      obtain⟨u2,f2,q2⟩:=r2.get e2
      have w1:its.toArray[j]=u1:=by
       have:=(List.getElem?_eq_some_iff.mp f1).2
       simpa using this
      have w2:its2.toArray[j]=u2:=by
       have:=(List.getElem?_eq_some_iff.mp f2).2
       simpa using this
      rw[w1,w2,List.getElem?_eq_getElem k1,List.getElem?_eq_getElem k2]
      have z:decide (some ds[j]=some es[j])=decide (ds[j]=es[j]):=by rw[Bool.eq_iff_iff];simp
      rw[z]
      have hdep:ds[j].dep<=n:=by
       have:=dep_mem (List.getElem_mem k1)
       rw[Dt.dep]at hd
       lia
      exact ih A.in1 s _ _ y1 y2 u1 u2 ok hdep (by show A.units+1+n<cLine;lia) i1 i2 q1 q2
     rw[l1,l2,all_eq]at q
     have z:decide (Dt.tup ds=Dt.tup es)=decide (ds=es):=by rw[Bool.eq_iff_iff];simp
     rw[z]
     exact SeqAt.EqAt.of_refs hab q
end
section
variable {X:Cx}
def depMax:Nat:=100
def rEqD:R2:=fun x y H Q=>∃ d e,IsDt H d x/\IsDt H e y/\d.dep<=depMax/\Q (.bl (decide (d=e))) H
theorem items_eq {P:Program}{w:World}{H:Hp}{s:Shared}{A:Around}{ds es:List Dt}{xs ys:List V}{its its2:List Value}{n:Nat} (ok:HOk P w H s.heap) (hd:depL ds<=n) (hu:A.units+n<cLine) (h2:IsDts H ds xs) (g2:IsDts H es ys) (r:Vals xs its) (r2:Vals ys its2) :
  ∀ j (h1:j<its.toArray.size) (h2:j<its2.toArray.size),SeqAt.EqAt A s its.toArray[j] its2.toArray[j] (decide (ds[j]?=es[j]?)):=fun j hj1 hj2=>by
 have l1:its.toArray.size=ds.length:=by rw[List.size_toArray,<- r.length,h2.length]
 have l2:its2.toArray.size=es.length:=by rw[List.size_toArray,<- r2.length,g2.length]
 have k1:j<ds.length:=by rw[<- l1];exact hj1
 have k2:j<es.length:=by rw[<- l2];exact hj2
 obtain⟨y1,e1,i1⟩:=h2.get (i:=j) (List.getElem?_eq_getElem k1)
 obtain⟨y2,e2,i2⟩:=g2.get (i:=j) (List.getElem?_eq_getElem k2)
 obtain⟨u1,f1,q1⟩:=r.get e1
 obtain⟨u2,f2,q2⟩:=r2.get e2
 have w1:its.toArray[j]=u1:=by
  have:=(List.getElem?_eq_some_iff.mp f1).2
  simpa using this
 have w2:its2.toArray[j]=u2:=by
  have:=(List.getElem?_eq_some_iff.mp f2).2
  simpa using this
 rw[w1,w2,List.getElem?_eq_getElem k1,List.getElem?_eq_getElem k2]
 have z:decide (some ds[j]=some es[j])=decide (ds[j]=es[j]):=by rw[Bool.eq_iff_iff];simp
 rw[z]
 exact eqAt_D n A s _ _ y1 y2 u1 u2 ok (Nat.le_trans (dep_mem (List.getElem_mem k1)) hd) hu i1 i2 q1 q2
theorem op_eqD (hu:X.A.units+110<cLine):OpR X (compareOp .Eq) rEqD:=by
 intro pins s σ H x y v u Q I rx ry h
 obtain⟨d,e,ix,iy,hd,q⟩:=h
 cases d with
 | int i=>
  rw[IsDt]at ix;subst ix
  cases e with
  | int j=>
   rw[IsDt]at iy;subst iy
   refine op_eq pins s σ H _ _ v u Q I rx ry ⟨rfl,?_⟩
   have z:decide (V.int i=V.int j)=decide (Dt.int i=Dt.int j):=by rw[Bool.eq_iff_iff];simp
   rw[z];exact q
  | str j=>
   rw[IsDt]at iy;subst iy
   refine op_eq pins s σ H _ _ v u Q I rx ry ⟨rfl,?_⟩
   have z:decide (V.int i=V.str j)=decide (Dt.int i=Dt.str j):=by rw[Bool.eq_iff_iff];simp
   rw[z];exact q
  | tup es=>
   rw[IsDt]at iy
   obtain⟨a,xs,rfl,h1,h2⟩:=iy
   cases ry
   obtain⟨t,rfl⟩:=rx
   obtain⟨hz,its,r,p⟩:=I.hok a _ h1
   rw[decide_eq_false (by intro q;cases q)]at q
   exact SeqAt.RcAt.int_tuple i t p (by lia) _ _ _ _ ⟨.bl false,H,I,rfl,q⟩
 | str i=>
  rw[IsDt]at ix;subst ix
  cases e with
  | int j=>
   rw[IsDt]at iy;subst iy
   refine op_eq pins s σ H _ _ v u Q I rx ry ⟨rfl,?_⟩
   have z:decide (V.str i=V.int j)=decide (Dt.str i=Dt.int j):=by rw[Bool.eq_iff_iff];simp
   rw[z];exact q
  | str j=>
   rw[IsDt]at iy;subst iy
   refine op_eq pins s σ H _ _ v u Q I rx ry ⟨rfl,?_⟩
   have z:decide (V.str i=V.str j)=decide (Dt.str i=Dt.str j):=by rw[Bool.eq_iff_iff];simp
   rw[z];exact q
  | tup es=>
   rw[IsDt]at iy
   obtain⟨a,xs,rfl,h1,h2⟩:=iy
   cases ry
   obtain⟨t,rfl⟩:=rx
   obtain⟨hz,its,r,p⟩:=I.hok a _ h1
   rw[decide_eq_false (by intro q;cases q)]at q
   exact SeqAt.RcAt.str_tuple i t p (by lia) _ _ _ _ ⟨.bl false,H,I,rfl,q⟩
 | tup ds=>
  rw[IsDt]at ix
  obtain⟨a,xs,rfl,h1,h2⟩:=ix
  cases rx
  obtain⟨hz,its,r,p⟩:=I.hok a _ h1
  cases e with
  | int j=>
   rw[IsDt]at iy;subst iy
   obtain⟨t,rfl⟩:=ry
   rw[decide_eq_false (by intro q;cases q)]at q
   exact SeqAt.RcAt.tuple_int j t p (by lia) _ _ _ _ ⟨.bl false,H,I,rfl,q⟩
  | str j=>
   rw[IsDt]at iy;subst iy
   obtain⟨t,rfl⟩:=ry
   rw[decide_eq_false (by intro q;cases q)]at q
   exact SeqAt.RcAt.tuple_str j t p (by lia) _ _ _ _ ⟨.bl false,H,I,rfl,q⟩
  | tup es=>
   rw[IsDt]at iy
   obtain⟨b,ys,rfl,g1,g2⟩:=iy
   cases ry
   obtain⟨hz2,its2,r2,p2⟩:=I.hok b _ g1
   have l1:its.toArray.size=ds.length:=by rw[List.size_toArray,<- r.length,h2.length]
   have l2:its2.toArray.size=es.length:=by rw[List.size_toArray,<- r2.length,g2.length]
   rw[Dt.dep]at hd
   have z:decide (Dt.tup ds=Dt.tup es)=decide (ds=es):=by rw[Bool.eq_iff_iff];simp
   rw[z]at q
   refine SeqAt.RcAt.tuples (s:=s) (A:=X.A) (e:=fun j=>decide (ds[j]?=es[j]?)) p p2 (by lia) (items_eq (n:=depMax) (A:=X.A.in1) I.hok (by lia) (by show X.A.units+1+depMax<cLine;unfold depMax;lia) h2 g2 r r2) _ _ _ _ ?_
   rw[l1,l2,all_eq]
   exact⟨.bl _,H,I,rfl,q⟩
theorem op_neD (hu:X.A.units+110<cLine):OpR X (compareOp .NotEq) (fun x y H Q=>∃ ds es,IsDt H (.tup ds) x/\IsDt H (.tup es) y/\depL ds<=depMax/\Q (.bl (!decide (ds=es))) H):=by
 intro pins s σ H x y v u Q I rx ry h
 obtain⟨ds,es,ix,iy,hd,q⟩:=h
 rw[IsDt]at ix iy
 obtain⟨a,xs,rfl,h1,h2⟩:=ix
 obtain⟨b,ys,rfl,g1,g2⟩:=iy
 cases rx
 cases ry
 obtain⟨hz,its,r,p⟩:=I.hok a _ h1
 obtain⟨hz2,its2,r2,p2⟩:=I.hok b _ g1
 have l1:its.toArray.size=ds.length:=by rw[List.size_toArray,<- r.length,h2.length]
 have l2:its2.toArray.size=es.length:=by rw[List.size_toArray,<- r2.length,g2.length]
 refine SeqAt.RcNeAt.tuples (s:=s) (A:=X.A) (e:=fun j=>decide (ds[j]?=es[j]?)) p p2 (by lia) (items_eq (n:=depMax) (A:=X.A.in1) I.hok (by lia) (by show X.A.units+1+depMax<cLine;unfold depMax;lia) h2 g2 r r2) _ _ _ _ ?_
 rw[l1,l2,all_eq]
 exact⟨.bl _,H,I,rfl,q⟩
noncomputable def eqDv (H:Hp) (d:Dt) (u:Value):Bool:=@decide (∃ v,RelV v u/\IsDt H d v) (Classical.propDecidable _)
theorem relV_inj {v v':V}{u:Value} (h:RelV v u) (h':RelV v' u):v=v':=by
 cases v <;> cases v' <;> simp only[RelV]at h h' <;> first
  | rfl
  | (obtain⟨t,rfl⟩:=h;obtain⟨t',h'⟩:=h';injection h' with h' _;subst h';rfl)
  | (obtain⟨t,rfl⟩:=h;obtain⟨t',h'⟩:=h';cases h';done)
  | (subst h;cases h';rfl)
  | (subst h;obtain⟨t',h'⟩:=h';cases h')
  | (obtain⟨t,rfl⟩:=h;cases h')
theorem eqDv_of {H:Hp}{d e:Dt}{v:V}{u:Value} (r:RelV v u) (i:IsDt H e v):eqDv H d u=decide (e=d):=by
 unfold eqDv
 rw[Bool.eq_iff_iff]
 simp only[decide_eq_true_eq]
 constructor
 ·rintro⟨v',r',i'⟩
  rw[relV_inj r' r]at i'
  exact i.inj i'
 ·rintro rfl
  exact⟨v,r,i⟩
theorem mem_eqD {P:Program}{w:World}{H:Hp}{s:Shared}{A:Around}{d:Dt}{x:V}{v:Value}{n:Nat} (ok:HOk P w H s.heap) (hu:A.units+n<cLine) (rx:RelV x v) (ix:IsDt H d x) :
  ∀ {ds:List Dt}{xs:List V}{us:List Value},depL ds<=n->IsDts H ds xs->Vals xs us->(∀ u∈us,SeqAt.EqAt A s u v (eqDv H d u))/\us.map (eqDv H d)=ds.map fun e=>decide (e=d)
 | [],xs,us,hd,hi,r=>by
  rw[IsDts]at hi;subst hi;cases r
  exact⟨fun u hu=>(nomatch hu),rfl⟩
 | e::ds,xs,us,hd,hi,r=>by
  rw[IsDts]at hi
  obtain⟨y,ys,rfl,h1,h2⟩:=hi
  cases r with
  | cons r1 r2=>
   rw[depL]at hd
   obtain⟨m1,m2⟩:=mem_eqD ok hu rx ix (by lia) h2 r2
   have e1:=eqDv_of (d:=d) r1 h1
   refine⟨fun u hu'=>?_,by rw[List.map_cons,List.map_cons,e1,m2]⟩
   rcases List.mem_cons.mp hu' with rfl | hu'
   ·rw[e1];exact eqAt_D n A s e d y x _ v ok (by lia) hu h1 ix r1 rx
   ·exact m1 u hu'
theorem any_map_of {α:Type} {us:List α}{f:α->Bool}{ds:List Dt}{d:Dt} (h:us.map f=ds.map fun e=>decide (e=d)):us.any f=decide (d∈ds):=by
 have e1:us.any f=(us.map f).any id:=by simp
 have e2:(ds.map fun e=>decide (e=d)).any id=decide (d∈ds):=by
  rw[Bool.eq_iff_iff]
  simp
 rw[e1,h,e2]
def rInD (K:PySem.W.Frag) (neg:Bool):R2:=fun x y H Q=>∃ p xs d ds,y=.ref p/\SqL K H p xs/\IsDt H d x/\IsDts H ds xs/\depL ds<=depMax/\Q (.bl (if neg then !decide (d∈ds) else decide (d∈ds))) H
theorem op_inD (hu:X.A.units+110<cLine):OpR X (compareOp .In) (rInD X.K false):=by
 intro pins s σ H x y v u Q I rx ry h
 obtain⟨p,xs,d,ds,rfl,hq,ix,is,hd,q⟩:=h
 cases ry
 obtain⟨its,r,pl,hz⟩:=I.list hq
 obtain⟨m1,m2⟩:=mem_eqD (A:=X.A.in1) I.hok (by show X.A.units+1+depMax<cLine;unfold depMax;lia) rx ix hd is r
 refine SeqAt.in_listAt (eqDv H d) pl.isList (fun w hw=>m1 w (by simpa using hw)) ⟨.bl _,H,I,rfl,?_⟩
 rw[show its.toArray.any (eqDv H d)=its.any (eqDv H d) by simp,any_map_of m2]
 exact q
end
end L2
end
section
namespace L2
open PySem PySem.Spec PyProof.Rows
open Kn (KE cmpK kEl sLt)
def kv:KE->V
 | .i n=>.int n
 | .s x=>.str x
theorem eqAt_K {A:Around}{s:Shared}{a c:KE}{y x:Value} (ra:RelV (kv a) y) (rc:RelV (kv c) x):∃ e,SeqAt.EqAt A s y x e/\(e=true ↔ a=c):=by
 cases a with
 | i m=>
  obtain⟨t,rfl⟩:=ra
  cases c with
  | i n=>obtain⟨u,rfl⟩:=rc;exact⟨(m == n),SeqAt.EqAt.int_int m t n u,by simp⟩
  | s z=>obtain⟨u,rfl⟩:=rc;exact⟨false,SeqAt.EqAt.int_str m t z u,by simp⟩
 | s w=>
  obtain⟨t,rfl⟩:=ra
  cases c with
  | i n=>obtain⟨u,rfl⟩:=rc;exact⟨false,SeqAt.EqAt.str_int w t n u,by simp⟩
  | s z=>obtain⟨u,rfl⟩:=rc;exact⟨(w == z),SeqAt.EqAt.str_str w t z u,by simp⟩
theorem rcLt_K {A:Around}{s:Shared}{a c:KE}{y x:Value}{r:Bool} (ra:RelV (kv a) y) (rc:RelV (kv c) x) (h:kEl a c=some r) (prog:Program) (w:World) (E:Value->Shared->Prop) (Q:Value->Shared->Prop) (q:Q (.bool r) s) :
  wpAny (model prog w) A (richCompare .Lt y x) Q E s:=by
 cases a with
 | i m=>
  obtain⟨t,rfl⟩:=ra
  cases c with
  | i n=>
   obtain⟨u,rfl⟩:=rc
   cases h
   exact HT.rcLt_int A s m t n u prog w E Q q
  | s z=>cases h
 | s v=>
  obtain⟨t,rfl⟩:=ra
  cases c with
  | i n=>cases h
  | s z=>
   obtain⟨u,rfl⟩:=rc
   cases h
   exact (PyProof.Rows.lt_str q:wpAny (model prog w) A (compareOp .Lt (.str v t) (.str z u)) Q E s)
section
open PySem.SeqAt
open PySem.AutoSeq1 (wpAny_loadPart')
open PySem.MeetsSeq PySem.MeetsSeq2 PySem.MeetsSeq3
theorem tuple_ltK (l b:Addr) (items items2:Array Value) (n n2:Nat) (dd dd2:Option Addr) (sl sl2:Array (Option Value)) (ks js:List KE) (hi:Vals (ks.map kv) items.toList) (hj:Vals (js.map kv) items2.toList) (r:Bool) (hr:cmpK ks js=some r) :
  Meets (Builtin.«tuple.__lt__» ⟨[.ref l,.ref b],[]⟩)
   (fun _ R s=>s.heap.get? l=some { cls:=.type "tuple",dict:=dd,data:=.seq items n,slots:=sl }/\s.heap.get? b=some { cls:=.type "tuple",dict:=dd2,data:=.seq items2 n2,slots:=sl2 } /\
    R (.ok (.ret (.bool r))) s):=
 .of_wp fun prog w A R s h=>by
  obtain⟨hp,g,d,tk,os⟩:=s;obtain⟨hl,hb,h⟩:=h
  have f2:=AutoSeq1.sub_tuple_tuple
  have z1:items.size=ks.length:=by have:=hi.length;simpa using this.symm
  have z2:items2.size=js.length:=by have:=hj.length;simpa using this.symm
  wp_walk using wpAny_loadPart' hl,wpAny_loadPart' hb,wpAny_forIn_list _ (fun rest b s'=>b.1=none/\s'=⟨hp,g,d,tk,os⟩/\∃ (vs ws:List Value) (ks' js':List KE),rest=vs.zip ws /\
   Vals (ks'.map kv) vs/\Vals (js'.map kv) ws/\ks'.length+items2.size=js'.length+items.size/\cmpK ks' js'=some r) _
  case turn=>
   rintro⟨y,x⟩ rest b s' ⟨hb',rfl,vs,ws,ks',js',hz,hvi,hwi,hlen,hR⟩
   cases ks' with
   | nil=>cases hvi;rw[List.zip_nil_left]at hz;cases hz
   | cons a ks'=>
    cases js' with
    | nil=>cases hwi;rw[List.zip_nil_right]at hz;cases hz
    | cons c js'=>
     rw[List.map_cons]at hvi hwi
     cases hvi with
     | cons ra hvi'=>
      cases hwi with
      | cons rc hwi'=>
       rw[List.zip_cons_cons]at hz
       injection hz with hyx hrest
       injection hyx with hy hx
       subst hy hx
       rw[Kn.cmpK]at hR
       simp only[List.length_cons]at hlen
       obtain⟨e,he,hiff⟩:=eqAt_K (A:=A.in1) (s:=⟨hp,g,d,tk,os⟩) ra rc
       refine wpAny_bind (he prog w _ _ ?_)
       cases e with
       | true=>
        rw[if_pos (hiff.mp rfl)]at hR
        wp_walk
        exact⟨rfl,rfl,_,_,_,_,hrest,hvi',hwi',by lia,hR⟩
       | false=>
        rw[if_neg (fun q=>absurd (hiff.mpr q) Bool.false_ne_true)]at hR
        have hri:=rcLt_K (A:=A.in1) (s:=⟨hp,g,d,tk,os⟩) ra rc hR prog w
        wp_walk using hri
        exact⟨_,rfl,by simpa using h⟩
  case fin=>
   rintro⟨b1,b2⟩ s' ⟨hb',rfl,vs,ws,ks',js',hz,hvi,hwi,hlen,hR⟩
   simp only at hb'
   subst hb'
   have hv:r=decide (items.size<items2.size):=by
    cases ks' with
    | nil=>
     cases js' with
     | nil=>
      simp only[List.length_nil]at hlen
      cases hR
      exact (decide_eq_false (by lia)).symm
     | cons c js'=>
      simp only[List.length_nil,List.length_cons]at hlen
      cases hR
      exact (decide_eq_true (by lia)).symm
    | cons a ks'=>
     cases js' with
     | nil=>
      simp only[List.length_nil,List.length_cons]at hlen
      cases hR
      exact (decide_eq_false (by lia)).symm
     | cons c js'=>
      rw[List.map_cons]at hvi hwi
      cases hvi
      cases hwi
      rw[List.zip_cons_cons]at hz
      cases hz
   rw[hv]at h
   wp_walk
   exact⟨_,rfl,by simpa [Builtin.Tuple.tupleCompareSizes] using h⟩
  case h=>
   exact⟨rfl,rfl,items.toList,items2.toList,ks,js,rfl,hi,hj,by lia,hr⟩
end
section
variable {X:Cx}
def rLtK (K:PySem.W.Frag):R2:=fun x y H Q=>∃ a b ks js r,x=.ref a/\y=.ref b/\SqT K H a (ks.map kv)/\SqT K H b (js.map kv)/\cmpK ks js=some r/\Q (.bl r) H
theorem op_ltK (hu:X.A.units<cLine):OpR X (compareOp .Lt) (rLtK X.K):=by
 intro pins s σ H x y v u Q I rx ry h
 obtain⟨a,b,ks,js,r,rfl,rfl,ha,hb,hr,q⟩:=h
 cases rx
 cases ry
 obtain⟨its,r1,p1,_⟩:=I.tuple ha
 obtain⟨its2,r2,p2,_⟩:=I.tuple hb
 obtain⟨⟨cls,dd,data,sl⟩,ho,hc,n,hd⟩:=id p1
 obtain⟨⟨cls2,dd2,data2,sl2⟩,ho2,hc2,n2,hd2⟩:=id p2
 simp only at hc hd hc2 hd2
 subst hc hd hc2 hd2
 exact richCompare_meets_room (op:=.Lt) ⟨_,ho,rfl⟩ ⟨_,ho2,rfl⟩ PySem.F.slot_tuple_lt PySem.F.entry_tuple_lt (PySem.F.args_tuple_lt_2 _ _) (tuple_ltK a b its.toArray its2.toArray n n2 dd dd2 sl sl2 ks js (by simpa using r1) (by simpa using r2) r hr)
  ⟨ho,ho2,show Value.bool r≠Value.notImplemented/\EP X pins σ Q (.bool r) s from ⟨(fun x=>nomatch x),⟨.bl r,H,I,rfl,q⟩⟩⟩ hu
def rLtE:R2:=fun x y H Q=>∃ a c r,x=kv a/\y=kv c/\kEl a c=some r/\Q (.bl r) H
theorem op_ltE:OpR X (compareOp .Lt) rLtE:=by
 intro pins s σ H x y v u Q I rx ry h
 obtain⟨a,c,r,rfl,rfl,hr,q⟩:=h
 show wpAny (model X.prog X.w) X.A (richCompare .Lt v u) (EP X pins σ Q) X.xe s
 exact rcLt_K rx ry hr X.prog X.w _ _ ⟨.bl r,H,I,rfl,q⟩
def tRev (K:PySem.W.Frag) (te:TE):TE:=fun σ H Q=>te σ H fun x H1=>∃ a xs,x=.ref a/\SqL K H1 a xs/\∀ p,H1 p=none->Q (.ref p) (upd H1 p (.lst xs.reverse))
theorem pe_rev {e:Expr}{te:TE}{k:Nat}{p2 p3 p4 pos:Pos} (he:PE X e te):PE X (.Subscript e (.Slice none none (some (.UnaryOp .USub (.Constant (.int 1) k p3) p4)) p2) pos) (tRev X.K te):=by
 intro pins s σ H Q I h
 refine Subscript_ (thn (he pins s σ H _ I h) fun v s1 ⟨x,H1,I1,r1,q1⟩=>?_)
 obtain⟨a,xs,rfl,hx,q⟩:=q1
 cases r1
 refine wpAny_Slice ?_
 rw[evalPart_none]
 refine wpAny_pure (wpAny_pure ?_)
 rw[evalPart_some]
 refine thn (pe_un un_neg pe_int pins s1 σ H1 (fun y H2=>y=.int (-1)/\H2=H1) I1 ⟨1,rfl,rfl,rfl⟩) fun u s2 ⟨y,H2,I2,r2,e1,e2⟩=>?_
 subst e1 e2
 obtain⟨t,rfl⟩:=r2
 have I4:Inv X pins σ H2 { s2 with heap:=s2.heap.push { cls:=.type "slice",data:=.fields #[.none,.none,.int (-1) t] } }:=I2.kept (t':=s2.toks) fun b ob q=>Heap.get?_push_of_some _ q
 obtain⟨its,r,ht,hz⟩:=I4.list hx
 have hlen:=r.length
 refine tail_any (ops:=[.ref a,.ref s2.heap.objs.size]) (T:="list") ht.isList.typeIs slot_list_getitem.lookup ?_ (by with_unfolding_all rfl)
 refine wpAny_getItem_list_slice ht.isList (Heap.IsSliceOf.new ..) .none .none (.int (-1) t) (by simp) ?_ (by rw[List.size_toArray] <;> lia)
 rw[PySem.W.krv_pick]
 refine⟨.ref _,_,I4.laid (t':=s2.toks) (o:=.lst xs.reverse) (fun b ob q=>Heap.get?_push_of_some _ q) (Nat.le_refl _) ?_,rfl,q _ (I4.hok.fresh (Nat.le_refl _))⟩
 exact⟨by rw[List.length_reverse];exact hz,_,0,r.reverse,Heap.get?_push_size _ rfl⟩
def isiV (H:Hp) (x:V) (T:String) (b:Bool):Prop:=
 (T="tuple"/\((∃ i,x=.int i)/\b=false\/(∃ z,x=.str z)/\b=false\/(∃ a xs,x=.ref a/\H a=some (.tup xs))/\b=true))\/(T="bool"/\(∃ c,x=.bl c)/\b=true)
theorem call_isi:CallR X (.builtin "isinstance") (fun xs H Q=>∃ x T b,xs=[x,.ty T]/\isiV H x T b/\Q (.bl b) H):=by
 intro pins s σ H xs us Q I r h
 obtain⟨x,T,b,rfl,hi,q⟩:=h
 obtain⟨u,v,rfl,ru,rv⟩:=r.two
 cases rv
 rcases hi with ⟨rfl,⟨⟨i,rfl⟩,rfl⟩ | ⟨⟨z,rfl⟩,rfl⟩ | ⟨⟨a,ys,rfl,ha⟩,rfl⟩⟩ | ⟨rfl,⟨c,rfl⟩,rfl⟩
 ·obtain⟨t,rfl⟩:=ru
  exact IsiPair.int_tuple ⟨.bl false,H,I.tok _,rfl,q⟩
 ·obtain⟨t,rfl⟩:=ru
  exact IsiPair.str_tuple ⟨.bl false,H,I.tok _,rfl,q⟩
 ·cases ru
  obtain⟨hz,its,r',o,ho,hc,_⟩:=I.hok a _ ha
  exact IsiPair.tuple_tuple ho hc ⟨.bl true,H,I,rfl,q⟩
 ·cases ru
  exact IsiPair.bool_bool ⟨.bl true,H,I,rfl,q⟩
theorem ofStrs:∀ {us:List Value}{ys:List Str},StrsAre us ys->Vals (ys.map V.str) us
 | _,_,.nil=>.nil
 | _,_,.cons x t r=>.cons ⟨t,rfl⟩ (ofStrs r)
def rCatT' (K:PySem.W.Frag):R2:=fun x y H Q=>∃ a b xs ys,x=.ref a/\y=.ref b/\H a=some (.tup xs)/\H b=some (.tup ys)/\xs.length+ys.length<=sizeLine /\
 ∀ p H',(∀ c o,H c=some o->H' c=some o)->H' p=some (.tup (xs++ys))->Q (.ref p) H'
theorem op_catT':OpR X (binaryOp .Add) (rCatT' X.K):=by
 intro pins s σ H x y v u Q I rx ry h
 obtain⟨a,b,xs,ys,rfl,rfl,ha0,hb0,hz,q⟩:=h
 have ha:SqT X.K H a xs:=SqT.of ha0
 have hb:SqT X.K H b ys:=SqT.of hb0
 by_cases hx:xs=[]
 ·subst hx
  cases rx
  cases ry
  obtain⟨its,r1,p1,_⟩:=I.tuple ha
  obtain⟨its2,r2,p2,_⟩:=I.tuple hb
  cases r1
  obtain⟨⟨cls,dd,data,sl⟩,ho,hc,n,hd⟩:=id p1
  obtain⟨⟨cls2,dd2,data2,sl2⟩,ho2,hc2,n2,hd2⟩:=id p2
  simp only at hc hd hc2 hd2
  subst hc hd hc2 hd2
  exact concat_meets ⟨_,ho,rfl⟩ ⟨_,ho2,rfl⟩ noFill_tuple_add seq_tuple_add PySem.F.slot_tuple_add PySem.F.entry_tuple_add (PySem.F.args_tuple_add_2 _ _)
   (tuple_addW0 a b _ its2.toArray n n2 dd dd2 sl sl2 (by simp)) ⟨ho,ho2,⟨.ref b,H,I,rfl,q b H (fun _ _ z=>z) hb0⟩⟩
 ·exact op_catT pins s σ H _ _ v u Q I rx ry ⟨a,b,xs,ys,rfl,rfl,ha,hb,hx,hz,fun e=>q a H (fun _ _ z=>z) (by subst e;rw[List.append_nil];exact ha0),fun e p hp=>q p _ (fun c o z=>by rw[upd_ne (ne_of_none z hp)];exact z) upd_same⟩
end
end L2
end
section
namespace L2
open PySem PySem.Spec PyProof.Rows
open PySem.W (kdu_collect kdl_dict)
theorem kv_get:∀ {kvs:List (Key×V)}{vs:List (Key×Value)}{i:Nat}{p:Key×V},KV kvs vs->kvs[i]?=some p->∃ q,vs[i]?=some q/\p.1=q.1
 | _,_,_,_,.nil,e=>by simp at e
 | _,_,0,_,.cons r _,e=>by simp at e;subst e;exact⟨_,rfl,r.1⟩
 | _,_,i+1,p,.cons _ t,e=>by
  obtain⟨q,h1,h2⟩:=kv_get (i:=i) (p:=p) t (by simpa using e)
  exact⟨q,by simpa using h1,h2⟩
section
variable {X:Cx}
def rSortD:List V->Hp->VK->Prop:=fun xs H Q=>∃ a kvs,xs=[.ref a]/\H a=some (.dK kvs)/\(∀ kv∈kvs,∃ s,kv.1=Sum.inr s)/\kvs.length<64 /\
 ∀ (p:Addr) (ys:List Str),H p=none->(ys.map (Sum.inr:Str->Key)).Perm (kvs.map (·.1))->sortedS ys=true->Q (.ref p) (upd H p (.lst (ys.map V.str)))
theorem call_sortD (hc:X.calm=true):CallR X (.builtin "sorted") rSortD:=by
 intro pins s σ H xs us Q I r h
 obtain⟨a,kvs,rfl,ha,hk,h64,q⟩:=h
 obtain⟨u,rfl,ru⟩:=r.one
 cases ru
 have hh:=I.ok.hd hc
 obtain⟨z,hd,vs,rel,dd⟩:=dk_of I.hok ha
 obtain⟨ep,hat⟩:=dd.dictAt
 have hlen:kvs.length=vs.length:=rel.length
 refine Calls.call_function_entry kind_sorted plain_sorted entry_sorted (args_sorted1 _) ?_
 unfold Builtin.«sorted»
 refine wpAny_bind (m:=checkCount "sorted" 1 1 _) (wpAny_pure ?_)
 refine wpAny_bind (kdu_collect (A:=X.A.in1) (kdl_dict (knd:=mixKind X.prog X.w) (kvs:=vs) (ep:=ep) hd) hh hat (by rw[<- hlen];exact z) fun h' tk acc keep items=>?_)
 have hl:acc.toList.length=vs.length:=by rw[Array.length_toList];exact items.1
 refine wpAny_bind (wpAny_newList ?_ (by rw[hl,<- hlen];exact z))
 -- the keys as texts
 have hss:∃ ss:List Str,StrsAre acc.toList ss/\ss.map (Sum.inr:Str->Key)=kvs.map (·.1):=by
  have key:∀ (n:Nat),n<=vs.length->∃ ss:List Str,StrsAre (acc.toList.drop (vs.length-n)) ss/\ss.map (Sum.inr:Str->Key)=(kvs.map (·.1)).drop (vs.length-n):=by
   intro n
   induction n with
   | zero=>intro _;exact⟨[],by rw[List.drop_of_length_le (by lia)];exact .nil,by rw[List.drop_of_length_le (by rw[List.length_map];lia)];rfl⟩
   | succ n ih=>
    intro hn
    obtain⟨ss,h1,h2⟩:=ih (by lia)
    have e:vs.length-n=(vs.length-(n+1))+1:=by lia
    have hj:vs.length-(n+1)<acc.toList.length:=by lia
    have hj2:vs.length-(n+1)<kvs.length:=by lia
    obtain⟨k,x,hx,hkk⟩:=items.2 (vs.length-(n+1)) (acc.toList[vs.length-(n+1)]) (by rw[<- Array.getElem?_toList,List.getElem?_eq_getElem hj])
    have ek:kvs[vs.length-(n+1)].1=k:=by
     obtain⟨b,hb,hr⟩:=kv_get rel (List.getElem?_eq_getElem hj2)
     rw[hx]at hb
     cases hb
     exact hr
    obtain⟨sx,hs⟩:=hk _ (List.getElem_mem hj2)
    rw[ek]at hs
    subst hs
    obtain⟨t,et⟩:∃ t,acc.toList[vs.length-(n+1)]=Value.str sx t:=by
     rcases keyIs_shape (show keyIs (Sum.inr sx) _=true from hkk) with ⟨i,t,e1,_⟩ | ⟨y,t,e1,e2⟩
     ·cases e1
     ·cases e1;exact⟨t,e2⟩
    refine⟨sx::ss,?_,?_⟩
    ·rw[List.drop_eq_getElem_cons hj,et,<- e]
     exact .cons sx t h1
    ·rw[List.map_cons,h2,List.drop_eq_getElem_cons (i:=vs.length-(n+1)) (by rw[List.length_map];exact hj2),List.getElem_map,ek,e]
  obtain⟨ss,h1,h2⟩:=key vs.length (Nat.le_refl _)
  rw[Nat.sub_self,List.drop_zero]at h1
  rw[Nat.sub_self,List.drop_zero]at h2
  exact⟨ss,h1,h2⟩
 obtain⟨ss,hS,hmap⟩:=hss
 have hoL:(h'.push { cls:=.type "list",data:=.seq acc.toList.toArray }).get? h'.objs.size=some (seqObj "list" acc.toList.toArray 0):=Heap.get?_push_size _ rfl
 refine wpAny_bind (wpAny_holding (wpAny_call_entry slot_list_sort ⟨_,hoL,rfl⟩ entry_list_sort (list_sort_treeK strKind_oneLt hoL hS.keysOf (fun v₁ v₂ rest e=>keyKind_strs (by rw[<- e];exact hS)) (by rw[hl,<- hlen];exact h64) fun st' a1 a2=>⟨_,rfl,?_⟩) (args_list_sort _)))
 obtain⟨ys,b1,b2,b3⟩:=sorted_out_str hS a1 a2
 refine wpAny_pure ⟨_,rfl,?_⟩
 have I1:Inv X pins σ H { s with heap:=h',toks:=tk }:=I.kept keep
 obtain⟨e,hat2⟩:=sortedHeap_at (out:=(arrOf st').map (·.2)) hoL
 have hz:(ys.map V.str).length<=sizeLine:=by
  rw[List.length_map,b2.length_eq,<- List.length_map (f:=(Sum.inr:Str->Key)),hmap,List.length_map]
  exact z
 refine⟨.ref h'.objs.size,upd H h'.objs.size (.lst (ys.map V.str)),?_,rfl,q _ ys (I1.hok.fresh (Nat.le_refl _)) ?_ b3⟩
 ·refine I1.laid (t':=tk) (fun b o hb=>?_) (Nat.le_refl _) ⟨hz,_,e,ofStrs b1,?_⟩
  ·have hlt:b<h'.objs.size:=Heap.lt_size hb
   rw[sortedHeap_old (Nat.ne_of_lt hlt) (by rw[Heap.size_push];exact Nat.lt_succ_of_lt hlt)]
   exact Heap.get?_push_of_some _ hb
  ·rw[hat2]
 ·rw[<- hmap]
  exact b2.map _
end
section
variable {X:Cx}
theorem op_plus:OpR X (binaryOp .Add) (fun x y H Q=>rI0 (fun i j=>.int (i+j)) x y H Q\/((∃ i j,x=.str i/\y=.str j/\i.length+j.length<=sizeLine/\Q (.str (i++j)) H)\/(rCat x y H Q\/rCatT' X.K x y H Q))):=op_add.or (op_add_str.or (op_cat.or op_catT'))
theorem op_ltU (hu:X.A.units<cLine):OpR X (compareOp .Lt) (fun x y H Q=>rI0 (fun i j=>.bl (decide (i<j))) x y H Q\/(rLtE x y H Q\/rLtK X.K x y H Q)):=op_lt.or (op_ltE.or (op_ltK hu))
theorem op_eqU (hu:X.A.units+110<cLine):OpR X (compareOp .Eq) (fun x y H Q=>rEq x y H Q\/rEqD x y H Q):=op_eq.or (op_eqD hu)
def rNeL:R2:=fun x y H Q=>∃ a b xs,x=.ref a/\y=.ref b/\H a=some (.lst xs)/\H b=some (.lst [])/\Q (.bl (decide (xs≠[]))) H
theorem op_neL (hu:X.A.units<cLine):OpR X (compareOp .NotEq) rNeL:=by
 intro pins s σ H x y v u Q I rx ry h
 obtain⟨a,b,xs,rfl,rfl,ha,hb,q⟩:=h
 cases rx
 cases ry
 obtain⟨its,r,p,_⟩:=I.list (SqL.of ha)
 obtain⟨its2,r2,p2,_⟩:=I.list (SqL.of hb)
 cases r2
 by_cases hx:xs=[]
 ·subst hx
  cases r
  refine SeqAt.RcNeAt.lists (A:=X.A) (e:=fun _=>true) p.isList p2.isList rfl hu (fun j h1=>by simp at h1) _ _ _ _ ⟨.bl false,H,I,rfl,?_⟩
  simpa using q
 ·refine SeqAt.RcNeAt.lists_lengths (A:=X.A) p.isList p2.isList ?_ hu _ _ _ _ ⟨.bl true,H,I,rfl,?_⟩
  ·have:=r.length
   have h0:its≠[]:=fun z=>hx (by subst z;cases xs with | nil=>rfl | cons _ _=>simp at this)
   cases its with
   | nil=>exact absurd rfl h0
   | cons _ _=>simp
  ·rw[decide_eq_true hx]at q
   exact q
theorem op_neU (hu:X.A.units+110<cLine):OpR X (compareOp .NotEq) (fun x y H Q=>rNe x y H Q\/((∃ ds es,IsDt H (.tup ds) x/\IsDt H (.tup es) y/\depL ds<=depMax/\Q (.bl (!decide (ds=es))) H)\/rNeL x y H Q)):=op_ne.or ((op_neD hu).or (op_neL (by lia)))
theorem op_inU (hu:X.A.units+110<cLine):OpR X (compareOp .In) (fun x y H Q=>rIn X.K false x y H Q\/rInD X.K false x y H Q):=op_in_seq.or (op_inD hu)
theorem call_lenU:CallR X (.builtin "len") (fun xs H Q=>(∃ p ys,xs=[.ref p]/\(SqL X.K H p ys\/SqT X.K H p ys)/\Q (.int ys.length) H)\/∃ z,xs=[.str z]/\z.length<=sizeLine/\Q (.int z.length) H):=call_len_seq.or call_len_str
def rIxD:R2:=fun x y H Q=>∃ a v,x=.ref a/\DGet H a y (some v)/\Q v H
theorem ix_dict (hu:X.A.units+1<cLine):IxR X rIxD:=by
 intro value slice pins s σ H x y v u Q I rx ry h hs
 obtain⟨a,w,rfl,g,q⟩:=h
 cases rx
 exact tail_any (ops:=[.ref a,u]) (dict_typeIs I g) PySem.F.slot_dict_getitem.lookup (d_getItem hu I g ry fun w' s3 I3 rw'=>⟨w,H,I3,rw',q⟩) hs
theorem ix_U (hu:X.A.units+1<cLine):IxR X (fun x y H Q=>rIxL X.K x y H Q\/(rIxT X.K x y H Q\/(rIxS x y H Q\/rIxD x y H Q))):=ix_list.or (ix_tup.or (ix_str.or (ix_dict hu)))
def rSetD:TSet:=fun o i v H Q=>∃ a H',o=.ref a/\DPut H a i v H'/\Q H'
theorem set_dict (hu:X.A.units+1<cLine):PSet X rSetD:=by
 intro pins s σ H o i v ov iv u Q I ro ri rv h
 obtain⟨a,H',rfl,g,q⟩:=h
 cases ro
 exact d_setItem hu I g ri rv fun s4 I4=>⟨H',I4,q⟩
theorem PSet.or {r r':TSet} (h:PSet X r) (h':PSet X r'):PSet X (fun o i v H Q=>r o i v H Q\/r' o i v H Q):=by
 intro pins s σ H o i v ov iv u Q I ro ri rv q
 rcases q with q | q
 ·exact h pins s σ H o i v ov iv u Q I ro ri rv q
 ·exact h' pins s σ H o i v ov iv u Q I ro ri rv q
theorem set_U (hu:X.A.units+1<cLine):PSet X (fun o i v H Q=>rSetL o i v H Q\/rSetD o i v H Q):=set_list.or (set_dict hu)
theorem pi_U {tg l:Expr}{tl:TE} (hl:PE X l tl):PI X tg l (fun σ H R=>iList X.K tl σ H R\/iTup X.K tl σ H R):=by
 intro pins s σ H R I h
 rcases h with h | h
 ·exact pi_list hl pins s σ H R I h
 ·exact pi_tup hl pins s σ H R I h
end
end L2
end
section
namespace L2
open PySem PySem.Spec PyProof.Rows
structure ZC where
 cl:List (Str×Addr)
 C:Addr
 fp:List Addr
 s:Shared
 H:Hp
def cxC (X:Cx) (scope:Scope) (N':List Str) (z:ZC):Cx where
 prog:=X.prog
 w:=X.w
 K:=X.K
 mg:=X.mg
 base:=X.base
 A:=X.A
 N:=N'
 s₀:=z.s
 H₀:=z.H
 env:=compEnvC scope z.cl z.C X.env
 outer:=X.stack
 stack:=X.stack
 ex:=z.fp
 fn:=fun _=>false
 calm:=X.calm
 pn:=[]
 xe:=fun _ _=>False
theorem clos_loop {env:Env}:∀ (names:List (Str×NameKind)) (acc:List (Str×Addr)),(∀ y∈names,y.2=.free->∃ c,env.cells.lookup y.1=some c) ->
  (∀ x c,acc.lookup x=some c->env.cells.lookup x=some c) ->
  ∃ cl,(forIn names acc (fun y cs=>if (y.2 == NameKind.free)=true then (cellOf env y.1 >>= fun c=>pure (ForInStep.yield ((y.1,c)::cs))) else pure (ForInStep.yield cs)):Sem (List (Str×Addr)))=pure cl /\
   (∀ x c,cl.lookup x=some c->env.cells.lookup x=some c)/\(∀ y∈names,y.2=.free->∃ c,cl.lookup y.1=some c)/\∀ x c,acc.lookup x=some c->∃ c',cl.lookup x=some c'
 | [],acc,_,ha=>⟨acc,rfl,ha,fun y hy=>(nomatch hy),fun x c h=>⟨c,h⟩⟩
 | (n,k)::r,acc,h,ha=>by
  by_cases hk:k=.free
  ·subst hk
   obtain⟨c,hc⟩:=h (n,.free) List.mem_cons_self rfl
   have hac:∀ x c',((n,c)::acc).lookup x=some c'->env.cells.lookup x=some c':=fun x c' q=>by
    rw[List.lookup_cons]at q
    cases e:x == n with
    | true=>
     rw[e]at q
     cases q
     rw[eq_of_beq e]
     exact hc
    | false=>
     rw[e]at q
     exact ha x c' q
   obtain⟨cl,e1,e2,e3,e4⟩:=clos_loop r ((n,c)::acc) (fun y hy=>h y (List.mem_cons_of_mem _ hy)) hac
   refine⟨cl,?_,e2,fun y hy hf=>?_,fun x c' q=>?_⟩
   ·rw[List.forIn_cons]
    have ec:cellOf env n=pure c:=by unfold cellOf;rw[hc]
    simp only[beq_self_eq_true,if_true,ec,pure_bind]
    exact e1
   ·rcases List.mem_cons.mp hy with rfl | hy
    ·exact e4 n c (by simp)
    ·exact e3 y hy hf
   ·cases e:x == n with
    | true=>exact e4 x c (by rw[List.lookup_cons,e])
    | false=>exact e4 x c' (by rw[List.lookup_cons,e];exact q)
  ·obtain⟨cl,e1,e2,e3,e4⟩:=clos_loop r acc (fun y hy=>h y (List.mem_cons_of_mem _ hy)) ha
   refine⟨cl,?_,e2,fun y hy hf=>?_,e4⟩
   ·rw[List.forIn_cons]
    have hb:(k == NameKind.free)=false:=by simpa using hk
    simp only[hb,Bool.false_eq_true,if_false,pure_bind]
    exact e1
   ·rcases List.mem_cons.mp hy with rfl | hy
    ·exact absurd hf hk
    ·exact e3 y hy hf
theorem clos_of {scope:Scope}{env:Env} (h:∀ y∈scope.names,y.2=.free->∃ c,env.cells.lookup y.1=some c) :
  ∃ cl,closureFor scope env=pure cl/\(∀ x c,cl.lookup x=some c->env.cells.lookup x=some c)/\∀ y∈scope.names,y.2=.free->∃ c,cl.lookup y.1=some c:=by
 obtain⟨cl,e1,e2,e3,_⟩:=clos_loop (env:=env) scope.names [] h (fun x c q=>by simp at q)
 refine⟨cl,?_,e2,e3⟩
 unfold closureFor
 first
  | exact e1
  | (simp only[bind_pure_comp,map_pure,bind_pure]at e1 ⊢;exact e1)
  | (rw[show (forIn scope.names [] _:Sem (List (Str×Addr)))=pure cl from e1];rfl)
theorem rel_free {env:Env}:∀ {names:List (Str×NameKind)}{x:Str},names.lookup x=some .free ->
  let l:=(names.map fun (n,k)=>if (k == NameKind.free && env.scope.kind == .function && env.kindOf n == some .cell) then (n,NameKind.cell) else (n,k)).lookup x
  l=some .cell\/l=some .free
 | [],_,h=>by simp at h
 | (n,k)::r,x,h=>by
  have ih:=@rel_free env r x
  simp only at ih ⊢
  rw[List.map_cons]
  cases hx:x == n with
  | true=>
   rw[List.lookup_cons,hx]at h
   cases h
   by_cases hc:(NameKind.free == NameKind.free && env.scope.kind == .function && env.kindOf n == some .cell)=true
   ·left
    simp only[hc,if_true,List.lookup_cons,hx]
   ·right
    simp only[if_neg hc,List.lookup_cons,hx]
  | false=>
   rw[List.lookup_cons,hx]at h
   by_cases hc:(k == NameKind.free && env.scope.kind == .function && env.kindOf n == some .cell)=true
   ·simp only[if_pos hc,List.lookup_cons,hx];exact ih h
   ·simp only[if_neg hc,List.lookup_cons,hx];exact ih h
theorem rel_back {env:Env}:∀ {names:List (Str×NameKind)}{x:Str}{k':NameKind},(∀ y∈names,y.2≠.cell)->(k'=.cell\/k'=.free) ->
  (names.map fun (n,k)=>if (k == NameKind.free && env.scope.kind == .function && env.kindOf n == some .cell) then (n,NameKind.cell) else (n,k)).lookup x=some k'->(x,NameKind.free)∈names
 | [],_,_,_,_,h=>by simp at h
 | (n,k)::r,x,k',hn,hk,h=>by
  rw[List.map_cons]at h
  cases hx:x == n with
  | true=>
   have e:x=n:=eq_of_beq hx
   subst e
   by_cases hc:(k == NameKind.free && env.scope.kind == .function && env.kindOf x == some .cell)=true
   ·have hf:k=.free:=by
     simp only[Bool.and_eq_true,beq_iff_eq]at hc
     exact hc.1.1
    subst hf
    exact List.mem_cons_self
   ·simp only[if_neg hc,List.lookup_cons,hx]at h
    have e2:k=k':=Option.some.inj h
    subst e2
    rcases hk with rfl | rfl
    ·exact absurd rfl (hn _ List.mem_cons_self)
    ·exact List.mem_cons_self
  | false=>
   have ih:=@rel_back env r x k' (fun y hy=>hn y (List.mem_cons_of_mem _ hy)) hk
   by_cases hc:(k == NameKind.free && env.scope.kind == .function && env.kindOf n == some .cell)=true
   ·simp only[if_pos hc,List.lookup_cons,hx]at h
    exact List.mem_cons_of_mem _ (ih h)
   ·simp only[if_neg hc,List.lookup_cons,hx]at h
    exact List.mem_cons_of_mem _ (ih h)
theorem comp_loop {prog:Program}{w:World}{A:Around}{s:Shared}{elt tg iter:Expr}{ifs:List Expr}{scope:Scope}{pos:Pos}{it acc:Value}{env:Env}{P:Shared->Prop}{R:Result->Shared->Prop}
  (hR:∀ s',P s'->R (.ok .next) s') (J:Nat->Shared->Prop)
  (turn:∀ n s,J n s->wpAny (model prog w) A (pyNext it) (fun r s1=>match r with
   | none=>P s1
   | some v=>wpAny (model prog w) A (letOwnedTupleGo tg it v) (fun _ s2=>wpAny (model prog w) A (assign tg env v) (fun _ s3=>
     wpAny (model prog w) A (forIn ifs true fun c r=>if r=true then do let ok <- isTrue c env (eval c env);pure (ForInStep.yield ok) else pure (ForInStep.yield r)) (fun ok s4=>
      if ok=true then wpAny (model prog w) A (eval elt env) (fun x s5=>
       wpAny (model prog w) A (call (.builtin "list.append") [acc,x]) (fun _ s6=>∃ m,m<n/\J m s6) (fun _ _=>False) s5) (fun _ _=>False) s4
      else ∃ m,m<n/\J m s4) (fun _ _=>False) s3) (fun _ _=>False) s2) (fun _ _=>False) s1) (fun _ _=>False) s)
  (n:Nat) (h:J n s):codeAny (model prog w) A (.compLoop (.ListComp elt [⟨tg,iter,ifs,0⟩] scope pos) 0 it acc env) R s:=by
 refine codeAny_loop rfl J (fun n s hJ=>?_) n h
 show wpAny _ A ((compTurn (.ListComp elt [⟨tg,iter,ifs,0⟩] scope pos) 0 it acc env).onRaise (fun x=>do noteFrame x env;theTreesLotGoes x)) _ _ s
 refine wpAny_noted (wpAny_mono (E:=fun _ _=>False) ?_ (fun _ _ q=>q) fun _ _ q=>q.elim)
 rw[compTurn_list]
 refine wpAny_bind (wpAny_standAt (wpAny_bind (thn (turn n s hJ) fun r s1 h1=>?_)))
 cases r with
 | none=>exact wpAny_pure (hR _ h1)
 | some v=>
  refine wpAny_bind (thn h1 fun _ s2 h2=>wpAny_bind (thn h2 fun _ s3 h3=>wpAny_bind (thn h3 fun ok s4 h4=>?_)))
  cases ok with
  | false=>exact wpAny_pure ⟨rfl,h4⟩
  | true=>exact wpAny_bind (wpAny_bind (thn h4 fun x s5 h5=>wpAny_bind (thn h5 fun _ s6 h6=>wpAny_pure (wpAny_pure ⟨rfl,h6⟩))))
def PIfs (X:Cx) (ifs:List Expr) (t:TT):Prop:=
 ∀ (pins:List (Addr×Obj)) (s:Shared) (σ:St) (H:Hp) (Q:Bool->Hp->Prop),Inv X pins σ H s->t σ H Q ->
  wpAny (model X.prog X.w) X.A (forIn ifs true fun c r=>if r=true then do let ok <- isTrue c X.env (eval c X.env);pure (ForInStep.yield ok) else pure (ForInStep.yield r)) (TP X pins σ Q) X.xe s
def tAll:TT:=fun _ H Q=>Q true H
theorem pif_nil {X:Cx}:PIfs X [] tAll:=fun pins s σ H Q I h=>wpAny_tests_nil ⟨H,I,h⟩
theorem pif_one {X:Cx}{c:Expr}{t:TT} (h:PT X c t):PIfs X [c] t:=fun pins s σ H Q I q=>wpAny_tests_one (h pins s σ H Q I q)
def sigC (k:Nat) (fr:List (Str×Nat)) (σ:St):St:=List.replicate k none++fr.map fun p=>(σ[p.2]?).join
def Tgt (k:Nat) (g:TG):Prop:=∀ x σ H Q,g x σ H Q->g x σ H fun σ2 H2=>Q σ2 H2/\σ2.length=σ.length/\σ2.drop k=σ.drop k
theorem tgt_name {i k:Nat} (h:i<k):Tgt k (gName i):=fun x σ H Q q=>⟨q,by simp,by rw[List.drop_set_of_lt h]⟩
theorem tgt_two {K:PySem.W.Frag}{i j k:Nat} (hi:i<k) (hj:j<k):Tgt k (gTup K 2 (gCons (gName i) (gCons (gName j) gNil))):=fun x σ H Q q=>by
 obtain⟨a,xs,e1,e2,e3,v,r,e4,v2,r2,e5,e6,q⟩:=q
 exact⟨a,xs,e1,e2,e3,v,r,e4,v2,r2,e5,e6,q,by simp,by rw[List.drop_set_of_lt hj,List.drop_set_of_lt hi]⟩
def lcStep (J:It) (k:Nat) (fr:List (Str×Nat)) (g:ZC->TG) (tc:ZC->TT) (te:ZC->TE) (σ:St) (W:Nat->Nat->List V->Hp->Prop) (fin:List V->Hp->Prop):Prop:=
 ∀ i m ys H,W i m ys H->ys.length<sizeLine/\((J.stop i H/\fin ys H)\/(J.go i H/\∀ (z:ZC) x H1,J.yld i H x H1->g z x (sigC k fr σ) H1 fun σ2 H2=>tc z σ2 H2 fun b H3=>
  if b=true then te z σ2 H3 fun y H4=>∃ m',m'<m/\W (i+1) m' (ys++[y]) H4 else ∃ m',m'<m/\W (i+1) m' ys H3))
def tLC (wi:TI) (k:Nat) (fr:List (Str×Nat)) (g:ZC->TG) (tc:ZC->TT) (te:ZC->TE):TE:=fun σ H Q=>wi σ H fun J H1=>
 ∃ W:Nat->Nat->List V->Hp->Prop,(∃ m,W 0 m [] H1)/\lcStep J k fr g tc te σ W fun ys H2=>∀ p,H2 p=none->Q (.ref p) (upd H2 p (.lst ys))
section
variable {X:Cx}{tg elt iter:Expr}{ifs:List Expr}{scope:Scope}{pos:Pos}{k:Nat}{Nt:List Str}{fr:List (Str×Nat)}{g:ZC->TG}{tc:ZC->TT}{te:ZC->TE}
structure LcOk (X:Cx) (scope:Scope) (Nt:List Str) (fr:List (Str×Nat)):Prop where
 kind:scope.kind=.function
 cell:∀ y∈scope.names,y.2≠.cell
 names:∀ y∈scope.names,y.2=.local->scope.names.lookup y.1=some .local
 free:∀ y∈scope.names,y.2=.free->X.env.kindOf y.1=some .cell
 fr:∀ p∈fr,X.N[p.2]?=some p.1/\scope.names.lookup p.1=some .free
theorem lc_start {pins:List (Addr×Obj)} {σ:St} {H:Hp}{s2:Shared}{cl:List (Str×Addr)}{fp:List Addr}{h1:Heap}{t1:Nat}{C D:Addr}{m:Str->Option Value} (L:LcOk X scope Nt fr) (I:Inv X pins σ H s2)
  (hcl:∀ x c,cl.lookup x=some c->X.env.cells.lookup x=some c) (hcl2:∀ y∈scope.names,y.2=.free->∃ c,cl.lookup y.1=some c) (hf:∀ b∈fp,FpOk X pins H b) (hlt:∀ b∈fp,b<s2.heap.objs.size)
  (hC:s2.heap.objs.size<=C) (hD:s2.heap.objs.size<=D) (hCD:D≠C) (old:∀ b o,s2.heap.get? b=some o->h1.get? b=some o) (hn:h1.Ns C m) (ho:h1.get? D=some { cls:=.type "list",data:=.seq #[] 0 }) :
  Inv (cxC X scope (Nt++fr.map (·.1)) ⟨cl,C,fp,s2,H⟩) [(D,{ cls:=.type "list",data:=.seq #[] 0 })] (sigC Nt.length fr σ) H { s2 with heap:=h1,toks:=t1 }:=by
 have hstk:∀ b∈frs X.stack,b<s2.heap.objs.size:=fun b hb=>by
  rcases List.mem_cons.mp (I.stkSub b hb) with e | e
  ·rw[e];exact I.lt
  ·exact Nat.lt_of_not_le fun z=>I.nofs z e
 have cdn:∀ x c,cl.lookup x=some c->c<s2.heap.objs.size:=fun x c e=>by
  obtain⟨v,q⟩:=I.cell x c (hcl x c e)
  exact q.lt
 refine⟨⟨I.mod,L.kind,I.ok.glob,I.ok.blt,hC,fun x y c e1 e2=>I.ok.inj x y c (hcl _ _ e1) (hcl _ _ e2),fun x hx=>?_,fun x c hf' _=>(nomatch hf'),I.ok.hd,I.ok.frames,.inl rfl,fun b hb=>⟨Nat.ne_of_lt (Nat.lt_of_lt_of_le (hlt b hb) hC),fun x c e=>(hf b hb).2.2.2.2.1 x c (hcl x c e)⟩,
   I.bs,Nat.le_trans I.ok.bsz I.sz,fun b o e hb=>?_,fun b hb z=>?_,I.stack,I.stkFree⟩,
  rfl,I.bare,Un.kept old,⟨m,hn,fun i x v h1' h2 h3=>?_⟩,fun x c e=>?_,I.hok.fresh hC,fun x c e=>I.freeC x c (hcl x c e),fun p hp=>?_,I.hok.kept old,?_⟩
 ·have hx':((relabel scope X.env).names.lookup x=some .cell\/(relabel scope X.env).names.lookup x=some .free):=hx
  rcases hx' with q | q
  ·exact hcl2 _ (rel_back L.cell (.inl rfl) q) rfl
  ·exact hcl2 _ (rel_back L.cell (.inr rfl) q) rfl
 ·rcases (hf b hb).2.2.2.1 with q | q
  ·exact I.ok.noex b o e q
  ·exact absurd (Nat.lt_of_lt_of_le (Heap.lt_size e) (Nat.le_trans I.ok.bsz q)) (Nat.lt_irrefl _)
 ·rcases List.mem_cons.mp (I.stkSub b z) with e | e
  ·exact (hf b hb).2.1 e
  ·exact (hf b hb).2.2.1 e
 ·have h1'':(Nt++fr.map (·.1))[i]?=some x:=h1'
  have hi:¬i<Nt.length:=fun hi=>by
   unfold sigC at h2
   rw[List.getElem?_append_left (by simpa using hi),List.getElem?_replicate]at h2
   split at h2 <;> cases h2
  unfold sigC at h2
  rw[List.getElem?_append_right (by simpa using hi),List.length_replicate,List.getElem?_map]at h2
  rw[List.getElem?_append_right (by lia),List.getElem?_map]at h1''
  cases e:fr[i-Nt.length]? with
  | none=>rw[e]at h2;cases h2
  | some p=>
   rw[e]at h2 h1''
   have ex:p.1=x:=Option.some.inj h1''
   have ev:(σ[p.2]?).join=some v:=Option.some.inj h2
   obtain⟨hN,hfr⟩:=L.fr p (List.mem_of_getElem? e)
   have es:σ[p.2]?=some (some v):=by
    cases q:σ[p.2]? with
    | none=>rw[q]at ev;cases ev
    | some o=>rw[q]at ev;exact congrArg some ev
   have hkc:=L.free (p.1,.free) (PySem.mem_of_lookup hfr) rfl
   obtain⟨mo,hmo,hloc⟩:=I.loc
   obtain⟨u,ru,lk⟩:=hloc p.2 p.1 v hN es (.inr (.inl hkc))
   refine⟨u,ru,?_⟩
   rcases lk with ⟨kk,_⟩ | ⟨_,c,hc,hcell⟩
   ·rw[hkc]at kk;cases kk
   ·obtain⟨c',hc'⟩:=hcl2 _ (PySem.mem_of_lookup hfr) rfl
    have hcc:=hcl _ _ hc'
    rw[hc]at hcc
    cases hcc
    subst ex
    refine .inr ⟨?_,c,hc',?_⟩
    ·exact rel_free hfr
    ·obtain⟨o,q1,q2⟩:=hcell
     exact⟨o,old _ _ q1,q2⟩
 ·obtain⟨v,q⟩:=I.cell x c (hcl x c e)
  obtain⟨o,q1,q2⟩:=q
  exact⟨v,o,old _ _ q1,q2⟩
 ·have hp':p∈([(D,({ cls:=.type "list",data:=.seq #[] 0 }:Obj))]:List (Addr×Obj)):=hp
  rw[List.mem_singleton]at hp'
  subst hp'
  exact⟨ho,I.hok.fresh hD,hCD,fun z=>absurd (Nat.lt_of_lt_of_le (hstk _ z) hD) (Nat.lt_irrefl _),fun v z=>by cases z⟩
 ·unfold sigC
  show _=(Nt++fr.map (·.1)).length
  simp
structure LcEnd (X:Cx) (fp:List Addr) (H1:Hp) (s2:Shared) (fin:List V->Hp->Prop) (D C:Addr) (s':Shared) (ys:List V) (its:List Value) (n:Nat) (H':Hp) (m':Str->Option Value):Prop where
 ns:s'.heap.Ns C m'
 fc:H' C=none
 fd:H' D=none
 gc:s2.heap.objs.size<=C
 gd:s2.heap.objs.size<=D
 cd:D≠C
 un:Un (frs X.stack) fp H1 H' s2.heap s'.heap
 ok:HOk X.prog X.w H' s'.heap
 os:s'.os=s2.os
 bare:AllBare s'.gens
 obj:s'.heap.get? D=some { cls:=.type "list",data:=.seq its.toArray n }
 vals:Vals ys its
 size:ys.length<=sizeLine
 fin:fin ys H'
theorem lc_close {pins:List (Addr×Obj)} {σ:St} {fp:List Addr}{H1 H':Hp}{s2 s':Shared}{fin:List V->Hp->Prop}{D C:Addr}{ys:List V}{its:List Value}{n:Nat}{m':Str->Option Value}{h':Heap}
  (I:Inv X pins σ H1 s2) (hf:∀ b∈fp,FpOk X pins H1 b) (e:LcEnd X fp H1 s2 fin D C s' ys its n H' m') (sb:Heap.SameBut C s'.heap h'):Inv X pins σ (upd H' D (.lst ys)) { s' with heap:=h' }:=by
 have old:∀ b o,s2.heap.get? b=some o->b≠C/\b≠D:=fun b o q=>⟨Nat.ne_of_lt (Nat.lt_of_lt_of_le (Heap.lt_size q) e.gc),Nat.ne_of_lt (Nat.lt_of_lt_of_le (Heap.lt_size q) e.gd)⟩
 have at':∀ b,b≠C->h'.get? b=s'.heap.get? b:=fun b hb=>sb.2 b hb
 refine I.call' (s':={ s' with heap:=h' }) (ch:=fp) e.os ?_ ?_ e.bare fun b hb=>⟨(hf b hb).2.2.2.1,(hf b hb).2.1,(hf b hb).2.2.2.2.1,(hf b hb).2.2.2.2.2⟩
 ·have u:=e.un
  refine⟨fun b o q n hb hx=>?_,fun b o q n hb hx=>?_,fun b o q n hx=>?_,fun b o q hx=>?_,fun b xs q=>?_,fun b o v q=>?_,fun b ps q=>?_⟩
  ·exact (at' b (old b o q).1).trans (u.keep b o q n hb hx)
  ·obtain⟨sl,z⟩:=u.slot b o q n hb hx
   exact⟨sl,(at' b (old b o q).1).trans z⟩
  ·rw[upd_ne (old b o q).2]
   exact u.free b o q n hx
  ·obtain⟨o',z⟩:=u.there b o q hx
   exact⟨o',(at' b (old b o q).1).trans z⟩
  ·have z:=u.tups b xs q
   rw[upd_ne (ne_of_none z e.fd)]
   exact z
  ·have z:=u.frzs b o v q
   rw[upd_ne (ne_of_none z e.fd)]
   exact z
  ·obtain⟨more,z⟩:=u.tbls b ps q
   refine⟨more,?_⟩
   rw[upd_ne (ne_of_none z e.fd)]
   exact z
 ·intro b o q
  by_cases hb:b=D
  ·subst hb
   rw[upd_same]at q
   cases q
   exact⟨e.size,its,n,e.vals,(at' _ e.cd).trans e.obj⟩
  ·rw[upd_ne hb]at q
   refine (e.ok b o q).stay (fun c v hc z=>?_) (fun c z=>?_) fun c xs z=>?_
   ·have hcC:c≠C:=by
     rcases hc with rfl | hc
     ·exact ne_of_none q e.fc
     ·exact ne_of_none hc e.fc
    exact (at' c hcC).trans z
   ·rw[upd_ne (ne_of_none z e.fd)]
    exact z
   ·rw[upd_ne (ne_of_none z e.fd)]
    exact z
theorem lc_block {pins:List (Addr×Obj)} {σ:St} {H1:Hp}{s2:Shared}{cl:List (Str×Addr)}{fp:List Addr}{it:Addr}{tn:Nat->Heap->Prop}{J:It}{W:Nat->Nat->List V->Hp->Prop}{fin:List V->Hp->Prop}{E:Value->Shared->Prop}{RR:Value->Addr->Result->Shared->Prop}{m0:Nat}
  (L:LcOk X scope Nt fr) (hcalm:X.calm=true) (I:Inv X pins σ H1 s2) (hcl:∀ x c,cl.lookup x=some c->X.env.cells.lookup x=some c) (hcl2:∀ y∈scope.names,y.2=.free->∃ c,cl.lookup y.1=some c)
  (T:Turn X.prog X.w X.K tg J fp it tn) (st0:tn 0 s2.heap) (hf:∀ b∈fp,FpOk X pins H1 b)
  (hg:∀ z,PG (cxC X scope (Nt++fr.map (·.1)) z) tg (g z)) (hgt:∀ z,Tgt Nt.length (g z)) (hc:∀ z,PIfs (cxC X scope (Nt++fr.map (·.1)) z) ifs (tc z)) (he:∀ z,PE (cxC X scope (Nt++fr.map (·.1)) z) elt (te z))
  (w0:W 0 m0 [] H1) (step:lcStep J Nt.length fr g tc te σ W fin)
  (hRR:∀ D C s' ys its n H' m',LcEnd X fp H1 s2 fin D C s' ys its n H' m'->RR (.ref D) C (.ok .next) s') :
  wpAny (model X.prog X.w) X.A (newList []) (fun acc s3=>wpAny (model X.prog X.w) X.A (newFunctionEnv scope X.env.globals cl [] X.env.qual none .none (some X.env)) (fun cenv s4=>
   codeAny (model X.prog X.w) X.A (.compStart (.ListComp elt [⟨tg,iter,ifs,0⟩] scope pos) 0 (.ref it) acc { cenv with scope:=relabel scope X.env }) (RR acc cenv.locals) s4) E s3) E s2:=by
 refine wpAny_newObj_type (wpAny_newFunctionEnv L.cell (by intro y hy;simp at hy) (fun h1 hns hsb=>?_) L.kind)
 dsimp only at hns hsb ⊢
 generalize hH2:s2.heap.push { cls:=.type "list",dict:=none,data:=.seq ([]:List Value).toArray }=G at hns hsb ⊢
 have hC:G.objs.size=s2.heap.objs.size+1:=by rw[<- hH2,Heap.size_push]
 have hlt:∀ b∈fp,b<s2.heap.objs.size:=fun b hb=>by
  obtain⟨o,q,_⟩:=T.obj 0 _ st0 b hb
  exact Heap.lt_size q
 have old:∀ b o,s2.heap.get? b=some o->h1.get? b=some o:=fun b o q=>
  hsb.extBut b o (by rw[hC];exact Nat.ne_of_lt (Nat.lt_succ_of_lt (Heap.lt_size q))) (Heap.get?_push_of_some _ (hH2 ▸ Heap.get?_push_of_some _ q))
 have hDC:s2.heap.objs.size≠G.objs.size:=by rw[hC];exact Nat.ne_of_lt (Nat.lt_succ_self _)
 have hacc:h1.get? s2.heap.objs.size=some { cls:=.type "list",data:=.seq #[] 0 }:=hsb.extBut _ _ hDC (Heap.get?_push_of_some _ (hH2 ▸ Heap.get?_push_size _ rfl))
 have hgC:s2.heap.objs.size<=G.objs.size:=by rw[hC];exact Nat.le_succ _
 have I0:=lc_start (t1:=s2.toks+([]:List (Str×Value)).length) (C:=G.objs.size) (D:=s2.heap.objs.size) L I hcl hcl2 hf hlt hgC (Nat.le_refl _) hDC old hns hacc
 have st1:tn 0 h1:=T.keep 0 _ _ st0 fun b _ o q=>old b o q
 generalize hX:cxC X scope (Nt++fr.map (·.1)) ⟨cl,G.objs.size,fp,s2,H1⟩=X' at I0
 have hcd:∀ x c,cl.lookup x=some c->c<s2.heap.objs.size:=fun x c e=>by
  obtain⟨v,q⟩:=I.cell x c (hcl x c e)
  exact q.lt
 have hfr:∀ b∈fp,b ∉ frs X.stack:=fun b hb z=>by
  rcases List.mem_cons.mp (I.stkSub b z) with e | e
  ·exact (hf b hb).2.1 e
  ·exact (hf b hb).2.2.1 e
 have stat:∀ {H':Hp}{ob:Obj},(∀ b∈fp,H' b=none)->∀ b∈fp,FpOk X' [(s2.heap.objs.size,ob)] H' b:=fun {H' ob} hn b hb=>by
  subst hX
  refine⟨hn b hb,Nat.ne_of_lt (Nat.lt_of_lt_of_le (hlt b hb) hgC),hfr b hb,.inl hb,fun x c e=>(hf b hb).2.2.2.2.1 x c (hcl x c e),fun p hp=>?_⟩
  have hp':p∈([(s2.heap.objs.size,ob)]:List (Addr×Obj)):=hp
  rw[List.mem_singleton]at hp'
  subst hp'
  exact Nat.ne_of_gt (hlt b hb)
 have eP:X'.prog=X.prog:=by subst hX;rfl
 have eW:X'.w=X.w:=by subst hX;rfl
 have eK:X'.K=X.K:=by subst hX;rfl
 have eC:X'.calm=true:=by subst hX;exact hcalm
 have hg':PG X' tg (g ⟨cl,G.objs.size,fp,s2,H1⟩):=by subst hX;exact hg _
 have hc':PIfs X' ifs (tc ⟨cl,G.objs.size,fp,s2,H1⟩):=by subst hX;exact hc _
 have he':PE X' elt (te ⟨cl,G.objs.size,fp,s2,H1⟩):=by subst hX;exact he _
 -- what is known of the list that grows
 have grow:∀ {pl:List (Addr×Obj)} {σ':St} {H':Hp}{s':Shared}{ob ob':Obj}{h':Heap},Inv X' pl σ' H' s'->H' s2.heap.objs.size=none->(sigC Nt.length fr σ).length=σ'.length->σ'.drop Nt.length=(sigC Nt.length fr σ).drop Nt.length ->
   Heap.SameBut s2.heap.objs.size s'.heap h'->h'.get? s2.heap.objs.size=some ob'->(∀ v,ob'.data≠.cell v)->Inv X' [(s2.heap.objs.size,ob')] (sigC Nt.length fr σ) H' { s' with heap:=h' }:=fun {pl σ' H' s' ob ob' h'} I' hn hl hd sb ho' hv=>by
  have I1:Inv X' [] σ' H' s':=I'.pins_of fun p hp=>(nomatch hp)
  have g1:s2.heap.objs.size≠X'.env.locals:=by subst hX;exact hDC
  have g2:X'.s₀.heap.objs.size<=s2.heap.objs.size:=by subst hX;exact Nat.le_refl _
  have g3:∀ x c,X'.env.cells.lookup x=some c->c≠s2.heap.objs.size:=by subst hX;exact fun x c e=>Nat.ne_of_lt (hcd x c e)
  have g4:∀ p∈X'.pn++([]:List (Addr×Obj)),p.1≠s2.heap.objs.size:=by subst hX;exact fun p hp=>(nomatch (show p∈([]:List (Addr×Obj)) from hp))
  have g5:s2.heap.objs.size ∉ X'.fs:=by
   subst hX
   intro z
   rcases List.mem_cons.mp (I.stkSub _ z) with e | e
   ·exact absurd (e ▸ I.lt) (Nat.lt_irrefl _)
   ·exact I.nofs (Nat.le_refl _) e
  have I2:Inv X' [] σ' H' { s' with heap:=h' }:=I1.turned (t':=s'.toks) (it:=s2.heap.objs.size) (fun b o hb q=>(sb.2 b hb).trans q) hn g1 (.inr g2) g3 g4
  have I3:Inv X' [(s2.heap.objs.size,ob')] σ' H' { s' with heap:=h' }:=I2.pins_of fun p hp=>by
   rw[List.mem_singleton]at hp
   subst hp
   exact⟨ho',hn,g1,g5,hv⟩
  refine I3.weak hl fun i v q=>?_
  have hi:¬i<Nt.length:=fun hi=>by
   unfold sigC at q
   rw[List.getElem?_append_left (by simpa using hi),List.getElem?_replicate]at q
   split at q <;> cases q
  have z:∀ l:St,l[i]?=(l.drop Nt.length)[i-Nt.length]?:=fun l=>by
   rw[List.getElem?_drop]
   congr 1
   lia
  rw[z,hd,<- z]
  exact q
 have loop:∀ s3:Shared,s3={ s2 with heap:=h1,toks:=s2.toks+([]:List (Str×Value)).length } ->
   codeAny (model X.prog X.w) X.A (.compLoop (.ListComp elt [⟨tg,iter,ifs,0⟩] scope pos) 0 (.ref it) (.ref s2.heap.objs.size) (compEnvC scope cl G.objs.size X.env)) (RR (.ref s2.heap.objs.size) G.objs.size) s3:=by
  rintro s3 rfl
  refine comp_loop (P:=fun s'=>∃ ys its n H' m',LcEnd X fp H1 s2 fin s2.heap.objs.size G.objs.size s' ys its n H' m') (fun s' ⟨ys,its,n,H',m',q⟩=>hRR _ _ s' ys its n H' m' q)
   (fun n s'=>∃ i ys its c H',Inv X' [(s2.heap.objs.size,{ cls:=.type "list",data:=.seq (its:List Value).toArray c })] (sigC Nt.length fr σ) H' s'/\Vals ys its/\tn i s'.heap/\(∀ b∈fp,H' b=none)/\W i n ys H')
   ?_ m0 ⟨0,[],[],0,H1,I0,.nil,st1,fun b hb=>(hf b hb).1,w0⟩
  rintro n s' ⟨i,ys,its,c,H',I',rv,st,fr0,w⟩
  obtain⟨hz,hstep⟩:=step i n ys H' w
  have nD:∀ {pl:List (Addr×Obj)} {σ':St} {H'':Hp}{s'':Shared}{ob:Obj},Inv X' ((s2.heap.objs.size,ob)::pl) σ' H'' s''->s''.heap.get? s2.heap.objs.size=some ob/\H'' s2.heap.objs.size=none:=fun {pl σ' H'' s'' ob} I''=>by
   have q:=I''.pin (s2.heap.objs.size,ob) (List.mem_append_right _ List.mem_cons_self)
   exact⟨q.1,q.2.1⟩
  rcases hstep with ⟨stop,fn⟩ | ⟨go,hgo⟩
  ·have A1:=T.done X' eP eW eK eC i _ s' _ H' (fun _ _=>False) I' (stat fr0) st stop
   have hA:X'.A=X.A:=by subst hX;rfl
   rw[hA]at A1
   refine thn A1 fun r s1 ⟨hr,I1⟩=>?_
   subst hr
   obtain⟨q1,q2⟩:=nD I1
   have hL:X'.env.locals=G.objs.size:=by subst hX;rfl
   obtain⟨m',hm',_⟩:=I1.loc
   have un:Un (frs X.stack) fp H1 H' s2.heap s1.heap:=by subst hX;exact I1.base
   have os:s1.os=s2.os:=by subst hX;exact I1.os
   exact⟨ys,its,c,H',m',⟨hL ▸ hm',hL ▸ I1.free,q2,hgC,Nat.le_refl _,hDC,un,eP ▸ eW ▸ I1.hok,os,I1.bare,q1,rv,Nat.le_of_lt hz,fn⟩⟩
  ·have hA:X'.A=X.A:=by subst hX;rfl
   have hE:X'.env=compEnvC scope cl G.objs.size X.env:=by subst hX;rfl
   have hxe:X'.xe=fun _ _=>False:=by subst hX;rfl
   have A1:=T.item X' eP eW eK eC i _ s' _ H' (fun _ _=>False) I' (stat fr0) st go
   rw[hA]at A1
   refine thn A1 fun r s1 ⟨u,hr,h4⟩=>?_
   subst hr
   refine thn h4 fun _ s5 ⟨x,H5,I5,r5,y5,st5,fr5⟩=>?_
   have I5':=I5.pinned (stat fr5) (T.obj _ _ st5)
   have q5:=hgt _ x _ H5 _ (hgo ⟨cl,G.objs.size,fp,s2,H1⟩ x H5 y5)
   have A2:=hg' _ s5 _ H5 x u _ I5' r5 q5
   rw[eP,eW,hA,hE,hxe]at A2
   refine thn A2 fun _ s6 ⟨σ6,H6,I6,q6,l6,d6⟩=>?_
   have A3:=hc' _ s6 σ6 H6 _ I6 q6
   rw[eP,eW,hA,hE,hxe]at A3
   refine thn A3 fun ok s7 ⟨H7,I7,q7⟩=>?_
   have back:∀ {σ8:St} {H8:Hp}{s8 s9:Shared},Inv X' ([(s2.heap.objs.size,{ cls:=.type "list",data:=.seq its.toArray c })]++pinsAt fp s5.heap) σ8 H8 s8->(∀ b,b≠s2.heap.objs.size->s9.heap.get? b=s8.heap.get? b)->tn (i+1) s9.heap/\∀ b∈fp,H8 b=none:=fun {σ8 H8 s8 s9} I8 h9=>by
    refine⟨T.keep _ _ _ st5 fun b hb o q=>?_,fun b hb=>?_⟩
    ·rw[h9 b (Nat.ne_of_lt (hlt b hb))]
     exact (I8.pin (b,o) (List.mem_append_right _ (List.mem_append_right _ (mem_pinsAt hb q)))).1
    ·obtain⟨o,q,_⟩:=T.obj _ _ st5 b hb
     exact (I8.pin (b,o) (List.mem_append_right _ (List.mem_append_right _ (mem_pinsAt hb q)))).2.1
   cases ok with
   | false=>
    rw[if_neg Bool.false_ne_true]at q7 ⊢
    obtain⟨m',hm',w'⟩:=q7
    obtain⟨e1,e2⟩:=nD I7
    obtain⟨b1,b2⟩:=back (s9:=s7) I7 fun _ _=>rfl
    refine⟨m',hm',i+1,ys,its,c,H7,?_,rv,b1,b2,w'⟩
    exact grow (ob:={ cls:=.type "list",data:=.seq its.toArray c }) (h':=s7.heap) I7 e2 l6.symm d6 (.refl ..) e1 (fun v z=>by cases z)
   | true=>
    rw[if_pos rfl]at q7 ⊢
    have A4:=he' _ s7 σ6 H7 _ I7 q7
    rw[eP,eW,hA,hE,hxe]at A4
    refine thn A4 fun v s8 ⟨y,H8,I8,r8,m',hm',w'⟩=>?_
    obtain⟨e1,e2⟩:=nD I8
    refine append_at (hsz:=by rw[List.size_toArray,<- rv.length];exact Nat.le_of_lt hz) e1 fun h9 sb o9=>?_
    obtain⟨b1,b2⟩:=back (s9:={ s8 with heap:=h9 }) I8 fun b hb=>sb.2 b hb
    have ea:its.toArray.push v=(its++[v]).toArray:=by simp
    rw[ea]at o9
    refine⟨m',hm',i+1,ys++[y],its++[v],c+1,H8,?_,rv.append (.cons r8 .nil),b1,b2,w'⟩
    exact grow (ob:={ cls:=.type "list",data:=.seq its.toArray c }) I8 e2 l6.symm d6 sb o9 (fun v z=>by cases z)
 exact codeAny_compStart_list (loop _ rfl) (T.self X.A 0 _ _ _ st1 (loop _ rfl))
theorem pe_lc {wi:TI} (L:LcOk X scope Nt fr) (hcalm:X.calm=true) (hi:PI X tg iter wi) (hg:∀ z,PG (cxC X scope (Nt++fr.map (·.1)) z) tg (g z)) (hgt:∀ z,Tgt Nt.length (g z))
  (hc:∀ z,PIfs (cxC X scope (Nt++fr.map (·.1)) z) ifs (tc z)) (he:∀ z,PE (cxC X scope (Nt++fr.map (·.1)) z) elt (te z)) (hs:∀ x,foldedSetIterable iter X.env x=pure x:=by intro _;rfl) :
  PE X (.ListComp elt [⟨tg,iter,ifs,0⟩] scope pos) (tLC wi Nt.length fr g tc te):=by
 intro pins s σ H Q I h
 obtain⟨cl,e1,e2,e3⟩:=clos_of (scope:=scope) (env:=X.env) fun y hy hf=>I.ok.has _ (.inl (L.free y hy hf))
 rw[eval_ListComp]
 refine wpAny_comprehension_free (use:=none) rfl hs e1 L.kind L.names (thn (hi pins s σ H _ I h) fun v s1 h1=>thn h1 fun itv s2 h2=>?_)
 obtain⟨it,fp,tn,J,H2,e,I2,T,st2,f2,W,⟨m0,w0⟩,step⟩:=h2
 subst e
 refine lc_block (RR:=fun acc C r s'=>compPost (model X.prog X.w) X.A X.xe none (EP X pins σ Q) acc C r s') L hcalm I2 e2 e3 T st2 f2 hg hgt hc he w0 step fun D C s' ys its n H' m' q=>?_
 exact⟨m',q.ns,fun h' sb=>⟨.ref D,_,lc_close I2 f2 q sb,rfl,q.fin D q.fd⟩⟩
def tLCset (wi:TI) (k:Nat) (fr:List (Str×Nat)) (g:ZC->TG) (tc:ZC->TT) (te:ZC->TE) (j:Nat):TS:=fun Ds σ H=>wi σ H fun J H1=>
 ∃ W:Nat->Nat->List V->Hp->Prop,(∃ m,W 0 m [] H1)/\lcStep J k fr g tc te σ W fun ys H2=>∀ p,H2 p=none->Ds.nx (σ.set j (some (.ref p))) (upd H2 p (.lst ys))
theorem ps_lc {wi:TI}{y:Str}{j:Nat}{py spos:Pos} (L:LcOk X scope Nt fr) (hcalm:X.calm=true) (hN:X.N.Nodup) (hj:X.N[j]?=some y) (hy:Loc X.env.scope y) (hi:PI X tg iter wi) (hg:∀ z,PG (cxC X scope (Nt++fr.map (·.1)) z) tg (g z)) (hgt:∀ z,Tgt Nt.length (g z))
  (hc:∀ z,PIfs (cxC X scope (Nt++fr.map (·.1)) z) ifs (tc z)) (he:∀ z,PE (cxC X scope (Nt++fr.map (·.1)) z) elt (te z)) (hs:∀ x,foldedSetIterable iter X.env x=pure x:=by intro _;rfl)
  (hsw:swapsWith (.ListComp elt [⟨tg,iter,ifs,0⟩] scope pos) (some (.Name y py)) spos.line X.env=pure true:=by rfl)
  (hff:X.fn y=true\/X.env.scope.names.lookup y=some .local:=by first | exact .inl rfl | exact .inr rfl | assumption) :
  PS X (.Assign [.Name y py] (.ListComp elt [⟨tg,iter,ifs,0⟩] scope pos) spos) (tLCset wi Nt.length fr g tc te j):=by
 intro pins s σ H Ds I h
 obtain⟨cl,e1,e2,e3⟩:=clos_of (scope:=scope) (env:=X.env) fun y hy hf=>I.ok.has _ (.inl (L.free y hy hf))
 rw[exec_Assign_Name_used _ _ _ _ hsw]
 refine wpAny_bind (wpAny_standAt (wpAny_bind ?_))
 show wpAny _ X.A (do let _ <- comprehension (.ListComp elt [⟨tg,iter,ifs,0⟩] scope pos) scope X.env _ (newList []) false (eval iter X.env) (some (assign (.Name y py) X.env))) _ _ s
 refine wpAny_bind (thn (wpAny_comprehension_free (use:=some (assign (.Name y py) X.env)) (Q:=fun _ s'=>SP X pins Ds .next s') rfl hs e1 L.kind L.names
  (thn (hi pins s σ H _ I h) fun v s1 h1=>thn h1 fun itv s2 h2=>?_)) fun _ s' hq=>wpAny_pure (wpAny_pure hq))
 obtain⟨it,fp,tn,J,H2,e,I2,T,st2,f2,W,⟨m0,w0⟩,step⟩:=h2
 subst e
 refine lc_block (RR:=fun acc C r s'=>compPost (model X.prog X.w) X.A X.xe (some (assign (.Name y py) X.env)) (fun _ s'=>SP X pins Ds .next s') acc C r s') L hcalm I2 e2 e3 T st2 f2 hg hgt hc he w0 step fun D C s' ys its n H' m' q=>?_
 have I3:Inv X pins σ (upd H' D (.lst ys)) s':=lc_close (h':=s'.heap) I2 f2 q (.refl ..)
 obtain⟨oC,es,ep,hoC,hdC,hkC,hmC⟩:=id q.ns
 have hCH:upd H' D (.lst ys) C=none:=by rw[upd_ne (Ne.symm q.cd)];exact q.fc
 have gL:C≠X.env.locals:=Nat.ne_of_gt (Nat.lt_of_lt_of_le I2.lt q.gc)
 have gF:C ∉ X.fs:=I2.nofs q.gc
 have gE:X.s₀.heap.objs.size<=C:=Nat.le_trans I2.sz q.gc
 have gC:∀ x c,X.env.cells.lookup x=some c->c≠C:=fun x c e=>by
  obtain⟨v,z⟩:=I2.cell x c e
  exact Nat.ne_of_lt (Nat.lt_of_lt_of_le z.lt q.gc)
 have gP:∀ p∈X.pn++pins,p.1≠C:=fun p hp=>Nat.ne_of_lt (Nat.lt_of_lt_of_le (Heap.lt_size (I2.pin p hp).1) q.gc)
 have I4:Inv X (pins++[(C,oC)]) σ (upd H' D (.lst ys)) s':=I3.pins_of fun p hp=>by
  rcases List.mem_append.mp hp with z | z
  ·exact I3.pin p (List.mem_append_right _ z)
  ·rw[List.mem_singleton]at z
   subst z
   exact⟨hoC,hCH,gL,gF,fun v z=>by rw[hdC]at z;cases z⟩
 show wpAny _ _ (assign (.Name y py) X.env (.ref D)) _ _ s'
 refine wpAny_assign_Name (store_ok I4 hN hj hy (show RelV (.ref D) (.ref D) from rfl) (fun s'' I5=>?_) hff)
 have z:=I5.pin (C,oC) (List.mem_append_right _ (List.mem_append_right _ (List.mem_singleton.mpr rfl)))
 refine⟨m',⟨oC,es,ep,z.1,hdC,hkC,hmC⟩,fun h'' sb=>⟨σ.set j (some (.ref D)),_,?_,q.fin D q.fd⟩⟩
 have I6:Inv X pins (σ.set j (some (.ref D))) (upd H' D (.lst ys)) s'':=I5.unpinned
 exact I6.turned (t':=s''.toks) (it:=C) (fun b o hb e=>(sb.2 b hb).trans e) hCH gL (.inr gE) gC gP
end
end L2
end
section
namespace L2
open PySem PySem.Spec PyProof.Rows
section
variable {prog:Program}{w:World}{A:Around}{E:Value->Shared->Prop}{s:Shared}
end
section
variable {prog:Program}{w:World}{A:Around}{E:Value->Shared->Prop}{s:Shared}
end
section
variable {X:Cx}
end
end L2
end
section
namespace L2
open PySem PySem.Spec PyProof.Rows
section
variable {prog:Program}{w:World}{A:Around}{E:Value->Shared->Prop}{s:Shared}
theorem getItem_tuple_all {t sl:Addr}{items:Array Value}{vl vu:Value}{lo hi:Option Int}{Q:Value->Shared->Prop} (ht:IsTup s.heap t items) (hs:s.heap.IsSliceOf sl vl vu .none) (pl:IsPart vl lo) (pu:IsPart vu hi)
  (hw:HT.sIx items.size 0 lo=0/\HT.sIx items.size items.size hi=items.size) (h:Q (.ref t) s):wpAny (model prog w) A (getItem (.ref t) (.ref sl)) Q E s:=by
 obtain⟨os,hos,hcs,hds⟩:=id hs
 have hTs:s.TypeIs (.ref sl) "slice":=⟨os,hos,hcs⟩
 unfold getItem
 try with_reducible refine wpAny_holding ?_
 first | refine wpAny_bind (wpAny_pure ?_) | skip
 refine wpAny_bind (wpAny_sequenceKey ht.typeIs (by decide) ?_)
 refine wpAny_bind (wpAny_callSpecial?_slot (name:=Str.ofString "__getitem__") ht.typeIs PyProof.Rows.slot_tuple_getitem
  (wpAny_call_entry PyProof.Rows.slot_tuple_getitem ht.typeIs entry_tuple_getitem ?_ (args_tuple_getitem _ _)))
 show wpAny _ _ (Builtin.Tuple.tupleItemsOf (.ref t) >>= _) _ _ s
 refine wpAny_bind (tupleItemsOf_ ht ?_)
 refine wpAny_bind (wpAny_typeOf hTs ?_)
 rw[if_pos (by decide)]
 refine wpAny_bind (HT.sliceApplied_gen hs pl pu ?_)
 have yes:(((HT.sIx items.size 0 lo:Nat):Int) == 0 && (1:Int) == 1 && (HT.sIx items.size items.size hi-HT.sIx items.size 0 lo) == items.size)=true:=by
  rw[hw.1,hw.2];simp
 show wpAny _ _ (if (((HT.sIx items.size 0 lo:Nat):Int) == 0 && (1:Int) == 1 && (HT.sIx items.size items.size hi-HT.sIx items.size 0 lo) == items.size)=true then _ else _) _ _ s
 rw[if_pos yes]
 obtain⟨o,ho,hc,n,hd⟩:=id ht
 have ex:wpAny (model prog w) A.in1 (Builtin.Tuple.tupleIsExact (.ref t)) (fun b s'=>b=true/\s'=s) E s:=by
  unfold Builtin.Tuple.tupleIsExact
  first
   | exact wpAny_bind (wpAny_typeOf ⟨o,ho,hc⟩ (wpAny_pure ⟨by rfl,rfl⟩))
   | exact wpAny_bind (wpAny_load ho (wpAny_pure ⟨by rw[hc];rfl,rfl⟩))
 refine wpAny_bind (thn ex fun b s' hb=>?_)
 obtain⟨rfl,rfl⟩:=hb
 rw[if_pos rfl]
 exact wpAny_bind (wpAny_rule (wpAny_pure ⟨_,rfl,wpAny_pure h⟩))
end
section
variable {X:Cx}
def rSlW (K:PySem.W.Frag):V->Option Int->Option Int->Hp->VK->Prop:=fun x lo hi H Q=>∃ a xs,x=.ref a/\SqT K H a xs/\HT.sIx xs.length 0 lo=0/\HT.sIx xs.length xs.length hi=xs.length/\Q (.ref a) H
theorem sl_tupW:SlR X (rSlW X.K):=by
 intro pins s σ H x v vl vu lo hi sl Q I rx hs pl pu h
 obtain⟨a,xs,rfl,hx,h1,h2,q⟩:=h
 cases rx
 obtain⟨its,r,ht,hz⟩:=I.tuple hx
 have hlen:its.toArray.size=xs.length:=by rw[List.size_toArray];exact r.length.symm
 refine⟨"tuple",_,PyProof.Rows.slot_tuple_getitem.lookup,ht.typeIs,?_⟩
 exact getItem_tuple_all ht hs pl pu (by rw[hlen];exact⟨h1,h2⟩) ⟨.ref a,H,I,rfl,q⟩
def rSlS:V->Option Int->Option Int->Hp->VK->Prop:=fun x lo hi H Q=>∃ z,x=.str z/\z.length<=sizeLine/\Q (.str (Txt.slice z lo hi)) H
theorem sl_str:SlR X rSlS:=by
 intro pins s σ H x v vl vu lo hi sl Q I rx hs pl pu h
 obtain⟨z,rfl,hz,q⟩:=h
 obtain⟨t,rfl⟩:=rx
 obtain⟨os,hos,hcs,hds⟩:=id hs
 refine⟨"str",_,F.slot_str_getitem.lookup,typeIs_str _ _ _,?_⟩
 have fin:∀ (t':Tok) (k:Nat),EP X pins σ Q (.str (Txt.slice z lo hi) t') { s with toks:=k }:=fun t' k=>⟨.str _,H,I.tok _,⟨_,rfl⟩,q⟩
 cases pl with
 | none=>
  cases pu with
  | none=>exact wpAny_getItem_str_slice (l:=none) (u:=none) (st:=none) ⟨os,hos,hcs,hds⟩ rfl (post_val_or_str ⟨Nat.le_trans (Txt.slice_le z _ _) hz,fin⟩)
  | int j uj=>exact wpAny_getItem_str_slice (l:=none) (u:=some (j,uj)) (st:=none) ⟨os,hos,hcs,hds⟩ rfl (post_val_or_str ⟨Nat.le_trans (Txt.slice_le z _ _) hz,fin⟩)
 | int i ui=>
  cases pu with
  | none=>exact wpAny_getItem_str_slice (l:=some (i,ui)) (u:=none) (st:=none) ⟨os,hos,hcs,hds⟩ rfl (post_val_or_str ⟨Nat.le_trans (Txt.slice_le z _ _) hz,fin⟩)
  | int j uj=>exact wpAny_getItem_str_slice (l:=some (i,ui)) (u:=some (j,uj)) (st:=none) ⟨os,hos,hcs,hds⟩ rfl (post_val_or_str ⟨Nat.le_trans (Txt.slice_le z _ _) hz,fin⟩)
theorem sl_U:SlR X (fun x lo hi H Q=>rSlL X.K x lo hi H Q\/(rSlT X.K x lo hi H Q\/(rSlW X.K x lo hi H Q\/rSlS x lo hi H Q))):=sl_list.or (sl_tup.or (sl_tupW.or sl_str))
end
structure Df (K:PySem.W.Frag) (mg:Str->Option Value) (x:Str) (st:Stmt) (f:Addr) (fd:FuncData) (ps:List Str):Prop where
 fn:Fun K x x st f fd
 b:Binds K fd ps []
 mg:mg x=some (.ref f)
theorem Df.kp {K:PySem.W.Frag}{mg:Str->Option Value}{x:Str}{st:Stmt}{f:Addr}{fd:FuncData}{ps:List Str} (D:Df K mg x st f fd ps):PySem.W.keepIn K (.ref f)=true:=D.fn.kp
end L2
namespace L2
open PySem
theorem bt_len:bootBuiltins "len"=some (.builtin "len"):=by decide +kernel
theorem bt_isinstance:bootBuiltins "isinstance"=some (.builtin "isinstance"):=by decide +kernel
theorem bt_sorted:bootBuiltins "sorted"=some (.builtin "sorted"):=by decide +kernel
theorem bt_int:bootBuiltins "int"=some (.type "int"):=by decide +kernel
theorem bt_tuple:bootBuiltins "tuple"=some (.type "tuple"):=by decide +kernel
theorem bt_bool:bootBuiltins "bool"=some (.type "bool"):=by decide +kernel
end L2
end
section
namespace L2
open PySem
def lcChk (sc:Scope) (N:List Str) (scope:Scope) (fr:List (Str×Nat)):Bool:=
 (scope.kind == .function) && scope.names.all (fun y=>decide (y.2≠.cell)) && scope.names.all (fun y=>decide (y.2=.local->scope.names.lookup y.1=some .local)) &&
  scope.names.all (fun y=>decide (y.2=.free->sc.names.lookup y.1=some .cell)) && fr.all (fun p=>decide (N[p.2]?=some p.1) && decide (scope.names.lookup p.1=some .free))
theorem LcOk.of {X:Cx}{sc:Scope}{N:List Str}{scope:Scope}{Nt:List Str}{fr:List (Str×Nat)} (h1:X.env.scope=sc) (h2:X.N=N) (h:lcChk sc N scope fr=true):LcOk X scope Nt fr:=by
 unfold lcChk at h
 simp only[Bool.and_eq_true,List.all_eq_true,decide_eq_true_eq]at h
 obtain⟨⟨⟨⟨a1,a2⟩,a3⟩,a4⟩,a5⟩:=h
 refine⟨eq_of_beq a1,a2,a3,fun y hy hf=>?_,fun p hp=>?_⟩
 ·show X.env.scope.names.lookup y.1=some .cell
  rw[h1];exact a4 y hy hf
 ·rw[h2];exact a5 p hp
end L2
end
section
namespace L2
open PySem PySem.Spec PyProof.Rows
def notStar:Expr->Bool
 | .Starred _ _=>false
 | _=>true
def noStars:List Expr->Bool
 | []=>true
 | e::es=>notStar e && noStars es
theorem star_cons {env:Env}{e:Expr}{es:List Expr} (h:notStar e=true):starEach (e::es) env=(false,eval e env)::starEach es env:=by
 cases e <;> first | rfl | exact absurd h Bool.false_ne_true
theorem stars_any {env:Env}{pos:Pos}:∀ {es:List Expr},noStars es=true->(backTo pos (starEach es env)).any (·.1)=false
 | [],_=>rfl
 | e::es,h=>by
  have h':(notStar e && noStars es)=true:=h
  rw[Bool.and_eq_true]at h'
  rw[star_cons h'.1]
  show (false || (backTo pos (starEach es env)).any (·.1))=false
  rw[stars_any h'.2];rfl
section
variable {X:Cx}
theorem qa_cons {e:Expr}{es:List Expr}{te:TE}{t:TA} (ha:PE X e te) (hr:PA X es t) (hs:notStar e=true:=by rfl):PA X (e::es) (tCons te t):=pa_cons ha hr (star_cons hs)
def constV:Expr->Option V
 | .Constant (.int i) _ _=>some (.int i)
 | .Constant (.str x) _ _=>some (.str x)
 | .Constant (.bool b) _ _=>some (.bl b)
 | _=>none
def constVs:List Expr->Option (List V)
 | []=>some []
 | e::es=>match constV e,constVs es with
  | some v,some vs=>some (v::vs)
  | _,_=>none
theorem pe_const {e:Expr}{v:V} (h:constV e=some v):PE X e (tC v):=by
 unfold constV at h
 split at h
 ·cases h;exact pe_int
 ·cases h;exact pe_str
 ·cases h;exact pe_bl
 ·cases h
theorem constV_ns {e:Expr}{v:V} (h:constV e=some v):notStar e=true:=by
 cases e <;> first | rfl | (unfold constV at h;cases h)
def tVs (vs:List V):TA:=fun _ H Q=>Q vs H
theorem pa_consts:∀ {es:List Expr}{vs:List V},constVs es=some vs->PA X es (tVs vs)
 | [],vs,h=>by cases h;exact pa_nil
 | e::es,vs,h=>by
  unfold constVs at h
  cases h1:constV e with
  | none=>rw[h1]at h;cases h
  | some v=>
   cases h2:constVs es with
   | none=>rw[h1,h2]at h;cases h
   | some us=>
    rw[h1,h2]at h
    cases h
    exact pa_cons (pe_const h1) (pa_consts h2) (star_cons (constV_ns h1))
theorem qe_call {CX:CXT}{k:Nat}{f:Addr}{fd:FuncData}{ps:List Str}{sp:Sp}{dvs:List V}{ds:List Value}{E:XK}{x:Str}{p pos:Pos}{e:Expr}{es:List Expr}{t:TA}
  (F:FnOk X.prog X.w X.K X.mg X.base CX k f fd ps sp) (hr:Room k X.A) (hg:Gl X x) (hm:X.mg x=some (.ref f)) (hk:PySem.W.keepIn X.K (.ref f)=true) (hb:Binds X.K fd ps ds) (hd:Vals dvs ds) (hx:Passes CX X E)
  (ha:PA X (e::es) t) (hs:noStars (e::es)=true:=by rfl) (hdb:(x == ("__debug__" : Str))=false:=by decide):PE X (.Call (.Name x p) (e::es) [] pos) (tCall sp dvs E t):=by
 have h':(notStar e && noStars es)=true:=hs
 rw[Bool.and_eq_true]at h'
 exact pe_call F hr hg hm hk hb hd hx ha hdb (star_cons h'.1) (stars_any h'.2)
theorem qe_callB {x:Str}{p pos:Pos}{e:Expr}{es:List Expr}{t:TA}{id:String}{r:List V->Hp->VK->Prop} (hc:CallR X (.builtin id) r) (hg:Gl X x) (hm:X.mg x=none) (hv:bootBuiltins x=some (.builtin id)) (ha:PA X (e::es) t)
  (hs:noStars (e::es)=true:=by rfl) (hn:x≠"__name__":=by decide) (hdb:(x == ("__debug__" : Str))=false:=by decide):PE X (.Call (.Name x p) (e::es) [] pos) (tCB r t):=by
 have h':(notStar e && noStars es)=true:=hs
 rw[Bool.and_eq_true]at h'
 exact pe_callB hc hg hm hv ha hn hdb (star_cons h'.1) (stars_any h'.2)
theorem qe_callTy {x:Str}{p pos:Pos}{e:Expr}{es:List Expr}{t:TA}{T:String}{r:List V->Hp->VK->Prop} (hc:CallR X (.type T) r) (hg:Gl X x) (hm:X.mg x=none) (hv:bootBuiltins x=some (.type T)) (ha:PA X (e::es) t)
  (hs:noStars (e::es)=true:=by rfl) (hn:x≠"__name__":=by decide) (hdb:(x == ("__debug__" : Str))=false:=by decide):PE X (.Call (.Name x p) (e::es) [] pos) (tCB r t):=by
 have h':(notStar e && noStars es)=true:=hs
 rw[Bool.and_eq_true]at h'
 exact pe_callTy hc hg hm hv ha hn hdb (star_cons h'.1) (stars_any h'.2)
theorem qi_range1 {tg a:Expr}{ta:TA}{p pos:Pos} (hg:Gl X "range") (hm:X.mg "range"=none) (ha:PA X [a] ta) (hs:notStar a=true:=by rfl):PI X tg (.Call (.Name "range" p) [a] [] pos) (iRng1 ta):=
 pi_range1 hg hm ha (by rw[star_cons hs];rfl)
end
end L2
end
section
namespace L2
open PySem PySem.Spec PyProof.Rows
theorem relv_ref (a:Addr):RelV (.ref a) (.ref a):=rfl
theorem relv_ty (n:String):RelV (.ty n) (.type n):=rfl
structure Hd (p:Prop):Prop where
 out:p
section
variable {X:Cx}{pos:Pos}{a b c e o:Expr}{es:List Expr}{ta tb tc te to:TE}{t u:TS}{tt tu:TT}{tA:TA}{st:Stmt}{rest:List Stmt}
theorem wv (i:Nat) {x:Str} (hN:X.N[i]?=some x:=by rfl) (hv:Vis X.env.scope x:=by first | exact Or.inl rfl | exact Or.inr (Or.inl rfl) | exact Or.inr (Or.inr rfl)) (hd:(x == ("__debug__" : Str))=false:=by decide)
  (hcd:(x == ("__classdict__" : Str))=false:=by decide):Hd (PE X (.Name x pos) (tVar i)):=⟨pe_var hN hv hd hcd⟩
theorem we_int {i j pos}:Hd (PE X (.Constant (.int i) j pos) (tC (.int i))):=⟨pe_int⟩
theorem we_str {x j pos}:Hd (PE X (.Constant (.str x) j pos) (tC (.str x))):=⟨pe_str⟩
theorem we_bl {x j pos}:Hd (PE X (.Constant (.bool x) j pos) (tC (.bl x))):=⟨pe_bl⟩
theorem we_glob {x:Str}{v:V}{y:Value} (hg:Gl X x) (hm:X.mg x=some y) (r:RelV v y) (hd:(x == ("__debug__" : Str))=false:=by decide):Hd (PE X (.Name x pos) (tC v)):=⟨pe_glob hg hm r hd⟩
theorem we_bltn {x:Str}{v:V}{y:Value} (hg:Gl X x) (hm:X.mg x=none) (hv:bootBuiltins x=some y) (r:RelV v y) (hn:x≠"__name__":=by decide) (hd:(x == ("__debug__" : Str))=false:=by decide):Hd (PE X (.Name x pos) (tC v)):=⟨pe_bltn hg hm hv r hn hd⟩
theorem we_op {op:Operator}{r:R2} (ho:OpR X (binaryOp op) r) (ha:Hd (PE X a ta)) (hb:Hd (PE X b tb)):Hd (PE X (.BinOp a op b pos) (tOp r ta tb)):=⟨pe_op ho ha.out hb.out⟩
theorem we_un {op:UnaryOp}{r:V->Hp->VK->Prop} (ho:UnR X (unaryOp op) r) (ha:Hd (PE X a ta)):Hd (PE X (.UnaryOp op a pos) (tUn r ta)):=⟨pe_un ho ha.out⟩
theorem we_not (ha:Hd (PE X a ta)):Hd (PE X (.UnaryOp .Not a pos) (tNotV ta)):=⟨pe_not ha.out⟩
theorem we_cmpR {op:CmpOp}{r:R2} (ho:OpR X (compareOp op) r) (ha:Hd (PE X a ta)) (hb:Hd (PE X b tb)) (hm:behindInMarks op b=false):Hd (PE X (.Compare a [op] [b] pos) (tOp r ta tb)):=⟨pe_cmpR ho ha.out hb.out hm⟩
theorem we_one {op} (h:Hd (PE X a ta)):Hd (PE X (.BoolOp op [a] pos) ta):=⟨pe_one h.out⟩
theorem we_and {more:List Expr} (ha:Hd (PE X a ta)) (hb:Hd (PE X (.BoolOp .And (b::more) pos) tb)):Hd (PE X (.BoolOp .And (a::b::more) pos) (tAndV ta tb)):=⟨pe_and ha.out hb.out⟩
theorem we_ifExp (hc:Hd (PT X c tt)) (ha:Hd (PE X a ta)) (hb:Hd (PE X b tb)):Hd (PE X (.IfExp c a b pos) (tIf tt ta tb)):=⟨pe_ifExp hc.out ha.out hb.out⟩
theorem we_lst (h:Hd (PA X es tA)):Hd (PE X (.List es pos) (tLst tA)):=⟨pe_lst h.out⟩
theorem we_tup {x1} (h:Hd (PA X es tA)):Hd (PE X (.Tuple es x1 pos) (tTup tA)):=⟨pe_tup h.out⟩
theorem we_dnewK:Hd (PE X (.Dict [] [] pos) tDNewK):=⟨pe_dnewK⟩
theorem wps_nil:Hd (PPs X pos [] [] []):=⟨pps_nil⟩
theorem wps_cons {k v:Expr}{ks:List (Option Expr)}{vs:List Expr}{tk tv:TE}{trs:List (TE×TE)} (hk:Hd (PE X k tk)) (hv:Hd (PE X v tv)) (hr:Hd (PPs X pos ks vs trs)):Hd (PPs X pos (some k::ks) (v::vs) ((tk,tv)::trs)):=⟨pps_cons hk.out hv.out hr.out⟩
theorem we_disp {keys:List (Option Expr)}{values:List Expr}{trs:List (TE×TE)} (h:Hd (PPs X pos keys values trs)) (hall:keys.all (·.isSome)=true) (hl:keys.length=values.length) (h0:keys≠[]) (h15:keys.length<=15) :
  Hd (PE X (.Dict keys values pos) (tDisp trs)):=⟨pe_disp h.out hall hl h0 h15⟩
theorem we_rev {k:Nat}{p2 p3 p4:Pos} (he:Hd (PE X e te)):Hd (PE X (.Subscript e (.Slice none none (some (.UnaryOp .USub (.Constant (.int 1) k p3) p4)) p2) pos) (tRev X.K te)):=⟨pe_rev he.out⟩
theorem wo_none:Hd (PO X none tNoPart):=⟨po_none⟩
theorem wo_some (h:Hd (PE X e te)):Hd (PO X (some e) (tPart te)):=⟨po_some h.out⟩
theorem we_slice {r:V->Option Int->Option Int->Hp->VK->Prop}{lo hi:Option Expr}{tl th:TO}{p2:Pos} (hr:SlR X r) (he:Hd (PE X e te)) (hl:Hd (PO X lo tl)) (hu:Hd (PO X hi th)):Hd (PE X (.Subscript e (.Slice lo hi none p2) pos) (tSl r te tl th)):=⟨pe_slice hr he.out hl.out hu.out⟩
theorem we_ix {r:R2} (hr:IxR X r) (ha:Hd (PE X a ta)) (hb:Hd (PE X b tb)) (hs:PlainIx b):Hd (PE X (.Subscript a b pos) (tOp r ta tb)):=⟨pe_ix hr ha.out hb.out hs⟩
theorem wa_nil:Hd (PA X [] tNil):=⟨pa_nil⟩
theorem wa_cons (ha:Hd (PE X e te)) (hr:Hd (PA X es tA)) (hs:notStar e=true:=by rfl):Hd (PA X (e::es) (tCons te tA)):=⟨qa_cons ha.out hr.out hs⟩
theorem wa_consts {vs:List V} (h:constVs es=some vs):Hd (PA X es (tVs vs)):=⟨pa_consts h⟩
theorem we_call {CX:CXT}{k:Nat}{f:Addr}{fd:FuncData}{ps:List Str}{sp:Sp}{dvs:List V}{ds:List Value}{E:XK}{x:Str}{p:Pos}
  (F:FnOk X.prog X.w X.K X.mg X.base CX k f fd ps sp) (hr:Room k X.A) (hg:Gl X x) (hm:X.mg x=some (.ref f)) (hk:PySem.W.keepIn X.K (.ref f)=true) (hb:Binds X.K fd ps ds) (hd:Vals dvs ds) (hx:Passes CX X E)
  (ha:Hd (PA X (e::es) tA)) (hs:noStars (e::es)=true:=by rfl) (hdb:(x == ("__debug__" : Str))=false:=by decide):Hd (PE X (.Call (.Name x p) (e::es) [] pos) (tCall sp dvs E tA)):=⟨qe_call F hr hg hm hk hb hd hx ha.out hs hdb⟩
theorem we_callB {x:Str}{p:Pos}{id:String}{r:List V->Hp->VK->Prop} (hc:CallR X (.builtin id) r) (hg:Gl X x) (hm:X.mg x=none) (hv:bootBuiltins x=some (.builtin id)) (ha:Hd (PA X (e::es) tA))
  (hs:noStars (e::es)=true:=by rfl) (hn:x≠"__name__":=by decide) (hdb:(x == ("__debug__" : Str))=false:=by decide):Hd (PE X (.Call (.Name x p) (e::es) [] pos) (tCB r tA)):=⟨qe_callB hc hg hm hv ha.out hs hn hdb⟩
theorem we_callTy {x:Str}{p:Pos}{T:String}{r:List V->Hp->VK->Prop} (hc:CallR X (.type T) r) (hg:Gl X x) (hm:X.mg x=none) (hv:bootBuiltins x=some (.type T)) (ha:Hd (PA X (e::es) tA))
  (hs:noStars (e::es)=true:=by rfl) (hn:x≠"__name__":=by decide) (hdb:(x == ("__debug__" : Str))=false:=by decide):Hd (PE X (.Call (.Name x p) (e::es) [] pos) (tCB r tA)):=⟨qe_callTy hc hg hm hv ha.out hs hn hdb⟩
theorem we_bm0 {name:Str}{apos cpos:Pos}{T id:String}{r:V->List V->Hp->VK->Prop} (pa:PlainAttrs T) (slot:Slot T name id) (hty:typeOf (.builtin id)=pure (.type "method_descriptor")) (hm:MtR X id r) (ho:Hd (PE X o to))
  (hbase:attributeBase o name X.env (eval o X.env)=eval o X.env:=by rfl) (hline:(apos.endLine == cpos.line)=true:=by rfl):Hd (PE X (.Call (.Attribute o name apos) [] [] cpos) (tBM0 X.K T r to)):=⟨pe_bm0 pa slot hty hm ho.out hbase hline⟩
theorem few_of {env:Env}{cpos:Pos}{es:List Expr} (h:noStars es=true) (hl:es.length<29) :
  ((backTo cpos (starEach es env)).all (fun x=>!x.1) && (backToKw cpos (keywordEach [] env)).all (fun x=>x.1.isSome)
   && decide (es.length+([]:List Keyword).length+(if ([]:List Keyword).isEmpty then 0 else 1)<30))=true:=by
 have h1:(backTo cpos (starEach es env)).all (fun x=>!x.1)=true:=by
  have:=stars_any (env:=env) (pos:=cpos) h
  rw[List.all_eq_not_any_not]
  simpa using this
 have h2:(backToKw cpos (keywordEach [] env)).all (fun x=>x.1.isSome)=true:=rfl
 rw[h1,h2]
 simp
 lia
theorem we_bm {name:Str}{apos cpos:Pos}{T id:String}{r:V->List V->Hp->VK->Prop} (pa:PlainAttrs T) (slot:Slot T name id) (hty:typeOf (.builtin id)=pure (.type "method_descriptor")) (hm:MtR X id r) (ho:Hd (PE X o to)) (ha:Hd (PA X (e::es) tA))
  (hbase:attributeBase o name X.env (eval o X.env)=eval o X.env:=by rfl) (hs:noStars (e::es)=true:=by rfl) (hl:(e::es).length<29:=by decide) (hline:(apos.endLine == cpos.line)=true:=by rfl) :
  Hd (PE X (.Call (.Attribute o name apos) (e::es) [] cpos) (tBM X.K T r to tA)):=by
 have h':(notStar e && noStars es)=true:=hs
 rw[Bool.and_eq_true]at h'
 exact⟨pe_bm pa slot hty hm ho.out ha.out hbase (few_of hs hl) hline (star_cons h'.1) (stars_any h'.2)⟩
theorem wt_cmpR {op:CmpOp}{r:R2} (ho:OpR X (compareOp op) r) (ha:Hd (PE X a ta)) (hb:Hd (PE X b tb)) (hm:behindInMarks op b=false):Hd (PT X (.Compare a [op] [b] pos) (tTest (tOp r ta tb))):=⟨pt_cmpR ho ha.out hb.out hm⟩
theorem ww_and1 (ha:Hd (PT X a tt)):Hd (PW X (.BoolOp .And [a] pos) tt):=⟨pw_and1 ha.out⟩
theorem ww_or1 (ha:Hd (PT X a tt)):Hd (PW X (.BoolOp .Or [a] pos) tt):=⟨pw_or1 ha.out⟩
theorem ww_and {more:List Expr} (ha:Hd (PT X a tt)) (hb:Hd (PW X (.BoolOp .And (b::more) pos) tu)):Hd (PW X (.BoolOp .And (a::b::more) pos) (tAnd tt tu)):=⟨pw_and ha.out hb.out⟩
theorem ww_or {more:List Expr} (ha:Hd (PT X a tt)) (hb:Hd (PW X (.BoolOp .Or (b::more) pos) tu)):Hd (PW X (.BoolOp .Or (a::b::more) pos) (tOr tt tu)):=⟨pw_or ha.out hb.out⟩
theorem wt_pw (h:Hd (PW X e tt)):Hd (PT X e tt):=⟨h.out.pt⟩
theorem wt_not (ha:Hd (PT X a tt)):Hd (PT X (.UnaryOp .Not a pos) (tNot tt)):=⟨pt_not ha.out⟩
theorem wt_val (h:Hd (PE X e te)) (he:∀ whole,isTrue e X.env whole=(do let v <- whole;standAt e.pos;holding [v] (truthy v)):=by intro _;rfl):Hd (PT X e (tB te)):=⟨pt_val h.out he⟩
theorem wt_truth (ha:Hd (PE X a ta)) (he:∀ whole,isTrue a X.env whole=(do let v <- whole;standAt a.pos;holding [v] (truthy v))):Hd (PT X a (fun σ H Q=>ta σ H fun x H'=>∃ k,TruV X.K x H' k/\Q k H')):=⟨pt_truth ha.out he⟩
variable {tg iter:Expr}{wi:TI}{g:TG}
theorem wi_range1 {p:Pos} (hg:Gl X "range") (hm:X.mg "range"=none) (ha:Hd (PA X [a] tA)) (hs:notStar a=true:=by rfl):Hd (PI X tg (.Call (.Name "range" p) [a] [] pos) (iRng1 tA)):=⟨qi_range1 hg hm ha.out hs⟩
theorem wi_U (hl:Hd (PE X e te)):Hd (PI X tg e (fun σ H R=>iList X.K te σ H R\/iTup X.K te σ H R)):=⟨pi_U hl.out⟩
theorem wg_name {i:Nat}{x:Str} (hN:X.N.Nodup) (hi:X.N[i]?=some x) (hx:Loc X.env.scope x) (hf:X.fn x=true\/X.env.scope.names.lookup x=some .local:=by first | exact .inl rfl | exact .inr rfl | assumption):Hd (PG X (.Name x pos) (gName i)):=⟨pg_name hN hi hx hf⟩
theorem wgs_nil:Hd (PGs X [] gNil):=⟨pgs_nil⟩
theorem wgs_cons {gs:TGs} (h1:Hd (PG X e g)) (h2:Hd (PGs X es gs)) (hs:(assignEach (e::es) X.env).map (·.2)=assign e X.env::(assignEach es X.env).map (·.2):=by rfl):Hd (PGs X (e::es) (gCons g gs)):=⟨pgs_cons h1.out h2.out hs⟩
theorem wg_tup {k n:Nat}{gs:TGs} (hc:X.calm=true) (h:Hd (PGs X es gs)) (hn:(assignEach es X.env).length=n:=by rfl) (hst:(assignEach es X.env).findIdx? (·.1)=none:=by rfl):Hd (PG X (.Tuple es k pos) (gTup X.K n gs)):=⟨pg_tup hc h.out hn hst⟩
theorem wg_sub {i:Expr}{ti:TE}{ts:TSet} (ho:Hd (PE X o to)) (hi:Hd (PE X i ti)) (hs:PSet X ts)
  (ha:∀ v,assign (.Subscript o i pos) X.env v=(do
   let ov <- holding [v] (eval o X.env)
   let iv <- holding [v,ov] (eval i X.env)
   standAt pos
   holding [v,ov,iv] (setItem ov iv v)
   release [v,ov,iv] []):=by intro _;rfl):Hd (PG X (.Subscript o i pos) (gSub to ti ts)):=⟨pg_sub ho.out hi.out hs ha⟩
theorem wss_nil:Hd (PSs X [] tNext):=⟨pss_nil⟩
theorem wss_one (h1:Hd (PS X st t)):Hd (PSs X [st] t):=⟨pss_one h1.out⟩
theorem wss_cons (h1:Hd (PS X st t)) (h2:Hd (PSs X rest u)):Hd (PSs X (st::rest) (tSeq t u)):=⟨pss_cons h1.out h2.out⟩
theorem ws_ret (he:Hd (PE X e te)):Hd (PS X (.Return (some e) pos) (tRet te)):=⟨ps_ret he.out⟩
theorem ws_if {sa sb:List Stmt} (hc:Hd (PT X c tt)) (ha:Hd (PSs X sa t)) (hb:Hd (PSs X sb u)):Hd (PS X (.If c sa sb pos) (tIfS tt t u)):=⟨ps_if hc.out ha.out hb.out⟩
theorem ws_expr (he:Hd (PE X e te)) (hs:swapsWith e none pos.line X.env=pure false:=by rfl):Hd (PS X (.Expr e pos) (tDrop te)):=⟨ps_expr he.out hs⟩
theorem ws_set {i:Nat}{x:Str}{pos':Pos} (hN:X.N.Nodup) (hi:X.N[i]?=some x) (hx:Loc X.env.scope x) (he:Hd (PE X e te)) (hs:swapsWith e (some (.Name x pos')) pos.line X.env=pure false:=by rfl) (hf:X.fn x=true\/X.env.scope.names.lookup x=some .local:=by first | exact .inl rfl | exact .inr rfl | assumption) :
  Hd (PS X (.Assign [.Name x pos'] e pos) (tAsg te (gName i))):=⟨ps_set hN hi hx he.out hs hf⟩
theorem ws_asg (he:Hd (PE X e te)) (hg:Hd (PG X tg g)) (hs:swapsWithSole [tg] e pos.line X.env=pure false:=by rfl) (hw:swappedStores [tg] e X.env=pure none:=by rfl) (h1:(assignEach [tg] X.env).map (·.2)=[assign tg X.env]:=by rfl) :
  Hd (PS X (.Assign [tg] e pos) (tAsg te g)):=⟨ps_asg he.out hg.out hs hw h1⟩
theorem ws_for {body:List Stmt} (hp:PassesOwn (model X.prog X.w) X.A X.env X.xe) (hc:X.calm=true) (hi:Hd (PI X tg iter wi)) (hg:Hd (PG X tg g)) (hb:Hd (PSs X body t)) (hs:∀ x,foldedSetIterable iter X.env x=pure x:=by intro _;rfl):Hd (PS X (.For tg iter body [] pos) (tFor wi g t)):=⟨ps_for hp hc hi.out hg.out hb.out hs⟩
theorem ws_while {body:List Stmt} (hp:PassesOwn (model X.prog X.w) X.A X.env X.xe) (hc:Hd (PT X c tt)) (hb:Hd (PSs X body t)):Hd (PS X (.While c body [] pos) (tWhile tt t)):=⟨ps_while hp hc.out hb.out⟩
variable {ifs:List Expr}{scope:Scope}{Nt:List Str}{fr:List (Str×Nat)}{gz:ZC->TG}{tz:ZC->TT}{ez:ZC->TE}
theorem wif_nil:Hd (PIfs X [] tAll):=⟨pif_nil⟩
theorem wif_one (h:Hd (PT X c tt)):Hd (PIfs X [c] tt):=⟨pif_one h.out⟩
theorem we_lc (L:LcOk X scope Nt fr) (hcalm:X.calm=true) (hi:Hd (PI X tg iter wi)) (hg:∀ z,Hd (PG (cxC X scope (Nt++fr.map (·.1)) z) tg (gz z))) (hgt:∀ z,Tgt Nt.length (gz z))
  (hc:∀ z,Hd (PIfs (cxC X scope (Nt++fr.map (·.1)) z) ifs (tz z))) (he:∀ z,Hd (PE (cxC X scope (Nt++fr.map (·.1)) z) e (ez z))) (hs:∀ x,foldedSetIterable iter X.env x=pure x:=by intro _;rfl) :
  Hd (PE X (.ListComp e [⟨tg,iter,ifs,0⟩] scope pos) (tLC wi Nt.length fr gz tz ez)):=⟨pe_lc L hcalm hi.out (fun z=>(hg z).out) hgt (fun z=>(hc z).out) (fun z=>(he z).out) hs⟩
theorem ws_lc {y:Str}{j:Nat}{py spos:Pos} (hN:X.N.Nodup) (hj:X.N[j]?=some y) (hy:Loc X.env.scope y) (L:LcOk X scope Nt fr) (hcalm:X.calm=true) (hi:Hd (PI X tg iter wi)) (hg:∀ z,Hd (PG (cxC X scope (Nt++fr.map (·.1)) z) tg (gz z))) (hgt:∀ z,Tgt Nt.length (gz z))
  (hc:∀ z,Hd (PIfs (cxC X scope (Nt++fr.map (·.1)) z) ifs (tz z))) (he:∀ z,Hd (PE (cxC X scope (Nt++fr.map (·.1)) z) e (ez z))) (hs:∀ x,foldedSetIterable iter X.env x=pure x:=by intro _;rfl)
  (hsw:swapsWith (.ListComp e [⟨tg,iter,ifs,0⟩] scope pos) (some (.Name y py)) spos.line X.env=pure true:=by rfl)
  (hff:X.fn y=true\/X.env.scope.names.lookup y=some .local:=by first | exact .inl rfl | exact .inr rfl | assumption) :
  Hd (PS X (.Assign [.Name y py] (.ListComp e [⟨tg,iter,ifs,0⟩] scope pos) spos) (tLCset wi Nt.length fr gz tz ez j)):=⟨ps_lc L hcalm hN hj hy hi.out (fun z=>(hg z).out) hgt (fun z=>(hc z).out) (fun z=>(he z).out) hs hsw hff⟩
end
section
variable {P:Program}{w:World}{K:PySem.W.Frag}{mg:Str->Option Value}{base:Heap}
theorem Fun.okH {x qual:Str}{st:Stmt}{f:Addr}{fd:FuncData}{N ps:List Str}{k:Nat}{sp:Sp} (F:Fun K x qual st f fd) (S:FnScope N ps (defScope st)) (len:∀ vs H Q E,sp vs H Q E->vs.length=ps.length)
  (hbody:∀ (cdv:Value) (A:Around) (outer:List Env) (s:Shared) (H:Hp) (vs:List V) (Q:VK) (E:XK),Room k (A.deeper (envOfC qual (defScope st) s.heap.objs.size f cdv))->sp vs H Q E ->
   ∃ t,Hd (PSs (cxOf CX0 P w K mg base N qual (defScope st) f cdv A outer s H E).nox (defBody st) t)/\t { nx:=fun _ H'=>Q .non H',rt:=Q } (start N vs) H):FnOk P w K mg base CX0 (k+1) f fd ps sp:=
 F.ok S len fun cdv A outer s H vs Q E hr h=>let ⟨t,h1,h2⟩:=hbody cdv A outer s H vs Q E hr h;⟨t,h1.out,h2⟩
end
end L2
end
section
namespace Kn
open PySem PySem.W PyProof.Rows
def krun {α:Type} (lt:Nat->Nat->Bool):KasT α->α
 | .ret a=>a
 | .ask i j k=>krun lt (k (lt i j))
theorem krun_bind {α β:Type} (lt:Nat->Nat->Bool) (f:α->KasT β):∀ t:KasT α,krun lt (t.bind f)=krun lt (f (krun lt t))
 | .ret _=>rfl
 | .ask i j k=>krun_bind lt f (k (lt i j))
section
variable (r:Nat->Nat)
def kat (p:Array Nat) (i:Nat):Nat:=r (p.getD i 0)
def Srt (p:Array Nat) (m:Nat):Prop:=∀ i j,i<j->j<m->kat r p i<kat r p j
variable {r}
end
end Kn
end
section
namespace Kn
open PySem
theorem sLt_total {x y:Str} (h:x≠y):sLt y x=!sLt x y:=by
 have ne:x.cps.toList≠y.cps.toList:=fun e=>h (by cases x;cases y;congr 1;exact Array.toList_inj.mp e)
 unfold sLt
 by_cases a:x.cps.toList<y.cps.toList
 ·have b:¬y.cps.toList<x.cps.toList:=fun b=>List.lt_irrefl _ (List.lt_trans a b)
  simp [a,b]
 ·have b:y.cps.toList<x.cps.toList:=Classical.byContradiction fun b=>ne (List.le_antisymm (List.not_lt.mp b) (List.not_lt.mp a))
  simp [a,b]
def RiseV (ys:List Val):Prop:=ys.Pairwise fun p q=>aheadB p q=true
end Kn
end
section
namespace Kn
open PySem PySem.W PyProof.Rows
def Asks {α:Type} (n:Nat) (R:α->Prop):KasT α->Prop
 | .ret a=>R a
 | .ask i j k=>i<n/\j<n/\∀ b,Asks n R (k b)
theorem Asks.bind {α β:Type} {n:Nat}{R:α->Prop}{S:β->Prop}{f:α->KasT β} (hf:∀ a,R a->Asks n S (f a)):∀ {t:KasT α},Asks n R t->Asks n S (t.bind f)
 | .ret a,h=>hf a h
 | .ask _ _ k,h=>⟨h.1,h.2.1,fun b=>Asks.bind hf (h.2.2 b)⟩
theorem wp_of_run {α:Type} {n:Nat}{R:α->Prop}{lt:Nat->Nat->Bool}{cmp:Nat->Nat->(Bool->Shared->Prop)->Shared->Prop}{Q:α->Shared->Prop}{s:Shared}
  (hc:∀ i j C,i<n->j<n->C (lt i j) s->cmp i j C s):∀ {t:KasT α},Asks n R t->Q (krun lt t) s->t.kasWp cmp Q s
 | .ret _,_,q=>q
 | .ask i j k,h,q=>hc i j _ h.1 h.2.1 (wp_of_run hc (h.2.2 _) q)
def Gn (n:Nat) (p:Array Nat):Prop:=∀ x∈p.toList,x<n
theorem Gn.get {n:Nat}{p:Array Nat} (h0:0<n) (h:Gn n p) (i:Nat):p.getD i 0<n:=by
 rw[Array.getD_eq_getD_getElem?]
 cases e:p[i]? with
 | none=>exact h0
 | some x=>exact h x (Array.mem_toList_iff.mpr (Array.mem_of_getElem? e))
theorem Gn.perm {n:Nat}{p q:Array Nat} (h:Gn n p) (e:q.Perm p):Gn n q:=fun x hx=>h x (Array.mem_toList_iff.mpr (e.mem_iff.mp (Array.mem_toList_iff.mp hx)))
section
variable {n:Nat} (h0:0<n)
include h0
theorem asks_asc {p:Array Nat} (g:Gn n p):∀ f m,Asks n (fun _=>True) (kas_asc p f m)
 | 0,_=>trivial
 | f+1,m=>by
  rw[kas_asc]
  refine⟨g.get h0 _,g.get h0 _,fun b=>?_⟩
  dsimp only
  split
  ·trivial
  ·exact asks_asc g f _
theorem asks_desc:∀ (f:Nat) (p:Array Nat) (m q:Nat),Gn n p->Asks n (fun r:Array Nat×Nat×Nat=>Gn n r.1) (kas_desc f p m q)
 | 0,p,_,_,g=>g
 | f+1,p,m,q,g=>by
  rw[kas_desc]
  refine⟨g.get h0 _,g.get h0 _,fun b=>?_⟩
  dsimp only
  by_cases hb:b=true
  ·rw[if_pos hb]
   split
   ·exact asks_desc f _ _ _ (g.perm (mirror_perm _ _ _ _))
   ·exact asks_desc f _ _ _ g
  ·rw[if_neg hb]
   refine⟨g.get h0 _,g.get h0 _,fun b=>?_⟩
   dsimp only
   split
   ·exact g
   ·exact asks_desc f _ _ _ g
theorem asks_tail {p:Array Nat} (g:Gn n p) (m k:Nat):Asks n (fun r:Nat×Array Nat=>Gn n r.2) (kas_tail3 m k p):=by
 unfold kas_tail3
 refine Asks.bind (R:=fun _=>True) (fun m _=>?_) (asks_asc h0 (g.perm (mirror_perm _ _ _ _)) _ _)
 exact g.perm (mirror_perm _ _ _ _)
theorem asks_descPart {p:Array Nat} (g:Gn n p) (m k:Nat):Asks n (fun r:Nat×Array Nat=>Gn n r.2) (kas_descPart m k p):=by
 unfold kas_descPart
 refine Asks.bind (fun r hr=>?_) (asks_desc h0 _ p _ _ g)
 split
 ·exact asks_tail h0 (Gn.perm hr (mirror_perm _ _ _ _)) _ _
 ·exact asks_tail h0 hr _ _
theorem asks_count {p:Array Nat} (g:Gn n p) (k:Nat):Asks n (fun r:Nat×Array Nat=>Gn n r.2) (kas_count k p):=by
 unfold kas_count
 refine Asks.bind (fun m _=>?_) (asks_asc h0 g _ _)
 split
 ·exact g
 split
 ·refine⟨g.get h0 _,g.get h0 _,fun b=>?_⟩
  dsimp only
  split
  ·exact g
  ·exact asks_descPart h0 (g.perm (mirror_perm _ _ _ _)) _ _
 ·exact asks_descPart h0 g _ _
theorem asks_place {p:Array Nat} (g:Gn n p) (k:Nat):∀ f l u,Asks n (fun _=>True) (kas_place p k f l u)
 | 0,_,_=>trivial
 | f+1,l,u=>by
  rw[kas_place]
  split
  ·trivial
  ·refine⟨g.get h0 _,g.get h0 _,fun b=>?_⟩
   dsimp only
   split
   ·exact asks_place g k f _ _
   ·exact asks_place g k f _ _
theorem asks_bin:∀ (f:Nat) (p:Array Nat) (k:Nat),Gn n p->Asks n (fun _=>True) (kas_bin f p k)
 | 0,_,_,_=>trivial
 | f+1,p,k,g=>by
  rw[kas_bin]
  exact Asks.bind (fun l _=>asks_bin f _ _ (g.perm (bubble_perm _ _ _))) (asks_place h0 g _ _ _ _)
theorem asks_sort:Asks n (fun _=>True) (kas_sort n):=by
 unfold kas_sort
 refine Asks.bind (fun r hr=>?_) (asks_count h0 (p:=(List.range n).toArray) (fun x hx=>by simpa using hx) n)
 split
 ·exact asks_bin h0 _ _ _ hr
 ·trivial
end
def vAt (xs:List Val) (i:Nat):Val:=xs[i]?.getD (.num 0)
end Kn
end
section
namespace L2
open PySem PySem.Spec PyProof.Rows PySem.W
open Kn (KE cmpK kEl sLt key aheadB RiseV vAt)
def kk:KE->Key
 | .i n=>.inl n
 | .s x=>.inr x
section
variable {prog:Program}{w:World}{A:Around}{E:Value->Shared->Prop}{s:Shared}
end
section
variable {X:Cx}
end
end L2
end
section
namespace L2
open PySem PySem.Spec PyProof.Rows
section
variable {X:Cx}
def isiW (x:V) (T:String) (b:Bool):Prop:=
 (T="int"/\(∃ i,x=.int i)/\b=true)\/(T="bool"/\(∃ i,x=.int i)/\b=false)\/(T="str"/\((∃ i,x=.int i)/\b=false\/(∃ z,x=.str z)/\b=true))
theorem call_isiW:CallR X (.builtin "isinstance") (fun xs H Q=>∃ x T b,xs=[x,.ty T]/\isiW x T b/\Q (.bl b) H):=by
 intro pins s σ H xs us Q I r h
 obtain⟨x,T,b,rfl,hi,q⟩:=h
 obtain⟨u,v,rfl,ru,rv⟩:=r.two
 cases rv
 rcases hi with ⟨rfl,⟨i,rfl⟩,rfl⟩ | ⟨rfl,⟨i,rfl⟩,rfl⟩ | ⟨rfl,⟨⟨i,rfl⟩,rfl⟩ | ⟨⟨z,rfl⟩,rfl⟩⟩
 ·obtain⟨t,rfl⟩:=ru
  exact IsiPair.int_int ⟨.bl true,H,I,rfl,q⟩
 ·obtain⟨t,rfl⟩:=ru
  exact IsiPair.int_bool ⟨.bl false,H,I.tok _,rfl,q⟩
 ·obtain⟨t,rfl⟩:=ru
  exact IsiPair.int_str ⟨.bl false,H,I.tok _,rfl,q⟩
 ·obtain⟨t,rfl⟩:=ru
  exact IsiPair.str_str ⟨.bl true,H,I,rfl,q⟩
theorem call_isiU:CallR X (.builtin "isinstance") (fun xs H Q=>(∃ x T b,xs=[x,.ty T]/\isiV H x T b/\Q (.bl b) H)\/∃ x T b,xs=[x,.ty T]/\isiW x T b/\Q (.bl b) H):=call_isi.or call_isiW
variable {pos:Pos}{e f o:Expr}{te tf to:TE}
end
end L2
end
section
namespace L2
open PySem PySem.Spec PyProof.Rows
section
variable {X:Cx}
end
end L2
end
section
namespace L2
open PySem PySem.Spec PyProof.Rows
section
variable {X:Cx}
end
end L2
end
section
namespace L2
open PySem PySem.Spec PyProof.Rows
theorem stand_led (t:SetTable) (n:Nat):(t.orStandIn n).led=t.led:=by
 unfold SetTable.orStandIn;split <;> rfl
theorem lay_led (t:SetTable) (es:Array (Int×Value)) (h:Int) (x:Value):(layNew t es h x).2.1.led=t.led:=by
 unfold layNew
 split
 ·exact stand_led _ _
 ·rfl
theorem laid_led {mask finger moves:Nat}{led plain:Bool}{hs:Array Int}{r:SetTable×Array Nat} (h:SetTable.laid mask finger moves led plain hs=some r):r.1.led=led/\r.1.plain=plain:=by
 unfold SetTable.laid at h
 cases hc:SetTable.layClean mask hs with
 | none=>rw[hc]at h;cases h
 | some ow=>rw[hc]at h;cases h;exact⟨rfl,rfl⟩
theorem relay_led (t:SetTable) (es:Array (Int×Value)) (n:Nat):(relayAll t es n).2.1.led=t.led:=by
 unfold relayAll
 cases hr:t.relaid (es.map (·.1)) n with
 | none=>rfl
 | some r=>
  obtain⟨t',order⟩:=r
  have:=laid_led hr
  dsimp only
  split
  ·exact this.1
  ·rfl
theorem relay_plain (t:SetTable) (es:Array (Int×Value)) (n:Nat) (hp:t.plain=false):(relayAll t es n).2.1.plain=false:=by
 unfold relayAll
 cases hr:t.relaid (es.map (·.1)) n with
 | none=>rfl
 | some r=>
  obtain⟨t',order⟩:=r
  have:=laid_led hr
  dsimp only
  split
  ·exact this.2.trans hp
  ·rfl
def valS:Value->Str
 | .str x _=>x
 | _=>Str.empty
def strsOf (es:List (Int×Value)):List Str:=es.map fun e=>valS e.2
def SetS (prog:Program) (w:World) (h:Heap) (a:Addr) (zs:List Str):Prop:=
 ∃ (es:Array (Int×Value)) (ep:Nat) (t:SetTable),h.get? a=some { cls:=.type "set",dict:=none,data:=.set es ep t,slots:=#[] }/\ElemsOf (strKind prog w) es.toList/\t.fits es.size=true /\
  t.led=(!w.params.followText "set-order")/\(t.plain=false\/es=#[])/\es.size<4000/\(strsOf es.toList).Nodup/\∀ x,x∈strsOf es.toList ↔ x∈zs
theorem SetS.at {prog:Program}{w:World}{h h':Heap}{a:Addr}{zs:List Str} (S:SetS prog w h a zs) (k:∀ o,h.get? a=some o->h'.get? a=some o):SetS prog w h' a zs:=by
 obtain⟨es,ep,t,ho,r⟩:=S
 exact⟨es,ep,t,k _ ho,r⟩
section
variable {prog:Program}{w:World}{A:Around}{E:Value->Shared->Prop}{s:Shared}{a:Addr}{zs:List Str}
theorem elem_str {es:List (Int×Value)} (h:ElemsOf (strKind prog w) es) {e:Int×Value} (he:e∈es):∃ t,e.2=.str (valS e.2) t/\e.1=(strKind prog w).hash (valS e.2):=by
 obtain⟨⟨k,hk,hh⟩,_⟩:=h e he
 obtain⟨t,ht⟩:=Value.isStrOf_shape (x:=k) (v:=e.2) hk
 have:valS e.2=k:=by rw[ht];rfl
 exact⟨t,by rw[this];exact ht,by rw[this];exact hh⟩
theorem found_iff {es:List (Int×Value)} (h:ElemsOf (strKind prog w) es) (x:Str):(∃ e∈es,(strKind prog w).is x e.2=true) ↔ x∈strsOf es:=by
 constructor
 ·rintro⟨e,he,hx⟩
  obtain⟨t,ht⟩:=Value.isStrOf_shape (x:=x) (v:=e.2) hx
  exact List.mem_map.mpr ⟨e,he,by rw[ht];rfl⟩
 ·intro hx
  obtain⟨e,he,rfl⟩:=List.mem_map.mp hx
  obtain⟨t,ht,_⟩:=elem_str h he
  refine⟨e,he,?_⟩
  rw[ht]
  exact strKind_is _ _ _ _
theorem set_put {es es':Array (Int×Value)}{ep:Nat}{t t':SetTable}{Q:Unit->Shared->Prop} (ho:s.heap.get? a=some { cls:=.type "set",dict:=none,data:=.set es ep t,slots:=#[] }) (hz:es'.size<4096)
  (h:∀ h',Heap.SameBut a s.heap h'->h'.get? a=some { cls:=.type "set",dict:=none,data:=.set es' (ep+1) t',slots:=#[] }->Q () { s with heap:=h' }):wpAny (model prog w) A (storeSet a es' t') Q E s:=by
 refine wpAny_storeSet_of (ep:=ep) (t:=t) ho rfl (h _ (Heap.SameBut.update s.heap a _) ?_) (fits_of_scanBound hz)
 have:=Heap.get?_update_self (Obj.putSet es' t') ho (by rw[putSet_of (ep:=ep) (t:=t) es' t' rfl];rfl)
 rw[this,putSet_of (ep:=ep) (t:=t) es' t' rfl]
theorem nodup_perm_snoc {l l':List Str}{x:Str} (p:List.Perm l' (l++[x])) (nd:l.Nodup) (h:x ∉ l):l'.Nodup:=by
 refine p.nodup_iff.mpr (List.nodup_append.mpr ⟨nd,by simp,fun y hy z hz=>?_⟩)
 rw[List.mem_singleton.mp hz]
 exact fun e=>h (e ▸ hy)
theorem set_add {x:Str}{tk:Tok}{Q:Bool->Shared->Prop} (S:SetS prog w s.heap a zs) (hl:zs.length<3900)
  (h:∀ b h',Heap.SameBut a s.heap h'->SetS prog w h' a (zs++[x])->Q b { s with heap:=h' }):wpAny (model prog w) A (setAddHashed a (.str x tk) ((strKind prog w).hash x)) Q E s:=by
 obtain⟨es,ep,t,ho,hel,hf,hled,hpl,hsz,nd,hm⟩:=S
 have hsz':es.size<3950:=by
  have:=List.Nodup.length_le_of_subset nd fun y hy=>(hm y).mp hy
  rw[strsOf,List.length_map,Array.length_toList]at this
  lia
 have hkey:(strKind prog w).is x (.str x tk)=true:=strKind_is _ _ _ _
 have hsc:(Value.str x tk).scannable=true:=rfl
 unfold setAddHashed setAddHashedIn
 refine wpAny_holding (wpAny_bind (wpAny_setState_of ho rfl hf ?_))
 dsimp only
 rw[byScan_of hsc (by show es.size<4096;lia) hel,if_pos rfl]
 unfold setAddByScan
 refine wpAny_bind (wpAny_bind (wpAny_rule (wpAny_bind (wpAny_setScan_of hkey ho rfl hf hel ?_))))
 cases hr:List.findIdx? (fun e=>(strKind prog w).is x e.2) es.toList with
 | some j=>
  obtain⟨hj,hpj,_⟩:=List.findIdx?_eq_some_iff_getElem.mp hr
  have hx:x∈zs:=(hm x).mp ((found_iff hel x).mp ⟨es.toList[j],List.getElem_mem hj,hpj⟩)
  refine wpAny_pure (wpAny_pure ?_)
  refine h false s.heap (Heap.SameBut.refl a s.heap) ⟨es,ep,t,ho,hel,hf,hled,hpl,hsz,nd,fun y=>?_⟩
  rw[hm y,List.mem_append,List.mem_singleton]
  exact⟨.inl,fun z=>z.elim id fun e=>e ▸ hx⟩
 | none=>
  have hx:x ∉ strsOf es.toList:=fun z=>by
   obtain⟨e,he,q⟩:=(found_iff hel x).mpr z
   have:=List.findIdx?_eq_none_iff.mp hr e he
   rw[q]at this;cases this
  have hperm:=layNew_perm t es ((strKind prog w).hash x) (.str x tk)
  have hfits:=layNew_fits t es ((strKind prog w).hash x) (.str x tk)
  have hled1:=lay_led t es ((strKind prog w).hash x) (.str x tk)
  dsimp only
  generalize layNew t es ((strKind prog w).hash x) (.str x tk)=L at hperm hfits hled1 ⊢
  obtain⟨es1,t1,dum,gave⟩:=L
  dsimp only at hperm hfits hled1 ⊢
  rw[Array.toList_push]at hperm
  have hel1:ElemsOf (strKind prog w) es1.toList:=(hel.push hkey hsc).perm hperm
  have hps:(strsOf es1.toList).Perm (strsOf es.toList++[x]):=by
   have:=hperm.map (fun e:Int×Value=>valS e.2)
   rw[List.map_append]at this
   exact this
  have nd1:=nodup_perm_snoc hps nd hx
  have hm1:∀ y,y∈strsOf es1.toList ↔ y∈zs++[x]:=fun y=>by
   rw[hps.mem_iff,List.mem_append,List.mem_append,hm y]
  have hs1:es1.size=es.size+1:=by
   have:=hperm.length_eq
   rw[List.length_append,Array.length_toList,Array.length_toList]at this
   simpa using this
  have gw:∀ (b:Bool) {s₁:Shared}{Q':Unit->Shared->Prop},Q' () s₁->wpAny (model prog w) A (match b with | true=>rule "set.scan.the-table-gave-way" | false=>pure ()) Q' E s₁:=fun b s₁ Q' q=>by
   cases b
   ·exact wpAny_pure q
   ·exact wpAny_rule q
  refine wpAny_bind (gw _ ?_)
  cases e:t1.plain
  case' false=>
   rw[if_neg Bool.false_ne_true]
   refine wpAny_bind (wpAny_pure ?_)
   simp only[if_true]
   have hf2:=hfits
   have hl2:t1.led=t.led:=hled1
   have hp2:t1.plain=false:=e
   clear e hfits hled1
   generalize t1=t2 at hf2 hl2 hp2 ⊢
  case' true=>
   rw[if_pos rfl,hashByValue_scannable 8 hsc]
   refine wpAny_bind (wpAny_pure ?_)
   simp only[show plainKind (.str x tk)=false from rfl,Bool.false_eq_true,if_false]
   have hf2:=SetTable.fits_plain_off hfits
   have hl2:({ t1 with plain:=false }:SetTable).led=t.led:=hled1
   have hp2:({ t1 with plain:=false }:SetTable).plain=false:=rfl
   clear e hfits hled1
   generalize ({ t1 with plain:=false }:SetTable)=t2 at hf2 hl2 hp2 ⊢
  all_goals
   refine wpAny_bind (set_put ho (by lia) fun h1 hb1 ho1=>?_)
   split
   ·have hp:=relayAll_perm t2 es1 (SetTable.grown es1.size)
    have hfr:=relayAll_fits t2 es1 (SetTable.grown es1.size)
    have hlr:=relay_led t2 es1 (SetTable.grown es1.size)
    have hpr:=relay_plain t2 es1 (SetTable.grown es1.size) hp2
    generalize relayAll t2 es1 (SetTable.grown es1.size)=R at hp hfr hlr hpr ⊢
    obtain⟨es2,t3,g2⟩:=R
    dsimp only at hp hfr hlr hpr ⊢
    have hs2:es2.size=es1.size:=by rw[<- Array.length_toList,hp.length_eq,Array.length_toList]
    have hp':(strsOf es2.toList).Perm (strsOf es1.toList):=hp.map _
    refine wpAny_bind (gw _ (wpAny_bind (set_put (s:={ s with heap:=h1 }) ho1 (by lia) fun h2 hb2 ho2=>wpAny_pure (wpAny_pure ?_))))
    exact h true h2 (hb1.trans hb2) ⟨es2,_,t3,ho2,hel1.perm hp,hfr,by rw[hlr,hl2,hled],.inl hpr,by lia,hp'.nodup_iff.mpr nd1,fun y=>(hp'.mem_iff).trans (hm1 y)⟩
   ·exact wpAny_pure (wpAny_pure (h true h1 hb1 ⟨es1,_,t2,ho1,hel1,hf2,by rw[hl2,hled],.inl hp2,by lia,nd1,hm1⟩))
end
end L2
end
section
namespace L2
open PySem PySem.Spec PyProof.Rows
section
variable {prog:Program}{w:World}{A:Around}{R:Result->Shared->Prop}{I:Addr}{fp wr:List Addr}{G:Array GenState->Array GenState->Prop}{n:Nat}{P:Nat->Value->Prop}{St:Nat->Shared->Prop}
end
theorem strsAre_at:∀ {vs:List Value}{ss:List Str}{i:Nat}{v:Value},StrsAre vs ss->vs[i]?=some v->∃ (x:Str) (t:Tok),ss[i]?=some x/\v=.str x t
 | _,_,i,v,.nil,e=>by simp at e
 | _,_,0,v,.cons x t _,e=>by simp at e;exact⟨x,t,rfl,e.symm⟩
 | _,_,i+1,v,.cons x t r,e=>by
  obtain⟨y,u,h1,h2⟩:=strsAre_at (i:=i) r (by simpa using e)
  exact⟨y,u,by simpa using h1,h2⟩
section
variable {prog:Program}{w:World}{A:Around}{E:Value->Shared->Prop}{s:Shared}
def emptySet (w:World):Obj:={ cls:=.type "set",dict:=none,data:=.set #[] 0 (.fresh 0 0 (!w.params.followText "set-order")) }
theorem emptySet_is {h:Heap}{a:Addr} (e:h.get? a=some (emptySet w)):SetS prog w h a []:=by
 refine⟨#[],0,_,e,fun x hx=>?_,by rfl,rfl,.inr rfl,by decide,List.nodup_nil,fun x=>Iff.rfl⟩
 simp at hx
theorem set_new_code (a:Value) {Q₁:Value->Shared->Prop} (h:Q₁ (.ref s.heap.objs.size) { s with heap:=s.heap.push (emptySet w) }) :
  codeAny (model prog w) A (.call (.builtin "set.__new__") ⟨[.type "set",a],[]⟩) (wants Q₁ E) s:=by
 refine codeAny_of_tree ?_
 show wpAny _ A.in1 (checkBuiltinCall "set.__new__" ⟨[.type "set",a],[]⟩ >>= fun _=>again (.builtin "set.__new__" ⟨[.type "set",a],[]⟩)) _ _ s
 refine wpAny_bind (wpAny_of_eq (F.newCall_set_1 a) (wpAny_pure ⟨plainId_quiet F.plain_set_new _,codeAny_builtin F.entry_set_new ?_⟩))
 rw[Around.under_plainId F.plain_set_new _]
 unfold Builtin.«set.__new__» Builtin.Frozenset.newClass
 have hsub:=sub_set_self
 obtain⟨hp,g,d,tk,os⟩:=s
 dsimp only at h ⊢
 wp_walk
 refine wpAny_askSetting (wpAny_pure ?_)
 dsimp only
 simp only[newObj]
 exact wpAny_bind (wpAny_alloc (wpAny_pure (wpAny_pure h)))
end
end L2
end
section
namespace L2
open PySem PySem.Spec PyProof.Rows
theorem slot_sit:Slot "set_iterator" "__next__" "set_iterator.__next__":=.of (owner:="set_iterator") (n:="__next__") (by rw[typeLookup_type,builtinLookup_eq_fast];kernel_rfl) (by decide +kernel) (by decide +kernel) (by decide +kernel) (by first | exact .inl (by decide +kernel) | exact .inr (by decide +kernel)) (by rw[isSubtype_type];kernel_rfl)
theorem slot_siti:Slot "set_iterator" "__iter__" "set_iterator.__iter__":=.of (owner:="set_iterator") (n:="__iter__") (by rw[typeLookup_type,builtinLookup_eq_fast];kernel_rfl) (by decide +kernel) (by decide +kernel) (by decide +kernel) (by first | exact .inl (by decide +kernel) | exact .inr (by decide +kernel)) (by rw[isSubtype_type];kernel_rfl)
theorem entry_sit:entryFor table "set_iterator.__next__"=some Builtin.«set_iterator.__next__»:=entryFor_of_tree (by kernel_rfl)
theorem owner_sit:Manifest.owners.lookup (String.ofList ['r','o','t','a','r','e','t','i','_','t','e','s'].reverse)=some Manifest.sig_set_iterator:=by kernel_rfl
theorem args_sit (a:Value):argsOk "set_iterator.__next__" ⟨[a],[]⟩:=by
 unfold argsOk;rw[signature?_of (id:="set_iterator.__next__") (n:=['_','_','t','x','e','n','_','_']) (o:=['r','o','t','a','r','e','t','i','_','t','e','s']) (by kernel_rfl) owner_sit];kernel_rfl
theorem entry_setiter:entryFor table "set.__iter__"=some Builtin.«frozenset.__iter__»:=entryFor_alias (id':="frozenset.__iter__") (by kernel_rfl) rfl (by decide +kernel) (by kernel_rfl)
theorem erase_perm {α:Type}:∀ (l:List α) (i:Nat) (h:i<l.length),(l[i]::l.eraseIdx i).Perm l
 | x::l,0,_=>.refl _
 | x::l,i+1,h=>by
  have hi:i<l.length:=by simpa using h
  have:=erase_perm l i hi
  show (l[i]::x::l.eraseIdx i).Perm (x::l)
  exact (List.Perm.swap x l[i] _).trans (List.Perm.cons x this)
section
variable {M:Model}{prog:Program}{w:World}{A:Around}{E:Value->Shared->Prop}{s:Shared}
theorem wp_choose' {src:Source}{n:Nat}{Q:Nat->Shared->Prop} (h0:n≠0) (h:∀ i d,i<n->Q i { s with drawn:=d }):wpAny M A (choose src n) Q E s:=fun Γ p hΓ=>by
 show Sem.wp M Γ (.choose src n .pure) _ _ p s
 rw[Sem.wp_choose]
 exact⟨h0,h _ _ (Nat.mod_lt _ (by lia))⟩
theorem draw_order {α:Type}:∀ (n:Nat) (xs:List α) (s:Shared) (Q:List α->Shared->Prop),xs.length=n->(∀ ys d,ys.Perm xs->Q ys { s with drawn:=d })->wpAny M A (drawOrder n xs) Q E s
 | 0,xs,s,Q,hl,q=>by
  have:xs=[]:=List.length_eq_zero_iff.mp hl
  subst this
  exact wpAny_pure (q [] s.drawn (.refl _))
 | n+1,[],s,Q,hl,q=>by simp at hl
 | n+1,x::xs,s,Q,hl,q=>by
  unfold drawOrder
  refine wpAny_bind (wp_choose' (by simp) fun i d hi=>?_)
  rw[List.getElem?_eq_getElem hi]
  dsimp only
  refine wpAny_bind (draw_order n _ _ _ (by rw[List.length_eraseIdx,if_pos hi];simp at hl ⊢;lia) fun ys d' p=>wpAny_pure (q _ d' ?_))
  exact (List.Perm.cons _ p).trans (erase_perm _ _ hi)
theorem pick_go {α:Type} (next:Nat->Nat):∀ (fuel k:Nat) (left:List α) (out:Array α),left.length=fuel->(pickOrder.go next fuel k left out).toList.Perm (out.toList++left)
 | 0,k,left,out,hl=>by
  have:left=[]:=List.length_eq_zero_iff.mp hl
  subst this
  unfold pickOrder.go
  simp
 | fuel+1,k,left,out,hl=>by
  have hi:next k % left.length<left.length:=Nat.mod_lt _ (by lia)
  unfold pickOrder.go
  rw[List.getElem?_eq_getElem hi]
  dsimp only
  refine (pick_go next fuel (k+1) _ _ (by rw[List.length_eraseIdx,if_pos hi];lia)).trans ?_
  rw[Array.toList_push,List.append_assoc]
  exact List.Perm.append_left _ (erase_perm _ _ hi)
theorem pick_perm {α:Type} (next:Nat->Nat) (xs:Array α):(pickOrder next xs).toList.Perm xs.toList:=by
 have:=pick_go next xs.size 0 xs.toList #[] (by simp)
 simpa [pickOrder] using this
def sIt (first:Value) (i:Nat) (a:Addr) (n ep:Nat):Obj:={ cls:=.type "set_iterator",data:=.fields #[first,.int i 0,.ref a,.int n 0,.int ep 0] }
theorem stop_end {α:Type} {Q':α->Shared->Prop}{E':Value->Shared->Prop} (hh:A.handled=none) (h:∀ e h',Shared.TypeIs { s with heap:=h' } e "StopIteration"->(∀ b o,s.heap.get? b=some o->h'.get? b=some o)->E' e { s with heap:=h' }) :
  wpAny (model prog w) A.in1 (newExc (.type "StopIteration") [] >>= fun e=>(raiseNew e:Sem α)) Q' E' s:=by
 refine wpAny_bind ?_
 simp only[newExc,newTuple]
 refine wpAny_bind (wpAny_newObj_type ?_ (by size_fits))
 refine wpAny_bind (m:=firstArgMember _ _) (wpAny_of_eq (a:=Value.none) (by first | rfl | (simp only[firstArgMember];rfl)) (wpAny_newObj_type ?_ (by size_fits)))
 simp only[raiseNew]
 refine wpAny_bind (wpAny_handled ?_)
 rw[show A.in1.handled=none from hh]
 refine wpAny_bind (wpAny_pure (wpAny_throw (h (.ref _) _ ⟨_,Heap.get?_push_size _ rfl,rfl⟩ fun b o e=>Heap.get?_push_of_some _ (Heap.get?_push_of_some _ e))))
def SAt (h:Heap) (a:Addr) (es:Array (Int×Value)) (ep:Nat) (t:SetTable):Prop:=h.get? a=some { cls:=.type "set",dict:=none,data:=.set es ep t,slots:=#[] }/\t.fits es.size=true
theorem set_entries {a:Addr}{es:Array (Int×Value)}{ep:Nat}{t:SetTable}{Q:Array (Int×Value)->Shared->Prop} (S:SAt s.heap a es ep t) (h:Q es s):wpAny (model prog w) A (setEntries a) Q E s:=by
 unfold setEntries
 exact wpAny_bind (wpAny_setState_of S.1 rfl S.2 (wpAny_pure h))
theorem fields_put {I:Addr}{vs:Array Value}{k:Nat}{v:Value}{Q:Unit->Shared->Prop} (ho:s.heap.get? I=some { cls:=.type "set_iterator",data:=.fields vs }) (hk:k<vs.size)
  (h:∀ h',(∀ b o,b≠I->s.heap.get? b=some o->h'.get? b=some o)->h'.get? I=some { cls:=.type "set_iterator",data:=.fields (vs.setIfInBounds k v) }->Q () { s with heap:=h' }):wpAny (model prog w) A (setField (.ref I) k v) Q E s:=by
 refine wpAny_setField ho rfl hk (h _ (fun b o hb e=>?_) ?_)
 ·exact (Heap.get?_update_other _ _ (Ne.symm hb)).trans e
 ·have:=Heap.get?_update_self (Obj.mapFields (·.setIfInBounds k v)) ho (Obj.isFreed_of_fields (Obj.data_mapFields rfl _))
  rw[this];rfl
theorem next_int {I a:Addr}{slot i n ep:Nat}{es:Array (Int×Value)}{t:SetTable}{r:Option (Value×Nat)}{Q:Option Value->Shared->Prop} (hh:A.handled=none) (hI:s.heap.get? I=some (sIt (.int slot 0) i a n ep)) (S:SAt s.heap a es ep t) (hn:es.size=n)
  (hr:∀ (A':Around) (E':Value->Shared->Prop) (Q':Option (Value×Nat)->Shared->Prop),Q' r s->wpAny (model prog w) A' (setNext a slot i ep) Q' E' s)
  (h:match r with
   | some (x,nx)=>∀ h',(∀ b o,b≠I->s.heap.get? b=some o->h'.get? b=some o)->h'.get? I=some (sIt (.int nx 0) (i+1) a n ep)->Q (some x) { s with heap:=h' }
   | none=>∀ h',(∀ b o,b≠I->s.heap.get? b=some o->h'.get? b=some o)->Q none { s with heap:=h' }):wpAny (model prog w) A (pyNext (.ref I)) Q E s:=by
 have hT:s.TypeIs (.ref I) "set_iterator":=⟨_,hI,rfl⟩
 unfold pyNext
 refine wpAny_bind (wpAny_attempt (wpAny_callSpecial?_slot (name:=Str.ofString "__next__") hT slot_sit (wpAny_call_entry slot_sit hT entry_sit ?_ (args_sit _))))
 unfold Builtin.«set_iterator.__next__»
 refine wpAny_bind (wpAny_pure ?_)
 refine wpAny_bind (wpAny_fieldsOf hI rfl ?_)
 refine wpAny_bind (set_entries S ?_)
 rw[if_neg (by rw[hn];simp)]
 refine wpAny_bind (hr _ _ _ ?_)
 have et:((slot:Int)).toNat=slot:=Int.toNat_natCast _
 cases r with
 | some p=>
  obtain⟨x,nx⟩:=p
  dsimp only at h ⊢
  refine wpAny_bind (fields_put hI (by simp) fun h1 k1 i1=>wpAny_bind (fields_put (s:={ s with heap:=h1 }) i1 (by simp) fun h2 k2 i2=>?_))
  exact wpAny_pure ⟨_,rfl,wpAny_pure (h h2 (fun b o hb e=>k2 b o hb (k1 b o hb e)) (by rw[i2];simp [sIt,rawInt]))⟩
 | none=>
  dsimp only at h ⊢
  refine wpAny_bind (fields_put hI (by simp) fun h1 k1 i1=>?_)
  refine stop_end (s:={ s with heap:=h1 }) hh fun e h2 hT2 k2=>?_
  refine wpAny_bind (wpAny_isInstance (T:="StopIteration") (b:=true) hT2 isSubtype_stop ?_)
  exact wpAny_pure (h h2 fun b o hb e=>k2 b o (k1 b o hb e))
end
end L2
end
section
namespace L2
open PySem PySem.Spec PyProof.Rows PySem.W
section
variable {prog:Program}{w:World}{A:Around}{E:Value->Shared->Prop}{s:Shared}
theorem next_ref {I a tp:Addr}{i n ep:Nat}{es:Array (Int×Value)}{t:SetTable}{vs:Array Value}{m:Nat}{Q:Option Value->Shared->Prop} (hh:A.handled=none) (hI:s.heap.get? I=some (sIt (.ref tp) i a n ep)) (S:SAt s.heap a es ep t) (hn:es.size=n)
  (hP:s.heap.get? tp=some { cls:=.type "tuple",data:=.seq vs m })
  (h:(∃ (j:Nat) (u:Tok) (e:Int×Value),vs[i]?=some (.int j u)/\es[j]?=some e/\∀ h',(∀ b o,b≠I->s.heap.get? b=some o->h'.get? b=some o)->h'.get? I=some (sIt (.ref tp) (i+1) a n ep)->Q (some e.2) { s with heap:=h' }) \/
   (vs[i]?=none/\∀ h',(∀ b o,b≠I->s.heap.get? b=some o->h'.get? b=some o)->Q none { s with heap:=h' })):wpAny (model prog w) A (pyNext (.ref I)) Q E s:=by
 have hT:s.TypeIs (.ref I) "set_iterator":=⟨_,hI,rfl⟩
 unfold pyNext
 refine wpAny_bind (wpAny_attempt (wpAny_callSpecial?_slot (name:=Str.ofString "__next__") hT slot_sit (wpAny_call_entry slot_sit hT entry_sit ?_ (args_sit _))))
 unfold Builtin.«set_iterator.__next__»
 refine wpAny_bind (wpAny_pure ?_)
 refine wpAny_bind (wpAny_fieldsOf hI rfl ?_)
 refine wpAny_bind (set_entries S ?_)
 rw[if_neg (by rw[hn];simp)]
 dsimp only
 refine wpAny_bind (wpAny_seqItems hP rfl ?_)
 dsimp only
 rw[Int.toNat_natCast]
 rcases h with ⟨j,u,e,h1,h2,h3⟩ | ⟨h1,h2⟩
 ·rw[h1]
  dsimp only
  rw[Int.toNat_natCast,Int.toNat_natCast]
  have sn:∀ {R:Value->Shared->Prop}{E':Value->Shared->Prop}{A':Around},R e.2 s->wpAny (model prog w) A' (setNextDrawn a j ep) R E' s:=fun {R E' A'} q=>by
   unfold setNextDrawn
   refine wpAny_bind (wpAny_setState_of S.1 rfl S.2 ?_)
   dsimp only
   rw[if_neg (by simp),h2]
   exact wpAny_bind (wpAny_pure (wpAny_pure q))
  refine wpAny_bind (sn (wpAny_bind (fields_put hI (by simp) fun h' k1 i1=>?_)))
  exact wpAny_pure ⟨_,rfl,wpAny_pure (h3 h' k1 (by rw[i1];simp [sIt,rawInt]))⟩
 ·rw[h1]
  dsimp only
  refine wpAny_bind (fields_put hI (by simp) fun h3 k3 i3=>wpAny_bind (fields_put (s:={ s with heap:=h3 }) i3 (by simp) fun h4 k4 i4=>?_))
  refine stop_end (s:={ s with heap:=h4 }) hh fun e h5 hT2 k5=>?_
  refine wpAny_bind (wpAny_isInstance (T:="StopIteration") (b:=true) hT2 isSubtype_stop ?_)
  exact wpAny_pure (h2 h5 fun b o hb e=>k5 b o (k4 b o hb (k3 b o hb e)))
theorem by_text {Q:Bool->Shared->Prop} (h:Q (w.params.followText "set-order") s):wpAny (model prog w) A setsByText Q E s:=by
 unfold setsByText
 exact wpAny_bind (wpAny_askSetting (wpAny_pure h))
theorem siti_self {I:Addr}{o:Obj}{Q:Value->Shared->Prop} (hI:s.heap.get? I=some o) (hc:o.cls=.type "set_iterator") (h:Q (.ref I) s):wpAny (model prog w) A (pyIter (.ref I)) Q E s:=by
 have hT:s.TypeIs (.ref I) "set_iterator":=⟨_,hI,hc⟩
 have ent:entryFor table "set_iterator.__iter__"=some Builtin.«dict_keyiterator.__iter__»:=entryFor_alias (id':="dict_keyiterator.__iter__") (by kernel_rfl) rfl (by decide +kernel) (by kernel_rfl)
 have arg:argsOk "set_iterator.__iter__" ⟨[.ref I],[]⟩:=by
  unfold argsOk;rw[signature?_of (id:="set_iterator.__iter__") (n:=['_','_','r','e','t','i','_','_']) (o:=['r','o','t','a','r','e','t','i','_','t','e','s']) (by kernel_rfl) owner_sit];kernel_rfl
 refine wpAny_pyIter_slot hT slot_siti (wpAny_call_entry slot_siti hT ent ?_ arg)
 unfold Builtin.«dict_keyiterator.__iter__»
 refine wpAny_bind (wpAny_pure ?_)
 exact wpAny_pure ⟨_,rfl,"set_iterator",_,hT,slot_sit.lookup,h⟩
theorem walk_text {I a:Addr} (hne:a≠I) {es:Array (Int×Value)}{ep:Nat}{t:SetTable} (bt:w.params.followText "set-order"=true) (hh:A.handled=none) :
  WalksS prog w A I [I,a] [I] (fun x y=>y=x) es.size (fun i v=>((pickOrder (w.params.setOrder a ep) es).toList.map (·.2))[i]?=some v) (fun i s=>s.heap.get? I=some (sIt (.int 0 0) i a es.size ep)/\SAt s.heap a es ep t) where
 sub:=fun b hb=>by simp at hb;simp [hb]
 grefl:=fun _=>rfl
 gtrans:=fun _ _ _ h1 h2=>h2.trans h1
 frame:=fun i s h' tk st _ k=>⟨k I (by simp) _ st.1,k a (by simp) _ st.2.1,st.2.2⟩
 item:=fun i s Q E hi st q=>by
  have hs:(pickOrder (w.params.setOrder a ep) es).toList.length=es.size:=by rw[(pick_perm _ es).length_eq,Array.length_toList]
  have hi':i<(pickOrder (w.params.setOrder a ep) es).toList.length:=by lia
  have hx:(pickOrder (w.params.setOrder a ep) es)[i]?=some ((pickOrder (w.params.setOrder a ep) es).toList[i]):=by rw[<- Array.getElem?_toList];exact List.getElem?_eq_getElem hi'
  refine next_int (slot:=0) (r:=some (((pickOrder (w.params.setOrder a ep) es).toList[i]).2,0)) hh st.1 st.2 rfl (fun A' E' Q' q'=>?_) fun h' k hI=>?_
  ·unfold setNext
   refine wpAny_bind (wpAny_setState_of st.2.1 rfl st.2.2 (wpAny_bind (by_text ?_)))
   rw[bt,if_pos rfl,if_neg (by simp)]
   unfold setWalk
   refine wpAny_bind (wpAny_bind (wpAny_setState_of st.2.1 rfl st.2.2 (wpAny_bind (by_text ?_))))
   rw[bt,if_pos rfl]
   refine wpAny_bind (wpAny_askSetting (wpAny_pure (wpAny_pure ?_)))
   show Q' (((pickOrder (w.params.setOrder a ep) es)[i]?).map fun e=>(e.2,0)) s
   rw[hx];exact q'
  ·refine q _ _ ?_ ⟨hI,k a _ hne st.2.1,st.2.2⟩ ⟨fun b o hb e=>k b o (fun z=>hb (by simp [z])) e,rfl,rfl,rfl,Nat.le_refl _⟩
   rw[List.getElem?_map,List.getElem?_eq_getElem hi'];rfl
 done:=fun s Q E st q=>by
  have hs:(pickOrder (w.params.setOrder a ep) es).toList.length=es.size:=by rw[(pick_perm _ es).length_eq,Array.length_toList]
  have hx:(pickOrder (w.params.setOrder a ep) es)[es.size]?=none:=by rw[<- Array.getElem?_toList];exact List.getElem?_eq_none (by lia)
  refine next_int (slot:=0) (r:=none) hh st.1 st.2 rfl (fun A' E' Q' q'=>?_) fun h' k=>q _ ⟨fun b o hb e=>k b o (fun z=>hb (by simp [z])) e,rfl,rfl,rfl,Nat.le_refl _⟩
  unfold setNext
  refine wpAny_bind (wpAny_setState_of st.2.1 rfl st.2.2 (wpAny_bind (by_text ?_)))
  rw[bt,if_pos rfl,if_neg (by simp)]
  unfold setWalk
  refine wpAny_bind (wpAny_bind (wpAny_setState_of st.2.1 rfl st.2.2 (wpAny_bind (by_text ?_))))
  rw[bt,if_pos rfl]
  refine wpAny_bind (wpAny_askSetting (wpAny_pure (wpAny_pure ?_)))
  show Q' (((pickOrder (w.params.setOrder a ep) es)[es.size]?).map fun e=>(e.2,0)) s
  rw[hx];exact q'
 self:=fun i s Q E st q=>siti_self st.1 rfl q
theorem walk_one {I a:Addr} (hne:a≠I) {es:Array (Int×Value)}{ep:Nat}{t:SetTable} (bt:w.params.followText "set-order"=false) (led:t.led=true) (h1:es.size<=1) (hh:A.handled=none) :
  WalksS prog w A I [I,a] [I] (fun x y=>y=x) es.size (fun i v=>(es.toList.map (·.2))[i]?=some v) (fun i s=>s.heap.get? I=some (sIt (.int (if i=0 then 0 else t.place.getD 0 0+1:Nat) 0) i a es.size ep)/\SAt s.heap a es ep t) where
 sub:=fun b hb=>by simp at hb;simp [hb]
 grefl:=fun _=>rfl
 gtrans:=fun _ _ _ h1 h2=>h2.trans h1
 frame:=fun i s h' tk st _ k=>⟨k I (by simp) _ st.1,k a (by simp) _ st.2.1,st.2.2⟩
 item:=fun i s Q E hi st q=>by
  obtain rfl:i=0:=by lia
  have hz:es.size=1:=by lia
  have hp:t.place.size=1:=by
   have:=st.2.2
   simp only[SetTable.fits,Bool.and_eq_true,beq_iff_eq]at this
   lia
  have hdr:(!t.plain && decide (es.size > 1))=false:=by rw[hz];simp
  refine next_int (slot:=0) (r:=some ((es[0]'(by lia)).2,t.place.getD 0 0+1)) hh (by simpa using st.1) st.2 rfl (fun A' E' Q' q'=>?_) fun h' k hI=>?_
  ·unfold setNext
   refine wpAny_bind (wpAny_setState_of st.2.1 rfl st.2.2 (wpAny_bind (by_text ?_)))
   rw[bt,if_neg Bool.false_ne_true]
   dsimp only
   refine wpAny_ite_split (fun z=>absurd (hdr.symm.trans (show (!t.plain && decide (es.size > 1))=true from z)) Bool.false_ne_true) (fun _=>?_)
   refine wpAny_bind ?_
   show wpAny _ _ (if (!t.led && !es.isEmpty)=true then _ else pure PUnit.unit) _ _ s
   rw[led,if_neg (by simp)]
   refine wpAny_pure (wpAny_pure ?_)
   have eb:SetTable.below t.place 0=0:=by
    unfold SetTable.below
    rw[hp]
    simp [SetTable.below.go]
   rw[eb,Array.getElem?_eq_getElem (show 0<es.size by lia),Array.getElem?_eq_getElem (show 0<t.place.size by lia)]
   have eg:t.place.getD 0 0=t.place[0]'(by lia):=by rw[Array.getD_eq_getD_getElem?,Array.getElem?_eq_getElem (show 0<t.place.size by lia)];rfl
   rw[eg]at q'
   exact q'
  ·refine q _ _ ?_ ⟨by rw[if_neg (by lia)];exact hI,k a _ hne st.2.1,st.2.2⟩ ⟨fun b o hb e=>k b o (fun z=>hb (by simp [z])) e,rfl,rfl,rfl,Nat.le_refl _⟩
   rw[List.getElem?_map,Array.getElem?_toList,Array.getElem?_eq_getElem (show 0<es.size by lia)];rfl
 done:=fun s Q E st q=>by
  have hp:t.place.size=es.size:=by
   have:=st.2.2
   simp only[SetTable.fits,Bool.and_eq_true,beq_iff_eq]at this
   lia
  have hdr:(!t.plain && decide (es.size > 1))=false:=by simp;lia
  refine next_int (r:=none) hh st.1 st.2 rfl (fun A' E' Q' q'=>?_) fun h' k=>q _ ⟨fun b o hb e=>k b o (fun z=>hb (by simp [z])) e,rfl,rfl,rfl,Nat.le_refl _⟩
  unfold setNext
  refine wpAny_bind (wpAny_setState_of st.2.1 rfl st.2.2 (wpAny_bind (by_text ?_)))
  rw[bt,if_neg Bool.false_ne_true]
  dsimp only
  refine wpAny_ite_split (fun z=>absurd (hdr.symm.trans (show (!t.plain && decide (es.size > 1))=true from z)) Bool.false_ne_true) (fun _=>?_)
  refine wpAny_bind ?_
  show wpAny _ _ (if (!t.led && !es.isEmpty)=true then _ else pure PUnit.unit) _ _ s
  rw[led,if_neg (by simp)]
  refine wpAny_pure (wpAny_pure ?_)
  have eb:SetTable.below t.place (if es.size=0 then 0 else t.place.getD 0 0+1)=es.size:=by
   rcases Nat.lt_or_ge es.size 1 with hz | hz
   ·have z0:es.size=0:=by lia
    unfold SetTable.below
    rw[hp,z0]
    simp [SetTable.below.go]
   ·have z1:es.size=1:=by lia
    have eg:∀ d,t.place.getD 0 d=t.place[0]'(by lia):=fun d=>by rw[Array.getD_eq_getD_getElem?,Array.getElem?_eq_getElem (show 0<t.place.size by lia)];rfl
    unfold SetTable.below
    rw[hp,z1]
    simp [SetTable.below.go,eg]
  rw[eb,Array.getElem?_eq_none (Nat.le_refl _)]
  exact q'
 self:=fun i s Q E st q=>siti_self st.1 rfl q
theorem walk_drawn {I a tp:Addr} (hne:a≠I) (hnt:tp≠I) {es:Array (Int×Value)}{ep m:Nat}{t:SetTable}{ps:List Nat} (hp:ps.Perm (List.range es.size)) (hh:A.handled=none) :
  WalksS prog w A I [I,a,tp] [I] (fun x y=>y=x) es.size (fun i v=>(ps.map fun j=>(es.getD j (0,.none)).2)[i]?=some v)
   (fun i s=>s.heap.get? I=some (sIt (.ref tp) i a es.size ep)/\SAt s.heap a es ep t/\s.heap.get? tp=some { cls:=.type "tuple",data:=.seq (ps.map fun i=>rawInt (i:Nat)).toArray m }) where
 sub:=fun b hb=>by simp at hb;simp [hb]
 grefl:=fun _=>rfl
 gtrans:=fun _ _ _ h1 h2=>h2.trans h1
 frame:=fun i s h' tk st _ k=>⟨k I (by simp) _ st.1,⟨k a (by simp) _ st.2.1.1,st.2.1.2⟩,k tp (by simp) _ st.2.2⟩
 item:=fun i s Q E hi st q=>by
  have hl:ps.length=es.size:=by rw[hp.length_eq,List.length_range]
  have hi':i<ps.length:=by lia
  have hj:ps[i]<es.size:=List.mem_range.mp (hp.mem_iff.mp (List.getElem_mem hi'))
  refine next_ref hh st.1 st.2.1 rfl st.2.2 (.inl ⟨ps[i],0,es[ps[i]],?_,Array.getElem?_eq_getElem hj,fun h' k hI=>?_⟩)
  ·simp [List.getElem?_eq_getElem hi',rawInt]
  ·refine q _ _ ?_ ⟨hI,⟨k a _ hne st.2.1.1,st.2.1.2⟩,k tp _ hnt st.2.2⟩ ⟨fun b o hb e=>k b o (fun z=>hb (by simp [z])) e,rfl,rfl,rfl,Nat.le_refl _⟩
   rw[List.getElem?_map,List.getElem?_eq_getElem hi']
   simp [Array.getD_eq_getD_getElem?,Array.getElem?_eq_getElem hj]
 done:=fun s Q E st q=>by
  have hl:ps.length=es.size:=by rw[hp.length_eq,List.length_range]
  refine next_ref hh st.1 st.2.1 rfl st.2.2 (.inr ⟨?_,fun h' k=>q _ ⟨fun b o hb e=>k b o (fun z=>hb (by simp [z])) e,rfl,rfl,rfl,Nat.le_refl _⟩⟩)
  simp [hl]
 self:=fun i s Q E st q=>siti_self st.1 rfl q
end
end L2
end
section
namespace L2
open PySem PySem.Spec PyProof.Rows PySem.W
section
variable {prog:Program}{w:World}{A:Around}{E:Value->Shared->Prop}{s:Shared}
theorem iter_set {a:Addr}{zs:List Str}{Q:Value->Shared->Prop} (S:SetS prog w s.heap a zs)
  (h:∀ (I:Addr) (h':Heap) (d:Drawn) (fp:List Addr) (St:Nat->Shared->Prop) (os:List Value),(∀ b o,s.heap.get? b=some o->h'.get? b=some o)->(∀ b∈fp,s.heap.objs.size<=b\/b=a)->s.heap.objs.size<=I ->
   (∃ ys:List Str,StrsAre os ys/\ys.Nodup/\∀ x,x∈ys ↔ x∈zs)->(∀ A':Around,A'.handled=none->WalksS prog w A' I fp [I] (fun x y=>y=x) os.length (fun i v=>os[i]?=some v) St)->(∀ tk,St 0 { s with heap:=h',drawn:=d,toks:=tk })->Q (.ref I) { s with heap:=h',drawn:=d }) :
  wpAny (model prog w) A (pyIter (.ref a)) Q E s:=by
 obtain⟨es,ep,t,ho,hel,hf,hled,hpl,hsz,nd,hm⟩:=S
 have hT:s.TypeIs (.ref a) "set":=⟨_,ho,rfl⟩
 have S0:SAt s.heap a es ep t:=⟨ho,hf⟩
 have la:a<s.heap.objs.size:=Heap.lt_size ho
 have vals:∀ os:List Value,os.Perm (es.toList.map (·.2))->∃ ys:List Str,StrsAre os ys/\ys.Nodup/\∀ x,x∈ys ↔ x∈zs:=fun os p=>by
  have all:∀ v∈os,∃ u,v=.str (valS v) u:=fun v hv=>by
   obtain⟨e,he,rfl⟩:=List.mem_map.mp (p.mem_iff.mp hv)
   obtain⟨u,h1,_⟩:=elem_str hel he
   exact⟨u,h1⟩
  have are:∀ l:List Value,(∀ v∈l,∃ u,v=.str (valS v) u)->StrsAre l (l.map valS):=by
   intro l
   induction l with
   | nil=>intro _;exact .nil
   | cons v l ih=>
    intro hv
    obtain⟨u,e⟩:=hv v List.mem_cons_self
    have:=ih fun x hx=>hv x (List.mem_cons_of_mem _ hx)
    rw[List.map_cons]
    rw[e]
    exact .cons _ u this
  have pp:(os.map valS).Perm (strsOf es.toList):=by
   have:=p.map valS
   rw[List.map_map]at this
   exact this
  exact⟨os.map valS,are os all,pp.nodup_iff.mpr nd,fun x=>(pp.mem_iff).trans (hm x)⟩
 refine wpAny_pyIter_slot hT F.slot_set_iter (wpAny_call_entry F.slot_set_iter hT entry_setiter ?_ (F.args_set_iter_1 _))
 unfold Builtin.«frozenset.__iter__» Builtin.Frozenset.slot0
 refine wpAny_bind (wpAny_pure ?_)
 unfold Builtin.Frozenset.sizeOf
 refine wpAny_bind (wpAny_bind (set_entries S0 (wpAny_pure ?_)))
 unfold setDrawn
 refine wpAny_bind (wpAny_bind (wpAny_setState_of S0.1 rfl S0.2 (wpAny_bind (by_text (wpAny_pure ?_)))))
 have size_ne:a≠s.heap.objs.size:=Nat.ne_of_lt la
 cases bt:w.params.followText "set-order" with
 | true=>
  refine wpAny_ite_split (fun z=>absurd z (by simp)) (fun _=>?_)
  refine wpAny_bind (wpAny_pure ?_)
  refine wpAny_bind (wpAny_setEpoch_of S0.1 rfl S0.2 ?_)
  unfold newFields
  refine wpAny_bind (wpAny_newObj_type (wpAny_pure ⟨_,rfl,"set_iterator",_,⟨_,Heap.get?_push_size _ rfl,rfl⟩,slot_sit.lookup,?_⟩) (by size_fits))
  have pp:=(pick_perm (w.params.setOrder a ep) es).map (·.2)
  have ol:((pickOrder (w.params.setOrder a ep) es).toList.map (·.2)).length=es.size:=by rw[pp.length_eq];simp
  refine h s.heap.objs.size _ s.drawn [s.heap.objs.size,a] (fun i s'=>s'.heap.get? s.heap.objs.size=some (sIt (.int 0 0) i a es.size ep)/\SAt s'.heap a es ep t) ((pickOrder (w.params.setOrder a ep) es).toList.map (·.2)) (fun b o e=>Heap.get?_push_of_some _ e) (fun b hb=>?_) (Nat.le_refl _) (vals _ pp) (fun A' hA=>by rw[ol];exact walk_text size_ne (t:=t) bt hA) (fun tk=>⟨Heap.get?_push_size _ rfl,Heap.get?_push_of_some _ S0.1,S0.2⟩)
  simp at hb
  rcases hb with rfl | rfl
  ·exact .inl (Nat.le_refl _)
  ·exact .inr rfl
 | false=>
  rw[bt]at hled
  rcases Nat.lt_or_ge 1 es.size with h2 | h1
  ·have pl:t.plain=false:=by
    rcases hpl with z | z
    ·exact z
    ·rw[z]at h2;simp at h2
   refine wpAny_ite_split (fun _=>?_) (fun z=>absurd (show (!false && (!t.plain && decide (es.size > 1)))=true by rw[pl];simp;lia) z)
   refine wpAny_bind (draw_order es.size (List.range es.size) s _ (by simp) fun ps d hp=>?_)
   refine wpAny_bind (wpAny_newTuple ?_ (by rw[List.length_map,hp.length_eq,List.length_range];exact fits_of_scanBound (by show es.size<4096;lia)))
   have o1:∀ {o:Obj}{b:Addr},s.heap.get? b=some o->(s.heap.push { cls:=.type "tuple",data:=.seq (ps.map fun (i:Nat)=>rawInt i).toArray }).get? b=some o:=fun e=>Heap.get?_push_of_some _ e
   refine wpAny_bind (wpAny_setEpoch_of (o1 S0.1) rfl S0.2 ?_)
   unfold newFields
   refine wpAny_bind (wpAny_newObj_type (wpAny_pure ⟨_,rfl,"set_iterator",_,⟨_,Heap.get?_push_size _ rfl,rfl⟩,slot_sit.lookup,?_⟩) (by size_fits))
   have hl:ps.length=es.size:=by rw[hp.length_eq,List.length_range]
   have pp:(ps.map fun j=>(es.getD j (0,.none)).2).Perm (es.toList.map (·.2)):=by
    refine (hp.map _).trans ?_
    have e:(List.range es.size).map (fun j=>(es.getD j (0,.none)).2)=es.toList.map (·.2):=by
     refine List.ext_getElem? fun i=>?_
     rw[List.getElem?_map,List.getElem?_map]
     by_cases hi:i<es.size
     ·have a1:(List.range es.size)[i]?=some i:=by simp [hi]
      have a2:es.toList[i]?=some es[i]:=by simp [hi]
      rw[a1,a2]
      simp [Array.getD_eq_getD_getElem?,Array.getElem?_eq_getElem hi]
     ·have a1:(List.range es.size)[i]?=none:=by simp;lia
      have a2:es.toList[i]?=none:=by simp;lia
      rw[a1,a2];rfl
    rw[e]
   have sz1:(s.heap.push { cls:=.type "tuple",data:=.seq (ps.map fun (i:Nat)=>rawInt i).toArray }).objs.size=s.heap.objs.size+1:=Heap.size_push _ _
   have n1:a≠(s.heap.push { cls:=.type "tuple",data:=.seq (ps.map fun (i:Nat)=>rawInt i).toArray }).objs.size:=by rw[sz1];exact Nat.ne_of_lt (Nat.lt_succ_of_lt la)
   have n2:s.heap.objs.size≠(s.heap.push { cls:=.type "tuple",data:=.seq (ps.map fun (i:Nat)=>rawInt i).toArray }).objs.size:=by rw[sz1];exact Nat.ne_of_lt (Nat.lt_succ_self _)
   refine h (s.heap.push { cls:=.type "tuple",data:=.seq (ps.map fun (i:Nat)=>rawInt i).toArray }).objs.size _ d [(s.heap.push { cls:=.type "tuple",data:=.seq (ps.map fun (i:Nat)=>rawInt i).toArray }).objs.size,a,s.heap.objs.size]
    (fun i s'=>s'.heap.get? (s.heap.push { cls:=.type "tuple",data:=.seq (ps.map fun (i:Nat)=>rawInt i).toArray }).objs.size=some (sIt (.ref s.heap.objs.size) i a es.size ep)/\SAt s'.heap a es ep t/\s'.heap.get? s.heap.objs.size=some { cls:=.type "tuple",data:=.seq (ps.map fun i=>rawInt (i:Nat)).toArray 0 })
    (ps.map fun j=>(es.getD j (0,.none)).2) (fun b o e=>Heap.get?_push_of_some _ (o1 e)) (fun b hb=>?_) (by rw[sz1];exact Nat.le_succ _) (vals _ pp) (fun A' hA=>by rw[List.length_map,hl];exact walk_drawn (m:=0) n1 n2 (t:=t) (ep:=ep) hp hA) (fun tk=>⟨Heap.get?_push_size _ rfl,⟨Heap.get?_push_of_some _ (o1 S0.1),S0.2⟩,Heap.get?_push_of_some _ (Heap.get?_push_size _ rfl)⟩)
   simp only[List.mem_cons,List.not_mem_nil,or_false]at hb
   rcases hb with rfl | rfl | rfl
   ·exact .inl (by rw[sz1];exact Nat.le_succ _)
   ·exact .inr rfl
   ·exact .inl (Nat.le_refl _)
  ·refine wpAny_ite_split (fun z=>absurd (show (!false && (!t.plain && decide (es.size > 1)))=true from z) (by simp;lia)) (fun _=>?_)
   refine wpAny_bind (wpAny_pure ?_)
   refine wpAny_bind (wpAny_setEpoch_of S0.1 rfl S0.2 ?_)
   unfold newFields
   refine wpAny_bind (wpAny_newObj_type (wpAny_pure ⟨_,rfl,"set_iterator",_,⟨_,Heap.get?_push_size _ rfl,rfl⟩,slot_sit.lookup,?_⟩) (by size_fits))
   have ol:(es.toList.map (·.2)).length=es.size:=by simp
   refine h s.heap.objs.size _ s.drawn [s.heap.objs.size,a] (fun i s'=>s'.heap.get? s.heap.objs.size=some (sIt (.int (if i=0 then 0 else t.place.getD 0 0+1:Nat) 0) i a es.size ep)/\SAt s'.heap a es ep t) (es.toList.map (·.2)) (fun b o e=>Heap.get?_push_of_some _ e) (fun b hb=>?_) (Nat.le_refl _) (vals _ (.refl _)) (fun A' hA=>by rw[ol];exact walk_one size_ne (t:=t) bt (by simpa using hled) h1 hA) (fun tk=>⟨Heap.get?_push_size _ rfl,Heap.get?_push_of_some _ S0.1,S0.2⟩)
   simp at hb
   rcases hb with rfl | rfl
   ·exact .inl (Nat.le_refl _)
   ·exact .inr rfl
theorem hint_set {r:Addr}{Q:Bool->Shared->Prop} (hT:s.TypeIs (.ref r) "set") (h:Q false s):wpAny (model prog w) A (Builtin.List.listLengthHint (.ref r)) Q E s:=by
 unfold Builtin.List.listLengthHint
 refine wpAny_bind (wpAny_specialOf hT PySem.F.slot_set_len.lookup ?_)
 generalize hid:("set.__len__" : String)=id0
 wp_delta
 rw[show splitId id0=some ("set","__len__") from by subst hid;decide +kernel]
 subst hid
 refine wpAny_bind (wpAny_isInstance (T:="set") (b:=true) hT (by rw[isSubtype_type];kernel_rfl) ?_)
 refine wpAny_ite_split (fun z=>absurd z (by decide)) (fun _=>wpAny_ite_split (fun _=>wpAny_bind (wpAny_typeOf hT (wpAny_pure h))) (fun z=>absurd (by decide +kernel) z))
theorem collect_set {a : Addr} {zs : List Str} {R : List Value -> Shared -> Prop} (hh : A.handled = none) (S : SetS prog w s.heap a zs) (hz : zs.length < 3900)
    (h : ∀ (h' : Heap) (tk : Nat) (d : Drawn) (os : List Value) (ys : List Str), (∀ b o, s.heap.get? b = some o -> h'.get? b = some o) -> StrsAre os ys -> ys.Nodup -> (∀ x, x ∈ ys ↔ x ∈ zs) -> R os { s with heap := h', toks := tk, drawn := d }) :
    wpAny (model prog w) A (collect (.ref a)) R E s := by
  have la : a < s.heap.objs.size := let ⟨_, _, _, ho, _⟩ := S; Heap.lt_size ho
  unfold collect
  refine wpAny_bind (wpAny_runValue (codeAny_builtin entry_proto_collect' ?_))
  rw [Around.under_plainId PySem.F.plain_proto_collect _]
  show wpAny _ A.in1 (newList [] >>= fun u => again (.builtin "list.__iadd__" ⟨[u, .ref a], []⟩)) _ _ s
  refine wpAny_bind (wpAny_newObj_type (wpAny_pure ⟨plainId_quiet PySem.F.plain_list_iadd _, codeAny_builtin entry_list_iadd' ?_⟩))
  rw [Around.under_plainId PySem.F.plain_list_iadd _]
  have hL : (s.heap.push { cls := .type "list", data := .seq ([] : List Value).toArray }).get? s.heap.objs.size = some { cls := .type "list", data := .seq #[] } := Heap.get?_push_size _ rfl
  have S1 : SetS prog w (s.heap.push { cls := .type "list", data := .seq ([] : List Value).toArray }) a zs := S.at fun o e => Heap.get?_push_of_some _ e
  have hT : Shared.TypeIs { s with heap := s.heap.push { cls := .type "list", data := .seq ([] : List Value).toArray } } (.ref a) "set" := let ⟨_, _, _, ho, _⟩ := S1; ⟨_, ho, rfl⟩
  have sz1 : (s.heap.push { cls := .type "list", data := .seq ([] : List Value).toArray }).objs.size = s.heap.objs.size + 1 := Heap.size_push _ _
  have k0 : ∀ b o, s.heap.get? b = some o -> (s.heap.push { cls := .type "list", data := .seq ([] : List Value).toArray }).get? b = some o := fun b o e => Heap.get?_push_of_some _ e
  show wpAny _ A.in1 (Builtin.List.listExtendWith (.ref s.heap.objs.size) (.ref a) (.ref s.heap.objs.size)) _ _ _
  generalize s.heap.push { cls := .type "list", data := .seq ([] : List Value).toArray } = g1 at hL S1 hT sz1 k0 ⊢
  have nLa : s.heap.objs.size ≠ a := Nat.ne_of_gt la
  unfold Builtin.List.listExtendWith
  refine wpAny_bind (wpAny_typeOf (T := "set") hT ?_)
  have e1 : Builtin.List.listSameRef (.ref s.heap.objs.size) (.ref a) = false := by simp [Builtin.List.listSameRef, nLa]
  simp only [e1, show (Value.type "set" == Value.type "list") = false by decide, show (Value.type "set" == Value.type "tuple") = false by decide, Bool.or_false, Bool.false_eq_true, if_false]
  refine wpAny_bind (iter_set S1 fun I h2 d fp St os k2 hfp hI are W st => ?_)
  obtain ⟨ys, sa, nd, mem⟩ := are
  have hL2 := k2 _ _ hL
  have nf : s.heap.objs.size ∉ fp := fun z => by
    rcases hfp _ z with q | q
    · rw [sz1] at q; lia
    · exact nLa q
  have nI : s.heap.objs.size ≠ I := by rw [sz1] at hI; lia
  have hT2 : Shared.TypeIs { s with heap := h2, drawn := d } (.ref a) "set" := let ⟨_, _, _, ho, _⟩ := S1; ⟨_, k2 _ _ ho, rfl⟩
  refine wpAny_bind (wpAny_holding (hint_set hT2 ?_))
  have lo : os.length = ys.length := sa.length
  have fit : os.length <= sizeLine := by
    have := List.Nodup.length_le_of_subset nd fun y hy => (mem y).mp hy
    exact Nat.le_trans (show os.length <= 4000 by lia) (by decide)
  have key : ∀ (g : Heap) (c tk : Nat), St 0 { s with heap := g, drawn := d, toks := tk } -> (∀ b o, b ≠ s.heap.objs.size -> h2.get? b = some o -> g.get? b = some o) -> g.get? s.heap.objs.size = some { cls := .type "list", data := .seq #[] c } ->
      codeAny (model prog w) A (.builtin "list.extend.loop" ⟨[.ref s.heap.objs.size, .ref I, .ref s.heap.objs.size], []⟩) (fun r s' => ∃ (h' : Heap) (tk : Nat) (acc : Array Value) (c' : Nat), r = .ok (.ret (.ref s.heap.objs.size)) /\ s' = { s with heap := h', toks := tk, drawn := d } /\ (∀ b o, s.heap.get? b = some o -> h'.get? b = some o) /\
        h'.get? s.heap.objs.size = some { cls := .type "list", dict := none, data := .seq acc c', slots := #[] } /\ ItemsOf (fun i v => os[i]? = some v) acc os.length) { s with heap := g, drawn := d, toks := tk } := by
    intro g c tk st' kg hg
    refine codeAny_extend_loopS (W A.in1 (by simpa using hh)) fit s.heap.objs.size nf (.ref s.heap.objs.size) os.length 0 _ #[] c rfl (Nat.zero_le _) st' hg (ItemsOf.nil _) fun s' acc c' m hS' hacc => ?_
    obtain ⟨hx, gx, dx, tx, ox⟩ := s'
    have eg : gx = s.gens := m.gens
    have ed : dx = d := m.drawn
    have eo : ox = s.os := m.os
    subst eg; subst ed; subst eo
    refine ⟨hx, tx, acc, c', rfl, rfl, fun b o e => ?_, hS', hacc⟩
    have lb := Heap.lt_size e
    refine m.heap b o ?_ (kg b o (Nat.ne_of_lt lb) (k2 b o (k0 b o e)))
    simp only [List.mem_cons, List.not_mem_nil, or_false, not_or]
    exact ⟨Nat.ne_of_lt lb, Nat.ne_of_lt (Nat.lt_trans lb (by rw [sz1] at hI; exact hI))⟩
  have fin : ∀ (r : Result) (s' : Shared), (∃ (h' : Heap) (tk : Nat) (acc : Array Value) (c' : Nat), r = .ok (.ret (.ref s.heap.objs.size)) ∧ s' = { s with heap := h', toks := tk, drawn := d } ∧ (∀ b o, s.heap.get? b = some o → h'.get? b = some o) ∧
        h'.get? s.heap.objs.size = some { cls := .type "list", dict := none, data := .seq acc c', slots := #[] } /\ ItemsOf (fun i v => os[i]? = some v) acc os.length) -> ∃ (h' : Heap) (tk c' : Nat), r = .ok (.ret (.ref s.heap.objs.size)) /\ s' = { s with heap := h', toks := tk, drawn := d } /\ h'.get? s.heap.objs.size = some { cls := .type "list", dict := none, data := .seq os.toArray c', slots := #[] } /\ R os { s with heap := h', toks := tk, drawn := d } := by
    rintro r s' ⟨h', tk, acc, c', rfl, rfl, k, hS', hacc⟩
    have e : acc = os.toArray := by
      refine Array.ext (by rw [List.size_toArray]; exact hacc.1) fun i h1 h2 => ?_
      have := hacc.2 i acc[i] (Array.getElem?_eq_getElem h1)
      rw [List.size_toArray] at h2
      rw [List.getElem?_eq_getElem h2] at this
      injection this with this
      rw [<- this]; simp
    subst e
    exact ⟨h', tk, c', rfl, rfl, hS', h h' tk d os ys k sa nd mem⟩
  refine wpAny_ite_split (fun _ => ?touch) (fun _ => wpAny_pure ⟨plainId_quiet PySem.F.plain_extend_loop _, codeAny_mono (key h2 0 s.toks (st _) (fun b o _ e => e) hL2) fun r s' y => ?last⟩)
  case last =>
    obtain ⟨h', tk, c', rfl, rfl, hS', q⟩ := fin r s' y
    show wpAny _ A (load s.heap.objs.size >>= _) _ _ _
    exact wpAny_bind (wpAny_load hS' (wpAny_pure q))
  case touch =>
    refine wpAny_bind (wpAny_rule (wpAny_bind ?_))
    show wpAny _ _ (updateSeq s.heap.objs.size (·.push .none) >>= fun _ => updateSeq s.heap.objs.size (·.pop)) _ _ _
    refine wpAny_bind (wpAny_updateSeq hL2 rfl ?_)
    have u2 := Heap.get?_update_self (Obj.mapSeq (·.push Value.none)) hL2 rfl
    refine wpAny_updateSeq (hz := by seq_fits) u2 rfl ?_
    have u3 := Heap.get?_update_self (Obj.mapSeq (·.pop)) u2 rfl
    have oth : ∀ b o, b ≠ s.heap.objs.size -> h2.get? b = some o -> ((h2.update s.heap.objs.size (Obj.mapSeq (·.push Value.none))).update s.heap.objs.size (Obj.mapSeq (·.pop))).get? b = some o := fun b o hb e => (Heap.get?_update_other _ _ (Ne.symm hb)).trans ((Heap.get?_update_other _ _ (Ne.symm hb)).trans e)
    refine wpAny_pure ⟨plainId_quiet PySem.F.plain_extend_loop _, codeAny_mono (key _ _ s.toks ((W A hh).frame 0 _ _ _ (st s.toks) (Nat.le_refl _) fun b hb o e => oth b o (fun z => nf (z ▸ hb)) e) oth u3) fun r s' y => ?_⟩
    obtain ⟨h', tk, c', rfl, rfl, hS', q⟩ := fin r s' y
    show wpAny _ A (load s.heap.objs.size >>= _) _ _ _
    exact wpAny_bind (wpAny_load hS' (wpAny_pure q))
end
end L2
end
section
namespace L2
open PySem PySem.Spec PyProof.Rows
theorem bt_set:bootBuiltins "set"=some (.type "set"):=by decide +kernel
theorem bt_max:bootBuiltins "max"=some (.builtin "max"):=by decide +kernel
section
variable {X:Cx}
theorem Inv.setd {pins:List (Addr×Obj)} {σ:St} {H:Hp}{s:Shared} (I:Inv X pins σ H s) (d:Drawn):Inv X pins σ H { s with drawn:=d }:=⟨I.ok,I.os,I.bare,I.base,I.loc,I.cell,I.free,I.freeC,I.pin,I.hok,I.len⟩
theorem sorted_set {pins:List (Addr×Obj)}{s:Shared} {σ:St} {H:Hp}{a:Addr}{zs:List Str}{Q:VK} (hc:X.calm=true) (I:Inv X pins σ H s) (S:SetS X.prog X.w s.heap a zs) (h64:zs.length<64)
  (q:∀ (p:Addr) (ys:List Str),H p=none->ys.Nodup->(∀ x,x∈ys ↔ x∈zs)->sortedS ys=true->Q (.ref p) (upd H p (.lst (ys.map V.str)))) :
  wpAny (model X.prog X.w) X.A (call (.builtin "sorted") [.ref a]) (EP X pins σ Q) X.xe s:=by
 have hh:=I.ok.hd hc
 refine Calls.call_function_entry kind_sorted plain_sorted entry_sorted (args_sorted1 _) ?_
 unfold Builtin.«sorted»
 refine wpAny_bind (m:=checkCount "sorted" 1 1 _) (wpAny_pure ?_)
 refine wpAny_bind (collect_set (A:=X.A.in1) hh S (by lia) fun h' tk d os ss keep hS nd mem=>?_)
 have hl:os.length=ss.length:=hS.length
 have le:ss.length<=zs.length:=List.Nodup.length_le_of_subset nd fun y hy=>(mem y).mp hy
 have fit:os.length<=sizeLine:=Nat.le_trans (show os.length<=64 by lia) (by decide)
 refine wpAny_bind (wpAny_newList ?_ fit)
 have hoL:(h'.push { cls:=.type "list",data:=.seq os.toArray }).get? h'.objs.size=some (seqObj "list" os.toArray 0):=Heap.get?_push_size _ rfl
 refine wpAny_bind (wpAny_holding (wpAny_call_entry slot_list_sort ⟨_,hoL,rfl⟩ entry_list_sort (list_sort_treeK strKind_oneLt hoL hS.keysOf (fun v₁ v₂ rest e=>keyKind_strs (by rw[<- e];exact hS)) (by lia) fun st' a1 a2=>⟨_,rfl,?_⟩) (args_list_sort _)))
 obtain⟨ys,b1,b2,b3⟩:=sorted_out_str hS a1 a2
 refine wpAny_pure ⟨_,rfl,?_⟩
 have I1:Inv X pins σ H { s with heap:=h',toks:=tk,drawn:=d }:=(I.kept (t':=tk) keep).setd d
 obtain⟨e,hat2⟩:=sortedHeap_at (out:=(arrOf st').map (·.2)) hoL
 have hz:(ys.map V.str).length<=sizeLine:=by rw[List.length_map,b2.length_eq,<- hl];exact fit
 refine⟨.ref h'.objs.size,upd H h'.objs.size (.lst (ys.map V.str)),?_,rfl,q _ ys (I1.hok.fresh (Nat.le_refl _)) (b2.nodup_iff.mpr nd) (fun x=>b2.mem_iff.trans (mem x)) b3⟩
 refine I1.laid (t':=tk) (fun b o hb=>?_) (Nat.le_refl _) ⟨hz,_,e,ofStrs b1,?_⟩
 ·have hlt:b<h'.objs.size:=Heap.lt_size hb
  rw[sortedHeap_old (Nat.ne_of_lt hlt) (by rw[Heap.size_push];exact Nat.lt_succ_of_lt hlt)]
  exact Heap.get?_push_of_some _ hb
 ·rw[hat2]
theorem strsOfVals:∀ {us:List Value}{ys:List Str},Vals (ys.map V.str) us->StrsAre us ys
 | _,[],h=>by cases h;exact .nil
 | _,y::ys,h=>by
  rw[List.map_cons]at h
  cases h with
  | cons r rs=>
   obtain⟨t,rfl⟩:=r
   exact .cons _ _ (strsOfVals rs)
end
end L2
end
section
namespace L2
open PySem PySem.Spec PyProof.Rows
section
variable {X:Cx}
end
section
variable {H:Hp}{p c:Addr}{cs:List Int}{n r t:Int}{kn:Option Int}{kvs:List (Key×V)}
end
def Ex (p:Addr) (H H':Hp):Prop:=∀ b o,b≠p->H b=some o->H' b=some o
theorem Ex.refl (p:Addr) (H:Hp):Ex p H H:=fun _ _ _ h=>h
theorem Ex.trans {p:Addr}{H H1 H2:Hp} (a:Ex p H H1) (b:Ex p H1 H2):Ex p H H2:=fun c o n h=>b c o n (a c o n h)
theorem ex_upd {p:Addr}{H:Hp}{o:HO}:Ex p H (upd H p o):=fun b u n h=>by rw[upd_ne n];exact h
theorem ex_new {p q:Addr}{H:Hp}{o:HO} (h:H q=none):Ex p H (upd H q o):=fun b u n e=>by rw[upd_ne (ne_of_none e h)];exact e
theorem Ex.upd' {p c:Addr}{H H':Hp}{o:HO} (e:Ex p H H') (h:H c=none):Ex p H (upd H' c o):=fun b q n z=>by rw[upd_ne (ne_of_none z h)];exact e b q n z
theorem Same.ex {p:Addr}{H H':Hp} (s:Same H H'):Ex p H H':=fun b o _ h=>s b o h
end L2
end
section
namespace L2
open PySem PySem.Spec PyProof.Rows
section
variable {X:Cx}
end
end L2
end
section
namespace L2
open PySem PySem.Spec PyProof.Rows PyProof.V
theorem bt_sum:bootBuiltins "sum"=some (.builtin "sum"):=by decide +kernel
section
variable {X:Cx}
def rSum (K:PySem.W.Frag):List V->Hp->VK->Prop:=fun ws H Q=>∃ (p:Addr) (ns:List Int),ws=[.ref p]/\SqL K H p (ns.map V.int)/\Q (.int ns.sum) H
theorem call_sumL (hc:X.calm=true):CallR X (.builtin "sum") (rSum X.K):=by
 intro pins s σ H ws us Q I r h
 obtain⟨p,ns,rfl,hq,q⟩:=h
 obtain⟨u,rfl,ru⟩:=r.one
 cases ru
 have hh:=I.ok.hd hc
 obtain⟨its,rv,pl,_⟩:=I.list hq
 have hi:IntsAre its ns:=intsAre_of rv
 have hl:s.heap.IsList p its.toArray:=pl.isList
 obtain⟨xs,hx⟩:=hi.allInts.items
 have hn:numsOf its.toArray.toList=ns:=by rw[show its.toArray.toList=its from rfl,hi.numsOf]
 rw[hx]at hl hn
 rw[nums_intItems]at hn
 obtain⟨ob,o1,o2,k,o3⟩:=id hl
 have ne:p≠s.heap.objs.size:=Nat.ne_of_lt (Heap.lt_size o1)
 have W:=(Walks.list (prog:=X.prog) (w:=X.w) (A:=X.A.in1) hh s.heap.objs.size p ne (intItems xs)).toS
 rw[show (intItems xs).size=xs.size by simp [intItems]]at W
 refine call_sum_walkAnyS (wpAny_pyIter_list hl ?_)
 refine⟨s.heap.objs.size,_,_,_,_,_,_,numAt xs,rfl,W,⟨⟨_,Heap.get?_push_size _ rfl,rfl,rfl⟩,hl.push _⟩,fun b hb=>?_,fun i v hP=>intItems_at hP,fun s' t' hm=>?_⟩
 ·rcases List.mem_cons.mp hb with z | z
  ·rw[z];exact Heap.lt_size (Heap.get?_push_size _ rfl)
  ·rw[List.mem_singleton.mp z];exact Heap.lt_size (Heap.get?_push_of_some _ o1)
 ·obtain⟨h',g',d',tk',os'⟩:=s'
  have z1:g'=s.gens:=hm.gens
  have z2:d'=s.drawn:=hm.drawn
  have z3:os'=s.os:=hm.os
  subst z1 z2 z3
  have keep:∀ b o,s.heap.get? b=some o->h'.get? b=some o:=fun b o e=>hm.heap b o (fun hb=>absurd (Heap.lt_size e) ((List.mem_singleton.mp hb) ▸ Nat.lt_irrefl _)) (Heap.get?_push_of_some _ e)
  refine⟨.int ns.sum,H,I.kept (t':=tk') keep,?_,q⟩
  rw[preSum_eq,List.take_of_length_le (by simp),hn]
  exact⟨t',rfl⟩
variable {pos:Pos}
end
end L2
end
section
namespace L2
open PySem PySem.Spec PyProof.Rows
section
variable {X:Cx}{pos pos' apos:Pos}{o e value:Expr}{es:List Expr}{f:Str}{ta tv to te:TE}{tA:TA}
theorem we_fld (he:Hd (PE X e ta)) (hb:attributeBase e f X.env (eval e X.env)=eval e X.env:=by rfl):Hd (PE X (.Attribute e f pos) (tFld X.K ta f)):=⟨pe_fld he.out hb⟩
theorem ws_fld (ha:Hd (PE X o ta)) (hv:Hd (PE X value tv)) (hs:swapsWith value (some (.Attribute o f pos')) pos.line X.env=pure false:=by rfl):Hd (PS X (.Assign [.Attribute o f pos'] value pos) (sFld X.K ta tv f)):=⟨ps_fld ha.out hv.out hs⟩
theorem we_meth {CX:CXT}{k:Nat}{C fa:Addr}{fd:FuncData}{ps:List Str}{sp:Sp}{dvs:List V}{ds:List Value}{E:XK}{m:Str}{pl:Sem Bool} (he:Hd (PE X o ta)) (c:Cls X.K C) (hm:Meth X.K C m fa) (F:FnOk X.prog X.w X.K X.mg X.base CX k fa fd ps sp) (hr:Room k X.A) (hb:Binds X.K fd ps ds) (hd:Vals dvs ds) (hx:Passes CX X E)
  (ha:Hd (PA X (e::es) tA)) (hs:noStars (e::es)=true:=by rfl) (ht:eval (.Call (.Attribute o m apos) (e::es) [] pos) X.env=(do
   let ov <- eval o X.env
   standAt apos.atName
   let (f,first) <- holding [ov] (getMethod ov m pl)
   callWith pos f first (backTo pos (starEach (e::es) X.env)) (backToKw pos (keywordEach [] X.env))):=by rfl):Hd (PE X (.Call (.Attribute o m apos) (e::es) [] pos) (tMeth C m sp dvs E ta tA)):=by
 have h':(notStar e && noStars es)=true:=hs
 rw[Bool.and_eq_true]at h'
 exact⟨pe_meth he.out c hm F hr hb hd hx ha.out (star_cons h'.1) (stars_any h'.2) ht⟩
theorem we_meth0 {CX:CXT}{k:Nat}{C fa:Addr}{fd:FuncData}{ps:List Str}{sp:Sp}{dvs:List V}{ds:List Value}{E:XK}{m:Str}{pl:Sem Bool} (he:Hd (PE X o ta)) (c:Cls X.K C) (hm:Meth X.K C m fa) (F:FnOk X.prog X.w X.K X.mg X.base CX k fa fd ps sp) (hr:Room k X.A) (hb:Binds X.K fd ps ds) (hd:Vals dvs ds) (hx:Passes CX X E)
  (ht:eval (.Call (.Attribute o m apos) [] [] pos) X.env=(do
   let ov <- eval o X.env
   standAt apos.atName
   let (f,first) <- holding [ov] (getMethod ov m pl)
   callWith pos f first (backTo pos (starEach [] X.env)) (backToKw pos (keywordEach [] X.env))):=by rfl):Hd (PE X (.Call (.Attribute o m apos) [] [] pos) (tMeth C m sp dvs E ta tNil)):=⟨pe_meth0 he.out c hm F hr hb hd hx ht⟩
theorem vals_get:∀ {xs:List V}{us:List Value}{i:Nat}{v:Value},Vals xs us->us[i]?=some v->∃ x,xs[i]?=some x/\RelV x v
 | _,_,i,v,.nil,e=>by simp at e
 | _,_,0,v,.cons r _,e=>by simp at e;subst e;exact⟨_,rfl,r⟩
 | _,_,i+1,v,.cons _ t,e=>by
  obtain⟨x,h1,h2⟩:=vals_get (i:=i) t (by simpa using e)
  exact⟨x,by simpa using h1,h2⟩
end
end L2
end
section
namespace L2
open PySem PySem.Spec PyProof.Rows
def exAll (f:Expr->Option Dt):List Expr->Option (List Dt)
 | []=>some []
 | e::es=>match f e with
  | none=>none
  | some d=>match exAll f es with
   | none=>none
   | some ds=>if ds.length<1000 then some (d::ds) else none
def conDt:Const->Option Dt
 | .int i=>some (.int i)
 | .str x=>some (.str x)
 | _=>none
def exDtN:Nat->Expr->Option Dt
 | 0,_=>none
 | n+1,e=>match e with
  | .Constant c _ _=>conDt c
  | .Tuple es _ _=>(exAll (exDtN n) es).map Dt.tup
  | _=>none
def tDt (d:Dt):TE:=fun _ H Q=>∀ (v:V) (H':Hp),Same H H'->IsDt H' d v->Q v H'
def tDts (ds:List Dt):TA:=fun _ H Q=>∀ (us:List V) (H':Hp),Same H H'->IsDts H' ds us->Q us H'
theorem exAll_len {f:Expr->Option Dt}:∀ {es:List Expr}{ds:List Dt},exAll f es=some ds->ds.length<=1000
 | [],ds,h=>by rw[exAll]at h;cases h;simp
 | e::es,ds,h=>by
  rw[exAll]at h
  split at h
  ·cases h
  ·split at h
   ·cases h
   ·split at h
    ·cases h;simp;lia
    ·cases h
theorem exDtN_ns:∀ {n:Nat}{e:Expr}{d:Dt},exDtN n e=some d->notStar e=true
 | 0,_,_,h=>by cases h
 | n+1,e,d,h=>by
  cases e <;> first | rfl | (have h':(none:Option Dt)=some d:=h;cases h')
section
variable {X:Cx}
theorem pa_all {f:Expr->Option Dt} (hf:∀ e d,f e=some d->PE X e (tDt d)) (hn:∀ e d,f e=some d->notStar e=true):∀ (es:List Expr) (ds:List Dt),exAll f es=some ds->PA X es (tDts ds)
 | [],ds,h=>by
  rw[exAll]at h;cases h
  intro pos pins s σ H Q I q
  exact pa_nil pos pins s σ H Q I (q [] H (.refl _) .nil)
 | e::es,ds,h=>by
  rw[exAll]at h
  cases h1:f e with
  | none=>rw[h1]at h;cases h
  | some d=>
   cases h2:exAll f es with
   | none=>rw[h1,h2]at h;cases h
   | some dr=>
    rw[h1,h2]at h
    dsimp only at h
    split at h
    ·cases h
     intro pos pins s σ H Q I q
     exact qa_cons (hf e d h1) (pa_all hf hn es dr h2) (hn e d h1) pos pins s σ H Q I fun v H1 s1 iv us H2 s2 ius=>q _ _ (s1.trans s2) (.cons (IsDt.mono s2.tups iv) ius)
    ·cases h
theorem pe_dt:∀ (n:Nat) (e:Expr) (d:Dt),exDtN n e=some d->PE X e (tDt d)
 | 0,_,_,h=>by cases h
 | n+1,e,d,h=>by
  cases e
  case Constant c k p=>
   cases c
   case int i=>
    have h':some (Dt.int i)=some d:=h
    cases h'
    intro pins s σ H Q I q
    exact pe_int pins s σ H Q I (q _ _ (.refl _) (by rw[IsDt]))
   case str x=>
    have h':some (Dt.str x)=some d:=h
    cases h'
    intro pins s σ H Q I q
    exact pe_str pins s σ H Q I (q _ _ (.refl _) (by rw[IsDt]))
   all_goals (have h':(none:Option Dt)=some d:=h;cases h')
  case Tuple es k p=>
   have h':(exAll (exDtN n) es).map Dt.tup=some d:=h
   obtain⟨ds,hds,e⟩:=Option.map_eq_some_iff.mp h'
   subst e
   intro pins s σ H Q I q
   refine pe_tup (pa_all (pe_dt n) (fun _ _=>exDtN_ns) es ds hds) pins s σ H Q I fun us H' s' ius=>⟨?_,fun p hp=>q _ _ (s'.trans fun b o z=>by rw[upd_ne (ne_of_none z hp)];exact z) (isDt_new hp ius)⟩
   rw[ius.length]
   exact Nat.le_trans (exAll_len hds) (by decide)
  all_goals (have h':(none:Option Dt)=some d:=h;cases h')
theorem we_call0 {CX:CXT}{k:Nat}{f:Addr}{fd:FuncData}{ps:List Str}{sp:Sp}{dvs:List V}{ds:List Value}{E:XK}{x:Str}{p pos:Pos} (F:FnOk X.prog X.w X.K X.mg X.base CX k f fd ps sp) (hr:Room k X.A) (hg:Gl X x) (hm:X.mg x=some (.ref f)) (hk:PySem.W.keepIn X.K (.ref f)=true) (hb:Binds X.K fd ps ds) (hd:Vals dvs ds) (hx:Passes CX X E)
  (hdb:(x == ("__debug__" : Str))=false:=by decide):Hd (PE X (.Call (.Name x p) [] [] pos) (tCall sp dvs E tNil)):=⟨pe_call0 F hr hg hm hk hb hd hx hdb⟩
theorem we_dt {e:Expr}{d:Dt} (h:exDtN 12 e=some d):Hd (PE X e (tDt d)):=⟨pe_dt 12 e d h⟩
end
end L2
end
section
namespace Kn
open PySem PySem.W PyProof.Rows
section
variable {lt:Nat->Nat->Bool}
theorem prm_desc:∀ (f:Nat) (p:Array Nat) (m q:Nat),(krun lt (kas_desc f p m q)).1.Perm p
 | 0,p,_,_=>by rw[kas_desc];exact .refl _
 | f+1,p,m,q=>by
  rw[kas_desc,krun]
  split
  ·split
   ·exact (prm_desc f _ _ _).trans (mirror_perm _ _ _ _)
   ·exact prm_desc f _ _ _
  ·rw[krun]
   split
   ·exact .refl _
   ·exact prm_desc f _ _ _
theorem prm_tail (p:Array Nat) (m k:Nat):(krun lt (kas_tail3 m k p)).2.Perm p:=by
 unfold kas_tail3
 rw[krun_bind]
 exact mirror_perm _ _ _ _
theorem prm_descPart (p:Array Nat) (m k:Nat):(krun lt (kas_descPart m k p)).2.Perm p:=by
 unfold kas_descPart
 rw[krun_bind]
 split
 ·exact (prm_tail _ _ _).trans ((mirror_perm _ _ _ _).trans (prm_desc _ _ _ _))
 ·exact (prm_tail _ _ _).trans (prm_desc _ _ _ _)
theorem prm_count (p:Array Nat) (k:Nat):(krun lt (kas_count k p)).2.Perm p:=by
 unfold kas_count
 rw[krun_bind]
 split
 ·exact .refl _
 split
 ·rw[krun]
  split
  ·exact .refl _
  ·exact (prm_descPart _ _ _).trans (mirror_perm _ _ _ _)
 ·exact prm_descPart _ _ _
theorem prm_bin:∀ (f:Nat) (p:Array Nat) (k:Nat),(krun lt (kas_bin f p k)).Perm p
 | 0,p,_=>by rw[kas_bin];exact .refl _
 | f+1,p,k=>by
  rw[kas_bin,krun_bind]
  exact (prm_bin f _ _).trans (bubble_perm _ _ _)
theorem prm_sort (n:Nat):(krun lt (kas_sort n)).Perm (List.range n).toArray:=by
 unfold kas_sort
 rw[krun_bind]
 split
 ·exact (prm_bin _ _ _).trans (prm_count _ _)
 ·exact prm_count _ _
end
end Kn
namespace L2
open PySem PySem.Spec PyProof.Rows PySem.W
open Kn (sLt krun)
mutual
noncomputable def ltD:Dt->Dt->Option Bool
 | .int i,e=>match e with | .int j=>some (decide (i<j)) | _=>none
 | .str x,e=>match e with | .str y=>some (sLt x y) | _=>none
 | .tup ds,e=>match e with | .tup es=>ltDs ds es | _=>none
noncomputable def ltDs:List Dt->List Dt->Option Bool
 | [],es=>some (decide (es≠[]))
 | d::ds,es=>match es with | []=>some false | e::es=>if d=e then ltDs ds es else ltD d e
end
def RcLt (P:Program) (w:World) (A:Around) (s:Shared) (x y:Value) (r:Bool):Prop:=∀ (E:Value->Shared->Prop) (Q:Value->Shared->Prop),Q (.bool r) s->wpAny (model P w) A (richCompare .Lt x y) Q E s
section
open PySem.SeqAt
open PySem.AutoSeq1 (wpAny_loadPart')
open PySem.MeetsSeq PySem.MeetsSeq2 PySem.MeetsSeq3
variable {P:Program}{w:World}{H:Hp}
inductive DRow (H:Hp):List Dt->List Value->Prop
 | nil:DRow H [] []
 | cons {d:Dt}{v:V}{x:Value}{ds:List Dt}{us:List Value}:IsDt H d v->RelV v x->DRow H ds us->DRow H (d::ds) (x::us)
theorem drow_of:∀ {ds:List Dt}{xs:List V}{us:List Value},IsDts H ds xs->Vals xs us->DRow H ds us
 | [],_,_,h,r=>by rw[IsDts]at h;subst h;cases r;exact .nil
 | d::ds,_,_,h,r=>by
  rw[IsDts]at h
  obtain⟨y,ys,rfl,h1,h2⟩:=h
  cases r with
  | cons q t=>exact .cons h1 q (drow_of h2 t)
theorem DRow.length {ds:List Dt}{us:List Value} (h:DRow H ds us):ds.length=us.length:=by
 induction h with
 | nil=>rfl
 | cons _ _ _ ih=>simp [ih]
theorem tuple_ltD (n : Nat) (ih : ∀ (A : Around) (s : Shared) (d e : Dt) (v u : V) (x y : Value) (r : Bool), HOk P w H s.heap -> d.dep <= n -> A.units + n < cLine -> IsDt H d v -> IsDt H e u -> RelV v x -> RelV u y -> ltD d e = some r -> RcLt P w A s x y r)
    (l b : Addr) (items items2 : Array Value) (n1 n2 : Nat) (dd dd2 : Option Addr) (sl sl2 : Array (Option Value)) (ks js : List Dt) (hi : DRow H ks items.toList) (hj : DRow H js items2.toList) (hdep : depL ks <= n) (r : Bool) (hr : ltDs ks js = some r) :
    MeetsIn P w (Builtin.«tuple.__lt__» ⟨[.ref l, .ref b], []⟩)
      (fun A R s => A.units + 1 + n < cLine /\ HOk P w H s.heap /\ s.heap.get? l = some { cls := .type "tuple", dict := dd, data := .seq items n1, slots := sl } /\ s.heap.get? b = some { cls := .type "tuple", dict := dd2, data := .seq items2 n2, slots := sl2 } /\
        R (.ok (.ret (.bool r))) s) :=
  .of_wp fun A R s h => by
    obtain ⟨hp, g, d, tk, os⟩ := s; obtain ⟨hu, ok, hl, hb, h⟩ := h
    have f2 := AutoSeq1.sub_tuple_tuple
    have z1 : items.size = ks.length := by have := hi.length; simpa using this.symm
    have z2 : items2.size = js.length := by have := hj.length; simpa using this.symm
    wp_walk using wpAny_loadPart' hl, wpAny_loadPart' hb, wpAny_forIn_list _ (fun rest b s' => b.1 = none /\ s' = ⟨hp, g, d, tk, os⟩ /\ ∃ (vs ws : List Value) (ks' js' : List Dt), rest = vs.zip ws /\
      DRow H ks' vs /\ DRow H js' ws /\ depL ks' <= n /\ ks'.length + items2.size = js'.length + items.size /\ ltDs ks' js' = some r) _
    case turn =>
      rintro ⟨y, x⟩ rest b s' ⟨hb', rfl, vs, ws, ks', js', hz, hvi, hwi, hdp, hlen, hR⟩
      cases hvi with
      | nil => rw [List.zip_nil_left] at hz; cases hz
      | @cons a av ax ks' vs' ia ra hvi' =>
        cases hwi with
        | nil => rw [List.zip_nil_right] at hz; cases hz
        | @cons c cv cx js' ws' ic rc hwi' =>
              rw [List.zip_cons_cons] at hz
              injection hz with hyx hrest
              injection hyx with hy hx
              subst hy hx
              rw [ltDs] at hR
              rw [depL] at hdp
              simp only [List.length_cons] at hlen
              have he := eqAt_D n A.in1 ⟨hp, g, d, tk, os⟩ a c av cv y x ok (by lia) (by show A.units + 1 + n < cLine; lia) ia ic ra rc
              refine wpAny_bind (he P w _ _ ?_)
              by_cases ac : a = c
              · rw [decide_eq_true ac]
                rw [if_pos ac] at hR
                wp_walk
                exact ⟨rfl, rfl, _, _, _, _, hrest, hvi', hwi', by lia, by lia, hR⟩
              · rw [decide_eq_false ac]
                rw [if_neg ac] at hR
                have hri := ih A.in1 ⟨hp, g, d, tk, os⟩ a c av cv y x r ok (by lia) (by show A.units + 1 + n < cLine; lia) ia ic ra rc hR
                unfold RcLt at hri
                wp_walk using hri
                exact ⟨_, rfl, by simpa using h⟩
    case fin =>
      rintro ⟨b1, b2⟩ s' ⟨hb', rfl, vs, ws, ks', js', hz, hvi, hwi, _, hlen, hR⟩
      simp only at hb'
      subst hb'
      have hv : r = decide (items.size < items2.size) := by
        cases hvi with
        | nil =>
          cases hwi with
          | nil =>
            simp only [List.length_nil] at hlen
            rw [ltDs] at hR
            cases hR
            simp; lia
          | cons _ _ _ =>
            simp only [List.length_nil, List.length_cons] at hlen
            rw [ltDs] at hR
            cases hR
            simp; lia
        | cons _ _ _ =>
          cases hwi with
          | nil =>
            simp only [List.length_nil, List.length_cons] at hlen
            rw [ltDs] at hR
            cases hR
            exact (decide_eq_false (by lia)).symm
          | cons _ _ _ =>
            rw [List.zip_cons_cons] at hz
            cases hz
      rw [hv] at h
      wp_walk
      exact ⟨_, rfl, by simpa [Builtin.Tuple.tupleCompareSizes] using h⟩
    case h =>
      exact ⟨rfl, rfl, items.toList, items2.toList, ks, js, rfl, hi, hj, hdep, by lia, hr⟩
theorem rcLt_D:∀ (n:Nat) (A:Around) (s:Shared) (d e:Dt) (v u:V) (x y:Value) (r:Bool),HOk P w H s.heap->d.dep<=n->A.units+n<cLine->IsDt H d v->IsDt H e u->RelV v x->RelV u y->ltD d e=some r->RcLt P w A s x y r:=by
 intro n
 induction n with
 | zero=>
  intro A s d e v u x y r ok hd hu iv iu rv ru h E Q q
  cases d with
  | int i=>
   cases e with
   | int j=>
    rw[IsDt]at iv iu;subst iv iu
    obtain⟨t,rfl⟩:=rv
    obtain⟨t',rfl⟩:=ru
    rw[ltD]at h;cases h
    exact HT.rcLt_int A s i t j t' P w E Q q
   | str z=>simp [ltD]at h
   | tup es=>simp [ltD]at h
  | str i=>
   cases e with
   | int j=>simp [ltD]at h
   | str z=>
    rw[IsDt]at iv iu;subst iv iu
    obtain⟨t,rfl⟩:=rv
    obtain⟨t',rfl⟩:=ru
    rw[ltD]at h;cases h
    exact (PyProof.Rows.lt_str q:wpAny (model P w) A (compareOp .Lt (.str i t) (.str z t')) Q E s)
   | tup es=>simp [ltD]at h
  | tup ds=>rw[Dt.dep]at hd;lia
 | succ n ih=>
  intro A s d e v u x y r ok hd hu iv iu rv ru h
  cases d with
  | int i=>exact ih A s _ e v u x y r ok (by rw[Dt.dep];lia) (by lia) iv iu rv ru h
  | str i=>exact ih A s _ e v u x y r ok (by rw[Dt.dep];lia) (by lia) iv iu rv ru h
  | tup ds=>
   cases e with
   | int j=>simp [ltD]at h
   | str z=>simp [ltD]at h
   | tup es=>
    intro E Q q
    rw[ltD]at h
    rw[Dt.dep]at hd
    rw[IsDt]at iv iu
    obtain⟨a,xs,rfl,h1,h2⟩:=iv
    obtain⟨b,ys,rfl,g1,g2⟩:=iu
    cases rv
    cases ru
    obtain⟨_,its,r1,p1⟩:=ok a _ h1
    obtain⟨_,its2,r2,p2⟩:=ok b _ g1
    obtain⟨⟨cls,dd,data,sl⟩,ho,hc,n1,hd1⟩:=id p1
    obtain⟨⟨cls2,dd2,data2,sl2⟩,ho2,hc2,n2,hd2⟩:=id p2
    simp only at hc hd1 hc2 hd2
    subst hc hd1 hc2 hd2
    exact wpAny_richCompare_same_room (op:=.Lt) ⟨_,ho,rfl⟩ ⟨_,ho2,rfl⟩ PySem.F.slot_tuple_lt (call_meetsIn PySem.F.slot_tuple_lt ⟨_,ho,rfl⟩ PySem.F.entry_tuple_lt (PySem.F.args_tuple_lt_2 _ _) (tuple_ltD n ih a b its.toArray its2.toArray n1 n2 dd dd2 sl sl2 ds es (by simpa using drow_of h2 r1) (by simpa using drow_of g2 r2) (by lia) r h)
     ⟨by lia,ok,ho,ho2,show Value.bool r≠Value.notImplemented/\Q (.bool r) s from ⟨(fun x=>nomatch x),q⟩⟩) (by lia)
end
end L2
end
section
namespace L2
open PySem PySem.Spec PyProof.Rows PySem.W
open Kn (sLt krun)
theorem HOk.but {P:Program}{w:World}{H:Hp}{h h':Heap}{a:Addr} (x:HOk P w H h) (ha:H a=none) (k:∀ b u,b≠a->h.get? b=some u->h'.get? b=some u):HOk P w H h':=fun b o e=>
 (x b o e).stay (fun c u hc q=>k c u (by rintro rfl;rcases hc with rfl | hc;(· rw[ha]at e;cases e);(· rw[ha]at hc;cases hc)) q) (fun _ q=>q) fun _ _ q=>q
def tyD:Dt->String
 | .int _=>"int"
 | .str _=>"str"
 | .tup _=>"tuple"
theorem looks_tyD {P:Program}{w:World}{M:Model}{H:Hp}{h:Heap} (ok:HOk P w H h) {d:Dt}{v:V}{x:Value} (i:IsDt H d v) (r:RelV v x):Looks M h (typeOf x) (.type (tyD d)):=by
 cases d with
 | int n=>rw[IsDt]at i;subst i;obtain⟨t,rfl⟩:=r;exact .now
 | str n=>rw[IsDt]at i;subst i;obtain⟨t,rfl⟩:=r;exact .now
 | tup ds=>
  rw[IsDt]at i
  obtain⟨a,xs,rfl,h1,_⟩:=i
  cases r
  obtain⟨_,its,_,o,ho,hc,_⟩:=ok a _ h1
  have:=(show Looks M h (typeOf (.ref a)) o.cls from (Looks.ld ho).andThen .now)
  rw[hc]at this
  exact this
section
variable {prog:Program}{w:World}{A:Around}{E:Value->Shared->Prop}{s:Shared}{H:Hp}
theorem katLex_D {b fin:Bool}{Q:Bool->Shared->Prop}{n:Nat} (ok:HOk prog w H s.heap) (hu:A.units+n<cLine):∀ (ds es:List Dt) (us ws:List Value) (i:Nat) (r:Bool),DRow H ds us->DRow H es ws->depL ds<=n->ltDs ds es=some r->fin=decide (ds.length<es.length) ->
  ((b && i == 0)=true->∀ d e,ds.head?=some d->es.head?=some e->tyD d=tyD e/\tyD d≠"tuple")->Q r s->KatLex prog w A b fin Q (us.zip ws) i s
 | _,_,_,_,i,r,.nil,.nil,_,h,hf,_,q=>by
  rw[ltDs]at h;cases h
  subst hf
  refine kat_nil (by simpa using q)
 | _,_,_,_,i,r,.nil,.cons _ _ _,_,h,hf,_,q=>by
  rw[ltDs]at h;cases h
  subst hf
  refine kat_nil (by simpa using q)
 | _,_,_,_,i,r,.cons _ _ _,.nil,_,h,hf,_,q=>by
  rw[ltDs]at h;cases h
  rw[List.zip_nil_right]
  subst hf
  exact q
 | _,_,_,_,i,r,.cons (d:=d) (v:=v) (x:=x) (ds:=ds) (us:=us) iv rv t,.cons (d:=e) (v:=u) (x:=y) (ds:=es) (us:=ws) iu ru t',hd,h,hf,hb,q=>by
  rw[depL]at hd
  rw[ltDs]at h
  rw[List.zip_cons_cons]
  refine kat_cons (eqAt_D n A s d e v u x y ok (by lia) hu iv iu rv ru _ _ _ _ ?_)
  by_cases ac:d=e
  ·rw[if_pos ac]at h
   rw[decide_eq_true ac]
   refine kat_yes (katLex_D ok hu ds es us ws (i+1) r t t' (by lia) h (by rw[hf];simp) (fun z=>?_) q)
   simp at z
  ·rw[if_neg ac]at h
   rw[decide_eq_false ac]
   refine kat_no ?_
   cases hbb:(b && i == 0) with
   | false=>exact kat_one _ _ (rcLt_D n A s d e v u x y r ok (by lia) hu iv iu rv ru h _ _ q)
   | true=>
    obtain⟨t1,t2⟩:=hb hbb d e rfl rfl
    cases d with
    | int m=>
     cases e with
     | int k=>
      rw[IsDt]at iv iu;subst iv iu
      obtain⟨t,rfl⟩:=rv
      obtain⟨t',rfl⟩:=ru
      rw[ltD]at h;cases h
      exact oneLt_int q
     | str z=>simp [ltD]at h
     | tup z=>simp [ltD]at h
    | str m=>
     cases e with
     | int k=>simp [ltD]at h
     | str z=>
      rw[IsDt]at iv iu;subst iv iu
      obtain⟨t,rfl⟩:=rv
      obtain⟨t',rfl⟩:=ru
      rw[ltD]at h;cases h
      exact oneLt_str q
     | tup z=>simp [ltD]at h
    | tup ds=>exact absurd rfl t2
def DTs (H:Hp) (vs:List Value) (ds:List (List Dt)):Prop:=vs.length=ds.length/\∀ (i:Nat) (d:List Dt),ds[i]?=some d->∃ (b:Addr) (xs:List V),vs[i]?=some (Value.ref b)/\H b=some (.tup xs)/\IsDts H d xs
structure Sortable (T:String) (ds:List (List Dt)):Prop where
 first:∀ d∈ds,∃ e r,d=e::r/\tyD e=T
 tot:∀ d∈ds,∀ e∈ds,(ltDs d e).isSome=true
 dep:∀ d∈ds,depL d<=50
noncomputable def ltB (ds:List (List Dt)) (i j:Nat):Bool:=(ltDs (ds.getD i []) (ds.getD j [])).getD false
theorem DTs.firsts {T:String} (ok:HOk prog w H s.heap):∀ {vs:List Value}{ds:List (List Dt)},DTs H vs ds->(∀ d∈ds,∃ e r,d=e::r/\tyD e=T)->∃ fs,KatTups s.heap vs fs/\fs.length=vs.length/\∀ f∈fs,Looks (model prog w) s.heap (typeOf f) (.type T)
 | [],[],_,_=>⟨[],.nil,rfl,fun f hf=>(nomatch hf)⟩
 | [],_::_,t,_=>by have:=t.1;simp at this
 | _::_,[],t,_=>by have:=t.1;simp at this
 | v::vs,d::ds,t,hf=>by
  obtain⟨fs,h1,h2,h3⟩:=DTs.firsts ok (vs:=vs) (ds:=ds) ⟨by have:=t.1;simpa using this,fun i y hy=>t.2 (i+1) y (by simpa using hy)⟩ (fun d hd=>hf d (List.mem_cons_of_mem _ hd))
  obtain⟨b,xs,e1,e2,e3⟩:=t.2 0 d rfl
  obtain⟨e,r,rfl,et⟩:=hf d List.mem_cons_self
  rw[IsDts]at e3
  obtain⟨y,ys,rfl,i1,i2⟩:=e3
  have ev:v=.ref b:=by simpa using e1
  subst ev
  obtain⟨_,its,r1,o,g1,g2,n,g3⟩:=ok b _ e2
  cases r1 with
  | @cons _ u _ ur ru _=>
   refine⟨u::fs,.cons g1 g2 g3 (by simp) h1,by simp [h2],fun f hf=>?_⟩
   rcases List.mem_cons.mp hf with z | z
   ·subst z;have:=looks_tyD (M:=model prog w) ok i1 ru;rw[et]at this;exact this
   ·exact h3 f z
theorem dt_list_sort {a : Addr} {vs : List Value} {ds : List (List Dt)} {n : Nat} {T : String} {P : Fin -> Shared -> Prop} (hu : A.units + 60 < cLine) (ok : HOk prog w H s.heap) (ha : H a = none) (ho : s.heap.get? a = some (seqObj "list" vs.toArray n)) (hT : DTs H vs ds) (so : Sortable T ds) (h64 : vs.length < 64)
    (h : ∀ (p : List Nat), p.Perm (List.range vs.length) -> (2 <= vs.length -> p = (krun (ltB ds) (kas_sort vs.length)).toList) -> (vs.length < 2 -> p = List.range vs.length) -> P (.done (.ret .none)) { s with heap := sortedHeap s.heap a vs (p.map fun i => vs.getD i Value.none).toArray }) :
    wpAny (model prog w) A (Builtin.«list.sort» ⟨[.ref a], []⟩) P E s := by
  obtain ⟨e1, g1⟩ : ∃ e1, (s.heap.update a (Obj.mapSeq fun _ => (#[] : Array Value))).get? a = some (seqObj "list" #[] e1) := ⟨_, get?_update_seq ho fun _ => #[]⟩
  have g6 : (((s.heap.update a (Obj.mapSeq fun _ => (#[] : Array Value))).push (seqObj "tuple" vs.toArray 0)).push (seqObj "list" #[] 0)).get? a = some (seqObj "list" #[] e1) := Heap.get?_push_of_some _ (Heap.get?_push_of_some _ g1)
  have sb := Heap.SameBut.update s.heap a (Obj.mapSeq fun _ => (#[] : Array Value))
  have ok6 : HOk prog w H (((s.heap.update a (Obj.mapSeq fun _ => (#[] : Array Value))).push (seqObj "tuple" vs.toArray 0)).push (seqObj "list" #[] 0)) := ok.but ha fun b o nb e => Heap.get?_push_of_some _ (Heap.get?_push_of_some _ (sb.extBut b o nb e))
  rw [list_sort_plain]
  refine wpAny_bind (listItems_at ho rfl (wpAny_bind (listUpdate_at ho rfl ?_ (by rw [List.size_toArray, sizeLine_eq]; lia) (Nat.zero_le _))))
  refine wpAny_bind (seqEpoch_at g1 rfl (wpAny_bind (wpAny_newTuple ?_ (by show vs.length <= _; rw [sizeLine_eq]; lia))))
  refine wpAny_bind (wpAny_newList (wpAny_holding ?_) (Nat.zero_le _))
  show wpAny (model prog w) A _ P E { s with heap := ((s.heap.update a (Obj.mapSeq fun _ => (#[] : Array Value))).push (seqObj "tuple" vs.toArray 0)).push (seqObj "list" #[] 0) }
  dsimp only
  by_cases h2 : vs.toArray.size < 2
  · have h2' : vs.length < 2 := by simpa using h2
    rw [if_pos h2, if_pos h2]
    refine wpAny_bind (wpAny_pure ?_)
    rw [StateT.run_pure]
    refine wpAny_bind (wpAny_pure ?_)
    dsimp only
    have ez : (arrOf (SortSt.mk' general' (vs.toArray.zip vs.toArray) #[] 7 none)).map (·.2) = vs.toArray := by
      show (vs.toArray.zip vs.toArray).map (·.2) = vs.toArray
      apply Array.toList_inj.mp
      rw [Array.toList_map, Array.toList_zip]
      simp only [List.toList_toArray]
      have zz : ∀ l : List Value, (l.zip l).map (·.2) = l := fun l => by induction l with | nil => rfl | cons x l ih => simp [ih]
      exact zz vs
    rw [ez]
    refine wpAny_bind (seqEpoch_at g6 rfl (wpAny_bind (listUpdate_at g6 rfl ?_ (Nat.zero_le _) (by rw [List.size_toArray, sizeLine_eq]; lia))))
    simp only [bne_self_eq_false, Bool.false_eq_true, if_false]
    have q := h (List.range vs.length) (.refl _) (fun z => by lia) fun _ => rfl
    have zz : (List.range vs.length).map (fun i => vs.getD i Value.none) = vs := by
      refine List.ext_getElem (by simp) fun i h1 h2 => ?_
      simp [List.getD_eq_getElem?_getD, List.getElem?_eq_getElem h2]
    rw [zz] at q
    exact wpAny_pure q
  · have h2' : 2 ≤ vs.length := by have : ¬ vs.length < 2 := by simpa using h2
                                   lia
    rw [if_neg h2, if_neg h2]
    obtain ⟨fs, f1, f2, f3⟩ := hT.firsts (s := { s with heap := ((s.heap.update a (Obj.mapSeq fun _ => (#[] : Array Value))).push (seqObj "tuple" vs.toArray 0)).push (seqObj "list" #[] 0) }) ok6 so.first
    refine wpAny_bind (kat_kind (T := .type T) f1 (by rw [f2]; lia) f3 (by simp) ?_)
    have pp := Kn.prm_sort (lt := ltB ds) vs.length
    refine wpAny_bind (wpAny_mono (kat_run (ks := vs) (Q := fun st' s' => arrOf st' = (krun (ltB ds) (kas_sort vs.length)).map (kas_item (vs.toArray.zip vs.toArray)) /\ failedOf st' = none /\ s' = { s with heap := ((s.heap.update a (Obj.mapSeq fun _ => (#[] : Array Value))).push (seqObj "tuple" vs.toArray 0)).push (seqObj "list" #[] 0) })
      (G := fun q s' => q = krun (ltB ds) (kas_sort vs.length) /\ s' = { s with heap := ((s.heap.update a (Obj.mapSeq fun _ => (#[] : Array Value))).push (seqObj "tuple" vs.toArray 0)).push (seqObj "list" #[] 0) }) rfl h2' h64 (fun q st' s' _ a2 a3 ⟨a4, a5⟩ => ⟨a4 ▸ a2, a3, a5⟩) ?ask) ?_ fun _ _ e => e)
    case ask =>
      refine Kn.wp_of_run (n := vs.length) (R := fun _ => True) (lt := ltB ds) (fun i j C hi hj q => ?_) (Kn.asks_sort (by lia)) ⟨rfl, rfl⟩
      have hi' : i < ds.length := by rw [<- hT.1]; exact hi
      have hj' : j < ds.length := by rw [<- hT.1]; exact hj
      have di : ds[i]? = some ds[i] := List.getElem?_eq_getElem hi'
      have dj : ds[j]? = some ds[j] := List.getElem?_eq_getElem hj'
      obtain ⟨bi, xi, a1, a2, a3⟩ := hT.2 i _ di
      obtain ⟨bj, xj, c1, c2, c3⟩ := hT.2 j _ dj
      obtain ⟨_, ti, ri, oi, a4, a5, ni, a6⟩ := ok6 bi _ a2
      obtain ⟨_, tj, rj, oj, c4, c5, nj, c6⟩ := ok6 bj _ c2
      unfold kas_ask
      rw [List.getD_eq_getElem?_getD, List.getD_eq_getElem?_getD, a1, c1]
      refine kat_lt a4 a6 c4 c6 ?_
      have mi : ds[i] ∈ ds := List.getElem_mem _
      have mj : ds[j] ∈ ds := List.getElem_mem _
      obtain ⟨r, hr⟩ := Option.isSome_iff_exists.mp (so.tot _ mi _ mj)
      have eq : ltB ds i j = r := by
        unfold ltB
        rw [List.getD_eq_getElem?_getD, List.getD_eq_getElem?_getD, di, dj]
        show (ltDs ds[i] ds[j]).getD false = r
        rw [hr]; rfl
      rw [eq] at q
      refine katLex_D (n := 50) ok6 (by lia) ds[i] ds[j] _ _ 0 r (by simpa using drow_of a3 ri) (by simpa using drow_of c3 rj) (so.dep _ mi) hr ?_ (fun hb d e hd he => ?_) q
      · have l1 := (drow_of a3 ri).length
        have l2 := (drow_of c3 rj).length
        simp [l1, l2]
      · obtain ⟨d', r', q1, q2⟩ := so.first _ mi
        obtain ⟨e', r'', q3, q4⟩ := so.first _ mj
        rw [q1] at hd; rw [q3] at he
        cases hd; cases he
        refine ⟨q2.trans q4.symm, fun z => ?_⟩
        rw [q2] at z
        subst z
        simp at hb
    rintro ⟨⟨⟩, st'⟩ s' ⟨har, hf, rfl⟩
    dsimp only
    have hout := kat_snds rfl har
    rw [hout]
    have lp : (krun (ltB ds) (kas_sort vs.length)).toList.length = vs.length := by rw [Array.length_toList, pp.size_eq]; simp
    refine wpAny_bind (seqEpoch_at g6 rfl (wpAny_bind (listUpdate_at g6 rfl ?_ (Nat.zero_le _) (by rw [List.size_toArray, List.length_map, lp, sizeLine_eq]; lia))))
    rw [hf]
    simp only [bne_self_eq_false, Bool.false_eq_true, if_false]
    exact wpAny_pure (h _ (by have := Array.perm_iff_toList_perm.mp pp; simpa using this) (fun _ => rfl) fun z => by lia)
end
section
variable {X:Cx}
theorem vals_map {bs:List V}{us:List Value} (r:Vals bs us):∀ (p:List Nat),(∀ i∈p,i<us.length)->Vals (p.map fun i=>bs.getD i V.non) (p.map fun i=>us.getD i Value.none)
 | [],_=>.nil
 | i::p,h=>by
  refine .cons ?_ (vals_map r p fun j hj=>h j (List.mem_cons_of_mem _ hj))
  have hi:i<us.length:=h i List.mem_cons_self
  have hi':i<bs.length:=by rw[r.length];exact hi
  obtain⟨u,h1,h2⟩:=r.get (List.getElem?_eq_getElem hi')
  show RelV (bs.getD i V.non) (us.getD i Value.none)
  rw[List.getD_eq_getElem?_getD,List.getD_eq_getElem?_getD,h1,List.getElem?_eq_getElem hi']
  exact h2
theorem dts_of {H:Hp}{bs:List V}{us:List Value} (r:Vals bs us) {ds:List (List Dt)} (h:IsDts H (ds.map Dt.tup) bs):DTs H us ds:=by
 refine⟨by rw[<- r.length,h.length,List.length_map],fun i d hd=>?_⟩
 obtain⟨y,e1,e2⟩:=h.get (i:=i) (d:=.tup d) (by rw[List.getElem?_map,hd];rfl)
 obtain⟨u,f1,f2⟩:=r.get e1
 rw[IsDt]at e2
 obtain⟨a,xs,rfl,g1,g2⟩:=e2
 cases f2
 exact⟨a,xs,f1,g1,g2⟩
theorem sortD_tail {pins:List (Addr×Obj)}{s:Shared} {σ:St} {H:Hp}{A:Around}{E:Value->Shared->Prop}{T:String}{bs:List V}{us:List Value}{ds:List (List Dt)}{Q:VK} (hu:A.units+70<cLine) (I:Inv X pins σ H s) (r:Vals bs us) (hD:IsDts H (ds.map Dt.tup) bs) (so:Sortable T ds) (h64:ds.length<64)
  (q:∀ (a:Addr) (p:List Nat),H a=none->p.Perm (List.range ds.length)->(2<=ds.length->p=(krun (ltB ds) (kas_sort ds.length)).toList)->(ds.length<2->p=List.range ds.length)->Q (.ref a) (upd H a (.lst (p.map fun i=>bs.getD i V.non)))) :
  wpAny (model X.prog X.w) A (newList us >>= fun l=>holding [l] (call (.builtin "list.sort") [l] []) >>= fun _=>ret l) (fun fin s'=>∃ v,fin=.done (.ret v)/\EP X pins σ Q v s') E s:=by
 have hT:=dts_of r hD
 have hl:us.length=ds.length:=hT.1
 refine wpAny_bind (wpAny_newList ?_ (by rw[hl,sizeLine_eq];lia))
 have hoL:(s.heap.push { cls:=.type "list",data:=.seq us.toArray }).get? s.heap.objs.size=some (seqObj "list" us.toArray 0):=Heap.get?_push_size _ rfl
 have ok1:HOk X.prog X.w H (s.heap.push { cls:=.type "list",data:=.seq us.toArray }):=I.hok.kept fun b o e=>Heap.get?_push_of_some _ e
 refine wpAny_bind (wpAny_holding (wpAny_call_entry slot_list_sort ⟨_,hoL,rfl⟩ entry_list_sort (dt_list_sort (by show A.units+1+60<cLine;lia) ok1 (I.hok.fresh (Nat.le_refl _)) hoL hT so (by lia) fun p b1 b2 b3=>⟨_,rfl,?_⟩) (args_list_sort _)))
 refine wpAny_pure ⟨_,rfl,?_⟩
 obtain⟨e,hat⟩:=sortedHeap_at (out:=(p.map fun i=>us.getD i Value.none).toArray) hoL
 have lp:p.length=ds.length:=by rw[b1.length_eq,List.length_range,hl]
 rw[hl]at b1 b2 b3
 refine⟨.ref s.heap.objs.size,upd H s.heap.objs.size (.lst (p.map fun i=>bs.getD i V.non)),?_,rfl,q _ p (I.hok.fresh (Nat.le_refl _)) b1 b2 b3⟩
 refine I.laid (t':=s.toks) (fun b o hb=>?_) (Nat.le_refl _) ⟨by rw[List.length_map,lp,sizeLine_eq];lia,_,e,vals_map r p (fun i hi=>by rw[hl];have:=b1.mem_iff.mp hi;simpa using this),?_⟩
 ·have hlt:b<s.heap.objs.size:=Heap.lt_size hb
  rw[sortedHeap_old (Nat.ne_of_lt hlt) (by rw[Heap.size_push];exact Nat.lt_succ_of_lt hlt)]
  exact Heap.get?_push_of_some _ hb
 ·rw[hat]
end
end L2
end
section
namespace Tm
open PySem PySem.W PyProof.Rows
section
variable {M:Model}{A:Around}{E:Value->Shared->Prop}{s:Shared} {κ:SortKind} {S:Keyed->Prop}{L:Keyed->Keyed->Bool}
end
end Tm
end
section
namespace Tm
open PySem PySem.W PyProof.Rows
def Srt (L:Keyed->Keyed->Bool) (l:List Keyed):Prop:=l.Pairwise fun x y=>L y x=false
section
variable {S:Keyed->Prop}{L:Keyed->Keyed->Bool}{la lb out:List Keyed}{ia ib:Nat}
end
end Tm
end
section
namespace Tm
open PySem PySem.W PyProof.Rows
section
variable {M:Model}{A:Around}{E:Value->Shared->Prop}{s:Shared} {κ:SortKind} {S:Keyed->Prop}{L:Keyed->Keyed->Bool}
end
end Tm
end
section
namespace Tm
open PySem PySem.W PyProof.Rows
section
variable {S:Keyed->Prop}{L:Keyed->Keyed->Bool}{la lb lo:List Keyed}{na nb:Nat}
end
section
variable {M:Model}{A:Around}{E:Value->Shared->Prop}{s:Shared} {κ:SortKind} {S:Keyed->Prop}{L:Keyed->Keyed->Bool}
end
end Tm
end
section
namespace Tm
open PySem PySem.W PyProof.Rows
section
variable {S:Keyed->Prop}{L:Keyed->Keyed->Bool}
end
section
variable {M:Model}{A:Around}{E:Value->Shared->Prop}{s:Shared} {κ:SortKind} {S:Keyed->Prop}{L:Keyed->Keyed->Bool}
def At (L:Keyed->Keyed->Bool) (arr arr':Array Keyed) (sa n:Nat):Prop:=∃ seg:List Keyed,arr'.toList=arr.toList.take sa++seg++arr.toList.drop (sa+n)/\Srt L seg/\seg.Perm (arr.extract sa (sa+n)).toList
end
end Tm
end
section
namespace Tm
open PySem PySem.W PyProof.Rows
section
variable {L:Keyed->Keyed->Bool}
end
section
variable {M:Model}{A:Around}{E:Value->Shared->Prop}{s:Shared} {κ:SortKind} {S:Keyed->Prop}{L:Keyed->Keyed->Bool}
end
end Tm
end
section
namespace Tm
open PySem PySem.W PyProof.Rows
section
variable {S:Keyed->Prop}{L:Keyed->Keyed->Bool}
end
section
variable {M:Model}{A:Around}{E:Value->Shared->Prop}{s:Shared} {κ:SortKind} {S:Keyed->Prop}{L:Keyed->Keyed->Bool}
end
end Tm
end
section
namespace Tm
open PySem PySem.W PyProof.Rows
section
variable {L:Keyed->Keyed->Bool}
end
section
variable {M:Model}{A:Around}{E:Value->Shared->Prop}{s:Shared} {κ:SortKind} {S:Keyed->Prop}{L:Keyed->Keyed->Bool}
end
end Tm
end
section
namespace L2
open PySem PySem.Spec PyProof.Rows PySem.W Kn
theorem s1 (x y:Str) (h:sLt x y=true):sLt y x=false:=by
 by_cases e:x=y
 ·subst e;exact sLt_irrefl x
 ·rw[sLt_total e,h];rfl
theorem s2 (x y:Str) (h:sLt x y=false):x=y\/sLt y x=true:=by
 by_cases e:x=y
 ·exact .inl e
 ·exact .inr (by rw[sLt_total e,h];rfl)
end L2
end
section
namespace L2
open PySem PySem.Spec PyProof.Rows PySem.W Kn
section
variable {prog:Program}{w:World}{A:Around}{E:Value->Shared->Prop}{s:Shared}{H:Hp}
end
section
variable {X:Cx}
end
end L2
end
section
namespace L2
open PySem PySem.Spec PyProof.Rows PySem.W Kn
section
variable {X:Cx}
end
end L2
end
section
namespace L2
open PySem PySem.Spec PyProof.Rows PySem.W Kn
section
open PySem.AutoSeq1 (wpAny_loadPart')
open PySem.MeetsSeq PySem.MeetsSeq2 PySem.MeetsSeq3 PySem.SeqAt
variable {P:Program}{w:World}{a b:Addr}{xs ys:Array Value}{ea eb:Nat}{da db:Option Addr}{sa sb:Array (Option Value)}
end
section
variable {X:Cx}
end
end L2
end
section
namespace L2
open PySem PySem.Spec PyProof.Rows PySem.W
section
variable {prog:Program}{w:World}{A:Around}{E:Value->Shared->Prop}{s:Shared}
variable {I:Addr}{fp wr:List Addr}{n:Nat}{P:Nat->Value->Prop}{St:Nat->Heap->Prop}
end
end L2
end
section
namespace L2
open PySem PySem.Spec PyProof.Rows PySem.W
def ObjT (h:Heap) (b:Addr) (xs:List V):Prop:=TupD h b xs.length/\∃ its:List Value,Vals xs its/\IsTup h b its.toArray
open Classical in
noncomputable def Hc (h:Heap):Hp:=fun b=>if c:∃ xs,ObjT h b xs then some (.tup (Classical.choose c)) else none
section
variable {P:Program}{w:World}{H:Hp}
end
end L2
end
section
namespace L2
open PySem PySem.Spec PyProof.Rows PySem.W
section
variable {prog:Program}{w:World}{A:Around}{E:Value->Shared->Prop}{s:Shared}{T:String}{r:Addr}{n:Nat}{P:Nat->Value->Prop}{OK:Heap->Prop}
end
end L2
end
section
namespace L2
open PySem PySem.Spec PyProof.Rows PySem.W
theorem paired_get {α β:Type} {F:α->β->Prop}:∀ {l:List α}{m:List β}{i:Nat}{b:β},Paired F l m->m[i]?=some b->∃ a,l[i]?=some a/\F a b
 | _,_,_,_,.nil,e=>by simp at e
 | _,_,0,_,.cons r _,e=>by simp at e;subst e;exact⟨_,rfl,r⟩
 | _,_,i+1,_,.cons _ t,e=>by
  obtain⟨a,h1,h2⟩:=paired_get (i:=i) t (by simpa using e)
  exact⟨a,by simpa using h1,h2⟩
section
variable {X:Cx}
end
end L2
end
section
namespace L2
open PySem PySem.Spec PyProof.Rows PySem.W
open Kn (krun)
def ItemsV (v d:Addr):Heap->Prop:=fun h=>h.IsItemsView v d
theorem itemsV_ok {P:Program}{w:World}{H:Hp}{h:Heap}{v d:Addr} (x:h.IsItemsView v d):ObjOk P w H h v (.ext (ItemsV v d)):=
 ⟨x,let ⟨o,ho,_⟩:=x;⟨o,ho⟩,fun h1 h2 ⟨o,ho,c⟩ k=>⟨o,k _ ho,c⟩⟩
section
variable {X:Cx}
def rItems:V->List V->Hp->VK->Prop:=fun x vs H Q=>∃ d kvs,x=.ref d/\vs=[]/\H d=some (.dK kvs)/\∀ p,H p=none->Q (.ref p) (upd H p (.ext (ItemsV p d)))
theorem mt_items:MtR X "dict.items" rItems:=by
 intro pins s σ H x xs v us Q I rx rxs h
 obtain⟨d,kvs,rfl,rfl,hd,q⟩:=h
 cases rx
 cases rxs
 obtain⟨z,lo,vs,rel,dd⟩:=dk_of I.hok hd
 refine call_meetsIn PySem.F.slot_dict_items dd.typeIs PySem.F.entry_dict_items (PySem.F.args_dict_items_1 _) (meets_dict_items (mixKind X.prog X.w) d lo) ⟨⟨vs,dd⟩,?_⟩
 have fr:H s.heap.objs.size=none:=I.hok.fresh (Nat.le_refl _)
 exact⟨.ref s.heap.objs.size,_,I.laid (t':=s.toks) (o:=.ext (ItemsV s.heap.objs.size d)) (fun b o e=>Heap.get?_push_of_some _ e) (Nat.le_refl _) (itemsV_ok ⟨_,Heap.get?_push_size _ rfl,rfl,rfl⟩),rfl,q _ fr⟩
theorem relV_key {P:Program}{w:World}{k:Key}{u:Value} (h:(mixKind P w).is k u=true):RelV (kV k) u:=by
 rcases keyIs_shape (k:=k) (v:=u) h with ⟨i,t,rfl,rfl⟩ | ⟨x,t,rfl,rfl⟩
 ·exact⟨t,rfl⟩
 ·exact⟨t,rfl⟩
def kD:Key->Dt
 | .inl i=>.int i
 | .inr x=>.str x
theorem isDt_key {H:Hp} (k:Key):IsDt H (kD k) (kV k):=by
 cases k with
 | inl i=>exact isDt_int i
 | inr x=>exact isDt_str x
def addT (H:Hp) (m:List (Addr×(Key×V))):Hp:=fun b=>match m.lookup b with | some kv=>some (.tup [kV kv.1,kv.2]) | none=>H b
theorem lookup_zip:∀ {as:List Addr}{kvs:List (Key×V)}{b:Addr}{kv:Key×V},(as.zip kvs).lookup b=some kv->∃ j:Nat,as[j]?=some b/\kvs[j]?=some kv
 | [],_,_,_,h=>by simp at h
 | _::_,[],_,_,h=>by simp at h
 | a::as,k::kvs,b,kv,h=>by
  rw[List.zip_cons_cons,List.lookup_cons]at h
  by_cases e:b=a
  ·subst e
   simp at h
   exact⟨0,rfl,by simp [h]⟩
  ·have:(b == a)=false:=by simpa using e
   rw[this]at h
   obtain⟨j,h1,h2⟩:=lookup_zip (as:=as) (kvs:=kvs) h
   exact⟨j+1,by simpa using h1,by simpa using h2⟩
theorem lookup_get:∀ {as:List Addr}{kvs:List (Key×V)}{j:Nat}{b:Addr}{kv:Key×V},as.Nodup->as[j]?=some b->kvs[j]?=some kv->(as.zip kvs).lookup b=some kv
 | [],_,_,_,_,_,h,_=>by simp at h
 | _::_,[],_,_,_,_,_,h=>by simp at h
 | a::as,k::kvs,0,b,kv,_,h,h'=>by
  simp at h h'
  subst h h'
  rw[List.zip_cons_cons,List.lookup_cons]
  simp
 | a::as,k::kvs,j+1,b,kv,nd,h,h'=>by
  rw[List.nodup_cons]at nd
  have hb:b∈as:=List.mem_of_getElem? (by simpa using h)
  have ne:b≠a:=fun z=>nd.1 (z ▸ hb)
  rw[List.zip_cons_cons,List.lookup_cons]
  have:(b == a)=false:=by simpa using ne
  rw[this]
  exact lookup_get nd.2 (by simpa using h) (by simpa using h')
def rSortI:List V->Hp->VK->Prop:=fun ws H Q=>∃ (v d:Addr) (kvs:List (Key×V)) (es:List Dt) (T:String),ws=[.ref v]/\H v=some (.ext (ItemsV v d))/\H d=some (.dK kvs)/\IsDts H es (kvs.map (·.2))/\Sortable T ((kvs.zip es).map fun p=>[kD p.1.1,p.2])/\kvs.length<64 /\
 ∀ (a:Addr) (H':Hp) (bs:List V) (p:List Nat),H a=none->(∀ b u,H b=some u->H' b=some u)->H' a=some (.lst bs)->p.Perm (List.range kvs.length)->(2<=kvs.length->p=(krun (ltB ((kvs.zip es).map fun p=>[kD p.1.1,p.2])) (kas_sort kvs.length)).toList)->(kvs.length<2->p=List.range kvs.length) ->
  IsDts H' ((p.map fun i=>((kvs.zip es).map fun p=>[kD p.1.1,p.2]).getD i []).map Dt.tup) bs->Q (.ref a) H'
theorem isDts_perm {H:Hp}{ds:List (List Dt)}{bs:List V} (h:IsDts H (ds.map Dt.tup) bs):∀ (p:List Nat),(∀ i∈p,i<ds.length)->IsDts H ((p.map fun i=>ds.getD i []).map Dt.tup) (p.map fun i=>bs.getD i V.non)
 | [],_=>.nil
 | i::p,hp=>by
  have hi:i<ds.length:=hp i List.mem_cons_self
  refine .cons ?_ (isDts_perm h p fun j hj=>hp j (List.mem_cons_of_mem _ hj))
  obtain⟨y,e1,e2⟩:=h.get (i:=i) (d:=.tup ds[i]) (by rw[List.getElem?_map,List.getElem?_eq_getElem hi];rfl)
  show IsDt H (Dt.tup (ds.getD i [])) (bs.getD i V.non)
  rw[List.getD_eq_getElem?_getD,List.getElem?_eq_getElem hi,List.getD_eq_getElem?_getD,e1]
  exact e2
theorem call_sortI (hc:X.calm=true) (hu:X.A.units+110<cLine):CallR X (.builtin "sorted") rSortI:=by
 intro pins s σ H ws us Q I r h
 obtain⟨v,d,kvs,es,T,rfl,hv,hd,hD,so,h64,q⟩:=h
 obtain⟨u,rfl,ru⟩:=r.one
 cases ru
 have hh:=I.ok.hd hc
 obtain⟨z,lo,vs,rel,o,ets,ep,e1,e2,e3,e4⟩:=dk_of I.hok hd
 obtain⟨iv,_⟩:=(show ObjOk X.prog X.w H s.heap v (.ext (ItemsV v d)) from I.hok v _ hv)
 refine Calls.call_function_entry kind_sorted plain_sorted entry_sorted (args_sorted1 _) ?_
 unfold Builtin.«sorted»
 refine wpAny_bind (m:=checkCount "sorted" 1 1 _) (wpAny_pure ?_)
 refine wpAny_bind (kdx_collect (knd:=mixKind X.prog X.w) (A:=X.A.in1) hh iv ⟨o,ets,e1,e2,e3,e4⟩ (by rw[<- rel.length];exact z) fun h' tk as keep la G=>?_)
 have nd:as.Nodup:=G.rise.imp fun h=>Nat.ne_of_lt h
 have fr:∀ a∈as,H a=none:=fun a ha=>I.hok.fresh (Nat.le_of_lt (G.above a ha))
 have ll:as.length=kvs.length:=by rw[la,rel.length]
 have old:∀ b u,H b=some u->addT H (as.zip kvs) b=some u:=fun b u e=>by
  unfold addT
  cases hl:(as.zip kvs).lookup b with
  | none=>exact e
  | some kv=>
   obtain⟨j,j1,_⟩:=lookup_zip hl
   rw[fr b (List.mem_of_getElem? j1)]at e
   cases e
 have un:Un X.fs [] H (addT H (as.zip kvs)) s.heap h':={
  keep:=fun b o' q n _ _=>keep b o' q
  slot:=fun b o' q n _ _=>⟨o'.slots,keep b o' q⟩
  free:=fun b o' q n _=>by
   unfold addT
   cases hl:(as.zip kvs).lookup b with
   | none=>exact n
   | some kv=>
    obtain⟨j,j1,_⟩:=lookup_zip hl
    have:=G.above b (List.mem_of_getElem? j1)
    exact absurd (Nat.lt_trans this (Heap.lt_size q)) (Nat.lt_irrefl _)
  there:=fun b o' q _=>⟨o',keep b o' q⟩
  tups:=fun b xs e=>old b _ e
  frzs:=fun b o' u e=>old b _ e
  tbls:=fun b ps e=>⟨#[],by simpa using old b _ e⟩ }
 have newT:∀ (j:Nat) (b:Addr) (kv:Key×V),as[j]?=some b->kvs[j]?=some kv->∃ its:List Value,Vals [kV kv.1,kv.2] its/\h'.get? b=some { cls:=.type "tuple",data:=.seq its.toArray }:=fun j b kv j1 j2=>by
  obtain⟨key,k,x,g1,g2,g3⟩:=G.pairs j b j1
  obtain⟨kv',p1,p2,p3⟩:=paired_get (l:=kvs) (m:=vs) rel g1
  rw[j2]at p1
  cases p1
  refine⟨[key,x],.cons ?_ (.cons p3 .nil),g3⟩
  rw[p2]
  exact relV_key g2
 have ok:HOk X.prog X.w (addT H (as.zip kvs)) h':=fun b u e=>by
  unfold addT at e
  cases hl:(as.zip kvs).lookup b with
  | none=>
   rw[hl]at e
   exact (I.hok b u e).stay (fun c v _ q=>keep c v q) (fun c q=>old c _ q) fun c xs q=>old c _ q
  | some kv=>
   rw[hl]at e
   cases e
   obtain⟨j,j1,j2⟩:=lookup_zip hl
   obtain⟨its,r1,g3⟩:=newT j b kv j1 j2
   exact⟨tupD_at (by show 2<=sizeLine;decide) g3 rfl,its,r1,⟨_,g3,rfl,0,rfl⟩⟩
 have I2:Inv X pins σ (addT H (as.zip kvs)) { s with heap:=h',toks:=tk }:=I.un un ok
 have tp:Tups H (addT H (as.zip kvs)):=fun b xs e=>old b _ e
 have lzip:((kvs.zip es).map fun p=>[kD p.1.1,p.2]).length=kvs.length:=by
  rw[List.length_map,List.length_zip]
  have:=hD.length
  rw[List.length_map]at this
  lia
 have isd:IsDts (addT H (as.zip kvs)) (((kvs.zip es).map fun p=>[kD p.1.1,p.2]).map Dt.tup) (as.map V.ref):=by
  have gen:∀ (ks:List (Key×V)) (fs:List Dt) (bs:List Addr),IsDts H fs (ks.map (·.2))->bs.length=ks.length->(∀ (j:Nat) b kv,bs[j]?=some b->ks[j]?=some kv->addT H (as.zip kvs) b=some (.tup [kV kv.1,kv.2]))->IsDts (addT H (as.zip kvs)) (((ks.zip fs).map fun p=>[kD p.1.1,p.2]).map Dt.tup) (bs.map V.ref):=by
   intro ks
   induction ks with
   | nil=>
    intro fs bs h1 h2 h3
    have:bs=[]:=List.length_eq_zero_iff.mp h2
    subst this
    exact .nil
   | cons k ks ih=>
    intro fs bs h1 h2 h3
    cases bs with
    | nil=>simp at h2
    | cons b bs=>
     cases fs with
     | nil=>rw[IsDts]at h1;simp at h1
     | cons f fs=>
      rw[IsDts]at h1
      obtain⟨y,ys,e,i1,i2⟩:=h1
      rw[List.map_cons]at e
      cases e
      rw[List.zip_cons_cons,List.map_cons,List.map_cons,List.map_cons]
      refine .cons (isDt_tup (h3 0 b k rfl rfl) (.cons (isDt_key _) (.one (i1.mono tp)))) (ih fs bs i2 (by simpa using h2) fun j b' kv' q1 q2=>h3 (j+1) b' kv' (by simpa using q1) (by simpa using q2))
  refine gen kvs es as hD ll fun j b kv j1 j2=>?_
  unfold addT
  rw[lookup_get nd j1 j2]
 have rv:Vals (as.map V.ref) (as.map Value.ref):=by
  clear nd fr ll old un newT ok I2 tp lzip isd la G
  induction as with
  | nil=>exact .nil
  | cons a as ih=>exact .cons rfl ih
 refine sortD_tail (A:=X.A.in1) (T:=T) (by show X.A.units+1+70<cLine;lia) I2 rv isd so (by rw[lzip];exact h64) fun a p ha p1 p2 p3=>?_
 rw[lzip]at p1 p2 p3
 have haH:H a=none:=by
  cases e:H a with
  | none=>rfl
  | some u=>rw[old a u e]at ha;cases ha
 refine q a _ _ p haH (fun b u e=>?_) upd_same p1 p2 p3 ((isDts_perm isd p fun i hi=>?_).mono (Tups.new ha _))
 ·rw[upd_ne (fun z=>by subst z;rw[haH]at e;cases e)]
  exact old b u e
 ·rw[lzip]
  have:=p1.mem_iff.mp hi
  simpa using this
end
end L2
end
section
namespace L2
open PySem PySem.Spec PyProof.Rows PySem.W
section
variable {X:Cx}
end
end L2
end
section
namespace L2
open PySem PySem.Spec PyProof.Rows
section
open AutoSeq1 (wpAny_loadPart')
end
section
variable {prog:Program}{w:World}{A:Around}{E:Value->Shared->Prop}{s:Shared}
end
section
variable {X:Cx}
end
end L2
end
section
namespace L2
open PySem PySem.Spec PyProof.Rows PySem.W
section
variable {X:Cx}
def rEqLD:R2:=fun x y H Q=>∃ a b xs ys ds es,x=.ref a/\y=.ref b/\H a=some (.lst xs)/\H b=some (.lst ys)/\IsDts H ds xs/\IsDts H es ys/\depL ds<=depMax/\Q (.bl (decide (ds=es))) H
theorem op_eqLD (hu:X.A.units+110<cLine):OpR X (compareOp .Eq) rEqLD:=by
 intro pins s σ H x y v u Q I rx ry h
 obtain⟨a,b,xs,ys,ds,es,rfl,rfl,ha,hb,h2,g2,hd,q⟩:=h
 cases rx
 cases ry
 obtain⟨its,r,p,_⟩:=I.list (SqL.of ha)
 obtain⟨its2,r2,p2,_⟩:=I.list (SqL.of hb)
 have l1:its.toArray.size=ds.length:=by rw[List.size_toArray,<- r.length,h2.length]
 have l2:its2.toArray.size=es.length:=by rw[List.size_toArray,<- r2.length,g2.length]
 by_cases hl:ds.length=es.length
 ·refine SeqAt.RcAt.lists (s:=s) (A:=X.A) (e:=fun j=>decide (ds[j]?=es[j]?)) p.isList p2.isList (by rw[l1,l2,hl]) (by lia) (items_eq (n:=depMax) (A:=X.A.in1) I.hok hd (by show X.A.units+1+depMax<cLine;unfold depMax;lia) h2 g2 r r2) _ _ _ _ ⟨.bl (decide (ds=es)),H,I,?_,q⟩
  have:=all_eq ds es
  rw[<- hl,Nat.min_self]at this
  simp only[beq_self_eq_true,Bool.and_true]at this
  rw[<- this,l1]
  rfl
 ·refine SeqAt.RcAt.lists_lengths (A:=X.A) p.isList p2.isList (by rw[l1,l2];simpa using hl) (by lia) _ _ _ _ ⟨.bl false,H,I,rfl,?_⟩
  rw[decide_eq_false (fun z=>hl (by rw[z]))]at q
  exact q
theorem op_eqX (hu:X.A.units+110<cLine):OpR X (compareOp .Eq) (fun x y H Q=>(rEq x y H Q\/rEqD x y H Q)\/rEqLD x y H Q):=(op_eqU hu).or (op_eqLD hu)
theorem call_isiN:CallR X (.builtin "isinstance") (fun xs H Q=>∃ x b,xs=[x,.ty "int"]/\((∃ i,x=.int i)/\b=true\/(∃ z,x=.str z)/\b=false)/\Q (.bl b) H):=by
 intro pins s σ H xs us Q I r h
 obtain⟨x,b,rfl,hi,q⟩:=h
 obtain⟨u,v,rfl,ru,rv⟩:=r.two
 cases rv
 rcases hi with ⟨⟨i,rfl⟩,rfl⟩ | ⟨⟨z,rfl⟩,rfl⟩
 ·obtain⟨t,rfl⟩:=ru
  exact IsiPair.int_int ⟨.bl true,H,I,rfl,q⟩
 ·obtain⟨t,rfl⟩:=ru
  exact IsiPair.str_int ⟨.bl false,H,I.tok _,rfl,q⟩
theorem call_isiX:CallR X (.builtin "isinstance") (fun xs H Q=>((∃ x T b,xs=[x,.ty T]/\isiV H x T b/\Q (.bl b) H)\/∃ x T b,xs=[x,.ty T]/\isiW x T b/\Q (.bl b) H)\/∃ x b,xs=[x,.ty "int"]/\((∃ i,x=.int i)/\b=true\/(∃ z,x=.str z)/\b=false)/\Q (.bl b) H):=call_isiU.or call_isiN
end
end L2
end
section
namespace L2
open PySem PySem.Spec PyProof.Rows PySem.W
section
variable {prog:Program}{w:World}{A:Around}{E:Value->Shared->Prop}{s:Shared}
end
section
variable {X:Cx}
end
end L2
end
section
namespace L2
open PySem PySem.Spec PyProof.Rows PySem.W
section
variable {X:Cx}{e o:Expr}{te to:TE}
end
end L2
end
section
namespace L2
open PySem PySem.Spec PyProof.Rows PySem.W Kn
section
variable {X:Cx}
end
end L2
end
section
namespace L2
open PySem PySem.Spec PyProof.Rows PySem.W
section
variable {prog:Program}{w:World}{A:Around}{E:Value->Shared->Prop}{s:Shared}
end
section
variable {X:Cx}
end
end L2
end
section
namespace L2
open PySem PySem.Spec PyProof.Rows PySem.W
section
variable {X:Cx}
section
open PySem.AutoSeq1 (wpAny_loadPart')
open PySem.MeetsSeq PySem.MeetsSeq2 PySem.MeetsSeq3 PySem.SeqAt
theorem ext_tup (l b:Addr) (xs ys:Array Value) (n m:Nat) (dd:Option Addr) (sl:Array (Option Value)) (c0:¬(!xs.isEmpty && Builtin.List.listTooLong (xs.size+ys.size))=true) (c1:xs.size<=sizeLine) (c2:xs.size+ys.size<=sizeLine+1) :
  Meets (Builtin.«list.extend» ⟨[.ref l,.ref b],[]⟩) (fun _ R s=>s.heap.get? l=some (seqObj "list" xs n)/\s.heap.get? b=some { cls:=.type "tuple",dict:=dd,data:=.seq ys m,slots:=sl }/\R (.ok (.ret .none)) { s with heap:=s.heap.update l (Obj.mapSeq (·++ys)),toks:=s.toks }):=
 .of_wp fun prog w A R s ⟨h1,h2,h3⟩=>by
  obtain⟨hp,g,d,tk,os⟩:=s
  have f1:=AutoSeq1.idx_int
  have f2:=AutoSeq1.sub_tuple_tuple
  have f3:=AutoSeq1.sub_list_list
  have f4:=AutoSeq1.sub_tuple_list
  have f5:=AutoSeq1.sub_list_tuple
  have c3:(xs++ys).size<=sizeLine+1:=by rw[Array.size_append];exact c2
  wp_walk using (wpAny_updateSeq h1 rfl (hz:=c1) (_hz':=c3)),wpAny_loadPart' h1,wpAny_loadPart' h2
  exact⟨_,rfl,h3⟩
end
def rExtendT:V->List V->Hp->VK->Prop:=fun x vs H Q=>∃ l b xs zs,x=.ref l/\vs=[.ref b]/\H l=some (.lst xs)/\H b=some (.tup zs)/\xs.length+zs.length<=sizeLine/\Q .non (upd H l (.lst (xs++zs)))
theorem mt_extendT:MtM X "list.extend" rExtendT:=by
 intro pins s σ H x vs v us Q I rx rv h
 obtain⟨l,b,xs,zs,rfl,rfl,hH,hB,hz,q⟩:=h
 cases rx
 obtain⟨u,rfl,ru⟩:=rv.one
 cases ru
 obtain⟨z,its,n,r,hl,e⟩:=I.lstM hH
 obtain⟨_,its2,r2,ob,h1,h2,n2,h3⟩:=(show ObjOk X.prog X.w H s.heap b (.tup zs) from I.hok b _ hB)
 obtain⟨cls,dd,data,sl⟩:=ob
 simp only at h2 h3
 subst h2 h3
 have hl2:=r2.length
 have hsz:its.toArray.size+its2.toArray.size<=sizeLine:=by rw[List.size_toArray,List.size_toArray];lia
 have hlong:¬(!its.toArray.isEmpty && Builtin.List.listTooLong (its.toArray.size+its2.toArray.size))=true:=by
  rw[notLongL hsz,Bool.and_false]
  exact Bool.false_ne_true
 refine call_meets F.slot_list_extend ⟨_,e,rfl⟩ F.entry_list_extend (F.args_list_extend_2 _ _)
  (ext_tup l b its.toArray its2.toArray n n2 dd sl hlong (by rw[List.size_toArray];lia) (by lia)) ⟨e,h1,?_⟩
 refine⟨.non,_,I.lset (its':=its++its2) hH e (by simp) (r.append r2) ?_,rfl,q⟩
 rw[List.length_append]
 lia
theorem mt_extendU:MtM X "list.extend" (fun x vs H Q=>rExtend x vs H Q\/rExtendT x vs H Q):=fun pins s σ H x xs v us Q I rx rv h=>h.elim (mt_extend pins s σ H x xs v us Q I rx rv) (mt_extendT pins s σ H x xs v us Q I rx rv)
end
end L2
end
section
namespace L2
open PySem PySem.Spec PyProof.Rows PySem.W
theorem owner_rev:Manifest.owners.lookup (String.ofList ['d','e','s','r','e','v','e','r'].reverse)=some Manifest.sig_reversed:=by kernel_rfl
theorem slot_rev_next:Slot "reversed" "__next__" "reversed.__next__":=
 .of (owner:="reversed") (n:="__next__") (by rw[typeLookup_type,builtinLookup_eq_fast];kernel_rfl) (by decide +kernel) (by decide +kernel) (by decide +kernel)
  (by first | exact .inl (by decide +kernel) | exact .inr (by decide +kernel)) (by rw[isSubtype_type];kernel_rfl)
theorem entry_rev_next:entryFor table "reversed.__next__"=some Builtin.«reversed.__next__»:=entryFor_of_tree (by kernel_rfl)
theorem args_rev_next_1 (a:Value):argsOk "reversed.__next__" ⟨[a],[]⟩:=by
 unfold argsOk;rw[signature?_of (id:="reversed.__next__") (n:=['_','_','t','x','e','n','_','_']) (o:=['d','e','s','r','e','v','e','r']) (by kernel_rfl) owner_rev];kernel_rfl
theorem slot_rev_iter:Slot "reversed" "__iter__" "reversed.__iter__":=
 .of (owner:="reversed") (n:="__iter__") (by rw[typeLookup_type,builtinLookup_eq_fast];kernel_rfl) (by decide +kernel) (by decide +kernel) (by decide +kernel)
  (by first | exact .inl (by decide +kernel) | exact .inr (by decide +kernel)) (by rw[isSubtype_type];kernel_rfl)
theorem args_rev_iter_1 (a:Value):argsOk "reversed.__iter__" ⟨[a],[]⟩:=by
 unfold argsOk;rw[signature?_of (id:="reversed.__iter__") (n:=['_','_','r','e','t','i','_','_']) (o:=['d','e','s','r','e','v','e','r']) (by kernel_rfl) owner_rev];kernel_rfl
theorem entry_rev_iter:entryFor table "reversed.__iter__"=some Builtin.«dict_keyiterator.__iter__»:=
 entryFor_alias (id':="dict_keyiterator.__iter__") (by kernel_rfl) (by first | rfl | decide +kernel | (unfold String.splitOn;simp +decide [String.splitOnAux])) (by decide +kernel) (by kernel_rfl)
theorem slot_rev_init:Slot "reversed" "__init__" "object.__init__":=
 .of (owner:="object") (n:="__init__") (by rw[typeLookup_type,builtinLookup_eq_fast];kernel_rfl) (by decide +kernel) (by decide +kernel) (by decide +kernel)
  (by first | exact .inl (by decide +kernel) | exact .inr (by decide +kernel)) (by rw[isSubtype_type];kernel_rfl)
theorem called_rev:TypeCalled "reversed" "reversed.__new__" "object.__init__":=
 ⟨by decide +kernel,by decide +kernel,⟨_,_,F.mro_reversed⟩,F.made_reversed,by decide +kernel,by rw[isSubtype_type];kernel_rfl,slot_rev_init⟩
theorem tup_no_rev:typeLookup (.type "tuple") "__reversed__"=pure none:=by rw[typeLookup_type,builtinLookup_eq_fast];kernel_rfl
theorem sub_tuple_dict:isSubtype (.type "tuple") (.type "dict")=pure false:=by rw[isSubtype_type];kernel_rfl
section
open AutoSeq1 (wpAny_loadPart')
theorem meets_reversed_newT (l:Addr) (items:Array Value) (n:Nat) (dct:Option Addr) (sl:Array (Option Value)) (hz:items.size<=sizeLine) :
  Meets (Builtin.«reversed.__new__» ⟨[.type "reversed",.ref l],[]⟩) (fun _ R s=>s.heap.get? l=some { cls:=.type "tuple",dict:=dct,data:=.seq items n,slots:=sl } /\
   ∀ tk,R (.ok (.ret (.ref s.heap.objs.size))) { s with heap:=s.heap.push { cls:=.type "reversed",data:=.fields #[.ref l,rawInt ((items.size:Int)-1)] },toks:=tk }):=
 .of_wp fun prog w A R s h=>by
  obtain⟨hp,g,d,tk,os⟩:=s;obtain⟨hl,h⟩:=h
  have hsub:=F.sub_reversed_self
  have hL:Heap.IsTuple (Shared.heap ⟨hp,g,d,tk,os⟩) l items:=⟨_,hl,rfl,n,rfl⟩
  have f1:=tup_no_rev
  have f2:=sub_tuple_dict
  have f3:=F.slot_tuple_getitem.lookup
  have hfit:(items.size:Int)<2 ^ 63:=by have:items.size<=16777216:=hz;lia
  unfold Builtin.«reversed.__new__»
  refine wpAny_bind (wpAny_of_eq (newClass_reversed _) ?_)
  refine wpAny_bind (wpAny_of_eq (a:=()) (by kernel_rfl) (wpAny_bind (wpAny_of_eq (a:=()) (by kernel_rfl) ?_)))
  dsimp only
  refine wpAny_bind (wpAny_specialOf hL.typeIs f1 ?_)
  dsimp only
  refine wpAny_bind (wpAny_mono (Q:=fun b s'=>b=true/\s'=(⟨hp,g,d,tk,os⟩:Shared)) ?slot (fun b s' hb=>?rest) fun _ _ x=>x)
  case slot=>
   wp_walk using wpAny_loadPart' hl
   exact⟨rfl,rfl⟩
  obtain⟨rfl,rfl⟩:=hb
  rw[if_neg (by decide)]
  refine wpAny_bind (PyProof.Rows.len_tuple hL hfit ?_)
  wp_walk using wpAny_loadPart' hl
  exact⟨_,rfl,h _⟩
end
section
variable {prog:Program}{w:World}{A:Around}{E:Value->Shared->Prop}{s:Shared}
def RevAt (h:Heap) (a l:Addr) (i:Int):Prop:=∃ o,h.get? a=some o/\o.cls=.type "reversed"/\o.data=.fields #[.ref l,rawInt i]
theorem RevAt.typeIs {a l:Addr}{i:Int} (x:RevAt s.heap a l i):s.TypeIs (.ref a) "reversed":=let ⟨o,ho,hc,_⟩:=x;⟨o,ho,hc⟩
theorem RevAt.at {h h':Heap}{a l:Addr}{i:Int} (x:RevAt h a l i) (e:∀ o,h.get? a=some o->h'.get? a=some o):RevAt h' a l i:=let ⟨o,ho,r⟩:=x;⟨o,e _ ho,r⟩
theorem call_reversed_tuple {l:Addr}{items:Array Value}{Q:Value->Shared->Prop} (hL:IsTup s.heap l items) (hz:items.size<=sizeLine)
  (h:∀ h' tk,RevAt h' s.heap.objs.size l ((items.size:Int)-1)->h'.objs.size=s.heap.objs.size+1->(∀ b o,s.heap.get? b=some o->h'.get? b=some o)->Q (.ref s.heap.objs.size) { s with heap:=h',toks:=tk }) :
  wpAny (model prog w) A (call (.type "reversed") [.ref l]) Q E s:=by
 obtain⟨⟨c,dct,dt,sl⟩,hl,hc,n,hd⟩:=hL
 replace hc:c=.type "tuple":=hc
 replace hd:dt=.seq items n:=hd
 subst hc hd
 refine callType_new called_rev (by decide) (F.typeCall_reversed_1 _) (F.newCall_reversed_1 _) (fun obj=>F.args_object_init_2 obj _) F.entry_reversed_new
  (meets_reversed_newT l items n dct sl hz) ⟨hl,fun tk=>?_⟩
 have he:(s.heap.push { cls:=.type "reversed",data:=.fields #[.ref l,rawInt ((items.size:Int)-1)] }).get? s.heap.objs.size=some { cls:=.type "reversed",data:=.fields #[.ref l,rawInt ((items.size:Int)-1)] }:=Heap.get?_push_size _ rfl
 exact⟨⟨_,he,rfl⟩,h _ tk ⟨_,he,rfl,rfl⟩ (Heap.size_push ..) fun b o x=>Heap.get?_push_of_some _ x⟩
theorem next_revT_item {it l:Addr}{i:Nat}{items:Array Value}{x:Value}{Q:Option Value->Shared->Prop} (hit:RevAt s.heap it l (i:Int)) (hl:IsTup s.heap l items) (hz:items.size<=sizeLine) (hx:items[i]?=some x)
  (q:∀ h' tk,RevAt h' it l ((i:Int)-1)->Heap.SameBut it s.heap h'->Q (some x) { s with heap:=h',toks:=tk }):wpAny (model prog w) A (pyNext (.ref it)) Q E s:=by
 have ty:=hit.typeIs
 have hi:i<items.size:=(Array.getElem?_eq_some_iff.mp hx).1
 have hz':items.size<=16777216:=hz
 obtain⟨ob,h1,h2,h3⟩:=hit
 have si:seqIndex? (i:Int) items.size=some i:=by
  unfold seqIndex?
  rw[if_neg (show ¬(i:Int)<0 by lia),if_pos (by rw[Bool.and_eq_true];exact⟨decide_eq_true (by lia),decide_eq_true (by lia)⟩)];rfl
 unfold pyNext
 refine wpAny_bind (wpAny_attempt (wpAny_callSpecial?_slot (name:=Str.ofString "__next__") ty slot_rev_next (wpAny_call_entry slot_rev_next ty entry_rev_next ?_ (args_rev_next_1 _))))
 unfold Builtin.«reversed.__next__»
 refine wpAny_bind (wpAny_of_eq (a:=(Value.ref it,[])) rfl (wpAny_bind (wpAny_field h1 h3 (x:=.ref l) rfl (wpAny_bind (wpAny_field h1 h3 (x:=rawInt (i:Int)) rfl ?_)))))
 refine (show wpAny _ _ (if (i:Int)<0 then _ else specialOf (.ref l) "__getitem__" >>= _) _ _ s from ?_)
 rw[if_neg (by lia)]
 refine wpAny_bind (wpAny_specialOf hl.typeIs F.slot_tuple_getitem.lookup (show wpAny _ _ (mkInt (i:Int) >>= _) _ _ s from wpAny_bind (wpAny_mkInt (wpAny_bind (wpAny_attempt (getItem_tuple (j:=i) (x:=x) (show IsTup s.heap l items from hl) (by lia) (by lia) si hx ?_))))))
 refine (show wpAny _ _ (field (.ref it) 1 >>= _) _ _ _ from wpAny_bind (wpAny_field (show s.heap.get? it=some ob from h1) h3 (x:=rawInt (i:Int)) rfl (show wpAny _ _ (setField (.ref it) 1 (rawInt ((i:Int)-1)) >>= _) _ _ _ from wpAny_bind (wpAny_setField (show s.heap.get? it=some ob from h1) h3 (by simp) (wpAny_pure ⟨x,rfl,wpAny_pure (q _ _ ?_ (Heap.SameBut.update ..))⟩)))))
 refine⟨_,Heap.get?_update_self _ h1 (Obj.isFreed_of_fields (Obj.data_mapFields h3 _)),Eq.trans (Obj.cls_mapFields ..) h2,?_⟩
 rw[Obj.data_mapFields h3] <;> simp
theorem next_revT_end {it l:Addr}{Q:Option Value->Shared->Prop} (hh:A.handled=none) (hit:RevAt s.heap it l (-1))
  (q:∀ h' tk,Heap.ExtBut it s.heap h'->Q none { s with heap:=h',toks:=tk }):wpAny (model prog w) A (pyNext (.ref it)) Q E s:=by
 have ty:=hit.typeIs
 obtain⟨⟨c,dd,data,sl⟩,h1,h2,h3⟩:=hit
 simp only at h2 h3
 subst h2 h3
 unfold pyNext
 refine wpAny_bind (wpAny_attempt (wpAny_callSpecial?_slot (name:=Str.ofString "__next__") ty slot_rev_next (wpAny_call_entry slot_rev_next ty entry_rev_next ?_ (args_rev_next_1 _))))
 obtain⟨hp,g,d,tk,os⟩:=s
 wp_walk using AutoSeq1.wpAny_loadPart' h1
 unfold raiseNew
 refine wpAny_bind (wpAny_handled ?_)
 rw[show A.in1.handled=none from hh]
 refine wpAny_bind (wpAny_pure (wpAny_throw ?_))
 refine wpAny_bind (wpAny_isInstance (T:="StopIteration") (b:=true) ⟨_,Heap.get?_push_size _ rfl,rfl⟩ isSubtype_stop (wpAny_pure (q _ _ ?_)))
 exact fun b u nb e=>Heap.get?_push_of_some _ (Heap.get?_push_of_some _ ((Heap.SameBut.update ..).extBut b u nb ((Heap.SameBut.update ..).extBut b u nb e)))
theorem iter_revT {it l:Addr}{i:Int}{Q:Value->Shared->Prop} (hit:RevAt s.heap it l i) (h:Q (.ref it) s):wpAny (model prog w) A (pyIter (.ref it)) Q E s:=by
 refine wpAny_pyIter_slot hit.typeIs slot_rev_iter (wpAny_call_entry slot_rev_iter hit.typeIs entry_rev_iter ?_ (args_rev_iter_1 _))
 show wpAny _ _ (ret (.ref it)) _ _ s
 exact wpAny_pure ⟨_,rfl,"reversed",_,hit.typeIs,slot_rev_next.lookup,h⟩
end
def Itv (K:PySem.W.Frag) (a:Addr) (n:Nat):It:=
 ⟨fun i H=>i<n/\∃ xs,SqT K H a xs/\xs.length=n,fun i H x H'=>H'=H/\∀ xs,SqT K H a xs->xs[n-1-i]?=some x,fun i H=>n<=i⟩
theorem turn_revT {P:Program}{w:World}{K:PySem.W.Frag}{tg:Expr} (a it:Addr) (n:Nat):Turn P w K tg (Itv K a n) [it] it (fun i h=>i<=n/\RevAt h it a ((n:Int)-1-(i:Int))) where
 mem:=by simp
 obj:=fun i h st b hb=>by
  have e:b=it:=by simpa using hb
  subst e
  obtain⟨_,o,e,c,d⟩:=st
  exact⟨o,e,fun v z=>by rw[d]at z;cases z⟩
 keep:=fun i h h' st k=>⟨st.1,st.2.at fun o e=>k it (by simp) o e⟩
 item:=by
  intro X hP hw hK hc i pins s σ H E I hf st hg
  subst hP hw hK
  obtain⟨hi,xs,hq,hn⟩:=hg
  obtain⟨its,rv,p,hz⟩:=I.tuple hq
  have hx:xs[n-1-i]?=some (xs[n-1-i]'(by lia)):=List.getElem?_eq_getElem (by lia)
  obtain⟨u,hu,ru⟩:=rv.get hx
  obtain⟨f0,f1,f2,f3,f4,f5⟩:=hf it (by simp)
  have st2:=st.2
  rw[show (n:Int)-1-(i:Int)=((n-1-i:Nat):Int) by lia]at st2
  have hzz:its.toArray.size<=sizeLine:=by have:=rv.length;rw[List.size_toArray];lia
  refine next_revT_item st2 p hzz (x:=u) (by simpa using hu) fun h' tk st' sb=>?_
  have I1:Inv X pins σ H { s with heap:=h',toks:=tk }:=I.turned (t':=tk) (fun b o hb e=>(sb.2 b hb).trans e) f0 f1 f3 f4 f5
  have st'':RevAt h' it a ((n:Int)-1-((i+1:Nat):Int)):=by rw[show (n:Int)-1-((i+1:Nat):Int)=((n-1-i:Nat):Int)-1 by lia];exact st'
  obtain⟨o,e,c,d⟩:=id st'
  exact⟨u,rfl,go_of (s:={ s with heap:=h',toks:=tk }) e c d (by decide) ⟨_,H,I1,ru,⟨rfl,fun ys hy=>by rw[I.tuple_inj hy hq];exact hx⟩,⟨hi,st''⟩,fun b hb=>(hf b hb).1⟩⟩
 done:=by
  intro X hP hw hK hc i pins s σ H E I hf st hg
  subst hP hw hK
  have hi:i=n:=Nat.le_antisymm st.1 hg
  obtain⟨f0,f1,f2,f3,f4,f5⟩:=hf it (by simp)
  have st2:=st.2
  rw[show (n:Int)-1-(i:Int)=-1 by lia]at st2
  exact next_revT_end (I.ok.hd hc) st2 fun h' tk eb=>⟨rfl,I.turned (t':=tk) (fun b o hb e=>eb b o hb e) f0 f1 f3 f4 f5⟩
 self:=fun _ _ _ _ _ st h=>iter_revT st.2 h
section
variable {X:Cx}
def iRevT (K:PySem.W.Frag) (ta:TA):TI:=fun σ H R=>ta σ H fun vs H1=>∃ a xs,vs=[.ref a]/\SqT K H1 a xs/\R (Itv K a xs.length) H1
theorem boot_reversed:bootBuiltins "reversed"=some (.type "reversed"):=by first | rfl | decide +kernel | kernel_rfl
theorem pi_revT {a tg:Expr}{ta:TA}{p pos:Pos} (hg:Gl X "reversed") (hm:X.mg "reversed"=none) (ha:PA X [a] ta) (hs:starEach [a] X.env=[(false,eval a X.env)]:=by rfl) :
  PI X tg (.Call (.Name "reversed" p) [a] [] pos) (iRevT X.K ta):=by
 intro pins s σ H R I h
 refine Call_ (ld_blt I hg hm boot_reversed (PyProof.Rows.callWith_type1 (thn (ha pos pins s σ H _ I h) fun us s1 ⟨vs,H1,I1,r1,q1⟩=>?_) (by rw[hs];rfl) (by rfl)))
 obtain⟨x,xs,e,hx,q⟩:=q1
 subst e
 cases r1 with
 | cons r rr=>
  cases rr
  cases r
  obtain⟨its,v1,p1,hz1⟩:=I1.tuple hx
  have hl1:=v1.length
  have hzz:its.toArray.size<=sizeLine:=by rw[List.size_toArray];lia
  refine call_reversed_tuple p1 hzz fun h' tk Z n2 keep=>iter_revT Z ?_
  have I2:Inv X pins σ H1 { s1 with heap:=h',toks:=tk }:=I1.kept (t':=tk) keep
  refine⟨_,[s1.heap.objs.size],_,_,H1,rfl,I2,turn_revT x s1.heap.objs.size xs.length,⟨Nat.zero_le _,?_⟩,fun c hc=>?_,q⟩
  ·have e0:((its.toArray.size:Nat):Int)-1=(xs.length:Int)-1-((0:Nat):Int):=by rw[List.size_toArray,<- hl1];simp
   rw[<- e0];exact Z
  ·have hc':s1.heap.objs.size<=c:=by rw[List.mem_singleton.mp hc];exact Nat.le_refl _
   exact I1.fpOk hc' (I1.hok.fresh hc')
theorem wi_revT {a tg:Expr}{ta:TA}{p pos:Pos} (hg:Gl X "reversed") (hm:X.mg "reversed"=none) (ha:Hd (PA X [a] ta)) (hs:notStar a=true:=by rfl) :
  Hd (PI X tg (.Call (.Name "reversed" p) [a] [] pos) (iRevT X.K ta)):=⟨pi_revT hg hm ha.out (by rw[star_cons hs];rfl)⟩
end
end L2
end
section
namespace L2
open PySem PySem.Spec PyProof.Rows PySem.W
section
variable {X:Cx}
def Held (X:Cx) (CX:CXT) (k:Nat) (f:Addr) (sp:Sp):Prop:=∃ (fd:FuncData) (ps:List Str),FnOk X.prog X.w X.K X.mg X.base CX k f fd ps sp/\PySem.W.keepIn X.K (.ref f)=true/\Binds X.K fd ps []
def tCallA (C:Addr->Sp->Prop) (E:XK) (te:TE) (t:TA):TE:=fun σ H Q=>te σ H fun x H1=>∃ f sp,x=.ref f/\C f sp/\t σ H1 fun vs H2=>sp vs H2 Q E
theorem pe_callA {CX:CXT}{k:Nat}{C:Addr->Sp->Prop}{E:XK}{fe:Expr}{te:TE}{pos:Pos}{e:Expr}{es:List Expr}{t:TA}
  (hC:∀ f sp,C f sp->Held X CX k f sp) (hr:Room k X.A) (hx:Passes CX X E) (hf:PE X fe te) (ha:PA X (e::es) t) (hs:noStars (e::es)=true:=by rfl)
  (hcall:eval (.Call fe (e::es) [] pos) X.env=(do callWith pos (<- eval fe X.env) [] (backTo pos (starEach (e::es) X.env)) (backToKw pos (keywordEach [] X.env))):=by rfl) :
  PE X (.Call fe (e::es) [] pos) (tCallA C E te t):=by
 have h':(notStar e && noStars es)=true:=hs
 rw[Bool.and_eq_true]at h'
 intro pins s σ H Q I h
 refine Call_ (thn (hf pins s σ H _ I h) fun v s1 ⟨y,H1,I1,r1,f,sp,e1,hc,q1⟩=>?_) hcall
 subst e1
 cases r1
 obtain⟨fd,ps,F,hk,hb⟩:=hC f sp hc
 refine PySem.W.callWith_K (h₀:=X.base) I1.ok.mod.kin hk (thn (ha pos pins s1 σ H1 _ I1 q1) fun us s2 ⟨vs,H2,I2,r,q⟩=>⟨I2.kIn,?_⟩) (star_cons h'.1) (stars_any h'.2)
 exact run_fn F hr hb .nil hx I2 r (by rw[List.append_nil];exact q)
theorem we_callA {CX:CXT}{k:Nat}{C:Addr->Sp->Prop}{E:XK}{fe:Expr}{te:TE}{pos:Pos}{e:Expr}{es:List Expr}{t:TA}
  (hC:∀ f sp,C f sp->Held X CX k f sp) (hr:Room k X.A) (hx:Passes CX X E) (hf:Hd (PE X fe te)) (ha:Hd (PA X (e::es) t)) (hs:noStars (e::es)=true:=by rfl)
  (hcall:eval (.Call fe (e::es) [] pos) X.env=(do callWith pos (<- eval fe X.env) [] (backTo pos (starEach (e::es) X.env)) (backToKw pos (keywordEach [] X.env))):=by rfl) :
  Hd (PE X (.Call fe (e::es) [] pos) (tCallA C E te t)):=⟨pe_callA hC hr hx hf.out ha.out hs hcall⟩
end
end L2
end
section
namespace L2
open PySem PySem.Spec PyProof.Rows
section
variable {prog:Program}{w:World}{A:Around}{E:Value->Shared->Prop}{s:Shared}
end
section
variable {prog:Program}{w:World}{A:Around}{E:Value->Shared->Prop}{s:Shared}
end
section
variable {X:Cx}
end
end L2
end
section
namespace L2
open PySem
theorem seqH {t u:TS}{D:Ends} {σ:St} {H:Hp} (h:∀ N:St->Hp->Prop,(∀ σ H,u D σ H->N σ H)->t ⟨N,D.rt,D.bk,D.ct⟩ σ H):tSeq t u D σ H:=h (u D) fun _ _ k=>k
theorem ixt {K:PySem.W.Frag}{a:Addr}{xs:List V}{i:Int}{v:V}{H:Hp}{Q:VK} (h:SqT K H a xs) (e:atI xs i=some v) (k:Q v H):rIxL K (.ref a) (.int i) H Q\/(rIxT K (.ref a) (.int i) H Q\/(rIxS (.ref a) (.int i) H Q\/rIxD (.ref a) (.int i) H Q)):=.inr (.inl ⟨a,xs,i,v,rfl,rfl,h,e,k⟩)
theorem ixl {K:PySem.W.Frag}{a:Addr}{xs:List V}{i:Int}{v:V}{H:Hp}{Q:VK} (h:SqL K H a xs) (e:atI xs i=some v) (k:Q v H):rIxL K (.ref a) (.int i) H Q\/(rIxT K (.ref a) (.int i) H Q\/(rIxS (.ref a) (.int i) H Q\/rIxD (.ref a) (.int i) H Q)):=.inl ⟨a,xs,i,v,rfl,rfl,h,e,k⟩
theorem vr {σ:St} {i:Nat}{v:V}{H:Hp}{Q:VK} (k:Q v H) (e:σ[i]?=some (some v):=by rfl):tVar i σ H Q:=⟨v,e,k⟩
theorem we_make0 {X:Cx}{pos:Pos}{CX:CXT}{k:Nat}{C fa:Addr}{fd:FuncData}{ps:List Str}{sp:Sp}{dvs:List V}{ds:List Value}{E:XK}{x:Str}{p:Pos} (M:Mk X.K C fa) (F:FnOk X.prog X.w X.K X.mg X.base CX k fa fd ps sp) (hr:Room (k+1) X.A) (hg:Gl X x) (hm:X.mg x=some (.ref C)) (hb:Binds X.K fd ps ds) (hd:Vals dvs ds) (hx:Passes CX X E)
  (hdb:(x == ("__debug__" : Str))=false:=by decide):Hd (PE X (.Call (.Name x p) [] [] pos) (tMake C sp dvs E tNil)):=⟨pe_make0 M F hr hg hm hb hd hx hdb⟩
end L2
end
section
namespace K30
open PySem L2 Kn
def top (i:Nat):Stmt:=PySem.Challenge.pw_keptnest_k30_even_and_degree.main.body.getD i (.Pass ⟨0,0,0,0⟩)
def bd (i j:Nat):Stmt:=(defBody (top i)).getD j (.Pass ⟨0,0,0,0⟩)
structure Tx (mg:Str->Option Value):Prop where
 z_len:mg "len"=none
 z_int:mg "int"=none
 z_tuple:mg "tuple"=none
 z_range:mg "range"=none
 z_isinstance:mg "isinstance"=none
 z_sorted:mg "sorted"=none
 z_dict:mg "dict"=none
 z_max:mg "max"=none
 z_any:mg "any"=none
 z_sum:mg "sum"=none
 z_set:mg "set"=none
 z_reversed:mg "reversed"=none
 z_bool:mg "bool"=none
theorem hideS {t u:TS}{D:Ends} {σ:St} {H:Hp} (h:∀ R:TS,R=u->tSeq t R D σ H):tSeq t u D σ H:=h u rfl
def Sd (H:Hp) (p:Addr):Prop:=∃ a f c m:Int,H p=some (.lst [.int a,.int f,.int c,.int m])
def Ex (p:Addr) (H H':Hp):Prop:=∀ b o,b≠p->H b=some o->H' b=some o
theorem Ex.refl (p:Addr) (H:Hp):Ex p H H:=fun _ _ _ h=>h
theorem Ex.trans {p:Addr}{H H1 H2:Hp} (a:Ex p H H1) (b:Ex p H1 H2):Ex p H H2:=fun c o n h=>b c o n (a c o n h)
theorem ex_upd {p:Addr}{H:Hp}{o:HO}:Ex p H (upd H p o):=fun b u n h=>by rw[upd_ne n];exact h
theorem ex_new {p q:Addr}{H:Hp}{o:HO} (h:H q=none):Ex p H (upd H q o):=fun b u n e=>by rw[upd_ne (ne_of_none e h)];exact e
theorem Same.ex {p:Addr}{H H':Hp} (s:Same H H'):Ex p H H':=fun b o _ h=>s b o h
theorem Ex.upd' {p c:Addr}{H H':Hp}{o:HO} (e:Ex p H H') (h:H c=none):Ex p H (upd H' c o):=fun b q n z=>by rw[upd_ne (ne_of_none z h)];exact e b q n z
theorem same_new {H:Hp}{p:Addr} (h:H p=none) (o:HO):Same H (upd H p o):=fun b u q=>by rw[upd_ne (ne_of_none q h)];exact q
theorem same_back {H H':Hp} (s:Same H H') {l:Addr} (h:H' l=none):H l=none:=by
 cases e:H l with
 | none=>rfl
 | some u=>rw[s _ _ e]at h;cases h
theorem ixt {K:PySem.W.Frag}{a:Addr}{xs:List V}{i:Int}{v:V}{H:Hp}{Q:VK} (h:SqT K H a xs) (e:atI xs i=some v) (k:Q v H):rIxL K (.ref a) (.int i) H Q\/(rIxT K (.ref a) (.int i) H Q\/(rIxS (.ref a) (.int i) H Q\/rIxD (.ref a) (.int i) H Q)):=.inr (.inl ⟨a,xs,i,v,rfl,rfl,h,e,k⟩)
theorem ixl {K:PySem.W.Frag}{a:Addr}{xs:List V}{i:Int}{v:V}{H:Hp}{Q:VK} (h:SqL K H a xs) (e:atI xs i=some v) (k:Q v H):rIxL K (.ref a) (.int i) H Q\/(rIxT K (.ref a) (.int i) H Q\/(rIxS (.ref a) (.int i) H Q\/rIxD (.ref a) (.int i) H Q)):=.inl ⟨a,xs,i,v,rfl,rfl,h,e,k⟩
theorem bm (a k:Int) (h:0<k) (h2:k<2 ^ 64):-(2 ^ 64)<a % k/\a % k<2 ^ 64:=by
 have h1:=Int.emod_nonneg a (by lia:k≠0)
 have h3:=Int.emod_lt_of_pos a h
 lia
section
variable {P:Program}{w:World}{K:PySem.W.Frag}{mg:Str->Option Value}{base:Heap}{f:Addr}{fd:FuncData}
theorem u110 {k:Nat}{A:Around} (hr:Room k A):A.units+110<cLine:=by have:=hr.un;lia
theorem u0 {k:Nat}{A:Around} (hr:Room k A):A.units<cLine:=by have:=hr.un;lia
theorem Zbk:FnScope ["cell","number"] ["cell"] (defScope (top 15)):=⟨rfl,rfl,rfl,by decide +kernel,rfl,by decide +kernel,by decide +kernel⟩
def spSeed:Sp:=fun vs H Q _=>∃ c:Int,vs=[.int c]/\∀ (p:Addr) (H':Hp),Same H H'->H p=none->Sd H' p->Q (.ref p) H'
theorem ok_seed (T:Tx mg) (D:Df K mg "_law_seed" (top 15) f fd ["cell"]):FnOk P w K mg base CX0 1 f fd ["cell"] spSeed:=by
 refine D.fn.okH Zbk (fun vs H Q E h=>?_) (fun cdv A outer s H vs Q E hr h=>?_)
 ·obtain⟨c,rfl,_⟩:=h;rfl
 obtain⟨c,rfl,q⟩:=h
 have hu:=u110 hr
 have hu0:=u0 hr
 have hu1:=hu_of hr
 refine⟨_,(wss_cons (ws_set (i:=1) Zbk.nd rfl (Or.inl rfl) (we_callB (call_max2 rfl) rfl T.z_max bt_max (wa_cons (wv 0) (wa_cons (we_op op_sub we_int (wv 0)) wa_nil))))
   (wss_one (ws_ret (we_lst (wa_cons (wv 1) (wa_cons (we_callTy call_int1 rfl T.z_int bt_int (wa_cons (we_cmpR op_ge (wv 1) (we_op op_pow we_int we_int) (nomark _)) wa_nil)) (wa_cons we_int (wa_cons (we_op op_mod (wv 0) we_int) wa_nil)))))))),?_⟩
 refine⟨_,rfl,_,rfl,_,_,rfl,rfl,_,_,rfl,?_⟩
 refine⟨_,rfl,_,rfl,_,_,rfl,rfl,⟨by decide,by decide,by decide⟩,_,_,rfl,rfl,.inr ⟨_,rfl,_,rfl,_,_,rfl,rfl,(by show (0:Int)<1999999943;decide),(by show 4<=sizeLine;decide),fun p hp=>?_⟩⟩
 exact q p _ (same_new hp _) hp ⟨_,_,_,_,upd_same⟩
theorem ZaZ:FnScope ["seed","most","found","number"] ["seed","most"] (defScope (top 16)):=⟨rfl,rfl,rfl,by decide +kernel,rfl,by decide +kernel,by decide +kernel⟩
def spDraw:Sp:=fun vs H Q _=>∃ (p:Addr) (m:Int),vs=[.ref p,.int m]/\Sd H p/\0<m/\m<1073741824 /\
 ∀ (r:Int) (H':Hp),Ex p H H'->Sd H' p->0<=r->r<m->Q (.int r) H'
theorem ok_draw (T:Tx mg) (D:Df K mg "_law_draw" (top 16) f fd ["seed","most"]):FnOk P w K mg base CX0 1 f fd ["seed","most"] spDraw:=by
 refine D.fn.okH ZaZ (fun vs H Q E h=>?_) (fun cdv A outer s H vs Q E hr h=>?_)
 ·obtain⟨p,m,rfl,_⟩:=h;rfl
 obtain⟨p,m,rfl,⟨a,fl,c,z,hp⟩,m0,m1,q⟩:=h
 have hu:=u110 hr
 have hu0:=u0 hr
 have hu1:=hu_of hr
 refine⟨_,(wss_cons (ws_asg (we_op op_plus (we_ix (ix_U hu1) (wv 0) we_int (fun _ _=>rfl)) we_int) (wg_sub (wv 0) we_int (set_U hu1)))
   (wss_cons (ws_if (wt_pw (ww_and (wt_cmpR (op_eqU hu) (we_ix (ix_U hu1) (wv 0) we_int (fun _ _=>rfl)) we_int (nomark _)) (ww_and1 (wt_cmpR op_gt (we_ix (ix_U hu1) (wv 0) we_int (fun _ _=>rfl)) we_int (nomark _))))) (wss_cons (ws_set (i:=2) ZaZ.nd rfl (Or.inl rfl) (we_op op_mod (we_ix (ix_U hu1) (wv 0) we_int (fun _ _=>rfl)) (wv 1)))
   (wss_cons (ws_asg (we_op op_fdiv (we_ix (ix_U hu1) (wv 0) we_int (fun _ _=>rfl)) (wv 1)) (wg_sub (wv 0) we_int (set_U hu1)))
   (wss_one (ws_ret (wv 2))))) wss_nil)
   (wss_cons (ws_set (i:=3) ZaZ.nd rfl (Or.inl rfl) (we_op op_mod (we_op op_mul (we_op op_plus (we_op op_plus (we_ix (ix_U hu1) (wv 0) we_int (fun _ _=>rfl)) (we_op op_mul we_int (we_ix (ix_U hu1) (wv 0) we_int (fun _ _=>rfl)))) we_int) we_int) we_int))
   (wss_cons (ws_set (i:=3) ZaZ.nd rfl (Or.inl rfl) (we_op op_mod (we_op op_mul (we_op op_mod (we_op op_mul (wv 3) (wv 3)) we_int) we_int) we_int))
   (wss_one (ws_ret (we_op op_mod (we_op op_fdiv (wv 3) we_int) (wv 1)))))))),?_⟩
 refine⟨_,rfl,ixl (SqL.of hp) rfl (.inl ⟨_,_,rfl,rfl,_,rfl,.inl ⟨p,_,_,2,rfl,rfl,hp,rfl,?_⟩⟩)⟩
 have hp1:(upd H p (.lst ([V.int a,.int fl,.int c,.int z].set 2 (.int (c+1))))) p=some (.lst [V.int a,.int fl,.int (c+1),.int z]):=upd_same
 have ex1:Ex p H (upd H p (.lst ([V.int a,.int fl,.int c,.int z].set 2 (.int (c+1))))):=ex_upd
 generalize upd H p (.lst ([V.int a,.int fl,.int c,.int z].set 2 (.int (c+1))))=H1 at hp1 ex1 ⊢
 dsimp only
 refine hideS (t:=tIfS _ _ _) fun R hR=>?_
 have rest:∀ σ,σ=[some (.ref p),some (.int m),none,none]->R { nx:=fun x H'=>Q V.non H',rt:=Q } σ H1:=fun σ hσ=>by
  subst hR hσ
  refine⟨_,rfl,ixl (SqL.of hp1) rfl (⟨_,rfl,ixl (SqL.of hp1) rfl ⟨_,_,rfl,rfl,.inl ⟨by decide,by decide⟩,.inl ⟨_,_,rfl,rfl,.inl ⟨_,_,rfl,rfl,_,_,rfl,rfl,.inr ⟨by decide,by decide⟩,_,_,rfl,rfl,(by show (0:Int)<2147483647;decide),?_⟩⟩⟩⟩)⟩
  refine⟨_,rfl,_,rfl,_,_,rfl,rfl,.inl (bm _ _ (by decide) (by decide)),_,_,rfl,rfl,(by show (0:Int)<2147483629;decide),_,_,rfl,rfl,.inr ⟨by decide,by decide⟩,_,_,rfl,rfl,(by show (0:Int)<2147483399;decide),?_⟩
  exact⟨_,rfl,_,_,rfl,rfl,⟨by decide,by decide⟩,_,rfl,_,_,rfl,rfl,m0,q _ _ ex1 ⟨_,_,_,_,hp1⟩ (Int.emod_nonneg _ (by lia)) (Int.emod_lt_of_pos _ m0)⟩
 refine⟨_,rfl,ixl (SqL.of hp1) rfl (.inl ⟨rfl,_,rfl,?_⟩)⟩
 refine ite2 (fun e1=>?a) (fun e1=>rest _ rfl)
 refine⟨_,rfl,ixl (SqL.of hp1) rfl ⟨_,_,rfl,rfl,_,rfl,?_⟩⟩
 refine ite2 (fun e2=>?b) (fun e2=>rest _ rfl)
 refine⟨_,rfl,ixl (SqL.of hp1) rfl ⟨_,rfl,_,_,rfl,rfl,m0,?_⟩⟩
 refine⟨_,rfl,ixl (SqL.of hp1) rfl ⟨_,rfl,_,_,rfl,rfl,⟨m0,m1⟩,_,rfl,.inl ⟨p,_,_,0,rfl,rfl,hp1,rfl,?_⟩⟩⟩
 exact⟨_,rfl,q _ _ (ex1.trans ex_upd) ⟨_,_,_,_,upd_same⟩ (Int.emod_nonneg _ (by lia)) (Int.emod_lt_of_pos _ m0)⟩
end
end K30
end
section
namespace Kn
open PySem
def isNum (c:Nat):Bool:=c == 45 || (decide (48<=c) && decide (c<=57))
def isLet (c:Nat):Bool:=decide (97<=c) && decide (c<=122)
def stop (r:List Nat):Prop:=∀ c t,r=c::t->isNum c=false/\isLet c=false
def dg (i:Int):List Nat:=(Str.ofString (toString i)).cps.toList
def lets (s:Str):Prop:=∀ c∈s.cps.toList,isLet c=true
end Kn
end
section
namespace Kn
open PySem L2
end Kn
end
section
namespace Kn
open PySem L2
inductive Kd where
 | num
 | word
 | row (ps:List (Str×Kd))
 | bag (k:Kd)
def KB:Nat->Kd->Prop
 | _,.num=>True
 | _,.word=>True
 | 0,.row ps=>ps=[]
 | 0,.bag _=>False
 | d+1,.row ps=>∀ p∈ps,lets p.1/\p.1.length<=9/\KB d p.2
 | d+1,.bag k=>KB d k
theorem KB.up:∀ {d:Nat}{x:Kd},KB d x->KB (d+1) x
 | 0,.num,_=>by simp only[KB]
 | _+1,.num,_=>by simp only[KB]
 | 0,.word,_=>by simp only[KB]
 | _+1,.word,_=>by simp only[KB]
 | 0,.row ps,q=>by simp only[KB]at q;subst q;simp [KB]
 | 0,.bag k,q=>by simp only[KB]at q
 | d+1,.row ps,q=>by
  simp only[KB]at q
  rw[KB]
  exact fun p hp=>⟨(q p hp).1,(q p hp).2.1,KB.up (q p hp).2.2⟩
 | d+1,.bag k,q=>by
  simp only[KB]at q
  rw[KB]
  exact KB.up q
end Kn
end
section
namespace Kn
open PySem L2
end Kn
end
section
namespace Kn
open PySem L2
inductive Pr where
 | r (f:Str) (x:Val)
 | b (x:Val) (n:Int)
end Kn
end
section
namespace Kn
open PySem L2
end Kn
end
section
namespace Kn
open PySem L2
inductive At where
 | int (i:Int)
 | txt (s:Str)
inductive Tr where
 | row (ps:List (Str×Tr))
 | node (w:Str) (as:List At) (ps:List Tr)
def atD:At->Dt
 | .int i=>.int i
 | .txt s=>.str s
mutual
def tdat:Tr->Dt
 | .row ps=>.tup [.str "row",.tup (tdatR ps)]
 | .node w as ps=>.tup (.str w::(as.map atD++tdatL ps))
def tdatR:List (Str×Tr)->List Dt
 | []=>[]
 | p::ps=>.tup [.str p.1,tdat p.2]::tdatR ps
def tdatL:List Tr->List Dt
 | []=>[]
 | p::ps=>tdat p::tdatL ps
end
theorem tdatR_map (ps:List (Str×Tr)):tdatR ps=ps.map fun p=>.tup [.str p.1,tdat p.2]:=by
 induction ps with
 | nil=>rw[tdatR];rfl
 | cons p ps ih=>rw[tdatR,ih];rfl
theorem tdatL_map (ps:List Tr):tdatL ps=ps.map tdat:=by
 induction ps with
 | nil=>rw[tdatL];rfl
 | cons p ps ih=>rw[tdatL,ih];rfl
inductive KG:Nat->Tr->Prop where
 | num {d:Nat}:KG d (.node (Str.ofString "num") [] [])
 | word {d:Nat}:KG d (.node (Str.ofString "word") [] [])
 | bag {d:Nat}{k:Tr} (h:KG d k):KG (d+1) (.node (Str.ofString "bag") [] [k])
 | row {d:Nat}{ps:List (Str×Tr)} (hl:ps.length<=14) (hn:∀ p∈ps,p.1.length<=10) (h:∀ p∈ps,KG d p.2):KG (d+1) (.row ps)
theorem one_mem {α:Type} {P:α->Prop}{x:α} (h:P x):∀ y∈[x],P y:=fun y hy=>by rw[List.mem_singleton.mp hy];exact h
theorem two_mem {α:Type} {P:α->Prop}{x y:α} (h:P x) (g:P y):∀ z∈[x,y],P z:=fun z hz=>by
 rcases List.mem_cons.mp hz with rfl | hz
 ·exact h
 ·rw[List.mem_singleton.mp hz];exact g
inductive QG:Nat->Bool->Tr->Prop where
 | num {d:Nat}{i:Int} (h:i.natAbs<10 ^ 34):QG d false (.node (Str.ofString "num") [.int i] [])
 | leaf {d:Nat}{w s:Str} (hw:w=Str.ofString "word"\/w=Str.ofString "var"\/w=Str.ofString "table") (h:s.length<=10):QG d false (.node w [.txt s] [])
 | none {d:Nat}{k:Tr} (h:KG 2 k):QG d false (.node (Str.ofString "none") [] [k])
 | row0 {d:Nat}:QG d false (.row [])
 | row {d:Nat}{ps:List (Str×Tr)} (hl:ps.length<=14) (hn:∀ p∈ps,p.1.length<=10) (h:∀ p∈ps,QG d false p.2):QG (d+1) false (.row ps)
 | at {d:Nat}{s:Str}{q:Tr} (h:s.length<=10) (hq:QG d false q):QG (d+1) false (.node (Str.ofString "at") [.txt s] [q])
 | times {d:Nat}{i:Int}{q:Tr} (h:i.natAbs<10 ^ 34) (hq:QG d false q):QG (d+1) false (.node (Str.ofString "times") [.int i] [q])
 | one {d:Nat}{q:Tr} (hq:QG d false q):QG (d+1) false (.node (Str.ofString "one") [] [q])
 | when {d:Nat}{c q:Tr} (hc:QG d true c) (hq:QG d false q):QG (d+1) false (.node (Str.ofString "when") [] [c,q])
 | bind {d:Nat}{w s:Str}{q r:Tr} (hw:w=Str.ofString "for"\/w=Str.ofString "let") (h:s.length<=10) (hq:QG d false q) (hr:QG d false r):QG (d+1) false (.node w [.txt s] [q,r])
 | two {d:Nat}{w:Str}{q r:Tr} (hw:w=Str.ofString "add"\/w=Str.ofString "mul"\/w=Str.ofString "both") (hq:QG d false q) (hr:QG d false r):QG (d+1) false (.node w [] [q,r])
 | cmp {d:Nat}{w:Str}{q r:Tr} (hw:w=Str.ofString "same"\/w=Str.ofString "under") (hq:QG d false q) (hr:QG d false r):QG (d+1) true (.node w [] [q,r])
 | logic {d:Nat}{w:Str}{q r:Tr} (hw:w=Str.ofString "and"\/w=Str.ofString "or") (hq:QG d true q) (hr:QG d true r):QG (d+1) true (.node w [] [q,r])
 | not {d:Nat}{c:Tr} (hc:QG d true c):QG (d+1) true (.node (Str.ofString "not") [] [c])
theorem QG.up {d:Nat}{b:Bool}{t:Tr} (h:QG d b t):QG (d+1) b t:=by
 induction h with
 | num h=>exact .num h
 | leaf hw h=>exact .leaf hw h
 | none h=>exact .none h
 | row0=>exact .row0
 | row hl hn _ ih=>exact .row hl hn ih
 | «at» h _ ih=>exact .at h ih
 | times h _ ih=>exact .times h ih
 | one _ ih=>exact .one ih
 | when _ _ i1 i2=>exact .when i1 i2
 | bind hw h _ _ i1 i2=>exact .bind hw h i1 i2
 | two hw _ _ i1 i2=>exact .two hw i1 i2
 | cmp hw _ _ i1 i2=>exact .cmp hw i1 i2
 | logic hw _ _ i1 i2=>exact .logic hw i1 i2
 | not _ ih=>exact .not ih
end Kn
end
section
namespace Kn
open PySem L2
def HM:List Str:=[Str.ofString "num",Str.ofString "word",Str.ofString "var",Str.ofString "table",Str.ofString "none",Str.ofString "at",Str.ofString "times",Str.ofString "for",Str.ofString "let"]
inductive TH:Nat->Tr->Prop where
 | num {d:Nat}{i:Int}:TH d (.node (Str.ofString "num") [.int i] [])
 | atom {d:Nat}{w s:Str} (hw:w∈[Str.ofString "word",Str.ofString "var",Str.ofString "table"]):TH d (.node w [.txt s] [])
 | none {d:Nat}{k:Tr} (h:KG 2 k):TH d (.node (Str.ofString "none") [] [k])
 | row {d:Nat}{ps:List (Str×Tr)} (hl:ps.length<=14) (h:∀ p∈ps,TH d p.2):TH (d+1) (.row ps)
 | times {d:Nat}{i:Int}{q:Tr} (h:TH d q):TH (d+1) (.node (Str.ofString "times") [.int i] [q])
 | at {d:Nat}{s:Str}{q:Tr} (h:TH d q):TH (d+1) (.node (Str.ofString "at") [.txt s] [q])
 | bind {d:Nat}{w s:Str}{q r:Tr} (hw:w=Str.ofString "for"\/w=Str.ofString "let") (hq:TH d q) (hr:TH d r):TH (d+1) (.node w [.txt s] [q,r])
 | plain {d:Nat}{w:Str}{ps:List Tr} (hw:w ∉ HM) (hr:w≠Str.ofString "row") (hl:ps.length<=2) (h:∀ q∈ps,TH d q):TH (d+1) (.node w [] ps)
theorem TH.up {d:Nat}{t:Tr} (h:TH d t):TH (d+1) t:=by
 induction h with
 | num=>exact .num
 | atom hw=>exact .atom hw
 | none h=>exact .none h
 | row hl _ ih=>exact .row hl ih
 | times _ ih=>exact .times ih
 | «at» _ ih=>exact .at ih
 | bind hw _ _ i1 i2=>exact .bind hw i1 i2
 | plain hw hr hl _ ih=>exact .plain hw hr hl ih
theorem TH.mono {d e:Nat}{t:Tr} (l:d<=e) (h:TH d t):TH e t:=by
 induction l with
 | refl=>exact h
 | step _ ih=>exact ih.up
theorem QG.th {d:Nat}{b:Bool}{t:Tr} (h:QG d b t):TH (d+1) t:=by
 induction h with
 | num h=>exact .num
 | leaf hw h=>exact .atom (by rcases hw with rfl | rfl | rfl <;> simp)
 | none h=>exact .none h
 | row0=>exact .row (by simp) fun p hp=>nomatch hp
 | row hl hn _ ih=>exact .row hl ih
 | «at» h _ ih=>exact .at ih
 | times h _ ih=>exact .times ih
 | one _ ih=>exact .plain (by decide +kernel) (by decide +kernel) (by simp) (one_mem ih)
 | when _ _ i1 i2=>exact .plain (by decide +kernel) (by decide +kernel) (by simp) (two_mem i1 i2)
 | bind hw h _ _ i1 i2=>exact .bind hw i1 i2
 | two hw _ _ i1 i2=>rcases hw with rfl | rfl | rfl <;> exact .plain (by decide +kernel) (by decide +kernel) (by simp) (two_mem i1 i2)
 | cmp hw _ _ i1 i2=>rcases hw with rfl | rfl <;> exact .plain (by decide +kernel) (by decide +kernel) (by simp) (two_mem i1 i2)
 | logic hw _ _ i1 i2=>rcases hw with rfl | rfl <;> exact .plain (by decide +kernel) (by decide +kernel) (by simp) (two_mem i1 i2)
 | not _ ih=>exact .plain (by decide +kernel) (by decide +kernel) (by simp) (one_mem ih)
def kids:Tr->List Tr
 | .row ps=>ps.map (·.2)
 | .node w _ ps=>if w=Str.ofString "none" then [] else ps
theorem kids_node (w:Str) (as:List At) (ps:List Tr):kids (.node w as ps)=if w=Str.ofString "none" then [] else ps:=rfl
theorem kids_ne {w:Str} (as:List At) (ps:List Tr) (h:w≠Str.ofString "none"):kids (.node w as ps)=ps:=if_neg h
theorem TH.sub {d:Nat}{t:Tr} (h:TH d t):∀ q∈kids t,∃ e,e<d/\TH e q:=by
 cases h with
 | num=>intro q hq;rw[kids_node]at hq;split at hq <;> cases hq
 | atom hw=>intro q hq;rw[kids_node]at hq;split at hq <;> cases hq
 | none=>intro q hq;rw[kids_node,if_pos rfl]at hq;cases hq
 | row hl h=>
  intro q hq
  obtain⟨p,hp,rfl⟩:=List.mem_map.mp hq
  exact⟨_,Nat.lt_succ_self _,h p hp⟩
 | times h=>intro q hq;rw[kids_ne _ _ (by decide +kernel)]at hq;rw[List.mem_singleton.mp hq];exact⟨_,Nat.lt_succ_self _,h⟩
 | «at» h=>intro q hq;rw[kids_ne _ _ (by decide +kernel)]at hq;rw[List.mem_singleton.mp hq];exact⟨_,Nat.lt_succ_self _,h⟩
 | bind hw h1 h2=>
  intro q hq
  rw[kids_ne _ _ (by rcases hw with rfl | rfl <;> decide +kernel)]at hq
  exact⟨_,Nat.lt_succ_self _,two_mem (P:=TH _) h1 h2 q hq⟩
 | plain hw hr hl h=>
  intro q hq;rw[kids_node]at hq
  split at hq
  ·cases hq
  ·exact⟨_,Nat.lt_succ_self _,h q hq⟩
theorem TH.len {d:Nat}{t:Tr} (h:TH d t):(kids t).length<=14:=by
 cases h with
 | num=>rw[kids_node];split <;> simp
 | atom hw=>rw[kids_node];split <;> simp
 | none=>rw[kids_node,if_pos rfl];simp
 | row hl h=>show (List.map _ _).length<=14;rw[List.length_map];exact hl
 | times h=>rw[kids_node];split <;> simp
 | «at» h=>rw[kids_node];split <;> simp
 | bind hw h1 h2=>rw[kids_node];split <;> simp
 | plain hw hr hl h=>rw[kids_node];split <;> (try simp only[List.length_nil]) <;> lia
mutual
def nq:Tr->Nat
 | .row ps=>1+nqR ps
 | .node w _ ps=>1+if w=Str.ofString "none" then 0 else nqL ps
def nqR:List (Str×Tr)->Nat
 | []=>0
 | p::ps=>nq p.2+nqR ps
def nqL:List Tr->Nat
 | []=>0
 | p::ps=>nq p+nqL ps
end
theorem nqR_map (ps:List (Str×Tr)):nqR ps=(ps.map fun p=>nq p.2).sum:=by
 induction ps with
 | nil=>rw[nqR];rfl
 | cons p ps ih=>rw[nqR,ih];rfl
theorem nqL_map (ps:List Tr):nqL ps=(ps.map nq).sum:=by
 induction ps with
 | nil=>rw[nqL];rfl
 | cons p ps ih=>rw[nqL,ih];rfl
theorem nq_kids (t:Tr):nq t=1+((kids t).map nq).sum:=by
 cases t with
 | row ps=>rw[nq,nqR_map];show _=1+((ps.map (·.2)).map nq).sum;rw[List.map_map];rfl
 | node w as ps=>rw[nq,nqL_map,kids_node];split <;> simp
theorem nq_pos (t:Tr):1<=nq t:=by rw[nq_kids];lia
theorem len_nq (l:List Tr):l.length<=(l.map nq).sum:=by
 induction l with
 | nil=>simp
 | cons t l ih=>rw[List.map_cons,List.sum_cons,List.length_cons];have:=nq_pos t;lia
def bnd:Tr->Nat->List Str
 | .node w [.txt s] _,1=>if w=Str.ofString "for"\/w=Str.ofString "let" then [s] else []
 | _,_=>[]
inductive Tb (x:Str):Tr->Prop
 | here:Tb x (.node (Str.ofString "table") [.txt x] [])
 | kid {t k:Tr}{i:Nat} (e:(kids t)[i]?=some k) (h:Tb x k):Tb x t
theorem Tb.iff {x:Str}{t:Tr}:Tb x t ↔ (t=.node (Str.ofString "table") [.txt x] []\/∃ (i:Nat) (k:Tr),(kids t)[i]?=some k/\Tb x k):=by
 constructor
 ·intro h
  cases h with
  | here=>exact .inl rfl
  | kid e h=>exact .inr ⟨_,_,e,h⟩
 ·rintro (rfl | ⟨i,k,e,h⟩)
  ·exact .here
  ·exact .kid e h
end Kn
end
section
namespace K30
open PySem L2 Kn
inductive Kd where
 | num | word
 | row (fs:List (Str×Kd))
 | bag (k:Kd)
mutual
def kdD:Kd->Dt
 | .num=>.tup [.str "num"]
 | .word=>.tup [.str "word"]
 | .row fs=>.tup [.str "row",.tup (kdR fs)]
 | .bag k=>.tup [.str "bag",kdD k]
def kdR:List (Str×Kd)->List Dt
 | []=>[]
 | p::ps=>.tup [.str p.1,kdD p.2]::kdR ps
end
theorem kdR_map (ps:List (Str×Kd)):kdR ps=ps.map fun p=>.tup [.str p.1,kdD p.2]:=by
 induction ps with
 | nil=>rw[kdR];rfl
 | cons p ps ih=>rw[kdR,ih];rfl
def FN:List Str:=["a","b","c","r","t","u","w","z"]
def KB:Nat->Kd->Prop
 | _,.num=>True
 | _,.word=>True
 | d+1,.row fs=>fs.length<=5/\∀ p∈fs,p.1∈FN/\KB d p.2
 | d+1,.bag k=>KB d k
 | 0,.row _=>False
 | 0,.bag _=>False
theorem KB.up:∀ {d:Nat}{k:Kd},KB d k->KB (d+1) k
 | _,.num,_=>by simp only[KB]
 | _,.word,_=>by simp only[KB]
 | 0,.row fs,h=>by simp only[KB]at h
 | 0,.bag k,h=>by simp only[KB]at h
 | d+1,.row fs,h=>by
  simp only[KB]at h ⊢
  exact⟨h.1,fun p hp=>⟨(h.2 p hp).1,KB.up (h.2 p hp).2⟩⟩
 | d+1,.bag k,h=>by
  simp only[KB]at h ⊢
  exact KB.up h
theorem KB.to {d e:Nat}{k:Kd} (l:d<=e) (h:KB d k):KB e k:=by
 induction l with
 | refl=>exact h
 | step _ ih=>exact ih.up
theorem dep_kdD:∀ {d:Nat}{k:Kd},KB d k->(kdD k).dep<=3 * d+1
 | _,.num,_=>by simp only[kdD,Dt.dep,depL];lia
 | _,.word,_=>by simp only[kdD,Dt.dep,depL];lia
 | 0,.row fs,h=>by simp only[KB]at h
 | 0,.bag k,h=>by simp only[KB]at h
 | d+1,.row fs,h=>by
  simp only[KB]at h
  rw[kdD,Dt.dep,depL,depL,depL,Dt.dep,Dt.dep]
  have:depL (kdR fs)<=3 * d+2:=by
   rw[kdR_map]
   have key:∀ l:List (Str×Kd),(∀ p∈l,KB d p.2)->depL (l.map fun p=>.tup [.str p.1,kdD p.2])<=3 * d+2:=by
    intro l
    induction l with
    | nil=>intro _;rw[List.map_nil,depL];lia
    | cons p l ih=>
     intro hl
     have h1:=dep_kdD (hl p List.mem_cons_self)
     have h2:=ih fun q hq=>hl q (List.mem_cons_of_mem _ hq)
     rw[List.map_cons,depL,Dt.dep,depL,depL,depL,Dt.dep]
     lia
   exact key fs fun p hp=>(h.2 p hp).2
  lia
 | d+1,.bag k,h=>by
  simp only[KB]at h
  have h1:=dep_kdD h
  rw[kdD,Dt.dep,depL,depL,depL,Dt.dep]
  lia
def kLevel:Kd:=.row [("b",.word),("r",.num)]
def kDeep:Kd:=.row [("a",.num),("b",.word),("t",.bag .num),("z",.word)]
def kOf (n:Str):Kd:=if n="r" then kLevel else if n="s" then kLevel else if n="t" then .num else if n="u" then kDeep else .bag .word
def NM:List Str:=["r","s","t","u","v"]
theorem kd_r:kdD (kOf "r")=.tup [.str "row",.tup [.tup [.str "b",.tup [.str "word"]],.tup [.str "r",.tup [.str "num"]]]]:=by
 rw[kOf,if_pos rfl];simp only[kLevel,kdD,kdR]
theorem kd_s:kdD (kOf "s")=.tup [.str "row",.tup [.tup [.str "b",.tup [.str "word"]],.tup [.str "r",.tup [.str "num"]]]]:=by
 rw[kOf,if_neg (by decide +kernel),if_pos rfl];simp only[kLevel,kdD,kdR]
theorem kd_t:kdD (kOf "t")=.tup [.str "num"]:=by
 rw[kOf,if_neg (by decide +kernel),if_neg (by decide +kernel),if_pos rfl];simp only[kdD]
theorem kd_u:kdD (kOf "u")=.tup [.str "row",.tup [.tup [.str "a",.tup [.str "num"]],.tup [.str "b",.tup [.str "word"]],.tup [.str "t",.tup [.str "bag",.tup [.str "num"]]],.tup [.str "z",.tup [.str "word"]]]]:=by
 rw[kOf,if_neg (by decide +kernel),if_neg (by decide +kernel),if_neg (by decide +kernel),if_pos rfl];simp only[kDeep,kdD,kdR]
theorem kd_v:kdD (kOf "v")=.tup [.str "bag",.tup [.str "word"]]:=by
 rw[kOf,if_neg (by decide +kernel),if_neg (by decide +kernel),if_neg (by decide +kernel),if_neg (by decide +kernel)];simp only[kdD]
theorem kb_of {n:Str} (h:n∈NM):KB 2 (kOf n):=by
 simp only[NM,List.mem_cons,List.not_mem_nil,or_false]at h
 rcases h with rfl | rfl | rfl | rfl | rfl
 ·rw[kOf,if_pos rfl];simp only[kLevel,KB];exact⟨by decide,fun p hp=>by simp only[List.mem_cons,List.not_mem_nil,or_false]at hp;rcases hp with rfl | rfl <;> exact⟨by decide +kernel,by simp only[KB]⟩⟩
 ·rw[kOf,if_neg (by decide +kernel),if_pos rfl];simp only[kLevel,KB];exact⟨by decide,fun p hp=>by simp only[List.mem_cons,List.not_mem_nil,or_false]at hp;rcases hp with rfl | rfl <;> exact⟨by decide +kernel,by simp only[KB]⟩⟩
 ·rw[kOf,if_neg (by decide +kernel),if_neg (by decide +kernel),if_pos rfl];simp only[KB]
 ·rw[kOf,if_neg (by decide +kernel),if_neg (by decide +kernel),if_neg (by decide +kernel),if_pos rfl];simp only[kDeep,KB];exact⟨by decide,fun p hp=>by simp only[List.mem_cons,List.not_mem_nil,or_false]at hp;rcases hp with rfl | rfl | rfl | rfl <;> exact⟨by decide +kernel,by simp only[KB]⟩⟩
 ·rw[kOf,if_neg (by decide +kernel),if_neg (by decide +kernel),if_neg (by decide +kernel),if_neg (by decide +kernel)];simp only[KB]
section
variable {P:Program}{w:World}{K:PySem.W.Frag}{mg:Str->Option Value}{base:Heap}{f:Addr}{fd:FuncData}
def Knds (H:Hp) (q:Addr):Prop:=∃ kvs:List (Key×V),H q=some (.dK kvs)/\kvs.map (·.1)=NM.map Sum.inr/\∀ n∈NM,∃ v,valV kvs (Sum.inr n)=some v/\IsDt H (kdD (kOf n)) v
theorem Za7:FnScope ["level","deep"] [] (defScope (top 24)):=⟨rfl,rfl,rfl,by decide +kernel,rfl,by decide +kernel,by decide +kernel⟩
def spKinds:Sp:=fun vs H Q _=>vs=[]/\∀ (q:Addr) (H':Hp),Same H H'->H q=none->Knds H' q->Q (.ref q) H'
theorem ok_kinds (T:Tx mg) (D:Df K mg "_law_kinds" (top 24) f fd []):FnOk P w K mg base CX0 1 f fd [] spKinds:=by
 refine D.fn.okH Za7 (fun vs H Q E h=>?_) (fun cdv A outer s H vs Q E hr h=>?_)
 ·obtain⟨rfl,_⟩:=h;rfl
 obtain⟨rfl,fin⟩:=h
 have hu:=u110 hr
 have hu1:=hu_of hr
 refine⟨_,(wss_cons (ws_set (i:=0) Za7.nd rfl (Or.inl rfl) (we_dt rfl))
   (wss_cons (ws_set (i:=1) Za7.nd rfl (Or.inl rfl) (we_dt rfl))
   (wss_one (ws_ret (we_disp (wps_cons we_str (wv 0) (wps_cons we_str (wv 0) (wps_cons we_str (we_dt rfl) (wps_cons we_str (wv 1) (wps_cons we_str (we_dt rfl) wps_nil))))) rfl rfl (by simp) (by decide)))))),?_⟩
 intro vl H1 s1 il
 intro vd H2 s2 id'
 intro q hq
 have s3:Same H2 (upd H2 q (.dK [])):=same_new hq _
 have q3:(upd H2 q (.dK [])) q=some (.dK []):=upd_same
 generalize upd H2 q (.dK [])=H3 at s3 q3 ⊢
 refine⟨_,rfl,_,rfl,fun vt H4 s4 it=>⟨_,rfl,fun vv H5 s5 iv=>?_⟩⟩
 have qT:=s5 _ _ (s4 _ _ q3)
 refine⟨qT,[(Sum.inr (Str.ofString "r"),vl),(Sum.inr (Str.ofString "s"),vl),(Sum.inr (Str.ofString "t"),vt),(Sum.inr (Str.ofString "u"),vd),(Sum.inr (Str.ofString "v"),vv)],rfl,by simp,?_⟩
 have hqH:H q=none:=same_back (s1.trans s2) hq
 have s35:=s3.trans (s4.trans s5)
 have s15:=s1.trans (s2.trans s35)
 have hZ:(upd H5 q (.dK (mergeK [] [(Sum.inr (Str.ofString "r"),vl),(Sum.inr (Str.ofString "s"),vl),(Sum.inr (Str.ofString "t"),vt),(Sum.inr (Str.ofString "u"),vd),(Sum.inr (Str.ofString "v"),vv)]))) q=some (.dK [(Sum.inr (Str.ofString "r"),vl),(Sum.inr (Str.ofString "s"),vl),(Sum.inr (Str.ofString "t"),vt),(Sum.inr (Str.ofString "u"),vd),(Sum.inr (Str.ofString "v"),vv)]):=upd_same
 have tZ:∀ o,Tups H5 (upd H5 q o):=fun o b xs e=>by rw[upd_ne (ne_of e qT (by intro z;cases z))];exact e
 refine fin q _ (fun b o e=>by rw[upd_ne (ne_of_none e hqH)];exact s15 _ _ e) hqH ⟨_,hZ,rfl,fun n hn=>?_⟩
 simp only[NM,List.mem_cons,List.not_mem_nil,or_false]at hn
 rcases hn with rfl | rfl | rfl | rfl | rfl
 ·exact⟨vl,rfl,IsDt.mono (tZ _) (IsDt.mono (s2.trans s35).tups (by rw[kd_r];exact il))⟩
 ·exact⟨vl,rfl,IsDt.mono (tZ _) (IsDt.mono (s2.trans s35).tups (by rw[kd_s];exact il))⟩
 ·exact⟨vt,rfl,IsDt.mono (tZ _) (IsDt.mono s5.tups (by rw[kd_t];exact it))⟩
 ·exact⟨vd,rfl,IsDt.mono (tZ _) (IsDt.mono s35.tups (by rw[kd_u];exact id'))⟩
 ·exact⟨vv,rfl,IsDt.mono (tZ _) (by rw[kd_v];exact iv)⟩
end
end K30
end
section
namespace L2
open PySem PySem.Spec PyProof.Rows
section
variable {X:Cx}
def rNotInK:R2:=fun x y H Q=>∃ a o,y=.ref a/\DGet H a x o/\Q (.bl (!o.isSome)) H
theorem op_notInK (hu:X.A.units+1<cLine):OpR X (compareOp .NotIn) rNotInK:=by
 intro pins s σ H x y v u Q I rx ry h
 obtain⟨a,o,rfl,g,q⟩:=h
 obtain rfl:u=Value.ref a:=ry
 exact d_notIn hu I g rx fun s3 I3=>⟨.bl (!o.isSome),H,I3,rfl,q⟩
end
end L2
namespace K30
open PySem L2 Kn
theorem for_list {K:PySem.W.Frag}{b:Addr}{xs:List V}{g:TG}{tb:TS}{D:Ends} {σ:St} {H:Hp} (Pv:Nat->St->Hp->Prop) (h0:Pv 0 σ H) (stay:∀ i σ H',Pv i σ H'->H' b=some (.lst xs))
  (hs:∀ (E:Ends) i (hi:i<xs.length) σ H',Pv i σ H'->(∀ σ H,Pv (i+1) σ H->E.nx σ H)->(∀ v H,D.rt v H->E.rt v H)->g xs[i] σ H' fun σ2 H2=>tb E σ2 H2) (hd:∀ σ H,Pv xs.length σ H->D.nx σ H) :
  ∃ q,V.ref b=V.ref q/\(∃ ys,SqL K H q ys)/\∃ W:Nat->Nat->St->Hp->Prop,(∃ m,W 0 m σ H)/\∀ i m σ H,W i m σ H ->
   ((Itl K q).stop i H/\D.nx σ H)\/((Itl K q).go i H/\∃ N:St->Hp->Prop,(∀ σ' H',N σ' H'->∃ m',m'<m/\W (i+1) m' σ' H')/\∀ x H',(Itl K q).yld i H x H'->g x σ H' fun σ2 H2=>tb { D with nx:=N,ct:=N,bk:=D.nx } σ2 H2):=by
 refine⟨b,rfl,⟨xs,SqL.of (stay _ _ _ h0)⟩,fun i m σ H=>m+i=xs.length/\Pv i σ H,⟨xs.length,rfl,h0⟩,?_⟩
 rintro i m σ H ⟨hm,p⟩
 have hb:=stay _ _ _ p
 by_cases hi:i<xs.length
 ·refine .inr ⟨⟨_,_,SqL.of hb,List.getElem?_eq_getElem hi⟩,fun σ' H'=>Pv (i+1) σ' H',fun σ' H' h=>⟨m-1,by lia,by lia,h⟩,fun x H' hy=>?_⟩
  obtain⟨eH,hx⟩:=hy
  rw[eH]
  clear eH H'
  have e2:=hx _ (SqL.of hb)
  rw[List.getElem?_eq_getElem hi]at e2
  cases e2
  exact hs _ i hi σ H p (fun _ _ h=>h) fun _ _ h=>h
 ·have ei:i=xs.length:=by lia
  exact .inl ⟨⟨_,SqL.of hb,by lia⟩,hd σ H (ei ▸ p)⟩
theorem line1 {n:Nat} (h:n<=15000000):n<sizeLine:=Nat.lt_of_le_of_lt h (by decide)
abbrev Sc:=List (Str×Kd)
def scD (p:Str×Kd):Dt:=.tup [.str p.1,kdD p.2]
structure ScAt (H:Hp) (a:Addr) (sc:Sc):Prop where
 ex:∃ us,H a=some (.lst us)/\IsDts H (sc.map scD) us
 kb:∀ p∈sc,KB 2 p.2
 ln:sc.length<=40
theorem ScAt.mono {H H':Hp}{a:Addr}{sc:Sc} (h:ScAt H a sc) (l:∀ us,H a=some (.lst us)->H' a=some (.lst us)) (t:Tups H H'):ScAt H' a sc:=by
 obtain⟨us,h1,h2⟩:=h.ex
 exact⟨⟨us,l _ h1,IsDts.mono t h2⟩,h.kb,h.ln⟩
theorem sc_item {H:Hp}{sc:Sc}{us:List V} (h:IsDts H (sc.map scD) us) {i:Nat} (hi:i<us.length):∃ (p:Str×Kd) (c:Addr) (u:V),sc[i]?=some p/\us[i]=.ref c/\H c=some (.tup [.str p.1,u])/\IsDt H (kdD p.2) u:=by
 have hl:us.length=sc.length:=by rw[h.length,List.length_map]
 obtain⟨v,hv,d⟩:=h.get (i:=i) (d:=scD sc[i]) (by rw[List.getElem?_map,List.getElem?_eq_getElem (by lia)];rfl)
 rw[List.getElem?_eq_getElem hi]at hv
 cases hv
 unfold scD at d
 rw[IsDt]at d
 obtain⟨a,xs,e,ha,hx⟩:=d
 rw[IsDts]at hx
 obtain⟨x,r,rfl,h1,h2⟩:=hx
 rw[IsDts]at h2
 obtain⟨y,r2,rfl,h3,h4⟩:=h2
 rw[IsDts]at h4
 subst h4
 rw[IsDt]at h1
 subst h1
 exact⟨_,a,y,List.getElem?_eq_getElem (by lia),e,ha,h3⟩
theorem nv {kvs:List (Key×V)}{k:Key} (h:valV kvs k=none):k ∉ kvs.map (·.1):=by
 induction kvs with
 | nil=>simp
 | cons p r ih=>
  by_cases e:p.1=k
  ·rw[valV_pos e]at h;cases h
  ·rw[valV_neg e]at h
   rw[List.map_cons,List.mem_cons,not_or]
   exact⟨fun z=>e z.symm,ih h⟩
theorem zipS:∀ {kvs:List (Key×V)}{ms:Sc},kvs.map (·.1)=ms.map (fun m=>(Sum.inr m.1:Key))->(kvs.zip (ms.map fun m=>kdD m.2)).map (fun p=>[kD p.1.1,p.2])=ms.map fun m=>[Dt.str m.1,kdD m.2]
 | [],[],_=>rfl
 | p::kvs,m::ms,h=>by
  rw[List.map_cons,List.map_cons]at h
  injection h with h1 h2
  rw[List.map_cons,List.zip_cons_cons,List.map_cons,zipS h2,List.map_cons]
  show [kD p.1,kdD m.2]::_=_
  rw[h1]
  rfl
theorem ltDs_self (d:List Dt):ltDs d d=some false:=by
 induction d with
 | nil=>rw[ltDs];rfl
 | cons x d ih=>rw[ltDs];simp only[if_true];exact ih
theorem nd_inj:∀ {ms:Sc},(ms.map (·.1)).Nodup->∀ {g g':Str×Kd},g∈ms->g'∈ms->g.1=g'.1->g=g'
 | m::ms,nd,g,g',h,h',e=>by
  rw[List.map_cons,List.nodup_cons]at nd
  rcases List.mem_cons.mp h with e1 | h1
  ·rcases List.mem_cons.mp h' with e2 | h2
   ·rw[e1,e2]
   ·exact absurd (List.mem_map.mpr ⟨g',h2,by rw[<- e,e1]⟩) nd.1
  ·rcases List.mem_cons.mp h' with e2 | h2
   ·exact absurd (List.mem_map.mpr ⟨g,h1,by rw[e,e2]⟩) nd.1
   ·exact nd_inj nd.2 h1 h2 e
theorem sort_S {ms:Sc} (nd:(ms.map (·.1)).Nodup) (kb:∀ m∈ms,KB 2 m.2):Sortable "str" (ms.map fun m=>[Dt.str m.1,kdD m.2]):=by
 refine⟨fun d hd=>?_,fun d hd e he=>?_,fun d hd=>?_⟩
 ·obtain⟨g,_,rfl⟩:=List.mem_map.mp hd;exact⟨_,_,rfl,rfl⟩
 ·obtain⟨g,hg,rfl⟩:=List.mem_map.mp hd
  obtain⟨g',hg',rfl⟩:=List.mem_map.mp he
  by_cases z:g.1=g'.1
  ·have:g=g':=nd_inj nd hg hg' z
   subst this
   rw[ltDs_self];rfl
  ·rw[ltDs,if_neg (fun q=>z (by injection q)),ltD]
   rfl
 ·obtain⟨g,hg,rfl⟩:=List.mem_map.mp hd
  have:=dep_kdD (kb g hg)
  rw[depL,depL,depL,Dt.dep]
  lia
section
variable {P:Program}{w:World}{K:PySem.W.Frag}{mg:Str->Option Value}{base:Heap}{f:Addr}{fd:FuncData}
theorem Za0:FnScope ["scope","found","name","other"] ["scope"] (defScope (top 26)):=⟨rfl,rfl,rfl,by decide +kernel,rfl,by decide +kernel,by decide +kernel⟩
def spSeen:Sp:=fun vs H Q _=>∃ (a:Addr) (sc:Sc),vs=[.ref a]/\ScAt H a sc/\∀ (l:Addr) (ps:Sc) (H':Hp),Same H H'->H l=none->ScAt H' l ps->(∀ p∈ps,p∈sc)->Q (.ref l) H'
theorem ok_seen (T:Tx mg) (D:Df K mg "_law_seen" (top 26) f fd ["scope"]):FnOk P w K mg base CX0 1 f fd ["scope"] spSeen:=by
 refine D.fn.okH Za0 (fun vs H Q E h=>?_) (fun cdv A outer s H vs Q E hr h=>?_)
 ·obtain⟨a,sc,rfl,_⟩:=h;rfl
 obtain⟨a,sc,rfl,hs,fin⟩:=h
 have hu:=u110 hr
 have hu0:=u0 hr
 have hu1:=hu_of hr
 refine⟨_,(wss_cons (ws_set (i:=1) Za0.nd rfl (Or.inl rfl) we_dnewK)
   (wss_cons (ws_for PassesOwn.never rfl (wi_U (wv 0)) (wg_tup rfl (wgs_cons (wg_name (i:=2) Za0.nd rfl (Or.inl rfl)) (wgs_cons (wg_name (i:=3) Za0.nd rfl (Or.inl rfl)) wgs_nil))) (wss_one (ws_if (wt_cmpR (op_notInK hu1) (wv 2) (wv 1) (by with_unfolding_all rfl)) (wss_one (ws_asg (wv 3) (wg_sub (wv 1) (wv 2) (set_U hu1)))) wss_nil)))
   (wss_one (ws_ret (we_callB (call_sortI rfl hu) rfl T.z_sorted bt_sorted (wa_cons (we_bm0 PySem.F.plainAttrs_dict PySem.F.slot_dict_items PySem.F.type_dict_items mt_items (wv 1)) wa_nil)))))),?_⟩
 obtain⟨us,hA,iu⟩:=hs.ex
 refine seqH fun N1 to1=>fun td htd=>to1 _ _ ?_
 have s1:=same_new htd (.dK [])
 have hT1:(upd H td (.dK [])) td=some (.dK []):=upd_same
 generalize upd H td (.dK [])=H1 at s1 hT1 ⊢
 have lsc:us.length=sc.length:=by rw[iu.length,List.length_map]
 refine seqH fun N2 to2=>.inl ⟨_,rfl,for_list (b:=a) (xs:=us) (fun i σ H'=>∃ (o2 o3:Option V) (kvs:List (Key×V)) (ms:Sc),σ=[some (.ref a),some (.ref td),o2,o3]/\Same H H'/\H' td=some (.dK kvs)/\kvs.map (·.1)=ms.map (fun m=>(Sum.inr m.1:Key))/\IsDts H' (ms.map fun m=>kdD m.2) (kvs.map (·.2))/\(ms.map (·.1)).Nodup/\(∀ m∈ms,m∈sc)/\ms.length<=i)
  ⟨none,none,[],[],rfl,s1,hT1,rfl,.nil,.nil,(fun m hm=>(nomatch hm)),Nat.le_refl _⟩ ?stay ?turn ?done⟩
 case stay=>rintro i σ H' ⟨o2,o3,kvs,ms,rfl,sm,_⟩;exact sm _ _ hA
 case turn=>
  rintro E2 i hi σ H' ⟨o2,o3,kvs,ms,rfl,sm,hT,km,iv,nd,sub,lm⟩ nx rt
  obtain⟨p,c,u,hp,e,hc,ik⟩:=sc_item iu hi
  rw[e]
  refine⟨c,_,rfl,SqT.of (sm _ _ hc),rfl,_,_,rfl,_,_,rfl,rfl,?_⟩
  refine⟨_,rfl,_,rfl,td,_,rfl,DGet.k (k:=Sum.inr p.1) hT,_,rfl,?_⟩
  cases ev:valV kvs (Sum.inr p.1) with
  | some y=>exact iteF (nx _ _ ⟨_,_,kvs,ms,rfl,sm,hT,km,iv,nd,sub,by lia⟩)
  | none=>
   refine iteT ⟨_,rfl,_,rfl,_,rfl,.inr ⟨td,_,rfl,DPut.k (k:=Sum.inr p.1) hT (line1 ?_),nx _ _ ?_⟩⟩
   ·have h1:kvs.length=ms.length:=by have:=congrArg List.length km;simpa using this
    have:=hs.ln
    lia
   have tu:Tups H' (upd H' td (.dK (putK kvs (Sum.inr p.1) u))):=fun b ys e=>by rw[upd_ne (fun q=>by rw[q,hT]at e;cases e)];exact e
   have pk:putK kvs (Sum.inr p.1) u=kvs++[(Sum.inr p.1,u)]:=putK_new u ev
   refine⟨_,_,kvs++[(Sum.inr p.1,u)],ms++[p],rfl,fun b o z=>?_,by rw[upd_same,pk],by rw[List.map_append,List.map_append,km];rfl,?_,?_,fun m hm=>?_,by rw[List.length_append];show _+1<=_;lia⟩
   ·rw[upd_ne (ne_of_none z htd)];exact sm _ _ z
   ·rw[List.map_append,List.map_append]
    exact (IsDts.mono tu iv).append (.one (IsDt.mono tu (IsDt.mono sm.tups ik)))
   ·rw[List.map_append]
    refine List.nodup_append.mpr ⟨nd,by simp,fun x hx y hy=>?_⟩
    rw[List.map_cons,List.map_nil,List.mem_singleton]at hy
    subst hy
    intro z
    subst z
    refine nv ev ?_
    rw[km]
    obtain⟨m,hm,e3⟩:=List.mem_map.mp hx
    exact List.mem_map.mpr ⟨m,hm,by rw[e3]⟩
   ·rcases List.mem_append.mp hm with h | h
    ·exact sub m h
    ·rw[List.mem_singleton.mp h];exact List.mem_of_getElem? hp
 case done=>
  rintro σ H' ⟨o2,o3,kvs,ms,rfl,sm,hT,km,iv,nd,sub,lm⟩
  refine to2 _ _ ?_
  have lk:kvs.length=ms.length:=by have:=congrArg List.length km;simpa using this
  have l40:=hs.ln
  have kb:∀ m∈ms,KB 2 m.2:=fun m hm=>hs.kb m (sub m hm)
  refine⟨_,rfl,.inr (.inr (.inl ⟨rfl,.inl ⟨_,hT⟩⟩)),td,kvs,rfl,rfl,hT,fun v hv=>?_⟩
  have s2:=same_new hv (.ext (ItemsV v td))
  refine⟨v,td,kvs,ms.map fun m=>kdD m.2,"str",rfl,upd_same,s2 _ _ hT,IsDts.mono s2.tups iv,by rw[zipS km];exact sort_S nd kb,by lia,fun l H2 bs pp hl s' hl' pm _ _ ib=>?_⟩
  rw[zipS km]at ib
  have sA:=sm.trans (s2.trans s')
  have eb:(pp.map fun i=>(ms.map fun m=>[Dt.str m.1,kdD m.2]).getD i []).map Dt.tup=(pp.map fun i=>ms.getD i ("",.num)).map scD:=by
   rw[List.map_map,List.map_map]
   refine List.map_congr_left fun i hi=>?_
   have hl:i<ms.length:=by have:=List.mem_range.mp (pm.mem_iff.mp hi);lia
   show Dt.tup ((ms.map fun g=>[Dt.str g.1,kdD g.2]).getD i [])=scD (ms.getD i ("",.num))
   rw[List.getD_eq_getElem?_getD,List.getD_eq_getElem?_getD,List.getElem?_map,List.getElem?_eq_getElem hl]
   rfl
  rw[eb]at ib
  have mem:∀ p∈pp.map fun i=>ms.getD i ("",.num),p∈ms:=fun p hp=>by
   obtain⟨i,hi,rfl⟩:=List.mem_map.mp hp
   have hl:i<ms.length:=by have:=List.mem_range.mp (pm.mem_iff.mp hi);lia
   rw[List.getD_eq_getElem?_getD,List.getElem?_eq_getElem hl]
   exact List.getElem_mem hl
  exact fin l _ H2 sA (same_back (sm.trans s2) hl) ⟨⟨bs,hl',ib⟩,fun p hp=>kb p (mem p hp),by rw[List.length_map,pm.length_eq,List.length_range];lia⟩ fun p hp=>sub p (mem p hp)
end
end K30
end
section
namespace K30
open PySem L2 Kn
mutual
def kTr:Kd->Tr
 | .num=>.node (Str.ofString "num") [] []
 | .word=>.node (Str.ofString "word") [] []
 | .row fs=>.row (kTrR fs)
 | .bag k=>.node (Str.ofString "bag") [] [kTr k]
def kTrR:List (Str×Kd)->List (Str×Tr)
 | []=>[]
 | p::ps=>(p.1,kTr p.2)::kTrR ps
end
theorem kTrR_map (ps:List (Str×Kd)):kTrR ps=ps.map fun p=>(p.1,kTr p.2):=by
 induction ps with
 | nil=>rw[kTrR];rfl
 | cons p ps ih=>rw[kTrR,ih];rfl
mutual
theorem tdat_k:∀ k:Kd,tdat (kTr k)=kdD k
 | .num=>by rw[kTr,tdat,tdatL,kdD];rfl
 | .word=>by rw[kTr,tdat,tdatL,kdD];rfl
 | .row fs=>by rw[kTr,tdat,kdD,tdat_kR fs]
 | .bag k=>by rw[kTr,tdat,tdatL,tdatL,kdD,tdat_k k];rfl
theorem tdat_kR:∀ fs:List (Str×Kd),tdatR (kTrR fs)=kdR fs
 | []=>by rw[kTrR,tdatR,kdR]
 | p::ps=>by rw[kTrR,tdatR,kdR,tdat_k p.2,tdat_kR ps]
end
theorem fn_len {s:Str} (h:s∈FN):s.length<=10:=by
 unfold FN at h
 simp only[List.mem_cons,List.not_mem_nil,or_false]at h
 rcases h with rfl | rfl | rfl | rfl | rfl | rfl | rfl | rfl <;> decide +kernel
theorem kg_of:∀ {d:Nat}{k:Kd},KB d k->KG d (kTr k)
 | d,.num,_=>by rw[kTr];exact .num
 | d,.word,_=>by rw[kTr];exact .word
 | 0,.row fs,h=>by simp only[KB]at h
 | 0,.bag k,h=>by simp only[KB]at h
 | d+1,.row fs,h=>by
  simp only[KB]at h
  rw[kTr,kTrR_map]
  refine .row (by rw[List.length_map];lia) (fun p hp=>?_) fun p hp=>?_
  ·obtain⟨q,hq,rfl⟩:=List.mem_map.mp hp
   exact fn_len (h.2 q hq).1
  ·obtain⟨q,hq,rfl⟩:=List.mem_map.mp hp
   exact kg_of (h.2 q hq).2
 | d+1,.bag k,h=>by
  simp only[KB]at h
  rw[kTr];exact .bag (kg_of h)
def W2:List Str:=["add","mul","both","when","same","under","and","or"]
def W1:List Str:=["one","not"]
inductive QG:Nat->Tr->Prop
 | num {d:Nat}{i:Int}:QG d (.node (Str.ofString "num") [.int i] [])
 | word {d:Nat}{s:Str}:QG d (.node (Str.ofString "word") [.txt s] [])
 | var {d:Nat}{s:Str}:QG d (.node (Str.ofString "var") [.txt s] [])
 | table {d:Nat}{s:Str} (hs:s∈NM):QG d (.node (Str.ofString "table") [.txt s] [])
 | none {d:Nat}{k:Kd} (h:KB 2 k):QG d (.node (Str.ofString "none") [] [kTr k])
 | row {d:Nat}{ps:List (Str×Tr)} (hl:ps.length<=5) (hn:∀ p∈ps,p.1∈FN) (h:∀ p∈ps,QG d p.2):QG (d+1) (.row ps)
 | times {d:Nat}{i:Int}{q:Tr} (h:QG d q):QG (d+1) (.node (Str.ofString "times") [.int i] [q])
 | att {d:Nat}{s:Str}{q:Tr} (h:QG d q):QG (d+1) (.node (Str.ofString "at") [.txt s] [q])
 | bind {d:Nat}{w s:Str}{q r:Tr} (hw:w=Str.ofString "for"\/w=Str.ofString "let") (hq:QG d q) (hr:QG d r):QG (d+1) (.node w [.txt s] [q,r])
 | two {d:Nat}{w:Str}{q r:Tr} (hw:w∈W2) (hq:QG d q) (hr:QG d r):QG (d+1) (.node w [] [q,r])
 | one {d:Nat}{w:Str}{q:Tr} (hw:w∈W1) (hq:QG d q):QG (d+1) (.node w [] [q])
theorem QG.up {d:Nat}{q:Tr} (h:QG d q):QG (d+1) q:=by
 induction h with
 | num=>exact .num
 | word=>exact .word
 | var=>exact .var
 | table hs=>exact .table hs
 | none h=>exact .none h
 | row hl hn _ ih=>exact .row hl hn ih
 | times _ ih=>exact .times ih
 | att _ ih=>exact .att ih
 | bind hw _ _ ih1 ih2=>exact .bind hw ih1 ih2
 | two hw _ _ ih1 ih2=>exact .two hw ih1 ih2
 | one hw _ ih=>exact .one hw ih
theorem QG.to {d e:Nat}{q:Tr} (l:d<=e) (h:QG d q):QG e q:=by
 induction l with
 | refl=>exact h
 | step _ ih=>exact ih.up
theorem w2_ok {w:Str} (h:w∈W2):w ∉ HM/\w≠Str.ofString "row"/\w≠Str.ofString "none":=by
 unfold W2 at h
 simp only[List.mem_cons,List.not_mem_nil,or_false]at h
 rcases h with rfl | rfl | rfl | rfl | rfl | rfl | rfl | rfl <;> decide +kernel
theorem w1_ok {w:Str} (h:w∈W1):w ∉ HM/\w≠Str.ofString "row"/\w≠Str.ofString "none":=by
 unfold W1 at h
 simp only[List.mem_cons,List.not_mem_nil,or_false]at h
 rcases h with rfl | rfl <;> decide +kernel
theorem QG.th {d:Nat}{q:Tr} (h:QG d q):TH d q:=by
 induction h with
 | num=>exact .num
 | word=>exact .atom (by decide +kernel)
 | var=>exact .atom (by decide +kernel)
 | table hs=>exact .atom (by decide +kernel)
 | none h=>exact .none (kg_of h)
 | row hl hn _ ih=>exact .row (by lia) ih
 | times _ ih=>exact .times ih
 | att _ ih=>exact .at ih
 | bind hw _ _ ih1 ih2=>exact .bind hw ih1 ih2
 | two hw _ _ ih1 ih2=>
  refine .plain (w2_ok hw).1 (w2_ok hw).2.1 (Nat.le_refl 2) fun q hq=>?_
  simp only[List.mem_cons,List.not_mem_nil,or_false]at hq
  rcases hq with rfl | rfl
  ·exact ih1
  ·exact ih2
 | one hw _ ih=>
  refine .plain (w1_ok hw).1 (w1_ok hw).2.1 (show 1<=2 by decide) fun q hq=>?_
  rw[List.mem_singleton.mp hq];exact ih
def IsQ (H:Hp) (q:Tr) (v:V):Prop:=IsDt H (tdat q) v
theorem IsQ.mono {H H':Hp} (t:Tups H H') {q:Tr}{v:V} (h:IsQ H q v):IsQ H' q v:=IsDt.mono t h
section
variable {H:Hp}{t:Addr}
theorem q_var {s:Str} (h:H t=none):IsQ (upd H t (.tup [.str "var",.str s])) (.node (Str.ofString "var") [.txt s] []) (.ref t):=by
 unfold IsQ;rw[tdat,tdatL];exact isDt_new h (.cons (isDt_str _) (.one (isDt_str _)))
theorem q_word {s:Str} (h:H t=none):IsQ (upd H t (.tup [.str "word",.str s])) (.node (Str.ofString "word") [.txt s] []) (.ref t):=by
 unfold IsQ;rw[tdat,tdatL];exact isDt_new h (.cons (isDt_str _) (.one (isDt_str _)))
theorem q_table {s:Str} (h:H t=none):IsQ (upd H t (.tup [.str "table",.str s])) (.node (Str.ofString "table") [.txt s] []) (.ref t):=by
 unfold IsQ;rw[tdat,tdatL];exact isDt_new h (.cons (isDt_str _) (.one (isDt_str _)))
theorem q_num {i:Int} (h:H t=none):IsQ (upd H t (.tup [.str "num",.int i])) (.node (Str.ofString "num") [.int i] []) (.ref t):=by
 unfold IsQ;rw[tdat,tdatL];exact isDt_new h (.cons (isDt_str _) (.one (by show IsDt _ (.int i) _;rw[IsDt])))
theorem q_none {k:Kd}{v:V} (h:H t=none) (i:IsDt H (kdD k) v):IsQ (upd H t (.tup [.str "none",v])) (.node (Str.ofString "none") [] [kTr k]) (.ref t):=by
 unfold IsQ;rw[tdat,tdatL,tdatL,tdat_k];exact isDt_new h (.cons (isDt_str _) (.one i))
theorem q_at {s:Str}{q:Tr}{v:V} (h:H t=none) (i:IsQ H q v):IsQ (upd H t (.tup [.str "at",.str s,v])) (.node (Str.ofString "at") [.txt s] [q]) (.ref t):=by
 unfold IsQ;rw[tdat,tdatL,tdatL];exact isDt_new h (.cons (isDt_str _) (.cons (isDt_str _) (.one i)))
theorem q_times {n:Int}{q:Tr}{v:V} (h:H t=none) (i:IsQ H q v):IsQ (upd H t (.tup [.str "times",.int n,v])) (.node (Str.ofString "times") [.int n] [q]) (.ref t):=by
 unfold IsQ;rw[tdat,tdatL,tdatL];exact isDt_new h (.cons (isDt_str _) (.cons (by show IsDt _ (.int n) _;rw[IsDt]) (.one i)))
theorem q_bind {w s:Str}{q r:Tr}{v u:V} (h:H t=none) (i:IsQ H q v) (j:IsQ H r u):IsQ (upd H t (.tup [.str w,.str s,v,u])) (.node w [.txt s] [q,r]) (.ref t):=by
 unfold IsQ;rw[tdat,tdatL,tdatL,tdatL];exact isDt_new h (.cons (isDt_str _) (.cons (isDt_str _) (.cons i (.one j))))
theorem q_two {w:Str}{q r:Tr}{v u:V} (h:H t=none) (i:IsQ H q v) (j:IsQ H r u):IsQ (upd H t (.tup [.str w,v,u])) (.node w [] [q,r]) (.ref t):=by
 unfold IsQ;rw[tdat,tdatL,tdatL,tdatL];exact isDt_new h (.cons (isDt_str _) (.cons i (.one j)))
theorem q_one {w:Str}{q:Tr}{v:V} (h:H t=none) (i:IsQ H q v):IsQ (upd H t (.tup [.str w,v])) (.node w [] [q]) (.ref t):=by
 unfold IsQ;rw[tdat,tdatL,tdatL];exact isDt_new h (.cons (isDt_str _) (.one i))
end
end K30
end
section
namespace K30
open PySem L2 Kn
theorem iteP {c A B:Prop} [Decidable c] (h:c) (x:A):if c then A else B:=by rw[if_pos h];exact x
theorem iteN {c A B:Prop} [Decidable c] (h:¬c) (x:B):if c then A else B:=by rw[if_neg h];exact x
theorem tups_lst {H:Hp}{l:Addr}{us zs:List V} (h:H l=some (.lst us)):Tups H (upd H l (.lst zs)):=fun b ys e=>by rw[upd_ne (fun q=>by rw[q,h]at e;cases e)];exact e
def kw:Kd->Str
 | .num=>"num"
 | .word=>"word"
 | .row _=>"row"
 | .bag _=>"bag"
theorem k_one {H:Hp}{v:V}{z:Str} (h:IsDt H (.tup [.str z]) v):∃ a,v=.ref a/\H a=some (.tup [.str z]):=by
 rw[IsDt]at h
 obtain⟨a,xs,e,ha,hx⟩:=h
 rw[IsDts]at hx
 obtain⟨x,r,rfl,h1,h2⟩:=hx
 rw[IsDts]at h2
 rw[IsDt]at h1
 subst h1 h2
 exact⟨a,e,ha⟩
theorem k_two {H:Hp}{v:V}{z:Str}{d:Dt} (h:IsDt H (.tup [.str z,d]) v):∃ a u,v=.ref a/\H a=some (.tup [.str z,u])/\IsDt H d u:=by
 rw[IsDt]at h
 obtain⟨a,xs,e,ha,hx⟩:=h
 rw[IsDts]at hx
 obtain⟨x,r,rfl,h1,h2⟩:=hx
 rw[IsDts]at h2
 obtain⟨y,r2,rfl,h3,h4⟩:=h2
 rw[IsDts]at h4
 rw[IsDt]at h1
 subst h1 h4
 exact⟨a,y,e,ha,h3⟩
theorem k_row {H:Hp}{v:V}{fs:List (Str×Kd)} (h:IsDt H (kdD (.row fs)) v):∃ a b ys,v=.ref a/\H a=some (.tup [.str "row",.ref b])/\H b=some (.tup ys)/\IsDts H (fs.map scD) ys:=by
 rw[kdD]at h
 obtain⟨a,u,e,ha,hu⟩:=k_two h
 rw[IsDt]at hu
 obtain⟨b,ys,rfl,hb,hy⟩:=hu
 rw[kdR_map]at hy
 exact⟨a,b,ys,e,ha,hb,hy⟩
theorem k_bag {H:Hp}{v:V}{k:Kd} (h:IsDt H (kdD (.bag k)) v):∃ a u,v=.ref a/\H a=some (.tup [.str "bag",u])/\IsDt H (kdD k) u:=by
 rw[kdD]at h
 exact k_two h
theorem k_head {H:Hp}{v:V}{k:Kd} (h:IsDt H (kdD k) v):∃ a xs,v=.ref a/\H a=some (.tup xs)/\atI xs 0=some (.str (kw k)):=by
 cases k with
 | num=>rw[kdD]at h;obtain⟨a,e,ha⟩:=k_one h;exact⟨a,_,e,ha,rfl⟩
 | word=>rw[kdD]at h;obtain⟨a,e,ha⟩:=k_one h;exact⟨a,_,e,ha,rfl⟩
 | row fs=>obtain⟨a,b,ys,e,ha,_⟩:=k_row h;exact⟨a,_,e,ha,rfl⟩
 | bag k=>obtain⟨a,u,e,ha,_⟩:=k_bag h;exact⟨a,_,e,ha,rfl⟩
def Sm2 (qs:List Tr):Prop:=∀ q∈qs,QG 1 q/\nq q<=2
structure Hs (H0 H:Hp) (v:V) (κ:Kd) (sl lw:Addr) (bs us:List V) (ps:Sc) (qs:List Tr):Prop where
 sm:Same H0 H
 kv:IsDt H (kdD κ) v
 hb:H sl=some (.lst bs)
 ib:IsDts H (ps.map scD) bs
 hl:H lw=some (.lst us)
 iq:IsDts H (qs.map tdat) us
 ne:lw≠sl
 fr:H0 lw=none
 ok:Sm2 qs
theorem Hs.same {H0 H H':Hp}{v:V} {κ:Kd} {sl lw:Addr}{bs us:List V}{ps:Sc}{qs:List Tr} (h:Hs H0 H v κ sl lw bs us ps qs) (s:Same H H'):Hs H0 H' v κ sl lw bs us ps qs:=
 ⟨h.sm.trans s,IsDt.mono s.tups h.kv,s _ _ h.hb,IsDts.mono s.tups h.ib,s _ _ h.hl,IsDts.mono s.tups h.iq,h.ne,h.fr,h.ok⟩
theorem Hs.app {H0 H:Hp}{v:V} {κ:Kd} {sl lw:Addr}{bs us:List V}{ps:Sc}{qs:List Tr} (h:Hs H0 H v κ sl lw bs us ps qs) {q:Tr}{u:V} (i:IsQ H q u) (g:QG 1 q/\nq q<=2):Hs H0 (upd H lw (.lst (us++[u]))) v κ sl lw bs (us++[u]) ps (qs++[q]):=by
 have tt:=tups_lst (zs:=us++[u]) h.hl
 refine⟨fun b o z=>?_,IsDt.mono tt h.kv,?_,IsDts.mono tt h.ib,upd_same,?_,h.ne,h.fr,fun x hx=>?_⟩
 ·rw[upd_ne (ne_of_none z h.fr)];exact h.sm _ _ z
 ·rw[upd_ne (Ne.symm h.ne)];exact h.hb
 ·rw[List.map_append];exact (IsDts.mono tt h.iq).append (.one (IsDt.mono tt i))
 ·rcases List.mem_append.mp hx with z | z
  ·exact h.ok x z
  ·rw[List.mem_singleton.mp z];exact g
section
variable {P:Program}{w:World}{K:PySem.W.Frag}{mg:Str->Option Value}{base:Heap}{f f_seen:Addr}{fd fd_seen:FuncData}
theorem ZaS:FnScope ["kind","scope","ways","name","other"] ["kind","scope"] (defScope (top 27)):=⟨rfl,rfl,rfl,by decide +kernel,rfl,by decide +kernel,by decide +kernel⟩
def spHeld:Sp:=fun vs H Q _=>∃ (v:V) (a:Addr) (κ:Kd) (sc:Sc),vs=[v,.ref a]/\IsDt H (kdD κ) v/\KB 3 κ/\ScAt H a sc /\
 ∀ (l:Addr) (us:List V) (qs:List Tr) (H':Hp),Same H H'->H l=none->H' l=some (.lst us)->IsDts H' (qs.map tdat) us->Sm2 qs->qs.length<=240->Q (.ref l) H'
theorem ok_held (T:Tx mg) (D:Df K mg "_law_held" (top 27) f fd ["kind","scope"]) (Zak:Df K mg "_law_seen" (top 26) f_seen fd_seen ["scope"]) (ZaB:FnOk P w K mg base CX0 1 f_seen fd_seen ["scope"] spSeen):FnOk P w K mg base CX0 2 f fd ["kind","scope"] spHeld:=by
 refine D.fn.okH ZaS (fun vs H Q E h=>?_) (fun cdv A outer s H vs Q E hr h=>?_)
 ·obtain⟨v,a,κ,sc,rfl,_⟩:=h;rfl
 obtain⟨v,a,κ,sc,rfl,hk,kb,hs,fin⟩:=h
 have hu:=u110 hr
 have hu0:=u0 hr
 have hu1:=hu_of hr
 refine⟨_,(wss_cons (ws_set (i:=2) ZaS.nd rfl (Or.inl rfl) (we_lst wa_nil))
   (wss_cons (ws_for PassesOwn.never rfl (wi_U (we_call ZaB (hr.mono (by lia)) rfl Zak.mg Zak.kp Zak.b .nil pass0 (wa_cons (wv 1) wa_nil))) (wg_tup rfl (wgs_cons (wg_name (i:=3) ZaS.nd rfl (Or.inr rfl)) (wgs_cons (wg_name (i:=4) ZaS.nd rfl (Or.inl rfl)) wgs_nil))) (wss_cons (ws_if (wt_cmpR (op_eqU hu) (wv 4) (wv 0) (nomark _)) (wss_one (ws_expr (we_bm PySem.F.plainAttrs_list PySem.F.slot_list_append PySem.F.type_list_append mt_append (wv 2) (wa_cons (we_tup (wa_cons we_str (wa_cons (wv 3) wa_nil))) wa_nil)))) wss_nil)
   (wss_one (ws_if (wt_cmpR (op_eqU hu) (we_ix (ix_U hu1) (wv 4) we_int (fun _ _=>rfl)) we_str (nomark _)) (wss_one (ws_set (i:=2) ZaS.nd rfl (Or.inl rfl) (we_op op_plus (wv 2) (we_lc (Nt:=["field","part"]) (fr:=[("name",3),("kind",0)]) (LcOk.of (sc:=defScope (top 27)) (N:=["kind","scope","ways","name","other"]) rfl rfl (by decide +kernel)) rfl (wi_U (we_ix (ix_U hu1) (wv 4) we_int (fun _ _=>rfl))) (fun z=>wg_tup rfl (wgs_cons (wg_name (i:=0) (by show (["field","part","name","kind"]:List Str).Nodup;decide +kernel) rfl (Or.inl rfl) (.inr rfl)) (wgs_cons (wg_name (i:=1) (by show (["field","part","name","kind"]:List Str).Nodup;decide +kernel) rfl (Or.inl rfl) (.inr rfl)) wgs_nil))) (fun z=>tgt_two (by decide) (by decide)) (fun z=>wif_one (wt_cmpR (op_eqU hu) (wv 1) (wv 3) (nomark _))) (fun z=>(we_tup (wa_cons we_str (wa_cons (wv 0) (wa_cons (we_tup (wa_cons we_str (wa_cons (wv 2) wa_nil))) wa_nil))))))))) wss_nil))))
   (wss_one (ws_ret (wv 2))))),?_⟩
 have dk:=dep_kdD kb
 refine seqH fun N1 to1=>⟨(by show 0<=sizeLine;decide),fun lw hlw=>to1 _ _ ?_⟩
 have s1:=same_new hlw (.lst [])
 refine seqH fun N2 to2=>.inl ⟨_,rfl,a,sc,rfl,hs.mono (fun us z=>s1 _ _ z) s1.tups,fun sl ps H1 s2 hsl hps sub=>?_⟩
 obtain⟨bs,hb,ib⟩:=hps.ex
 have lb:bs.length=ps.length:=by rw[ib.length,List.length_map]
 have l40:=hps.ln
 have S1:Hs H H1 v κ sl lw bs [] ps []:=⟨s1.trans s2,IsDt.mono (s1.trans s2).tups hk,hb,ib,s2 _ _ upd_same,.nil,(fun z=>by rw[<- z,upd_same]at hsl;cases hsl),hlw,fun q hq=>(nomatch hq)⟩
 refine for_list (b:=sl) (xs:=bs) (fun i σ H'=>∃ (o3 o4:Option V) (lw:Addr) (us:List V) (qs:List Tr),σ=[some v,some (.ref a),some (.ref lw),o3,o4]/\Hs H H' v κ sl lw bs us ps qs/\qs.length<=6 * i)
  ⟨none,none,lw,[],[],rfl,S1,Nat.le_refl _⟩ ?stay ?turn ?done
 case stay=>rintro i σ H' ⟨o3,o4,lw,us,qs,rfl,S,_⟩;exact S.hb
 case done=>
  rintro σ H' ⟨o3,o4,lw,us,qs,rfl,S,lq⟩
  exact to2 _ _ ⟨_,rfl,fin lw us qs H' S.sm S.fr S.hl S.iq S.ok (by lia)⟩
 case turn=>
  clear S1 hlw s1 lw to2 to1 hsl s2
  rintro E2 i hi σ H' ⟨o3,o4,lw,us,qs,rfl,S,lq⟩ nx rt
  obtain⟨p,c,u,hp,e,hc,ik⟩:=sc_item S.ib hi
  have kp:=hps.kb p (List.mem_of_getElem? hp)
  have luq:us.length=qs.length:=by rw[S.iq.length,List.length_map]
  rw[e]
  refine⟨c,_,rfl,SqT.of hc,rfl,_,_,rfl,_,_,rfl,rfl,?_⟩
  refine seqH fun N3 to3=>?_
  have go:∀ (us:List V) (qs:List Tr) (H2:Hp),Hs H H2 v κ sl lw bs us ps qs->IsDt H2 (kdD p.2) u->qs.length<=6 * i+1->N3 [some v,some (.ref a),some (.ref lw),some (.str p.1),some u] H2:=by
   intro us qs H2 S2 ik2 lq2
   refine to3 _ _ ?_
   have luq2:us.length=qs.length:=by rw[S2.iq.length,List.length_map]
   obtain⟨c2,xs2,rfl,hc2,h02⟩:=k_head ik2
   refine⟨_,rfl,.inr (.inl ⟨c2,_,_,_,rfl,rfl,SqT.of hc2,h02,.inl ⟨rfl,_,rfl,?_⟩⟩)⟩
   cases hk2:p.2 with
   | num=>exact iteN (by show ¬(decide (V.str (Str.ofString "num")=V.str (Str.ofString "row"))=true);decide +kernel) (nx _ _ ⟨_,_,lw,us,qs,rfl,S2,by lia⟩)
   | word=>exact iteN (by show ¬(decide (V.str (Str.ofString "word")=V.str (Str.ofString "row"))=true);decide +kernel) (nx _ _ ⟨_,_,lw,us,qs,rfl,S2,by lia⟩)
   | bag k=>exact iteN (by show ¬(decide (V.str (Str.ofString "bag")=V.str (Str.ofString "row"))=true);decide +kernel) (nx _ _ ⟨_,_,lw,us,qs,rfl,S2,by lia⟩)
   | row fs=>
    refine iteP (by show decide (V.str (Str.ofString "row")=V.str (Str.ofString "row"))=true;decide +kernel) ?_
    rw[hk2]at ik2 kp
    simp only[KB]at kp
    obtain⟨c3,b3,ys,e3,ha3,hb3,iy⟩:=k_row ik2
    cases e3
    have ly:ys.length=fs.length:=by rw[iy.length,List.length_map]
    refine⟨_,rfl,.inr ⟨_,rfl,.inr (.inl ⟨c2,_,1,_,rfl,rfl,SqT.of ha3,rfl,b3,rfl,⟨ys,SqT.of hb3⟩,?_⟩)⟩⟩
    refine⟨fun j m zs H3=>m+j=fs.length/\Same H2 H3/\∃ rs:List Tr,IsDts H3 (rs.map tdat) zs/\Sm2 rs/\rs.length<=j,⟨fs.length,rfl,.refl _,[],.nil,(fun q hq=>(nomatch hq)),Nat.le_refl _⟩,?_⟩
    rintro j m zs H3 ⟨hm,s3,rs,iz,ok3,lr⟩
    have lz:zs.length=rs.length:=by rw[iz.length,List.length_map]
    have kf:=kp.1
    refine⟨line1 (by lia),?_⟩
    have S3:=S2.same s3
    by_cases hj:j<ys.length
    ·refine .inr ⟨⟨_,_,SqT.of (s3 _ _ hb3),List.getElem?_eq_getElem hj⟩,fun z y H4 hy=>?_⟩
     obtain⟨rfl,hx⟩:=hy
     have e4:=hx _ (SqT.of (s3 _ _ hb3))
     rw[List.getElem?_eq_getElem hj]at e4
     cases e4
     obtain⟨fp,c4,u4,hfp,ey,hc4,ik4⟩:=sc_item iy hj
     rw[ey]
     refine⟨c4,_,rfl,SqT.of (s3 _ _ hc4),rfl,_,_,rfl,_,_,rfl,rfl,?_⟩
     have kfp:=(kp.2 fp (List.mem_of_getElem? hfp)).2
     refine⟨_,rfl,_,rfl,.inr ⟨kdD fp.2,kdD κ,IsDt.mono s3.tups ik4,S3.kv,Nat.le_trans (dep_kdD kfp) (by decide),_,rfl,?_⟩⟩
     refine ite2 (fun e5=>?_) (fun e5=>?_)
     ·refine⟨_,rfl,_,rfl,(by show 2<=sizeLine;decide),fun t1 h1=>⟨(by show 3<=sizeLine;decide),fun t2 h2=>?_⟩⟩
      have sA:=(same_new h1 (.tup [.str "var",.str p.1])).trans (same_new h2 (.tup [.str "at",.str fp.1,.ref t1]))
      refine⟨m-1,by lia,by lia,s3.trans sA,rs++[.node (Str.ofString "at") [.txt fp.1] [.node (Str.ofString "var") [.txt p.1] []]],?_,fun q hq=>?_,by rw[List.length_append];show _+1<=_;lia⟩
      ·rw[List.map_append]
       exact (IsDts.mono sA.tups iz).append (.one (q_at h2 (q_var h1)))
      ·rcases List.mem_append.mp hq with z | z
       ·exact ok3 q z
       ·rw[List.mem_singleton.mp z]
        exact⟨.att .var,by rw[nq,if_neg (by decide +kernel),nqL,nqL,nq,if_neg (by decide +kernel),nqL];decide⟩
     ·exact⟨m-1,by lia,by lia,s3,rs,iz,ok3,by lia⟩
    ·refine .inl ⟨⟨_,SqT.of (s3 _ _ hb3),by lia⟩,fun lc hlc=>?_⟩
     have S4:=S3.same (same_new hlc (.lst zs))
     refine .inr (.inr (.inl ⟨lw,lc,us,zs,rfl,rfl,S4.hl,upd_same,Nat.le_of_lt (line1 (by lia)),fun ln hln=>nx _ _ ?_⟩))
     have sN:=same_new hln (.lst (us++zs))
     have S5:=S4.same sN
     refine⟨_,_,ln,us++zs,qs++rs,rfl,⟨S5.sm,S5.kv,S5.hb,S5.ib,upd_same,?_,(fun z=>by rw[z,S4.hb]at hln;cases hln),same_back S4.sm hln,fun q hq=>?_⟩,by rw[List.length_append];lia⟩
     ·rw[List.map_append]
      exact S5.iq.append (IsDts.mono ((same_new hlc (.lst zs)).trans sN).tups iz)
     ·rcases List.mem_append.mp hq with z | z
      ·exact S2.ok q z
      ·exact ok3 q z
  refine⟨_,rfl,_,rfl,.inr ⟨kdD p.2,kdD κ,ik,S.kv,Nat.le_trans (dep_kdD kp) (by decide),_,rfl,?_⟩⟩
  refine ite2 (fun e1=>?_) (fun e1=>go us qs H' S ik (by lia))
  refine⟨_,rfl,.inl ⟨rfl,_,SqL.of S.hl⟩,_,rfl,(by show 2<=sizeLine;decide),fun t ht=>?_⟩
  have st:=same_new ht (.tup [.str "var",.str p.1])
  have S':=S.same st
  refine⟨lw,us,_,rfl,rfl,S'.hl,line1 (by lia),go _ _ _ (S'.app (q_var ht) ⟨.var,by rw[nq];decide⟩) (IsDt.mono (tups_lst S'.hl) (IsDt.mono st.tups ik)) (by rw[List.length_append];show _+1<=_;lia)⟩
end
end K30
end
section
namespace K30
open PySem L2 Kn
theorem ex_tups {H H':Hp}{l:Addr}{xs:List V} (h:H l=some (.lst xs)) (x:Ex l H H'):Tups H H':=fun b ys e=>x b _ (ne_of e h (by intro z;cases z)) e
theorem atI_mem {α:Type} {xs:List α}{r:Int} (h0:0<=r) (h1:r<xs.length):∃ v,atI xs r=some v/\v∈xs:=by
 have hk:r.toNat<xs.length:=by lia
 have e:((r.toNat:Nat):Int)=r:=by lia
 have z:atI xs ((r.toNat:Nat):Int)=some xs[r.toNat]:=atI_nat (List.getElem?_eq_getElem hk)
 rw[e]at z
 exact⟨_,z,List.getElem_mem hk⟩
theorem sd_tups {H H':Hp}{p:Addr} (h:Sd H p) (x:Ex p H H'):Tups H H':=by
 obtain⟨a,f,c,m,e⟩:=h
 exact ex_tups e x
theorem sd_new {H:Hp}{p q:Addr}{o:HO} (h:Sd H p) (hq:H q=none):Sd (upd H q o) p:=by
 obtain⟨a,f,c,m,e⟩:=h
 exact⟨a,f,c,m,same_new hq _ _ _ e⟩
theorem sd_same {H H':Hp}{p:Addr} (h:Sd H p) (s:Same H H'):Sd H' p:=by
 obtain⟨a,f,c,m,e⟩:=h
 exact⟨a,f,c,m,s _ _ e⟩
theorem sd_ne {H:Hp}{p q:Addr} (h:Sd H p) (hq:H q=none):q≠p:=fun z=>by
 obtain⟨a,f,c,m,e⟩:=h
 rw[z,e]at hq;cases hq
theorem sd_upd {H:Hp}{p q:Addr}{o:HO} (h:Sd H p) (n:q≠p):Sd (upd H q o) p:=by
 obtain⟨a,f,c,m,e⟩:=h
 exact⟨a,f,c,m,by rw[upd_ne (Ne.symm n)];exact e⟩
theorem ten9:(0:Int)<10 ^ (9:Int).toNat/\(10:Int) ^ (9:Int).toNat<1073741824/\(10:Int) ^ (9:Int).toNat<2 ^ 64:=by decide
theorem pick2 (x y:V) (b:Bool):∃ z,atI [x,y] (if b=true then 1 else 0)=some z/\(z=x\/z=y):=by
 cases b
 ·exact⟨x,rfl,.inl rfl⟩
 ·exact⟨y,rfl,.inr rfl⟩
section
variable {P:Program}{w:World}{K:PySem.W.Frag}{mg:Str->Option Value}{base:Heap}{f f_draw f_bag:Addr}{fd fd_draw fd_bag:FuncData}
theorem ZaT:FnScope ["kind","seed","deep","great","counts","k","value"] ["kind","seed","deep"] (defScope (top 23)):=⟨rfl,rfl,rfl,by decide +kernel,rfl,by decide +kernel,by decide +kernel⟩
def spVal:Sp:=fun vs H Q _=>∃ (v:V) (k:Kd) (p:Addr) (e:Int),vs=[v,.ref p,.int e]/\IsDt H (kdD k) v/\(k=.num\/k=.word)/\Sd H p /\
 ∀ (q:Tr) (u:V) (H':Hp),Ex p H H'->Sd H' p->IsQ H' q u->QG 0 q->nq q=1->Q u H'
theorem ok_value (T:Tx mg) (Zal:Df K mg "_law_value" (top 23) f fd ["kind","seed","deep"])
  (Zaa:Df K mg "_law_draw" (top 16) f_draw fd_draw ["seed","most"]) (Zac:FnOk P w K mg base CX0 1 f_draw fd_draw ["seed","most"] spDraw)
  (ZaU:Df K mg "_law_bag" (top 18) f_bag fd_bag ["counts"]) :
  FnOk P w K mg base CX0 2 f fd ["kind","seed","deep"] spVal:=by
 have ZaC:FnOk P w K mg base CX0 0 f fd ["kind","seed","deep"] (fun _ _ _ _=>False):=⟨fun _ _ _ _ h=>h.elim,fun _ _ _ _ _ _ _ _ _ _ _ _ _ h=>h.elim⟩
 have Zbv:FnOk P w K mg base CX0 0 f_bag fd_bag ["counts"] (fun _ _ _ _=>False):=⟨fun _ _ _ _ h=>h.elim,fun _ _ _ _ _ _ _ _ _ _ _ _ _ h=>h.elim⟩
 refine Zal.fn.okH (k:=1) ZaT (fun vs H Q E h=>?_) (fun cdv A outer s H vs Q E hr h=>?_)
 ·obtain⟨v,k,p,e,rfl,_⟩:=h;rfl
 obtain⟨v,k,p,e,rfl,iv,hk,sd,fin⟩:=h
 have hu:=u110 hr
 have hu0:=u0 hr
 have hu1:=hu_of hr
 refine⟨_,(wss_cons (ws_if (wt_cmpR (op_eqU hu) (we_ix (ix_U hu1) (wv 0) we_int (fun _ _=>rfl)) we_str (nomark _)) (wss_cons (ws_set (i:=3) ZaT.nd rfl (Or.inl rfl) (we_op op_mul (we_call Zac (hr.mono (by lia)) rfl Zaa.mg Zaa.kp Zaa.b .nil pass0 (wa_cons (wv 1) (wa_cons (we_op op_pow we_int we_int) wa_nil))) (we_op op_pow we_int we_int)))
   (wss_one (ws_ret (we_tup (wa_cons we_str (wa_cons (we_ix (ix_U hu1) (we_lst (wa_cons (we_op op_sub (we_call Zac (hr.mono (by lia)) rfl Zaa.mg Zaa.kp Zaa.b .nil pass0 (wa_cons (wv 1) (wa_cons we_int wa_nil))) we_int) (wa_cons (wv 3) wa_nil))) (we_callTy call_int1 rfl T.z_int bt_int (wa_cons (we_cmpR (op_eqU hu) (we_call Zac (hr.mono (by lia)) rfl Zaa.mg Zaa.kp Zaa.b .nil pass0 (wa_cons (wv 1) (wa_cons we_int wa_nil))) we_int (nomark _)) wa_nil)) (fun _ _=>rfl)) wa_nil)))))) wss_nil)
   (wss_cons (ws_if (wt_cmpR (op_eqU hu) (we_ix (ix_U hu1) (wv 0) we_int (fun _ _=>rfl)) we_str (nomark _)) (wss_one (ws_ret (we_tup (wa_cons we_str (wa_cons (we_ix (ix_U hu1) (we_lst (wa_consts rfl)) (we_call Zac (hr.mono (by lia)) rfl Zaa.mg Zaa.kp Zaa.b .nil pass0 (wa_cons (wv 1) (wa_cons we_int wa_nil))) (fun _ _=>rfl)) wa_nil))))) wss_nil)
   (wss_cons (ws_if (wt_cmpR (op_eqU hu) (we_ix (ix_U hu1) (wv 0) we_int (fun _ _=>rfl)) we_str (nomark _)) (wss_one (ws_ret (we_tup (wa_cons we_str (wa_cons (we_callTy call_tuple_of rfl T.z_tuple bt_tuple (wa_cons (we_lc (Nt:=["field","part"]) (fr:=[("seed",1),("deep",2)]) (LcOk.of (sc:=defScope (top 23)) (N:=["kind","seed","deep","great","counts","k","value"]) rfl rfl (by decide +kernel)) rfl (wi_U (we_ix (ix_U hu1) (wv 0) we_int (fun _ _=>rfl))) (fun z=>wg_tup rfl (wgs_cons (wg_name (i:=0) (by show (["field","part","seed","deep"]:List Str).Nodup;decide +kernel) rfl (Or.inl rfl) (.inr rfl)) (wgs_cons (wg_name (i:=1) (by show (["field","part","seed","deep"]:List Str).Nodup;decide +kernel) rfl (Or.inl rfl) (.inr rfl)) wgs_nil))) (fun z=>tgt_two (by decide) (by decide)) (fun z=>wif_nil) (fun z=>(we_tup (wa_cons (wv 0) (wa_cons (we_call ZaC (hr.mono (by lia)) rfl Zal.mg Zal.kp Zal.b .nil pass0 (wa_cons (wv 1) (wa_cons (wv 2) (wa_cons (wv 3) wa_nil)))) wa_nil))))) wa_nil)) wa_nil))))) wss_nil)
   (wss_cons (ws_set (i:=4) ZaT.nd rfl (Or.inl rfl) (we_lst wa_nil))
   (wss_cons (ws_for PassesOwn.never rfl (wi_range1 rfl T.z_range (wa_cons (we_call Zac (hr.mono (by lia)) rfl Zaa.mg Zaa.kp Zaa.b .nil pass0 (wa_cons (wv 1) (wa_cons (we_op op_sub we_int (wv 2)) wa_nil))) wa_nil)) (wg_name (i:=5) ZaT.nd rfl (Or.inl rfl)) (wss_cons (ws_set (i:=6) ZaT.nd rfl (Or.inl rfl) (we_call ZaC (hr.mono (by lia)) rfl Zal.mg Zal.kp Zal.b .nil pass0 (wa_cons (we_ix (ix_U hu1) (wv 0) we_int (fun _ _=>rfl)) (wa_cons (wv 1) (wa_cons we_int wa_nil)))))
   (wss_one (ws_expr (we_bm PySem.F.plainAttrs_list PySem.F.slot_list_append PySem.F.type_list_append mt_append (wv 4) (wa_cons (we_tup (wa_cons (wv 6) (wa_cons (we_ix (ix_U hu1) (we_lst (wa_cons we_int (wa_cons we_int (wa_cons (we_un un_neg we_int) (wa_cons (we_un un_neg we_int) (wa_cons (we_op op_sub (we_call Zac (hr.mono (by lia)) rfl Zaa.mg Zaa.kp Zaa.b .nil pass0 (wa_cons (wv 1) (wa_cons (we_op op_pow we_int we_int) wa_nil))) we_int) wa_nil)))))) (we_call Zac (hr.mono (by lia)) rfl Zaa.mg Zaa.kp Zaa.b .nil pass0 (wa_cons (wv 1) (wa_cons we_int wa_nil))) (fun _ _=>rfl)) wa_nil))) wa_nil))))))
   (wss_one (ws_ret (we_call Zbv (hr.mono (by lia)) rfl ZaU.mg ZaU.kp ZaU.b .nil pass0 (wa_cons (wv 4) wa_nil))))))))),?_⟩
 cases k with
 | num=>
  rw[kdD,IsDt]at iv
  obtain⟨a,ws,rfl,ha,iw⟩:=iv
  rw[IsDts]at iw
  obtain⟨w0,ws',rfl,i0,iw⟩:=iw
  rw[IsDts]at iw
  subst iw
  rw[IsDt]at i0
  subst i0
  refine⟨_,rfl,ixt (SqT.of ha) rfl (.inl ⟨rfl,_,rfl,iteP rfl ?_⟩)⟩
  refine⟨_,rfl,_,_,rfl,rfl,⟨by decide,by decide,by decide⟩,p,_,rfl,sd,ten9.1,ten9.2.1,fun r H1 ex1 sd1 r0 r1=>⟨_,_,rfl,rfl,⟨by decide,by decide,by decide⟩,_,_,rfl,rfl,.inl ⟨Int.lt_of_lt_of_le (by decide) r0,Int.lt_trans r1 ten9.2.2⟩,?_⟩⟩
  refine⟨_,rfl,p,5,rfl,sd1,by decide,by decide,fun r5 H2 ex2 sd2 a0 a1=>⟨_,_,rfl,rfl,_,rfl,(by show 2<=sizeLine;decide),fun l hl=>?_⟩⟩
  refine⟨_,rfl,p,9,rfl,sd_new sd2 hl,by decide,by decide,fun r9 H3 ex3 sd3 b0 b1=>.inl ⟨rfl,.inr ⟨_,rfl,?_⟩⟩⟩
  have hl3:=ex3 _ _ (sd_ne sd2 hl) upd_same
  obtain⟨z,hz',hm⟩:=pick2 (V.int (r5-2)) (V.int (r * (10:Int) ^ (20:Int).toNat)) (decide (V.int r9=V.int 0))
  refine ixl (SqL.of hl3) hz' ⟨(by show 2<=sizeLine;decide),fun t ht=>?_⟩
  obtain⟨n,rfl⟩:∃ n,z=V.int n:=by rcases hm with rfl | rfl <;> exact⟨_,rfl⟩
  exact fin _ _ _ ((ex1.trans ex2).trans ((ex_new hl).trans (ex3.trans (ex_new ht)))) (sd_new sd3 ht) (q_num ht) .num (by rw[nq,if_neg (by decide +kernel),nqL])
 | word=>
  rw[kdD,IsDt]at iv
  obtain⟨a,ws,rfl,ha,iw⟩:=iv
  rw[IsDts]at iw
  obtain⟨w0,ws',rfl,i0,iw⟩:=iw
  rw[IsDts]at iw
  subst iw
  rw[IsDt]at i0
  subst i0
  refine⟨_,rfl,ixt (SqT.of ha) rfl (.inl ⟨rfl,_,rfl,iteN (by show ¬decide (V.str "word"=V.str "num")=true;decide) ?_⟩)⟩
  refine⟨_,rfl,ixt (SqT.of ha) rfl (.inl ⟨rfl,_,rfl,iteP rfl ?_⟩)⟩
  refine⟨(by show 4<=sizeLine;decide),fun l hl=>⟨_,rfl,p,4,rfl,sd_new sd hl,by decide,by decide,fun r H1 ex1 sd1 r0 r1=>?_⟩⟩
  have hl1:=ex1 _ _ (sd_ne sd hl) upd_same
  obtain⟨z,hz',hm⟩:=atI_mem (xs:=[V.str "a",V.str "r",V.str "ab",V.str "dt"]) r0 r1
  refine ixl (SqL.of hl1) hz' ⟨(by show 2<=sizeLine;decide),fun t ht=>?_⟩
  obtain⟨n,rfl⟩:∃ n,z=V.str n:=by
   simp only[List.mem_cons,List.not_mem_nil,or_false]at hm
   rcases hm with rfl | rfl | rfl | rfl <;> exact⟨_,rfl⟩
  exact fin _ _ _ ((ex_new hl).trans (ex1.trans (ex_new ht))) (sd_new sd1 ht) (q_word ht) .word (by rw[nq,if_neg (by decide +kernel),nqL])
 | row fs=>rcases hk with h | h <;> cases h
 | bag k=>rcases hk with h | h <;> cases h
end
end K30
end
section
namespace K30
open PySem L2 Kn
def zz:Nat->Nat
 | 0=>2
 | d+1=>5 * zz d+4
def zf:Nat->Nat
 | 0=>400
 | f+1=>5 * zf f+800
theorem zz2:∀ d,2<=zz d
 | 0=>Nat.le_refl _
 | d+1=>by rw[zz];lia
theorem zf4:∀ f,400<=zf f
 | 0=>Nat.le_refl _
 | f+1=>by rw[zf];lia
theorem zz3 {d:Nat} (h:d<=3):zz d<=400:=by
 match d,h with
 | 0,_=>decide
 | 1,_=>decide
 | 2,_=>decide
 | 3,_=>decide
theorem zf_up {f g:Nat} (h:f<=g):zf f<=zf g:=by
 induction h with
 | refl=>exact Nat.le_refl _
 | step _ ih=>rw[zf];lia
inductive Rk (r c e:Nat) (fuel:Int) (κ:Kd) (n b D:Nat):Prop
 | low (d:Nat) (h0:fuel<=0) (kb:KB d κ) (hd:d<=3) (hr:2 * d+r<n) (hb:b=zz d) (hD:D=2 * d+r)
 | hi (f:Nat) (hf:fuel=f) (h1:1<=f) (kb:KB 3 κ) (hr:14 * f+c<n) (hb:b=zf f) (hD:D=3 * f+e)
def isBag:Kd->Bool
 | .bag _=>true
 | _=>false
def RA (fuel:Int) (κ:Kd) (n b D:Nat):Prop:=Rk (if isBag κ then 1 else 3) 13 9 fuel κ n b D
def RS (fuel:Int) (κ:Kd) (n b D:Nat):Prop:=Rk 2 12 8 fuel κ n b D
theorem ra_down {fuel:Int}{f n:Nat} {κ:Kd} (hf:fuel=f) (h1:1<=f) (hn:14 * f<=n) (kb:KB 3 κ):∃ b D,RA (fuel-1) κ n b D/\b<=zf (f-1)/\D<=3 * f+6:=by
 unfold RA
 by_cases z:f=1
 ·subst z
  exact⟨zz 3,_,.low 3 (by lia) kb (Nat.le_refl _) (by split <;> lia) rfl rfl,zz3 (Nat.le_refl _),by split <;> lia⟩
 ·exact⟨zf (f-1),_,.hi (f-1) (by lia) (by lia) kb (by lia) rfl rfl,Nat.le_refl _,by lia⟩
theorem rs_down {fuel:Int}{f n:Nat} {κ:Kd} (hf:fuel=f) (h1:1<=f) (hn:14 * f<=n) (kb:KB 3 κ):∃ b D,RS (fuel-1) κ n b D/\b<=zf (f-1)/\D<=3 * f+5:=by
 unfold RS
 by_cases z:f=1
 ·subst z
  exact⟨zz 3,_,.low 3 (by lia) kb (Nat.le_refl _) (by lia) rfl rfl,zz3 (Nat.le_refl _),by lia⟩
 ·exact⟨zf (f-1),_,.hi (f-1) (by lia) (by lia) kb (by lia) rfl rfl,Nat.le_refl _,by lia⟩
theorem zf_s {f:Nat} (h:1<=f):zf f=5 * zf (f-1)+800:=by
 obtain⟨g,rfl⟩:∃ g,f=g+1:=⟨f-1,by lia⟩
 rw[zf];rfl
def Out (p:Addr) (H:Hp) (Q:VK) (n b:Nat):Prop:=∀ (q:Tr) (u:V) (H':Hp),Ex p H H'->Sd H' p->IsQ H' q u->QG n q->nq q<=b->Q u H'
structure Inn (H:Hp) (p a:Addr) (sc:Sc) (fuel:Int):Prop where
 sd:Sd H p
 at_:ScAt H a sc
 ln:(sc.length:Int)+(if fuel<=0 then 0 else fuel)<=38
def spAsked (n:Nat):Sp:=fun vs H Q _=>∃ (v:V) (a p:Addr) (fuel:Int) (κ:Kd) (sc:Sc) (b D:Nat),vs=[v,.ref a,.int fuel,.ref p]/\IsDt H (kdD κ) v/\Inn H p a sc fuel/\RA fuel κ n b D/\Out p H Q D b
def spSmall (n:Nat):Sp:=fun vs H Q _=>∃ (v:V) (a p:Addr) (fuel:Int) (κ:Kd) (sc:Sc) (b D:Nat),vs=[v,.ref a,.int fuel,.ref p]/\IsDt H (kdD κ) v/\Inn H p a sc fuel/\RS fuel κ n b D/\Out p H Q D b
theorem Inn.ex {H H':Hp}{p a:Addr}{sc:Sc}{fuel:Int} (h:Inn H p a sc fuel) (e:Ex p H H') (s:Sd H' p):Inn H' p a sc fuel:=by
 refine⟨s,h.at_.mono (fun us z=>e _ _ (fun y=>?_) z) (sd_tups h.sd e),h.ln⟩
 obtain⟨us,h1,h2⟩:=h.at_.ex
 obtain⟨x,f,c,m,hp⟩:=h.sd
 rw[y,hp]at h1
 cases h1
 cases hsc:sc with
 | nil=>rw[hsc]at h2;rw[List.map_nil,IsDts]at h2;cases h2
 | cons q r=>
  rw[hsc,List.map_cons,IsDts]at h2
  obtain⟨y1,r1,e1,h3,_⟩:=h2
  cases e1
  unfold scD at h3
  rw[IsDt]at h3
  obtain⟨_,_,z3,_⟩:=h3
  cases z3
theorem Inn.less {H:Hp}{p a:Addr}{sc:Sc}{fuel g:Int} (h:Inn H p a sc fuel) (l:g<=fuel):Inn H p a sc g:=⟨h.sd,h.at_,by have:=h.ln;split at this <;> split <;> lia⟩
theorem Out.le {p:Addr}{H:Hp}{Q:VK}{n n' b b':Nat} (h:Out p H Q n b) (hn:n'<=n) (hb:b'<=b):Out p H Q n' b':=fun q u H' e s i g z=>h q u H' e s i (g.to hn) (by lia)
theorem Out.after {p:Addr}{H H1:Hp}{Q:VK}{n b:Nat} (h:Out p H Q n b) (e:Ex p H H1):Out p H1 Q n b:=fun q u H' e' s i g z=>h q u H' (e.trans e') s i g z
end K30
end
section
namespace K30
open PySem L2 Kn
theorem tall {σ:St} {H:Hp}{A B:Hp->Prop} (h:A H):tAll σ H fun b H3=>if b=true then A H3 else B H3:=by
 show (if true=true then A H else B H)
 rw[if_pos rfl];exact h
theorem nqR_le {n b:Nat}:∀ {rs:List (Str×Tr)},(∀ r∈rs,r.1∈FN/\QG n r.2/\nq r.2<=b)->nqR rs<=rs.length * b
 | [],_=>by rw[nqR];lia
 | r::rs,h=>by
  have h1:=(h r List.mem_cons_self).2.2
  have h2:=nqR_le fun x hx=>h x (List.mem_cons_of_mem _ hx)
  rw[nqR,List.length_cons,Nat.succ_mul]
  lia
section
variable {P:Program}{w:World}{K:PySem.W.Frag}{mg:Str->Option Value}{base:Heap}{f f_held f_draw f_value f_asked:Addr}{fd fd_held fd_draw fd_value fd_asked:FuncData}
theorem Za8:FnScope ["kind","scope","fuel","seed","ways","one"] ["kind","scope","fuel","seed"] (defScope (top 28)):=⟨rfl,rfl,rfl,by decide +kernel,rfl,by decide +kernel,by decide +kernel⟩
theorem ok_small {k n:Nat} (hk:2<=k) (T:Tx mg) (Zad:Df K mg "_law_small" (top 28) f fd ["kind","scope","fuel","seed"]) (Zat:FnOk P w K mg base CX0 k f fd ["kind","scope","fuel","seed"] (spSmall n))
  (Zab:Df K mg "_law_asked" (top 32) f_asked fd_asked ["kind","scope","fuel","seed"]) (Zam:FnOk P w K mg base CX0 k f_asked fd_asked ["kind","scope","fuel","seed"] (spAsked n))
  (Zan:Df K mg "_law_held" (top 27) f_held fd_held ["kind","scope"]) (ZaD:FnOk P w K mg base CX0 2 f_held fd_held ["kind","scope"] spHeld)
  (Zaa:Df K mg "_law_draw" (top 16) f_draw fd_draw ["seed","most"]) (Zac:FnOk P w K mg base CX0 1 f_draw fd_draw ["seed","most"] spDraw)
  (Zal:Df K mg "_law_value" (top 23) f_value fd_value ["kind","seed","deep"]) (ZaC:FnOk P w K mg base CX0 2 f_value fd_value ["kind","seed","deep"] spVal) :
  FnOk P w K mg base CX0 (k+1) f fd ["kind","scope","fuel","seed"] (spSmall (n+1)):=by
 refine Zad.fn.okH (k:=k) Za8 (fun vs H Q E h=>?_) (fun cdv A outer s H vs Q E hr h=>?_)
 ·obtain⟨v,a,p,fuel,κ,sc,b,D,rfl,_⟩:=h;rfl
 obtain⟨v,a,p,fuel,κ,sc,b,D,rfl,iv,inn,rk,fin⟩:=h
 have hu:=u110 hr
 have hu0:=u0 hr
 have hu1:=hu_of hr
 refine⟨_,(wss_cons (ws_set (i:=4) Za8.nd rfl (Or.inl rfl) (we_call ZaD (hr.mono (by lia)) rfl Zan.mg Zan.kp Zan.b .nil pass0 (wa_cons (wv 0) (wa_cons (wv 1) wa_nil))))
   (wss_cons (ws_if (wt_pw (ww_and (wt_cmpR (op_neU hu) (wv 4) (we_lst wa_nil) (nomark _)) (ww_and1 (wt_cmpR op_gt (we_call Zac (hr.mono (by lia)) rfl Zaa.mg Zaa.kp Zaa.b .nil pass0 (wa_cons (wv 3) (wa_cons we_int wa_nil))) we_int (nomark _))))) (wss_one (ws_ret (we_ix (ix_U hu1) (wv 4) (we_call Zac (hr.mono (by lia)) rfl Zaa.mg Zaa.kp Zaa.b .nil pass0 (wa_cons (wv 3) (wa_cons (we_callB call_lenU rfl T.z_len bt_len (wa_cons (wv 4) wa_nil)) wa_nil))) (fun _ _=>rfl)))) wss_nil)
   (wss_cons (ws_if (wt_cmpR (op_eqU hu) (we_ix (ix_U hu1) (wv 0) we_int (fun _ _=>rfl)) we_str (nomark _)) (wss_one (ws_ret (we_call Zam (hr.mono (by lia)) rfl Zab.mg Zab.kp Zab.b .nil pass0 (wa_cons (wv 0) (wa_cons (wv 1) (wa_cons (we_op op_sub (wv 2) we_int) (wa_cons (wv 3) wa_nil))))))) wss_nil)
   (wss_cons (ws_if (wt_cmpR (op_eqU hu) (we_ix (ix_U hu1) (wv 0) we_int (fun _ _=>rfl)) we_str (nomark _)) (wss_one (ws_ret (we_tup (wa_cons we_str (wa_cons (we_callTy call_tuple_of rfl T.z_tuple bt_tuple (wa_cons (we_lc (Nt:=["field","part"]) (fr:=[("scope",1),("fuel",2),("seed",3)]) (LcOk.of (sc:=defScope (top 28)) (N:=["kind","scope","fuel","seed","ways","one"]) rfl rfl (by decide +kernel)) rfl (wi_U (we_ix (ix_U hu1) (wv 0) we_int (fun _ _=>rfl))) (fun z=>wg_tup rfl (wgs_cons (wg_name (i:=0) (by show (["field","part","scope","fuel","seed"]:List Str).Nodup;decide +kernel) rfl (Or.inl rfl) (.inr rfl)) (wgs_cons (wg_name (i:=1) (by show (["field","part","scope","fuel","seed"]:List Str).Nodup;decide +kernel) rfl (Or.inl rfl) (.inr rfl)) wgs_nil))) (fun z=>tgt_two (by decide) (by decide)) (fun z=>wif_nil) (fun z=>(we_tup (wa_cons (wv 0) (wa_cons (we_call Zam (hr.mono (by lia)) rfl Zab.mg Zab.kp Zab.b .nil pass0 (wa_cons (wv 1) (wa_cons (wv 2) (wa_cons (we_op op_sub (wv 3) we_int) (wa_cons (wv 4) wa_nil))))) wa_nil))))) wa_nil)) wa_nil))))) wss_nil)
   (wss_cons (ws_if (wt_pw (ww_and (wt_cmpR (op_eqU hu) (we_ix (ix_U hu1) (wv 0) we_int (fun _ _=>rfl)) we_str (nomark _)) (ww_and (wt_cmpR op_gt (wv 2) we_int (nomark _)) (ww_and1 (wt_cmpR (op_eqU hu) (we_call Zac (hr.mono (by lia)) rfl Zaa.mg Zaa.kp Zaa.b .nil pass0 (wa_cons (wv 3) (wa_cons we_int wa_nil))) we_int (nomark _)))))) (wss_cons (ws_set (i:=5) Za8.nd rfl (Or.inl rfl) (we_call Zat (hr.mono (by lia)) rfl Zad.mg Zad.kp Zad.b .nil pass0 (wa_cons (wv 0) (wa_cons (wv 1) (wa_cons (we_op op_sub (wv 2) we_int) (wa_cons (wv 3) wa_nil))))))
   (wss_one (ws_ret (we_tup (wa_cons (we_ix (ix_U hu1) (we_lst (wa_consts rfl)) (we_call Zac (hr.mono (by lia)) rfl Zaa.mg Zaa.kp Zaa.b .nil pass0 (wa_cons (wv 3) (wa_cons we_int wa_nil))) (fun _ _=>rfl)) (wa_cons (wv 5) (wa_cons (we_call Zat (hr.mono (by lia)) rfl Zad.mg Zad.kp Zad.b .nil pass0 (wa_cons (wv 0) (wa_cons (wv 1) (wa_cons (we_op op_sub (wv 2) we_int) (wa_cons (wv 3) wa_nil))))) wa_nil))))))) wss_nil)
   (wss_one (ws_ret (we_call ZaC (hr.mono (by lia)) rfl Zal.mg Zal.kp Zal.b .nil pass0 (wa_cons (wv 0) (wa_cons (wv 3) (wa_cons we_int wa_nil))))))))))),?_⟩
 have kb3:KB 3 κ:=by
  cases rk with
  | low d h0 kb hd hr hb hD=>exact kb.to hd
  | hi f hf h1 kb hr hb hD=>exact kb
 have D2:2<=D:=by
  cases rk with
  | low d h0 kb hd hr hb hD=>lia
  | hi f hf h1 kb hr hb hD=>lia
 have b2:2<=b:=by
  cases rk with
  | low d h0 kb hd hr hb hD=>rw[hb];exact zz2 d
  | hi f hf h1 kb hr hb hD=>have:=zf4 f;lia
 refine seqH fun N1 to1=>⟨_,rfl,_,rfl,v,a,κ,sc,rfl,iv,kb3,inn.at_,fun l us qs H1 s1 hl hL iq sm lq=>to1 _ _ ?_⟩
 have ex1:Ex p H H1:=fun b o _ z=>s1 b o z
 have inn1:=inn.ex ex1 (sd_same inn.sd s1)
 have iv1:=IsDt.mono s1.tups iv
 have nlp:l≠p:=sd_ne inn.sd hl
 have luq:us.length=qs.length:=by rw[iq.length,List.length_map]
 refine seqH fun N2 to2=>?_
 have go:∀ H2,Ex p H H2->Sd H2 p->IsDt H2 (kdD κ) v->N2 [some v,some (.ref a),some (.int fuel),some (.ref p),some (.ref l),none] H2:=by
  intro H2 ex2 sd2 iv2
  refine to2 _ _ ?_
  have inn2:=inn.ex ex2 sd2
  have fin2:=fin.after ex2
  clear hL iq sm lq luq s1 ex1 inn1 iv1 to1 N1
  obtain⟨c0,xs0,rfl,hc0,h00⟩:=k_head iv2
  cases κ with
  | bag k0=>
   refine⟨_,rfl,.inr (.inl ⟨c0,_,_,_,rfl,rfl,SqT.of hc0,h00,.inl ⟨rfl,_,rfl,iteP (by show decide (V.str (Str.ofString "bag")=V.str (Str.ofString "bag"))=true;decide +kernel) ?_⟩⟩)⟩
   obtain⟨b',D',ra,hb',hD'⟩:∃ b' D',RA (fuel-1) (.bag k0) n b' D'/\b'<=b/\D'<=D:=by
    cases rk with
    | low d h0 kb hd hr hb hD=>exact⟨zz d,2 * d+1,.low d (by lia) kb hd (by show 2 * d+1<n;lia) rfl rfl,by lia,by lia⟩
    | hi f hf h1 kb hr hb hD=>
     obtain⟨b',D',r1,r2,r3⟩:=ra_down (n:=n) hf h1 (by lia) kb
     have:=zf_s h1
     exact⟨b',D',r1,by lia,by lia⟩
   exact⟨_,rfl,_,rfl,_,rfl,_,_,rfl,rfl,_,rfl,_,a,p,fuel-1,_,sc,b',D',rfl,iv2,inn2.less (by lia),ra,fin2.le hD' hb'⟩
  | row fs=>
   refine⟨_,rfl,.inr (.inl ⟨c0,_,_,_,rfl,rfl,SqT.of hc0,h00,.inl ⟨rfl,_,rfl,iteN (by show ¬(decide (V.str (Str.ofString "row")=V.str (Str.ofString "bag"))=true);decide +kernel) ?_⟩⟩)⟩
   refine⟨_,rfl,.inr (.inl ⟨c0,_,_,_,rfl,rfl,SqT.of hc0,h00,.inl ⟨rfl,_,rfl,iteP (by show decide (V.str (Str.ofString "row")=V.str (Str.ofString "row"))=true;decide +kernel) ?_⟩⟩)⟩
   obtain⟨c3,b3,ys,e3,ha3,hb3,iy⟩:=k_row iv2
   cases e3
   have ly:ys.length=fs.length:=by rw[iy.length,List.length_map]
   have kfs:fs.length<=5/\∀ fp∈fs,fp.1∈FN:=by simp only[KB]at kb3;exact⟨kb3.1,fun fp h=>(kb3.2 fp h).1⟩
   obtain⟨b',D',rb,hb',hD'⟩:∃ b' D',(∀ fp∈fs,∃ bb DD,RA (fuel-1) fp.2 n bb DD/\bb<=b'/\DD<=D')/\1+5 * b'<=b/\D'+1<=D:=by
    cases rk with
    | low d h0 kb hd hr hb hD=>
     cases d with
     | zero=>simp only[KB]at kb
     | succ d=>
      simp only[KB]at kb
      rw[zz]at hb
      exact⟨zz d,2 * d+3,fun fp h=>⟨zz d,_,.low d (by lia) (kb.2 fp h).2 (by lia) (by split <;> lia) rfl rfl,Nat.le_refl _,by split <;> lia⟩,by lia,by lia⟩
    | hi f hf h1 kb hr hb hD=>
     have:=zf_s h1
     simp only[KB]at kb
     exact⟨zf (f-1),3 * f+6,fun fp h=>by obtain⟨x1,x2,x3,x4,x5⟩:=ra_down (n:=n) hf h1 (by lia) ((kb.2 fp h).2.to (by decide));exact⟨x1,x2,x3,x4,by lia⟩,by lia,by lia⟩
   refine .inr ⟨_,rfl,.inr (.inl ⟨c0,_,1,_,rfl,rfl,SqT.of ha3,rfl,b3,rfl,⟨ys,SqT.of hb3⟩,?_⟩)⟩
   refine⟨fun j m zs H3=>m+j=fs.length/\Ex p H2 H3/\Sd H3 p/\∃ rs:List (Str×Tr),IsDts H3 (tdatR rs) zs/\rs.length=j/\∀ r∈rs,r.1∈FN/\QG D' r.2/\nq r.2<=b',⟨fs.length,rfl,Ex.refl _ _,sd2,[],by rw[tdatR];exact .nil,rfl,fun r hr=>(nomatch hr)⟩,?_⟩
   rintro j m zs H3 ⟨hm,ex3,sd3,rs,iz,lr,ok3⟩
   have lz:zs.length=rs.length:=by rw[iz.length,tdatR_map,List.length_map]
   have kf:=kfs.1
   refine⟨line1 (by lia),?_⟩
   have t3:=sd_tups sd2 ex3
   have hb3':=t3 _ _ hb3
   by_cases hj:j<ys.length
   ·refine .inr ⟨⟨_,_,SqT.of hb3',List.getElem?_eq_getElem hj⟩,fun z y H4 hy=>?_⟩
    obtain⟨rfl,hx⟩:=hy
    have e4:=hx _ (SqT.of hb3')
    rw[List.getElem?_eq_getElem hj]at e4
    cases e4
    obtain⟨fp,c4,u4,hfp,ey,hc4,ik4⟩:=sc_item iy hj
    rw[ey]
    refine⟨c4,_,rfl,SqT.of (t3 _ _ hc4),rfl,_,_,rfl,_,_,rfl,rfl,?_⟩
    have mem:=List.mem_of_getElem? hfp
    obtain⟨bb,DD,ra,hbb,hDD⟩:=rb fp mem
    refine tall ?_
    refine⟨_,rfl,_,rfl,_,rfl,_,rfl,_,_,rfl,rfl,_,rfl,u4,a,p,fuel-1,fp.2,sc,bb,DD,rfl,IsDt.mono t3 ik4,(inn2.ex ex3 sd3).less (by lia),ra,fun q u H5 ex5 sd5 i5 g5 z5=>⟨(by show 2<=sizeLine;decide),fun t ht=>?_⟩⟩
    refine⟨m-1,by lia,by lia,ex3.trans (ex5.trans (ex_new ht)),sd_new sd5 ht,rs++[(fp.1,q)],?_,by rw[List.length_append,lr];rfl,fun r hr=>?_⟩
    ·rw[tdatR_map,List.map_append,<- tdatR_map]
     exact (IsDts.mono (same_new ht _).tups (IsDts.mono (sd_tups sd3 ex5) iz)).append (.one (isDt_new ht (.cons (isDt_str _) (.one i5))))
    ·rcases List.mem_append.mp hr with z | z
     ·exact ok3 r z
     ·rw[List.mem_singleton.mp z];exact⟨kfs.2 fp mem,g5.to hDD,by show nq q<=b';lia⟩
   ·refine .inl ⟨⟨_,SqT.of hb3',by lia⟩,fun lc hlc=>?_⟩
    have sr:=same_new hlc (.lst zs)
    refine⟨lc,zs,rfl,.inl ⟨SqL.of upd_same,fun tr htr=>⟨(by show 2<=sizeLine;decide),fun tw htw=>?_⟩⟩⟩
    have dA:=isDt_new htr (IsDts.mono sr.tups iz)
    have dB:IsQ (upd (upd (upd H3 lc (.lst zs)) tr (.tup zs)) tw (.tup [.str "row",.ref tr])) (.row rs) (.ref tw):=by unfold IsQ;rw[tdat];exact isDt_new htw (.cons (isDt_str "row") (.one dA))
    have sA:=sr.trans ((same_new htr (.tup zs)).trans (same_new htw (.tup [.str "row",.ref tr])))
    refine fin _ _ _ (ex2.trans (ex3.trans fun b o _ z=>sA b o z)) (sd_same sd3 sA) dB ((QG.row (by lia) (fun r hr=>(ok3 r hr).1) fun r hr=>(ok3 r hr).2.1).to hD') ?_
    have:=nqR_le ok3
    have hm5:rs.length * b'<=5 * b':=Nat.mul_le_mul_right _ (by lia)
    rw[nq]
    lia
  | num=>
   refine⟨_,rfl,.inr (.inl ⟨c0,_,_,_,rfl,rfl,SqT.of hc0,h00,.inl ⟨rfl,_,rfl,iteN (by show ¬(decide (V.str (Str.ofString "num")=V.str (Str.ofString "bag"))=true);decide +kernel) ?_⟩⟩)⟩
   refine⟨_,rfl,.inr (.inl ⟨c0,_,_,_,rfl,rfl,SqT.of hc0,h00,.inl ⟨rfl,_,rfl,iteN (by show ¬(decide (V.str (Str.ofString "num")=V.str (Str.ofString "row"))=true);decide +kernel) ?_⟩⟩)⟩
   dsimp only[tNext]
   refine seqH fun N4 to4=>?_
   have gv:∀ H3,Ex p H H3->Sd H3 p->IsDt H3 (kdD .num) (.ref c0)->N4 [some (.ref c0),some (.ref a),some (.int fuel),some (.ref p),some (.ref l),none] H3:=fun H3 ex3 sd3 iv3=>
    to4 _ _ ⟨_,rfl,_,rfl,_,.num,p,1,rfl,iv3,.inl rfl,sd3,fun q u H' e s i g z=>fin q u H' (ex3.trans e) s i (g.to (by lia)) (by lia)⟩
   refine⟨_,rfl,.inr (.inl ⟨c0,_,_,_,rfl,rfl,SqT.of hc0,h00,.inl ⟨rfl,_,rfl,iteP (by show decide (V.str (Str.ofString "num")=V.str (Str.ofString "num"))=true;decide +kernel) ?_⟩⟩)⟩
   refine⟨_,rfl,_,_,rfl,rfl,_,rfl,?_⟩
   refine ite2 (fun e2=>?_) (fun e2=>gv H2 ex2 sd2 iv2)
   have fpos:0<fuel:=of_decide_eq_true e2
   refine⟨_,rfl,p,3,rfl,sd2,by decide,by decide,fun r H3 ex3 sd3 r0 r1=>.inl ⟨rfl,_,rfl,?_⟩⟩
   refine ite2 (fun e3=>?_) (fun e3=>gv H3 (ex2.trans ex3) sd3 (IsDt.mono (sd_tups sd2 ex3) iv2))
   obtain⟨f,hf,h1,hr',hb,hD⟩:∃ f:Nat,fuel=f/\1<=f/\14 * f<=n/\b=zf f/\D=3 * f+8:=by
    cases rk with
    | low d h0 kb hd hr hb hD=>lia
    | hi f hf h1 kb hr hb hD=>exact⟨f,hf,h1,by lia,hb,hD⟩
   obtain⟨b',D',r1',r2',r3'⟩:=rs_down (n:=n) (κ:=.num) hf h1 hr' (by simp only[KB])
   have zs:=zf_s h1
   have iv3:=IsDt.mono (sd_tups sd2 ex3) iv2
   refine seqH fun N5 to5=>⟨_,rfl,_,rfl,_,rfl,_,_,rfl,rfl,_,rfl,_,a,p,fuel-1,.num,sc,b',D',rfl,iv3,(inn2.ex ex3 sd3).less (by lia),r1',fun q1 u1 H4 ex4 sd4 i4 g4 z4=>to5 _ _ ?_⟩
   refine⟨(by show 2<=sizeLine;decide),fun lw hlw=>⟨_,rfl,p,2,rfl,sd_new sd4 hlw,by decide,by decide,fun r5 H5 ex5 sd5 r50 r51=>?_⟩⟩
   have hl5:=ex5 _ _ (sd_ne sd4 hlw) upd_same
   obtain⟨x,hx,hm⟩:=atI_mem (xs:=[V.str "add",V.str "mul"]) r50 r51
   refine ixl (SqL.of hl5) hx ?_
   obtain⟨w0,rfl,hw0⟩:∃ w0:Str,x=.str w0/\w0∈W2:=by
    simp only[List.mem_cons,List.not_mem_nil,or_false]at hm
    rcases hm with rfl | rfl <;> exact⟨_,rfl,by decide +kernel⟩
   have e45:Ex p H4 H5:=(ex_new hlw).trans ex5
   have i5:=IsDt.mono (sd_tups sd4 e45) i4
   refine⟨_,rfl,_,rfl,_,rfl,_,rfl,_,_,rfl,rfl,_,rfl,_,a,p,fuel-1,.num,sc,b',D',rfl,IsDt.mono (sd_tups sd4 e45) (IsDt.mono (sd_tups sd3 ex4) iv3),(((inn2.ex ex3 sd3).ex ex4 sd4).ex e45 sd5).less (by lia),r1',fun q2 u2 H6 ex6 sd6 i6 g6 z6=>⟨(by show 3<=sizeLine;decide),fun t ht=>?_⟩⟩
   have i6':=IsDt.mono (sd_tups sd5 ex6) i5
   refine fin _ _ _ (ex2.trans (ex3.trans (ex4.trans (e45.trans (ex6.trans (ex_new ht)))))) (sd_new sd6 ht) (q_two ht i6' i6) ((QG.two hw0 g4 g6).to (by lia)) ?_
   rw[nq,if_neg (w2_ok hw0).2.2,nqL,nqL,nqL]
   lia
  | word=>
   refine⟨_,rfl,.inr (.inl ⟨c0,_,_,_,rfl,rfl,SqT.of hc0,h00,.inl ⟨rfl,_,rfl,iteN (by show ¬(decide (V.str (Str.ofString "word")=V.str (Str.ofString "bag"))=true);decide +kernel) ?_⟩⟩)⟩
   refine⟨_,rfl,.inr (.inl ⟨c0,_,_,_,rfl,rfl,SqT.of hc0,h00,.inl ⟨rfl,_,rfl,iteN (by show ¬(decide (V.str (Str.ofString "word")=V.str (Str.ofString "row"))=true);decide +kernel) ?_⟩⟩)⟩
   refine⟨_,rfl,.inr (.inl ⟨c0,_,_,_,rfl,rfl,SqT.of hc0,h00,.inl ⟨rfl,_,rfl,iteN (by show ¬(decide (V.str (Str.ofString "word")=V.str (Str.ofString "num"))=true);decide +kernel) ?_⟩⟩)⟩
   exact⟨_,rfl,_,rfl,_,.word,p,1,rfl,iv2,.inr rfl,sd2,fun q u H' e s i g z=>fin q u H' (ex2.trans e) s i (g.to (by lia)) (by lia)⟩
 refine⟨_,rfl,(by show 0<=sizeLine;decide),fun e he=>.inr (.inr ⟨l,e,_,rfl,rfl,same_new he _ _ _ hL,upd_same,_,rfl,?_⟩)⟩
 have sE:=same_new he (.lst [])
 have exE:Ex p H (upd H1 e (.lst [])):=ex1.trans fun b o _ z=>sE b o z
 have sdE:=sd_same inn1.sd sE
 refine ite2 (fun e1=>?_) (fun e1=>go _ exE sdE (IsDt.mono sE.tups iv1))
 have hL2:=sE _ _ hL
 have iqE:=IsDts.mono sE.tups iq
 refine⟨_,rfl,p,4,rfl,sdE,by decide,by decide,fun r H2 ex2 sd2 r0 r1=>⟨_,_,rfl,rfl,_,rfl,?_⟩⟩
 refine ite2 (fun e2=>?_) (fun e2=>go _ (exE.trans ex2) sd2 (IsDt.mono (sd_tups sdE ex2) (IsDt.mono sE.tups iv1)))
 have ne:us≠[]:=by simpa using e1
 have pos:0<us.length:=List.length_pos_iff.mpr ne
 have hL3:=ex2 _ _ nlp hL2
 refine⟨_,rfl,_,rfl,_,rfl,.inl ⟨l,_,rfl,.inl (SqL.of hL3),p,_,rfl,sd2,by lia,by lia,fun r3 H3 ex3 sd3 a0 a1=>?_⟩⟩
 obtain⟨x,hx,hm⟩:=atI_mem (xs:=us) a0 a1
 refine ixl (SqL.of (ex3 _ _ nlp hL3)) hx ?_
 obtain⟨j,hj,rfl⟩:=List.getElem_of_mem hm
 obtain⟨v',hv',d⟩:=iqE.get (i:=j) (d:=tdat qs[j]) (by rw[List.getElem?_map,List.getElem?_eq_getElem (by lia)];rfl)
 rw[List.getElem?_eq_getElem hj]at hv'
 cases hv'
 obtain⟨g,z⟩:=sm qs[j] (List.getElem_mem (by lia))
 exact fin _ _ _ (exE.trans (ex2.trans ex3)) sd3 (IsDt.mono (sd_tups sd2 ex3) (IsDt.mono (sd_tups sdE ex2) d)) (g.to (by lia)) (by lia)
end
end K30
end
section
namespace K30
open PySem L2 Kn
theorem lcset {wi:TI}{k:Nat}{fr:List (Str×Nat)}{g:ZC->TG}{tc:ZC->TT}{te:ZC->TE}{j:Nat}{D:Ends} {σ:St} {H:Hp} (h:tLC wi k fr g tc te σ H fun v H'=>D.nx (σ.set j (some v)) H'):tLCset wi k fr g tc te j D σ H:=h
theorem cut5 {r:Int} (h0:0<=r) (h1:r<5):∃ fs:List Str,cutV [V.str "a",V.str "c",V.str "t",V.str "u",V.str "w"] none (some (1+r))=fs.map V.str/\1<=fs.length/\fs.length<=5/\∀ x∈fs,x∈FN:=by
 have:r=0\/r=1\/r=2\/r=3\/r=4:=by lia
 rcases this with rfl | rfl | rfl | rfl | rfl
 ·exact⟨["a"],rfl,by decide,by decide,by decide +kernel⟩
 ·exact⟨["a","c"],rfl,by decide,by decide,by decide +kernel⟩
 ·exact⟨["a","c","t"],rfl,by decide,by decide,by decide +kernel⟩
 ·exact⟨["a","c","t","u"],rfl,by decide,by decide,by decide +kernel⟩
 ·exact⟨["a","c","t","u","w"],rfl,by decide,by decide,by decide +kernel⟩
theorem gall {i:Nat}{v:V} {σ:St} {H:Hp}{A:St->Hp->Prop}{B:Hp->Prop} (h:A (σ.set i (some v)) H):gName i v σ H fun σ2 H2=>tAll σ2 H2 fun b H3=>if b=true then A σ2 H3 else B H3:=by
 show (if true=true then A _ H else B H)
 rw[if_pos rfl];exact h
def qOne:Tr:=.node (Str.ofString "num") [.int 1] []
theorem q1dat:tdat qOne=.tup [.str "num",.int 1]:=by unfold qOne;rw[tdat,tdatL];rfl
theorem nqR_set {b:Nat}:∀ {rs:List (Str×Tr)}{j:Nat}{x:Str×Tr},(∀ r∈rs,nq r.2<=1)->nq x.2<=b->nqR (rs.set j x)<=rs.length+b
 | [],j,x,_,_=>by rw[List.set_nil,nqR];lia
 | r::rs,0,x,h,hx=>by
  have:nqR rs<=rs.length:=by
   have key:∀ l:List (Str×Tr),(∀ r∈l,nq r.2<=1)->nqR l<=l.length:=by
    intro l
    induction l with
    | nil=>intro _;rw[nqR];exact Nat.le_refl _
    | cons a l ih=>intro hl;have h1:=hl a List.mem_cons_self;have h2:=ih fun q hq=>hl q (List.mem_cons_of_mem _ hq);rw[nqR,List.length_cons];lia
   exact key rs fun q hq=>h q (List.mem_cons_of_mem _ hq)
  rw[List.set_cons_zero,nqR,List.length_cons];lia
 | r::rs,j+1,x,h,hx=>by
  have h1:=h r List.mem_cons_self
  have h2:=nqR_set (rs:=rs) (j:=j) (x:=x) (fun q hq=>h q (List.mem_cons_of_mem _ hq)) hx
  rw[List.set_cons_succ,nqR,List.length_cons];lia
theorem isDts_set {H:Hp}:∀ {ds:List Dt}{xs:List V}{j:Nat}{d:Dt}{x:V},IsDts H ds xs->IsDt H d x->IsDts H (ds.set j d) (xs.set j x)
 | [],xs,j,d,x,h,hx=>by rw[IsDts]at h;subst h;rw[List.set_nil,List.set_nil];exact .nil
 | e::ds,xs,0,d,x,h,hx=>by
  rw[IsDts]at h
  obtain⟨y,r,rfl,h1,h2⟩:=h
  rw[List.set_cons_zero,List.set_cons_zero];exact .cons hx h2
 | e::ds,xs,j+1,d,x,h,hx=>by
  rw[IsDts]at h
  obtain⟨y,r,rfl,h1,h2⟩:=h
  rw[List.set_cons_succ,List.set_cons_succ];exact .cons h1 (isDts_set h2 hx)
section
variable {P:Program}{w:World}{K:PySem.W.Frag}{mg:Str->Option Value}{base:Heap}{f f_draw f_asked:Addr}{fd fd_draw fd_asked:FuncData}
theorem Za1:FnScope ["kind","scope","fuel","seed","fields","place","parts"] ["kind","scope","fuel","seed"] (defScope (top 31)):=⟨rfl,rfl,rfl,by decide +kernel,rfl,by decide +kernel,by decide +kernel⟩
def spTaken (n:Nat):Sp:=fun vs H Q _=>∃ (v:V) (a p:Addr) (fl:Nat) (κ:Kd) (sc:Sc),vs=[v,.ref a,.int (fl:Int),.ref p]/\IsDt H (kdD κ) v/\KB 3 κ/\Inn H p a sc (fl:Int)/\1<=fl/\14 * fl+11<n/\Out p H Q (3 * fl+8) (zf fl)
theorem ok_taken {k n:Nat} (hk:2<=k) (T:Tx mg) (D:Df K mg "_law_taken" (top 31) f fd ["kind","scope","fuel","seed"])
  (Zab:Df K mg "_law_asked" (top 32) f_asked fd_asked ["kind","scope","fuel","seed"]) (Zam:FnOk P w K mg base CX0 k f_asked fd_asked ["kind","scope","fuel","seed"] (spAsked n))
  (Zaa:Df K mg "_law_draw" (top 16) f_draw fd_draw ["seed","most"]) (Zac:FnOk P w K mg base CX0 1 f_draw fd_draw ["seed","most"] spDraw) :
  FnOk P w K mg base CX0 (k+1) f fd ["kind","scope","fuel","seed"] (spTaken (n+1)):=by
 refine D.fn.okH (k:=k) Za1 (fun vs H Q E h=>?_) (fun cdv A outer s H vs Q E hr h=>?_)
 ·obtain⟨v,a,p,fl,κ,sc,rfl,_⟩:=h;rfl
 obtain⟨v,a,p,fl,κ,sc,rfl,iv,kb,inn,f1,hn,fin⟩:=h
 have hu:=u110 hr
 have hu0:=u0 hr
 have hu1:=hu_of hr
 refine⟨_,(wss_cons (ws_set (i:=4) Za1.nd rfl (Or.inl rfl) (we_slice sl_U (we_lst (wa_consts rfl)) wo_none (wo_some (we_op op_plus we_int (we_call Zac (hr.mono (by lia)) rfl Zaa.mg Zaa.kp Zaa.b .nil pass0 (wa_cons (wv 3) (wa_cons we_int wa_nil)))))))
   (wss_cons (ws_set (i:=5) Za1.nd rfl (Or.inl rfl) (we_call Zac (hr.mono (by lia)) rfl Zaa.mg Zaa.kp Zaa.b .nil pass0 (wa_cons (wv 3) (wa_cons (we_callB call_lenU rfl T.z_len bt_len (wa_cons (wv 4) wa_nil)) wa_nil))))
   (wss_cons (ws_lc (j:=6) (hN:=Za1.nd) (hj:=rfl) (hy:=(Or.inl rfl)) (Nt:=["field"]) (fr:=[]) (LcOk.of (sc:=defScope (top 31)) (N:=["kind","scope","fuel","seed","fields","place","parts"]) rfl rfl (by decide +kernel)) rfl (wi_U (wv 4)) (fun z=>wg_name (i:=0) (by show (["field"]:List Str).Nodup;decide +kernel) rfl (Or.inl rfl) (.inr rfl)) (fun z=>tgt_name (by decide)) (fun z=>wif_nil) (fun z=>(we_tup (wa_cons (wv 0) (wa_cons (we_dt rfl) wa_nil)))))
   (wss_cons (ws_asg (we_tup (wa_cons (we_ix (ix_U hu1) (wv 4) (wv 5) (fun _ _=>rfl)) (wa_cons (we_call Zam (hr.mono (by lia)) rfl Zab.mg Zab.kp Zab.b .nil pass0 (wa_cons (wv 0) (wa_cons (wv 1) (wa_cons (we_op op_sub (wv 2) we_int) (wa_cons (wv 3) wa_nil))))) wa_nil))) (wg_sub (wv 6) (wv 5) (set_U hu1)))
   (wss_one (ws_ret (we_tup (wa_cons we_str (wa_cons (we_ix (ix_U hu1) (wv 4) (wv 5) (fun _ _=>rfl)) (wa_cons (we_tup (wa_cons we_str (wa_cons (we_callTy call_tuple_of rfl T.z_tuple bt_tuple (wa_cons (wv 6) wa_nil)) wa_nil))) wa_nil)))))))))),?_⟩
 refine seqH fun N1 to1=>⟨(by show 5<=sizeLine;decide),fun l0 hl0=>?_⟩
 have sd0:=sd_new (o:=.lst [V.str "a",V.str "c",V.str "t",V.str "u",V.str "w"]) inn.sd hl0
 refine⟨_,rfl,p,5,rfl,sd0,by decide,by decide,fun r H1 ex1 sd1 r0 r1=>.inl ⟨_,_,rfl,rfl,_,rfl,?_⟩⟩
 have hl1:=ex1 _ _ (sd_ne inn.sd hl0) upd_same
 refine .inl ⟨l0,_,rfl,SqL.of hl1,fun lf hlf=>to1 _ _ ?_⟩
 obtain⟨fs,efs,lf1,lf5,fn⟩:=cut5 r0 r1
 rw[efs]
 have exA:Ex p H (upd H1 lf (.lst (fs.map V.str))):=(ex_new hl0).trans (ex1.trans (ex_new hlf))
 have sdA:=sd_new (o:=.lst (fs.map V.str)) sd1 hlf
 have hF:(upd H1 lf (.lst (fs.map V.str))) lf=some (.lst (fs.map V.str)):=upd_same
 have nlf:=sd_ne sd1 hlf
 generalize upd H1 lf (.lst (fs.map V.str))=HA at exA sdA hF ⊢
 refine seqH fun N2 to2=>⟨_,rfl,_,rfl,.inl ⟨lf,_,rfl,.inl (SqL.of hF),p,_,rfl,sdA,by rw[List.length_map];lia,by rw[List.length_map];lia,fun pl HB exB sdB p0 p1=>to2 _ _ ?_⟩⟩
 rw[List.length_map]at p1
 obtain⟨j,rfl⟩:∃ j:Nat,pl=j:=⟨pl.toNat,by lia⟩
 have hj:j<fs.length:=by lia
 have hFB:=exB _ _ nlf hF
 refine seqH fun N3 to3=>lcset (.inl ⟨_,rfl,lf,rfl,⟨_,SqL.of hFB⟩,?_⟩)
 refine⟨fun i m zs H4=>m+i=fs.length/\Same HB H4/\IsDts H4 ((fs.take i).map fun x=>.tup [.str x,tdat qOne]) zs,⟨fs.length,rfl,.refl _,.nil⟩,?_⟩
 rintro i m zs H4 ⟨hm,s4,iz⟩
 have lz:zs.length=min i fs.length:=by rw[iz.length,List.length_map,List.length_take]
 refine⟨line1 (by lia),?_⟩
 have hF4:=s4 _ _ hFB
 by_cases hi:i<fs.length
 ·refine .inr ⟨⟨_,_,SqL.of hF4,by rw[List.getElem?_map,List.getElem?_eq_getElem hi];rfl⟩,fun z y H5 hy=>?_⟩
  obtain⟨rfl,hx⟩:=hy
  have e5:=hx _ (SqL.of hF4)
  rw[List.getElem?_map,List.getElem?_eq_getElem hi]at e5
  cases e5
  refine gall ?_
  refine⟨_,rfl,fun v1 H6 s6 i6=>⟨(by show 2<=sizeLine;decide),fun t ht=>?_⟩⟩
  have sT:=s6.trans (same_new ht (.tup [.str fs[i],v1]))
  refine⟨m-1,by lia,by lia,s4.trans sT,?_⟩
  rw[List.take_add_one,List.getElem?_eq_getElem hi,List.map_append]
  refine (IsDts.mono sT.tups iz).append (.one ?_)
  rw[q1dat]
  exact isDt_new ht (.cons (isDt_str _) (.one i6))
 refine .inl ⟨⟨_,SqL.of hF4,by rw[List.length_map];lia⟩,fun lp hlp=>to3 _ _ ?_⟩
 rw[List.take_of_length_le (by lia)]at iz
 have sP:=s4.trans (same_new hlp (.lst zs))
 have sdC:=sd_same sdB sP
 have exC:Ex p H (upd H4 lp (.lst zs)):=exA.trans (exB.trans fun b o _ z=>sP b o z)
 have hFC:=sP _ _ hFB
 have hPC:(upd H4 lp (.lst zs)) lp=some (.lst zs):=upd_same
 have izC:=IsDts.mono (same_new hlp (.lst zs)).tups iz
 have nlp:lp≠p:=sd_ne (sd_same sdB s4) hlp
 have hlp0:H lp=none:=by
  cases e:H lp with
  | none=>rfl
  | some o=>rw[s4 _ _ (exB _ _ nlp (exA _ _ nlp e))]at hlp;cases hlp
 have nlf2:lf≠lp:=fun z=>by rw[<- z,s4 _ _ hFB]at hlp;cases hlp
 generalize upd H4 lp (.lst zs)=HC at sdC exC hFC hPC izC ⊢
 have lzf:zs.length=fs.length:=by lia
 have efj:(fs.map V.str)[j]?=some (.str fs[j]):=by rw[List.getElem?_map,List.getElem?_eq_getElem hj];rfl
 obtain⟨b',D',ra,hb',hD'⟩:=ra_down (n:=n) (fuel:=(fl:Int)) rfl f1 (by lia) kb
 have zs':=zf_s f1
 refine seqH fun N4 to4=>?_
 refine⟨_,rfl,_,rfl,ixl (SqL.of hFC) (atI_nat efj) ?_⟩
 refine⟨_,rfl,_,rfl,_,rfl,_,_,rfl,rfl,_,rfl,v,a,p,(fl:Int)-1,κ,sc,b',D',rfl,IsDt.mono (sd_tups inn.sd exC) iv,(inn.ex exC sdC).less (by lia),ra,fun q u HD exD sdD iD gD zD=>⟨(by show 2<=sizeLine;decide),fun t ht=>?_⟩⟩
 have sT:=same_new ht (.tup [.str fs[j],u])
 have hP1:=sT _ _ (exD _ _ nlp hPC)
 have hF1:=sT _ _ (exD _ _ nlf hFC)
 have iz1:=IsDts.mono sT.tups (IsDts.mono (sd_tups sdC exD) izC)
 have iT:IsDt (upd HD t (.tup [.str fs[j],u])) (.tup [.str fs[j],tdat q]) (.ref t):=isDt_new ht (.cons (isDt_str _) (.one iD))
 have exT:Ex p H (upd HD t (.tup [.str fs[j],u])):=exC.trans (exD.trans (ex_new ht))
 have sdT:=sd_new (o:=.tup [.str fs[j],u]) sdD ht
 generalize upd HD t (.tup [.str fs[j],u])=HE at hP1 hF1 iz1 iT exT sdT ⊢
 refine⟨_,rfl,_,rfl,.inl ⟨lp,zs,(j:Int),j,rfl,rfl,hP1,?_,to4 _ _ ?_⟩⟩
 ·unfold ixN
  rw[if_pos (by lia),if_pos (by lia)]
  simp
 have tu:=tups_lst (zs:=zs.set j (.ref t)) hP1
 have hF2:(upd HE lp (.lst (zs.set j (.ref t)))) lf=some (.lst (fs.map V.str)):=by rw[upd_ne nlf2];exact hF1
 have exG:Ex p H (upd HE lp (.lst (zs.set j (.ref t)))):=exT.upd' hlp0
 have sdG:Sd (upd HE lp (.lst (zs.set j (.ref t)))) p:=sd_upd sdT nlp
 have iz2:IsDts (upd HE lp (.lst (zs.set j (.ref t)))) (tdatR ((fs.map fun x=>(x,qOne)).set j (fs[j],q))) (zs.set j (.ref t)):=by
  rw[tdatR_map,List.map_set,List.map_map]
  exact isDts_set (IsDts.mono tu iz1) (IsDt.mono tu iT)
 have hP2:(upd HE lp (.lst (zs.set j (.ref t)))) lp=some (.lst (zs.set j (.ref t))):=upd_same
 generalize upd HE lp (.lst (zs.set j (.ref t)))=HG at hF2 exG sdG iz2 hP2 ⊢
 refine⟨_,rfl,_,rfl,ixl (SqL.of hF2) (atI_nat efj) ?_⟩
 refine⟨_,rfl,lp,_,rfl,.inl ⟨SqL.of hP2,fun tr htr=>⟨(by show 2<=sizeLine;decide),fun tw htw=>⟨(by show 3<=sizeLine;decide),fun ta hta=>?_⟩⟩⟩⟩
 have dA:=isDt_new htr iz2
 have dB:IsQ (upd (upd HG tr (.tup (zs.set j (.ref t)))) tw (.tup [.str "row",.ref tr])) (.row ((fs.map fun x=>(x,qOne)).set j (fs[j],q))) (.ref tw):=by unfold IsQ;rw[tdat];exact isDt_new htw (.cons (isDt_str "row") (.one dA))
 have sA:=(same_new htr (.tup (zs.set j (.ref t)))).trans ((same_new htw (.tup [.str "row",.ref tr])).trans (same_new hta (.tup [.str "at",.str fs[j],.ref tw])))
 refine fin _ _ _ (exG.trans fun b o _ z=>sA b o z) (sd_same sdG sA) (q_at hta dB) ((QG.att (QG.row (d:=D') ?_ (fun r hr=>?_) fun r hr=>?_)).to (by lia)) ?_
 ·rw[List.length_set,List.length_map];exact lf5
 ·rcases List.mem_or_eq_of_mem_set hr with h | h
  ·obtain⟨x,hx,rfl⟩:=List.mem_map.mp h;exact fn x hx
  ·rw[h];exact fn _ (List.getElem_mem hj)
 ·rcases List.mem_or_eq_of_mem_set hr with h | h
  ·obtain⟨x,hx,rfl⟩:=List.mem_map.mp h;exact .num
  ·rw[h];exact gD
 ·have h5:=nqR_set (b:=b') (rs:=fs.map fun x=>(x,qOne)) (j:=j) (x:=(fs[j],q)) (fun r hr=>by obtain⟨x,hx,rfl⟩:=List.mem_map.mp hr;show nq qOne<=1;unfold qOne;rw[nq,if_neg (by decide +kernel),nqL];decide) zD
  rw[List.length_map]at h5
  rw[nq,if_neg (by decide +kernel),nqL,nqL,nq]
  lia
end
end K30
end
section
namespace K30
open PySem L2 Kn
theorem two_W2 {w:Str} (h:w=Str.ofString "same"\/w=Str.ofString "under"\/w=Str.ofString "and"\/w=Str.ofString "or"):w∈W2:=by
 rcases h with rfl | rfl | rfl | rfl <;> decide +kernel
section
variable {P:Program}{w:World}{K:PySem.W.Frag}{mg:Str->Option Value}{base:Heap}{f f_draw f_small:Addr}{fd fd_draw fd_small:FuncData}
theorem ZaE:FnScope ["scope","fuel","seed","way","one","kind","word"] ["scope","fuel","seed"] (defScope (top 29)):=⟨rfl,rfl,rfl,by decide +kernel,rfl,by decide +kernel,by decide +kernel⟩
def spClaim (n:Nat):Sp:=fun vs H Q _=>∃ (a p:Addr) (c:Nat) (sc:Sc),vs=[.ref a,.int (c:Int),.ref p]/\c<=1/\Inn H p a sc 0/\4+c<n/\Out p H Q (5+c) (8+9 * c)
theorem ok_claim {k n:Nat} (hk:2<=k) (T:Tx mg) (Zah:Df K mg "_law_claim" (top 29) f fd ["scope","fuel","seed"]) (ZaV:FnOk P w K mg base CX0 k f fd ["scope","fuel","seed"] (spClaim n))
  (Zad:Df K mg "_law_small" (top 28) f_small fd_small ["kind","scope","fuel","seed"]) (Zat:FnOk P w K mg base CX0 k f_small fd_small ["kind","scope","fuel","seed"] (spSmall n))
  (Zaa:Df K mg "_law_draw" (top 16) f_draw fd_draw ["seed","most"]) (Zac:FnOk P w K mg base CX0 1 f_draw fd_draw ["seed","most"] spDraw) :
  FnOk P w K mg base CX0 (k+1) f fd ["scope","fuel","seed"] (spClaim (n+1)):=by
 refine Zah.fn.okH (k:=k) ZaE (fun vs H Q E h=>?_) (fun cdv A outer s H vs Q E hr h=>?_)
 ·obtain⟨a,p,c,sc,rfl,_⟩:=h;rfl
 obtain⟨a,p,c,sc,rfl,c1,inn,hn,fin⟩:=h
 have hu:=u110 hr
 have hu0:=u0 hr
 have hu1:=hu_of hr
 refine⟨_,(wss_cons (ws_set (i:=3) ZaE.nd rfl (Or.inl rfl) (we_call Zac (hr.mono (by lia)) rfl Zaa.mg Zaa.kp Zaa.b .nil pass0 (wa_cons (wv 2) (wa_cons we_int wa_nil))))
   (wss_cons (ws_if (wt_pw (ww_and (wt_cmpR op_gt (wv 1) we_int (nomark _)) (ww_and1 (wt_cmpR (op_eqU hu) (wv 3) we_int (nomark _))))) (wss_one (ws_ret (we_tup (wa_cons we_str (wa_cons (we_call ZaV (hr.mono (by lia)) rfl Zah.mg Zah.kp Zah.b .nil pass0 (wa_cons (wv 0) (wa_cons (we_op op_sub (wv 1) we_int) (wa_cons (wv 2) wa_nil)))) wa_nil))))) wss_nil)
   (wss_cons (ws_if (wt_pw (ww_and (wt_cmpR op_gt (wv 1) we_int (nomark _)) (ww_and1 (wt_cmpR (op_eqU hu) (wv 3) we_int (nomark _))))) (wss_cons (ws_set (i:=4) ZaE.nd rfl (Or.inl rfl) (we_call ZaV (hr.mono (by lia)) rfl Zah.mg Zah.kp Zah.b .nil pass0 (wa_cons (wv 0) (wa_cons (we_op op_sub (wv 1) we_int) (wa_cons (wv 2) wa_nil)))))
   (wss_one (ws_ret (we_tup (wa_cons (we_ix (ix_U hu1) (we_lst (wa_consts rfl)) (we_call Zac (hr.mono (by lia)) rfl Zaa.mg Zaa.kp Zaa.b .nil pass0 (wa_cons (wv 2) (wa_cons we_int wa_nil))) (fun _ _=>rfl)) (wa_cons (wv 4) (wa_cons (we_call ZaV (hr.mono (by lia)) rfl Zah.mg Zah.kp Zah.b .nil pass0 (wa_cons (wv 0) (wa_cons (we_op op_sub (wv 1) we_int) (wa_cons (wv 2) wa_nil)))) wa_nil))))))) wss_nil)
   (wss_cons (ws_set (i:=5) ZaE.nd rfl (Or.inl rfl) (we_ix (ix_U hu1) (we_lst (wa_cons (we_dt rfl) (wa_cons (we_dt rfl) (wa_cons (we_dt rfl) wa_nil)))) (we_call Zac (hr.mono (by lia)) rfl Zaa.mg Zaa.kp Zaa.b .nil pass0 (wa_cons (wv 2) (wa_cons we_int wa_nil))) (fun _ _=>rfl)))
   (wss_cons (ws_set (i:=4) ZaE.nd rfl (Or.inl rfl) (we_call Zat (hr.mono (by lia)) rfl Zad.mg Zad.kp Zad.b .nil pass0 (wa_cons (wv 5) (wa_cons (wv 0) (wa_cons we_int (wa_cons (wv 2) wa_nil))))))
   (wss_cons (ws_if (wt_pw (ww_and (wt_cmpR (op_eqU hu) (wv 5) (we_dt rfl) (nomark _)) (ww_and1 (wt_cmpR (op_eqU hu) (we_call Zac (hr.mono (by lia)) rfl Zaa.mg Zaa.kp Zaa.b .nil pass0 (wa_cons (wv 2) (wa_cons we_int wa_nil))) we_int (nomark _))))) (wss_one (ws_set (i:=4) ZaE.nd rfl (Or.inl rfl) (we_ix (ix_U hu1) (we_lst (wa_cons (we_tup (wa_cons we_str (wa_cons we_str (wa_cons (we_tup (wa_cons we_str (wa_cons (we_tup (wa_cons (we_tup (wa_cons we_str (wa_cons (wv 4) wa_nil))) (wa_cons (we_dt rfl) wa_nil))) wa_nil))) wa_nil)))) (wa_cons (we_tup (wa_cons we_str (wa_cons we_str (wa_cons (we_dt rfl) (wa_cons (wv 4) wa_nil))))) wa_nil))) (we_op op_mod (wv 3) we_int) (fun _ _=>rfl)))) wss_nil)
   (wss_cons (ws_set (i:=6) ZaE.nd rfl (Or.inl rfl) (we_ix (ix_U hu1) (we_lst (wa_consts rfl)) (we_callTy call_int1 rfl T.z_int bt_int (wa_cons (we_and (we_cmpR (op_eqU hu) (wv 5) (we_dt rfl) (nomark _)) (we_one (we_cmpR op_gt (wv 3) we_int (nomark _)))) wa_nil)) (fun _ _=>rfl)))
   (wss_one (ws_ret (we_tup (wa_cons (wv 6) (wa_cons (wv 4) (wa_cons (we_call Zat (hr.mono (by lia)) rfl Zad.mg Zad.kp Zad.b .nil pass0 (wa_cons (wv 5) (wa_cons (wv 0) (wa_cons we_int (wa_cons (wv 2) wa_nil))))) wa_nil))))))))))))),?_⟩
 refine seqH fun N1 to1=>⟨_,rfl,p,6,rfl,inn.sd,by decide,by decide,fun way H1 ex1 sd1 w0 w1=>to1 _ _ ?_⟩
 have inn1:=inn.ex ex1 sd1
 refine seqH fun N2 to2=>?_
 have go2:N2 [some (.ref a),some (.int (c:Int)),some (.ref p),some (.int way),none,none,none] H1:=by
  refine to2 _ _ ?_
  refine seqH fun N3 to3=>?_
  have go3:N3 [some (.ref a),some (.int (c:Int)),some (.ref p),some (.int way),none,none,none] H1:=by
   refine to3 _ _ ?_
   refine seqH fun N4 to4=>fun v1 Ha sa ia=>?_
   intro v2 Hb sb ib
   intro v3 Hc sc3 ic
   have sA:=sa.trans (sb.trans sc3)
   refine⟨(by show 3<=sizeLine;decide),fun lk hlk=>⟨_,rfl,p,3,rfl,sd_new (sd_same sd1 sA) hlk,by decide,by decide,fun r H2 ex2 sd2 r0 r1=>?_⟩⟩
   have hl2:=ex2 _ _ (sd_ne (sd_same sd1 sA) hlk) upd_same
   obtain⟨x,hx,hm⟩:=atI_mem (xs:=[v1,v2,v3]) r0 r1
   have tC:Tups Hc H2:=fun b zs z=>(sd_tups (sd_new (sd_same sd1 sA) hlk) ex2) b zs (same_new hlk _ _ _ z)
   obtain⟨κ,kk,ik⟩:∃ κ:Kd,(κ=.num\/κ=.word)/\IsDt H2 (kdD κ) x:=by
    simp only[List.mem_cons,List.not_mem_nil,or_false]at hm
    rcases hm with rfl | rfl | rfl
    ·exact⟨.num,.inl rfl,by rw[kdD];exact IsDt.mono tC (IsDt.mono (sb.trans sc3).tups ia)⟩
    ·exact⟨.num,.inl rfl,by rw[kdD];exact IsDt.mono tC (IsDt.mono sc3.tups ib)⟩
    ·exact⟨.word,.inr rfl,by rw[kdD];exact IsDt.mono tC ic⟩
   have kb0:KB 0 κ:=by rcases kk with rfl | rfl <;> simp only[KB]
   have ex12:Ex p H1 H2:=fun b o nb z=>ex2 b o nb (same_new hlk _ _ _ (sA _ _ z))
   have inn2:=inn1.ex ex12 sd2
   refine ixl (SqL.of hl2) hx (to4 _ _ ?_)
   have rs:RS 0 κ n 2 2:=.low 0 (Int.le_refl _) kb0 (by decide) (by lia) rfl rfl
   refine seqH fun N5 to5=>⟨_,rfl,_,rfl,_,rfl,x,a,p,0,κ,sc,2,2,rfl,ik,inn2,rs,fun q u H3 ex3 sd3 i3 g3 z3=>to5 _ _ ?_⟩
   have ik3:=IsDt.mono (sd_tups sd2 ex3) ik
   have inn3:=inn2.ex ex3 sd3
   have exT:Ex p H H3:=ex1.trans (ex12.trans ex3)
   refine seqH fun N6 to6=>?_
   have go6:∀ (q:Tr) (u:V) (H4:Hp),Ex p H3 H4->Sd H4 p->IsQ H4 q u->QG 4 q->nq q<=5->N6 [some (.ref a),some (.int (c:Int)),some (.ref p),some (.int way),some u,some x,none] H4:=by
    intro q u H4 ex4 sd4 i4 g4 z4
    refine to6 _ _ ?_
    have ik4:=IsDt.mono (sd_tups sd3 ex4) ik3
    refine seqH fun N7 to7=>⟨(by show 2<=sizeLine;decide),fun lw hlw=>?_⟩
    have go7:∀ (wd:Str) (H5:Hp),(wd=Str.ofString "same"\/wd=Str.ofString "under")->Ex p H4 H5->Sd H5 p->N7 [some (.ref a),some (.int (c:Int)),some (.ref p),some (.int way),some u,some x,some (.str wd)] H5:=by
     intro wd H5 hw ex5 sd5
     refine to7 _ _ ?_
     have t5:=sd_tups sd4 ex5
     refine⟨_,rfl,_,rfl,_,rfl,_,rfl,_,rfl,x,a,p,0,κ,sc,2,2,rfl,IsDt.mono t5 ik4,(inn3.ex ex4 sd4).ex ex5 sd5,rs,fun q2 u2 H6 ex6 sd6 i6 g6 z6=>⟨(by show 3<=sizeLine;decide),fun t ht=>?_⟩⟩
     have hw2:wd∈W2:=two_W2 (by rcases hw with h | h;exact .inl h;exact .inr (.inl h))
     refine fin _ _ _ (exT.trans (ex4.trans (ex5.trans (ex6.trans (ex_new ht))))) (sd_new sd6 ht) (q_two ht (IsDt.mono (sd_tups sd5 ex6) (IsDt.mono t5 i4)) i6) ((QG.two hw2 g4 (g6.to (by decide))).to (by lia)) ?_
     rw[nq,if_neg (w2_ok hw2).2.2,nqL,nqL,nqL]
     lia
    have sdW:=sd_new (o:=.lst [V.str (Str.ofString "same"),V.str (Str.ofString "under")]) sd4 hlw
    have hlW:(upd H4 lw (.lst [V.str (Str.ofString "same"),V.str (Str.ofString "under")])) lw=some (.lst [V.str (Str.ofString "same"),V.str (Str.ofString "under")]):=upd_same
    have exW:Ex p H4 (upd H4 lw (.lst [V.str (Str.ofString "same"),V.str (Str.ofString "under")])):=ex_new hlw
    have ikW:=IsDt.mono (same_new hlw (.lst [V.str (Str.ofString "same"),V.str (Str.ofString "under")])).tups ik4
    generalize upd H4 lw (.lst [V.str (Str.ofString "same"),V.str (Str.ofString "under")])=HW at sdW hlW exW ikW ⊢
    refine⟨_,rfl,fun vd Hd sdd idd=>.inr ⟨kdD κ,_,IsDt.mono sdd.tups ikW,idd,Nat.le_trans (dep_kdD kb0) (by decide),_,rfl,?_⟩⟩
    have exD:Ex p H4 Hd:=exW.trans fun b o _ z=>sdd b o z
    have sdD:=sd_same sdW sdd
    have hlD:=sdd _ _ hlW
    have fin7:∀ b:Bool,atI [V.str (Str.ofString "same"),V.str (Str.ofString "under")] (if b=true then 1 else 0)=some (.str (if b=true then Str.ofString "under" else Str.ofString "same")):=fun b=>by cases b <;> rfl
    refine ite2 (fun e1=>?_) (fun e1=>.inr ⟨_,rfl,ixl (SqL.of hlD) (fin7 false) (go7 _ _ (.inl rfl) exD sdD)⟩)
    refine⟨_,rfl,_,_,rfl,rfl,.inr ⟨_,rfl,ixl (SqL.of hlD) (fin7 _) (go7 _ _ ?_ exD sdD)⟩⟩
    split
    ·exact .inr rfl
    ·exact .inl rfl
   refine⟨_,rfl,fun vd Hd sdd idd=>.inr ⟨kdD κ,_,IsDt.mono sdd.tups ik3,idd,Nat.le_trans (dep_kdD kb0) (by decide),_,rfl,?_⟩⟩
   have exD:Ex p H3 Hd:=fun b o _ z=>sdd b o z
   have sdD:=sd_same sd3 sdd
   refine ite2 (fun e1=>?_) (fun e1=>go6 q u Hd exD sdD (IsDt.mono sdd.tups i3) (g3.to (by decide)) (by lia))
   refine⟨_,rfl,p,8,rfl,sdD,by decide,by decide,fun r8 H8 ex8 sd8 r80 r81=>.inl ⟨rfl,_,rfl,?_⟩⟩
   have e38:Ex p H3 H8:=exD.trans ex8
   have i8:=IsDt.mono (sd_tups sd3 e38) i3
   refine ite2 (fun e2=>?_) (fun e2=>go6 q u H8 e38 sd8 i8 (g3.to (by decide)) (by lia))
   refine⟨_,rfl,(by show 2<=sizeLine;decide),fun t1 h1=>?_⟩
   intro vt Ht st it
   refine⟨(by show 2<=sizeLine;decide),fun t2 h2=>⟨(by show 2<=sizeLine;decide),fun t3 h3=>⟨(by show 3<=sizeLine;decide),fun t4 h4=>?_⟩⟩⟩
   intro vu Hu su iu'
   refine⟨_,rfl,(by show 4<=sizeLine;decide),fun t5 h5=>⟨(by show 2<=sizeLine;decide),fun lq hlq=>?_⟩⟩
   have d1:IsDt (upd H8 t1 (.tup [.str "a",u])) (.tup [.str "a",tdat q]) (.ref t1):=isDt_new h1 (.cons (isDt_str _) (.one i8))
   have s1:=same_new h1 (.tup [.str "a",u])
   have dR:=isDt_new h2 (.cons (IsDt.mono st.tups d1) (.one it))
   have s2:=same_new h2 (.tup [.ref t1,vt])
   have s3':=same_new h3 (.tup [.str "row",.ref t2])
   have s4:=same_new h4 (.tup [.str "at",.str "a",.ref t3])
   have s5:=same_new h5 (.tup [.str "let",.str "w",vu,u])
   have s6:=same_new hlq (.lst [.ref t4,.ref t5])
   have qR:IsQ (upd (upd Ht t2 (.tup [.ref t1,vt])) t3 (.tup [.str "row",.ref t2])) (.row [(Str.ofString "a",q),(Str.ofString "b",.node (Str.ofString "table") [.txt (Str.ofString "t")] [])]) (.ref t3):=by
    unfold IsQ
    rw[tdat,tdatR,tdatR,tdatR,tdat,tdatL]
    exact isDt_new h3 (.cons (isDt_str "row") (.one dR))
   have qA:=q_at (s:=Str.ofString "a") h4 qR
   have sAll:Same H8 (upd (upd Hu t5 (.tup [.str "let",.str "w",vu,u])) lq (.lst [.ref t4,.ref t5])):=s1.trans (st.trans (s2.trans (s3'.trans (s4.trans (su.trans (s5.trans s6))))))
   have i5u:=IsDt.mono (s1.trans (st.trans (s2.trans (s3'.trans (s4.trans su))))).tups i8
   have qL:IsQ (upd Hu t5 (.tup [.str "let",.str "w",vu,u])) (.node (Str.ofString "let") [.txt (Str.ofString "w")] [.node (Str.ofString "table") [.txt (Str.ofString "u")] [],q]) (.ref t5):=q_bind h5 (by unfold IsQ;rw[tdat,tdatL];exact iu') i5u
   have m0:=Int.emod_nonneg way (show (2:Int)≠0 by decide)
   have m1:=Int.emod_lt_of_pos way (show (0:Int)<2 by decide)
   refine⟨_,rfl,_,_,rfl,rfl,(by show (0:Int)<2;decide),?_⟩
   obtain⟨y,hy,hym⟩:=atI_mem (xs:=[V.ref t4,V.ref t5]) m0 m1
   refine ixl (SqL.of upd_same) hy ?_
   have eF:Ex p H3 (upd (upd Hu t5 (.tup [.str "let",.str "w",vu,u])) lq (.lst [.ref t4,.ref t5])):=e38.trans fun b o _ z=>sAll b o z
   have sdF:=sd_same sd8 sAll
   simp only[List.mem_cons,List.not_mem_nil,or_false]at hym
   rcases hym with rfl | rfl
   ·refine go6 _ _ _ eF sdF (IsQ.mono (su.trans (s5.trans s6)).tups qA) ((QG.att (QG.row (d:=2) (by show 2<=5;decide) (fun r hr=>?_) fun r hr=>?_)).to (by decide)) ?_
    ·simp only[List.mem_cons,List.not_mem_nil,or_false]at hr
     rcases hr with rfl | rfl
     ·show Str.ofString "a"∈FN;decide +kernel
     ·show Str.ofString "b"∈FN;decide +kernel
    ·simp only[List.mem_cons,List.not_mem_nil,or_false]at hr
     rcases hr with rfl | rfl
     ·exact g3
     ·exact .table (by decide +kernel)
    ·rw[nq,if_neg (by decide +kernel),nqL,nqL,nq,nqR,nqR,nqR,nq,if_neg (by decide +kernel),nqL]
     show 1+(1+(nq q+_)+0)<=5
     lia
   ·refine go6 _ _ _ eF sdF (IsQ.mono s6.tups qL) ((QG.bind (.inr rfl) (.table (by decide +kernel)) g3).to (by decide)) ?_
    rw[nq,if_neg (by decide +kernel),nqL,nqL,nqL,nq,if_neg (by decide +kernel),nqL]
    lia
  refine⟨_,rfl,_,_,rfl,rfl,_,rfl,?_⟩
  refine ite2 (fun e1=>?_) (fun e1=>go3)
  have cp:0<(c:Int):=of_decide_eq_true e1
  obtain rfl:c=1:=by lia
  refine⟨_,rfl,.inl ⟨rfl,_,rfl,?_⟩⟩
  refine ite2 (fun e2=>?_) (fun e2=>go3)
  refine seqH fun N4 to4=>⟨_,rfl,_,rfl,_,_,rfl,rfl,_,rfl,a,p,0,sc,rfl,by decide,inn1,by lia,fun q1 u1 H2 ex2 sd2 i2 g2 z2=>to4 _ _ ?_⟩
  refine⟨(by show 2<=sizeLine;decide),fun lw hlw=>⟨_,rfl,p,2,rfl,sd_new sd2 hlw,by decide,by decide,fun r3 H3 ex3 sd3 r30 r31=>?_⟩⟩
  have hl3:=ex3 _ _ (sd_ne sd2 hlw) upd_same
  obtain⟨x,hx,hm⟩:=atI_mem (xs:=[V.str "and",V.str "or"]) r30 r31
  refine ixl (SqL.of hl3) hx ?_
  obtain⟨w0,rfl,hw0⟩:∃ w0:Str,x=.str w0/\w0∈W2:=by
   simp only[List.mem_cons,List.not_mem_nil,or_false]at hm
   rcases hm with rfl | rfl <;> exact⟨_,rfl,by decide +kernel⟩
  have e23:Ex p H2 H3:=(ex_new hlw).trans ex3
  refine⟨_,rfl,_,rfl,_,rfl,_,_,rfl,rfl,_,rfl,a,p,0,sc,rfl,by decide,(inn1.ex ex2 sd2).ex e23 sd3,by lia,fun q2 u2 H4 ex4 sd4 i4 g4 z4=>⟨(by show 3<=sizeLine;decide),fun t ht=>?_⟩⟩
  refine fin _ _ _ (ex1.trans (ex2.trans (e23.trans (ex4.trans (ex_new ht))))) (sd_new sd4 ht) (q_two ht (IsDt.mono (sd_tups sd3 ex4) (IsDt.mono (sd_tups sd2 e23) i2)) i4) (.two hw0 g2 g4) ?_
  rw[nq,if_neg (w2_ok hw0).2.2,nqL,nqL,nqL]
  lia
 refine⟨_,rfl,_,_,rfl,rfl,_,rfl,?_⟩
 refine ite2 (fun e1=>?_) (fun e1=>go2)
 have cp:0<(c:Int):=of_decide_eq_true e1
 obtain rfl:c=1:=by lia
 refine⟨_,rfl,.inl ⟨rfl,_,rfl,?_⟩⟩
 refine ite2 (fun e2=>?_) (fun e2=>go2)
 refine⟨_,rfl,_,rfl,_,_,rfl,rfl,_,rfl,a,p,0,sc,rfl,by decide,inn1,by lia,fun q1 u1 H2 ex2 sd2 i2 g2 z2=>⟨(by show 2<=sizeLine;decide),fun t ht=>?_⟩⟩
 have hw:Str.ofString "not"∈W1:=by decide +kernel
 refine fin _ _ _ (ex1.trans (ex2.trans (ex_new ht))) (sd_new sd2 ht) (q_one ht i2) (.one hw g2) ?_
 rw[nq,if_neg (w1_ok hw).2.2,nqL,nqL]
 lia
end
end K30
end
section
namespace K30
open PySem L2 Kn
abbrev Pr:=Tr×Kd
def prD (x:Pr):Dt:=.tup [tdat x.1,kdD (.bag x.2)]
def PrOk (xs:List Pr):Prop:=∀ x∈xs,QG 2 x.1/\nq x.1<=2/\KB 2 x.2
theorem knds_mono {H H':Hp}{q:Addr} (h:Knds H q) (e:∀ kvs,H q=some (.dK kvs)->H' q=some (.dK kvs)) (t:Tups H H'):Knds H' q:=by
 obtain⟨kvs,h1,h2,h3⟩:=h
 refine⟨kvs,e _ h1,h2,fun n hn=>?_⟩
 obtain⟨v,e1,e2⟩:=h3 n hn
 exact⟨v,e1,IsDt.mono t e2⟩
theorem knds_ex {H H':Hp}{p q:Addr} (h:Knds H q) (sd:Sd H p) (e:Ex p H H'):Knds H' q:=knds_mono h (fun kvs z=>e _ _ (fun y=>by
 obtain⟨a,f,c,m,hp⟩:=sd
 rw[y,hp]at z;cases z) z) (sd_tups sd e)
structure Ho (H0 H:Hp) (p kq li:Addr) (us:List V) (xs:List Pr) (vk:V) (κ:Kd):Prop where
 ex:Ex p H0 H
 sd:Sd H p
 kd:Knds H kq
 hl:H li=some (.lst us)
 ix:IsDts H (xs.map prD) us
 ok:PrOk xs
 nl:li≠p
 fr:H0 li=none
 vk:IsDt H (kdD (.bag κ)) vk
theorem Ho.exx {H0 H H':Hp}{p kq li:Addr}{us:List V}{xs:List Pr}{vk:V} {κ:Kd} (h:Ho H0 H p kq li us xs vk κ) (e:Ex p H H') (s:Sd H' p):Ho H0 H' p kq li us xs vk κ:=by
 have t:=sd_tups h.sd e
 exact⟨h.ex.trans e,s,knds_ex h.kd h.sd e,e _ _ h.nl h.hl,IsDts.mono t h.ix,h.ok,h.nl,h.fr,IsDt.mono t h.vk⟩
theorem Ho.app {H0 H:Hp}{p kq li:Addr}{us:List V}{xs:List Pr}{vk:V} {κ:Kd} (h:Ho H0 H p kq li us xs vk κ) {x:Pr}{u:V} (i:IsDt H (prD x) u) (g:QG 2 x.1/\nq x.1<=2/\KB 2 x.2):Ho H0 (upd H li (.lst (us++[u]))) p kq li (us++[u]) (xs++[x]) vk κ:=by
 have tt:=tups_lst (zs:=us++[u]) h.hl
 refine⟨h.ex.upd' h.fr,sd_upd h.sd h.nl,knds_mono h.kd (fun kvs z=>by rw[upd_ne (fun y=>by rw[y,h.hl]at z;cases z)];exact z) tt,upd_same,?_,fun y hy=>?_,h.nl,h.fr,IsDt.mono tt h.vk⟩
 ·rw[List.map_append];exact (IsDts.mono tt h.ix).append (.one (IsDt.mono tt i))
 ·rcases List.mem_append.mp hy with z | z
  ·exact h.ok y z
  ·rw[List.mem_singleton.mp z];exact g
theorem pr_of {H:Hp}{x:Pr}{v:V} (h:IsDt H (prD x) v):∃ t uq uk,v=.ref t/\H t=some (.tup [uq,uk])/\IsQ H x.1 uq/\IsDt H (kdD (.bag x.2)) uk:=by
 unfold prD at h
 rw[IsDt]at h
 obtain⟨a,xs,e,ha,hx⟩:=h
 rw[IsDts]at hx
 obtain⟨y,r,rfl,h1,h2⟩:=hx
 rw[IsDts]at h2
 obtain⟨z,r2,rfl,h3,h4⟩:=h2
 rw[IsDts]at h4
 subst h4
 exact⟨a,y,z,e,ha,h1,h3⟩
section
variable {P:Program}{w:World}{K:PySem.W.Frag}{mg:Str->Option Value}{base:Heap}{f f_draw f_asked f_seen f_kinds:Addr}{fd fd_draw fd_asked fd_seen fd_kinds:FuncData}
theorem ZaF:FnScope ["scope","fuel","seed","kinds","name","kind","inner","spare","other"] ["scope","fuel","seed"] (defScope (top 30)):=⟨rfl,rfl,rfl,by decide +kernel,rfl,by decide +kernel,by decide +kernel⟩
def OR (fuel:Int) (n b D:Nat):Prop:=(fuel<=0/\3<n/\b=2/\D=2)\/∃ f:Nat,fuel=f/\1<=f/\14 * f+10<n/\b=zf f/\D=3 * f+7
def spOver (n:Nat):Sp:=fun vs H Q _=>∃ (a p:Addr) (fuel:Int) (sc:Sc) (b D:Nat),vs=[.ref a,.int fuel,.ref p]/\Inn H p a sc fuel/\OR fuel n b D /\
 ∀ (q:Tr) (k:Kd) (t:Addr) (uq uk:V) (H':Hp),Ex p H H'->Sd H' p->H' t=some (.tup [uq,uk])->IsQ H' q uq->IsDt H' (kdD (.bag k)) uk->KB 2 k->QG D q->nq q<=b->Q (.ref t) H'
theorem ok_over {k n:Nat} (hk:2<=k) (T:Tx mg) (D:Df K mg "_law_over" (top 30) f fd ["scope","fuel","seed"])
  (Zab:Df K mg "_law_asked" (top 32) f_asked fd_asked ["kind","scope","fuel","seed"]) (Zam:FnOk P w K mg base CX0 k f_asked fd_asked ["kind","scope","fuel","seed"] (spAsked n))
  (Zaj:Df K mg "_law_kinds" (top 24) f_kinds fd_kinds []) (Zau:FnOk P w K mg base CX0 1 f_kinds fd_kinds [] spKinds)
  (Zak:Df K mg "_law_seen" (top 26) f_seen fd_seen ["scope"]) (ZaB:FnOk P w K mg base CX0 1 f_seen fd_seen ["scope"] spSeen)
  (Zaa:Df K mg "_law_draw" (top 16) f_draw fd_draw ["seed","most"]) (Zac:FnOk P w K mg base CX0 1 f_draw fd_draw ["seed","most"] spDraw) :
  FnOk P w K mg base CX0 (k+1) f fd ["scope","fuel","seed"] (spOver (n+1)):=by
 refine D.fn.okH (k:=k) ZaF (fun vs H Q E h=>?_) (fun cdv A outer s H vs Q E hr h=>?_)
 ·obtain⟨a,p,fuel,sc,b,D,rfl,_⟩:=h;rfl
 obtain⟨a,p,fuel,sc,b,DD,rfl,inn,ro,fin⟩:=h
 have hu:=u110 hr
 have hu0:=u0 hr
 have hu1:=hu_of hr
 refine⟨_,(wss_cons (ws_set (i:=3) ZaF.nd rfl (Or.inl rfl) (we_call0 Zau (hr.mono (by lia)) rfl Zaj.mg Zaj.kp Zaj.b .nil pass0))
   (wss_cons (ws_set (i:=4) ZaF.nd rfl (Or.inl rfl) (we_ix (ix_U hu1) (we_lst (wa_consts rfl)) (we_call Zac (hr.mono (by lia)) rfl Zaa.mg Zaa.kp Zaa.b .nil pass0 (wa_cons (wv 2) (wa_cons we_int wa_nil))) (fun _ _=>rfl)))
   (wss_cons (ws_set (i:=5) ZaF.nd rfl (Or.inl rfl) (we_tup (wa_cons we_str (wa_cons (we_ix (ix_U hu1) (wv 3) (wv 4) (fun _ _=>rfl)) wa_nil))))
   (wss_cons (ws_lc (j:=6) (hN:=ZaF.nd) (hj:=rfl) (hy:=(Or.inl rfl)) (Nt:=["spare","other"]) (fr:=[]) (LcOk.of (sc:=defScope (top 30)) (N:=["scope","fuel","seed","kinds","name","kind","inner","spare","other"]) rfl rfl (by decide +kernel)) rfl (wi_U (we_call ZaB (hr.mono (by lia)) rfl Zak.mg Zak.kp Zak.b .nil pass0 (wa_cons (wv 0) wa_nil))) (fun z=>wg_tup rfl (wgs_cons (wg_name (i:=0) (by show (["spare","other"]:List Str).Nodup;decide +kernel) rfl (Or.inl rfl) (.inr rfl)) (wgs_cons (wg_name (i:=1) (by show (["spare","other"]:List Str).Nodup;decide +kernel) rfl (Or.inl rfl) (.inr rfl)) wgs_nil))) (fun z=>tgt_two (by decide) (by decide)) (fun z=>wif_one (wt_cmpR (op_eqU hu) (we_ix (ix_U hu1) (wv 1) we_int (fun _ _=>rfl)) we_str (nomark _))) (fun z=>(we_tup (wa_cons (we_tup (wa_cons we_str (wa_cons (wv 0) wa_nil))) (wa_cons (wv 1) wa_nil)))))
   (wss_cons (ws_for PassesOwn.never rfl (wi_U (we_call ZaB (hr.mono (by lia)) rfl Zak.mg Zak.kp Zak.b .nil pass0 (wa_cons (wv 0) wa_nil))) (wg_tup rfl (wgs_cons (wg_name (i:=7) ZaF.nd rfl (Or.inl rfl)) (wgs_cons (wg_name (i:=8) ZaF.nd rfl (Or.inl rfl)) wgs_nil))) (wss_one (ws_if (wt_cmpR (op_eqU hu) (wv 8) (we_ix (ix_U hu1) (wv 3) we_str (fun _ _=>rfl)) (nomark _)) (wss_one (ws_expr (we_bm PySem.F.plainAttrs_list PySem.F.slot_list_append PySem.F.type_list_append mt_append (wv 6) (wa_cons (we_tup (wa_cons (we_tup (wa_cons we_str (wa_cons we_str (wa_cons (we_tup (wa_cons we_str (wa_cons (wv 7) wa_nil))) wa_nil)))) (wa_cons (we_dt rfl) wa_nil))) wa_nil)))) wss_nil)))
   (wss_cons (ws_if (wt_pw (ww_and (wt_cmpR (op_neU hu) (wv 6) (we_lst wa_nil) (nomark _)) (ww_and1 (wt_cmpR (op_eqU hu) (we_call Zac (hr.mono (by lia)) rfl Zaa.mg Zaa.kp Zaa.b .nil pass0 (wa_cons (wv 2) (wa_cons we_int wa_nil))) we_int (nomark _))))) (wss_one (ws_ret (we_ix (ix_U hu1) (wv 6) (we_call Zac (hr.mono (by lia)) rfl Zaa.mg Zaa.kp Zaa.b .nil pass0 (wa_cons (wv 2) (wa_cons (we_callB call_lenU rfl T.z_len bt_len (wa_cons (wv 6) wa_nil)) wa_nil))) (fun _ _=>rfl)))) wss_nil)
   (wss_cons (ws_if (wt_pw (ww_and (wt_cmpR op_gt (wv 1) we_int (nomark _)) (ww_and1 (wt_cmpR (op_eqU hu) (we_call Zac (hr.mono (by lia)) rfl Zaa.mg Zaa.kp Zaa.b .nil pass0 (wa_cons (wv 2) (wa_cons we_int wa_nil))) we_int (nomark _))))) (wss_one (ws_ret (we_tup (wa_cons (we_call Zam (hr.mono (by lia)) rfl Zab.mg Zab.kp Zab.b .nil pass0 (wa_cons (wv 5) (wa_cons (wv 0) (wa_cons (we_op op_sub (wv 1) we_int) (wa_cons (wv 2) wa_nil))))) (wa_cons (wv 5) wa_nil))))) wss_nil)
   (wss_one (ws_ret (we_tup (wa_cons (we_tup (wa_cons we_str (wa_cons (wv 4) wa_nil))) (wa_cons (wv 5) wa_nil)))))))))))),?_⟩
 have b2:2<=b/\2<=DD:=by
  rcases ro with ⟨_,_,h1,h2⟩ | ⟨f,_,h0,_,h1,h2⟩
  ·lia
  ·have:=zf4 f;lia
 refine seqH fun N1 to1=>⟨rfl,fun kq H1 s1 hkq kd1=>to1 _ _ ?_⟩
 have ex1:Ex p H H1:=fun b o _ z=>s1 b o z
 have sd1:=sd_same inn.sd s1
 refine seqH fun N2 to2=>⟨(by show 5<=sizeLine;decide),fun l0 hl0=>⟨_,rfl,p,5,rfl,sd_new sd1 hl0,by decide,by decide,fun r H2 ex2 sd2 r0 r1=>?_⟩⟩
 have hl2:=ex2 _ _ (sd_ne sd1 hl0) upd_same
 obtain⟨x,hx,hm⟩:=atI_mem (xs:=[V.str "r",V.str "s",V.str "t",V.str "u",V.str "v"]) r0 r1
 refine ixl (SqL.of hl2) hx (to2 _ _ ?_)
 obtain⟨nm,rfl,hnm⟩:∃ nm:Str,x=.str nm/\nm∈NM:=by
  simp only[List.mem_cons,List.not_mem_nil,or_false]at hm
  rcases hm with rfl | rfl | rfl | rfl | rfl <;> exact⟨_,rfl,by decide +kernel⟩
 have e12:Ex p H1 H2:=(ex_new hl0).trans ex2
 have kd2:=knds_ex kd1 sd1 e12
 have exA:=ex1.trans e12
 clear hl2 hx hm kd1
 obtain⟨kvs,hq2,_,hv2⟩:=id kd2
 obtain⟨vn,ev,ivn⟩:=hv2 nm hnm
 refine seqH fun N3 to3=>⟨_,rfl,_,rfl,.inr (.inr (.inr ⟨kq,vn,rfl,by rw[<- ev];exact DGet.k (k:=Sum.inr nm) hq2,(by show 2<=sizeLine;decide),fun tk htk=>to3 _ _ ?_⟩))⟩
 have sk:=same_new htk (.tup [.str "bag",vn])
 have ivk:IsDt (upd H2 tk (.tup [.str "bag",vn])) (kdD (.bag (kOf nm))) (.ref tk):=by rw[kdD];exact isDt_new htk (.cons (isDt_str _) (.one ivn))
 have exB:Ex p H (upd H2 tk (.tup [.str "bag",vn])):=exA.trans (ex_new htk)
 have sdB:=sd_same sd2 sk
 have kdB:=knds_mono kd2 (fun kvs z=>sk _ _ z) sk.tups
 generalize upd H2 tk (.tup [.str "bag",vn])=HB at ivk exB sdB kdB ⊢
 clear hq2 hv2 ev ivn sk htk kd2
 have innB:=inn.ex exB sdB
 refine seqH fun N4 to4=>lcset (.inl ⟨_,rfl,a,sc,rfl,innB.at_,fun sl ps H3 s3 hsl hps sub=>?_⟩)
 obtain⟨bs,hb,ib⟩:=hps.ex
 have lb:bs.length=ps.length:=by rw[ib.length,List.length_map]
 have l40:=hps.ln
 refine⟨sl,rfl,⟨bs,SqL.of hb⟩,?_⟩
 refine⟨fun i m zs H4=>m+i=bs.length/\Same H3 H4/\∃ xs:List Pr,IsDts H4 (xs.map prD) zs/\PrOk xs/\xs.length<=i,⟨bs.length,rfl,.refl _,[],.nil,(fun x hx=>(nomatch hx)),Nat.le_refl _⟩,?_⟩
 rintro i m zs H4 ⟨hm,s4,xs,iz,ok4,lx⟩
 have lz:zs.length=xs.length:=by rw[iz.length,List.length_map]
 refine⟨line1 (by lia),?_⟩
 by_cases hi:i<bs.length
 ·refine .inr ⟨⟨_,_,SqL.of (s4 _ _ hb),List.getElem?_eq_getElem hi⟩,fun z y H5 hy=>?_⟩
  obtain⟨rfl,hx⟩:=hy
  have e5:=hx _ (SqL.of (s4 _ _ hb))
  rw[List.getElem?_eq_getElem hi]at e5
  cases e5
  obtain⟨pp,c,u,hp,e,hc,ik⟩:=sc_item ib hi
  have kp:=hps.kb pp (List.mem_of_getElem? hp)
  rw[e]
  refine⟨c,_,rfl,SqT.of (s4 _ _ hc),rfl,_,_,rfl,_,_,rfl,rfl,?_⟩
  have ik4:=IsDt.mono s4.tups ik
  obtain⟨c2,xs2,rfl,hc2,h02⟩:=k_head ik4
  refine⟨_,rfl,.inr (.inl ⟨c2,_,_,_,rfl,rfl,SqT.of hc2,h02,.inl ⟨rfl,_,rfl,?_⟩⟩)⟩
  cases hk2:pp.2 with
  | num=>exact iteN (by show ¬(decide (V.str (Str.ofString "num")=V.str (Str.ofString "bag"))=true);decide +kernel) ⟨m-1,by lia,by lia,s4,xs,iz,ok4,by lia⟩
  | word=>exact iteN (by show ¬(decide (V.str (Str.ofString "word")=V.str (Str.ofString "bag"))=true);decide +kernel) ⟨m-1,by lia,by lia,s4,xs,iz,ok4,by lia⟩
  | row fs=>exact iteN (by show ¬(decide (V.str (Str.ofString "row")=V.str (Str.ofString "bag"))=true);decide +kernel) ⟨m-1,by lia,by lia,s4,xs,iz,ok4,by lia⟩
  | bag kk=>
   refine iteP (by show decide (V.str (Str.ofString "bag")=V.str (Str.ofString "bag"))=true;decide +kernel) ?_
   rw[hk2]at ik4 kp
   refine⟨_,rfl,(by show 2<=sizeLine;decide),fun t1 h1=>⟨_,rfl,(by show 2<=sizeLine;decide),fun t2 h2=>?_⟩⟩
   have sA:=(same_new h1 (.tup [.str "var",.str pp.1])).trans (same_new h2 (.tup [.ref t1,.ref c2]))
   refine⟨m-1,by lia,by lia,s4.trans sA,xs++[(.node (Str.ofString "var") [.txt pp.1] [],kk)],?_,fun x hx=>?_,by rw[List.length_append];show _+1<=_;lia⟩
   ·rw[List.map_append]
    refine (IsDts.mono sA.tups iz).append (.one (isDt_new h2 (.cons (q_var h1) (.one (IsDt.mono (same_new h1 _).tups ik4)))))
   ·rcases List.mem_append.mp hx with z | z
    ·exact ok4 x z
    ·rw[List.mem_singleton.mp z]
     refine⟨.var,by rw[nq,if_neg (by decide +kernel),nqL];decide,?_⟩
     simp only[KB]at kp
     exact kp.up
 refine .inl ⟨⟨_,SqL.of (s4 _ _ hb),by lia⟩,fun li hli=>to4 _ _ ?_⟩
 have sL:=s3.trans (s4.trans (same_new hli (.lst zs)))
 have O1:Ho H (upd H4 li (.lst zs)) p kq li zs xs (.ref tk) (kOf nm):=by
  refine⟨exB.trans fun b o _ z=>sL b o z,sd_same sdB sL,knds_mono kdB (fun kvs z=>sL _ _ z) sL.tups,upd_same,IsDts.mono (same_new hli _).tups iz,ok4,sd_ne (sd_same sdB (s3.trans s4)) hli,?_,IsDt.mono sL.tups ivk⟩
  cases e:H li with
  | none=>rfl
  | some o=>rw[s4 _ _ (s3 _ _ (exB _ _ (sd_ne (sd_same sdB (s3.trans s4)) hli) e))]at hli;cases hli
 generalize upd H4 li (.lst zs)=H5 at O1 ⊢
 have lxs:xs.length<=40:=by lia
 clear iz ok4 hli sL hm s4 lz s3 hsl hps sub hb ib l40
 clear lx lb hi
 refine seqH fun N5 to5=>.inl ⟨_,rfl,a,sc,rfl,(inn.ex O1.ex O1.sd).at_,fun sl ps H6 s6 hsl hps sub=>?_⟩
 obtain⟨bs,hb,ib⟩:=hps.ex
 have l40:=hps.ln
 have lb:bs.length=ps.length:=by rw[ib.length,List.length_map]
 have O2:=O1.exx (fun b o _ z=>s6 b o z) (sd_same O1.sd s6)
 have nls:li≠sl:=fun z=>by rw[<- z,O1.hl]at hsl;cases hsl
 have nsp:sl≠p:=sd_ne O1.sd hsl
 refine for_list (b:=sl) (xs:=bs) (fun i σ H'=>∃ (o7 o8:Option V) (us:List V) (xs:List Pr),σ=[some (.ref a),some (.int fuel),some (.ref p),some (.ref kq),some (.str nm),some (.ref tk),some (.ref li),o7,o8]/\Ho H H' p kq li us xs (.ref tk) (kOf nm)/\H' sl=some (.lst bs)/\IsDts H' (ps.map scD) bs/\xs.length<=40+i)
  ⟨none,none,zs,xs,rfl,O2,hb,ib,lxs⟩ ?stay ?turn ?done
 case stay=>rintro i σ H' ⟨o7,o8,us,xs,rfl,O,h,_⟩;exact h
 case turn=>
  clear O1 O2 hb ib lxs
  rintro E2 i hi σ H' ⟨o7,o8,us,xs,rfl,O,hb,ib,lx⟩ nx rt
  obtain⟨pp,c,u,hp,e,hc,ik⟩:=sc_item ib hi
  have kp:=hps.kb pp (List.mem_of_getElem? hp)
  have lus:us.length=xs.length:=by rw[O.ix.length,List.length_map]
  rw[e]
  refine⟨c,_,rfl,SqT.of hc,rfl,_,_,rfl,_,_,rfl,rfl,?_⟩
  obtain⟨kvs,hq2,_,hv2⟩:=id O.kd
  obtain⟨vu,ev,ivu⟩:=hv2 (Str.ofString "u") (by decide +kernel)
  refine⟨_,rfl,_,rfl,.inr (.inr (.inr ⟨kq,vu,rfl,by rw[<- ev];exact DGet.k (k:=Sum.inr (Str.ofString "u")) hq2,.inr ⟨kdD pp.2,_,ik,ivu,Nat.le_trans (dep_kdD kp) (by decide),_,rfl,?_⟩⟩))⟩
  refine ite2 (fun e1=>?_) (fun e1=>nx _ _ ⟨_,_,us,xs,rfl,O,hb,ib,by lia⟩)
  refine⟨_,rfl,.inl ⟨rfl,_,SqL.of O.hl⟩,_,rfl,(by show 2<=sizeLine;decide),fun t1 h1=>⟨(by show 3<=sizeLine;decide),fun t2 h2=>?_⟩⟩
  intro vd Hd sdd idd
  refine⟨(by show 2<=sizeLine;decide),fun t3 h3=>?_⟩
  have sA:=(same_new h1 (.tup [.str "var",.str pp.1])).trans ((same_new h2 (.tup [.str "at",.str "t",.ref t1])).trans (sdd.trans (same_new h3 (.tup [.ref t2,vd]))))
  have O':=O.exx (fun b o _ z=>sA b o z) (sd_same O.sd sA)
  have iP:IsDt (upd Hd t3 (.tup [.ref t2,vd])) (prD (.node (Str.ofString "at") [.txt (Str.ofString "t")] [.node (Str.ofString "var") [.txt pp.1] []],.num)) (.ref t3):=by
   unfold prD
   refine isDt_new h3 (.cons (IsDt.mono sdd.tups (q_at h2 (q_var h1))) (.one ?_))
   rw[kdD,kdD];exact idd
  refine⟨li,us,_,rfl,rfl,O'.hl,line1 (by lia),nx _ _ ⟨_,_,_,_,rfl,O'.app iP ⟨.att .var,by rw[nq,if_neg (by decide +kernel),nqL,nqL,nq,if_neg (by decide +kernel),nqL];decide,by simp only[KB]⟩,?_,IsDts.mono (tups_lst O'.hl) (IsDts.mono sA.tups ib),by rw[List.length_append];show _+1<=_;lia⟩⟩
  rw[upd_ne (Ne.symm nls)];exact sA _ _ hb
 case done=>
  clear O1 O2 hb ib lxs
  rintro σ H' ⟨o7,o8,us,xs,rfl,O,_,_,lx⟩
  refine to5 _ _ ?_
  have lus:us.length=xs.length:=by rw[O.ix.length,List.length_map]
  refine seqH fun N6 to6=>?_
  have go6:∀ H7,Ho H H7 p kq li us xs (.ref tk) (kOf nm)->N6 [some (.ref a),some (.int fuel),some (.ref p),some (.ref kq),some (.str nm),some (.ref tk),some (.ref li),o7,o8] H7:=by
   intro H7 O7
   refine to6 _ _ ?_
   refine seqH fun N7 to7=>?_
   have go7:∀ H8,Ho H H8 p kq li us xs (.ref tk) (kOf nm)->N7 [some (.ref a),some (.int fuel),some (.ref p),some (.ref kq),some (.str nm),some (.ref tk),some (.ref li),o7,o8] H8:=by
    intro H8 O8
    refine to7 _ _ ?_
    refine⟨_,rfl,(by show 2<=sizeLine;decide),fun t1 h1=>⟨_,rfl,(by show 2<=sizeLine;decide),fun t2 h2=>?_⟩⟩
    have s1:=same_new h1 (.tup [.str "table",.str nm])
    have s2:=same_new h2 (.tup [.ref t1,.ref tk])
    refine fin _ (kOf nm) t2 _ _ _ (O8.ex.trans fun b o _ z=>(s1.trans s2) b o z) (sd_same O8.sd (s1.trans s2)) upd_same (IsQ.mono s2.tups (q_table h1)) (IsDt.mono (s1.trans s2).tups O8.vk) (kb_of hnm) (.table hnm) ?_
    rw[nq,if_neg (by decide +kernel),nqL]
    lia
   refine⟨_,rfl,_,_,rfl,rfl,_,rfl,?_⟩
   refine ite2 (fun e1=>?_) (fun e1=>go7 H7 O7)
   have fpos:0<fuel:=of_decide_eq_true e1
   refine⟨_,rfl,p,4,rfl,O7.sd,by decide,by decide,fun r4 H8 ex8 sd8 r40 r41=>.inl ⟨rfl,_,rfl,?_⟩⟩
   have O8:=O7.exx ex8 sd8
   refine ite2 (fun e2=>?_) (fun e2=>go7 H8 O8)
   obtain⟨f,hf,h1,hn,hb,hD⟩:∃ f:Nat,fuel=f/\1<=f/\14 * f+10<n+1/\b=zf f/\DD=3 * f+7:=by
    rcases ro with ⟨h0,_⟩ | h
    ·lia
    ·exact h
   obtain⟨b',D',ra,hb',hD'⟩:=ra_down (n:=n) (κ:=.bag (kOf nm)) hf h1 (by lia) (by simp only[KB];exact kb_of hnm)
   have zs':=zf_s h1
   refine⟨_,rfl,_,rfl,_,rfl,_,_,rfl,rfl,_,rfl,_,a,p,fuel-1,_,sc,b',D',rfl,O8.vk,(inn.ex O8.ex O8.sd).less (by lia),ra,fun q u H9 ex9 sd9 i9 g9 z9=>⟨_,rfl,(by show 2<=sizeLine;decide),fun t ht=>?_⟩⟩
   have O9:=O8.exx ex9 sd9
   have st:=same_new ht (.tup [u,.ref tk])
   exact fin _ (kOf nm) t _ _ _ (O9.ex.trans fun b o _ z=>st b o z) (sd_same O9.sd st) upd_same (IsDt.mono st.tups i9) (IsDt.mono st.tups O9.vk) (kb_of hnm) (g9.to (by lia)) (by lia)
  refine⟨_,rfl,(by show 0<=sizeLine;decide),fun e he=>.inr (.inr ⟨li,e,_,rfl,rfl,same_new he _ _ _ O.hl,upd_same,_,rfl,?_⟩)⟩
  have sE:=same_new he (.lst [])
  have OE:=O.exx (fun b o _ z=>sE b o z) (sd_same O.sd sE)
  refine ite2 (fun e1=>?_) (fun e1=>go6 _ OE)
  refine⟨_,rfl,p,3,rfl,OE.sd,by decide,by decide,fun r3 H7 ex7 sd7 r30 r31=>.inl ⟨rfl,_,rfl,?_⟩⟩
  have O7:=OE.exx ex7 sd7
  refine ite2 (fun e2=>?_) (fun e2=>go6 _ O7)
  have ne:us≠[]:=by simpa using e1
  have pos:0<us.length:=List.length_pos_iff.mpr ne
  refine⟨_,rfl,_,rfl,_,rfl,.inl ⟨li,_,rfl,.inl (SqL.of O7.hl),p,_,rfl,O7.sd,by lia,by lia,fun r8 H8 ex8 sd8 a0 a1=>?_⟩⟩
  have O8:=O7.exx ex8 sd8
  obtain⟨x,hx,hm⟩:=atI_mem (xs:=us) a0 a1
  refine ixl (SqL.of O8.hl) hx ?_
  obtain⟨j,hj,rfl⟩:=List.getElem_of_mem hm
  obtain⟨v',hv',d⟩:=O8.ix.get (i:=j) (d:=prD xs[j]) (by rw[List.getElem?_map,List.getElem?_eq_getElem (by lia)];rfl)
  rw[List.getElem?_eq_getElem hj]at hv'
  cases hv'
  obtain⟨t,uq,uk,e3,ht,iq,ik⟩:=pr_of d
  obtain⟨g,z,kb⟩:=O8.ok xs[j] (List.getElem_mem (by lia))
  rw[e3]
  exact fin _ _ t uq uk H8 O8.ex O8.sd ht iq ik kb (g.to (by lia)) (by lia)
end
end K30
end
section
namespace K30
open PySem L2 Kn
theorem ra_le {fuel g:Int}{f n:Nat} {κ:Kd} (hf:fuel=f) (h1:1<=f) (hn:14 * f<=n) (kb:KB 3 κ) (hg:g<=fuel-1):∃ b D,RA g κ n b D/\b<=zf (f-1)/\D<=3 * f+6:=by
 unfold RA
 by_cases z:g<=0
 ·exact⟨zz 3,_,.low 3 z kb (Nat.le_refl _) (by split <;> lia) rfl rfl,Nat.le_trans (zz3 (Nat.le_refl _)) (zf4 _),by split <;> lia⟩
 ·obtain⟨j,rfl⟩:∃ j:Nat,g=j:=⟨g.toNat,by lia⟩
  exact⟨zf j,_,.hi j rfl (by lia) kb (by lia) rfl rfl,zf_up (by lia),by lia⟩
def msN:Sc:=NM.map fun n=>(n,kOf n)
theorem knds_list {H:Hp}{q:Addr} (h:Knds H q):∃ kvs:List (Key×V),H q=some (.dK kvs)/\kvs.map (·.1)=msN.map (fun m=>(Sum.inr m.1:Key))/\IsDts H (msN.map fun m=>kdD m.2) (kvs.map (·.2)):=by
 obtain⟨kvs,h1,h2,h3⟩:=h
 refine⟨kvs,h1,by rw[h2];rfl,?_⟩
 match kvs,h2,h3 with
 | [(k1,v1),(k2,v2),(k3,v3),(k4,v4),(k5,v5)],h2,h3=>
  have e1:k1=Sum.inr (Str.ofString "r")/\k2=Sum.inr (Str.ofString "s")/\k3=Sum.inr (Str.ofString "t")/\k4=Sum.inr (Str.ofString "u")/\k5=Sum.inr (Str.ofString "v"):=by
   simp only[List.map_cons,List.map_nil,NM,List.cons.injEq,and_true]at h2
   exact h2
  obtain⟨rfl,rfl,rfl,rfl,rfl⟩:=e1
  obtain⟨u1,a1,b1⟩:=h3 "r" (by decide +kernel)
  obtain⟨u2,a2,b2⟩:=h3 "s" (by decide +kernel)
  obtain⟨u3,a3,b3⟩:=h3 "t" (by decide +kernel)
  obtain⟨u4,a4,b4⟩:=h3 "u" (by decide +kernel)
  obtain⟨u5,a5,b5⟩:=h3 "v" (by decide +kernel)
  have n1:¬((Sum.inr (Str.ofString "r"):Key)=Sum.inr (Str.ofString "s")):=fun z=>absurd (Sum.inr.inj z) (by decide +kernel)
  have n2:¬((Sum.inr (Str.ofString "r"):Key)=Sum.inr (Str.ofString "t")):=fun z=>absurd (Sum.inr.inj z) (by decide +kernel)
  have n3:¬((Sum.inr (Str.ofString "r"):Key)=Sum.inr (Str.ofString "u")):=fun z=>absurd (Sum.inr.inj z) (by decide +kernel)
  have n4:¬((Sum.inr (Str.ofString "r"):Key)=Sum.inr (Str.ofString "v")):=fun z=>absurd (Sum.inr.inj z) (by decide +kernel)
  have n5:¬((Sum.inr (Str.ofString "s"):Key)=Sum.inr (Str.ofString "t")):=fun z=>absurd (Sum.inr.inj z) (by decide +kernel)
  have n6:¬((Sum.inr (Str.ofString "s"):Key)=Sum.inr (Str.ofString "u")):=fun z=>absurd (Sum.inr.inj z) (by decide +kernel)
  have n7:¬((Sum.inr (Str.ofString "s"):Key)=Sum.inr (Str.ofString "v")):=fun z=>absurd (Sum.inr.inj z) (by decide +kernel)
  have n8:¬((Sum.inr (Str.ofString "t"):Key)=Sum.inr (Str.ofString "u")):=fun z=>absurd (Sum.inr.inj z) (by decide +kernel)
  have n9:¬((Sum.inr (Str.ofString "t"):Key)=Sum.inr (Str.ofString "v")):=fun z=>absurd (Sum.inr.inj z) (by decide +kernel)
  have n0:¬((Sum.inr (Str.ofString "u"):Key)=Sum.inr (Str.ofString "v")):=fun z=>absurd (Sum.inr.inj z) (by decide +kernel)
  rw[valV_pos rfl]at a1
  rw[valV_neg n1,valV_pos rfl]at a2
  rw[valV_neg n2,valV_neg n5,valV_pos rfl]at a3
  rw[valV_neg n3,valV_neg n6,valV_neg n8,valV_pos rfl]at a4
  rw[valV_neg n4,valV_neg n7,valV_neg n9,valV_neg n0,valV_pos rfl]at a5
  cases a1;cases a2;cases a3;cases a4;cases a5
  exact .cons b1 (.cons b2 (.cons b3 (.cons b4 (.one b5))))
theorem msN_nd:(msN.map (·.1)).Nodup:=by
 have:msN.map (·.1)=NM:=rfl
 rw[this]
 unfold NM
 decide +kernel
theorem msN_kb:∀ m∈msN,KB 2 m.2:=fun m hm=>by
 obtain⟨n,hn,rfl⟩:=List.mem_map.mp hm
 exact kb_of hn
theorem msN_nm:∀ m∈msN,m.1∈NM:=fun m hm=>by
 obtain⟨n,hn,rfl⟩:=List.mem_map.mp hm
 exact hn
theorem sort_items {K:PySem.W.Frag}{H:Hp}{td:Addr}{kvs:List (Key×V)}{ms:Sc}{Q:VK} (hT:H td=some (.dK kvs)) (km:kvs.map (·.1)=ms.map (fun m=>(Sum.inr m.1:Key))) (iv:IsDts H (ms.map fun m=>kdD m.2) (kvs.map (·.2))) (nd:(ms.map (·.1)).Nodup) (kb:∀ m∈ms,KB 2 m.2) (l40:ms.length<=40)
  (fin:∀ (l:Addr) (ps:Sc) (H':Hp),Same H H'->H l=none->ScAt H' l ps->(∀ p∈ps,p∈ms)->Q (.ref l) H'):tyV K "dict" (.ref td) H/\rItems (.ref td) [] H fun y H2=>rSortI [y] H2 Q:=by
 have lk:kvs.length=ms.length:=by have:=congrArg List.length km;simpa using this
 refine⟨.inr (.inr (.inl ⟨rfl,.inl ⟨_,hT⟩⟩)),td,kvs,rfl,rfl,hT,fun v hv=>?_⟩
 have s2:=same_new hv (.ext (ItemsV v td))
 refine⟨v,td,kvs,ms.map fun m=>kdD m.2,"str",rfl,upd_same,s2 _ _ hT,IsDts.mono s2.tups iv,by rw[zipS km];exact sort_S nd kb,by lia,fun l H2 bs pp hl s' hl' pm _ _ ib=>?_⟩
 rw[zipS km]at ib
 have eb:(pp.map fun i=>(ms.map fun m=>[Dt.str m.1,kdD m.2]).getD i []).map Dt.tup=(pp.map fun i=>ms.getD i ("",.num)).map scD:=by
  rw[List.map_map,List.map_map]
  refine List.map_congr_left fun i hi=>?_
  have hl:i<ms.length:=by have:=List.mem_range.mp (pm.mem_iff.mp hi);lia
  show Dt.tup ((ms.map fun g=>[Dt.str g.1,kdD g.2]).getD i [])=scD (ms.getD i ("",.num))
  rw[List.getD_eq_getElem?_getD,List.getD_eq_getElem?_getD,List.getElem?_map,List.getElem?_eq_getElem hl]
  rfl
 rw[eb]at ib
 have mem:∀ p∈pp.map fun i=>ms.getD i ("",.num),p∈ms:=fun p hp=>by
  obtain⟨i,hi,rfl⟩:=List.mem_map.mp hp
  have hl:i<ms.length:=by have:=List.mem_range.mp (pm.mem_iff.mp hi);lia
  rw[List.getD_eq_getElem?_getD,List.getElem?_eq_getElem hl]
  exact List.getElem_mem hl
 exact fin l _ H2 (s2.trans s') (same_back s2 hl) ⟨⟨bs,hl',ib⟩,fun p hp=>kb p (mem p hp),by rw[List.length_map,pm.length_eq,List.length_range];lia⟩ mem
theorem sc_cons {H:Hp}{a t l1 l2:Addr}{sc:Sc}{us:List V}{s:Str}{k:Kd}{u:V} (ha:H a=some (.lst us)) (iu:IsDts H (sc.map scD) us) (kb:∀ p∈sc,KB 2 p.2) (ht:H t=none) (iu':IsDt H (kdD k) u) (kk:KB 2 k) (ln:sc.length+1<=40)
  (h1:(upd H t (.tup [.str s,u])) l1=none) (h2:(upd (upd H t (.tup [.str s,u])) l1 (.lst [.ref t])) l2=none):ScAt (upd (upd (upd H t (.tup [.str s,u])) l1 (.lst [.ref t])) l2 (.lst ([.ref t]++us))) l2 ((s,k)::sc):=by
 have s1:=same_new ht (.tup [.str s,u])
 have s2:=same_new h1 (.lst [.ref t])
 have s3:=same_new h2 (.lst ([.ref t]++us))
 have d1:IsDt (upd H t (.tup [.str s,u])) (scD (s,k)) (.ref t):=isDt_new ht (.cons (isDt_str _) (.one iu'))
 refine⟨⟨_,upd_same,?_⟩,fun p hp=>?_,by rw[List.length_cons];exact ln⟩
 ·rw[List.map_cons]
  exact .cons (IsDt.mono (s2.trans s3).tups d1) (IsDts.mono (s1.trans (s2.trans s3)).tups iu)
 ·rcases List.mem_cons.mp hp with rfl | h
  ·exact kk
  ·exact kb p h
end K30
end
section
namespace K30
open PySem L2 Kn
structure Ha (H0 H:Hp) (p a:Addr) (sc:Sc) (fuel:Int) (v:V) (k0:Kd) (lw:Addr) (us:List V) (qs:List Tr):Prop where
 ex:Ex p H0 H
 inn:Inn H p a sc fuel
 vk:IsDt H (kdD (.bag k0)) v
 hl:H lw=some (.lst us)
 iq:IsDts H (qs.map tdat) us
 ok:Sm2 qs
 nl:lw≠p
theorem Ha.exx {H0 H H':Hp}{p a:Addr}{sc:Sc}{fuel:Int}{v:V}{k0:Kd}{lw:Addr}{us:List V}{qs:List Tr} (h:Ha H0 H p a sc fuel v k0 lw us qs) (e:Ex p H H') (s:Sd H' p):Ha H0 H' p a sc fuel v k0 lw us qs:=by
 have t:=sd_tups h.inn.sd e
 exact⟨h.ex.trans e,h.inn.ex e s,IsDt.mono t h.vk,e _ _ h.nl h.hl,IsDts.mono t h.iq,h.ok,h.nl⟩
theorem Ha.same {H0 H H':Hp}{p a:Addr}{sc:Sc}{fuel:Int}{v:V}{k0:Kd}{lw:Addr}{us:List V}{qs:List Tr} (h:Ha H0 H p a sc fuel v k0 lw us qs) (s:Same H H'):Ha H0 H' p a sc fuel v k0 lw us qs:=h.exx (fun b o _ z=>s b o z) (sd_same h.inn.sd s)
theorem depL_of {n:Nat}:∀ {ds:List Dt},(∀ d∈ds,d.dep<=n)->depL ds<=n
 | [],_=>by rw[depL];lia
 | d::ds,h=>by
  have h1:=h d List.mem_cons_self
  have h2:=depL_of fun x hx=>h x (List.mem_cons_of_mem _ hx)
  rw[depL];lia
theorem dep_q {d:Nat}{q:Tr} (h:QG d q):(tdat q).dep<=3 * d+9:=by
 induction h with
 | num=>rw[tdat,tdatL];simp only[Dt.dep,depL,List.map_cons,List.map_nil,List.nil_append,List.append_nil,atD];lia
 | word=>rw[tdat,tdatL];simp only[Dt.dep,depL,List.map_cons,List.map_nil,List.nil_append,List.append_nil,atD];lia
 | var=>rw[tdat,tdatL];simp only[Dt.dep,depL,List.map_cons,List.map_nil,List.nil_append,List.append_nil,atD];lia
 | table hs=>rw[tdat,tdatL];simp only[Dt.dep,depL,List.map_cons,List.map_nil,List.nil_append,List.append_nil,atD];lia
 | none h=>have:=dep_kdD h;rw[tdat,tdatL,tdatL,tdat_k];simp only[Dt.dep,depL,List.map_nil,List.nil_append];lia
 | @row d ps hl hn h ih=>
  have:depL (tdatR ps)<=3 * d+10:=by
   rw[tdatR_map]
   refine depL_of fun x hx=>?_
   obtain⟨p,hp,rfl⟩:=List.mem_map.mp hx
   have:=ih p hp
   simp only[Dt.dep,depL];lia
  rw[tdat];simp only[Dt.dep,depL];lia
 | times h ih=>rw[tdat,tdatL,tdatL];simp only[Dt.dep,depL,List.map_cons,List.map_nil,List.cons_append,List.nil_append,atD];lia
 | att h ih=>rw[tdat,tdatL,tdatL];simp only[Dt.dep,depL,List.map_cons,List.map_nil,List.cons_append,List.nil_append,atD];lia
 | bind hw h1 h2 ih1 ih2=>rw[tdat,tdatL,tdatL,tdatL];simp only[Dt.dep,depL,List.map_cons,List.map_nil,List.cons_append,List.nil_append,atD];lia
 | two hw h1 h2 ih1 ih2=>rw[tdat,tdatL,tdatL,tdatL];simp only[Dt.dep,depL,List.map_nil,List.nil_append];lia
 | one hw h1 ih=>rw[tdat,tdatL,tdatL];simp only[Dt.dep,depL,List.map_nil,List.nil_append];lia
theorem Sm2.dep {qs:List Tr} (h:Sm2 qs):depL (qs.map tdat)<=depMax:=by
 refine depL_of fun x hx=>?_
 obtain⟨q,hq,rfl⟩:=List.mem_map.mp hx
 exact Nat.le_trans (dep_q (h q hq).1) (by decide)
section
variable {P:Program}{w:World}{K:PySem.W.Frag}{mg:Str->Option Value}{base:Heap}{f f_draw f_small f_held f_kinds f_claim f_taken f_over:Addr}{fd fd_draw fd_small fd_held fd_kinds fd_claim fd_taken fd_over:FuncData}
theorem Zav:FnScope ["kind","scope","fuel","seed","named","ways","way","name","other","bound","over"] ["kind","scope","fuel","seed"] (defScope (top 32)):=⟨rfl,rfl,rfl,by decide +kernel,rfl,by decide +kernel,by decide +kernel⟩
theorem ok_asked {k n:Nat} (hk:2<=k) (T:Tx mg) (Zab:Df K mg "_law_asked" (top 32) f fd ["kind","scope","fuel","seed"]) (Zam:FnOk P w K mg base CX0 k f fd ["kind","scope","fuel","seed"] (spAsked n))
  (Zad:Df K mg "_law_small" (top 28) f_small fd_small ["kind","scope","fuel","seed"]) (Zat:FnOk P w K mg base CX0 k f_small fd_small ["kind","scope","fuel","seed"] (spSmall n))
  (Zan:Df K mg "_law_held" (top 27) f_held fd_held ["kind","scope"]) (ZaD:FnOk P w K mg base CX0 2 f_held fd_held ["kind","scope"] spHeld)
  (Zaj:Df K mg "_law_kinds" (top 24) f_kinds fd_kinds []) (Zau:FnOk P w K mg base CX0 1 f_kinds fd_kinds [] spKinds)
  (Zah:Df K mg "_law_claim" (top 29) f_claim fd_claim ["scope","fuel","seed"]) (ZaV:FnOk P w K mg base CX0 k f_claim fd_claim ["scope","fuel","seed"] (spClaim n))
  (Zaw:Df K mg "_law_taken" (top 31) f_taken fd_taken ["kind","scope","fuel","seed"]) (Zbw:FnOk P w K mg base CX0 k f_taken fd_taken ["kind","scope","fuel","seed"] (spTaken n))
  (Zax:Df K mg "_law_over" (top 30) f_over fd_over ["scope","fuel","seed"]) (Zbx:FnOk P w K mg base CX0 k f_over fd_over ["scope","fuel","seed"] (spOver n))
  (Zaa:Df K mg "_law_draw" (top 16) f_draw fd_draw ["seed","most"]) (Zac:FnOk P w K mg base CX0 1 f_draw fd_draw ["seed","most"] spDraw) :
  FnOk P w K mg base CX0 (k+1) f fd ["kind","scope","fuel","seed"] (spAsked (n+1)):=by
 refine Zab.fn.okH (k:=k) Zav (fun vs H Q E h=>?_) (fun cdv A outer s H vs Q E hr h=>?_)
 ·obtain⟨v,a,p,fuel,κ,sc,b,D,rfl,_⟩:=h;rfl
 obtain⟨v,a,p,fuel,κ,sc,b,D,rfl,iv,inn,rk,fin⟩:=h
 have hu:=u110 hr
 have hu0:=u0 hr
 have hu1:=hu_of hr
 refine⟨_,(wss_cons (ws_if (wt_cmpR (op_neU hu) (we_ix (ix_U hu1) (wv 0) we_int (fun _ _=>rfl)) we_str (nomark _)) (wss_one (ws_ret (we_call Zat (hr.mono (by lia)) rfl Zad.mg Zad.kp Zad.b .nil pass0 (wa_cons (wv 0) (wa_cons (wv 1) (wa_cons (wv 2) (wa_cons (wv 3) wa_nil))))))) wss_nil)
   (wss_cons (ws_lc (j:=4) (hN:=Zav.nd) (hj:=rfl) (hy:=(Or.inl rfl)) (Nt:=["name","other"]) (fr:=[("kind",0)]) (LcOk.of (sc:=defScope (top 32)) (N:=["kind","scope","fuel","seed","named","ways","way","name","other","bound","over"]) rfl rfl (by decide +kernel)) rfl (wi_U (we_callB (call_sortI rfl hu) rfl T.z_sorted bt_sorted (wa_cons (we_bm0 PySem.F.plainAttrs_dict PySem.F.slot_dict_items PySem.F.type_dict_items mt_items (we_call0 Zau (hr.mono (by lia)) rfl Zaj.mg Zaj.kp Zaj.b .nil pass0)) wa_nil))) (fun z=>wg_tup rfl (wgs_cons (wg_name (i:=0) (by show (["name","other","kind"]:List Str).Nodup;decide +kernel) rfl (Or.inl rfl) (.inr rfl)) (wgs_cons (wg_name (i:=1) (by show (["name","other","kind"]:List Str).Nodup;decide +kernel) rfl (Or.inl rfl) (.inr rfl)) wgs_nil))) (fun z=>tgt_two (by decide) (by decide)) (fun z=>wif_one (wt_cmpR (op_eqX hu) (we_tup (wa_cons we_str (wa_cons (wv 1) wa_nil))) (wv 2) (nomark _))) (fun z=>(we_tup (wa_cons we_str (wa_cons (wv 0) wa_nil)))))
   (wss_cons (ws_set (i:=5) Zav.nd rfl (Or.inl rfl) (we_op op_plus (we_op op_plus (we_call ZaD (hr.mono (by lia)) rfl Zan.mg Zan.kp Zan.b .nil pass0 (wa_cons (wv 0) (wa_cons (wv 1) wa_nil))) (wv 4)) (wv 4)))
   (wss_cons (ws_set (i:=6) Zav.nd rfl (Or.inl rfl) (we_call Zac (hr.mono (by lia)) rfl Zaa.mg Zaa.kp Zaa.b .nil pass0 (wa_cons (wv 3) (wa_cons we_int wa_nil))))
   (wss_cons (ws_if (wt_pw (ww_or (wt_cmpR op_le (wv 2) we_int (nomark _)) (ww_or1 (wt_cmpR (op_ltU hu0) (wv 6) we_int (nomark _))))) (wss_cons (ws_if (wt_pw (ww_and (wt_cmpR (op_eqX hu) (wv 5) (we_lst wa_nil) (nomark _)) (ww_and1 (wt_cmpR (op_eqX hu) (we_call Zac (hr.mono (by lia)) rfl Zaa.mg Zaa.kp Zaa.b .nil pass0 (wa_cons (wv 3) (wa_cons we_int wa_nil))) we_int (nomark _))))) (wss_one (ws_ret (we_tup (wa_cons we_str (wa_cons (we_call Zat (hr.mono (by lia)) rfl Zad.mg Zad.kp Zad.b .nil pass0 (wa_cons (we_ix (ix_U hu1) (wv 0) we_int (fun _ _=>rfl)) (wa_cons (wv 1) (wa_cons we_int (wa_cons (wv 3) wa_nil))))) wa_nil))))) wss_nil)
   (wss_cons (ws_if (wt_cmpR (op_eqX hu) (wv 5) (we_lst wa_nil) (nomark _)) (wss_one (ws_ret (we_tup (wa_cons we_str (wa_cons (we_ix (ix_U hu1) (wv 0) we_int (fun _ _=>rfl)) wa_nil))))) wss_nil)
   (wss_one (ws_ret (we_ix (ix_U hu1) (wv 5) (we_call Zac (hr.mono (by lia)) rfl Zaa.mg Zaa.kp Zaa.b .nil pass0 (wa_cons (wv 3) (wa_cons (we_callB call_lenU rfl T.z_len bt_len (wa_cons (wv 5) wa_nil)) wa_nil))) (fun _ _=>rfl)))))) wss_nil)
   (wss_cons (ws_if (wt_cmpR (op_eqX hu) (wv 6) we_int (nomark _)) (wss_one (ws_ret (we_tup (wa_cons we_str (wa_cons (we_call Zam (hr.mono (by lia)) rfl Zab.mg Zab.kp Zab.b .nil pass0 (wa_cons (wv 0) (wa_cons (wv 1) (wa_cons (we_op op_sub (wv 2) we_int) (wa_cons (wv 3) wa_nil))))) (wa_cons (we_call Zam (hr.mono (by lia)) rfl Zab.mg Zab.kp Zab.b .nil pass0 (wa_cons (wv 0) (wa_cons (wv 1) (wa_cons (we_op op_sub (wv 2) we_int) (wa_cons (wv 3) wa_nil))))) wa_nil)))))) wss_nil)
   (wss_cons (ws_if (wt_cmpR (op_eqX hu) (wv 6) we_int (nomark _)) (wss_one (ws_ret (we_tup (wa_cons we_str (wa_cons (we_op op_sub (we_call Zac (hr.mono (by lia)) rfl Zaa.mg Zaa.kp Zaa.b .nil pass0 (wa_cons (wv 3) (wa_cons we_int wa_nil))) we_int) (wa_cons (we_call Zam (hr.mono (by lia)) rfl Zab.mg Zab.kp Zab.b .nil pass0 (wa_cons (wv 0) (wa_cons (wv 1) (wa_cons (we_op op_sub (wv 2) we_int) (wa_cons (wv 3) wa_nil))))) wa_nil)))))) wss_nil)
   (wss_cons (ws_if (wt_cmpR (op_eqX hu) (wv 6) we_int (nomark _)) (wss_one (ws_ret (we_tup (wa_cons we_str (wa_cons (we_call ZaV (hr.mono (by lia)) rfl Zah.mg Zah.kp Zah.b .nil pass0 (wa_cons (wv 1) (wa_cons we_int (wa_cons (wv 3) wa_nil)))) (wa_cons (we_call Zam (hr.mono (by lia)) rfl Zab.mg Zab.kp Zab.b .nil pass0 (wa_cons (wv 0) (wa_cons (wv 1) (wa_cons (we_op op_sub (wv 2) we_int) (wa_cons (wv 3) wa_nil))))) wa_nil)))))) wss_nil)
   (wss_cons (ws_if (wt_cmpR (op_eqX hu) (wv 6) we_int (nomark _)) (wss_one (ws_ret (we_tup (wa_cons we_str (wa_cons (we_call Zat (hr.mono (by lia)) rfl Zad.mg Zad.kp Zad.b .nil pass0 (wa_cons (we_ix (ix_U hu1) (wv 0) we_int (fun _ _=>rfl)) (wa_cons (wv 1) (wa_cons (we_op op_sub (wv 2) we_int) (wa_cons (wv 3) wa_nil))))) wa_nil))))) wss_nil)
   (wss_cons (ws_if (wt_cmpR (op_eqX hu) (wv 6) we_int (nomark _)) (wss_one (ws_ret (we_call Zbw (hr.mono (by lia)) rfl Zaw.mg Zaw.kp Zaw.b .nil pass0 (wa_cons (wv 0) (wa_cons (wv 1) (wa_cons (wv 2) (wa_cons (wv 3) wa_nil))))))) wss_nil)
   (wss_cons (ws_if (wt_pw (ww_and (wt_cmpR (op_eqX hu) (wv 6) we_int (nomark _)) (ww_and1 (wt_cmpR (op_eqX hu) (we_call Zac (hr.mono (by lia)) rfl Zaa.mg Zaa.kp Zaa.b .nil pass0 (wa_cons (wv 3) (wa_cons we_int wa_nil))) we_int (nomark _))))) (wss_one (ws_ret (we_tup (wa_cons we_str (wa_cons (we_ix (ix_U hu1) (wv 0) we_int (fun _ _=>rfl)) wa_nil))))) wss_nil)
   (wss_cons (ws_set (i:=7) Zav.nd rfl (Or.inl rfl) (we_ix (ix_U hu1) (we_lst (wa_consts rfl)) (we_call Zac (hr.mono (by lia)) rfl Zaa.mg Zaa.kp Zaa.b .nil pass0 (wa_cons (wv 3) (wa_cons we_int wa_nil))) (fun _ _=>rfl)))
   (wss_cons (ws_if (wt_cmpR (op_eqX hu) (wv 6) we_int (nomark _)) (wss_cons (ws_set (i:=8) Zav.nd rfl (Or.inl rfl) (we_ix (ix_U hu1) (we_lst (wa_cons (we_dt rfl) (wa_cons (we_dt rfl) wa_nil))) (we_call Zac (hr.mono (by lia)) rfl Zaa.mg Zaa.kp Zaa.b .nil pass0 (wa_cons (wv 3) (wa_cons we_int wa_nil))) (fun _ _=>rfl)))
   (wss_cons (ws_set (i:=9) Zav.nd rfl (Or.inl rfl) (we_call Zam (hr.mono (by lia)) rfl Zab.mg Zab.kp Zab.b .nil pass0 (wa_cons (wv 8) (wa_cons (wv 1) (wa_cons (we_op op_sub (wv 2) we_int) (wa_cons (wv 3) wa_nil))))))
   (wss_one (ws_ret (we_tup (wa_cons we_str (wa_cons (wv 7) (wa_cons (wv 9) (wa_cons (we_call Zam (hr.mono (by lia)) rfl Zab.mg Zab.kp Zab.b .nil pass0 (wa_cons (wv 0) (wa_cons (we_op op_plus (we_lst (wa_cons (we_tup (wa_cons (wv 7) (wa_cons (wv 8) wa_nil))) wa_nil)) (wv 1)) (wa_cons (we_op op_sub (wv 2) we_int) (wa_cons (wv 3) wa_nil))))) wa_nil))))))))) wss_nil)
   (wss_cons (ws_asg (we_call Zbx (hr.mono (by lia)) rfl Zax.mg Zax.kp Zax.b .nil pass0 (wa_cons (wv 1) (wa_cons (we_op op_sub (wv 2) we_int) (wa_cons (wv 3) wa_nil)))) (wg_tup rfl (wgs_cons (wg_name (i:=10) Zav.nd rfl (Or.inl rfl)) (wgs_cons (wg_name (i:=8) Zav.nd rfl (Or.inl rfl)) wgs_nil))))
   (wss_one (ws_ret (we_tup (wa_cons we_str (wa_cons (wv 7) (wa_cons (wv 10) (wa_cons (we_call Zam (hr.mono (by lia)) rfl Zab.mg Zab.kp Zab.b .nil pass0 (wa_cons (wv 0) (wa_cons (we_op op_plus (we_lst (wa_cons (we_tup (wa_cons (wv 7) (wa_cons (we_ix (ix_U hu1) (wv 8) we_int (fun _ _=>rfl)) wa_nil))) wa_nil)) (wv 1)) (wa_cons (we_op op_sub (wv 2) we_int) (wa_cons (wv 3) wa_nil))))) wa_nil))))))))))))))))))))),?_⟩
 obtain⟨c0,xs0,rfl,hc0,h00⟩:=k_head iv
 have small:∀ (nb:isBag κ=false) (Q':VK) ,(∀ v H',Q v H'->Q' v H')->spSmall n [.ref c0,.ref a,.int fuel,.ref p] H Q' E0:=fun nb Q' hQ=>by
  have:∃ D',RS fuel κ n b D'/\D'<=D:=by
   unfold RA at rk
   rw[nb]at rk
   cases rk with
   | low d h0 kb hd hr hb hD=>exact⟨2 * d+2,.low d h0 kb hd (by simp only[Bool.false_eq_true,if_false]at hr;lia) hb rfl,by simp only[Bool.false_eq_true,if_false]at hD;lia⟩
   | hi f hf h1 kb hr hb hD=>exact⟨3 * f+8,.hi f hf h1 kb (by lia) hb rfl,by lia⟩
  obtain⟨D',rs,hD'⟩:=this
  exact⟨_,a,p,fuel,κ,sc,b,D',rfl,iv,inn,rs,fun q u H' e s i g z=>hQ _ _ (fin q u H' e s i (g.to hD') z)⟩
 refine seqH fun N1 to1=>⟨_,rfl,.inr (.inl ⟨c0,_,_,_,rfl,rfl,SqT.of hc0,h00,.inl ⟨rfl,_,rfl,?_⟩⟩)⟩
 cases κ with
 | num=>exact iteP (by show (!decide (V.str (Str.ofString "num")=V.str (Str.ofString "bag")))=true;decide +kernel) ⟨_,rfl,_,rfl,_,rfl,_,rfl,small rfl _ fun _ _ h=>h⟩
 | word=>exact iteP (by show (!decide (V.str (Str.ofString "word")=V.str (Str.ofString "bag")))=true;decide +kernel) ⟨_,rfl,_,rfl,_,rfl,_,rfl,small rfl _ fun _ _ h=>h⟩
 | row fs=>exact iteP (by show (!decide (V.str (Str.ofString "row")=V.str (Str.ofString "bag")))=true;decide +kernel) ⟨_,rfl,_,rfl,_,rfl,_,rfl,small rfl _ fun _ _ h=>h⟩
 | bag k0=>
 refine iteN (by show ¬((!decide (V.str (Str.ofString "bag")=V.str (Str.ofString "bag")))=true);decide +kernel) (to1 _ _ ?_)
 clear small
 unfold RA at rk
 have kb3:KB 3 (.bag k0):=by
  cases rk with
  | low d h0 kb hd hr hb hD=>exact kb.to hd
  | hi f hf h1 kb hr hb hD=>exact kb
 have kb2:KB 2 k0:=by simp only[KB]at kb3;exact kb3
 have b3:3<=D/\4<=b:=by
  cases rk with
  | low d h0 kb hd hr hb hD=>
   cases d with
   | zero=>simp only[KB]at kb
   | succ d=>have h1:D=2 * (d+1)+1:=hD;have:=zz2 d;rw[zz]at hb;lia
  | hi f hf h1 kb hr hb hD=>have:=zf4 f;lia
 -- the tables of the kind
 refine seqH fun N2 to2=>lcset (.inl ?_)
 refine⟨rfl,fun kq H1 s1 hkq kd1=>?_⟩
 obtain⟨kvs,hq1,km,ivs⟩:=knds_list kd1
 dsimp only[tNil]
 refine sort_items hq1 km ivs msN_nd msN_kb (by decide) fun sl ps H2 s2 hsl hps sub=>?_
 obtain⟨bs,hb,ib⟩:=hps.ex
 have lb:bs.length=ps.length:=by rw[ib.length,List.length_map]
 have l40:=hps.ln
 have s12:=s1.trans s2
 refine⟨sl,rfl,⟨bs,SqL.of hb⟩,?_⟩
 refine⟨fun i m zs H4=>m+i=bs.length/\Same H2 H4/\∃ rs:List Tr,IsDts H4 (rs.map tdat) zs/\Sm2 rs/\rs.length<=i,⟨bs.length,rfl,.refl _,[],.nil,(fun x hx=>(nomatch hx)),Nat.le_refl _⟩,?_⟩
 rintro i m zs H4 ⟨hm,s4,rs,iz,ok4,lx⟩
 have lz:zs.length=rs.length:=by rw[iz.length,List.length_map]
 refine⟨line1 (by lia),?_⟩
 by_cases hi:i<bs.length
 ·refine .inr ⟨⟨_,_,SqL.of (s4 _ _ hb),List.getElem?_eq_getElem hi⟩,fun z y H5 hy=>?_⟩
  obtain⟨rfl,hx⟩:=hy
  have e5:=hx _ (SqL.of (s4 _ _ hb))
  rw[List.getElem?_eq_getElem hi]at e5
  cases e5
  obtain⟨pp,c,u,hp,e,hc,ik⟩:=sc_item ib hi
  have kp:=hps.kb pp (List.mem_of_getElem? hp)
  have hnm:=msN_nm pp (sub pp (List.mem_of_getElem? hp))
  rw[e]
  refine⟨c,_,rfl,SqT.of (s4 _ _ hc),rfl,_,_,rfl,_,_,rfl,rfl,?_⟩
  refine⟨_,rfl,(by show 2<=sizeLine;decide),fun t1 h1=>?_⟩
  have sT:=same_new h1 (.tup [.str "bag",u])
  have iB:IsDt (upd H5 t1 (.tup [.str "bag",u])) (kdD (.bag pp.2)) (.ref t1):=by rw[kdD];exact isDt_new h1 (.cons (isDt_str _) (.one (IsDt.mono s4.tups ik)))
  refine⟨_,rfl,.inl (.inr ⟨_,_,iB,IsDt.mono (s12.trans (s4.trans sT)).tups iv,Nat.le_trans (dep_kdD (d:=3) (by simp only[KB];exact kp)) (by decide),_,rfl,?_⟩)⟩
  refine ite2 (fun e5=>?_) (fun e5=>⟨m-1,by lia,by lia,s4.trans sT,rs,IsDts.mono sT.tups iz,ok4,by lia⟩)
  refine⟨_,rfl,(by show 2<=sizeLine;decide),fun t2 h2=>?_⟩
  have sU:=sT.trans (same_new h2 (.tup [.str "table",.str pp.1]))
  refine⟨m-1,by lia,by lia,s4.trans sU,rs++[.node (Str.ofString "table") [.txt pp.1] []],?_,fun q hq=>?_,by rw[List.length_append];show _+1<=_;lia⟩
  ·rw[List.map_append]
   exact (IsDts.mono sU.tups iz).append (.one (q_table h2))
  ·rcases List.mem_append.mp hq with z | z
   ·exact ok4 q z
   ·rw[List.mem_singleton.mp z]
    exact⟨.table hnm,by rw[nq,if_neg (by decide +kernel),nqL];decide⟩
 refine .inl ⟨⟨_,SqL.of (s4 _ _ hb),by lia⟩,fun ln hln=>to2 _ _ ?_⟩
 have sN:=same_new hln (.lst zs)
 have s5:=s12.trans (s4.trans sN)
 have hN5:(upd H4 ln (.lst zs)) ln=some (.lst zs):=upd_same
 have iz5:=IsDts.mono sN.tups iz
 generalize upd H4 ln (.lst zs)=H5 at s5 hN5 iz5 ⊢
 have l10:rs.length<=40:=by lia
 clear sN hln iz hm s4 lx hi s12 sub hps hsl s2 ib hb ivs km hq1 kd1 hkq s1 lb l40
 have ex5:Ex p H H5:=fun b o _ z=>s5 b o z
 have inn5:=inn.ex ex5 (sd_same inn.sd s5)
 have iv5:=IsDt.mono s5.tups iv
 refine seqH fun N3 to3=>⟨_,rfl,_,rfl,_,a,.bag k0,sc,rfl,iv5,kb3,inn5.at_,fun lh uh qh H6 s6 hlh hLh iqh smh lqh=>?_⟩
 have luh:uh.length=qh.length:=by rw[iqh.length,List.length_map]
 refine⟨_,rfl,.inr (.inr (.inl ⟨lh,ln,uh,zs,rfl,rfl,hLh,s6 _ _ hN5,Nat.le_of_lt (line1 (by lia)),fun lc hlc=>?_⟩))⟩
 refine⟨_,rfl,.inr (.inr (.inl ⟨lc,ln,uh++zs,zs,rfl,rfl,upd_same,same_new hlc _ _ _ (s6 _ _ hN5),Nat.le_of_lt (line1 (by rw[List.length_append];lia)),fun lw hlw=>to3 _ _ ?_⟩))⟩
 have s7:=s6.trans ((same_new hlc (.lst (uh++zs))).trans (same_new hlw (.lst (uh++zs++zs))))
 have s67:=(same_new hlc (.lst (uh++zs))).trans (same_new hlw (.lst (uh++zs++zs)))
 have sd7:=sd_same inn5.sd s7
 have A3:Ha H (upd (upd H6 lc (.lst (uh++zs))) lw (.lst (uh++zs++zs))) p a sc fuel (.ref c0) k0 lw (uh++zs++zs) (qh++rs++rs):=by
  refine⟨ex5.trans fun b o _ z=>s7 b o z,inn5.ex (fun b o _ z=>s7 b o z) sd7,IsDt.mono s7.tups iv5,upd_same,?_,fun q hq=>?_,sd_ne (sd_same inn5.sd (s6.trans (same_new hlc _))) hlw⟩
  ·rw[List.map_append,List.map_append]
   exact ((IsDts.mono s67.tups iqh).append (IsDts.mono s7.tups iz5)).append (IsDts.mono s7.tups iz5)
  ·rcases List.mem_append.mp hq with z | z
   ·rcases List.mem_append.mp z with z | z
    ·exact smh q z
    ·exact ok4 q z
   ·exact ok4 q z
 have lus:(uh++zs++zs).length<=400:=by rw[List.length_append,List.length_append];lia
 generalize upd (upd H6 lc (.lst (uh++zs))) lw (.lst (uh++zs++zs))=H7 at A3 ⊢
 generalize uh++zs++zs=us at A3 lus ⊢
 generalize qh++rs++rs=qs at A3 ⊢
 clear s67 sd7 s7 hlw hlc luh lqh smh iqh hLh hlh s6 iv5 inn5 ex5 iz5 hN5 s5 ok4 lz l10
 have lq:us.length=qs.length:=by rw[A3.iq.length,List.length_map]
 refine seqH fun N4 to4=>⟨_,rfl,p,12,rfl,A3.inn.sd,by decide,by decide,fun way H8 ex8 sd8 w0 w1=>to4 _ _ ?_⟩
 have A4:=A3.exx ex8 sd8
 clear A3
 refine seqH fun N5 to5=>⟨_,rfl,_,_,rfl,rfl,_,rfl,?_⟩
 refine ite2 (fun e1=>iteT ?y1) (fun e1=>⟨_,rfl,.inl ⟨_,_,rfl,rfl,_,rfl,ite2 (fun e2=>?y2) (fun e2=>?go)⟩⟩)
 case y1 | y2=>
  clear e1
  obtain⟨b',D',rsm,hb',hD'⟩:∃ b' D',RS 0 k0 n b' D'/\1+b'<=b/\D'+1<=D:=by
   cases rk with
   | low d h0 kb hd hr hb hD=>
    cases d with
    | zero=>simp only[KB]at kb
    | succ d=>
     have h1:D=2 * (d+1)+1:=hD
     have h2:2 * (d+1)+1<n+1:=hr
     simp only[KB]at kb
     rw[zz]at hb
     exact⟨zz d,2 * d+2,.low d (Int.le_refl _) kb (by lia) (by lia) rfl rfl,by lia,by lia⟩
   | hi f hf h1 kb hr hb hD=>
    have:=zf4 f
    exact⟨zz 2,6,.low 2 (Int.le_refl _) kb2 (by decide) (by lia) rfl rfl,by rw[hb];show 1+74<=_;lia,by lia⟩
  refine seqH fun M1 tm1=>?_
  have gom:∀ H9,Ha H H9 p a sc fuel (.ref c0) k0 lw us qs->M1 [some (.ref c0),some (.ref a),some (.int fuel),some (.ref p),some (.ref ln),some (.ref lw),some (.int way),none,none,none,none] H9:=by
   intro H9 A9
   refine tm1 _ _ ?_
   refine⟨_,rfl,(by show 0<=sizeLine;decide),fun e he=>.inr ⟨lw,e,us,[],_,[],rfl,rfl,same_new he _ _ _ A9.hl,upd_same,IsDts.mono (same_new he _).tups A9.iq,.nil,A9.ok.dep,_,rfl,?_⟩⟩
   have AE:=A9.same (same_new he (.lst []))
   generalize upd H9 e (.lst [])=HE at AE ⊢
   refine ite2 (fun z1=>?_) (fun z1=>?_)
   ·obtain⟨c1,u1,e1,hc1,iu1⟩:=k_bag AE.vk
    cases e1
    refine⟨_,rfl,.inr (.inl ⟨_,_,1,_,rfl,rfl,SqT.of hc1,rfl,(by show 2<=sizeLine;decide),fun t ht=>?_⟩)⟩
    exact fin _ _ _ (AE.ex.trans (ex_new ht)) (sd_new AE.inn.sd ht) (q_none ht iu1) (.none kb2) (by rw[nq,if_pos rfl];lia)
   ·have ne:us≠[]:=fun z=>z1 (by
     rw[z]at lq
     have:qs=[]:=List.length_eq_zero_iff.mp lq.symm
     rw[this];exact decide_eq_true rfl)
    have pos:0<us.length:=List.length_pos_iff.mpr ne
    refine⟨_,rfl,_,rfl,_,rfl,.inl ⟨lw,_,rfl,.inl (SqL.of AE.hl),p,_,rfl,AE.inn.sd,by lia,by lia,fun r3 H3 ex3 sd3 a0 a1=>?_⟩⟩
    have A3:=AE.exx ex3 sd3
    obtain⟨x,hx,hm⟩:=atI_mem (xs:=us) a0 a1
    refine ixl (SqL.of A3.hl) hx ?_
    obtain⟨j,hj,rfl⟩:=List.getElem_of_mem hm
    obtain⟨v',hv',dd⟩:=A3.iq.get (i:=j) (d:=tdat qs[j]) (by rw[List.getElem?_map,List.getElem?_eq_getElem (by lia)];rfl)
    rw[List.getElem?_eq_getElem hj]at hv'
    cases hv'
    obtain⟨g,z⟩:=A3.ok qs[j] (List.getElem_mem (by lia))
    exact fin _ _ _ A3.ex sd3 dd (g.to (by lia)) (by lia)
  refine⟨_,rfl,(by show 0<=sizeLine;decide),fun e he=>.inr ⟨lw,e,us,[],_,[],rfl,rfl,same_new he _ _ _ A4.hl,upd_same,IsDts.mono (same_new he _).tups A4.iq,.nil,A4.ok.dep,_,rfl,?_⟩⟩
  have AE:=A4.same (same_new he (.lst []))
  generalize upd H8 e (.lst [])=HE at AE ⊢
  refine ite2 (fun z1=>?_) (fun z1=>gom _ AE)
  refine⟨_,rfl,p,2,rfl,AE.inn.sd,by decide,by decide,fun r2 H9 ex9 sd9 r20 r21=>.inl (.inl ⟨rfl,_,rfl,?_⟩)⟩
  have A9:=AE.exx ex9 sd9
  refine ite2 (fun z2=>?_) (fun z2=>gom _ A9)
  obtain⟨c1,u1,e1',hc1,iu1⟩:=k_bag A9.vk
  cases e1'
  refine⟨_,rfl,.inr (.inl ⟨_,_,1,_,rfl,rfl,SqT.of hc1,rfl,_,rfl,_,rfl,u1,a,p,0,k0,sc,b',D',rfl,iu1,⟨A9.inn.sd,A9.inn.at_,by have:=A9.inn.ln;split at this <;> simp <;> lia⟩,rsm,fun q u H3 ex3 sd3 i3 g3 z3=>⟨(by show 2<=sizeLine;decide),fun t ht=>?_⟩⟩)⟩
  have hw:Str.ofString "one"∈W1:=by decide +kernel
  refine fin _ _ _ (A9.ex.trans (ex3.trans (ex_new ht))) (sd_new sd3 ht) (q_one ht i3) ((QG.one hw g3).to (by lia)) ?_
  rw[nq,if_neg (w1_ok hw).2.2,nqL,nqL]
  lia
 case go=>
  refine to5 _ _ ?_
  have fpos:0<fuel:=by
   have:¬fuel<=0:=fun z=>e1 (decide_eq_true z)
   lia
  obtain⟨fl,hf,h1,hn,hbz,hDz⟩:∃ fl:Nat,fuel=fl/\1<=fl/\14 * fl+13<n+1/\b=zf fl/\D=3 * fl+9:=by
   cases rk with
   | low d h0 kb hd hr hb hD=>lia
   | hi f hf h1 kb hr hb hD=>exact⟨f,hf,h1,hr,hb,hD⟩
  subst hf
  have zs:=zf_s h1
  have z4:=zf4 (fl-1)
  have call:∀ (H':Hp) (u:V) (κ':Kd) (g:Int) (a':Addr) (sc':Sc) (Q':VK),IsDt H' (kdD κ') u->KB 3 κ'->g<=(fl:Int)-1->Inn H' p a' sc' g->(∀ (q:Tr) (x:V) (H'':Hp),Ex p H' H''->Sd H'' p->IsQ H'' q x->QG (3 * fl+6) q->nq q<=zf (fl-1)->Q' x H'')->spAsked n [u,.ref a',.int g,.ref p] H' Q' E0:=by
   intro H' u κ' g a' sc' Q' iu kb' hg inn' hQ
   obtain⟨b',D',ra,hb',hD'⟩:=ra_le (n:=n) (fuel:=(fl:Int)) rfl h1 (by lia) kb' hg
   exact⟨u,a',p,g,κ',sc',b',D',rfl,iu,inn',ra,fun q x H'' e s i gg z=>hQ q x H'' e s i (gg.to (by lia)) (by lia)⟩
  clear rk
  have les:∀ {H':Hp},Ha H H' p a sc (fl:Int) (.ref c0) k0 lw us qs->Inn H' p a sc ((fl:Int)-1):=fun A=>A.inn.less (by lia)
  -- both
  refine seqH fun M2 to=>⟨_,rfl,.inl (.inl ⟨rfl,_,rfl,ite2 (fun e3=>?_) (fun e3=>to _ _ ?_)⟩)⟩
  ·refine⟨_,rfl,_,rfl,_,rfl,_,_,rfl,rfl,_,rfl,call _ _ _ _ _ _ _ A4.vk kb3 (Int.le_refl _) (les A4) fun q1 u1 H9 ex9 sd9 i9 g9 z9=>?_⟩
   have A9:=A4.exx ex9 sd9
   refine⟨_,rfl,_,rfl,_,rfl,_,_,rfl,rfl,_,rfl,call _ _ _ _ _ _ _ A9.vk kb3 (Int.le_refl _) (les A9) fun q2 u2 HA exA sdA iA gA zA=>⟨(by show 3<=sizeLine;decide),fun t ht=>?_⟩⟩
   have hw:Str.ofString "both"∈W2:=by decide +kernel
   refine fin _ _ _ (A9.ex.trans (exA.trans (ex_new ht))) (sd_new sdA ht) (q_two ht (IsDt.mono (sd_tups sd9 exA) i9) iA) ((QG.two hw g9 gA).to (by lia)) ?_
   rw[nq,if_neg (w2_ok hw).2.2,nqL,nqL,nqL]
   lia
  clear e3
  -- times
  refine seqH fun M3 to=>⟨_,rfl,.inl (.inl ⟨rfl,_,rfl,ite2 (fun e3=>?_) (fun e3=>to _ _ ?_)⟩)⟩
  ·refine⟨_,rfl,p,7,rfl,A4.inn.sd,by decide,by decide,fun r7 H9 ex9 sd9 r70 r71=>⟨_,_,rfl,rfl,?_⟩⟩
   have A9:=A4.exx ex9 sd9
   refine⟨_,rfl,_,rfl,_,rfl,_,_,rfl,rfl,_,rfl,call _ _ _ _ _ _ _ A9.vk kb3 (Int.le_refl _) (les A9) fun q2 u2 HA exA sdA iA gA zA=>⟨(by show 3<=sizeLine;decide),fun t ht=>?_⟩⟩
   refine fin _ _ _ (A9.ex.trans (exA.trans (ex_new ht))) (sd_new sdA ht) (q_times ht iA) ((QG.times gA).to (by lia)) ?_
   rw[nq,if_neg (by decide +kernel),nqL,nqL]
   lia
  clear e3
  -- when
  refine seqH fun M4 to=>⟨_,rfl,.inl (.inl ⟨rfl,_,rfl,ite2 (fun e3=>?_) (fun e3=>to _ _ ?_)⟩)⟩
  ·refine⟨_,rfl,_,rfl,a,p,1,sc,rfl,by decide,A4.inn.less (by lia),by lia,fun q1 u1 H9 ex9 sd9 i9 g9 z9=>?_⟩
   have A9:=A4.exx ex9 sd9
   refine⟨_,rfl,_,rfl,_,rfl,_,_,rfl,rfl,_,rfl,call _ _ _ _ _ _ _ A9.vk kb3 (Int.le_refl _) (les A9) fun q2 u2 HA exA sdA iA gA zA=>⟨(by show 3<=sizeLine;decide),fun t ht=>?_⟩⟩
   have hw:Str.ofString "when"∈W2:=by decide +kernel
   refine fin _ _ _ (A9.ex.trans (exA.trans (ex_new ht))) (sd_new sdA ht) (q_two ht (IsDt.mono (sd_tups sd9 exA) i9) iA) ((QG.two hw (g9.to (by lia)) gA).to (by lia)) ?_
   rw[nq,if_neg (w2_ok hw).2.2,nqL,nqL,nqL]
   lia
  clear e3
  -- one
  refine seqH fun M5 to=>⟨_,rfl,.inl (.inl ⟨rfl,_,rfl,ite2 (fun e3=>?_) (fun e3=>to _ _ ?_)⟩)⟩
  ·obtain⟨c1,u1,e1',hc1,iu1⟩:=k_bag A4.vk
   cases e1'
   obtain⟨b',D',rsm,hb',hD'⟩:=rs_down (n:=n) (fuel:=(fl:Int)) (κ:=k0) rfl h1 (by lia) (kb2.up)
   refine⟨_,rfl,.inr (.inl ⟨_,_,1,_,rfl,rfl,SqT.of hc1,rfl,_,rfl,_,rfl,_,_,rfl,rfl,_,rfl,u1,a,p,(fl:Int)-1,k0,sc,b',D',rfl,iu1,les A4,rsm,fun q u H9 ex9 sd9 i9 g9 z9=>⟨(by show 2<=sizeLine;decide),fun t ht=>?_⟩⟩)⟩
   have hw:Str.ofString "one"∈W1:=by decide +kernel
   refine fin _ _ _ (A4.ex.trans (ex9.trans (ex_new ht))) (sd_new sd9 ht) (q_one ht i9) ((QG.one hw g9).to (by lia)) ?_
   rw[nq,if_neg (w1_ok hw).2.2,nqL,nqL]
   lia
  clear e3
  -- taken
  refine seqH fun M6 to=>⟨_,rfl,.inl (.inl ⟨rfl,_,rfl,ite2 (fun e3=>?_) (fun e3=>to _ _ ?_)⟩)⟩
  ·exact⟨_,rfl,_,rfl,_,rfl,_,rfl,_,a,p,fl,_,sc,rfl,A4.vk,kb3,A4.inn,h1,by lia,fun q u H9 ex9 sd9 i9 g9 z9=>fin _ _ _ (A4.ex.trans ex9) sd9 i9 (g9.to (by lia)) (by lia)⟩
  clear e3
  -- none
  refine seqH fun M7 to7=>?_
  have go7:∀ H9,Ha H H9 p a sc (fl:Int) (.ref c0) k0 lw us qs->M7 [some (.ref c0),some (.ref a),some (.int (fl:Int)),some (.ref p),some (.ref ln),some (.ref lw),some (.int way),none,none,none,none] H9:=by
   clear A4
   intro H9 A9
   refine to7 _ _ ?_
   refine seqH fun M8 to8=>⟨(by show 3<=sizeLine;decide),fun l3 hl3=>⟨_,rfl,p,3,rfl,sd_new A9.inn.sd hl3,by decide,by decide,fun r3 HA exA sdA r30 r31=>?_⟩⟩
   have hlA:=exA _ _ (sd_ne A9.inn.sd hl3) upd_same
   obtain⟨x,hx,hm⟩:=atI_mem (xs:=[V.str "t",V.str "s",V.str "z"]) r30 r31
   refine ixl (SqL.of hlA) hx (to8 _ _ ?_)
   obtain⟨nm,rfl⟩:∃ nm:Str,x=.str nm:=by
    simp only[List.mem_cons,List.not_mem_nil,or_false]at hm
    rcases hm with rfl | rfl | rfl <;> exact⟨_,rfl⟩
   have AA:=A9.exx ((ex_new hl3).trans exA) sdA
   clear hlA hx hm A9
   -- one more name in scope
   have more:∀ (HB:Hp) (kk:Kd) (u:V) (g:Int) (t l1 l2:Addr) (us2:List V),Ha H HB p a sc (fl:Int) (.ref c0) k0 lw us qs->IsDt HB (kdD kk) u->KB 2 kk->HB a=some (.lst us2)->HB t=none->(upd HB t (.tup [.str nm,u])) l1=none->(upd (upd HB t (.tup [.str nm,u])) l1 (.lst [.ref t])) l2=none ->
     Inn (upd (upd (upd HB t (.tup [.str nm,u])) l1 (.lst [.ref t])) l2 (.lst ([.ref t]++us2))) p l2 ((nm,kk)::sc) ((fl:Int)-1):=by
    intro HB kk u g t l1 l2 us2 AB iu kkb hus ht hl1 hl2
    obtain⟨us3,h3,i3⟩:=AB.inn.at_.ex
    rw[hus]at h3
    cases h3
    have sS:=(same_new ht (.tup [.str nm,u])).trans ((same_new hl1 (.lst [.ref t])).trans (same_new hl2 (.lst ([.ref t]++us2))))
    have lnn:=AB.inn.ln
    rw[if_neg (by lia)]at lnn
    refine⟨sd_same AB.inn.sd sS,sc_cons hus i3 AB.inn.at_.kb ht iu kkb (by lia) hl1 hl2,?_⟩
    rw[List.length_cons]
    split <;> lia
   refine seqH fun M9 to9=>⟨_,rfl,.inl (.inl ⟨rfl,_,rfl,ite2 (fun e3=>?_) (fun e3=>to9 _ _ ?_)⟩)⟩
   ·-- let
    refine seqH fun Ma toa=>fun v1 Hb sb ib=>?_
    intro v2 Hc sc2 ic
    have sA:=sb.trans sc2
    have AC:=AA.same sA
    refine⟨(by show 2<=sizeLine;decide),fun lk hlk=>⟨_,rfl,p,2,rfl,sd_new AC.inn.sd hlk,by decide,by decide,fun r2 HD exD sdD r20 r21=>?_⟩⟩
    have hlD:=exD _ _ (sd_ne AC.inn.sd hlk) upd_same
    have e1D:Ex p Hc HD:=(ex_new hlk).trans exD
    have AD:=AC.exx e1D sdD
    have tD:=sd_tups AC.inn.sd e1D
    obtain⟨x,hx,hm⟩:=atI_mem (xs:=[v1,v2]) r20 r21
    refine ixl (SqL.of hlD) hx (toa _ _ ?_)
    obtain⟨kk,kkb,ik⟩:∃ kk:Kd,KB 2 kk/\IsDt HD (kdD kk) x:=by
     simp only[List.mem_cons,List.not_mem_nil,or_false]at hm
     rcases hm with rfl | rfl
     ·exact⟨.num,by simp only[KB],by rw[kdD];exact IsDt.mono tD (IsDt.mono sc2.tups ib)⟩
     ·exact⟨.bag .num,by simp only[KB],by rw[kdD,kdD];exact IsDt.mono tD ic⟩
    refine seqH fun Mb tob=>⟨_,rfl,_,rfl,_,rfl,_,_,rfl,rfl,_,rfl,call _ _ _ _ _ _ _ ik kkb.up (by lia) (AD.inn.less (by lia)) fun q1 u1 HE exE sdE iE gE zE=>tob _ _ ?_⟩
    have AE:=AD.exx exE sdE
    have ikE:=IsDt.mono (sd_tups sdD exE) ik
    obtain⟨us2,hus,_⟩:=AE.inn.at_.ex
    refine⟨_,rfl,_,rfl,_,rfl,_,rfl,_,rfl,(by show 2<=sizeLine;decide),fun t ht=>⟨(by show 1<=sizeLine;decide),fun l1 hl1=>?_⟩⟩
    have l38:=AE.inn.at_.ln
    have lus2:us2.length<=40:=by
     obtain⟨us3,h3,i3⟩:=AE.inn.at_.ex
     rw[hus]at h3;cases h3
     rw[i3.length,List.length_map];exact l38
    refine⟨_,rfl,.inr (.inr (.inl ⟨l1,a,_,us2,rfl,rfl,upd_same,same_new hl1 _ _ _ (same_new ht _ _ _ hus),Nat.le_of_lt (line1 (by show 1+us2.length<=_;lia)),fun l2 hl2=>?_⟩))⟩
    have sS:=(same_new ht (.tup [.str nm,x])).trans ((same_new hl1 (.lst [.ref t])).trans (same_new hl2 (.lst ([.ref t]++us2))))
    have inF:=more HE kk x 0 t l1 l2 us2 AE ikE kkb hus ht hl1 hl2
    refine⟨_,rfl,_,_,rfl,rfl,_,rfl,call _ _ _ _ _ _ _ (IsDt.mono sS.tups AE.vk) kb3 (Int.le_refl _) inF fun q2 u2 HF exF sdF iF gF zF=>⟨(by show 4<=sizeLine;decide),fun tz htz=>?_⟩⟩
    have exS:Ex p HE (upd (upd (upd HE t (.tup [.str nm,x])) l1 (.lst [.ref t])) l2 (.lst ([.ref t]++us2))):=fun b o _ z=>sS b o z
    refine fin _ _ _ (AE.ex.trans (exS.trans (exF.trans (ex_new htz)))) (sd_new sdF htz) (q_bind htz (IsDt.mono (sd_tups inF.sd exF) (IsDt.mono sS.tups iE)) iF) ((QG.bind (.inr rfl) gE gF).to (by lia)) ?_
    rw[nq,if_neg (by decide +kernel),nqL,nqL,nqL]
    lia
   clear e3
   -- for
   have orr:∃ b' D',OR ((fl:Int)-1) n b' D'/\b'<=zf (fl-1)/\D'<=3 * fl+6:=by
    by_cases z:fl=1
    ·exact⟨2,2,.inl ⟨by lia,by lia,rfl,rfl⟩,by lia,by lia⟩
    ·exact⟨zf (fl-1),3 * (fl-1)+7,.inr ⟨fl-1,by lia,by lia,by lia,rfl,rfl⟩,Nat.le_refl _,by lia⟩
   obtain⟨b',D',hor,hb',hD'⟩:=orr
   refine seqH fun Mc toc=>⟨_,rfl,_,rfl,_,_,rfl,rfl,_,rfl,a,p,(fl:Int)-1,sc,b',D',rfl,les AA,hor,fun q1 kk tq uq uk HE exE sdE htq iE ikE kkb gE zE=>?_⟩
   have AE:=AA.exx exE sdE
   refine⟨tq,_,rfl,SqT.of htq,rfl,_,_,rfl,_,_,rfl,rfl,toc _ _ ?_⟩
   obtain⟨c2,u2',e2',hc2,iu2⟩:=k_bag ikE
   subst e2'
   obtain⟨us2,hus,_⟩:=AE.inn.at_.ex
   refine⟨_,rfl,_,rfl,_,rfl,_,rfl,_,rfl,.inr (.inl ⟨c2,_,1,_,rfl,rfl,SqT.of hc2,rfl,(by show 2<=sizeLine;decide),fun t ht=>⟨(by show 1<=sizeLine;decide),fun l1 hl1=>?_⟩⟩)⟩
   have l38:=AE.inn.at_.ln
   have lus2:us2.length<=40:=by
    obtain⟨us3,h3,i3⟩:=AE.inn.at_.ex
    rw[hus]at h3;cases h3
    rw[i3.length,List.length_map];exact l38
   refine⟨_,rfl,.inr (.inr (.inl ⟨l1,a,_,us2,rfl,rfl,upd_same,same_new hl1 _ _ _ (same_new ht _ _ _ hus),Nat.le_of_lt (line1 (by show 1+us2.length<=_;lia)),fun l2 hl2=>?_⟩))⟩
   have sS:=(same_new ht (.tup [.str nm,u2'])).trans ((same_new hl1 (.lst [.ref t])).trans (same_new hl2 (.lst ([.ref t]++us2))))
   have inF:=more HE kk u2' 0 t l1 l2 us2 AE iu2 kkb hus ht hl1 hl2
   refine⟨_,rfl,_,_,rfl,rfl,_,rfl,call _ _ _ _ _ _ _ (IsDt.mono sS.tups AE.vk) kb3 (Int.le_refl _) inF fun q2 u2 HF exF sdF iF gF zF=>⟨(by show 4<=sizeLine;decide),fun tz htz=>?_⟩⟩
   have exS:Ex p HE (upd (upd (upd HE t (.tup [.str nm,u2'])) l1 (.lst [.ref t])) l2 (.lst ([.ref t]++us2))):=fun b o _ z=>sS b o z
   refine fin _ _ _ (AE.ex.trans (exS.trans (exF.trans (ex_new htz)))) (sd_new sdF htz) (q_bind htz (IsDt.mono (sd_tups inF.sd exF) (IsDt.mono sS.tups iE)) iF) ((QG.bind (.inl rfl) (gE.to hD') gF).to (by lia)) ?_
   rw[nq,if_neg (by decide +kernel),nqL,nqL,nqL]
   lia
  refine⟨_,rfl,.inl (.inl ⟨rfl,_,rfl,ite2 (fun e3=>?_) (fun e3=>go7 _ A4)⟩)⟩
  refine⟨_,rfl,p,2,rfl,A4.inn.sd,by decide,by decide,fun r2 H9 ex9 sd9 r20 r21=>.inl (.inl ⟨rfl,_,rfl,?_⟩)⟩
  have A9:=A4.exx ex9 sd9
  refine ite2 (fun e4=>?_) (fun e4=>go7 _ A9)
  obtain⟨c1,u1,e1',hc1,iu1⟩:=k_bag A9.vk
  cases e1'
  refine⟨_,rfl,.inr (.inl ⟨_,_,1,_,rfl,rfl,SqT.of hc1,rfl,(by show 2<=sizeLine;decide),fun t ht=>?_⟩)⟩
  exact fin _ _ _ (A9.ex.trans (ex_new ht)) (sd_new A9.inn.sd ht) (q_none ht iu1) (.none kb2) (by rw[nq,if_pos rfl];lia)
end
end K30
end
section
namespace K30
open PySem L2 Kn
section
variable {P:Program}{w:World}{K:PySem.W.Frag}{mg:Str->Option Value}{base:Heap}{f f_draw f_small f_held f_kinds f_claim f_taken f_over f_seen f_value f_asked:Addr}{fd fd_draw fd_small fd_held fd_kinds fd_claim fd_taken fd_over fd_seen fd_value fd_asked:FuncData}
theorem fn_false {ps:List Str}{j:Nat}{g:Addr}{gd:FuncData}{sp:Sp} (h:∀ vs H Q E,¬sp vs H Q E):FnOk P w K mg base CX0 j g gd ps sp:=⟨fun vs H Q E z=>(h vs H Q E z).elim,fun _ _ _ _ _ _ _ _ _ _ _ _ _ z=>(h _ _ _ _ z).elim⟩
theorem gen_all (T:Tx mg) (Zab:Df K mg "_law_asked" (top 32) f_asked fd_asked ["kind","scope","fuel","seed"])
  (Zad:Df K mg "_law_small" (top 28) f_small fd_small ["kind","scope","fuel","seed"])
  (Zan:Df K mg "_law_held" (top 27) f_held fd_held ["kind","scope"]) (ZaD:FnOk P w K mg base CX0 2 f_held fd_held ["kind","scope"] spHeld)
  (Zaj:Df K mg "_law_kinds" (top 24) f_kinds fd_kinds []) (Zau:FnOk P w K mg base CX0 1 f_kinds fd_kinds [] spKinds)
  (Zak:Df K mg "_law_seen" (top 26) f_seen fd_seen ["scope"]) (ZaB:FnOk P w K mg base CX0 1 f_seen fd_seen ["scope"] spSeen)
  (Zah:Df K mg "_law_claim" (top 29) f_claim fd_claim ["scope","fuel","seed"])
  (Zaw:Df K mg "_law_taken" (top 31) f_taken fd_taken ["kind","scope","fuel","seed"])
  (Zax:Df K mg "_law_over" (top 30) f_over fd_over ["scope","fuel","seed"])
  (Zal:Df K mg "_law_value" (top 23) f_value fd_value ["kind","seed","deep"]) (ZaC:FnOk P w K mg base CX0 2 f_value fd_value ["kind","seed","deep"] spVal)
  (Zaa:Df K mg "_law_draw" (top 16) f_draw fd_draw ["seed","most"]) (Zac:FnOk P w K mg base CX0 1 f_draw fd_draw ["seed","most"] spDraw) :
  ∀ n:Nat,FnOk P w K mg base CX0 (n+2) f_asked fd_asked ["kind","scope","fuel","seed"] (spAsked n)/\FnOk P w K mg base CX0 (n+2) f_small fd_small ["kind","scope","fuel","seed"] (spSmall n)/\FnOk P w K mg base CX0 (n+2) f_claim fd_claim ["scope","fuel","seed"] (spClaim n)/\FnOk P w K mg base CX0 (n+2) f_taken fd_taken ["kind","scope","fuel","seed"] (spTaken n)/\FnOk P w K mg base CX0 (n+2) f_over fd_over ["scope","fuel","seed"] (spOver n)
 | 0=>by
  refine⟨fn_false fun vs H Q E h=>?_,fn_false fun vs H Q E h=>?_,fn_false fun vs H Q E h=>?_,fn_false fun vs H Q E h=>?_,fn_false fun vs H Q E h=>?_⟩
  ·obtain⟨v,a,p,fuel,κ,sc,b,D,rfl,_,_,rk,_⟩:=h
   cases rk with
   | low d h0 kb hd hr hb hD=>lia
   | hi f hf h1 kb hr hb hD=>lia
  ·obtain⟨v,a,p,fuel,κ,sc,b,D,rfl,_,_,rk,_⟩:=h
   cases rk with
   | low d h0 kb hd hr hb hD=>lia
   | hi f hf h1 kb hr hb hD=>lia
  ·obtain⟨a,p,c,sc,rfl,_,_,hn,_⟩:=h;lia
  ·obtain⟨v,a,p,fl,κ,sc,rfl,_,_,_,_,hn,_⟩:=h;lia
  ·obtain⟨a,p,fuel,sc,b,D,rfl,_,ro,_⟩:=h
   rcases ro with ⟨_,h,_⟩ | ⟨f,_,_,h,_⟩ <;> lia
 | n+1=>by
  obtain⟨g1,g2,g3,g4,g5⟩:=gen_all T Zab Zad Zan ZaD Zaj Zau Zak ZaB Zah Zaw Zax Zal ZaC Zaa Zac n
  exact⟨ok_asked (by lia) T Zab g1 Zad g2 Zan ZaD Zaj Zau Zah g3 Zaw g4 Zax g5 Zaa Zac,
   ok_small (by lia) T Zad g2 Zab g1 Zan ZaD Zaa Zac Zal ZaC,
   ok_claim (by lia) T Zah g3 Zad g2 Zaa Zac,
   ok_taken (by lia) T Zaw Zab g1 Zaa Zac,
   ok_over (by lia) T Zax Zab g1 Zaj Zau Zak ZaB Zaa Zac⟩
theorem Za9:FnScope ["seed","kinds","kind"] ["seed"] (defScope (top 38)):=⟨rfl,rfl,rfl,by decide +kernel,rfl,by decide +kernel,by decide +kernel⟩
def spQuestion:Sp:=fun vs H Q _=>∃ p:Addr,vs=[.ref p]/\Sd H p/\Out p H Q 18 (zf 3)
theorem ok_question (T:Tx mg) (D:Df K mg "_law_question" (top 38) f fd ["seed"])
  (Zab:Df K mg "_law_asked" (top 32) f_asked fd_asked ["kind","scope","fuel","seed"]) (Zam:FnOk P w K mg base CX0 58 f_asked fd_asked ["kind","scope","fuel","seed"] (spAsked 56))
  (Zaj:Df K mg "_law_kinds" (top 24) f_kinds fd_kinds []) (Zau:FnOk P w K mg base CX0 1 f_kinds fd_kinds [] spKinds)
  (Zaa:Df K mg "_law_draw" (top 16) f_draw fd_draw ["seed","most"]) (Zac:FnOk P w K mg base CX0 1 f_draw fd_draw ["seed","most"] spDraw) :
  FnOk P w K mg base CX0 59 f fd ["seed"] spQuestion:=by
 refine D.fn.okH (k:=58) Za9 (fun vs H Q E h=>?_) (fun cdv A outer s H vs Q E hr h=>?_)
 ·obtain⟨p,rfl,_⟩:=h;rfl
 obtain⟨p,rfl,sd,fin⟩:=h
 have hu:=u110 hr
 have hu0:=u0 hr
 have hu1:=hu_of hr
 refine⟨_,(wss_cons (ws_set (i:=1) Za9.nd rfl (Or.inl rfl) (we_call0 Zau (hr.mono (by lia)) rfl Zaj.mg Zaj.kp Zaj.b .nil pass0))
   (wss_cons (ws_set (i:=2) Za9.nd rfl (Or.inl rfl) (we_tup (wa_cons we_str (wa_cons (we_ix (ix_U hu1) (wv 1) (we_ix (ix_U hu1) (we_lst (wa_consts rfl)) (we_call Zac (hr.mono (by lia)) rfl Zaa.mg Zaa.kp Zaa.b .nil pass0 (wa_cons (wv 0) (wa_cons we_int wa_nil))) (fun _ _=>rfl)) (fun _ _=>rfl)) wa_nil))))
   (wss_one (ws_ret (we_call Zam (hr.mono (by lia)) rfl Zab.mg Zab.kp Zab.b .nil pass0 (wa_cons (wv 2) (wa_cons (we_lst wa_nil) (wa_cons (we_op op_plus we_int (we_call Zac (hr.mono (by lia)) rfl Zaa.mg Zaa.kp Zaa.b .nil pass0 (wa_cons (wv 0) (wa_cons we_int wa_nil)))) (wa_cons (wv 0) wa_nil))))))))),?_⟩
 refine seqH fun N1 to1=>⟨rfl,fun kq H1 s1 hkq kd1=>to1 _ _ ?_⟩
 have ex1:Ex p H H1:=fun b o _ z=>s1 b o z
 have sd1:=sd_same sd s1
 refine seqH fun N2 to2=>⟨_,rfl,(by show 4<=sizeLine;decide),fun l0 hl0=>⟨_,rfl,p,4,rfl,sd_new sd1 hl0,by decide,by decide,fun r H2 ex2 sd2 r0 r1=>?_⟩⟩
 have hl2:=ex2 _ _ (sd_ne sd1 hl0) upd_same
 obtain⟨x,hx,hm⟩:=atI_mem (xs:=[V.str "r",V.str "t",V.str "u",V.str "v"]) r0 r1
 refine ixl (SqL.of hl2) hx ?_
 obtain⟨nm,rfl,hnm⟩:∃ nm:Str,x=.str nm/\nm∈NM:=by
  simp only[List.mem_cons,List.not_mem_nil,or_false]at hm
  rcases hm with rfl | rfl | rfl | rfl <;> exact⟨_,rfl,by decide +kernel⟩
 have e12:Ex p H1 H2:=(ex_new hl0).trans ex2
 have kd2:=knds_ex kd1 sd1 e12
 obtain⟨kvs,hq2,_,hv2⟩:=id kd2
 obtain⟨vn,ev,ivn⟩:=hv2 nm hnm
 refine .inr (.inr (.inr ⟨kq,vn,rfl,by rw[<- ev];exact DGet.k (k:=Sum.inr nm) hq2,(by show 2<=sizeLine;decide),fun tk htk=>to2 _ _ ?_⟩))
 have sk:=same_new htk (.tup [.str "bag",vn])
 have ivk:IsDt (upd H2 tk (.tup [.str "bag",vn])) (kdD (.bag (kOf nm))) (.ref tk):=by rw[kdD];exact isDt_new htk (.cons (isDt_str _) (.one ivn))
 refine⟨_,rfl,(by show 0<=sizeLine;decide),fun ls hls=>⟨_,rfl,p,2,rfl,sd_new (sd_new sd2 htk) hls,by decide,by decide,fun r3 H3 ex3 sd3 r30 r31=>.inl ⟨_,_,rfl,rfl,_,rfl,?_⟩⟩⟩
 have hls3:=ex3 _ _ (sd_ne (sd_new sd2 htk) hls) upd_same
 obtain⟨fl,hfl,f2,f3⟩:∃ fl:Nat,2+r3=(fl:Int)/\2<=fl/\fl<=3:=⟨(2+r3).toNat,by lia,by lia,by lia⟩
 have exA:Ex p H2 H3:=(ex_new htk).trans ((ex_new hls).trans ex3)
 refine⟨_,ls,p,2+r3,.bag (kOf nm),[],zf fl,3 * fl+9,rfl,?_,⟨sd3,⟨⟨[],hls3,.nil⟩,fun q hq=>(nomatch hq),by decide⟩,?_⟩,.hi fl hfl (by lia) (by simp only[KB];exact kb_of hnm) (by lia) rfl rfl,fun q u H4 ex4 sd4 i4 g4 z4=>fin _ _ _ (ex1.trans (e12.trans (exA.trans ex4))) sd4 i4 (g4.to (by lia)) (Nat.le_trans z4 (zf_up f3))⟩
 ·exact IsDt.mono (sd_tups (sd_new (sd_new sd2 htk) hls) ex3) (IsDt.mono (same_new hls _).tups ivk)
 ·show (0:Int)+_<=38
  split <;> lia
end
end K30
end
section
namespace K30
open PySem L2 Kn
inductive Nrw:Dt->Prop where
 | int (i:Int):Nrw (.int i)
 | str (s:Str):Nrw (.str s)
 | tup (ds:List Dt) (h:ds.length<=1000) (a:∀ d∈ds,Nrw d):Nrw (.tup ds)
mutual
noncomputable def hasD:Dt->Bool
 | .tup ds=>(decide (ds.length=2) && decide (ds[0]?=some (.str "table"))) || hasL ds
 | .int _=>false
 | .str _=>false
noncomputable def hasL:List Dt->Bool
 | []=>false
 | d::ds=>hasD d || hasL ds
end
theorem hasL_app:∀ (a b:List Dt),hasL (a++b)=(hasL a || hasL b)
 | [],b=>by rw[List.nil_append,hasL,Bool.false_or]
 | d::a,b=>by rw[List.cons_append,hasL,hasL,hasL_app a b,Bool.or_assoc]
theorem dep_mem' {d:Dt}:∀ {ds:List Dt},d∈ds->d.dep<=depL ds
 | x::ds,h=>by
  rw[depL]
  rcases List.mem_cons.mp h with rfl | h
  ·lia
  ·have:=dep_mem' h;lia
section
variable {P:Program}{w:World}{K:PySem.W.Frag}{mg:Str->Option Value}{base:Heap}{f:Addr}{fd:FuncData}
theorem Zby:FnScope ["asked"] ["asked"] (defScope (top 39)):=⟨rfl,rfl,rfl,by decide +kernel,rfl,by decide +kernel,by decide +kernel⟩
def spHas (n:Nat):Sp:=fun vs H Q _=>∃ (v:V) (d:Dt),vs=[v]/\IsDt H d v/\Nrw d/\d.dep<n/\n<=100/\∀ H',Same H H'->Q (.bl (hasD d)) H'
theorem ok_has {k n:Nat} (T:Tx mg) (Zai:Df K mg "_law_has" (top 39) f fd ["asked"]) (ZaG:FnOk P w K mg base CX0 k f fd ["asked"] (spHas n)):FnOk P w K mg base CX0 (k+1) f fd ["asked"] (spHas (n+1)):=by
 refine Zai.fn.okH (k:=k) Zby (fun vs H Q E h=>?_) (fun cdv A outer s H vs Q E hr h=>?_)
 ·obtain⟨v,d,rfl,_⟩:=h;rfl
 obtain⟨v,d,rfl,iv,nw,dn,n1,fin⟩:=h
 have hu:=u110 hr
 have hu0:=u0 hr
 have hu1:=hu_of hr
 refine⟨_,(wss_cons (ws_if (wt_not (wt_val (we_callB call_isi rfl T.z_isinstance bt_isinstance (wa_cons (wv 0) (wa_cons (we_bltn rfl T.z_tuple bt_tuple (relv_ty _)) wa_nil))))) (wss_one (ws_ret we_bl)) wss_nil)
   (wss_cons (ws_if (wt_pw (ww_and (wt_cmpR (op_eqU hu) (we_callB call_lenU rfl T.z_len bt_len (wa_cons (wv 0) wa_nil)) we_int (nomark _)) (ww_and1 (wt_cmpR (op_eqU hu) (we_ix (ix_U hu1) (wv 0) we_int (fun _ _=>rfl)) we_str (nomark _))))) (wss_one (ws_ret we_bl)) wss_nil)
   (wss_one (ws_ret (we_cmpR (op_neU hu) (we_lc (Nt:=["part"]) (fr:=[]) (LcOk.of (sc:=defScope (top 39)) (N:=["asked"]) rfl rfl (by decide +kernel)) rfl (wi_U (wv 0)) (fun z=>wg_name (i:=0) (by show (["part"]:List Str).Nodup;decide +kernel) rfl (Or.inl rfl) (.inr rfl)) (fun z=>tgt_name (by decide)) (fun z=>wif_one (wt_val (we_call ZaG (hr.mono (by lia)) rfl Zai.mg Zai.kp Zai.b .nil pass0 (wa_cons (wv 0) wa_nil)))) (fun z=>(wv 0))) (we_lst wa_nil) (nomark _)))))),?_⟩
 cases nw with
 | int i=>
  rw[IsDt]at iv
  subst iv
  refine⟨_,rfl,_,_,false,rfl,.inl ⟨rfl,.inl ⟨⟨i,rfl⟩,rfl⟩⟩,_,rfl,iteT ?_⟩
  have:=fin H (.refl _)
  rw[hasD]at this
  exact this
 | str z=>
  rw[IsDt]at iv
  subst iv
  refine⟨_,rfl,_,_,false,rfl,.inl ⟨rfl,.inr (.inl ⟨⟨z,rfl⟩,rfl⟩)⟩,_,rfl,iteT ?_⟩
  have:=fin H (.refl _)
  rw[hasD]at this
  exact this
 | tup ds hl hn=>
  rw[IsDt]at iv
  obtain⟨a,xs,rfl,ha,ia⟩:=iv
  have lx:=ia.length
  have dd:∀ d∈ds,d.dep<n:=fun d hd=>by have:=dep_mem' hd;rw[Dt.dep]at dn;lia
  refine⟨_,rfl,_,_,true,rfl,.inl ⟨rfl,.inr (.inr ⟨⟨a,xs,rfl,ha⟩,rfl⟩)⟩,_,rfl,iteF ?_⟩
  dsimp only[tNext]
  refine seqH fun N1 to1=>?_
  have go:((decide (ds.length=2) && decide (ds[0]?=some (.str "table")))=false)->N1 [some (.ref a)] H:=by
   intro e0
   refine to1 _ _ ?_
   rw[hasD,e0,Bool.false_or]at fin
   refine .inr ⟨_,rfl,a,rfl,⟨xs,SqT.of ha⟩,?_⟩
   refine⟨fun i m zs H'=>m+i=ds.length/\Same H H'/\(zs=[] ↔ hasL (ds.take i)=false)/\zs.length<=i,⟨ds.length,rfl,.refl _,by simp [hasL],Nat.le_refl _⟩,?_⟩
   rintro i m zs H' ⟨hm,s1,hz,lz⟩
   refine⟨line1 (by lia),?_⟩
   by_cases hi:i<ds.length
   ·obtain⟨v1,e1,d1⟩:=ia.get (i:=i) (d:=ds[i]) (List.getElem?_eq_getElem hi)
    refine .inr ⟨⟨_,_,SqT.of (s1 _ _ ha),e1⟩,fun z x H5 hy=>?_⟩
    obtain⟨rfl,hx⟩:=hy
    have e4:=hx _ (SqT.of (s1 _ _ ha))
    rw[e1]at e4
    cases e4
    have et:hasL (ds.take (i+1))=(hasL (ds.take i) || hasD ds[i]):=by
     rw[List.take_add_one,List.getElem?_eq_getElem hi,hasL_app]
     show (_ || hasL [ds[i]])=_
     rw[hasL,hasL,Bool.or_false]
    refine⟨_,rfl,v1,ds[i],rfl,IsDt.mono s1.tups d1,hn _ (List.getElem_mem hi),dd _ (List.getElem_mem hi),by lia,fun H6 s6=>⟨_,rfl,?_⟩⟩
    refine ite2 (fun e5=>?_) (fun e5=>?_)
    ·exact⟨_,rfl,m-1,by lia,by lia,s1.trans s6,by rw[et,e5];simp,by rw[List.length_append];show _+1<=_;lia⟩
    ·refine⟨m-1,by lia,by lia,s1.trans s6,?_,by lia⟩
     have:hasD ds[i]=false:=by simpa using e5
     rw[et,this,Bool.or_false];exact hz
   ·refine .inl ⟨⟨_,SqT.of (s1 _ _ ha),by lia⟩,fun l hl'=>⟨(by show 0<=sizeLine;decide),fun l2 hl2=>?_⟩⟩
    rw[List.take_of_length_le (by lia)]at hz
    refine .inr (.inr ⟨l,l2,zs,rfl,rfl,same_new hl2 _ _ _ upd_same,upd_same,?_⟩)
    have e6:hasL ds=decide (zs≠[]):=by
     cases h:hasL ds with
     | true=>rw[h]at hz;simp at hz;simp [hz]
     | false=>rw[h]at hz;simp at hz;simp [hz]
    have:=fin _ (s1.trans ((same_new hl' (.lst zs)).trans (same_new hl2 (.lst []))))
    rw[e6]at this
    exact this
  refine⟨_,rfl,.inl ⟨a,xs,rfl,.inr (SqT.of ha),.inl ⟨rfl,_,rfl,?_⟩⟩⟩
  refine ite2 (fun e1=>?_) (fun e1=>go ?_)
  ·have e2:xs.length=2:=by have:=of_decide_eq_true e1;injection this with h;lia
   obtain⟨d0,d1,rfl⟩:∃ d0 d1,ds=[d0,d1]:=by
    match ds,lx with
    | [x,y],_=>exact⟨x,y,rfl⟩
    | [],h=>rw[e2]at h;cases h
    | [x],h=>rw[e2]at h;cases h
    | x::y::z::r,h=>rw[e2]at h;simp at h
   obtain⟨v0,e3,i0⟩:=ia.get (i:=0) (d:=d0) rfl
   refine⟨_,rfl,.inr (.inl ⟨a,xs,0,v0,rfl,rfl,SqT.of ha,(show atI xs ((0:Nat):Int)=some v0 from atI_nat e3),.inr ⟨d0,.str "table",i0,isDt_str _,by have:=dd d0 (by simp);unfold depMax;lia,_,rfl,?_⟩⟩)⟩
   refine ite2 (fun e4=>?_) (fun e4=>go ?_)
   ·have e5:d0=.str "table":=of_decide_eq_true e4
    subst e5
    have h2:hasD (.tup [.str "table",d1])=true:=by rw[hasD];simp
    have:=fin H (.refl _)
    rw[h2]at this
    exact this
   ·have:¬d0=.str "table":=fun z=>e4 (decide_eq_true z)
    simp [this]
  ·have:¬ds.length=2:=fun z=>e1 (decide_eq_true (by rw[lx,z];rfl))
   simp [this]
theorem has_all (T:Tx mg) (Zai:Df K mg "_law_has" (top 39) f fd ["asked"]):∀ n:Nat,FnOk P w K mg base CX0 n f fd ["asked"] (spHas n)
 | 0=>fn_false fun vs H Q E h=>by obtain⟨v,d,_,_,_,h,_⟩:=h;lia
 | n+1=>ok_has T Zai (has_all T Zai n)
end
end K30
end
section
namespace L2
open PySem PySem.Spec PyProof.Rows
section
variable {X:Cx}
def rInDT (K:PySem.W.Frag):R2:=fun x y H Q=>∃ p xs d ds,y=.ref p/\SqT K H p xs/\IsDt H d x/\IsDts H ds xs/\depL ds<=depMax/\Q (.bl (decide (d∈ds))) H
theorem op_inDT (hu:X.A.units+110<cLine):OpR X (compareOp .In) (rInDT X.K):=by
 intro pins s σ H x y v u Q I rx ry h
 obtain⟨p,xs,d,ds,rfl,hq,ix,is,hd,q⟩:=h
 cases ry
 obtain⟨its,r,pl,hz⟩:=I.tuple hq
 obtain⟨m1,m2⟩:=mem_eqD (A:=X.A.in1) I.hok (by show X.A.units+1+depMax<cLine;unfold depMax;lia) rx ix hd is r
 refine SeqAt.in_tupleAt (eqDv H d) pl (fun w hw=>m1 w (by simpa using hw)) ⟨.bl _,H,I,rfl,?_⟩
 rw[show its.toArray.any (eqDv H d)=its.any (eqDv H d) by simp,any_map_of m2]
 exact q
end
end L2
namespace K30
open PySem L2 Kn
noncomputable def bad1 (ds:List Dt):Bool:=decide (1<ds.length) && (decide (ds.getD 0 (.int 0)∈[Dt.str "one",Dt.str "at"]) && hasD (.tup ds))
noncomputable def bad2 (ds:List Dt):Bool:=decide (ds.length=4) && (decide (ds.getD 0 (.int 0)=Dt.str "let") && hasD (ds.getD 2 (.int 0)))
mutual
noncomputable def evenD:Dt->Bool
 | .tup ds=>!bad1 ds && (!bad2 ds && evenL ds)
 | .int _=>true
 | .str _=>true
noncomputable def evenL:List Dt->Bool
 | []=>true
 | d::ds=>evenD d && evenL ds
end
theorem evenL_app:∀ (a b:List Dt),evenL (a++b)=(evenL a && evenL b)
 | [],b=>by rw[List.nil_append,evenL,Bool.true_and]
 | d::a,b=>by rw[List.cons_append,evenL,evenL,evenL_app a b,Bool.and_assoc]
section
variable {P:Program}{w:World}{K:PySem.W.Frag}{mg:Str->Option Value}{base:Heap}{f f_has:Addr}{fd fd_has:FuncData}
theorem Zbz:FnScope ["asked"] ["asked"] (defScope (top 40)):=⟨rfl,rfl,rfl,by decide +kernel,rfl,by decide +kernel,by decide +kernel⟩
def spEven (n:Nat):Sp:=fun vs H Q _=>∃ (v:V) (d:Dt),vs=[v]/\IsDt H d v/\Nrw d/\d.dep<n/\n<=99/\∀ H',Same H H'->Q (.bl (evenD d)) H'
theorem ok_even {k n:Nat} (hk:100<=k) (T:Tx mg) (Zao:Df K mg "_law_even" (top 40) f fd ["asked"]) (Zba:FnOk P w K mg base CX0 k f fd ["asked"] (spEven n)) (Zai:Df K mg "_law_has" (top 39) f_has fd_has ["asked"]) (ZaG:FnOk P w K mg base CX0 100 f_has fd_has ["asked"] (spHas 100)):FnOk P w K mg base CX0 (k+1) f fd ["asked"] (spEven (n+1)):=by
 refine Zao.fn.okH (k:=k) Zbz (fun vs H Q E h=>?_) (fun cdv A outer s H vs Q E hr h=>?_)
 ·obtain⟨v,d,rfl,_⟩:=h;rfl
 obtain⟨v,d,rfl,iv,nw,dn,n1,fin⟩:=h
 have hu:=u110 hr
 have hu0:=u0 hr
 have hu1:=hu_of hr
 refine⟨_,(wss_cons (ws_if (wt_not (wt_val (we_callB call_isi rfl T.z_isinstance bt_isinstance (wa_cons (wv 0) (wa_cons (we_bltn rfl T.z_tuple bt_tuple (relv_ty _)) wa_nil))))) (wss_one (ws_ret we_bl)) wss_nil)
   (wss_cons (ws_if (wt_pw (ww_and (wt_cmpR op_gt (we_callB call_lenU rfl T.z_len bt_len (wa_cons (wv 0) wa_nil)) we_int (nomark _)) (ww_and (wt_cmpR (op_inDT hu) (we_ix (ix_U hu1) (wv 0) we_int (fun _ _=>rfl)) (we_tup (wa_consts rfl)) (by with_unfolding_all rfl)) (ww_and1 (wt_val (we_call ZaG (hr.mono (by lia)) rfl Zai.mg Zai.kp Zai.b .nil pass0 (wa_cons (wv 0) wa_nil))))))) (wss_one (ws_ret we_bl)) wss_nil)
   (wss_cons (ws_if (wt_pw (ww_and (wt_cmpR (op_eqX hu) (we_callB call_lenU rfl T.z_len bt_len (wa_cons (wv 0) wa_nil)) we_int (nomark _)) (ww_and (wt_cmpR (op_eqX hu) (we_ix (ix_U hu1) (wv 0) we_int (fun _ _=>rfl)) we_str (nomark _)) (ww_and1 (wt_val (we_call ZaG (hr.mono (by lia)) rfl Zai.mg Zai.kp Zai.b .nil pass0 (wa_cons (we_ix (ix_U hu1) (wv 0) we_int (fun _ _=>rfl)) wa_nil))))))) (wss_one (ws_ret we_bl)) wss_nil)
   (wss_one (ws_ret (we_cmpR (op_eqX hu) (we_lc (Nt:=["part"]) (fr:=[]) (LcOk.of (sc:=defScope (top 40)) (N:=["asked"]) rfl rfl (by decide +kernel)) rfl (wi_U (wv 0)) (fun z=>wg_name (i:=0) (by show (["part"]:List Str).Nodup;decide +kernel) rfl (Or.inl rfl) (.inr rfl)) (fun z=>tgt_name (by decide)) (fun z=>wif_one (wt_not (wt_val (we_call Zba (hr.mono (by lia)) rfl Zao.mg Zao.kp Zao.b .nil pass0 (wa_cons (wv 0) wa_nil))))) (fun z=>(wv 0))) (we_lst wa_nil) (nomark _))))))),?_⟩
 have nw':=nw
 have iv':=iv
 cases nw with
 | int i=>
  rw[IsDt]at iv
  subst iv
  refine⟨_,rfl,_,_,false,rfl,.inl ⟨rfl,.inl ⟨⟨i,rfl⟩,rfl⟩⟩,_,rfl,iteT ?_⟩
  have:=fin H (.refl _)
  rw[evenD]at this
  exact this
 | str z=>
  rw[IsDt]at iv
  subst iv
  refine⟨_,rfl,_,_,false,rfl,.inl ⟨rfl,.inr (.inl ⟨⟨z,rfl⟩,rfl⟩)⟩,_,rfl,iteT ?_⟩
  have:=fin H (.refl _)
  rw[evenD]at this
  exact this
 | tup ds hl hn=>
  rw[IsDt]at iv
  obtain⟨a,xs,rfl,ha,ia⟩:=iv
  have lx:=ia.length
  have dd:∀ d∈ds,d.dep<n:=fun d hd=>by have:=dep_mem' hd;rw[Dt.dep]at dn;lia
  refine⟨_,rfl,_,_,true,rfl,.inl ⟨rfl,.inr (.inr ⟨⟨a,xs,rfl,ha⟩,rfl⟩)⟩,_,rfl,iteF ?_⟩
  dsimp only[tNext]
  refine seqH fun N1 to1=>?_
  have go1:∀ H1,Same H H1->bad1 ds=false->N1 [some (.ref a)] H1:=by
   intro H1 s1 b1
   refine to1 _ _ ?_
   have ha1:=s1 _ _ ha
   have ia1:=IsDts.mono s1.tups ia
   refine seqH fun N2 to2=>?_
   have go2:∀ H2,Same H H2->bad2 ds=false->N2 [some (.ref a)] H2:=by
    intro H2 s2 b2
    refine to2 _ _ ?_
    have ha2:=s2 _ _ ha
    have ia2:=IsDts.mono s2.tups ia
    have fin2:∀ H',Same H2 H'->Q (.bl (evenL ds)) H':=fun H' s=>by
     have:=fin H' (s2.trans s)
     rw[evenD,b1,b2,Bool.not_false,Bool.true_and,Bool.true_and]at this
     exact this
    clear fin
    refine .inr ⟨_,rfl,a,rfl,⟨xs,SqT.of ha2⟩,?_⟩
    refine⟨fun i m zs H'=>m+i=ds.length/\Same H2 H'/\(∃ es:List Dt,IsDts H' es zs/\(es=[] ↔ evenL (ds.take i)=true)/\depL es<=depMax)/\zs.length<=i,⟨ds.length,rfl,.refl _,⟨[],.nil,by simp [evenL],by rw[depL];exact Nat.zero_le _⟩,Nat.le_refl _⟩,?_⟩
    rintro i m zs H' ⟨hm,s3,⟨es,ie,hz,de⟩,lz⟩
    refine⟨line1 (by lia),?_⟩
    by_cases hi:i<ds.length
    ·obtain⟨v1,e1,d1⟩:=ia2.get (i:=i) (d:=ds[i]) (List.getElem?_eq_getElem hi)
     refine .inr ⟨⟨_,_,SqT.of (s3 _ _ ha2),e1⟩,fun z x H5 hy=>?_⟩
     obtain⟨rfl,hx⟩:=hy
     have e4:=hx _ (SqT.of (s3 _ _ ha2))
     rw[e1]at e4
     cases e4
     have et:evenL (ds.take (i+1))=(evenL (ds.take i) && evenD ds[i]):=by
      rw[List.take_add_one,List.getElem?_eq_getElem hi,evenL_app]
      show (_ && evenL [ds[i]])=_
      rw[evenL,evenL,Bool.and_true]
     have ddi:=dd _ (List.getElem_mem hi)
     refine⟨_,rfl,v1,ds[i],rfl,IsDt.mono s3.tups d1,hn _ (List.getElem_mem hi),ddi,by lia,fun H6 s6=>⟨_,rfl,?_⟩⟩
     cases hv:evenD ds[i] with
     | true=>exact iteF ⟨m-1,by lia,by lia,s3.trans s6,⟨es,IsDts.mono s6.tups ie,by rw[et,hv,Bool.and_true];exact hz,de⟩,by lia⟩
     | false=>
      refine iteT ⟨_,rfl,m-1,by lia,by lia,s3.trans s6,⟨es++[ds[i]],(IsDts.mono s6.tups ie).append (.one (IsDt.mono (s3.trans s6).tups d1)),by rw[et,hv];simp,?_⟩,by rw[List.length_append];show _+1<=_;lia⟩
      refine depL_of fun x hx=>?_
      rcases List.mem_append.mp hx with h | h
      ·exact Nat.le_trans (dep_mem' h) de
      ·rw[List.mem_singleton.mp h];unfold depMax;lia
    ·refine .inl ⟨⟨_,SqT.of (s3 _ _ ha2),by lia⟩,fun l hl'=>⟨(by show 0<=sizeLine;decide),fun l2 hl2=>?_⟩⟩
     rw[List.take_of_length_le (by lia)]at hz
     have sF:=(same_new hl' (.lst zs)).trans (same_new hl2 (.lst []))
     refine .inr ⟨l,l2,zs,[],es,[],rfl,rfl,same_new hl2 _ _ _ upd_same,upd_same,IsDts.mono sF.tups ie,.nil,de,?_⟩
     have e6:evenL ds=decide (es=[]):=by
      cases h:evenL ds with
      | true=>rw[h]at hz;simp at hz;simp [hz]
      | false=>rw[h]at hz;simp at hz;simp [hz]
     have:=fin2 _ (s3.trans sF)
     rw[e6]at this
     exact this
   -- a let whose first part has a table
   refine⟨_,rfl,.inl ⟨a,xs,rfl,.inr (SqT.of ha1),.inl (.inl ⟨rfl,_,rfl,?_⟩)⟩⟩
   refine ite2 (fun e1=>?_) (fun e1=>go2 H1 s1 ?_)
   ·have e2:ds.length=4:=by have:=of_decide_eq_true e1;injection this with h;lia
    have g0:ds.getD 0 (.int 0)=ds[0]:=by rw[List.getD_eq_getElem?_getD,List.getElem?_eq_getElem (by lia)];rfl
    have g2:ds.getD 2 (.int 0)=ds[2]:=by rw[List.getD_eq_getElem?_getD,List.getElem?_eq_getElem (by lia)];rfl
    obtain⟨v0,e3,i0⟩:=ia1.get (i:=0) (d:=ds[0]) (List.getElem?_eq_getElem (by lia))
    obtain⟨v2,e4,i2⟩:=ia1.get (i:=2) (d:=ds[2]) (List.getElem?_eq_getElem (by lia))
    have dd0:=dd ds[0] (List.getElem_mem (by lia))
    have dd2:=dd ds[2] (List.getElem_mem (by lia))
    refine⟨_,rfl,.inr (.inl ⟨a,xs,0,v0,rfl,rfl,SqT.of ha1,(show atI xs ((0:Nat):Int)=some v0 from atI_nat e3),.inl (.inr ⟨ds[0],.str "let",i0,isDt_str _,by unfold depMax;lia,_,rfl,?_⟩)⟩)⟩
    refine ite2 (fun e5=>?_) (fun e5=>go2 H1 s1 ?_)
    ·have e5':ds[0]=Dt.str "let":=of_decide_eq_true e5
     refine⟨_,rfl,.inr (.inl ⟨a,xs,2,v2,rfl,rfl,SqT.of ha1,(show atI xs ((2:Nat):Int)=some v2 from atI_nat e4),v2,ds[2],rfl,i2,hn _ (List.getElem_mem (by lia)),by lia,Nat.le_refl _,fun H3 s3=>⟨_,rfl,?_⟩⟩)⟩
     cases hv:hasD ds[2] with
     | true=>
      refine iteT ?_
      have b2:bad2 ds=true:=by unfold bad2;rw[g0,g2,hv,decide_eq_true e2,decide_eq_true e5'];rfl
      have:=fin H3 (s1.trans s3)
      rw[evenD,b1,b2]at this
      exact this
     | false=>exact iteF (go2 H3 (s1.trans s3) (by unfold bad2;rw[g2,hv];simp))
    ·have:¬ds[0]=Dt.str "let":=fun z=>e5 (decide_eq_true z)
     unfold bad2;rw[g0];simp [this]
   ·have:¬ds.length=4:=fun z=>e1 (decide_eq_true (by rw[lx,z];rfl))
    unfold bad2;simp [this]
  refine⟨_,rfl,.inl ⟨a,xs,rfl,.inr (SqT.of ha),_,_,rfl,rfl,_,rfl,?_⟩⟩
  refine ite2 (fun e1=>?_) (fun e1=>go1 H (.refl _) ?_)
  ·have e2:1<ds.length:=by have:=of_decide_eq_true e1;lia
   have g0:ds.getD 0 (.int 0)=ds[0]:=by rw[List.getD_eq_getElem?_getD,List.getElem?_eq_getElem (by lia)];rfl
   obtain⟨v0,e3,i0⟩:=ia.get (i:=0) (d:=ds[0]) (List.getElem?_eq_getElem (by lia))
   have dd0:=dd ds[0] (List.getElem_mem (by lia))
   refine⟨_,rfl,.inr (.inl ⟨a,xs,0,v0,rfl,rfl,SqT.of ha,(show atI xs ((0:Nat):Int)=some v0 from atI_nat e3),(by show 2<=sizeLine;decide),fun tp htp=>?_⟩)⟩
   have sT:=same_new htp (.tup [V.str "one",V.str "at"])
   refine⟨tp,_,ds[0],[Dt.str "one",Dt.str "at"],rfl,SqT.of upd_same,IsDt.mono sT.tups i0,.cons (isDt_str _) (.one (isDt_str _)),by decide,_,rfl,?_⟩
   refine ite2 (fun e5=>?_) (fun e5=>go1 _ sT ?_)
   ·have e5':ds[0]∈[Dt.str "one",Dt.str "at"]:=of_decide_eq_true e5
    refine⟨_,rfl,_,.tup ds,rfl,IsDt.mono sT.tups iv',nw',by lia,Nat.le_refl _,fun H3 s3=>⟨_,rfl,?_⟩⟩
    cases hv:hasD (.tup ds) with
    | true=>
     refine iteT ?_
     have b1:bad1 ds=true:=by unfold bad1;rw[g0,hv,decide_eq_true e2,decide_eq_true e5'];rfl
     have:=fin H3 (sT.trans s3)
     rw[evenD,b1]at this
     exact this
    | false=>exact iteF (go1 H3 (sT.trans s3) (by unfold bad1;rw[hv];simp))
   ·have:decide (ds[0]∈[Dt.str "one",Dt.str "at"])=false:=decide_eq_false fun z=>e5 (decide_eq_true z)
    unfold bad1;rw[g0,this];simp
  ·have:¬1<ds.length:=fun z=>e1 (decide_eq_true (by show (1:Int)<(xs.length:Int);lia))
   unfold bad1;simp [this]
theorem even_all (T:Tx mg) (Zao:Df K mg "_law_even" (top 40) f fd ["asked"]) (Zai:Df K mg "_law_has" (top 39) f_has fd_has ["asked"]) (ZaG:FnOk P w K mg base CX0 100 f_has fd_has ["asked"] (spHas 100)):∀ n:Nat,FnOk P w K mg base CX0 (n+100) f fd ["asked"] (spEven n)
 | 0=>fn_false fun vs H Q E h=>by obtain⟨v,d,_,_,_,h,_⟩:=h;lia
 | n+1=>by
  have:=ok_even (by lia) T Zao (even_all T Zao Zai ZaG n) Zai ZaG
  rw[show n+100+1=n+1+100 by lia]at this
  exact this
end
end K30
end
section
namespace K30
open PySem L2 Kn
theorem vne {a b:Str} (h:a≠b):¬(decide (V.str a=V.str b)=true):=fun z=>h (by have:=of_decide_eq_true z;injection this)
theorem veq {a:V}:decide (a=a)=true:=decide_eq_true rfl
theorem tr_row {H:Hp}{ps:List (Str×Tr)}{v:V} (h:IsDt H (tdat (.row ps)) v):∃ a b ys,v=.ref a/\H a=some (.tup [.str "row",.ref b])/\H b=some (.tup ys)/\IsDts H (tdatR ps) ys:=by
 rw[tdat,IsDt]at h
 obtain⟨a,xs,rfl,h1,h2⟩:=h
 rw[IsDts]at h2
 obtain⟨y1,r1,rfl,h3,h4⟩:=h2
 rw[IsDts]at h4
 obtain⟨y2,r2,rfl,h5,h6⟩:=h4
 rw[IsDts]at h6
 subst h6
 rw[IsDt]at h3
 subst h3
 rw[IsDt]at h5
 obtain⟨b,ys,rfl,h7,h8⟩:=h5
 exact⟨a,b,ys,rfl,h1,h7,h8⟩
theorem tr_item {H:Hp}{ps:List (Str×Tr)}{ys:List V}{i:Nat}{y:V} (h:IsDts H (tdatR ps) ys) (e:ys[i]?=some y):∃ p c u,ps[i]?=some p/\y=.ref c/\H c=some (.tup [.str p.1,u])/\IsDt H (tdat p.2) u:=by
 have hl:=h.length
 have hi:i<ys.length:=(List.getElem?_eq_some_iff.mp e).1
 have hp:i<ps.length:=by rw[tdatR_map,List.length_map]at hl;lia
 obtain⟨z,e1,d1⟩:=h.get (i:=i) (d:=.tup [.str ps[i].1,tdat ps[i].2]) (by rw[tdatR_map,List.getElem?_map,List.getElem?_eq_getElem hp];rfl)
 rw[e]at e1
 cases e1
 rw[IsDt]at d1
 obtain⟨c,xs,rfl,h1,h2⟩:=d1
 rw[IsDts]at h2
 obtain⟨y1,r1,rfl,h3,h4⟩:=h2
 rw[IsDts]at h4
 obtain⟨y2,r2,rfl,h5,h6⟩:=h4
 rw[IsDts]at h6
 subst h6
 rw[IsDt]at h3
 subst h3
 exact⟨ps[i],c,y2,List.getElem?_eq_getElem hp,rfl,h1,h5⟩
def atV:At->V
 | .int i=>.int i
 | .txt s=>.str s
theorem isDt_at {H:Hp}{a:At}{u:V} (h:IsDt H (atD a) u):u=atV a:=by
 cases a with
 | int i=>rw[atD,IsDt]at h;exact h
 | txt s=>rw[atD,IsDt]at h;exact h
theorem isDts_ats {H:Hp}:∀ (as:List At) (ds:List Dt) (xs:List V),IsDts H (as.map atD++ds) xs->∃ zs,xs=as.map atV++zs/\IsDts H ds zs
 | [],ds,xs,h=>⟨xs,rfl,h⟩
 | a::as,ds,xs,h=>by
  rw[List.map_cons,List.cons_append,IsDts]at h
  obtain⟨y,r,rfl,h1,h2⟩:=h
  obtain⟨zs,e,h3⟩:=isDts_ats as ds r h2
  exact⟨zs,by rw[isDt_at h1,e];rfl,h3⟩
theorem tr_node {H:Hp}{w:Str}{as:List At}{ps:List Tr}{v:V} (h:IsDt H (tdat (.node w as ps)) v):∃ a zs,v=.ref a/\H a=some (.tup (.str w::(as.map atV++zs)))/\IsDts H (ps.map tdat) zs:=by
 rw[tdat,IsDt]at h
 obtain⟨a,xs,rfl,h1,h2⟩:=h
 rw[IsDts]at h2
 obtain⟨y1,r1,rfl,h3,h4⟩:=h2
 rw[IsDt]at h3
 subst h3
 obtain⟨zs,rfl,h5⟩:=isDts_ats as _ r1 h4
 rw[tdatL_map]at h5
 exact⟨a,zs,rfl,h1,h5⟩
theorem isDts_one {H:Hp}{d:Dt}{zs:List V} (h:IsDts H [d] zs):∃ u,zs=[u]/\IsDt H d u:=by
 rw[IsDts]at h
 obtain⟨y,r,rfl,h1,h2⟩:=h
 rw[IsDts]at h2
 subst h2
 exact⟨y,rfl,h1⟩
theorem isDts_nil' {H:Hp}{zs:List V} (h:IsDts H [] zs):zs=[]:=by rw[IsDts]at h;exact h
theorem inV_str (w:Str):∀ l:List Str,inV (.str w) (l.map V.str)=true ↔ w∈l
 | []=>by simp [inV]
 | x::l=>by
  have ih:=inV_str w l
  unfold inV at ih ⊢
  rw[List.map_cons,List.any_cons,Bool.or_eq_true,ih,List.mem_cons]
  show (x == w)=true\/_ ↔ _
  rw[beq_iff_eq]
  exact⟨fun h=>h.elim (fun e=>.inl e.symm) .inr,fun h=>h.elim (fun e=>.inl e.symm) .inr⟩
theorem flat_strs (l:List Str):(l.map V.str).all flatV=true:=by rw[List.all_map];exact List.all_eq_true.mpr fun _ _=>rfl
theorem cutN {xs:List V}{k:Nat}:cutV xs (some (k:Int)) none=xs.drop k:=by
 unfold cutV
 rw[HT.sIx_nat,show HT.sIx xs.length xs.length none=xs.length from rfl]
 rw[List.take_of_length_le (by rw[List.length_drop];lia)]
 by_cases h:k<=xs.length
 ·rw[Nat.min_eq_left h]
 ·rw[List.drop_of_length_le (by lia),List.drop_of_length_le (by lia)]
theorem ncutN {xs:List V}{k:Nat} (h:0<k) (h2:0<xs.length):¬(HT.sIx xs.length 0 (some (k:Int))=0/\HT.sIx xs.length xs.length none=xs.length):=fun z=>by
 rw[HT.sIx_nat]at z;lia
section
variable {P:Program}{w:World}{K:PySem.W.Frag}{mg:Str->Option Value}{base:Heap}{f:Addr}{fd:FuncData}{aH:Addr}
theorem ZbA:FnScope ["question"] ["question"] (defScope (top 2)):=⟨rfl,rfl,rfl,by decide +kernel,rfl,by decide +kernel,by decide +kernel⟩
def spUnder:Sp:=fun vs H Q _=>∃ (v:V) (t:Tr) (d:Nat),vs=[v]/\IsDt H (tdat t) v/\TH d t /\
 ∀ (a:Addr) (us:List V) (H':Hp),Same H H'->H' a=some (.tup us)->IsDts H' ((kids t).map tdat) us->Q (.ref a) H'
theorem ok_under (T:Tx mg) (ZbB:mg "HAVE_MORE"=some (.ref aH)) (hHM:∀ H,SqT K H aH (HM.map V.str)) (D:Df K mg "under" (top 2) f fd ["question"]):FnOk P w K mg base CX0 1 f fd ["question"] spUnder:=by
 refine D.fn.okH ZbA (fun vs H Q E h=>?_) (fun cdv A outer s H vs Q E hr h=>?_)
 ·obtain⟨v,t,d,rfl,_⟩:=h;rfl
 obtain⟨v,t,d,rfl,hx,th,fin⟩:=h
 have hu:=u110 hr
 have hu0:=u0 hr
 have hu1:=hu_of hr
 refine⟨_,(wss_cons (ws_if (wt_cmpR (op_eqU hu) (we_ix (ix_U hu1) (wv 0) we_int (fun _ _=>rfl)) we_str (nomark _)) (wss_one (ws_ret (we_callTy call_tuple_of rfl T.z_tuple bt_tuple (wa_cons (we_lc (Nt:=["field","part"]) (fr:=[]) (LcOk.of (sc:=defScope (top 2)) (N:=["question"]) rfl rfl (by decide +kernel)) rfl (wi_U (we_ix (ix_U hu1) (wv 0) we_int (fun _ _=>rfl))) (fun z=>wg_tup rfl (wgs_cons (wg_name (i:=0) (by show (["field","part"]:List Str).Nodup;decide +kernel) rfl (Or.inl rfl) (.inr rfl)) (wgs_cons (wg_name (i:=1) (by show (["field","part"]:List Str).Nodup;decide +kernel) rfl (Or.inl rfl) (.inr rfl)) wgs_nil))) (fun z=>tgt_two (by decide) (by decide)) (fun z=>wif_nil) (fun z=>(wv 1))) wa_nil)))) wss_nil)
   (wss_one (ws_ret (we_ifExp (wt_cmpR (op_inU hu) (we_ix (ix_U hu1) (wv 0) we_int (fun _ _=>rfl)) (we_glob rfl ZbB (relv_ref _)) (by with_unfolding_all rfl)) (we_slice sl_U (wv 0) (wo_some we_int) wo_none) (we_slice sl_U (wv 0) (wo_some we_int) wo_none))))),?_⟩
 cases t with
 | row ps=>
  have hl6:ps.length<=14:=by cases th with | row hl h=>exact hl
  obtain⟨a,b,ys,rfl,ha,hb,hys⟩:=tr_row hx
  have ly:ys.length=ps.length:=by rw[hys.length,tdatR_map,List.length_map]
  refine⟨_,rfl,.inr (.inl ⟨a,_,0,.str "row",rfl,rfl,SqT.of ha,rfl,.inl ⟨rfl,_,rfl,iteP veq ?_⟩⟩)⟩
  refine .inr ⟨_,rfl,.inr (.inl ⟨a,_,1,.ref b,rfl,rfl,SqT.of ha,rfl,b,rfl,⟨ys,SqT.of hb⟩,?_⟩)⟩
  refine⟨fun i2 m2 zs H2=>H2=H/\m2+i2=ps.length/\IsDts H (((ps.map (·.2)).take i2).map tdat) zs,⟨ps.length,rfl,rfl,by rw[List.take_zero];exact .nil⟩,?_⟩
  rintro i2 m2 zs H2 ⟨rfl,hm2,iz⟩
  have lz:=iz.length
  rw[List.length_map,List.length_take,List.length_map]at lz
  refine⟨line1 (by lia),?_⟩
  by_cases hi2:i2<ps.length
  ·have hyi:ys[i2]?=some ys[i2]:=List.getElem?_eq_getElem (by lia)
   refine .inr ⟨⟨_,_,SqT.of hb,hyi⟩,fun z x H5 hy2=>?_⟩
   obtain⟨rfl,hx5⟩:=hy2
   obtain rfl:ys[i2]=x:=by have:=hx5 _ (SqT.of hb);rw[hyi]at this;injection this
   obtain⟨p,c,u,hp,ey,hc,hu'⟩:=tr_item hys hyi
   rw[ey]
   refine⟨c,_,rfl,SqT.of hc,rfl,_,_,rfl,_,_,rfl,rfl,?_⟩
   refine tall ?_
   refine⟨_,rfl,m2-1,by lia,rfl,by lia,?_⟩
   rw[List.take_add_one,List.getElem?_map,hp,List.map_append]
   exact iz.append (.one hu')
  ·refine .inl ⟨⟨_,SqT.of hb,by lia⟩,fun l2 hl2=>?_⟩
   rw[List.take_of_length_le (by rw[List.length_map];lia)]at iz
   refine⟨l2,_,rfl,.inl ⟨SqL.of upd_same,fun t1 ht1=>?_⟩⟩
   exact fin t1 zs _ ((same_new hl2 _).trans (same_new ht1 _)) upd_same (IsDts.mono ((same_new hl2 _).trans (same_new ht1 _)).tups iz)
 | node wd as ps=>
  obtain⟨a,zs,rfl,ha,hzs⟩:=tr_node hx
  have hw:wd≠Str.ofString "row":=by
   cases th with
   | num=>decide +kernel
   | atom hw=>rintro rfl;revert hw;decide +kernel
   | none=>decide +kernel
   | times h=>decide +kernel
   | «at» h=>decide +kernel
   | bind hw h1 h2=>rcases hw with rfl | rfl <;> decide +kernel
   | plain hw hr hl h=>exact hr
  refine⟨_,rfl,.inr (.inl ⟨a,_,0,.str wd,rfl,rfl,SqT.of ha,(show atI (V.str wd::(as.map atV++zs)) ((0:Nat):Int)=_ from atI_nat rfl),.inl ⟨rfl,_,rfl,iteN (vne hw) ?_⟩⟩)⟩
  refine⟨_,rfl,.inr (.inl ⟨a,_,0,.str wd,rfl,rfl,SqT.of ha,(show atI (V.str wd::(as.map atV++zs)) ((0:Nat):Int)=_ from atI_nat rfl),.inl ⟨aH,_,rfl,.inr (hHM H),rfl,flat_strs HM,_,rfl,?_⟩⟩)⟩
  have key:∀ k:Nat,(k=1\/k=2)->IsDts H ((kids (.node wd as ps)).map tdat) ((V.str wd::(as.map atV++zs)).drop k)->∀ q,H q=none->Q (.ref q) (upd H q (.tup (cutV (V.str wd::(as.map atV++zs)) (some (k:Int)) none))):=fun k _ hk q hq=>by
   rw[cutN]
   exact fin q _ _ (same_new hq _) upd_same (IsDts.mono (same_new hq _).tups hk)
  refine ite2 (fun e=>?_) (fun e=>?_)
  ·have hm:wd∈HM:=(inV_str wd HM).mp e
   refine⟨_,rfl,_,rfl,.inr (.inl ⟨a,_,rfl,SqT.of ha,ncutN (k:=2) (by decide) (by simp),fun q hq=>key 2 (.inr rfl) ?_ q hq⟩)⟩
   cases th with
   | num=>
    have e0:=isDts_nil' hzs
    subst e0
    rw[kids_node];split <;> exact .nil
   | atom hw=>
    have e0:=isDts_nil' hzs
    subst e0
    rw[kids_node];split <;> exact .nil
   | none=>rw[kids_node,if_pos rfl];obtain⟨u,rfl,_⟩:=isDts_one hzs;exact .nil
   | times h=>rw[kids_ne _ _ (by decide +kernel)];exact hzs
   | «at» h=>rw[kids_ne _ _ (by decide +kernel)];exact hzs
   | bind hw2 h1 h2=>rw[kids_ne _ _ (by rcases hw2 with rfl | rfl <;> decide +kernel)];exact hzs
   | plain hw2 hr2 hl h=>exact absurd hm hw2
  ·have hm:wd ∉ HM:=fun z=>e ((inV_str wd HM).mpr z)
   refine⟨_,rfl,_,rfl,.inr (.inl ⟨a,_,rfl,SqT.of ha,ncutN (k:=1) (by decide) (by simp),fun q hq=>key 1 (.inl rfl) ?_ q hq⟩)⟩
   cases th with
   | num=>exact absurd (by decide +kernel) hm
   | atom hw=>exfalso;apply hm;revert hw;simp only[List.mem_cons,List.not_mem_nil,or_false,HM];rintro (h | h | h) <;> simp [h]
   | none=>exact absurd (by decide +kernel) hm
   | times h=>exact absurd (by decide +kernel) hm
   | «at» h=>exact absurd (by decide +kernel) hm
   | bind hw2 h1 h2=>exfalso;apply hm;rcases hw2 with rfl | rfl <;> decide +kernel
   | plain hw2 hr2 hl h=>
    have n0:¬wd=Str.ofString "none":=by rintro rfl;exact hm (by decide +kernel)
    rw[kids_node,if_neg n0];exact hzs
end
end K30
end
section
set_option maxRecDepth 8000000
namespace K30
open PySem L2 Kn
theorem wh_hideD {Nx:St->Hp->Prop}{tb:TS}{D:Ends} {σ:St} {H:Hp} (b:∀ E:Ends,(∀ σ H,Nx σ H->E.nx σ H)->(∀ v H,D.rt v H->E.rt v H)->tb E σ H):∃ N:St->Hp->Prop,(∀ σ' H',N σ' H'->Nx σ' H')/\tb { D with nx:=N,ct:=N,bk:=D.nx } σ H:=⟨Nx,fun _ _ h=>h,b _ (fun _ _ h=>h) (fun _ _ h=>h)⟩
theorem for_hide {go:Prop}{Nx:St->Hp->Prop}{J:It}{i:Nat} {σ:St} {H:Hp}{g:TG}{tb:TS}{D:Ends} (g0:go) (M:St->Hp->Prop) (hM:∀ σ H,M σ H->Nx σ H) (b:∀ E:Ends,(∀ σ H,M σ H->E.nx σ H)->(∀ v H,D.rt v H->E.rt v H)->∀ x H',J.yld i H x H'->g x σ H' fun σ2 H2=>tb E σ2 H2) :
  go/\∃ N:St->Hp->Prop,(∀ σ' H',N σ' H'->Nx σ' H')/\∀ x H',J.yld i H x H'->g x σ H' fun σ2 H2=>tb { D with nx:=N,ct:=N,bk:=D.nx } σ2 H2:=⟨g0,M,hM,b _ (fun _ _ h=>h) (fun _ _ h=>h)⟩
def wT:Tr->Str
 | .row _=>Str.ofString "row"
 | .node w _ _=>w
theorem t_at {H:Hp}{t:Tr}{u:V} (h:IsDt H (tdat t) u):∃ a xs,u=.ref a/\H a=some (.tup (.str (wT t)::xs)):=by
 cases t with
 | row ps=>obtain⟨a,b,ys,rfl,ha,_⟩:=tr_row h;exact⟨a,_,rfl,ha⟩
 | node w as ps=>obtain⟨a,zs,rfl,ha,_⟩:=tr_node h;exact⟨a,_,rfl,ha⟩
theorem at0 {x:V}{xs:List V}:atI (x::xs) 0=some x:=(show atI (x::xs) ((0:Nat):Int)=_ from atI_nat rfl)
theorem at1 {x y:V}{xs:List V}:atI (x::y::xs) 1=some y:=(show atI (x::y::xs) ((1:Nat):Int)=_ from atI_nat rfl)
theorem t_txt {H:Hp}{w s:Str}{ps:List Tr}{u:V} (h:IsDt H (tdat (.node w [.txt s] ps)) u):∃ a zs,u=.ref a/\H a=some (.tup (.str w::.str s::zs)):=by
 obtain⟨a,zs,rfl,ha,_⟩:=tr_node h
 exact⟨a,zs,rfl,ha⟩
theorem th_table {d:Nat}{t:Tr} (h:TH d t) (e:wT t=Str.ofString "table"):∃ s,t=.node (Str.ofString "table") [.txt s] []:=by
 cases h with
 | num=>(simp only[wT]at e;exact absurd e (by decide +kernel))
 | atom hw=>simp only[wT]at e;subst e;exact⟨_,rfl⟩
 | none=>(simp only[wT]at e;exact absurd e (by decide +kernel))
 | row hl h=>(simp only[wT]at e;exact absurd e (by decide +kernel))
 | times h=>(simp only[wT]at e;exact absurd e (by decide +kernel))
 | «at» h=>(simp only[wT]at e;exact absurd e (by decide +kernel))
 | bind hw _ _=>rcases hw with rfl | rfl <;> (simp only[wT]at e;exact absurd e (by decide +kernel))
 | plain hw hr hl h=>(simp only[wT]at e;exact absurd (by rw[e];decide +kernel) hw)
theorem isDts_snoc {H:Hp}:∀ {ds:List Dt}{d:Dt}{xs:List V},IsDts H (ds++[d]) xs->∃ ys y,xs=ys++[y]/\IsDts H ds ys/\IsDt H d y
 | [],d,xs,h=>by
  rw[List.nil_append,IsDts]at h
  obtain⟨y,r,rfl,h1,h2⟩:=h
  rw[IsDts]at h2
  subst h2
  exact⟨[],y,rfl,.nil,h1⟩
 | e::ds,d,xs,h=>by
  rw[List.cons_append,IsDts]at h
  obtain⟨y,r,rfl,h1,h2⟩:=h
  obtain⟨ys,z,rfl,h3,h4⟩:=isDts_snoc h2
  exact⟨y::ys,z,rfl,.cons h1 h3,h4⟩
inductive Su (s:Tr):Tr->Prop
 | here:Su s s
 | kid {t k:Tr}{i:Nat} (e:(kids t)[i]?=some k) (h:Su s k):Su s t
theorem Su.iff {x t:Tr}:Su x t ↔ (t=x\/∃ (i:Nat) (k:Tr),(kids t)[i]?=some k/\Su x k):=by
 constructor
 ·intro h
  cases h with
  | here=>exact .inl rfl
  | kid e h=>exact .inr ⟨_,_,e,h⟩
 ·rintro (rfl | ⟨i,k,e,h⟩)
  ·exact .here
  ·exact .kid e h
theorem su_tb {x:Str}{t:Tr}:Tb x t ↔ Su (.node (Str.ofString "table") [.txt x] []) t:=by
 constructor
 ·intro h
  induction h with
  | here=>exact .here
  | kid e _ ih=>exact .kid e ih
 ·intro h
  induction h with
  | here=>exact .here
  | kid e _ ih=>exact .kid e ih
def tabN (x:Str):Tr:=.node (Str.ofString "table") [.txt x] []
section
variable {P:Program}{w:World}{K:PySem.W.Frag}{mg:Str->Option Value}{base:Heap}{f Zap ZaH f_bound:Addr}{fd Zaq ZaI fd_bound:FuncData}
theorem Za2:FnScope ["question","found","waiting","part"] ["question"] (defScope (top 3)):=⟨rfl,rfl,rfl,by decide +kernel,rfl,by decide +kernel,by decide +kernel⟩
def spKnots:Sp:=fun vs H Q _=>∃ (v:V) (t:Tr),vs=[v]/\IsDt H (tdat t) v/\TH 60 t/\nq t<=80000 /\
 ∀ (p:Addr) (us:List V) (ts:List Tr) (H':Hp),Same H H'->H p=none->H' p=some (.lst us)->IsDts H' (ts.map tdat) us->(∀ q∈ts,TH 60 q)->(∀ x,Su x t ↔ x∈ts)->ts.length<=80000->Q (.ref p) H'
theorem ok_knots (T:Tx mg) (D:Df K mg "knots" (top 3) f fd ["question"]) (Zaf:Df K mg "under" (top 2) Zap Zaq ["question"]) (ZaJ:FnOk P w K mg base CX0 1 Zap Zaq ["question"] spUnder):FnOk P w K mg base CX0 2 f fd ["question"] spKnots:=by
 refine D.fn.okH (k:=1) Za2 (fun vs H Q E h=>?_) (fun cdv A outer s H vs Q E hr h=>?_)
 ·obtain⟨v,t,rfl,_⟩:=h;rfl
 obtain⟨v,t0,rfl,hx,th,n2,fin⟩:=h
 have hu:=u110 hr
 have hu0:=u0 hr
 have hu1:=hu_of hr
 refine⟨_,(wss_cons (ws_set (i:=1) Za2.nd rfl (Or.inl rfl) (we_lst wa_nil))
   (wss_cons (ws_set (i:=2) Za2.nd rfl (Or.inl rfl) (we_lst (wa_cons (wv 0) wa_nil)))
   (wss_cons (ws_while PassesOwn.never (wt_truth (wv 2) (fun _=>rfl)) (wss_cons (ws_set (i:=3) Za2.nd rfl (Or.inl rfl) (we_bm0 PySem.F.plainAttrs_list PySem.F.slot_list_pop PySem.F.type_list_pop mt_pop (wv 2)))
   (wss_cons (ws_expr (we_bm PySem.F.plainAttrs_list PySem.F.slot_list_append PySem.F.type_list_append mt_append (wv 1) (wa_cons (wv 3) wa_nil)))
   (wss_one (ws_expr (we_bm PySem.F.plainAttrs_list PySem.F.slot_list_extend PySem.F.type_list_extend mt_extendU (wv 2) (wa_cons (we_call ZaJ (hr.mono (by lia)) rfl Zaf.mg Zaf.kp Zaf.b .nil pass0 (wa_cons (wv 3) wa_nil)) wa_nil)))))))
   (wss_one (ws_ret (wv 1)))))),?_⟩
 obtain⟨X',gX'⟩:∃ X',X'=(cxOf CX0 P w K mg base ["question","found","waiting","part"] "knots" (defScope (top 3)) f cdv A outer s H E).nox:=⟨_,rfl⟩
 try rw[<- gX']
 clear gX'
 refine⟨(by show 0<=sizeLine;decide),fun p hp=>?_⟩
 refine⟨_,rfl,(by show 1<=sizeLine;decide),fun l hl=>?_⟩
 have sA:=(same_new hp (.lst [])).trans (same_new hl (.lst [v]))
 have hpA:(upd (upd H p (.lst [])) l (.lst [v])) p=some (.lst []):=same_new hl _ _ _ upd_same
 have hlA:(upd (upd H p (.lst [])) l (.lst [v])) l=some (.lst [v]):=upd_same
 have hlH:H l=none:=same_back (same_new hp (.lst [])) hl
 have npl:p≠l:=fun z=>by rw[z,upd_same]at hl;cases hl
 generalize upd (upd H p (.lst [])) l (.lst [v])=H1 at sA hpA hlA ⊢
 refine⟨fun m σ H'=>∃ (ts ws:List Tr) (us zs:List V) (o3:Option V),σ=[some v,some (.ref p),some (.ref l),o3]/\Same H H'/\H' p=some (.lst us)/\H' l=some (.lst zs)/\IsDts H' (ts.map tdat) us/\IsDts H' (ws.map tdat) zs/\(∀ q∈ts,TH 60 q)/\(∀ q∈ws,TH 60 q)/\(∀ x,Su x t0 ↔ x∈ts\/∃ q∈ws,Su x q)/\m=(ws.map nq).sum/\ts.length+(ws.map nq).sum<=80000,
  ⟨_,[],[t0],[],[v],none,rfl,sA,hpA,hlA,.nil,.one (IsDt.mono sA.tups hx),(fun q hq=>nomatch hq),fun q hq=>by rw[List.mem_singleton.mp hq];exact th,fun x=>by simp,rfl,by simp;lia⟩,?_⟩
 rintro m σ H2 ⟨ts,ws,us,zs,o3,rfl,s2,hp2,hl2,iu,iz,tht,thw,mem,rfl,ln⟩
 refine⟨_,rfl,_,.inl ⟨zs,SqL.of hl2,rfl⟩,?_⟩
 have lus:us.length=ts.length:=by rw[iu.length,List.length_map]
 have lzs:zs.length=ws.length:=by rw[iz.length,List.length_map]
 have lws:=len_nq ws
 rcases List.eq_nil_or_concat ws with rfl | ⟨rest,t,ews⟩
 ·obtain rfl:=isDts_nil' iz
  refine iteF ?_
  refine⟨_,rfl,fin p us ts H2 s2 hp hp2 iu tht (fun x=>(mem x).trans ?_) (by simpa using ln)⟩
  simp
 ·rw[List.concat_eq_append]at ews
  subst ews
  rw[List.map_append]at iz
  obtain⟨ys,y,rfl,iys,iy⟩:=isDts_snoc iz
  refine iteP (by simp) ?_
  refine wh_hideD fun E' toN _=>?_
  have tht':=thw t (by simp)
  refine⟨_,rfl,.inl ⟨rfl,_,SqL.of hl2⟩,l,ys++[y],y,rfl,rfl,hl2,by simp,?_⟩
  rw[List.dropLast_concat]
  have s3:Same H (upd H2 l (.lst ys)):=fun b o e=>by rw[upd_ne (ne_of_none e hlH)];exact s2 b o e
  have t3:Tups H2 (upd H2 l (.lst ys)):=Tups.lst hl2
  have hp3:(upd H2 l (.lst ys)) p=some (.lst us):=by rw[upd_ne npl];exact hp2
  have hl3:(upd H2 l (.lst ys)) l=some (.lst ys):=upd_same
  generalize upd H2 l (.lst ys)=H3 at s3 t3 hp3 hl3 ⊢
  have sm:((rest++[t]).map nq).sum=(rest.map nq).sum+nq t:=by rw[List.map_append,List.sum_append];simp
  have kq:=nq_kids t
  have kl:=tht'.len
  have lr:=len_nq rest
  have lys:ys.length=rest.length:=by rw[iys.length,List.length_map]
  refine⟨_,rfl,.inl ⟨rfl,_,SqL.of hp3⟩,_,rfl,p,_,_,rfl,rfl,hp3,line1 (by lia),?_⟩
  have s4:Same H (upd H3 p (.lst (us++[y]))):=fun b o e=>by rw[upd_ne (ne_of_none e hp)];exact s3 b o e
  have t4:Tups H3 (upd H3 p (.lst (us++[y]))):=Tups.lst hp3
  have hp4:(upd H3 p (.lst (us++[y]))) p=some (.lst (us++[y])):=upd_same
  have hl4:(upd H3 p (.lst (us++[y]))) l=some (.lst ys):=by rw[upd_ne (Ne.symm npl)];exact hl3
  generalize upd H3 p (.lst (us++[y]))=H4 at s4 t4 hp4 hl4 ⊢
  have t24:=t3.trans t4
  refine⟨_,rfl,.inl ⟨rfl,_,SqL.of hl4⟩,_,rfl,y,t,60,rfl,IsDt.mono t24 iy,tht',fun a ks H5 s5 ha ik=>.inr ⟨l,a,_,_,rfl,rfl,s5 _ _ hl4,ha,?_,?_⟩⟩
  ·have:ks.length<=14:=by rw[ik.length,List.length_map];exact kl
   exact Nat.le_of_lt (line1 (by lia))
  have t6:Tups H5 (upd H5 l (.lst (ys++ks))):=Tups.lst (s5 _ _ hl4)
  have t26:=(t24.trans s5.tups).trans t6
  refine toN _ _ ⟨((rest++kids t).map nq).sum,by rw[List.map_append,List.sum_append,sm];lia,ts++[t],rest++kids t,us++[y],ys++ks,_,rfl,fun b o e=>by rw[upd_ne (ne_of_none e hlH)];exact s5 _ _ (s4 b o e),by rw[upd_ne npl];exact s5 _ _ hp4,upd_same,?_,?_,fun q hq=>?_,fun q hq=>?_,fun x=>?_,rfl,by rw[List.map_append,List.sum_append,List.length_append];show ts.length+1+_<=_;lia⟩
  ·rw[List.map_append];exact (IsDts.mono t26 iu).append (.one (IsDt.mono t26 iy))
  ·rw[List.map_append];exact (IsDts.mono t26 iys).append (IsDts.mono t6 ik)
  ·rcases List.mem_append.mp hq with h | h
   ·exact tht q h
   ·rw[List.mem_singleton.mp h];exact tht'
  ·rcases List.mem_append.mp hq with h | h
   ·exact thw q (List.mem_append_left _ h)
   ·obtain⟨e,he,hq'⟩:=tht'.sub q h
    exact hq'.mono (by lia)
  ·rw[mem]
   constructor
   ·rintro (h | ⟨q,hq,h⟩)
    ·exact .inl (List.mem_append_left _ h)
    ·rcases List.mem_append.mp hq with z | z
     ·exact .inr ⟨q,List.mem_append_left _ z,h⟩
     ·rw[List.mem_singleton.mp z]at h
      rcases Su.iff.mp h with rfl | ⟨i,k,e,h⟩
      ·exact .inl (List.mem_append_right _ (List.mem_singleton.mpr rfl))
      ·exact .inr ⟨k,List.mem_append_right _ (List.mem_of_getElem? e),h⟩
   ·rintro (h | ⟨q,hq,h⟩)
    ·rcases List.mem_append.mp h with z | z
     ·exact .inl z
     ·exact .inr ⟨t,by simp,by rw[<- List.mem_singleton.mp z];exact .here⟩
    ·rcases List.mem_append.mp hq with z | z
     ·exact .inr ⟨q,List.mem_append_left _ z,h⟩
     ·obtain⟨i,hi⟩:=List.mem_iff_getElem?.mp z
      exact .inr ⟨t,by simp,.kid hi h⟩
end
end K30
end
section
namespace L2
open PySem PySem.Spec PyProof.Rows
theorem few_mem {ys N:List Str} (h:∀ x∈ys,x∈N):∀ x,x∈ys ↔ x∈N.filter (fun z=>decide (z∈ys)):=fun x=>by
 rw[List.mem_filter,decide_eq_true_iff]
 exact⟨fun z=>⟨h x z,z⟩,fun z=>z.2⟩
theorem SetS.mem {prog:Program}{w:World}{h:Heap}{a:Addr}{zs zs':List Str} (S:SetS prog w h a zs) (e:∀ x,x∈zs ↔ x∈zs'):SetS prog w h a zs':=by
 obtain⟨es,ep,t,ho,r1,r2,r3,r4,r5,r6,r7⟩:=S
 exact⟨es,ep,t,ho,r1,r2,r3,r4,r5,r6,fun x=>(r7 x).trans (e x)⟩
section
variable {prog:Program}{w:World}{A:Around}{R:Result->Shared->Prop}{I:Addr}{fp wr:List Addr}{G:Array GenState->Array GenState->Prop}{n:Nat}{P:Nat->Value->Prop}{St:Nat->Shared->Prop}
theorem set_fillF (W:WalksS prog w A.in1 I fp wr G n P St) (S:Addr) (hS:S ∉ fp) (zs:List Str) (hn:n=zs.length) (hval:∀ i v,P i v->∃ (x:Str) (t:Tok),zs[i]?=some x/\v=.str x t) {N:List Str} (hN:N.length<3900) (hb:∀ x∈zs,x∈N) :
  ∀ (k i:Nat) (s:Shared),n-i=k->i<=n->St i s->SetS prog w s.heap S (zs.take i)->(∀ s',Moved (S::wr) G s s'->SetS prog w s'.heap S zs->R (.ok (.ret .none)) s') ->
   codeAny (model prog w) A (.builtin "set.update.loop" ⟨[.ref S,.ref I],[]⟩) R s:=by
 have hw:S ∉ wr:=fun h=>hS (W.sub _ h)
 have sub:∀ b∈wr,b∈S::wr:=fun b h=>List.mem_cons_of_mem _ h
 intro k
 induction k with
 | zero=>
  intro i s hk hi st hs q
  obtain rfl:i=n:=by lia
  refine codeAny_builtin F.entry_set_update_loop ?_
  rw[Around.under_plainId F.plain_set_update_loop _]
  show wpAny _ A.in1 (pyNext (.ref I) >>= _) _ _ s
  refine wpAny_bind (W.done s _ _ st fun s' m=>?_)
  refine wpAny_pure (q s' (m.mono sub) ?_)
  rw[List.take_of_length_le (by lia)]at hs
  exact hs.at fun o e=>m.heap S o hw e
 | succ k ih=>
  intro i s hk hi st hs q
  have lt:i<n:=by lia
  refine codeAny_builtin F.entry_set_update_loop ?_
  rw[Around.under_plainId F.plain_set_update_loop _]
  show wpAny _ A.in1 (pyNext (.ref I) >>= _) _ _ s
  refine wpAny_bind (W.item i s _ _ lt st fun v s1 hP st1 m=>?_)
  obtain⟨x,t,hx,rfl⟩:=hval i v hP
  have hs1:=hs.at (h':=s1.heap) fun o e=>m.heap S o hw e
  show wpAny _ A.in1 (holding [Value.str x t] (setAdd S (.str x t)) >>= _) _ _ s1
  unfold setAdd
  refine wpAny_bind (wpAny_holding (wpAny_holding (wpAny_bind ((strKind prog w).pyHash (k:=x) (strKind_is _ _ _ _) ?_))))
  have hsm:=hs1.mem (few_mem (ys:=zs.take i) (fun x hx=>hb x (List.mem_of_mem_take hx)))
  refine set_add (s:={ s1 with toks:=s1.toks+1 }) hsm (Nat.lt_of_le_of_lt (List.length_filter_le _ _) hN) fun b h' hb' hs2'=>?_
  have hs2:=hs2'.mem (zs':=zs.take i++[x]) (fun y=>by rw[List.mem_append,List.mem_append,<- few_mem (ys:=zs.take i) (fun x hx=>hb x (List.mem_of_mem_take hx)) y])
  have e2:zs.take i++[x]=zs.take (i+1):=by rw[List.take_add_one,hx];rfl
  rw[e2]at hs2
  refine wpAny_pure ⟨plainId_quiet F.plain_set_update_loop _,ih (i+1) _ (by lia) lt (W.frame _ s1 _ _ st1 (Nat.le_succ _) fun c hc o e=>?_) hs2 fun s2 m2 q2=>?_⟩
  ·rw[hb'.2 c fun z:c=S=>hS (z ▸ hc)];exact e
  ·exact q s2 (Moved.trans W.gtrans ((m.mono sub).then_heap (Nat.le_succ _) fun c o hc e=>by rw[hb'.2 c fun z:c=S=>hc (z ▸ List.mem_cons_self)];exact e) m2) q2
end
section
variable {prog:Program}{w:World}{A:Around}{E:Value->Shared->Prop}{s:Shared}
theorem call_set_strF {l:Addr}{its:Array Value}{zs:List Str}{Q:Value->Shared->Prop} (hh:A.handled=none) (hl:s.heap.IsList l its) (hi:StrsAre its.toList zs) {N:List Str} (hN:N.length<3900) (hb:∀ x∈zs,x∈N)
  (h:∀ (h':Heap) (tk:Nat),SetS prog w h' s.heap.objs.size zs->(∀ b o,s.heap.get? b=some o->h'.get? b=some o)->Q (.ref s.heap.objs.size) { s with heap:=h',toks:=tk }) :
  wpAny (model prog w) A (call (.type "set") [.ref l]) Q E s:=by
 obtain⟨c,tl,hmro⟩:=F.called_set.mro
 have made:=F.called_set.made
 have sub:=F.called_set.sub
 refine wpAny_call (codeAny_of_tree ?_)
 show wpAny _ _ (callAny (.type "set") _) _ _ _
 refine wpAny_pure ⟨Code.quiet_builtin _ (by decide +kernel),codeAny_builtin F.entry_type_call ?_⟩
 rw[Around.under_plain (weight_type_call_type "set" [.ref l] []) rfl]
 have g1:=F.called_set.notType
 have g2:=F.called_set.canCreate
 have g3:=F.typeCall_set_1 (.ref l)
 repeat (any_goals (first | assumption | wp_step))
 refine codeAny_mono (set_new_code (.ref l) (E:=E) (Q₁:=fun u s1=>u=.ref s.heap.objs.size/\s1={ s with heap:=s.heap.push (emptySet w) }) ⟨rfl,rfl⟩) fun r s1 hr=>?_
 cases r with
 | error e=>exact hr
 | ok fl=>
  cases fl with
  | ret obj=>
   obtain⟨rfl,rfl⟩:=hr
   have hS:(s.heap.push (emptySet w)).get? s.heap.objs.size=some (emptySet w):=Heap.get?_push_size _ rfl
   have hT:Shared.TypeIs { s with heap:=s.heap.push (emptySet w) } (.ref s.heap.objs.size) "set":=⟨_,hS,rfl⟩
   have hT':∀ {k:Nat},Shared.TypeIs { s with heap:=s.heap.push (emptySet w),toks:=k } (.ref s.heap.objs.size) "set":=⟨_,hS,rfl⟩
   have li:=F.called_set.init.lookup
   have bi:=F.called_set.init.bind (.ref s.heap.objs.size)
   repeat (any_goals (first | assumption | wp_step))
   refine codeAny_mono (codeAny_call_builtin (R:=wants (fun r s2=>r=.none/\∃ h' tk,s2={ s with heap:=h',toks:=tk }/\SetS prog w h' s.heap.objs.size zs/\(∀ b o,s.heap.get? b=some o->h'.get? b=some o)) E) F.called_set.init.plain F.entry_set_init (check_set_init_1 hT ?_)) fun r2 s2 hr2=>?_
   ·obtain⟨ol,hol,hcl,nl,hdl⟩:=hl
    obtain⟨oc,od,oda,os⟩:=ol
    simp only at hcl hdl
    subst hcl;subst hdl
    have hol':(s.heap.push (emptySet w)).get? l=some { cls:=.type "list",dict:=od,data:=.seq its nl,slots:=os }:=Heap.get?_push_of_some _ hol
    have e1:=F.sub_list_set
    have e2:=F.sub_list_frozenset
    have e3:(Value.type "list" == Value.type "dict")=false:=by decide
    have hl1:(s.heap.push (emptySet w)).IsList l its:=⟨_,hol',rfl,nl,rfl⟩
    unfold Builtin.«set.__init__» noKeywords Builtin.Frozenset.updateFrom
    generalize hPI:pyIter=PI
    wp_walk
    subst hPI
    refine wpAny_pyIter_list hl1 (wpAny_bind (wpAny_runValue ?_))
    have lS:l<s.heap.objs.size:=Heap.lt_size hol
    have hh3:A.in1.in1.in1.handled=none:=by simp [hh]
    have nI:l≠(s.heap.push (emptySet w)).objs.size:=by rw[Heap.size_push];exact Nat.ne_of_lt (Nat.lt_succ_of_lt lS)
    have nS:s.heap.objs.size ∉ [(s.heap.push (emptySet w)).objs.size,l]:=by
     rw[Heap.size_push]
     simp only[List.mem_cons,List.not_mem_nil,or_false,not_or]
     exact⟨Nat.ne_of_lt (Nat.lt_succ_self _),Nat.ne_of_gt lS⟩
    have len:its.size=zs.length:=by rw[<- Array.length_toList];exact hi.length
    have val:∀ (i:Nat) (v:Value),its[i]?=some v->∃ (x:Str) (t:Tok),zs[i]?=some x/\v=.str x t:=fun i v e=>strsAre_at hi (by rw[Array.getElem?_toList];exact e)
    refine set_fillF ((Walks.list hh3 _ l nI its).toS) s.heap.objs.size nS zs len val hN hb (its.size-0) 0 _ (by lia) (Nat.zero_le _) ⟨⟨_,Heap.get?_push_size _ rfl,rfl,rfl⟩,(hl1.push _)⟩ ?start ?fin
    case start=>
     rw[List.take_zero]
     exact emptySet_is (Heap.get?_push_of_some _ hS)
    case fin=>
     intro s' m hs'
     obtain⟨h',g',d',tk',os'⟩:=s'
     have eg:g'=s.gens:=m.gens
     have ed:d'=s.drawn:=m.drawn
     have eo:os'=s.os:=m.os
     subst eg;subst ed;subst eo
     refine wpAny_pure ?_
     show wpAny _ _ (ret Value.none) _ _ _
     refine wpAny_pure ⟨rfl,h',tk',rfl,hs',fun b o e=>?_⟩
     have lb:=Heap.lt_size e
     refine m.heap b o ?_ (Heap.get?_push_of_some _ (Heap.get?_push_of_some _ e))
     simp only[List.mem_cons,List.not_mem_nil,or_false,not_or]
     exact⟨Nat.ne_of_lt lb,by rw[Heap.size_push];exact Nat.ne_of_lt (Nat.lt_succ_of_lt lb)⟩
   ·cases r2 with
    | error e=>exact hr2
    | ok f2=>
     cases f2 with
     | ret r=>
      obtain⟨rfl,h',tk,rfl,hs',k⟩:=hr2
      repeat (any_goals (first | assumption | wp_step))
      exact h _ _ hs' k
     | _=>exact hr2.elim
  | _=>exact hr.elim
end
section
variable {X:Cx}
def tSF (te:TE):TE:=fun σ H Q=>te σ H fun x H1=>∃ (a:Addr) (zs:List Str),[x]=[V.ref a]/\H1 a=some (.lst (zs.map V.str))/\zs.length<=sizeLine/\(∃ N:List Str,N.length<64/\∀ x∈zs,x∈N) /\
 ∀ (p:Addr) (ys:List Str),H1 p=none->ys.Nodup->(∀ x,x∈ys ↔ x∈zs)->sortedS ys=true->Q (.ref p) (upd H1 p (.lst (ys.map V.str)))
theorem pe_ssF {e:Expr}{te:TE}{p1 p2 pos1 pos2:Pos} (hc:X.calm=true) (hg1:Gl X "sorted") (hm1:X.mg "sorted"=none) (hg2:Gl X "set") (hm2:X.mg "set"=none) (he:PE X e te) (hs:notStar e=true) :
  PE X (.Call (.Name "sorted" p1) [.Call (.Name "set" p2) [e] [] pos2] [] pos1) (tSF te):=by
 intro pins s σ H Q I h
 refine wpAny_Call_Name_kw (ld_blt I hg1 hm1 bt_sorted ?_ (by decide) (by decide))
 refine PyProof.Rows.callWith_builtin1 ?_ (star_cons rfl) rfl
 rw[star_cons (e:=.Call (.Name "set" p2) [e] [] pos2) rfl]
 show wpAny _ _ (spliced ((false,eval (.Call (.Name "set" p2) [e] [] pos2) X.env)::backTo pos1 (starEach [] X.env))) _ _ s
 refine Calls.spliced_cons ?_
 refine wpAny_Call_Name_kw (ld_blt I hg2 hm2 bt_set ?_ (by decide) (by decide))
 refine PyProof.Rows.callWith_type1 ?_ (star_cons hs) rfl
 refine thn (qa_cons he pa_nil hs pos2 pins s σ H (fun xs H1=>∃ (a:Addr) (zs:List Str),xs=[.ref a]/\H1 a=some (.lst (zs.map V.str))/\zs.length<=sizeLine/\(∃ N:List Str,N.length<64/\∀ x∈zs,x∈N)/\∀ (p:Addr) (ys:List Str),H1 p=none->ys.Nodup->(∀ x,x∈ys ↔ x∈zs)->sortedS ys=true->Q (.ref p) (upd H1 p (.lst (ys.map V.str)))) I ?_) fun us s1 ⟨vs,H1,I1,r1,a,zs,ea,hH,hz,⟨N,hN,hb⟩,q⟩=>?_
 ·exact h
 subst ea
 obtain⟨u,rfl,ru⟩:=r1.one
 cases ru
 obtain⟨z,its,n,r,hl,e⟩:=I1.lstM hH
 have are:StrsAre its zs:=strsOfVals r
 refine call_set_strF (A:=X.A) (its:=its.toArray) (I1.ok.hd hc) ⟨_,e,rfl,n,rfl⟩ (by simpa using are) (N:=N) (by lia) hb fun h' tk S keep=>?_
 refine Calls.spliced_nil ?_
 refine sorted_set hc (I1.kept (t':=tk) keep) (S.mem (few_mem hb)) (Nat.lt_of_le_of_lt (List.length_filter_le _ _) hN) fun p ys h1 h2 h3 h4=>q p ys h1 h2 (fun x=>(h3 x).trans (few_mem hb x).symm) h4
theorem we_ssF {e:Expr}{te:TE}{p1 p2 pos1 pos2:Pos} (hc:X.calm=true) (hg1:Gl X "sorted") (hm1:X.mg "sorted"=none) (hg2:Gl X "set") (hm2:X.mg "set"=none) (he:Hd (PE X e te)) (hs:notStar e=true:=by rfl) :
  Hd (PE X (.Call (.Name "sorted" p1) [.Call (.Name "set" p2) [e] [] pos2] [] pos1) (tSF te)):=⟨pe_ssF hc hg1 hm1 hg2 hm2 he.out hs⟩
end
end L2
end
section
set_option maxRecDepth 8000000
namespace K30
open PySem L2 Kn
open PyProof.Rows (sortedS)
theorem vs_str {x y:Str} (h:decide (V.str x=V.str y)=true):x=y:=by have:=of_decide_eq_true h;injection this
theorem vs_ne {x y:Str} (h:¬decide (V.str x=V.str y)=true):x≠y:=fun z=>h (decide_eq_true (by rw[z]))
section
variable {P:Program}{w:World}{K:PySem.W.Frag}{mg:Str->Option Value}{base:Heap}{f Zap ZaH f_bound:Addr}{fd Zaq ZaI fd_bound:FuncData}
theorem ZbC:FnScope ["question"] ["question"] (defScope (top 4)):=⟨rfl,rfl,rfl,by decide +kernel,rfl,by decide +kernel,by decide +kernel⟩
def OutS (R:Str->Prop) (H:Hp) (Q:VK):Prop:=∀ (q:Addr) (ys:List Str) (H':Hp),Same H H'->H q=none->H' q=some (.lst (ys.map V.str))->ys.Nodup->sortedS ys=true->(∀ x,x∈ys ↔ R x)->ys.length<=80000->Q (.ref q) H'
def spTables:Sp:=fun vs H Q _=>∃ (v:V) (t:Tr),vs=[v]/\IsDt H (tdat t) v/\TH 60 t/\nq t<=80000/\(∀ x,Tb x t->x∈NM)/\OutS (fun x=>Tb x t) H Q
theorem ok_tables (T:Tx mg) (D:Df K mg "tables" (top 4) f fd ["question"]) (Zar:Df K mg "knots" (top 3) ZaH ZaI ["question"]) (Zbb:FnOk P w K mg base CX0 2 ZaH ZaI ["question"] spKnots):FnOk P w K mg base CX0 3 f fd ["question"] spTables:=by
 refine D.fn.okH (k:=2) ZbC (fun vs H Q E h=>?_) (fun cdv A outer s H vs Q E hr h=>?_)
 ·obtain⟨v,t,rfl,_⟩:=h;rfl
 obtain⟨v,t,rfl,hx,th,n2,hnm,fin⟩:=h
 have hu:=u110 hr
 have hu0:=u0 hr
 have hu1:=hu_of hr
 refine⟨_,(wss_one (ws_ret (we_ssF rfl rfl T.z_sorted rfl T.z_set (we_lc (Nt:=["knot"]) (fr:=[]) (LcOk.of (sc:=defScope (top 4)) (N:=["question"]) rfl rfl (by decide +kernel)) rfl (wi_U (we_call Zbb (hr.mono (by lia)) rfl Zar.mg Zar.kp Zar.b .nil pass0 (wa_cons (wv 0) wa_nil))) (fun z=>wg_name (i:=0) (by show (["knot"]:List Str).Nodup;decide +kernel) rfl (Or.inl rfl) (.inr rfl)) (fun z=>tgt_name (by decide)) (fun z=>wif_one (wt_cmpR (op_eqU hu) (we_ix (ix_U hu1) (wv 0) we_int (fun _ _=>rfl)) we_str (nomark _))) (fun z=>(we_ix (ix_U hu1) (wv 0) we_int (fun _ _=>rfl))))))),?_⟩
 obtain⟨X',gX'⟩:∃ X',X'=(cxOf CX0 P w K mg base ["question"] "tables" (defScope (top 4)) f cdv A outer s H E).nox:=⟨_,rfl⟩
 try rw[<- gX']
 clear gX'
 refine .inl ⟨_,rfl,v,t,rfl,hx,th,n2,fun p us ts H1 s1 hp hp1 iu tht mem lt=>⟨p,rfl,⟨us,SqL.of hp1⟩,?_⟩⟩
 have lus:us.length=ts.length:=by rw[iu.length,List.length_map]
 refine⟨fun i m zs H'=>H'=H1/\m+i=ts.length/\∃ ns:List Str,zs=ns.map V.str/\ns.length<=i/\∀ x,x∈ns ↔ tabN x∈ts.take i,⟨ts.length,rfl,rfl,[],rfl,Nat.le_refl _,fun x=>by simp⟩,?_⟩
 rintro i m zs H2 ⟨rfl,hm,ns,rfl,ln,hns⟩
 refine⟨line1 (by rw[List.length_map];lia),?_⟩
 by_cases hi:i<ts.length
 ·obtain⟨u,hu2,du⟩:=iu.get (i:=i) (d:=tdat ts[i]) (by rw[List.getElem?_map,List.getElem?_eq_getElem hi];rfl)
  refine .inr ⟨⟨_,_,SqL.of hp1,hu2⟩,fun zc x H9 hy=>?_⟩
  obtain⟨rfl,hx'⟩:=hy
  obtain rfl:u=x:=by have:=hx' _ (SqL.of hp1);rw[hu2]at this;injection this
  have tk:ts.take (i+1)=ts.take i++[ts[i]]:=by rw[List.take_add_one,List.getElem?_eq_getElem hi];rfl
  have th':=tht _ (List.getElem_mem hi)
  generalize ts[i]=ti at *
  obtain⟨a,xs,rfl,ha⟩:=t_at du
  refine⟨_,rfl,ixt (SqT.of ha) at0 (.inl ⟨rfl,_,rfl,?_⟩)⟩
  refine ite2 (fun e=>?_) (fun e=>?_)
  ·obtain⟨s',rfl⟩:=th_table th' (vs_str e)
   obtain⟨a',zs',ea,ha'⟩:=t_txt du
   cases ea
   refine⟨_,rfl,ixt (SqT.of ha') at1 ⟨m-1,by lia,rfl,by lia,ns++[s'],by rw[List.map_append];rfl,by rw[List.length_append];show ns.length+1<=_;lia,fun x=>?_⟩⟩
   rw[tk,List.mem_append,List.mem_append,hns]
   refine or_congr Iff.rfl ?_
   rw[List.mem_singleton,List.mem_singleton]
   refine⟨fun z=>by rw[z];rfl,fun z=>?_⟩
   unfold tabN at z
   injection z with _ z
   injection z with z
   injection z
  ·refine⟨m-1,by lia,rfl,by lia,ns,rfl,by lia,fun x=>?_⟩
   rw[tk,List.mem_append,hns]
   refine⟨fun z=>.inl z,fun z=>z.elim id fun z=>?_⟩
   exact absurd (by rw[<- List.mem_singleton.mp z];rfl) (vs_ne e)
 ·refine .inl ⟨⟨_,SqL.of hp1,by lia⟩,fun l hl=>⟨l,ns,rfl,upd_same,Nat.le_of_lt (line1 (by lia)),⟨NM,by decide,fun x hx=>hnm x (su_tb.mpr ((mem _).mpr (by have:=(hns x).mp hx;rw[List.take_of_length_le (by lia)]at this;exact this)))⟩,fun q ys hq nd mem' srt=>?_⟩⟩
  rw[List.take_of_length_le (by lia)]at hns
  have ly:ys.length<=ns.length:=List.Nodup.length_le_of_subset nd fun y hy=>(mem' y).mp hy
  exact fin q ys _ (s1.trans ((same_new hl _).trans (same_new hq _))) (same_back (s1.trans (same_new hl _)) hq) upd_same nd srt (fun x=>by rw[mem',hns];exact (su_tb.trans (mem _)).symm) (by lia)
end
end K30
end
section
namespace L2
open PySem PySem.Spec PyProof.Rows
section
variable {prog:Program}{w:World}{A:Around}{R:Result->Shared->Prop}{I:Addr}{fp wr:List Addr}{G:Array GenState->Array GenState->Prop}{n:Nat}{P:Nat->Value->Prop}{St:Nat->Shared->Prop}
theorem any_loopZ (W:WalksS prog w A.in1 I fp wr G n P St) (tr:Nat->Bool) (Z:Shared->Prop) (hz:∀ s s',Moved wr G s s'->Z s->Z s')
  (htr:∀ i v (s:Shared) (Q:Bool->Shared->Prop) (E:Value->Shared->Prop),P i v->Z s->Q (tr i) { s with toks:=s.toks+1+1 }->wpAny (model prog w) A.in1 (truthy v) Q E s) :
  ∀ (k i:Nat) (s:Shared),n-i=k->i<=n->St i s->Z s ->
  (∀ s',Moved wr G s s'->R (.ok (.ret (.bool (((List.range n).drop i).any tr)))) s')->codeAny (model prog w) A (.builtin "any.loop" ⟨[.ref I],[]⟩) R s:=by
 intro k
 induction k with
 | zero=>
  intro i s hk hi hst hZ hR
  obtain rfl:i=n:=by lia
  refine codeAny_builtin F.entry_any_loop ?_
  rw[Around.under_plainId F.plain_any_loop _]
  show wpAny _ A.in1 (pyNext (.ref I) >>= _) _ _ s
  refine wpAny_bind (W.done s _ _ hst fun s' hm=>?_)
  refine wpAny_bind (wpAny_rule (wpAny_pure ?_))
  have:=hR s' hm
  rw[List.drop_of_length_le (by simp)]at this
  exact this
 | succ k ih=>
  intro i s hk hi hst hZ hR
  have hlt:i<n:=by lia
  have hd:(List.range n).drop i=i::(List.range n).drop (i+1):=by
   rw[List.drop_eq_getElem_cons (by simpa using hlt)];simp
  refine codeAny_builtin F.entry_any_loop ?_
  rw[Around.under_plainId F.plain_any_loop _]
  show wpAny _ A.in1 (pyNext (.ref I) >>= _) _ _ s
  refine wpAny_bind (W.item i s _ _ hlt hst fun v s' hP hst' hm=>?_)
  have hm2:Moved wr G s { s' with toks:=s'.toks+1+1 }:=hm.then_heap (by lia) fun c o hc e=>e
  refine wpAny_bind (wpAny_holding (htr i v _ _ _ hP (hz _ _ hm hZ) ?_))
  refine wpAny_bind (wpAny_letGo ?_)
  cases hb:tr i with
  | false=>
   simp only[Bool.false_eq_true,if_false]
   refine wpAny_pure ⟨plainId_quiet F.plain_any_loop _,ih (i+1) _ (by lia) hlt (W.frame _ s' _ _ hst' (by lia) fun c hc o e=>e) (hz _ _ hm2 hZ) fun s'' hm'=>?_⟩
   have:=hR s'' (hm2.trans W.gtrans hm')
   rw[hd,List.any_cons,hb,Bool.false_or]at this
   exact this
  | true=>
   simp only[if_true]
   refine wpAny_bind (wpAny_rule (wpAny_pure ?_))
   have:=hR _ hm2
   rw[hd,List.any_cons,hb,Bool.true_or]at this
   exact this
end
theorem bt_any:bootBuiltins "any"=some (.builtin "any"):=by decide +kernel
section
variable {X:Cx}
def rAnyL (K:PySem.W.Frag):List V->Hp->VK->Prop:=fun ws H Q=>∃ (p:Addr) (bs:List (Addr×List V)),ws=[.ref p]/\SqL K H p (bs.map fun x=>V.ref x.1)/\(∀ x∈bs,SqL K H x.1 x.2)/\Q (.bl (bs.any fun x=>!x.2.isEmpty)) H
theorem call_anyL (hc:X.calm=true):CallR X (.builtin "any") (rAnyL X.K):=by
 intro pins s σ H ws us Q I r h
 obtain⟨p,bs,rfl,hq,hbs,q⟩:=h
 obtain⟨u,rfl,ru⟩:=r.one
 cases ru
 have hh:=I.ok.hd hc
 obtain⟨its,rv,pl,_⟩:=I.list hq
 have hl:s.heap.IsList p its.toArray:=pl.isList
 obtain⟨ob,o1,o2,k,o3⟩:=id hl
 have ne:p≠s.heap.objs.size:=Nat.ne_of_lt (Heap.lt_size o1)
 have W:=(Walks.list (prog:=X.prog) (w:=X.w) (A:=X.A.in1) hh s.heap.objs.size p ne its.toArray).toS
 have lb:its.length=bs.length:=by have:=rv.length;rw[List.length_map]at this;exact this.symm
 refine call_function_tree F.kind_any F.plain_any F.entry_any (F.args_any1 _) ?_
 unfold Builtin.«any»
 refine wpAny_bind (m:=oneArg "any" _) (wpAny_pure ?_)
 refine wpAny_bind (wpAny_pyIter_list hl ?_)
 have tr0:∀ (i:Nat) (hi:i<bs.length),(bs.map fun x=>!x.2.isEmpty).getD i false=!bs[i].2.isEmpty:=fun i hi=>by
  rw[List.getD_eq_getElem?_getD,List.getElem?_map,List.getElem?_eq_getElem hi];rfl
 refine wpAny_pure ⟨plainId_quiet F.plain_any_loop _,any_loopZ W (fun i=>(bs.map fun x=>!x.2.isEmpty).getD i false) (fun s'=>∀ b o,s.heap.get? b=some o->s'.heap.get? b=some o) (fun s1 s2 hm hz b o e=>hm.heap b o (fun hb=>absurd (Heap.lt_size e) ((List.mem_singleton.mp hb) ▸ Nat.lt_irrefl _)) (hz b o e)) ?_ its.toArray.size 0 _ rfl (Nat.zero_le _) ⟨⟨_,Heap.get?_push_size _ rfl,rfl,rfl⟩,hl.push _⟩ (fun b o e=>Heap.get?_push_of_some _ e) fun s' hm=>?_⟩
 ·intro i v s' Q' E' hP hZ hq'
  have e':its[i]?=some v:=by simpa using hP
  have hi:i<bs.length:=by have:=(List.getElem?_eq_some_iff.mp e').1;lia
  obtain⟨x,h1,h2⟩:=vals_get rv e'
  rw[List.getElem?_map,List.getElem?_eq_getElem hi]at h1
  cases h1
  cases h2
  obtain⟨its2,rv2,pl2,fit2⟩:=I.list (hbs _ (List.getElem_mem hi))
  have hl2:s.heap.IsList bs[i].1 its2.toArray:=pl2.isList
  obtain⟨ob2,a1,a2,a3,a4⟩:=id hl2
  have e1:=rv2.length
  have e2:sizeLine<2 ^ 63:=by decide
  have fit3:(its2.toArray.size:Int)<2 ^ 63:=by rw[List.size_toArray];lia
  refine wpAny_truthy_list (items:=its2.toArray) ⟨ob2,hZ _ _ a1,a2,a3,a4⟩ fit3 ?_
  have:(!its2.toArray.isEmpty)=!bs[i].2.isEmpty:=by rw[isEmpty_of rv2]
  rw[this,<- tr0 i hi]
  exact hq'
 ·obtain⟨h',g',d',tk',os'⟩:=s'
  have z1:g'=s.gens:=hm.gens
  have z2:d'=s.drawn:=hm.drawn
  have z3:os'=s.os:=hm.os
  subst z1 z2 z3
  have keep:∀ b o,s.heap.get? b=some o->h'.get? b=some o:=fun b o e=>hm.heap b o (fun hb=>absurd (Heap.lt_size e) ((List.mem_singleton.mp hb) ▸ Nat.lt_irrefl _)) (Heap.get?_push_of_some _ e)
  refine⟨.bl (bs.any fun x=>!x.2.isEmpty),H,I.kept (t':=tk') keep,?_,q⟩
  have e:((List.range its.toArray.size).drop 0).any (fun i=>(bs.map fun x=>!x.2.isEmpty).getD i false)=bs.any fun x=>!x.2.isEmpty:=by
   rw[List.size_toArray,lb,List.drop_zero]
   have:(List.range bs.length).map (fun i=>(bs.map fun x=>!x.2.isEmpty).getD i false)=bs.map fun x=>!x.2.isEmpty:=by
    refine List.ext_getElem? fun i=>?_
    by_cases hi:i<bs.length
    ·rw[List.getElem?_map,List.getElem?_eq_getElem (by simpa using hi),List.getElem?_map,List.getElem?_eq_getElem hi]
     simp only[Option.map_some,List.getElem_range]
     rw[tr0 i hi]
    ·rw[List.getElem?_eq_none (by simpa using hi),List.getElem?_eq_none (by simpa using hi)]
   have e1:(List.range bs.length).any (fun i=>(bs.map fun x=>!x.2.isEmpty).getD i false)=((List.range bs.length).map (fun i=>(bs.map fun x=>!x.2.isEmpty).getD i false)).any id:=by rw[List.any_map];rfl
   rw[e1,this,List.any_map];rfl
  rw[e];rfl
end
end L2
end
section
namespace K30
open PySem L2 Kn
def AP:List Str:=["one","at","let"]
def Ap (q k:Tr):Prop:=wT q∈AP/\(kids q)[0]?=some k
def EvenT (t:Tr):Prop:=∀ q k x,Su q t->Ap q k->¬Tb x k
theorem QG.sub {d:Nat}{t:Tr} (h:QG d t):∀ q∈kids t,∃ e,e<d/\QG e q:=by
 cases h with
 | num=>intro q hq;rw[kids_node]at hq;split at hq <;> cases hq
 | word=>intro q hq;rw[kids_node]at hq;split at hq <;> cases hq
 | var=>intro q hq;rw[kids_node]at hq;split at hq <;> cases hq
 | table hs=>intro q hq;rw[kids_node]at hq;split at hq <;> cases hq
 | none=>intro q hq;rw[kids_node,if_pos rfl]at hq;cases hq
 | row hl hn h=>
  intro q hq
  obtain⟨p,hp,rfl⟩:=List.mem_map.mp hq
  exact⟨_,Nat.lt_succ_self _,h p hp⟩
 | times h=>intro q hq;rw[kids_ne _ _ (by decide +kernel)]at hq;rw[List.mem_singleton.mp hq];exact⟨_,Nat.lt_succ_self _,h⟩
 | att h=>intro q hq;rw[kids_ne _ _ (by decide +kernel)]at hq;rw[List.mem_singleton.mp hq];exact⟨_,Nat.lt_succ_self _,h⟩
 | bind hw h1 h2=>
  intro q hq
  rw[kids_ne _ _ (by rcases hw with rfl | rfl <;> decide +kernel)]at hq
  exact⟨_,Nat.lt_succ_self _,two_mem (P:=QG _) h1 h2 q hq⟩
 | two hw h1 h2=>
  intro q hq
  rw[kids_ne _ _ (w2_ok hw).2.2]at hq
  exact⟨_,Nat.lt_succ_self _,two_mem (P:=QG _) h1 h2 q hq⟩
 | one hw h=>intro q hq;rw[kids_ne _ _ (w1_ok hw).2.2]at hq;rw[List.mem_singleton.mp hq];exact⟨_,Nat.lt_succ_self _,h⟩
theorem Su.qg {q t:Tr} (h:Su q t):∀ {d:Nat},QG d t->∃ e,e<=d/\QG e q:=by
 induction h with
 | here=>exact fun h=>⟨_,Nat.le_refl _,h⟩
 | kid e _ ih=>
  intro d h
  obtain⟨e1,l1,h1⟩:=h.sub _ (List.mem_of_getElem? e)
  obtain⟨e2,l2,h2⟩:=ih h1
  exact⟨e2,by lia,h2⟩
theorem le_sum' {n:Nat}:∀ {l:List Nat},n∈l->n<=l.sum
 | a::l,h=>by
  rw[List.sum_cons]
  rcases List.mem_cons.mp h with rfl | h
  ·lia
  ·have:=le_sum' h;lia
theorem nq_kid {t k:Tr} (h:k∈kids t):nq k<=nq t:=by
 rw[nq_kids t]
 have:nq k<=((kids t).map nq).sum:=le_sum' (List.mem_map.mpr ⟨k,h,rfl⟩)
 lia
theorem Su.nq {q t:Tr} (h:Su q t):nq q<=nq t:=by
 induction h with
 | here=>exact Nat.le_refl _
 | kid e _ ih=>exact Nat.le_trans ih (nq_kid (List.mem_of_getElem? e))
theorem Su.trans {a b c:Tr} (h:Su a b) (k:Su b c):Su a c:=by
 induction k with
 | here=>exact h
 | kid e _ ih=>exact .kid e ih
theorem QG.tb {d:Nat}{t:Tr}{x:Str} (h:QG d t) (b:Tb x t):x∈NM:=by
 obtain⟨e,_,h2⟩:=(su_tb.mp b).qg h
 generalize hz:Tr.node (Str.ofString "table") [.txt x] []=z at h2
 cases h2 with
 | table hs=>injection hz with _ h1;injection h1 with h1;injection h1 with h1;rw[h1];exact hs
 | two hw _ _=>injection hz with h0 h1 h2;cases h2
 | one hw _=>injection hz with h0 h1 h2;cases h2
 | bind hw _ _=>injection hz with h0 h1 h2;cases h2
 | row _ _ _=>cases hz
 | _=>injection hz with h0 h1 h2 <;> first | exact absurd h0 (by decide +kernel) | cases h2 | cases h1
theorem QG.ap {d:Nat}{q:Tr} (h:QG d q) (e:wT q∈AP):∃ k,(kids q)[0]?=some k:=by
 cases h with
 | att h=>exact⟨_,by rw[kids_ne _ _ (by decide +kernel)];rfl⟩
 | bind hw h1 h2=>exact⟨_,by rw[kids_ne _ _ (by rcases hw with rfl | rfl <;> decide +kernel)];rfl⟩
 | two hw h1 h2=>exact⟨_,by rw[kids_ne _ _ (w2_ok hw).2.2];rfl⟩
 | one hw h=>exact⟨_,by rw[kids_ne _ _ (w1_ok hw).2.2];rfl⟩
 | times h=>exact⟨_,by rw[kids_ne _ _ (by decide +kernel)];rfl⟩
 | _=>exact absurd e (by simp only[wT];decide +kernel)
section
variable {P:Program}{w:World}{K:PySem.W.Frag}{mg:Str->Option Value}{base:Heap}{f Zap ZaH Zbc:Addr}{fd Zaq ZaI Zbd:FuncData}
theorem Zbl:FnScope ["question","apart"] ["question"] (defScope (top 11)):=⟨rfl,rfl,rfl,by decide +kernel,rfl,by decide +kernel,by decide +kernel⟩
def spIsEven:Sp:=fun vs H Q _=>∃ (v:V) (t:Tr) (d:Nat),vs=[v]/\IsDt H (tdat t) v/\QG d t/\d<=60/\nq t<=80000/\∀ (b:Bool) (H':Hp),Same H H'->(b=true ↔ EvenT t)->Q (.bl b) H'
theorem ok_isEven (T:Tx mg) (D:Df K mg "is_even" (top 11) f fd ["question"]) (Zaf:Df K mg "under" (top 2) Zap Zaq ["question"]) (ZaJ:FnOk P w K mg base CX0 1 Zap Zaq ["question"] spUnder)
  (Zar:Df K mg "knots" (top 3) ZaH ZaI ["question"]) (Zbb:FnOk P w K mg base CX0 2 ZaH ZaI ["question"] spKnots)
  (ZaL:Df K mg "tables" (top 4) Zbc Zbd ["question"]) (ZbD:FnOk P w K mg base CX0 3 Zbc Zbd ["question"] spTables):FnOk P w K mg base CX0 4 f fd ["question"] spIsEven:=by
 refine D.fn.okH (k:=3) Zbl (fun vs H Q E h=>?_) (fun cdv A outer s H vs Q E hr h=>?_)
 ·obtain⟨v,t,d,rfl,_⟩:=h;rfl
 obtain⟨v,t,d,rfl,hx,qg,d60,n2,fin⟩:=h
 have hu:=u110 hr
 have hu0:=u0 hr
 have hu1:=hu_of hr
 refine⟨_,(wss_cons (ws_lc (j:=1) (hN:=Zbl.nd) (hj:=rfl) (hy:=(Or.inl rfl)) (Nt:=["knot"]) (fr:=[]) (LcOk.of (sc:=defScope (top 11)) (N:=["question","apart"]) rfl rfl (by decide +kernel)) rfl (wi_U (we_call Zbb (hr.mono (by lia)) rfl Zar.mg Zar.kp Zar.b .nil pass0 (wa_cons (wv 0) wa_nil))) (fun z=>wg_name (i:=0) (by show (["knot"]:List Str).Nodup;decide +kernel) rfl (Or.inl rfl) (.inr rfl)) (fun z=>tgt_name (by decide)) (fun z=>wif_one (wt_cmpR (op_inU hu) (we_ix (ix_U hu1) (wv 0) we_int (fun _ _=>rfl)) (we_tup (wa_consts rfl)) (by with_unfolding_all rfl))) (fun z=>(we_ix (ix_U hu1) (we_call ZaJ (hr.mono (by lia)) rfl Zaf.mg Zaf.kp Zaf.b .nil pass0 (wa_cons (wv 0) wa_nil)) we_int (fun _ _=>rfl))))
   (wss_one (ws_ret (we_not (we_callB (call_anyL rfl) rfl T.z_any bt_any (wa_cons (we_lc (Nt:=["part"]) (fr:=[]) (LcOk.of (sc:=defScope (top 11)) (N:=["question","apart"]) rfl rfl (by decide +kernel)) rfl (wi_U (wv 1)) (fun z=>wg_name (i:=0) (by show (["part"]:List Str).Nodup;decide +kernel) rfl (Or.inl rfl) (.inr rfl)) (fun z=>tgt_name (by decide)) (fun z=>wif_nil) (fun z=>(we_call ZbD (hr.mono (by lia)) rfl ZaL.mg ZaL.kp ZaL.b .nil pass0 (wa_cons (wv 0) wa_nil)))) wa_nil)))))),?_⟩
 obtain⟨X',gX'⟩:∃ X',X'=(cxOf CX0 P w K mg base ["question","apart"] "is_even" (defScope (top 11)) f cdv A outer s H E).nox:=⟨_,rfl⟩
 try rw[<- gX']
 clear gX'
 refine .inl ⟨_,rfl,v,t,rfl,hx,qg.th.mono d60,n2,fun p us ts H1 s1 hp hp1 iu tht mem lt=>⟨p,rfl,⟨us,SqL.of hp1⟩,?_⟩⟩
 have lus:us.length=ts.length:=by rw[iu.length,List.length_map]
 refine⟨fun i m zs H'=>m+i=ts.length/\Same H1 H'/\∃ ks:List Tr,IsDts H' (ks.map tdat) zs/\ks.length<=i/\∀ k,k∈ks ↔ ∃ q∈ts.take i,Ap q k,⟨ts.length,rfl,.refl _,[],.nil,Nat.le_refl _,fun x=>by simp⟩,?_⟩
 rintro i m zs H2 ⟨hm,s2,ks,iz,lk,hks⟩
 have lz:zs.length=ks.length:=by rw[iz.length,List.length_map]
 refine⟨line1 (by lia),?_⟩
 by_cases hi:i<ts.length
 ·obtain⟨u,hu2,du⟩:=iu.get (i:=i) (d:=tdat ts[i]) (by rw[List.getElem?_map,List.getElem?_eq_getElem hi];rfl)
  refine .inr ⟨⟨_,_,SqL.of (s2 _ _ hp1),hu2⟩,fun zc x H9 hy=>?_⟩
  obtain⟨rfl,hx'⟩:=hy
  obtain rfl:u=x:=by have:=hx' _ (SqL.of (s2 _ _ hp1));rw[hu2]at this;injection this
  have tk:ts.take (i+1)=ts.take i++[ts[i]]:=by rw[List.take_add_one,List.getElem?_eq_getElem hi];rfl
  have th':=tht _ (List.getElem_mem hi)
  obtain⟨e',le',qg'⟩:=((mem ts[i]).mpr (List.getElem_mem hi)).qg qg
  generalize ts[i]=ti at *
  have du2:=IsDt.mono s2.tups du
  obtain⟨a,xs,rfl,ha⟩:=t_at du2
  refine⟨_,rfl,ixt (SqT.of ha) at0 ⟨(by show 3<=sizeLine;decide),fun c hc=>.inl ⟨c,AP.map V.str,rfl,.inr (SqT.of upd_same),rfl,rfl,_,rfl,?_⟩⟩⟩
  have s3:=same_new hc (.tup (AP.map V.str))
  have ap:inV (.str (wT ti)) (AP.map V.str)=true ↔ wT ti∈AP:=inV_str _ _
  refine ite2 (fun e=>?_) (fun e=>?_)
  ·obtain⟨k0,hk0⟩:=qg'.ap (ap.mp e)
   refine⟨_,rfl,_,ti,_,rfl,IsDt.mono s3.tups du2,qg'.th,fun a4 us4 H4 s4 ha4 ik4=>?_⟩
   obtain⟨u0,e0,d0⟩:=ik4.get (i:=0) (d:=tdat k0) (by rw[List.getElem?_map,hk0];rfl)
   refine ixt (SqT.of ha4) (show atI us4 ((0:Nat):Int)=_ from atI_nat e0) ⟨m-1,by lia,by lia,s2.trans (s3.trans s4),ks++[k0],?_,by rw[List.length_append];show ks.length+1<=_;lia,fun k=>?_⟩
   ·rw[List.map_append]
    exact (IsDts.mono (s3.trans s4).tups iz).append (.one d0)
   ·rw[List.mem_append,hks,tk,List.mem_singleton]
    constructor
    ·rintro (⟨q,h1,h2⟩ | rfl)
     ·exact⟨q,List.mem_append_left _ h1,h2⟩
     ·exact⟨ti,by simp,ap.mp e,hk0⟩
    ·rintro⟨q,h1,h2⟩
     rcases List.mem_append.mp h1 with h1 | h1
     ·exact .inl ⟨q,h1,h2⟩
     ·rw[List.mem_singleton.mp h1]at h2
      have:=h2.2
      rw[hk0]at this
      injection this with this
      exact .inr this.symm
  ·refine⟨m-1,by lia,by lia,s2.trans s3,ks,IsDts.mono s3.tups iz,by lia,fun k=>?_⟩
   rw[hks,tk]
   constructor
   ·rintro⟨q,h1,h2⟩
    exact⟨q,List.mem_append_left _ h1,h2⟩
   ·rintro⟨q,h1,h2⟩
    rcases List.mem_append.mp h1 with h1 | h1
    ·exact⟨q,h1,h2⟩
    ·rw[List.mem_singleton.mp h1]at h2
     exact absurd (ap.mpr h2.1) e
 ·refine .inl ⟨⟨_,SqL.of (s2 _ _ hp1),by lia⟩,fun l hl=>?_⟩
  rw[List.take_of_length_le (by lia)]at hks
  have s3:=same_new hl (.lst zs)
  have hl3:upd H2 l (.lst zs) l=some (.lst zs):=upd_same
  have iz3:=IsDts.mono s3.tups iz
  have s03:=s1.trans (s2.trans s3)
  generalize upd H2 l (.lst zs)=H3 at s3 hl3 iz3 s03 ⊢
  refine .inl ⟨_,rfl,l,rfl,⟨zs,SqL.of hl3⟩,?_⟩
  have sk:∀ k∈ks,Su k t:=fun k hk=>by
   obtain⟨q,h1,h2⟩:=(hks k).mp hk
   exact Su.trans (.kid h2.2 .here) ((mem q).mpr h1)
  refine⟨fun i m ys H'=>m+i=ks.length/\Same H3 H'/\∃ bs:List (Addr×List V),ys=bs.map (fun x=>V.ref x.1)/\bs.length=i/\(∀ x∈bs,H' x.1=some (.lst x.2))/\(bs.any (fun x=>!x.2.isEmpty)=true ↔ ∃ k∈ks.take i,∃ x,Tb x k),⟨ks.length,rfl,.refl _,[],rfl,rfl,(fun x hx=>nomatch hx),by simp⟩,?_⟩
  rintro i m ys H4 ⟨hm4,s4,bs,rfl,lb,hbs,hany⟩
  refine⟨line1 (by rw[List.length_map];lia),?_⟩
  by_cases hi4:i<ks.length
  ·obtain⟨u,hu2,du⟩:=iz3.get (i:=i) (d:=tdat ks[i]) (by rw[List.getElem?_map,List.getElem?_eq_getElem hi4];rfl)
   refine .inr ⟨⟨_,_,SqL.of (s4 _ _ hl3),hu2⟩,fun zc x H9 hy=>?_⟩
   obtain⟨rfl,hx'⟩:=hy
   obtain rfl:u=x:=by have:=hx' _ (SqL.of (s4 _ _ hl3));rw[hu2]at this;injection this
   have tk:ks.take (i+1)=ks.take i++[ks[i]]:=by rw[List.take_add_one,List.getElem?_eq_getElem hi4];rfl
   have sk':=sk _ (List.getElem_mem hi4)
   generalize ks[i]=ki at *
   obtain⟨e',le',qg'⟩:=sk'.qg qg
   refine⟨_,rfl,_,ki,rfl,IsDt.mono s4.tups du,qg'.th.mono (by lia),Nat.le_trans sk'.nq n2,fun x hx=>qg'.tb hx,fun q ys5 H5 s5 hq5 hy5 nd srt mem5 ly=>?_⟩
   refine⟨m-1,by lia,by lia,s4.trans s5,bs++[(q,ys5.map V.str)],by rw[List.map_append];rfl,by rw[List.length_append,lb];rfl,fun x hx=>?_,?_⟩
   ·rcases List.mem_append.mp hx with hx | hx
    ·exact s5 _ _ (hbs x hx)
    ·rw[List.mem_singleton.mp hx];exact hy5
   ·rw[List.any_append,Bool.or_eq_true,hany,tk]
    constructor
    ·rintro (⟨k,h1,h2⟩ | h)
     ·exact⟨k,List.mem_append_left _ h1,h2⟩
     ·cases ys5 with
      | nil=>simp at h
      | cons y ys5=>exact⟨ki,by simp,y,(mem5 y).mp (by simp)⟩
    ·rintro⟨k,h1,x,h2⟩
     rcases List.mem_append.mp h1 with h1 | h1
     ·exact .inl ⟨k,h1,x,h2⟩
     ·rw[List.mem_singleton.mp h1]at h2
      have:=(mem5 x).mpr h2
      cases ys5 with
      | nil=>cases this
      | cons y ys5=>exact .inr (by simp)
  ·refine .inl ⟨⟨_,SqL.of (s4 _ _ hl3),by lia⟩,fun l2 hl2=>?_⟩
   rw[List.take_of_length_le (by lia)]at hany
   refine⟨l2,bs,rfl,SqL.of upd_same,fun x hx=>SqL.of (same_new hl2 _ _ _ (hbs x hx)),_,rfl,?_⟩
   refine fin _ _ (s03.trans (s4.trans (same_new hl2 _))) ?_
   rw[Bool.not_eq_true',<- Bool.not_eq_true,hany]
   constructor
   ·intro h q k x h1 h2 h3
    exact h ⟨k,(hks k).mpr ⟨q,(mem q).mp h1,h2⟩,x,h3⟩
   ·rintro h ⟨k,h1,x,h2⟩
    obtain⟨q,h3,h4⟩:=(hks k).mp h1
    exact h q k x ((mem q).mpr h3) h4 h2
end
end K30
end
section
namespace K30
open PySem L2 Kn
theorem fn_ne {s:Str} (h:s∈FN):s≠Str.ofString "table"/\s ∉ AP:=by
 unfold FN at h
 simp only[List.mem_cons,List.not_mem_nil,or_false]at h
 rcases h with rfl | rfl | rfl | rfl | rfl | rfl | rfl | rfl <;> decide +kernel
theorem w2_ap {w:Str} (h:w∈W2):w≠Str.ofString "table"/\w ∉ AP:=by
 unfold W2 at h
 simp only[List.mem_cons,List.not_mem_nil,or_false]at h
 rcases h with rfl | rfl | rfl | rfl | rfl | rfl | rfl | rfl <;> decide +kernel
theorem hasL_at:∀ as:List At,hasL (as.map atD)=false
 | []=>by rw[List.map_nil,hasL]
 | .int i::as=>by rw[List.map_cons,hasL,hasL_at as,atD,hasD];rfl
 | .txt i::as=>by rw[List.map_cons,hasL,hasL_at as,atD,hasD];rfl
theorem evenL_at:∀ as:List At,evenL (as.map atD)=true
 | []=>by rw[List.map_nil,evenL]
 | .int i::as=>by rw[List.map_cons,evenL,evenL_at as,atD,evenD];rfl
 | .txt i::as=>by rw[List.map_cons,evenL,evenL_at as,atD,evenD];rfl
theorem has_str {s:Str}{ds:List Dt} (h:s≠Str.ofString "table"):hasD (.tup (.str s::ds))=hasL ds:=by
 rw[hasD,hasL,hasD]
 have:decide ((Dt.str s::ds)[0]?=some (.str "table"))=false:=decide_eq_false fun z=>by
  rw[List.getElem?_cons_zero]at z
  injection z with z;injection z with z;exact h z
 rw[this,Bool.and_false,Bool.false_or,Bool.false_or]
theorem has_tup {es ds:List Dt}:hasD (.tup (.tup es::ds))=hasL (.tup es::ds):=by
 rw[hasD]
 have:decide ((Dt.tup es::ds)[0]?=some (.str "table"))=false:=decide_eq_false fun z=>by
  rw[List.getElem?_cons_zero]at z
  injection z with z;cases z
 rw[this,Bool.and_false,Bool.false_or]
theorem has_nil:hasD (.tup [])=false:=by rw[hasD,hasL];simp
theorem even_str {s:Str}{ds:List Dt} (h:s ∉ AP):evenD (.tup (.str s::ds))=evenL ds:=by
 rw[evenD,evenL,evenD]
 have e1:bad1 (.str s::ds)=false:=by
  unfold bad1
  rw[decide_eq_false (p:=(Dt.str s::ds).getD 0 (.int 0)∈_) (fun z=>h (by
   rw[List.getD_cons_zero]at z
   simp only[List.mem_cons,List.not_mem_nil,or_false]at z
   rcases z with z | z <;> injection z with z <;> rw[z] <;> decide +kernel)),Bool.false_and,Bool.and_false]
 have e2:bad2 (.str s::ds)=false:=by
  unfold bad2
  rw[decide_eq_false (p:=(Dt.str s::ds).getD 0 (.int 0)=_) (fun z=>h (by
   rw[List.getD_cons_zero]at z
   injection z with z;rw[z];decide +kernel)),Bool.false_and,Bool.and_false]
 rw[e1,e2];rfl
theorem even_tup {es ds:List Dt}:evenD (.tup (.tup es::ds))=evenL (.tup es::ds):=by
 rw[evenD]
 have e1:bad1 (.tup es::ds)=false:=by
  unfold bad1
  rw[decide_eq_false (p:=(Dt.tup es::ds).getD 0 (.int 0)∈_) (fun z=>by
   rw[List.getD_cons_zero]at z
   simp only[List.mem_cons,List.not_mem_nil,or_false]at z
   rcases z with z | z <;> cases z),Bool.false_and,Bool.and_false]
 have e2:bad2 (.tup es::ds)=false:=by
  unfold bad2
  rw[decide_eq_false (p:=(Dt.tup es::ds).getD 0 (.int 0)=_) (fun z=>by
   rw[List.getD_cons_zero]at z
   cases z),Bool.false_and,Bool.and_false]
 rw[e1,e2];rfl
theorem even_nil:evenD (.tup [])=true:=by rw[evenD,evenL];simp [bad1,bad2]
theorem has_rows {ps:List (Str×Tr)} (hn:∀ p∈ps,p.1∈FN):hasD (.tup (tdatR ps))=ps.any fun p=>hasD (tdat p.2):=by
 have key:∀ ps:List (Str×Tr),(∀ p∈ps,p.1∈FN)->hasL (tdatR ps)=ps.any fun p=>hasD (tdat p.2):=by
  intro ps
  induction ps with
  | nil=>intro _;rw[tdatR,hasL];rfl
  | cons p ps ih=>
   intro h
   rw[tdatR,hasL,ih fun q hq=>h q (List.mem_cons_of_mem _ hq),has_str (fn_ne (h p List.mem_cons_self)).1,hasL,hasL,Bool.or_false,List.any_cons]
 cases ps with
 | nil=>rw[tdatR];exact has_nil
 | cons p ps=>rw[<- key _ hn,tdatR,has_tup]
theorem even_rows {ps:List (Str×Tr)} (hn:∀ p∈ps,p.1∈FN):evenD (.tup (tdatR ps))=ps.all fun p=>evenD (tdat p.2):=by
 have key:∀ ps:List (Str×Tr),(∀ p∈ps,p.1∈FN)->evenL (tdatR ps)=ps.all fun p=>evenD (tdat p.2):=by
  intro ps
  induction ps with
  | nil=>intro _;rw[tdatR,evenL];rfl
  | cons p ps ih=>
   intro h
   rw[tdatR,evenL,ih fun q hq=>h q (List.mem_cons_of_mem _ hq),even_str (fn_ne (h p List.mem_cons_self)).2,evenL,evenL,Bool.and_true,List.all_cons]
 cases ps with
 | nil=>rw[tdatR];exact even_nil
 | cons p ps=>rw[<- key _ hn,tdatR,even_tup]
theorem has_k:∀ {d:Nat}{k:Kd},KB d k->hasD (tdat (kTr k))=false/\evenD (tdat (kTr k))=true
 | d,.num,_=>by rw[kTr,tdat,List.map_nil,List.nil_append,tdatL,has_str (by decide +kernel),even_str (by decide +kernel),hasL,evenL];exact⟨rfl,rfl⟩
 | d,.word,_=>by rw[kTr,tdat,List.map_nil,List.nil_append,tdatL,has_str (by decide +kernel),even_str (by decide +kernel),hasL,evenL];exact⟨rfl,rfl⟩
 | 0,.row fs,h=>by simp only[KB]at h
 | 0,.bag k,h=>by simp only[KB]at h
 | d+1,.row fs,h=>by
  simp only[KB]at h
  have hn:∀ p∈(kTrR fs),p.1∈FN:=fun p hp=>by
   rw[kTrR_map]at hp
   obtain⟨q,hq,rfl⟩:=List.mem_map.mp hp
   exact (h.2 q hq).1
  have hk:∀ p∈(kTrR fs),hasD (tdat p.2)=false/\evenD (tdat p.2)=true:=fun p hp=>by
   rw[kTrR_map]at hp
   obtain⟨q,hq,rfl⟩:=List.mem_map.mp hp
   exact has_k (h.2 q hq).2
  rw[kTr,tdat,has_str (by decide +kernel),even_str (by decide +kernel),hasL,evenL,hasL,evenL,has_rows hn,even_rows hn]
  constructor
  ·rw[Bool.or_false,List.any_eq_false];exact fun p hp=>by rw[(hk p hp).1];decide
  ·rw[Bool.and_true,List.all_eq_true];exact fun p hp=>(hk p hp).2
 | d+1,.bag k,h=>by
  simp only[KB]at h
  have ih:=has_k h
  rw[kTr,tdat,List.map_nil,List.nil_append,tdatL,tdatL,has_str (by decide +kernel),even_str (by decide +kernel),hasL,evenL,ih.1,ih.2,hasL,evenL];exact⟨rfl,rfl⟩
theorem has_node {w:Str}{as:List At}{ps:List Tr} (h:w≠Str.ofString "table"):hasD (tdat (.node w as ps))=ps.any fun q=>hasD (tdat q):=by
 rw[tdat,has_str h,hasL_app,hasL_at,Bool.false_or]
 induction ps with
 | nil=>rw[tdatL,hasL];rfl
 | cons p ps ih=>rw[tdatL,hasL,ih,List.any_cons]
theorem even_node {w:Str}{as:List At}{ps:List Tr} (h:w ∉ AP):evenD (tdat (.node w as ps))=ps.all fun q=>evenD (tdat q):=by
 rw[tdat,even_str h,evenL_app,evenL_at,Bool.true_and]
 induction ps with
 | nil=>rw[tdatL,evenL];rfl
 | cons p ps ih=>rw[tdatL,evenL,ih,List.all_cons]
theorem tb_node {w:Str}{as:List At}{ps:List Tr}{x:Str} (h:w≠Str.ofString "table") (h0:w≠Str.ofString "none"):Tb x (.node w as ps) ↔ ∃ q∈ps,Tb x q:=by
 rw[Tb.iff,kids_ne _ _ h0]
 constructor
 ·rintro (e | ⟨i,k,e,h1⟩)
  ·injection e with e;exact absurd e h
  ·exact⟨k,List.mem_of_getElem? e,h1⟩
 ·rintro⟨q,h1,h2⟩
  obtain⟨i,hi⟩:=List.mem_iff_getElem?.mp h1
  exact .inr ⟨i,q,hi,h2⟩
theorem has_nd {w:Str}{as:List At}{ps:List Tr} (h:w≠Str.ofString "table") (h0:w≠Str.ofString "none") (ih:∀ q∈ps,(hasD (tdat q)=true ↔ ∃ x,Tb x q)):hasD (tdat (.node w as ps))=true ↔ ∃ x,Tb x (.node w as ps):=by
 rw[has_node h,List.any_eq_true]
 constructor
 ·rintro⟨q,h1,h2⟩
  obtain⟨x,hx⟩:=(ih q h1).mp h2
  exact⟨x,(tb_node h h0).mpr ⟨q,h1,hx⟩⟩
 ·rintro⟨x,hx⟩
  obtain⟨q,h1,h2⟩:=(tb_node h h0).mp hx
  exact⟨q,h1,(ih q h1).mpr ⟨x,h2⟩⟩
theorem has_iff {d:Nat}{t:Tr} (h:QG d t):hasD (tdat t)=true ↔ ∃ x,Tb x t:=by
 induction h with
 | num=>exact has_nd (by decide +kernel) (by decide +kernel) fun q hq=>nomatch hq
 | word=>exact has_nd (by decide +kernel) (by decide +kernel) fun q hq=>nomatch hq
 | var=>exact has_nd (by decide +kernel) (by decide +kernel) fun q hq=>nomatch hq
 | table hs=>exact⟨fun _=>⟨_,.here⟩,fun _=>by rw[tdat,tdatL,hasD];simp [atD]⟩
 | @none d k h=>
  rw[has_node (by decide +kernel),List.any_cons,(has_k h).1]
  refine Iff.intro (fun z=>by simp at z) (fun⟨x,hx⟩=>?_)
  rcases Tb.iff.mp hx with e | ⟨i,k',e,h1⟩
  ·injection e with e;exact absurd e (by decide +kernel)
  ·rw[kids_node,if_pos rfl]at e;cases e
 | @row d ps hl hn _ ih=>
  rw[tdat,has_str (by decide +kernel),hasL,hasL,Bool.or_false,has_rows hn,List.any_eq_true]
  constructor
  ·rintro⟨p,h1,h2⟩
   obtain⟨x,hx⟩:=(ih p h1).mp h2
   obtain⟨i,hi⟩:=List.mem_iff_getElem?.mp h1
   exact⟨x,.kid (i:=i) (by show (ps.map (·.2))[i]?=_;rw[List.getElem?_map,hi];rfl) hx⟩
  ·rintro⟨x,hx⟩
   rcases Tb.iff.mp hx with e | ⟨i,k',e,h1⟩
   ·cases e
   ·obtain⟨p,h2,rfl⟩:=List.mem_map.mp (List.mem_of_getElem? e)
    exact⟨p,h2,(ih p h2).mpr ⟨x,h1⟩⟩
 | times _ ih=>exact has_nd (by decide +kernel) (by decide +kernel) fun q hq=>by rw[List.mem_singleton.mp hq];exact ih
 | att _ ih=>exact has_nd (by decide +kernel) (by decide +kernel) fun q hq=>by rw[List.mem_singleton.mp hq];exact ih
 | bind hw _ _ ih1 ih2=>exact has_nd (by rcases hw with rfl | rfl <;> decide +kernel) (by rcases hw with rfl | rfl <;> decide +kernel) fun q hq=>two_mem (P:=fun q=>(hasD (tdat q)=true ↔ ∃ x,Tb x q)) ih1 ih2 q hq
 | two hw _ _ ih1 ih2=>exact has_nd (w2_ap hw).1 (w2_ok hw).2.2 fun q hq=>two_mem (P:=fun q=>(hasD (tdat q)=true ↔ ∃ x,Tb x q)) ih1 ih2 q hq
 | one hw _ ih=>exact has_nd (by unfold W1 at hw;simp only[List.mem_cons,List.not_mem_nil,or_false]at hw;rcases hw with rfl | rfl <;> decide +kernel) (w1_ok hw).2.2 fun q hq=>by rw[List.mem_singleton.mp hq];exact ih
theorem EvenT.iff {t:Tr}:EvenT t ↔ (∀ k x,Ap t k->¬Tb x k)/\∀ k∈kids t,EvenT k:=by
 constructor
 ·intro h
  refine⟨fun k x a=>h t k x .here a,fun k hk q k' x s a=>?_⟩
  obtain⟨i,hi⟩:=List.mem_iff_getElem?.mp hk
  exact h q k' x (.kid hi s) a
 ·rintro⟨h1,h2⟩ q k x s a
  rcases Su.iff.mp s with rfl | ⟨i,k',e,s'⟩
  ·exact h1 k x a
  ·exact h2 k' (List.mem_of_getElem? e) q k x s' a
theorem even_nd {w:Str}{as:List At}{ps:List Tr} (h:w ∉ AP) (h0:w≠Str.ofString "none") (ih:∀ q∈ps,(evenD (tdat q)=true ↔ EvenT q)):evenD (tdat (.node w as ps))=true ↔ EvenT (.node w as ps):=by
 rw[even_node h,List.all_eq_true,EvenT.iff,kids_ne _ _ h0]
 exact⟨fun z=>⟨fun k x a=>absurd a.1 h,fun k hk=>(ih k hk).mp (z k hk)⟩,fun z q hq=>(ih q hq).mpr (z.2 q hq)⟩
theorem even_ap {w:Str}{as:List At}{q:Tr}{ps:List Tr}{d:Nat} (hq:QG d q) (h:w∈AP) (e:evenD (tdat (.node w as (q::ps)))=(!hasD (tdat q) && (q::ps).all fun q=>evenD (tdat q))) (ih:∀ r∈q::ps,(evenD (tdat r)=true ↔ EvenT r)):evenD (tdat (.node w as (q::ps)))=true ↔ EvenT (.node w as (q::ps)):=by
 have h0:w≠Str.ofString "none":=by rintro rfl;revert h;decide +kernel
 rw[e,Bool.and_eq_true,List.all_eq_true,EvenT.iff,kids_ne _ _ h0,Bool.not_eq_true',<- Bool.not_eq_true,has_iff hq]
 refine and_congr ?_ ⟨fun z k hk=>(ih k hk).mp (z k hk),fun z q hq=>(ih q hq).mpr (z q hq)⟩
 constructor
 ·rintro z k x ⟨_,a⟩ b
  rw[kids_ne _ _ h0]at a
  injection a with a
  exact z ⟨x,a ▸ b⟩
 ·rintro z ⟨x,b⟩
  exact z q x ⟨h,by rw[kids_ne _ _ h0];rfl⟩ b
theorem even_at {s:Str}{q:Tr}:evenD (tdat (.node (Str.ofString "at") [.txt s] [q]))=(!hasD (tdat q) && [q].all fun q=>evenD (tdat q)):=by
 have e0:=has_node (w:=Str.ofString "at") (as:=[.txt s]) (ps:=[q]) (by decide +kernel)
 rw[List.any_cons,List.any_nil,Bool.or_false]at e0
 have e1:tdat (.node (Str.ofString "at") [.txt s] [q])=.tup [.str (Str.ofString "at"),.str s,tdat q]:=by rw[tdat,tdatL,tdatL];rfl
 rw[e1]at e0 ⊢
 rw[evenD,evenL,evenL,evenL,evenL,evenD,evenD]
 have b1:bad1 [.str (Str.ofString "at"),.str s,tdat q]=hasD (tdat q):=by unfold bad1;rw[e0];simp
 have b2:bad2 [.str (Str.ofString "at"),.str s,tdat q]=false:=by unfold bad2;simp
 rw[b1,b2];simp
theorem even_one {q:Tr}:evenD (tdat (.node (Str.ofString "one") [] [q]))=(!hasD (tdat q) && [q].all fun q=>evenD (tdat q)):=by
 have e0:=has_node (w:=Str.ofString "one") (as:=[]) (ps:=[q]) (by decide +kernel)
 rw[List.any_cons,List.any_nil,Bool.or_false]at e0
 have e1:tdat (.node (Str.ofString "one") [] [q])=.tup [.str (Str.ofString "one"),tdat q]:=by rw[tdat,tdatL,tdatL];rfl
 rw[e1]at e0 ⊢
 rw[evenD,evenL,evenL,evenL,evenD]
 have b1:bad1 [.str (Str.ofString "one"),tdat q]=hasD (tdat q):=by unfold bad1;rw[e0];simp
 have b2:bad2 [.str (Str.ofString "one"),tdat q]=false:=by unfold bad2;simp
 rw[b1,b2];simp
theorem even_let {s:Str}{q r:Tr}:evenD (tdat (.node (Str.ofString "let") [.txt s] [q,r]))=(!hasD (tdat q) && [q,r].all fun q=>evenD (tdat q)):=by
 have e1:tdat (.node (Str.ofString "let") [.txt s] [q,r])=.tup [.str (Str.ofString "let"),.str s,tdat q,tdat r]:=by rw[tdat,tdatL,tdatL,tdatL];rfl
 rw[e1]
 rw[evenD,evenL,evenL,evenL,evenL,evenL,evenD,evenD]
 have b1:bad1 [.str (Str.ofString "let"),.str s,tdat q,tdat r]=false:=by
  unfold bad1
  rw[decide_eq_false (p:=List.getD [.str (Str.ofString "let"),.str s,tdat q,tdat r] 0 (.int 0)∈_) (fun z=>by
   rw[List.getD_cons_zero]at z
   simp only[List.mem_cons,List.not_mem_nil,or_false]at z
   rcases z with z | z <;> injection z with z <;> exact absurd z (by decide +kernel)),Bool.false_and,Bool.and_false]
 have b2:bad2 [.str (Str.ofString "let"),.str s,tdat q,tdat r]=hasD (tdat q):=by unfold bad2;simp
 rw[b1,b2];simp
theorem even_iff {d:Nat}{t:Tr} (h:QG d t):evenD (tdat t)=true ↔ EvenT t:=by
 induction h with
 | num=>exact even_nd (by decide +kernel) (by decide +kernel) fun q hq=>nomatch hq
 | word=>exact even_nd (by decide +kernel) (by decide +kernel) fun q hq=>nomatch hq
 | var=>exact even_nd (by decide +kernel) (by decide +kernel) fun q hq=>nomatch hq
 | table hs=>exact even_nd (by decide +kernel) (by decide +kernel) fun q hq=>nomatch hq
 | @none d k h=>
  rw[even_node (by decide +kernel),List.all_cons,(has_k h).2,EvenT.iff,kids_node,if_pos rfl]
  exact⟨fun _=>⟨fun k x a=>absurd a.1 (by simp only[wT];decide +kernel),fun k hk=>nomatch hk⟩,fun _=>rfl⟩
 | @row d ps hl hn _ ih=>
  rw[tdat,even_str (by decide +kernel),evenL,evenL,Bool.and_true,even_rows hn,List.all_eq_true,EvenT.iff]
  refine⟨fun z=>⟨fun k x a=>absurd a.1 (by simp only[wT];decide +kernel),fun k hk=>?_⟩,fun z p hp=>(ih p hp).mpr (z.2 p.2 (List.mem_map.mpr ⟨p,hp,rfl⟩))⟩
  obtain⟨p,h2,rfl⟩:=List.mem_map.mp hk
  exact (ih p h2).mp (z p h2)
 | times _ ih=>exact even_nd (by decide +kernel) (by decide +kernel) fun q hq=>by rw[List.mem_singleton.mp hq];exact ih
 | att h ih=>exact even_ap h (by decide +kernel) even_at fun q hq=>by rw[List.mem_singleton.mp hq];exact ih
 | bind hw h1 _ ih1 ih2=>
  rcases hw with rfl | rfl
  ·exact even_nd (by decide +kernel) (by decide +kernel) fun q hq=>two_mem (P:=fun q=>(evenD (tdat q)=true ↔ EvenT q)) ih1 ih2 q hq
  ·exact even_ap h1 (by decide +kernel) even_let fun q hq=>two_mem (P:=fun q=>(evenD (tdat q)=true ↔ EvenT q)) ih1 ih2 q hq
 | two hw _ _ ih1 ih2=>exact even_nd (w2_ap hw).2 (w2_ok hw).2.2 fun q hq=>two_mem (P:=fun q=>(evenD (tdat q)=true ↔ EvenT q)) ih1 ih2 q hq
 | one hw h ih=>
  unfold W1 at hw
  simp only[List.mem_cons,List.not_mem_nil,or_false]at hw
  rcases hw with rfl | rfl
  ·exact even_ap h (by decide +kernel) even_one fun q hq=>by rw[List.mem_singleton.mp hq];exact ih
  ·exact even_nd (by decide +kernel) (by decide +kernel) fun q hq=>by rw[List.mem_singleton.mp hq];exact ih
theorem nrw_rows {ps:List (Str×Tr)} (hl:ps.length<=5) (h:∀ p∈ps,Nrw (tdat p.2)):Nrw (.tup (tdatR ps)):=by
 refine .tup _ (by rw[tdatR_map,List.length_map];lia) fun d hd=>?_
 rw[tdatR_map]at hd
 obtain⟨p,hp,rfl⟩:=List.mem_map.mp hd
 refine .tup _ (by show 2<=_;decide) fun e he=>?_
 simp only[List.mem_cons,List.not_mem_nil,or_false]at he
 rcases he with rfl | rfl
 ·exact .str _
 ·exact h p hp
theorem nrw_node {w:Str}{as:List At}{ps:List Tr} (ha:as.length<=5) (hl:ps.length<=5) (h:∀ q∈ps,Nrw (tdat q)):Nrw (tdat (.node w as ps)):=by
 rw[tdat,tdatL_map]
 refine .tup _ (by rw[List.length_cons,List.length_append,List.length_map,List.length_map];lia) fun d hd=>?_
 rcases List.mem_cons.mp hd with rfl | hd
 ·exact .str _
 ·rcases List.mem_append.mp hd with hd | hd
  ·obtain⟨a,_,rfl⟩:=List.mem_map.mp hd
   cases a with
   | int i=>exact .int i
   | txt s=>exact .str s
  ·obtain⟨q,hq,rfl⟩:=List.mem_map.mp hd
   exact h q hq
theorem nrw_k:∀ {d:Nat}{k:Kd},KB d k->Nrw (tdat (kTr k))
 | d,.num,_=>by rw[kTr];exact nrw_node (by simp) (by simp) fun q hq=>nomatch hq
 | d,.word,_=>by rw[kTr];exact nrw_node (by simp) (by simp) fun q hq=>nomatch hq
 | 0,.row fs,h=>by simp only[KB]at h
 | 0,.bag k,h=>by simp only[KB]at h
 | d+1,.row fs,h=>by
  simp only[KB]at h
  rw[kTr,tdat]
  refine .tup _ (by show 2<=_;decide) fun e he=>?_
  simp only[List.mem_cons,List.not_mem_nil,or_false]at he
  rcases he with rfl | rfl
  ·exact .str _
  ·refine nrw_rows (by rw[kTrR_map,List.length_map];lia) fun p hp=>?_
   rw[kTrR_map]at hp
   obtain⟨q,hq,rfl⟩:=List.mem_map.mp hp
   exact nrw_k (h.2 q hq).2
 | d+1,.bag k,h=>by
  simp only[KB]at h
  rw[kTr];exact nrw_node (by simp) (by simp) fun q hq=>by rw[List.mem_singleton.mp hq];exact nrw_k h
theorem QG.nrw {d:Nat}{t:Tr} (h:QG d t):Nrw (tdat t):=by
 induction h with
 | num=>exact nrw_node (by simp) (by simp) fun q hq=>nomatch hq
 | word=>exact nrw_node (by simp) (by simp) fun q hq=>nomatch hq
 | var=>exact nrw_node (by simp) (by simp) fun q hq=>nomatch hq
 | table hs=>exact nrw_node (by simp) (by simp) fun q hq=>nomatch hq
 | none h=>exact nrw_node (by simp) (by simp) fun q hq=>by rw[List.mem_singleton.mp hq];exact nrw_k h
 | row hl hn _ ih=>
  rw[tdat]
  refine .tup _ (by show 2<=_;decide) fun e he=>?_
  simp only[List.mem_cons,List.not_mem_nil,or_false]at he
  rcases he with rfl | rfl
  ·exact .str _
  ·exact nrw_rows hl ih
 | times _ ih=>exact nrw_node (show 1<=5 by decide) (show 1<=5 by decide) fun q hq=>by rw[List.mem_singleton.mp hq];exact ih
 | att _ ih=>exact nrw_node (show 1<=5 by decide) (show 1<=5 by decide) fun q hq=>by rw[List.mem_singleton.mp hq];exact ih
 | bind hw _ _ ih1 ih2=>exact nrw_node (show 1<=5 by decide) (show 2<=5 by decide) fun q hq=>two_mem (P:=fun q=>Nrw (tdat q)) ih1 ih2 q hq
 | two hw _ _ ih1 ih2=>exact nrw_node (show 0<=5 by decide) (show 2<=5 by decide) fun q hq=>two_mem (P:=fun q=>Nrw (tdat q)) ih1 ih2 q hq
 | one hw _ ih=>exact nrw_node (show 0<=5 by decide) (show 1<=5 by decide) fun q hq=>by rw[List.mem_singleton.mp hq];exact ih
end K30
end
section
namespace K30
open PySem L2 Kn
def mx2 (i j:Int):Int:=if j > i then j else i
noncomputable def tabV (ns:List Str):List At->Int
 | [.txt s]=>if s∈ns then 1 else 0
 | _=>0
def maxV:List Int->Int
 | [i,j]=>mx2 i j
 | _=>0
noncomputable def degN (ns:List Str) (w:Str) (as:List At) (js:List Int):Int:=
 if w=Str.ofString "table" then tabV ns as
 else if w=Str.ofString "both" then maxV js
 else if w=Str.ofString "for" then js.sum
 else if w=Str.ofString "times"\/w=Str.ofString "when"\/w=Str.ofString "let" then js.getLast?.getD 0
 else 0
mutual
noncomputable def degT (ns:List Str):Tr->Int
 | .row _=>0
 | .node w as ps=>degN ns w as (degL ns ps)
noncomputable def degL (ns:List Str):List Tr->List Int
 | []=>[]
 | p::ps=>degT ns p::degL ns ps
end
theorem QG.cs {d:Nat}{q:Tr} (h:QG d q):(∃ s,q=.node (Str.ofString "table") [.txt s] [])\/(∃ e r1 r2,e<d/\QG e r1/\QG e r2/\q=.node (Str.ofString "both") [] [r1,r2]) \/
  (∃ e i r,e<d/\QG e r/\q=.node (Str.ofString "times") [.int i] [r])\/(∃ e r1 r2,e<d/\QG e r1/\QG e r2/\q=.node (Str.ofString "when") [] [r1,r2]) \/
  (∃ e s r1 r2,e<d/\QG e r1/\QG e r2/\q=.node (Str.ofString "let") [.txt s] [r1,r2])\/(∃ e s r1 r2,e<d/\QG e r1/\QG e r2/\q=.node (Str.ofString "for") [.txt s] [r1,r2]) \/
  wT q ∉ [Str.ofString "table",Str.ofString "both",Str.ofString "times",Str.ofString "when",Str.ofString "let",Str.ofString "for"]:=by
 cases h with
 | table hs=>exact .inl ⟨_,rfl⟩
 | times h=>exact .inr (.inr (.inl ⟨_,_,_,Nat.lt_succ_self _,h,rfl⟩))
 | bind hw h1 h2=>
  rcases hw with rfl | rfl
  ·exact .inr (.inr (.inr (.inr (.inr (.inl ⟨_,_,_,_,Nat.lt_succ_self _,h1,h2,rfl⟩)))))
  ·exact .inr (.inr (.inr (.inr (.inl ⟨_,_,_,_,Nat.lt_succ_self _,h1,h2,rfl⟩))))
 | two hw h1 h2=>
  unfold W2 at hw
  simp only[List.mem_cons,List.not_mem_nil,or_false]at hw
  rcases hw with rfl | rfl | rfl | rfl | rfl | rfl | rfl | rfl
  case inr.inr.inl=>exact .inr (.inl ⟨_,_,_,Nat.lt_succ_self _,h1,h2,rfl⟩)
  case inr.inr.inr.inl=>exact .inr (.inr (.inr (.inl ⟨_,_,_,Nat.lt_succ_self _,h1,h2,rfl⟩)))
  all_goals exact .inr (.inr (.inr (.inr (.inr (.inr (by simp only[wT];decide +kernel))))))
 | one hw h=>
  unfold W1 at hw
  simp only[List.mem_cons,List.not_mem_nil,or_false]at hw
  rcases hw with rfl | rfl <;> exact .inr (.inr (.inr (.inr (.inr (.inr (by simp only[wT];decide +kernel))))))
 | _=>exact .inr (.inr (.inr (.inr (.inr (.inr (by simp only[wT];decide +kernel))))))
theorem deg_none {ns:List Str}{q:Tr} (h:wT q ∉ [Str.ofString "table",Str.ofString "both",Str.ofString "times",Str.ofString "when",Str.ofString "let",Str.ofString "for"]):degT ns q=0:=by
 cases q with
 | row ps=>rw[degT]
 | node w as ps=>
  simp only[wT,List.mem_cons,List.not_mem_nil,or_false,not_or]at h
  rw[degT,degN,if_neg h.1,if_neg h.2.1,if_neg h.2.2.2.2.2,if_neg (by simp [h])]
theorem deg_both {ns:List Str}{r1 r2:Tr}:degT ns (.node (Str.ofString "both") [] [r1,r2])=mx2 (degT ns r1) (degT ns r2):=by
 rw[degT,degN,if_neg (by decide +kernel),if_pos rfl,degL,degL,degL];rfl
theorem deg_for {ns:List Str}{s:Str}{r1 r2:Tr}:degT ns (.node (Str.ofString "for") [.txt s] [r1,r2])=degT ns r1+degT ns r2:=by
 rw[degT,degN,if_neg (by decide +kernel),if_neg (by decide +kernel),if_pos rfl,degL,degL,degL]
 simp
theorem deg_let {ns:List Str}{s:Str}{r1 r2:Tr}:degT ns (.node (Str.ofString "let") [.txt s] [r1,r2])=degT ns r2:=by
 rw[degT,degN,if_neg (by decide +kernel),if_neg (by decide +kernel),if_neg (by decide +kernel),if_pos (.inr (.inr rfl)),degL,degL,degL];rfl
theorem deg_when {ns:List Str}{r1 r2:Tr}:degT ns (.node (Str.ofString "when") [] [r1,r2])=degT ns r2:=by
 rw[degT,degN,if_neg (by decide +kernel),if_neg (by decide +kernel),if_neg (by decide +kernel),if_pos (.inr (.inl rfl)),degL,degL,degL];rfl
theorem deg_times {ns:List Str}{i:Int}{r:Tr}:degT ns (.node (Str.ofString "times") [.int i] [r])=degT ns r:=by
 rw[degT,degN,if_neg (by decide +kernel),if_neg (by decide +kernel),if_neg (by decide +kernel),if_pos (.inl rfl),degL,degL];rfl
theorem deg_table {ns:List Str}{s:Str}:degT ns (.node (Str.ofString "table") [.txt s] [])=if s∈ns then 1 else 0:=by
 rw[degT,degN,if_pos rfl];rfl
theorem isDts_two {H:Hp}{d e:Dt}{zs:List V} (h:IsDts H [d,e] zs):∃ u v,zs=[u,v]/\IsDt H d u/\IsDt H e v:=by
 rw[IsDts]at h
 obtain⟨y,r,rfl,h1,h2⟩:=h
 obtain⟨z,rfl,h3⟩:=isDts_one h2
 exact⟨y,z,rfl,h1,h3⟩
section
variable {P:Program}{w:World}{K:PySem.W.Frag}{mg:Str->Option Value}{base:Heap}{f:Addr}{fd:FuncData}
theorem Zbm:FnScope ["asked","names","word"] ["asked","names"] (defScope (top 41)):=⟨rfl,rfl,rfl,by decide +kernel,rfl,by decide +kernel,by decide +kernel⟩
def spDeg (n:Nat):Sp:=fun vs H Q _=>∃ (v:V) (l:Addr) (ns:List Str) (q:Tr) (d:Nat),vs=[v,.ref l]/\IsDt H (tdat q) v/\QG d q/\d<n/\H l=some (.lst (ns.map V.str))/\∀ H',Same H H'->Q (.int (degT ns q)) H'
theorem ok_deg {k n:Nat} (T:Tx mg) (Zae:Df K mg "_law_degree" (top 41) f fd ["asked","names"]) (Zaz:FnOk P w K mg base CX0 k f fd ["asked","names"] (spDeg n)):FnOk P w K mg base CX0 (k+1) f fd ["asked","names"] (spDeg (n+1)):=by
 refine Zae.fn.okH (k:=k) Zbm (fun vs H Q E h=>?_) (fun cdv A outer s H vs Q E hr h=>?_)
 ·obtain⟨v,l,ns,q,d,rfl,_⟩:=h;rfl
 obtain⟨v,l,ns,q,d,rfl,hx,qg,dn,hl,fin⟩:=h
 have hu:=u110 hr
 have hu0:=u0 hr
 have hu1:=hu_of hr
 refine⟨_,(wss_cons (ws_set (i:=2) Zbm.nd rfl (Or.inl rfl) (we_ix (ix_U hu1) (wv 0) we_int (fun _ _=>rfl)))
   (wss_cons (ws_if (wt_cmpR (op_eqU hu) (wv 2) we_str (nomark _)) (wss_one (ws_ret (we_callTy call_int1 rfl T.z_int bt_int (wa_cons (we_cmpR (op_inU hu) (we_ix (ix_U hu1) (wv 0) we_int (fun _ _=>rfl)) (wv 1) (by with_unfolding_all rfl)) wa_nil)))) wss_nil)
   (wss_cons (ws_if (wt_cmpR (op_eqU hu) (wv 2) we_str (nomark _)) (wss_one (ws_ret (we_callB (call_max2 rfl) rfl T.z_max bt_max (wa_cons (we_call Zaz (hr.mono (by lia)) rfl Zae.mg Zae.kp Zae.b .nil pass0 (wa_cons (we_ix (ix_U hu1) (wv 0) we_int (fun _ _=>rfl)) (wa_cons (wv 1) wa_nil))) (wa_cons (we_call Zaz (hr.mono (by lia)) rfl Zae.mg Zae.kp Zae.b .nil pass0 (wa_cons (we_ix (ix_U hu1) (wv 0) we_int (fun _ _=>rfl)) (wa_cons (wv 1) wa_nil))) wa_nil))))) wss_nil)
   (wss_cons (ws_if (wt_cmpR (op_inU hu) (wv 2) (we_tup (wa_consts rfl)) (by with_unfolding_all rfl)) (wss_one (ws_ret (we_call Zaz (hr.mono (by lia)) rfl Zae.mg Zae.kp Zae.b .nil pass0 (wa_cons (we_ix (ix_U hu1) (wv 0) we_int (fun _ _=>rfl)) (wa_cons (wv 1) wa_nil))))) wss_nil)
   (wss_cons (ws_if (wt_cmpR (op_eqU hu) (wv 2) we_str (nomark _)) (wss_one (ws_ret (we_call Zaz (hr.mono (by lia)) rfl Zae.mg Zae.kp Zae.b .nil pass0 (wa_cons (we_ix (ix_U hu1) (wv 0) we_int (fun _ _=>rfl)) (wa_cons (wv 1) wa_nil))))) wss_nil)
   (wss_cons (ws_if (wt_cmpR (op_eqU hu) (wv 2) we_str (nomark _)) (wss_one (ws_ret (we_op op_plus (we_call Zaz (hr.mono (by lia)) rfl Zae.mg Zae.kp Zae.b .nil pass0 (wa_cons (we_ix (ix_U hu1) (wv 0) we_int (fun _ _=>rfl)) (wa_cons (wv 1) wa_nil))) (we_call Zaz (hr.mono (by lia)) rfl Zae.mg Zae.kp Zae.b .nil pass0 (wa_cons (we_ix (ix_U hu1) (wv 0) we_int (fun _ _=>rfl)) (wa_cons (wv 1) wa_nil)))))) wss_nil)
   (wss_one (ws_ret we_int)))))))),?_⟩
 obtain⟨a,xs,rfl,ha⟩:=t_at hx
 refine⟨_,rfl,ixt (SqT.of ha) at0 ?_⟩
 have c:=qg.cs
 refine⟨_,rfl,.inl ⟨rfl,_,rfl,ite2 (fun e=>?_) (fun e1=>?_)⟩⟩
 ·have e:=vs_str e
  rcases c with ⟨s,rfl⟩ | ⟨e1,r1,r2,le,q1,q2,rfl⟩ | ⟨e1,i,r,le,q1,rfl⟩ | ⟨e1,r1,r2,le,q1,q2,rfl⟩ | ⟨e1,s,r1,r2,le,q1,q2,rfl⟩ | ⟨e1,s,r1,r2,le,q1,q2,rfl⟩ | hn
  case inr.inr.inr.inr.inr.inr=>exact absurd (by rw[e];decide +kernel) hn
  case inl=>
   obtain⟨a',zs',ea,ha'⟩:=t_txt hx
   cases ea
   rw[deg_table]at fin
   refine⟨_,rfl,ixt (SqT.of ha') at1 ⟨_,rfl,.inl ⟨l,_,rfl,.inl (SqL.of hl),rfl,flat_strs ns,.inr ⟨_,rfl,?_⟩⟩⟩⟩
   have:(if inV (V.str s) (ns.map V.str)=true then (1:Int) else 0)=if s∈ns then 1 else 0:=by
    by_cases h:s∈ns
    ·rw[if_pos h,if_pos ((inV_str s ns).mpr h)]
    ·rw[if_neg h,if_neg fun z=>h ((inV_str s ns).mp z)]
   rw[<- this]at fin
   exact fin H (.refl _)
  all_goals exact absurd e (by simp only[wT];decide +kernel)
 have e1:=vs_ne e1
 dsimp only[tNext]
 refine⟨_,rfl,.inl ⟨rfl,_,rfl,ite2 (fun e=>?_) (fun e2=>?_)⟩⟩
 ·have e:=vs_str e
  rcases c with ⟨s,rfl⟩ | ⟨e1,r1,r2,le,q1,q2,rfl⟩ | ⟨e1,i,r,le,q1,rfl⟩ | ⟨e1,r1,r2,le,q1,q2,rfl⟩ | ⟨e1,s,r1,r2,le,q1,q2,rfl⟩ | ⟨e1,s,r1,r2,le,q1,q2,rfl⟩ | hn
  case inr.inr.inr.inr.inr.inr=>exact absurd (by rw[e];decide +kernel) hn
  case inr.inl=>
   obtain⟨a',zs',ea,ha',iz⟩:=tr_node hx
   cases ea
   obtain⟨u1,u2,rfl,i1,i2⟩:=isDts_two iz
   refine⟨_,rfl,ixt (SqT.of ha') (show atI _ ((1:Nat):Int)=some u1 from atI_nat rfl) ⟨_,rfl,u1,l,ns,r1,_,rfl,i1,q1,by lia,hl,fun H1 s1=>?_⟩⟩
   refine⟨_,rfl,ixt (SqT.of (s1 _ _ ha')) (show atI _ ((2:Nat):Int)=some u2 from atI_nat rfl) ⟨_,rfl,u2,l,ns,r2,_,rfl,IsDt.mono s1.tups i2,q2,by lia,s1 _ _ hl,fun H2 s2=>?_⟩⟩
   refine⟨_,_,rfl,?_⟩
   have:=fin H2 (s1.trans s2)
   rw[deg_both]at this
   exact this
  all_goals exact absurd e (by simp only[wT];decide +kernel)
 have e2:=vs_ne e2
 dsimp only[tNext]
 refine⟨_,rfl,⟨(by show 2<=sizeLine;decide),fun c9 hc9=>.inl ⟨c9,[.str "times",.str "when"],rfl,.inr (SqT.of upd_same),rfl,rfl,_,rfl,?_⟩⟩⟩
 have s0:=same_new hc9 (.tup [V.str "times",.str "when"])
 have ha:=s0 _ _ ha
 have hl:=s0 _ _ hl
 have hx:=IsDt.mono s0.tups hx
 have fin:∀ H',Same (upd H c9 (.tup [V.str "times",.str "when"])) H'->Q (.int (degT ns q)) H':=fun H' s=>fin H' (s0.trans s)
 have inw:=inV_str (wT q) [Str.ofString "times",Str.ofString "when"]
 generalize upd H c9 (.tup [V.str "times",.str "when"])=H1 at *
 refine ite2 (fun e=>?_) (fun e3=>?_)
 ·have e:wT q∈_:=inw.mp e
  rcases c with ⟨s,rfl⟩ | ⟨e1,r1,r2,le,q1,q2,rfl⟩ | ⟨e1,i,r,le,q1,rfl⟩ | ⟨e1,r1,r2,le,q1,q2,rfl⟩ | ⟨e1,s,r1,r2,le,q1,q2,rfl⟩ | ⟨e1,s,r1,r2,le,q1,q2,rfl⟩ | hn
  case inr.inr.inr.inr.inr.inr=>exact absurd (by revert e;simp only[List.mem_cons,List.not_mem_nil,or_false];rintro (z | z) <;> simp [z]) hn
  case inr.inr.inl=>
   obtain⟨a',zs',ea,ha',iz⟩:=tr_node hx
   cases ea
   obtain⟨u1,rfl,i1⟩:=isDts_one iz
   refine⟨_,rfl,ixt (SqT.of ha') (show atI _ ((2:Nat):Int)=some u1 from atI_nat rfl) ⟨_,rfl,u1,l,ns,r,_,rfl,i1,q1,by lia,hl,fun H2 s2=>?_⟩⟩
   have:=fin H2 s2
   rw[deg_times]at this
   exact this
  case inr.inr.inr.inl=>
   obtain⟨a',zs',ea,ha',iz⟩:=tr_node hx
   cases ea
   obtain⟨u1,u2,rfl,i1,i2⟩:=isDts_two iz
   refine⟨_,rfl,ixt (SqT.of ha') (show atI _ ((2:Nat):Int)=some u2 from atI_nat rfl) ⟨_,rfl,u2,l,ns,r2,_,rfl,i2,q2,by lia,hl,fun H2 s2=>?_⟩⟩
   have:=fin H2 s2
   rw[deg_when]at this
   exact this
  all_goals exact absurd e (by simp only[wT];decide +kernel)
 have e3:wT q ∉ _:=fun z=>e3 (inw.mpr z)
 dsimp only[tNext]
 refine⟨_,rfl,.inl ⟨rfl,_,rfl,ite2 (fun e=>?_) (fun e4=>?_)⟩⟩
 ·have e:=vs_str e
  rcases c with ⟨s,rfl⟩ | ⟨e1,r1,r2,le,q1,q2,rfl⟩ | ⟨e1,i,r,le,q1,rfl⟩ | ⟨e1,r1,r2,le,q1,q2,rfl⟩ | ⟨e1,s,r1,r2,le,q1,q2,rfl⟩ | ⟨e1,s,r1,r2,le,q1,q2,rfl⟩ | hn
  case inr.inr.inr.inr.inr.inr=>exact absurd (by rw[e];decide +kernel) hn
  case inr.inr.inr.inr.inl=>
   obtain⟨a',zs',ea,ha',iz⟩:=tr_node hx
   cases ea
   obtain⟨u1,u2,rfl,i1,i2⟩:=isDts_two iz
   refine⟨_,rfl,ixt (SqT.of ha') (show atI _ ((3:Nat):Int)=some u2 from atI_nat rfl) ⟨_,rfl,u2,l,ns,r2,_,rfl,i2,q2,by lia,hl,fun H2 s2=>?_⟩⟩
   have:=fin H2 s2
   rw[deg_let]at this
   exact this
  all_goals exact absurd e (by simp only[wT];decide +kernel)
 have e4:=vs_ne e4
 dsimp only[tNext]
 refine⟨_,rfl,.inl ⟨rfl,_,rfl,ite2 (fun e=>?_) (fun e5=>?_)⟩⟩
 ·have e:=vs_str e
  rcases c with ⟨s,rfl⟩ | ⟨e1,r1,r2,le,q1,q2,rfl⟩ | ⟨e1,i,r,le,q1,rfl⟩ | ⟨e1,r1,r2,le,q1,q2,rfl⟩ | ⟨e1,s,r1,r2,le,q1,q2,rfl⟩ | ⟨e1,s,r1,r2,le,q1,q2,rfl⟩ | hn
  case inr.inr.inr.inr.inr.inr=>exact absurd (by rw[e];decide +kernel) hn
  case inr.inr.inr.inr.inr.inl=>
   obtain⟨a',zs',ea,ha',iz⟩:=tr_node hx
   cases ea
   obtain⟨u1,u2,rfl,i1,i2⟩:=isDts_two iz
   refine⟨_,rfl,ixt (SqT.of ha') (show atI _ ((2:Nat):Int)=some u1 from atI_nat rfl) ⟨_,rfl,u1,l,ns,r1,_,rfl,i1,q1,by lia,hl,fun H2 s2=>?_⟩⟩
   refine⟨_,rfl,ixt (SqT.of (s2 _ _ ha')) (show atI _ ((3:Nat):Int)=some u2 from atI_nat rfl) ⟨_,rfl,u2,l,ns,r2,_,rfl,IsDt.mono s2.tups i2,q2,by lia,s2 _ _ hl,fun H3 s3=>?_⟩⟩
   have:=fin H3 (s2.trans s3)
   rw[deg_for]at this
   exact .inl ⟨_,_,rfl,rfl,this⟩
  all_goals exact absurd e (by simp only[wT];decide +kernel)
 have e5:=vs_ne e5
 have:=fin H1 (.refl _)
 rw[deg_none (by simp only[List.mem_cons,List.not_mem_nil,or_false,not_or]at e3 ⊢;exact⟨e1,e2,e3.1,e3.2,e4,e5⟩)]at this
 exact this
theorem deg_all (T:Tx mg) (Zae:Df K mg "_law_degree" (top 41) f fd ["asked","names"]):∀ n:Nat,FnOk P w K mg base CX0 n f fd ["asked","names"] (spDeg n)
 | 0=>fn_false fun vs H Q E h=>by obtain⟨v,l,ns,q,d,_,_,_,h,_⟩:=h;lia
 | n+1=>ok_deg T Zae (deg_all T Zae n)
end
end K30
end
section
namespace K30
open PySem L2 Kn
theorem putK_cases (kvs:List (Key×V)) (k:Key) (v:V):(k∈kvs.map (·.1)/\(putK kvs k v).map (·.1)=kvs.map (·.1))\/(k ∉ kvs.map (·.1)/\putK kvs k v=kvs++[(k,v)]):=by
 by_cases h:(kvs.any fun kv=>decide (kv.1=k))=true
 ·left
  obtain⟨kv,h1,h2⟩:=List.any_eq_true.mp h
  refine⟨List.mem_map.mpr ⟨kv,h1,of_decide_eq_true h2⟩,?_⟩
  unfold putK
  rw[if_pos h,List.map_map]
  refine List.map_congr_left fun q _=>?_
  show (if q.1=k then (q.1,v) else q).1=q.1
  split <;> rfl
 ·right
  refine⟨fun z=>?_,?_⟩
  ·obtain⟨kv,h1,h2⟩:=List.mem_map.mp z
   exact h (List.any_eq_true.mpr ⟨kv,h1,decide_eq_true h2⟩)
  ·unfold putK
   rw[if_neg h]
section
variable {P:Program}{w:World}{K:PySem.W.Frag}{mg:Str->Option Value}{base:Heap}{f f_draw:Addr}{fd fd_draw:FuncData}
theorem Zbe:FnScope ["seed","mark","names","name"] ["seed","mark"] (defScope (top 37)):=⟨rfl,rfl,rfl,by decide +kernel,rfl,by decide +kernel,by decide +kernel⟩
def spNames:Sp:=fun vs H Q _=>∃ (p:Addr) (mk:Str),vs=[.ref p,.str mk]/\mk.length<=10/\Sd H p/\∀ (a:Addr) (kvs:List (Key×V)) (H':Hp),Ex p H H'->Sd H' p->H a=none->H' a=some (.dK kvs)->(∀ kv∈kvs,∃ s,kv.1=Sum.inr s)->kvs.length<=5->Q (.ref a) H'
theorem ok_names (T:Tx mg) (D:Df K mg "_law_names" (top 37) f fd ["seed","mark"]) (Zaa:Df K mg "_law_draw" (top 16) f_draw fd_draw ["seed","most"]) (Zac:FnOk P w K mg base CX0 1 f_draw fd_draw ["seed","most"] spDraw):FnOk P w K mg base CX0 2 f fd ["seed","mark"] spNames:=by
 refine D.fn.okH (k:=1) Zbe (fun vs H Q E h=>?_) (fun cdv A outer s H vs Q E hr h=>?_)
 ·obtain⟨p,mk,rfl,_⟩:=h;rfl
 obtain⟨p,mk,rfl,lmk,sd,fin⟩:=h
 have hu:=u110 hr
 have hu0:=u0 hr
 have hu1:=hu_of hr
 refine⟨_,(wss_cons (ws_set (i:=2) Zbe.nd rfl (Or.inl rfl) we_dnewK)
   (wss_cons (ws_for PassesOwn.never rfl (wi_U (we_lst (wa_consts rfl))) (wg_name (i:=3) Zbe.nd rfl (Or.inl rfl)) (wss_one (ws_if (wt_cmpR op_gt (we_call Zac (hr.mono (by lia)) rfl Zaa.mg Zaa.kp Zaa.b .nil pass0 (wa_cons (wv 0) (wa_cons we_int wa_nil))) we_int (nomark _)) (wss_one (ws_asg (we_op op_plus (wv 1) (wv 3)) (wg_sub (wv 2) (wv 3) (set_U hu1)))) wss_nil)))
   (wss_one (ws_ret (wv 2))))),?_⟩
 intro q hq
 have s1:Same H (upd H q (.dK [])):=same_new hq _
 have q1:(upd H q (.dK [])) q=some (.dK []):=upd_same
 generalize upd H q (.dK [])=H1 at s1 q1 ⊢
 have npq:p≠q:=fun z=>by obtain⟨_,_,_,_,h⟩:=sd;rw[z,hq]at h;cases h
 dsimp only
 refine seqH fun N2 to2=>.inl ⟨(by show 5<=sizeLine;decide),fun b hb=>?_⟩
 have s2:Same H1 (upd H1 b (.lst (NM.map V.str))):=same_new hb _
 have b2:(upd H1 b (.lst (NM.map V.str))) b=some (.lst (NM.map V.str)):=upd_same
 have nbq:b≠q:=fun z=>by rw[z,q1]at hb;cases hb
 have nbp:b≠p:=fun z=>by
  obtain⟨_,_,_,_,h⟩:=sd
  rw[z,s1 _ _ h]at hb;cases hb
 have hbH:H b=none:=same_back s1 hb
 have sd2:Sd (upd H1 b (.lst (NM.map V.str))) p:=by obtain⟨x,y,z,t,h⟩:=sd;exact⟨x,y,z,t,s2 _ _ (s1 _ _ h)⟩
 have q2:=s2 _ _ q1
 have s12:=s1.trans s2
 refine for_list (b:=b) (xs:=NM.map V.str) (fun i σ H'=>∃ (o3:Option V) (kvs:List (Key×V)),σ=[some (.ref p),some (.str mk),some (.ref q),o3]/\Ex p H H'/\Sd H' p/\H' q=some (.dK kvs)/\H' b=some (.lst (NM.map V.str))/\(∀ kv∈kvs,∃ s,kv.1=Sum.inr s)/\kvs.length<=i)
  ⟨none,[],rfl,s12.ex,sd2,q2,b2,(fun m hm=>nomatch hm),Nat.le_refl _⟩ ?stay ?turn ?done
 case stay=>rintro i σ H' ⟨o3,kvs,rfl,_,_,_,h,_⟩;exact h
 case done=>
  rintro σ H' ⟨o3,kvs,rfl,ex,sd',hq',hb',hk,lk⟩
  refine to2 _ _ ⟨_,rfl,fin q kvs H' ex sd' hq hq' hk lk⟩
 case turn=>
  rintro E2 i hi σ H' ⟨o3,kvs,rfl,ex,sd',hq',hb',hk,lk⟩ nx rt
  obtain⟨nm,en,ln⟩:∃ nm:Str,(NM.map V.str)[i]=.str nm/\nm.length<=10:=by
   rw[List.getElem_map]
   refine⟨_,rfl,?_⟩
   have:∀ s∈NM,s.length<=10:=by decide +kernel
   exact this _ (List.getElem_mem _)
  rw[en]
  have i5:i<5:=hi
  refine⟨_,rfl,p,4,rfl,sd',by decide,by decide,fun r H3 ex3 sd3 r0 r1=>⟨_,_,rfl,rfl,_,rfl,?_⟩⟩
  have q3:H3 q=some (.dK kvs):=ex3 _ _ (Ne.symm npq) hq'
  have b3:H3 b=_:=ex3 _ _ nbp hb'
  refine ite2 (fun e=>?_) (fun e=>nx _ _ ⟨_,kvs,rfl,ex.trans ex3,sd3,q3,b3,hk,by lia⟩)
  refine⟨_,rfl,_,rfl,.inr (.inl ⟨mk,nm,rfl,rfl,Nat.le_of_lt (line1 (by lia)),?_⟩)⟩
  refine⟨_,rfl,_,rfl,.inr ⟨q,_,rfl,DPut.k (k:=Sum.inr nm) q3 (line1 (by lia)),nx _ _ ?_⟩⟩
  have kc:=putK_cases kvs (Sum.inr nm) (.str (mk++nm))
  refine⟨_,putK kvs (Sum.inr nm) (.str (mk++nm)),rfl,fun c o n e=>?_,?_,upd_same,by rw[upd_ne nbq];exact b3,fun kv hkv=>?_,?_⟩
  ·rw[upd_ne (ne_of_none e hq)];exact ex3 _ _ n (ex _ _ n e)
  ·obtain⟨x,y,z,t,h⟩:=sd3;exact⟨x,y,z,t,by rw[upd_ne npq];exact h⟩
  ·rcases kc with ⟨_,e2⟩ | ⟨_,e2⟩
   ·have:kv.1∈kvs.map (·.1):=by rw[<- e2];exact List.mem_map.mpr ⟨kv,hkv,rfl⟩
    obtain⟨kv',h1,h2⟩:=List.mem_map.mp this
    rw[<- h2];exact hk kv' h1
   ·rw[e2]at hkv
    rcases List.mem_append.mp hkv with h | h
    ·exact hk kv h
    ·rw[List.mem_singleton.mp h];exact⟨nm,rfl⟩
  ·rcases kc with ⟨_,e2⟩ | ⟨_,e2⟩
   ·have:=congrArg List.length e2
    rw[List.length_map,List.length_map]at this
    lia
   ·rw[e2,List.length_append];show kvs.length+1<=_;lia
end
end K30
end
section
namespace K30
open PySem L2
def clsBody (s:Stmt):List Stmt:=match s with
 | .ClassDef _ _ _ b _ _ _ _ _ _ _=>b
 | _=>[]
def mtop (i j:Nat):Stmt:=(clsBody (top i)).getD j (.Pass ⟨0,0,0,0⟩)
structure Mf (K:PySem.W.Frag) (C:Addr) (m qual:Str) (st:Stmt) (f:Addr) (fd:FuncData) (ps:List Str):Prop where
 fn:Fun K m qual st f fd
 b:Binds K fd ps []
 mt:Meth K C m f
theorem last_cat (l:List V) (y:V):(l++[y])[(l++[y]).length-1]?=some y:=by simp
abbrev fW (l f:Addr):List (Str×V):=[(Str.ofString "waiting",.ref l),(Str.ofString "found",.ref f)]
structure Wk (C:Addr) (H:Hp) (x dx l r:Addr) (ws fs:List V):Prop where
 at_:H x=some (.ins C dx (fW l r))
 wt:H l=some (.lst ws)
 fd:H r=some (.lst fs)
 lf:l≠r
theorem Wk.keep {C:Addr}{H H':Hp}{x dx l r:Addr}{ws fs:List V} (h:Wk C H x dx l r ws fs) (s:Same H H'):Wk C H' x dx l r ws fs:=⟨s _ _ h.at_,s _ _ h.wt,s _ _ h.fd,h.lf⟩
theorem Wk.setW {C:Addr}{H:Hp}{x dx l r:Addr}{ws fs:List V} (h:Wk C H x dx l r ws fs) (zs:List V):Wk C (upd H l (.lst zs)) x dx l r zs fs:=
 ⟨by rw[upd_ne fun z=>by have:=h.at_;rw[z,h.wt]at this;cases this];exact h.at_,upd_same,by rw[upd_ne (Ne.symm h.lf)];exact h.fd,h.lf⟩
theorem Wk.setF {C:Addr}{H:Hp}{x dx l r:Addr}{ws fs:List V} (h:Wk C H x dx l r ws fs) (zs:List V):Wk C (upd H r (.lst zs)) x dx l r ws zs:=
 ⟨by rw[upd_ne fun z=>by have:=h.at_;rw[z,h.fd]at this;cases this];exact h.at_,by rw[upd_ne h.lf];exact h.wt,upd_same,h.lf⟩
abbrev ExW (l r:Addr) (H H':Hp):Prop:=∀ b o,b≠l->b≠r->H b=some o->H' b=some o
theorem lkw (l f:Addr):(fW l f).lookup (Str.ofString "waiting")=some (.ref l):=rfl
theorem lkf (l f:Addr):(fW l f).lookup (Str.ofString "found")=some (.ref f):=rfl
section
variable {P:Program}{w:World}{K:PySem.W.Frag}{mg:Str->Option Value}{base:Heap}{f:Addr}{fd:FuncData}{C:Addr}
structure NA (K:PySem.W.Frag) (C:Addr):Prop where
 waiting:NoAttr K C (Str.ofString "waiting")
 found:NoAttr K C (Str.ofString "found")
theorem ZbE:FnScope ["self"] ["self"] (defScope (mtop 6 0)):=⟨rfl,rfl,rfl,by decide +kernel,rfl,by decide +kernel,by decide +kernel⟩
def spInit (C:Addr):Sp:=fun vs H Q _=>∃ (x dx:Addr),vs=[.ref x]/\H x=some (.ins C dx []) /\
 ∀ (l f:Addr) (H':Hp),(∀ b o,b≠x->H b=some o->H' b=some o)->Wk C H' x dx l f [] []->H l=none->H f=none->Q .non H'
theorem ok_init (T:Tx mg) (Zag:Cls K C) (N:NA K C) (D:Mf K C "__init__" "Walk.__init__" (mtop 6 0) f fd ["self"]):FnOk P w K mg base CX0 1 f fd ["self"] (spInit C):=by
 refine D.fn.okH ZbE (fun vs H Q E h=>?_) (fun cdv A outer s H vs Q E hr h=>?_)
 ·obtain⟨x,dx,rfl,_⟩:=h;rfl
 obtain⟨x,dx,rfl,hx,fin⟩:=h
 have hu:=u110 hr
 have hu0:=u0 hr
 have hu1:=hu_of hr
 refine⟨_,(wss_cons (ws_fld (wv 0) (we_lst wa_nil))
   (wss_one (ws_fld (wv 0) (we_lst wa_nil)))),?_⟩
 refine⟨(by show 0<=sizeLine;decide),fun l hl=>⟨_,rfl,x,C,dx,[],rfl,same_new hl _ _ _ hx,Zag,N.waiting,by decide,?_⟩⟩
 have nx:l≠x:=fun z=>by rw[z,hx]at hl;cases hl
 obtain⟨H1,e1⟩:∃ H1,H1=upd (upd H l (.lst [])) x (.ins C dx [(Str.ofString "waiting",.ref l)]):=⟨_,rfl⟩
 have k1:∀ b o,b≠x->H b=some o->H1 b=some o:=fun b o n e=>by rw[e1,upd_ne n];exact same_new hl _ _ _ e
 have x1:H1 x=some (.ins C dx [(Str.ofString "waiting",.ref l)]):=by rw[e1];exact upd_same
 have l1:H1 l=some (.lst []):=by rw[e1,upd_ne nx];exact upd_same
 rw[show putF (Str.ofString "waiting") (V.ref l) []=[(Str.ofString "waiting",.ref l)] from by rw[putF],<- e1]
 clear e1
 refine⟨(by show 0<=sizeLine;decide),fun r hr1=>⟨_,rfl,x,C,dx,_,rfl,same_new hr1 _ _ _ x1,Zag,N.found,by simp,?_⟩⟩
 have nr:r≠x:=fun z=>by rw[z,x1]at hr1;cases hr1
 have nl:l≠r:=fun z=>by rw[<- z,l1]at hr1;cases hr1
 rw[show putF (Str.ofString "found") (V.ref r) [(Str.ofString "waiting",.ref l)]=fW l r from by rw[putF,if_neg (by decide +kernel),putF]]
 refine fin l r _ (fun b o n e=>by rw[upd_ne n];exact same_new hr1 _ _ _ (k1 b o n e)) ⟨upd_same,by rw[upd_ne nx];exact same_new hr1 _ _ _ l1,by rw[upd_ne nr];exact upd_same,nl⟩ hl ?_
 cases e:H r with
 | none=>rfl
 | some u=>rw[k1 r u nr e]at hr1;cases hr1
theorem ZbF:FnScope ["self","step","question","around"] ["self","step","question","around"] (defScope (mtop 6 1)):=⟨rfl,rfl,rfl,by decide +kernel,rfl,by decide +kernel,by decide +kernel⟩
def spLater (C:Addr):Sp:=fun vs H Q _=>∃ (x dx l r:Addr) (ws fs:List V) (a b c:V),vs=[.ref x,a,b,c]/\Wk C H x dx l r ws fs/\ws.length<=10000000 /\
 ∀ (t:Addr) (H':Hp),ExW l r H H'->H t=none->H' t=some (.tup [a,b,c])->Wk C H' x dx l r (ws++[.ref t]) fs->Q .non H'
theorem ok_later (T:Tx mg) (Zag:Cls K C) (N:NA K C) (D:Mf K C "later" "Walk.later" (mtop 6 1) f fd ["self","step","question","around"]):FnOk P w K mg base CX0 1 f fd ["self","step","question","around"] (spLater C):=by
 refine D.fn.okH ZbF (fun vs H Q E h=>?_) (fun cdv A outer s H vs Q E hr h=>?_)
 ·obtain⟨x,dx,l,r,ws,fs,a,b,c,rfl,_⟩:=h;rfl
 obtain⟨x,dx,l,r,ws,fs,a,b,c,rfl,wk,lw,fin⟩:=h
 have hu:=u110 hr
 have hu0:=u0 hr
 have hu1:=hu_of hr
 refine⟨_,(wss_one (ws_expr (we_bm PySem.F.plainAttrs_list PySem.F.slot_list_append PySem.F.type_list_append mt_append (we_fld (wv 0)) (wa_cons (we_tup (wa_cons (wv 1) (wa_cons (wv 2) (wa_cons (wv 3) wa_nil)))) wa_nil)))),?_⟩
 refine⟨_,rfl,x,C,dx,_,_,rfl,wk.at_,Zag,N.waiting,lkw l r,.inl ⟨rfl,_,SqL.of wk.wt⟩,?_⟩
 refine⟨_,rfl,_,rfl,_,rfl,(by show 3<=sizeLine;decide),fun t ht=>?_⟩
 have wk1:=wk.keep (same_new ht (.tup [a,b,c]))
 have nt:t≠l:=fun z=>by rw[z,wk.wt]at ht;cases ht
 refine⟨l,ws,_,rfl,rfl,wk1.wt,line1 (by lia),?_⟩
 exact fin t _ (fun b o n _ e=>by rw[upd_ne n];exact same_new ht _ _ _ e) ht (by rw[upd_ne nt];exact upd_same) (wk1.setW _)
theorem ZbG:FnScope ["self","result"] ["self","result"] (defScope (mtop 6 2)):=⟨rfl,rfl,rfl,by decide +kernel,rfl,by decide +kernel,by decide +kernel⟩
def spTell (C:Addr):Sp:=fun vs H Q _=>∃ (x dx l r:Addr) (ws fs:List V) (a:V),vs=[.ref x,a]/\Wk C H x dx l r ws fs/\fs.length<=10000000 /\
 ∀ (H':Hp),ExW l r H H'->Wk C H' x dx l r ws (fs++[a])->Q .non H'
theorem ok_tell (T:Tx mg) (Zag:Cls K C) (N:NA K C) (D:Mf K C "tell" "Walk.tell" (mtop 6 2) f fd ["self","result"]):FnOk P w K mg base CX0 1 f fd ["self","result"] (spTell C):=by
 refine D.fn.okH ZbG (fun vs H Q E h=>?_) (fun cdv A outer s H vs Q E hr h=>?_)
 ·obtain⟨x,dx,l,r,ws,fs,a,rfl,_⟩:=h;rfl
 obtain⟨x,dx,l,r,ws,fs,a,rfl,wk,lw,fin⟩:=h
 have hu:=u110 hr
 have hu0:=u0 hr
 have hu1:=hu_of hr
 refine⟨_,(wss_one (ws_expr (we_bm PySem.F.plainAttrs_list PySem.F.slot_list_append PySem.F.type_list_append mt_append (we_fld (wv 0)) (wa_cons (wv 1) wa_nil)))),?_⟩
 refine⟨_,rfl,x,C,dx,_,_,rfl,wk.at_,Zag,N.found,lkf l r,.inl ⟨rfl,_,SqL.of wk.fd⟩,?_⟩
 refine⟨_,rfl,r,fs,_,rfl,rfl,wk.fd,line1 (by lia),?_⟩
 exact fin _ (fun b o _ n e=>by rw[upd_ne n];exact e) (wk.setF _)
theorem Zbn:FnScope ["self","many","taken"] ["self","many"] (defScope (mtop 6 3)):=⟨rfl,rfl,rfl,by decide +kernel,rfl,by decide +kernel,by decide +kernel⟩
def spTake (C:Addr):Sp:=fun vs H Q _=>∃ (x dx l r:Addr) (ws fs gs:List V),vs=[.ref x,.int gs.length]/\Wk C H x dx l r ws (fs++gs)/\gs.length<=1000000 /\
 ∀ (t:Addr) (H':Hp),ExW l r H H'->H t=none->H' t=some (.lst gs)->Wk C H' x dx l r ws fs->Q (.ref t) H'
theorem ok_take (T:Tx mg) (Zag:Cls K C) (N:NA K C) (D:Mf K C "take" "Walk.take" (mtop 6 3) f fd ["self","many"]):FnOk P w K mg base CX0 1 f fd ["self","many"] (spTake C):=by
 refine D.fn.okH Zbn (fun vs H Q E h=>?_) (fun cdv A outer s H vs Q E hr h=>?_)
 ·obtain⟨x,dx,l,r,ws,fs,gs,rfl,_⟩:=h;rfl
 obtain⟨x,dx,l,r,ws,fs,gs,rfl,wk,lg,fin⟩:=h
 have hu:=u110 hr
 have hu0:=u0 hr
 have hu1:=hu_of hr
 refine⟨_,(wss_cons (ws_lc (j:=2) (hN:=Zbn.nd) (hj:=rfl) (hy:=(Or.inl rfl)) (Nt:=["turn"]) (fr:=[("self",0)]) (LcOk.of (sc:=defScope (mtop 6 3)) (N:=["self","many","taken"]) rfl rfl (by decide +kernel)) rfl (wi_range1 rfl T.z_range (wa_cons (wv 1) wa_nil)) (fun z=>wg_name (i:=0) (by show (["turn","self"]:List Str).Nodup;decide +kernel) rfl (Or.inl rfl) (.inr rfl)) (fun z=>tgt_name (by decide)) (fun z=>wif_nil) (fun z=>(we_bm0 PySem.F.plainAttrs_list PySem.F.slot_list_pop PySem.F.type_list_pop mt_pop (we_fld (wv 1)))))
   (wss_one (ws_ret (we_rev (wv 2))))),?_⟩
 refine⟨_,rfl,(gs.length:Int),rfl,by lia,by lia,?_⟩
 refine⟨fun i m zs H'=>m+i=gs.length/\zs=gs.reverse.take i/\ExW l r H H'/\Wk C H' x dx l r ws (fs++gs.take (gs.length-i)),⟨gs.length,by lia,rfl,fun _ _ _ _ e=>e,by rw[Nat.sub_zero,List.take_length];exact wk⟩,?_⟩
 rintro i m zs H' ⟨hm,rfl,ex,wk'⟩
 refine⟨line1 (by rw[List.length_take];lia),?_⟩
 by_cases hi:i<gs.length
 ·refine .inr ⟨(by show i<((gs.length:Int)).toNat;lia),fun z y H5 hy=>?_⟩
  obtain⟨rfl,rfl⟩:=hy
  refine gall ?_
  have e1:gs.take (gs.length-i)=gs.take (gs.length-(i+1))++[gs[gs.length-(i+1)]'(by lia)]:=by
   conv=>lhs;rw[show gs.length-i=gs.length-(i+1)+1 by lia]
   rw[List.take_add_one,List.getElem?_eq_getElem (by lia)];rfl
  rw[e1,<- List.append_assoc]at wk'
  refine⟨_,rfl,x,C,dx,_,_,rfl,wk'.at_,Zag,N.found,lkf l r,.inl ⟨rfl,_,SqL.of wk'.fd⟩,r,_,gs[gs.length-(i+1)]'(by lia),rfl,rfl,wk'.fd,last_cat _ _,?_⟩
  rw[List.dropLast_concat]
  refine⟨m-1,by lia,by lia,?_,fun b o n1 n2 e=>by rw[upd_ne n2];exact ex b o n1 n2 e,wk'.setF _⟩
  rw[List.take_add_one,List.getElem?_reverse (by lia),List.getElem?_eq_getElem (by lia)]
  show _=_++[gs[gs.length-1-i]'(by lia)]
  congr 3
  lia
 ·refine .inl ⟨(by show ((gs.length:Int)).toNat<=i;lia),fun t ht=>?_⟩
  obtain rfl:i=gs.length:=by lia
  rw[Nat.sub_self,List.take_zero,List.append_nil]at wk'
  rw[List.take_of_length_le (by rw[List.length_reverse];exact Nat.le_refl _)]
  refine⟨_,rfl,t,_,rfl,SqL.of upd_same,fun q hq=>?_⟩
  rw[List.reverse_reverse]
  have s1:=(same_new ht (.lst gs.reverse)).trans (same_new hq (.lst gs))
  have nq:q≠l/\q≠r:=⟨fun z=>(by rw[z,(wk'.keep (same_new ht _)).wt]at hq;cases hq),fun z=>(by rw[z,(wk'.keep (same_new ht _)).fd]at hq;cases hq)⟩
  refine fin q _ (fun b o n1 n2 e=>s1 _ _ (ex b o n1 n2 e)) ?_ upd_same (wk'.keep s1)
  cases e:H q with
  | none=>rfl
  | some u=>rw[same_new ht _ _ _ (ex q u nq.1 nq.2 e)]at hq;cases hq
end
end K30
end
section
namespace L2
open PySem PySem.Spec PyProof.Rows
def OnlyT (ts:List Addr) (H:Hp):Prop:=(∀ P∈ts,H P=some (.tbl #[]))/\∀ b,H b=none\/(∃ o xs,H b=some (.frz o (.lst xs)))\/(H b=some (.tbl #[])/\b∈ts)
theorem law_callT {P:Program}{w:World}{K:PySem.W.Frag}{mg mb:Str->Option Value}{CX:CXT}{k:Nat}{fa a:Addr}{fd:FuncData}{x:Str}{sp:Sp}{s₁:Shared}{vs:List Value}{ns:List Int}{ts:List Addr}
  (KX:K.In s₁.heap) (hT:∀ P∈ts,s₁.heap.get? P=some (PySem.W.tabObj #[])) (hKT:∀ P∈ts,K.lookup P=none/\∃ c,PySem.W.CodeHd s₁.heap c P)
  (hns:s₁.heap.Ns mainGlobals mg) (hb:s₁.heap.Ns builtinsNs mb) (hbb:∀ x:Str,x≠"__name__"->mb x=bootBuiltins x) (hlim:s₁.heap.NoLimit) (hg:s₁.gens=#[])
  (ha:s₁.heap.get? a=some { cls:=.type "list",data:=.seq vs.toArray }) (hi:IntsAre vs ns) (hl:ns.length<=sizeLine) (hr:Room k callerA)
  (F:∀ base:Heap,K.In base->base.Ns mainGlobals mg->FnOk P w K mg base CX k fa fd [x] sp) (hbind:∀ (s:Shared) (u:Value),BindsTo s fd ⟨[u],[]⟩ [(x,u)])
  (hsp:∀ H:Hp,OnlyT ts H->SqL K H a (ns.map V.int)->sp [.ref a] H (fun v _=>v=.bl true) fun _ _ _=>False)
  (hCX:∀ H e s',CX [] H s₁ (fun _ _ _=>False) e s'->False) :
  codeAny (model P w) callerA (.call (.ref fa) ⟨[.ref a],[]⟩) (fun r s'=>r=.ok (.ret (.bool true))/\OldK s₁.heap s'.heap/\s'.os=s₁.os/\AllBare s'.gens) s₁:=by
 have rv:=vals_ints hi
 have lenV:=hi.length
 have nat:a ∉ ts:=fun z=>by have:=hT a z;rw[ha]at this;cases this
 have core:∀ H:Hp,OnlyT ts H->SqL K H a (ns.map V.int)->HOk P w H s₁.heap->(∀ b,H b≠none->b=a\/b∈ts)->(H a≠none->K.lookup a=none) ->
   codeAny (model P w) callerA (.call (.ref fa) ⟨[.ref a],[]⟩) (fun r s'=>r=.ok (.ret (.bool true))/\OldK s₁.heap s'.heap/\s'.os=s₁.os/\AllBare s'.gens) s₁:=by
  intro H hO hS hok hA hK
  have base_of:∀ {b:Addr}{o:Obj},s₁.heap.get? b=some o->H b=none->(hidT s₁.heap H).get? b=some o:=fun e n=>hidT_get e n
  have noA:∀ {b:Addr}{o:Obj}{es:Array DictEntry}{ep:Nat},s₁.heap.get? b=some o->o.data=.dict es ep->H b=none:=fun {b o es ep} e d=>by
   cases q:H b with
   | none=>rfl
   | some u=>
    rcases hA b (by rw[q];simp) with e' | e'
    ·subst e'
     rw[ha]at e;cases e
     have d':Data.seq vs.toArray _=Data.dict es ep:=d
     cases d'
    ·rw[hT b e']at e;cases e
     have d':Data.fields #[]=Data.dict es ep:=d
     cases d'
  have nsK:∀ {b:Addr}{m:Str->Option Value},s₁.heap.Ns b m->(hidT s₁.heap H).Ns b m:=fun {b m} ⟨o,es,ep,e,d,r⟩=>⟨o,es,ep,base_of e (noA e d),d,r⟩
  have hKb:K.In (hidT s₁.heap H):=fun b o e=>base_of (KX b o e) (by
   cases q:H b with
   | none=>rfl
   | some u=>
    rcases hA b (by rw[q];simp) with e' | e'
    ·subst e'
     rw[hK (by rw[q];simp)]at e;cases e
    ·rw[(hKT b e').1]at e;cases e)
  have hM:Mod K mg (hidT s₁.heap H):=⟨hKb,nsK hns,⟨mb,nsK hb,hbb⟩,let ⟨mc,h1,h2⟩:=hlim;⟨mc,nsK h1,h2⟩⟩
  have e0:Env0 P w K mg (hidT s₁.heap H) callerA [] s₁ H:=⟨rfl,hM,fun b o e=>of_hidT e,Nat.le_of_eq (hidT_size _ _),trivial,fun b hb=>absurd (show b∈([]:List Addr) from hb) (by simp),hok,.of_eq hg⟩
  refine codeAny_mono ((F _ hKb (nsK hns)).run callerA [] s₁ H ⟨[.ref a],[]⟩ [.ref a] [.ref a] _ _ hr e0 (hbind s₁ (.ref a)) (.cons rfl .nil) (hsp H hO hS)) fun r s' h=>?_
  cases r with
  | error e=>exact (hCX H e s' h).elim
  | ok fl=>
   cases fl with
   | next=>exact False.elim h
   | brk=>exact False.elim h
   | cont=>exact False.elim h
   | ret u=>
    obtain⟨v,H',os,bare,un,hok',r',q⟩:=h
    have q':v=.bl true:=q
    subst q'
    obtain rfl:u=Value.bool true:=r'
    refine⟨rfl,⟨fun b o e=>?_,fun b o e=>un.there b o e (by simp)⟩,os,bare⟩
    rcases hO.2 b with z | ⟨ob,xs,z⟩ | ⟨z,hm⟩
    ·exact .inl (un.keep b o e z (by intro z;exact absurd (show b∈([]:List Addr) from z) (by simp)) (by simp))
    ·have z2:=un.frzs b ob _ z
     obtain⟨e1,_⟩:=hok b _ z
     obtain⟨e2,_⟩:=hok' b _ z2
     rw[e]at e1;cases e1
     exact .inl e2
    ·obtain⟨more,z2⟩:=un.tbls b _ z
     have e1:=hok b _ z
     have e2:=hok' b _ z2
     obtain⟨c,C⟩:=(hKT b hm).2
     have e0:s₁.heap.get? b=some (PySem.W.tabObj #[]):=hT b hm
     rw[e]at e0;cases e0
     exact .inr (.inl ⟨(C.tab e).isCodeTable,rfl,#[],more,rfl,e2⟩)
 have tb:∀ b,b∈ts->ObjOk P w (fun _=>none) s₁.heap b (.tbl #[]):=fun b hb=>hT b hb
 cases hk:K.lookup a with
 | some o=>
  have e:=KX a o hk
  rw[ha]at e
  cases e
  refine core (fun b=>if b∈ts then some (.tbl #[]) else none) ⟨fun P hP=>if_pos hP,fun b=>?_⟩ (.inr ⟨_,vs.toArray,_,hk,rfl,rfl,rfl,by rw[List.size_toArray,lenV];exact hl,by simpa using rv⟩) (fun b u z=>?_) (fun b z=>?_) fun z=>absurd (if_neg nat) z
  ·by_cases hb:b∈ts
   ·exact .inr (.inr ⟨if_pos hb,hb⟩)
   ·exact .inl (if_neg hb)
  ·by_cases hb:b∈ts
   ·have z':=(if_pos hb).symm.trans z
    cases z'
    exact hT b hb
   ·have z':=(if_neg hb).symm.trans z
    cases z'
  ·by_cases hb:b∈ts
   ·exact .inr hb
   ·exact absurd (if_neg hb) z
 | none=>
  have h1:∀ {b:Addr},b=a->(if b=a then some (HO.frz { cls:=.type "list",data:=.seq vs.toArray } (.lst (ns.map V.int))) else if b∈ts then some (.tbl #[]) else none)=some (HO.frz { cls:=.type "list",data:=.seq vs.toArray } (.lst (ns.map V.int))):=fun h=>if_pos h
  have h2:∀ {b:Addr},b≠a->b∈ts->(if b=a then some (HO.frz { cls:=.type "list",data:=.seq vs.toArray } (.lst (ns.map V.int))) else if b∈ts then some (.tbl #[]) else none)=some (.tbl #[]):=fun h g=>by rw[if_neg h,if_pos g]
  have h3:∀ {b:Addr},b≠a->b ∉ ts->(if b=a then some (HO.frz { cls:=.type "list",data:=.seq vs.toArray } (.lst (ns.map V.int))) else if b∈ts then some (.tbl #[]) else none)=none:=fun h g=>by rw[if_neg h,if_neg g]
  refine core (fun b=>if b=a then some (.frz { cls:=.type "list",data:=.seq vs.toArray } (.lst (ns.map V.int))) else if b∈ts then some (.tbl #[]) else none) ⟨fun P hP=>h2 (fun z=>nat (z ▸ hP)) hP,fun b=>?_⟩ (.inl (.inr ⟨{ cls:=.type "list",data:=.seq vs.toArray },if_pos rfl⟩)) (fun b u z=>?_) (fun b z=>?_) fun _=>hk
  ·by_cases hb:b=a
   ·exact .inr (.inl ⟨_,_,h1 hb⟩)
   ·by_cases hc:b∈ts
    ·exact .inr (.inr ⟨h2 hb hc,hc⟩)
    ·exact .inl (h3 hb hc)
  ·by_cases hb:b=a
   ·have z':=(h1 hb).symm.trans z
    cases z'
    subst hb
    exact⟨ha,by rw[List.length_map];exact hl,vs,_,rv,ha⟩
   ·by_cases hc:b∈ts
    ·have z':=(h2 hb hc).symm.trans z
     cases z'
     exact hT b hc
    ·have z':=(h3 hb hc).symm.trans z
     cases z'
  ·by_cases hb:b=a
   ·exact .inl hb
   ·by_cases hc:b∈ts
    ·exact .inr hc
    ·exact absurd (h3 hb hc) z
theorem walk_ofT {l:PySem.W.OpenLaw}{n k:Nat}{q:Program}{loose:List Str}{XP:(Str->Option Value)->Heap->Prop}{YP:World->Heap->Prop}{d:DefRec}{K:Params->PySem.W.Frag}{CX:World->CXT}{sp:World->Sp}{x:Str}{ts:List Addr}
  (hn:l.most=some n) (hn2:n<=sizeLine) (hdf:d.params.defaults=[]) (hr:Room k callerA)
  (hY:∀ (w:World) (h:Heap),YP w h->(K w.params).In h/\∀ P∈ts,h.get? P=some (PySem.W.tabObj #[]))
  (hKT:∀ (w:World),∀ P∈ts,(K w.params).lookup P=none/\∃ c,PySem.W.codeHdIn (K w.params) c P=true)
  (F:∀ (w:World) (mg:Str->Option Value) (fa:Addr) (h:Heap),(K w.params).In h->h.Ns mainGlobals mg->mg d.name=some (.ref fa) ->
   ∃ fd:FuncData,(∀ (s:Shared) (u:Value),BindsTo s fd ⟨[u],[]⟩ [(x,u)]) /\
    ∀ base:Heap,(K w.params).In base->base.Ns mainGlobals mg->FnOk l.prog w (K w.params) mg base (CX w) k fa fd [x] (sp w))
  (hsp:∀ (w:World) (H:Hp) (a:Addr) (ns:List Int),ns.length<=n->OnlyT ts H->SqL (K w.params) H a (ns.map V.int)->sp w [.ref a] H (fun v _=>v=.bl true) fun _ _ _=>False)
  (hCX:∀ (w:World) (H:Hp) (s:Shared) (e:Value) (s':Shared),CX w [] H s (fun _ _ _=>False) e s'->False) :
  PySem.W.WalkO q loose XP YP l.row.toRowW d [] (fun f vs=>PySem.call f vs):=by
 refine Att.attach_call hn hdf fun w s₀ s₁ mg mb fa o pm cd doc a vs ns G Y ho hd hcd hmg hobj hints hlen hg=>?_
 obtain⟨KX,hT⟩:=hY w _ Y
 obtain⟨fd,hb,hF⟩:=F w mg fa _ KX G.T.g hmg
 exact law_callT KX hT (fun P hP=>⟨(hKT w P hP).1,let ⟨c,e⟩:=(hKT w P hP).2;⟨c,PySem.W.codeHd_of_K KX e⟩⟩) G.T.g G.T.b G.T.builtins G.T.nolimit hg hobj hints (Nat.le_trans hlen hn2) hr hF hb (fun H hO hS=>hsp w H a ns hlen hO hS) fun H e s'=>hCX w H s₁ e s'
end L2
end
section
namespace L2
open PySem PySem.Spec PyProof.Rows
section
variable {P:Program}{w:World}{fs ex:List Addr}{H:Hp}{h h':Heap}{T c:Addr}{ps more:Array Value}{o:HO}
theorem Un.tblNew (hT:H T=some (.tbl ps)) (k:∀ b u,b≠T->h.get? b=some u->h'.get? b=some u) (e:∃ u,h'.get? T=some u) (hp:h.objs.size<=c) (hn:H c=none):Un fs ex H (upd (upd H T (.tbl (ps++more))) c o) h h':=by
 have cT:T≠c:=ne_of_none hT hn
 have nT:∀ b,H b=none->b≠T:=fun b n z=>by rw[z,hT]at n;cases n
 have oth:∀ b u,H b=some u->b≠T->upd (upd H T (.tbl (ps++more))) c o b=some u:=fun b u q z=>by rw[upd_ne (ne_of_none q hn),upd_ne z];exact q
 refine⟨fun b u q n _ _=>k b u (nT b n) q,fun b u q n _ _=>⟨u.slots,k b u (nT b n) q⟩,fun b u q n _=>?_,fun b u q _=>?_,fun b xs q=>oth b _ q fun z=>?_,fun b u xs q=>oth b _ q fun z=>?_,fun b qs q=>?_⟩
 ·rw[upd_ne (Nat.ne_of_lt (Nat.lt_of_lt_of_le (Heap.lt_size q) hp)),upd_ne (nT b n)];exact n
 ·by_cases z:b=T
  ·rw[z];exact e
  ·exact⟨u,k b u z q⟩
 ·rw[z,hT]at q;cases q
 ·rw[z,hT]at q;cases q
 ·by_cases z:b=T
  ·rw[z,hT]at q;cases q
   exact⟨more,by rw[z,upd_ne cT,upd_same]⟩
  ·exact⟨#[],by rw[oth b _ q z];simp⟩
theorem HOk.tblNew (x:HOk P w H h) (hT:H T=some (.tbl ps)) (k:∀ b u,b≠T->h.get? b=some u->h'.get? b=some u) (e:h'.get? T=some (PySem.W.tabObj (ps++more))) (hn:H c=none) (new:∀ H',ObjOk P w H' h' c o):HOk P w (upd (upd H T (.tbl (ps++more))) c o) h':=fun b u q=>by
 have cT:T≠c:=ne_of_none hT hn
 by_cases z:b=c
 ·rw[z,upd_same]at q;cases q;rw[z];exact new _
 rw[upd_ne z]at q
 by_cases y:b=T
 ·rw[y,upd_same]at q;cases q;rw[y];exact e
 rw[upd_ne y]at q
 have oth:∀ b u,H b=some u->b≠T->upd (upd H T (.tbl (ps++more))) c o b=some u:=fun b u q z=>by rw[upd_ne (ne_of_none q hn),upd_ne z];exact q
 have nT:∀ d v,H d=some v->(∀ qs,v≠.tbl qs)->d≠T:=fun d v r m z=>by rw[z,hT]at r;cases r;exact m _ rfl
 refine (x b u q).stay (fun d v hd r=>k d v ?_ r) (fun d r=>oth d _ r (nT d _ r fun _ z=>by cases z)) fun d xs r=>oth d _ r (nT d _ r fun _ z=>by cases z)
 rcases hd with rfl | hd
 ·exact y
 ·exact nT d _ hd fun _ z=>by cases z
end
section
variable {X:Cx}
def CodeO (c:Addr) (qual:Str):Heap->Prop:=fun h=>h.CodeRec (.ref c) qual
def LamT (H:Hp) (T:Addr) (pos:Pos) (qual:Str):Prop:=H T=some (.tbl #[])\/∃ c,H T=some (.tbl #[rawInt pos.line,rawInt pos.col,.ref c])/\H c=some (.ext (CodeO c qual))
theorem codeO_ok {P:Program}{w:World}{h:Heap}{c:Addr}{qual:Str} (x:h.CodeRec (.ref c) qual) (H':Hp):ObjOk P w H' h c (.ext (CodeO c qual)):=by
 refine⟨x,?_,fun h1 h2 y k=>?_⟩
 ·obtain⟨d,o,vs,t,e,e1,e2,e3⟩:=x
  cases e
  exact⟨o,e1⟩
 ·obtain⟨d,o,vs,t,e,e1,e2,e3⟩:=y
  cases e
  exact⟨c,o,vs,t,rfl,k _ e1,e2,e3⟩
structure LmK (K:PySem.W.Frag) (mg:Str->Option Value) (c T:Addr):Prop where
 cd:PySem.W.codeHdIn K c T=true
 bi:∃ (bm:Addr) (ob:Obj),mg "__builtins__"=some (.ref bm)/\K.lookup bm=some ob/\bm≠builtinsNs/\bm≠mainGlobals/\bm≠T/\ob.cls=.type "module"/\ob.dict=some builtinsNs/\ob.data=.plain
 gT:mainGlobals≠T
theorem Fun.okC {P:Program}{w:World}{K:PySem.W.Frag}{mg:Str->Option Value}{base:Heap}{x qual:Str}{st:Stmt}{f c:Addr}{fd:FuncData}{N ps:List Str}{k:Nat}{sp:Sp} (F:Fun K x qual st f fd) (hc:fd.code=.ref c) (S:FnScope N ps (defScope st)) (len:∀ vs H Q E,sp vs H Q E->vs.length=ps.length)
  (body:∀ (A:Around) (outer:List Env) (s:Shared) (H:Hp) (vs:List V) (Q:VK) (E:XK),Room k (A.deeper (envOfC qual (defScope st) s.heap.objs.size f (.ref c)))->sp vs H Q E ->
   ∃ t,Hd (PSs (cxOf CX0 P w K mg base N qual (defScope st) f (.ref c) A outer s H E).nox (defBody st) t)/\t { nx:=fun _ H'=>Q .non H',rt:=Q } (start N vs) H):FnOk P w K mg base CX0 (k+1) f fd ps sp:=by
 obtain⟨oc,od,kV,doc,pm,an,cdv,ct,osl,rfl,lk,hcd⟩:=F.ex
 obtain rfl:cdv=.ref c:=hc
 refine fn_of lk hcd S len fun A outer s H vs Q E hr h=>?_
 obtain⟨t,h1,h2⟩:=body A outer s H vs Q E hr h
 exact⟨t,h1.out.nox,h2⟩
end
end L2
end
section
namespace L2
open PySem PySem.Spec PyProof.Rows
def CellO (c:Addr) (o:Obj):Heap->Prop:=fun h=>h.get? c=some o
def CellIs (o:Obj) (v:V):Prop:=∃ u,RelV v u/\o.data=.cell (some u)
abbrev Clos:=List (Str×Addr)
def inC (clos:Clos) (b:Addr):Prop:=b∈clos.map (·.2)
instance (clos:Clos) (b:Addr):Decidable (inC clos b):=by unfold inC;infer_instance
def addG (H:Hp) (clos:Clos) (g:Addr->Obj):Hp:=fun b=>if inC clos b then some (.ext (CellO b (g b))) else H b
def remC (H:Hp) (clos:Clos):Hp:=fun b=>if inC clos b then none else H b
def backC (H' H:Hp) (clos:Clos):Hp:=fun b=>if inC clos b then H b else H' b
def CellsG (H:Hp) (clos:Clos) (g:Addr->Obj) (ws:List V):Prop:=(∀ b,inC clos b->H b=some (.ext (CellO b (g b))))/\Paired (fun (p:Str×Addr) v=>CellIs (g p.2) v) clos ws
def ClosInj (clos:Clos):Prop:=∀ x y c,clos.lookup x=some c->clos.lookup y=some c->x=y
section
variable {P:Program}{w:World}{H H':Hp}{h h':Heap}{clos:Clos}{g:Addr->Obj}
theorem remC_in {b:Addr} (i:inC clos b):remC H clos b=none:=if_pos i
theorem remC_ne {b:Addr} (i:¬inC clos b):remC H clos b=H b:=if_neg i
theorem remC_some {b:Addr}{o:HO} (e:remC H clos b=some o):¬inC clos b/\H b=some o:=by
 by_cases i:inC clos b
 ·rw[remC_in i]at e;cases e
 ·exact⟨i,(remC_ne i).symm.trans e⟩
theorem cellO_ok {c:Addr}{o:Obj} (x:h.get? c=some o) (H':Hp):ObjOk P w H' h c (.ext (CellO c o)):=⟨x,⟨o,x⟩,fun h1 h2 y k=>k _ y⟩
theorem HOk.rem (x:HOk P w H h) (hc:∀ b,inC clos b->∃ q,H b=some (.ext q)):HOk P w (remC H clos) h:=fun b u e=>by
 obtain⟨_,e⟩:=remC_some e
 refine (x b u e).stay (fun d v _ r=>r) (fun d r=>?_) fun d xs r=>?_
 ·rw[remC_ne fun i=>by obtain⟨q,z⟩:=hc d i;rw[z]at r;cases r];exact r
 ·rw[remC_ne fun i=>by obtain⟨q,z⟩:=hc d i;rw[z]at r;cases r];exact r
theorem HOk.addG (x:HOk P w H h) (hn:∀ b,inC clos b->H b=none) (hg:∀ b,inC clos b->h.get? b=some (g b)):HOk P w (addG H clos g) h:=fun b u e=>by
 by_cases i:inC clos b
 ·have e':L2.addG H clos g b=some (.ext (CellO b (g b))):=if_pos i
  rw[e']at e;cases e
  exact cellO_ok (hg b i) _
 ·have e':L2.addG H clos g b=H b:=if_neg i
  rw[e']at e
  have old:∀ d u,H d=some u->L2.addG H clos g d=some u:=fun d u r=>by
   have:L2.addG H clos g d=H d:=if_neg fun i=>by rw[hn d i]at r;cases r
   rw[this];exact r
  exact (x b u e).stay (fun d v _ r=>r) (fun d r=>old _ _ r) fun d xs r=>old _ _ r
theorem HOk.back (x:HOk P w H' h') (hn:∀ b,inC clos b->H' b=none) (hc:∀ b,inC clos b->H b=some (.ext (CellO b (g b)))) (hg:∀ b,inC clos b->h'.get? b=some (g b)):HOk P w (backC H' H clos) h':=fun b u e=>by
 by_cases i:inC clos b
 ·have e':backC H' H clos b=H b:=if_pos i
  rw[e',hc b i]at e;cases e
  exact cellO_ok (hg b i) _
 ·have e':backC H' H clos b=H' b:=if_neg i
  rw[e']at e
  have old:∀ d u,H' d=some u->backC H' H clos d=some u:=fun d u r=>by
   have:backC H' H clos d=H' d:=if_neg fun i=>by rw[hn d i]at r;cases r
   rw[this];exact r
  exact (x b u e).stay (fun d v _ r=>r) (fun d r=>old _ _ r) fun d xs r=>old _ _ r
end
structure LamScope (ps fr:List Str) (scope:Scope):Prop where
 kind:scope.kind=.function
 co:scope.isCoroutine=false
 gen:scope.isGenerator=false
 nd:(ps++fr).Nodup
 nocell:∀ y∈scope.names,y.2≠.cell
 free:∀ y∈scope.names,y.2=.free->y.1∈fr
 isfree:∀ x∈fr,scope.names.lookup x=some .free
 isloc:∀ x∈ps,scope.names.lookup x=some .local
theorem rev_lookup:∀ {ps:List Str}{us:List Value}{i:Nat}{x:Str}{u:Value},ps.Nodup->ps[i]?=some x->us[i]?=some u->(ps.zip us).reverse.lookup x=some u
 | [],_,_,_,_,_,h,_=>by simp at h
 | _::_,[],_,_,_,_,_,h=>by simp at h
 | p::ps,w::us,0,x,u,nd,h1,h2=>by
  simp only[List.getElem?_cons_zero,Option.some.injEq]at h1 h2
  subst h1 h2
  rw[List.zip_cons_cons,List.reverse_cons,List.lookup_append]
  have:(ps.zip us).reverse.lookup p=none:=by
   rw[List.lookup_eq_none_iff]
   rintro⟨a,b⟩ hab
   have ha:=(List.of_mem_zip (List.mem_reverse.mp hab)).1
   have:p≠a:=fun z=>(List.nodup_cons.mp nd).1 (z ▸ ha)
   simpa using this
  rw[this];simp
 | p::ps,w::us,i+1,x,u,nd,h1,h2=>by
  rw[List.zip_cons_cons,List.reverse_cons,List.lookup_append,rev_lookup (List.nodup_cons.mp nd).2 (by simpa using h1) (by simpa using h2)]
  rfl
def envL (qual:Str) (scope:Scope) (clos:Clos) (L f:Addr) (cd:Value):Env:=newEnv scope L mainGlobals clos (qual++".<locals>.") (some f) cd none builtinsNs
def cxL (P:Program) (w:World) (K:PySem.W.Frag) (mg:Str->Option Value) (base:Heap) (N:List Str) (qual:Str) (scope:Scope) (clos:Clos) (f:Addr) (cd:Value) (A:Around) (outer:List Env) (s:Shared) (H:Hp):Cx where
 prog:=P
 w:=w
 K:=K
 mg:=mg
 base:=base
 A:=A.deeper (envL qual scope clos s.heap.objs.size f cd)
 N:=N
 s₀:=s
 H₀:=H
 env:=envL qual scope clos s.heap.objs.size f cd
 outer:=outer
 stack:=envL qual scope clos s.heap.objs.size f cd::outer
 ex:=[]
 calm:=true
 fn:=fun _=>false
 pn:=[]
 xe:=fun _ _=>False
theorem inC_of {clos:Clos}{x:Str}{c:Addr} (e:clos.lookup x=some c):inC clos c:=List.mem_map.mpr ⟨(x,c),PySem.mem_of_lookup e,rfl⟩
theorem lookup_fr:∀ {clos:Clos}{i:Nat}{p:Str×Addr},(clos.map (·.1)).Nodup->clos[i]?=some p->clos.lookup p.1=some p.2
 | [],_,_,_,h=>by simp at h
 | q::r,0,p,_,h=>by
  simp only[List.getElem?_cons_zero,Option.some.injEq]at h
  subst h;simp [List.lookup]
 | q::r,i+1,p,nd,h=>by
  rw[List.map_cons,List.nodup_cons]at nd
  have h':r[i]?=some p:=by simpa using h
  have ne:(p.1 == q.1)=false:=by
   have:p.1≠q.1:=fun z=>nd.1 (by rw[<- z];exact List.mem_map.mpr ⟨p,List.mem_of_getElem? h',rfl⟩)
   simpa using this
  show (match p.1 == q.1 with | true=>some q.2 | false=>r.lookup p.1)=some p.2
  rw[ne];exact lookup_fr nd.2 h'
theorem pair_getC {α β:Type} {F:α->β->Prop}:∀ {l:List α}{m:List β}{i:Nat}{y:β},Paired F l m->m[i]?=some y->∃ x,l[i]?=some x/\F x y
 | _,_,_,_,.nil,h=>by simp at h
 | _,_,0,y,.cons r t,h=>by simp at h;subst h;exact⟨_,rfl,r⟩
 | _,_,i+1,y,.cons r t,h=>by
  obtain⟨x,h1,h2⟩:=pair_getC (i:=i) t (by simpa using h)
  exact⟨x,by simpa using h1,h2⟩
section
variable {X:Cx}
structure CapOk (X:Cx) (clos:Clos) (ix:List Nat):Prop where
 cells:∀ p∈clos,X.env.cells.lookup p.1=some p.2
 at_:Paired (fun (p:Str×Addr) i=>X.N[i]?=some p.1/\X.env.scope.names.lookup p.1=some .cell) clos ix
 fn:∀ x,X.fn x=true
def tCallC (sp:Sp) (clos:Clos) (ix:List Nat) (E:XK) (t:TA):TE:=fun σ H Q=>t σ H fun vs H1=>∃ ws:List V,(ix.map fun i=>(σ[i]?).join)=ws.map some /\
 ∀ g:Addr->Obj,Paired (fun (p:Str×Addr) v=>CellIs (g p.2) v) clos ws->(∀ b,inC clos b->H1 b=none)->sp vs (addG H1 clos g) (fun v H'=>(∀ b,inC clos b->H' b=some (.ext (CellO b (g b))))/\Q v (remC H' clos)) E
theorem cells_are {pins:List (Addr×Obj)} {σ:St} {H:Hp}{s:Shared}{clos:Clos}{ix:List Nat}{ws:List V}{g:Addr->Obj} (I:Inv X pins σ H s) (cc:∀ p∈clos,X.env.cells.lookup p.1=some p.2) (hg:∀ b o,s.heap.get? b=some o->g b=o)
  (at_:Paired (fun (p:Str×Addr) i=>X.N[i]?=some p.1/\X.env.scope.names.lookup p.1=some .cell) clos ix) (e:(ix.map fun i=>(σ[i]?).join)=ws.map some):Paired (fun (p:Str×Addr) v=>CellIs (g p.2) v) clos ws:=by
 induction at_ generalizing ws with
 | nil=>
  cases ws with
  | nil=>exact .nil
  | cons w r=>cases e
 | @cons p i l1 l2 h t ih=>
  cases ws with
  | nil=>cases e
  | cons w r=>
   rw[List.map_cons,List.map_cons]at e
   injection e with e1 e2
   refine .cons ?_ (ih (fun q hq=>cc q (List.mem_cons_of_mem _ hq)) e2)
   have es:σ[i]?=some (some w):=by
    cases q:σ[i]? with
    | none=>rw[q]at e1;cases e1
    | some o=>rw[q]at e1;exact congrArg some e1
   obtain⟨m,_,hloc⟩:=I.loc
   obtain⟨u,ru,lk⟩:=hloc i p.1 w h.1 es (.inr (.inl h.2))
   rcases lk with ⟨kk,_⟩ | ⟨_,c,hc,o,ho,hd⟩
   ·have kk:X.env.scope.names.lookup p.1=some .local:=kk
    rw[h.2]at kk;cases kk
   ·rw[cc p List.mem_cons_self]at hc
    cases hc
    exact⟨u,ru,by rw[hg _ _ ho];exact hd⟩
theorem run_fnC {pins:List (Addr×Obj)} {σ:St} {H:Hp}{s:Shared}{Q:VK}{us:List Value}{vs:List V}{k:Nat}{f:Addr}{fd:FuncData}{ps:List Str}{sp:Sp}{E:XK}{clos:Clos}{ix:List Nat}{ws:List V} (C:CapOk X clos ix) (F:FnOk X.prog X.w X.K X.mg X.base CX0 k f fd ps sp) (hr:Room k X.A) (hb:Binds X.K fd ps [])
  (I:Inv X pins σ H s) (r:Vals vs us) (ew:(ix.map fun i=>(σ[i]?).join)=ws.map some)
  (h:∀ g:Addr->Obj,Paired (fun (p:Str×Addr) v=>CellIs (g p.2) v) clos ws->(∀ b,inC clos b->H b=none)->sp vs (addG H clos g) (fun v H'=>(∀ b,inC clos b->H' b=some (.ext (CellO b (g b))))/\Q v (remC H' clos)) E) :
  wpAny (model X.prog X.w) X.A (call (.ref f) us) (EP X pins σ Q) X.xe s:=by
 obtain⟨g,hg⟩:∃ g:Addr->Obj,∀ b o,s.heap.get? b=some o->g b=o:=⟨fun b=>(s.heap.get? b).getD { cls:=.none,data:=.plain },fun b o e=>by show (s.heap.get? b).getD _=o;rw[e];rfl⟩
 have lk:∀ b,inC clos b->∃ x,X.env.cells.lookup x=some b:=fun b i=>by
  obtain⟨p,hp,e⟩:=List.mem_map.mp i
  exact⟨p.1,by rw[<- e];exact C.cells p hp⟩
 have free:∀ b,inC clos b->H b=none:=fun b i=>by obtain⟨x,e⟩:=lk b i;exact I.freeC x b e
 have there:∀ b,inC clos b->s.heap.get? b=some (g b):=fun b i=>by
  obtain⟨x,e⟩:=lk b i
  obtain⟨v,o,ho,_⟩:=I.cell x b e
  rw[ho,hg b o ho]
 have above:∀ b,inC clos b->X.s₀.heap.objs.size<=b:=fun b i=>by obtain⟨x,e⟩:=lk b i;exact I.ok.cab x b (C.fn x) e
 have spec:=h g (cells_are I C.cells hg C.at_ ew) free
 have addN:∀ {b:Addr},¬inC clos b->addG H clos g b=H b:=fun i=>if_neg i
 have hl:us.length=ps.length:=by rw[<- r.length];exact F.len _ _ _ _ spec
 have en:Env0 X.prog X.w X.K X.mg X.base X.A X.stack s (addG H clos g):=by
  refine⟨I.ok.frames,I.ok.mod,fun b o e=>⟨(I.bs b o e).1,?_⟩,Nat.le_trans I.ok.bsz I.sz,I.stack,fun b hb=>?_,I.hok.addG free there,I.bare⟩
  ·rw[addN fun i=>absurd (Nat.lt_of_lt_of_le (Heap.lt_size e) I.ok.bsz) (Nat.not_lt.mpr (above b i))]
   exact (I.bs b o e).2
  ·rw[addN fun i=>?_]
   ·exact I.stkFree b hb
   ·rcases List.mem_cons.mp (I.stkSub b hb) with z | z
    ·obtain⟨x,e⟩:=lk b i
     exact I.cne x b e z
    ·obtain⟨_,o,ho,_⟩:=I.ok.funs.mem z
     exact absurd (Heap.lt_size ho) (Nat.not_lt.mpr (above b i))
 have bnd:=hb s us I.kIn (by rw[List.append_nil];exact hl)
 rw[List.append_nil]at bnd
 refine wpAny_call (codeAny_mono (F.run X.A X.stack s (addG H clos g) ⟨us,[]⟩ us vs _ E hr en bnd r spec) fun r s' hq=>?_)
 cases r with
 | error e=>exact hq.elim
 | ok fl=>
  cases fl with
  | next=>exact False.elim hq
  | brk=>exact False.elim hq
  | cont=>exact False.elim hq
  | ret u=>
   obtain⟨v,H',os,bare,un,hok,rv,hc,q⟩:=hq
   obtain⟨hh,gg,d,t,os'⟩:=s'
   obtain rfl:os'=s.os:=os
   have kept:∀ b,inC clos b->hh.get? b=some (g b):=fun b i=>(hok b _ (hc b i)).1
   have nin:∀ {b:Addr}{o:HO},H b=some o->¬inC clos b:=fun e i=>by rw[free _ i]at e;cases e
   refine⟨v,remC H' clos,I.call (h':=hh) (g':=gg) (d':=d) (t':=t) (ch:=[]) ⟨fun b o e n hb hx=>?_,fun b o e n hb hx=>?_,fun b o e n hx=>?_,un.there,fun b xs e=>?_,fun b o v e=>?_,fun b qs e=>?_⟩ (hok.rem fun b i=>⟨_,hc b i⟩) bare (fun b z=>absurd z (by simp)),rv,q⟩
   ·by_cases i:inC clos b
    ·have:=kept b i;rw[hg b o e]at this;exact this
    ·exact un.keep b o e ((addN i).trans n) hb hx
   ·by_cases i:inC clos b
    ·have:=kept b i;rw[hg b o e]at this;exact⟨o.slots,this⟩
    ·exact un.slot b o e ((addN i).trans n) hb hx
   ·by_cases i:inC clos b
    ·exact remC_in i
    ·rw[remC_ne i];exact un.free b o e ((addN i).trans n) hx
   ·rw[remC_ne (nin e)];exact un.tups b xs ((addN (nin e)).trans e)
   ·rw[remC_ne (nin e)];exact un.frzs b o v ((addN (nin e)).trans e)
   ·rw[remC_ne (nin e)];exact un.tbls b qs ((addN (nin e)).trans e)
theorem pe_callC {k:Nat}{f:Addr}{fd:FuncData}{ps:List Str}{sp:Sp}{E:XK}{clos:Clos}{ix:List Nat}{x:Str}{p pos:Pos}{e:Expr}{es:List Expr}{t:TA} (C:CapOk X clos ix) (F:FnOk X.prog X.w X.K X.mg X.base CX0 k f fd ps sp) (hr:Room k X.A) (hg:Gl X x) (hm:X.mg x=some (.ref f)) (hk:PySem.W.keepIn X.K (.ref f)=true) (hb:Binds X.K fd ps [])
  (ha:PA X (e::es) t) (hs:noStars (e::es)=true:=by rfl) (hdb:(x == ("__debug__" : Str))=false:=by decide):PE X (.Call (.Name x p) (e::es) [] pos) (tCallC sp clos ix E t):=by
 have n2:notStar e=true/\noStars es=true:=Bool.and_eq_true_iff.mp hs
 intro pins s σ H Q I h
 refine wpAny_Call_Name_kw (ld_glob I hg hm ?_ hdb)
 refine PySem.W.callWith_K (h₀:=X.base) I.ok.mod.kin hk (thn (ha pos pins s σ H _ I h) fun us s1 ⟨vs,H1,I1,r,ws,ew,q⟩=>⟨I1.kIn,?_⟩) (star_cons n2.1) (stars_any n2.2)
 exact run_fnC C F hr hb I1 r ew q
theorem we_callC {k:Nat}{f:Addr}{fd:FuncData}{ps:List Str}{sp:Sp}{E:XK}{clos:Clos}{ix:List Nat}{x:Str}{p pos:Pos}{e:Expr}{es:List Expr}{t:TA} (C:CapOk X clos ix) (F:FnOk X.prog X.w X.K X.mg X.base CX0 k f fd ps sp) (hr:Room k X.A) (hg:Gl X x) (hm:X.mg x=some (.ref f)) (hk:PySem.W.keepIn X.K (.ref f)=true) (hb:Binds X.K fd ps [])
  (ha:Hd (PA X (e::es) t)) (hs:noStars (e::es)=true:=by rfl) (hdb:(x == ("__debug__" : Str))=false:=by decide):Hd (PE X (.Call (.Name x p) (e::es) [] pos) (tCallC sp clos ix E t)):=⟨pe_callC C F hr hg hm hk hb ha.out hs hdb⟩
end
end L2
end
section
namespace L2
open PySem PySem.Spec PyProof.Rows
def DefOC (name qual:Str) (params:Arguments) (body:List Stmt) (scope:Scope) (clos:Clos) (doc pm:Value) (c:Addr) (ctv:Value) (f:Addr):Heap->Prop:=fun h=>h.get? f=some (PySem.W.fnMade name qual params body scope clos doc pm c ctv)
section
variable {X:Cx}
theorem defOC_ok {P:Program}{w:World}{h:Heap}{c f:Addr}{name qual:Str}{params:Arguments}{body:List Stmt}{scope:Scope}{clos:Clos}{doc pm ctv:Value} (x:h.get? f=some (PySem.W.fnMade name qual params body scope clos doc pm c ctv)) (H':Hp):ObjOk P w H' h f (.ext (DefOC name qual params body scope clos doc pm c ctv f)):=
 ⟨x,⟨_,x⟩,fun h1 h2 y k=>k _ y⟩
def tDefC (T:Addr) (name qual:Str) (params:Arguments) (body:List Stmt) (scope:Scope) (clos:Clos) (pm:Value) (pos:Pos) (i:Nat):TS:=fun D σ H=>LamT H T pos qual /\
 ∀ (f c:Addr) (doc ctv:Value) (H':Hp),H f=none->H' f=some (.ext (DefOC name qual params body scope clos doc pm c ctv f))->H' c=some (.ext (CodeO c qual))->H' T=some (.tbl #[rawInt pos.line,rawInt pos.col,.ref c])->(∀ b o,b≠T->H b=some o->H' b=some o)->D.nx (σ.set i (some (.ref f))) H'
theorem ps_defC {clos:Clos}{name:Str}{params:Arguments}{body:List Stmt}{scope:Scope}{pos:Pos}{c T bm:Addr}{ob:Obj}{i:Nat} (hN:X.N.Nodup) (hi:X.N[i]?=some name) (hx:Loc X.env.scope name) (hd0:params.defaults=[]) (hk0:params.kw_defaults=[]) (ha:annTrees params none X.env=[])
  (hcl:closureFor scope X.env=pure clos) (hge:X.env.globals=mainGlobals) (hcode:X.env.code=.ref c) (hcd:PySem.W.codeHdIn X.K c T=true)
  (hbi:X.mg "__builtins__"=some (.ref bm)) (hbk:X.K.lookup bm=some ob) (h1:bm≠builtinsNs) (h2:bm≠mainGlobals) (h3:bm≠T) (h4:ob.cls=.type "module") (h5:ob.dict=some builtinsNs) (h6:ob.data=.plain) (hgT:mainGlobals≠T)
  (hff:X.fn name=true\/X.env.scope.names.lookup name=some .local) :
  PS X (.FunctionDef name params body [] none [] scope none name pos) (tDefC T name (qualnameIn X.env name name) params body scope clos ((X.mg "__name__").getD .none) pos i):=by
 intro pins s σ H D I ⟨hL,q⟩
 have hg:s.heap.Ns mainGlobals X.mg:=I.mod.glob.keeps I.bk
 have C:PySem.W.CodeHd s.heap c T:=PySem.W.codeHd_of_K I.kIn hcd
 have hb:s.heap.BuiltinsAt X.mg T:=⟨bm,ob,hbi,h1,h2,h3,I.kIn _ _ hbk,h4,h5,h6⟩
 refine PySem.W.nestDef_K hd0 hk0 ha ?_
 generalize hqn:qualnameIn X.env name name=qual at *
 rcases hL with hT | ⟨c',hT,hC⟩
 ·have hP:s.heap.get? T=some (PySem.W.tabObj #[]):=I.hok T _ hT
  refine PySem.W.makeFunction_K hcl hge hg hcode C hP trivial rfl hgT hb fun c' ctv doc h' tk ext hc1 hc2 rec tab=>?_
  have hcn:H c'=none:=I.hok.fresh hc1
  have cT:T≠c':=ne_of_none hT hcn
  have I1:Inv X pins σ (upd (upd H T (.tbl (#[]++#[rawInt pos.line,rawInt pos.col,.ref c']))) c' (.ext (CodeO c' qual))) { s with heap:=h',toks:=tk }:=
   I.un (Un.tblNew hT (fun b u z e=>ext b u z e) ⟨_,tab⟩ hc1 hcn) (I.hok.tblNew hT (fun b u z e=>ext b u z e) tab hcn (codeO_ok rec))
  have hf1:(upd (upd H T (.tbl (#[]++#[rawInt pos.line,rawInt pos.col,.ref c']))) c' (.ext (CodeO c' qual))) h'.objs.size=none:=I1.hok.fresh (Nat.le_refl _)
  have hf:H h'.objs.size=none:=by
   rw[upd_ne (fun z=>by rw[z,upd_same]at hf1;cases hf1)]at hf1
   rw[upd_ne (fun z=>by rw[z,upd_same]at hf1;cases hf1)]at hf1
   exact hf1
  have fc:c'≠h'.objs.size:=fun z=>by rw[<- z,upd_same]at hf1;cases hf1
  have fT:T≠h'.objs.size:=ne_of_none hT hf
  have I2:=I1.laid (t':=tk) (o:=.ext (DefOC name qual params body scope clos doc ((X.mg "__name__").getD .none) c' ctv h'.objs.size)) (fun b u e=>Heap.get?_push_of_some _ e) (Nat.le_refl _) (defOC_ok (Heap.get?_push_size _ rfl) _)
  refine store_ok I2 hN hi hx (relv_ref _) (fun s2 I3=>⟨_,_,I3,q _ c' doc ctv _ hf upd_same ?_ ?_ fun b o z e=>?_⟩) hff
  ·rw[upd_ne fc,upd_same]
  ·rw[upd_ne fT,upd_ne cT,upd_same];simp
  ·rw[upd_ne (ne_of_none e hf),upd_ne (ne_of_none e hcn),upd_ne z];exact e
 ·have hP:s.heap.get? T=some (PySem.W.tabObj #[rawInt pos.line,rawInt pos.col,.ref c']):=I.hok T _ hT
  refine PySem.W.makeFunction_hit (cv:=.ref c') hcl hge hg hcode C hP ?_ ?_ hb fun ctv doc h' tk k hs=>?_
  ·simp [TriplesOk,rawInt]
  ·simp [codeAmong,rawInt]
  have I1:Inv X pins σ H { s with heap:=h',toks:=tk }:=I.kept k
  have hf:H h'.objs.size=none:=I1.hok.fresh (Nat.le_refl _)
  have I2:=I1.laid (t':=tk) (o:=.ext (DefOC name qual params body scope clos doc ((X.mg "__name__").getD .none) c' ctv h'.objs.size)) (fun b u e=>Heap.get?_push_of_some _ e) (Nat.le_refl _) (defOC_ok (Heap.get?_push_size _ rfl) _)
  exact store_ok I2 hN hi hx (relv_ref _) (fun s2 I3=>⟨_,_,I3,q _ c' doc ctv _ hf upd_same (by rw[upd_ne (ne_of_none hC hf)];exact hC) (by rw[upd_ne (ne_of_none hT hf)];exact hT) fun b o z e=>by rw[upd_ne (ne_of_none e hf)];exact e⟩) hff
end
theorem inv_startD {P:Program}{w:World}{K:PySem.W.Frag}{mg:Str->Option Value}{base:Heap}{ps:List Str}{qual:Str}{scope:Scope}{clos:Clos}{f:Addr}{cd:Value}{A:Around}{outer:List Env}{s:Shared}{H:Hp}{us:List Value}{vs ws:List V}{ls:List Str}{g:Addr->Obj}{h':Heap}{tk:Nat}
  (S:LamScope ps (clos.map (·.1)) scope) (inj:ClosInj clos) (hd:A.handled=none) (e0:Env0 P w K mg base A outer s H) (hl:vs.length=ps.length) (r:Vals vs us) (cg:CellsG H clos g ws)
  (hns:h'.Ns s.heap.objs.size (fun x=>(ps.zip us).reverse.lookup x)) (hsb:Heap.SameBut s.heap.objs.size (s.heap.push { cls:=.type "frame",data:=.dict #[] }) h') :
  Inv (cxL P w K mg base ((ps++clos.map (·.1))++ls) qual scope clos f cd A outer s (remC H clos)) [] ((vs.map some++ws.map some)++ls.map fun _=>none) (remC H clos) { s with heap:=h',toks:=tk }:=by
 have hk:∀ b o,s.heap.get? b=some o->h'.get? b=some o:=fun b o e=>by
  rw[hsb.2 b (Nat.ne_of_lt (Heap.lt_size e))];exact Heap.get?_push_of_some _ e
 have cells:∀ b,inC clos b->s.heap.get? b=some (g b):=fun b i=>(e0.hok b _ (cg.1 b i)).1
 have hok1:HOk P w (remC H clos) s.heap:=e0.hok.rem fun b i=>⟨_,cg.1 b i⟩
 have bne:∀ b,H b=none->remC H clos b=none:=fun b e=>by
  by_cases i:inC clos b
  ·exact remC_in i
  ·rw[remC_ne i];exact e
 have noA:∀ b:Addr,b ∉ (cxL P w K mg base ((ps++clos.map (·.1))++ls) qual scope clos f cd A outer s (remC H clos)).ex:=fun b z=>absurd (show b∈([]:List Addr) from z) (by simp)
 have lw:ws.length=clos.length:=(Paired.length cg.2).symm
 have ndc:(clos.map (·.1)).Nodup:=(List.nodup_append.mp S.nd).2.1
 have isc:∀ x c,clos.lookup x=some c->∃ v,h'.IsCell c v:=fun x c e=>by
  have hm:=PySem.mem_of_lookup e
  obtain⟨i,hi,ei⟩:=List.mem_iff_getElem.mp hm
  have:ws[i]?=some (ws[i]'(by lia)):=List.getElem?_eq_getElem _
  obtain⟨p,e1,u,_,e2⟩:=pair_getC cg.2 this
  have ep:p=(x,c):=by rw[List.getElem?_eq_getElem hi,ei]at e1;exact (Option.some.inj e1).symm
  subst ep
  exact⟨_,_,hk _ _ (cells c (inC_of e)),e2⟩
 refine⟨⟨e0.mod,S.kind,rfl,rfl,Nat.le_refl _,inj,fun y hy=>?_,fun y c z=>(nomatch z),fun _=>hd,Around.frames_deeper e0.frames,.inr ⟨rfl,rfl⟩,fun b z=>absurd z (noA b),fun b o e=>⟨(e0.bs b o e).1,bne _ (e0.bs b o e).2⟩,e0.bsz,fun b _ _=>noA b,fun b z=>absurd z (noA b),e0.funs,fun b hb=>bne _ (e0.frf b hb)⟩,
  rfl,e0.bare,Un.kept hk,⟨_,hns,fun i y v h1 h2 h3=>?_⟩,isc,hok1.fresh (Nat.le_refl _),fun y c h=>remC_in (inC_of h),fun p hp=>absurd (show p∈([]:List (Addr×Obj)) from hp) (by simp),hok1.kept hk,?_⟩
 ·have hy:scope.names.lookup y=some .cell\/scope.names.lookup y=some .free:=hy
  rcases hy with hy | hy
  ·exact absurd rfl (S.nocell _ (PySem.mem_of_lookup hy))
  ·have:=S.free _ (PySem.mem_of_lookup hy) rfl
   obtain⟨p,hp,e⟩:=List.mem_map.mp this
   obtain⟨i,hi,ei⟩:=List.mem_iff_getElem.mp hp
   have:=lookup_fr ndc (List.getElem?_eq_getElem hi)
   rw[ei,e]at this
   exact⟨_,this⟩
 ·have h1:((ps++clos.map (·.1))++ls)[i]?=some y:=h1
  have lN:(ps++clos.map (·.1)).length=(vs.map some++ws.map some).length:=by rw[List.length_append,List.length_append,List.length_map,List.length_map,List.length_map,hl,lw]
  have hi0:i<(vs.map some++ws.map some).length:=by
   refine Nat.lt_of_not_le fun z=>?_
   rw[List.getElem?_append_right z,List.getElem?_map]at h2
   cases e:ls[i-(vs.map some++ws.map some).length]? with
   | none=>rw[e]at h2;cases h2
   | some a=>rw[e]at h2;cases h2
  rw[List.getElem?_append_left (by lia)]at h1
  rw[List.getElem?_append_left hi0]at h2
  by_cases hi:i<ps.length
  ·rw[List.getElem?_append_left hi]at h1
   rw[List.getElem?_append_left (by rw[List.length_map];lia),List.getElem?_map]at h2
   cases e:vs[i]? with
   | none=>rw[e]at h2;cases h2
   | some a=>
    rw[e]at h2;cases h2
    obtain⟨u,hu,rv⟩:=r.get e
    exact⟨u,rv,.inl ⟨S.isloc y (List.mem_of_getElem? h1),rev_lookup (List.nodup_append.mp S.nd).1 h1 hu⟩⟩
  ·rw[List.getElem?_append_right (by lia),List.getElem?_map]at h1
   rw[List.getElem?_append_right (by rw[List.length_map];lia),List.getElem?_map,List.length_map,hl]at h2
   cases e:ws[i-ps.length]? with
   | none=>rw[e]at h2;cases h2
   | some a=>
    rw[e]at h2;cases h2
    obtain⟨p,e1,u,rv,e2⟩:=pair_getC cg.2 e
    rw[e1]at h1;cases h1
    have lk:=lookup_fr ndc e1
    exact⟨u,rv,.inr ⟨.inr (S.isfree _ (List.mem_map.mpr ⟨p,List.mem_of_getElem? e1,rfl⟩)),p.2,lk,_,hk _ _ (cells p.2 (inC_of lk)),e2⟩⟩
 ·show _=((ps++clos.map (·.1))++ls).length
  rw[List.length_append,List.length_append,List.length_append,List.length_append,List.length_map,List.length_map,List.length_map,List.length_map,hl,lw]
theorem def_ofC {P:Program}{w:World}{K:PySem.W.Frag}{mg:Str->Option Value}{base:Heap}{k:Nat}{f c:Addr}{name qual:Str}{params:Arguments}{body:List Stmt}{scope:Scope}{clos:Clos}{doc pm ctv:Value}{ps ls:List Str}{sp:Sp}
    (S:LamScope ps (clos.map (·.1)) scope) (inj:ClosInj clos) (len:∀ vs H Q E,sp vs H Q E->vs.length=ps.length)
    (at_:∀ vs H Q E,sp vs H Q E->H f=some (.ext (DefOC name qual params body scope clos doc pm c ctv f))/\H c=some (.ext (CodeO c qual))/\∃ g ws,CellsG H clos g ws)
    (one:∀ (A:Around) (out:List Env) (s:Shared) (H:Hp) (vs ws:List V) (g:Addr->Obj) (Q:VK) (E:XK),Room k (A.deeper (envL qual scope clos s.heap.objs.size f (.ref c)))->sp vs H Q E->CellsG H clos g ws ->
      ∃ t,Hd (PSs (cxL P w K mg base ((ps++clos.map (·.1))++ls) qual scope clos f (.ref c) A out s (remC H clos)) body t)/\t { nx:=fun _ H'=>(∀ b,inC clos b->H' b=none)->Q .non (backC H' H clos),rt:=fun v H'=>(∀ b,inC clos b->H' b=none)->Q v (backC H' H clos) } ((vs.map some++ws.map some)++ls.map fun _=>none) (remC H clos)) :
    FnOk P w K mg base CX0 (k+1) f (PySem.W.fnX name qual params body scope clos .none .none doc pm none (.ref c) ctv) ps sp:=by
  refine⟨len,fun A out s H args us vs Q E room en bnd rel spec=>?_⟩
  obtain⟨hf,hc,g,ws,cg⟩:=at_ _ _ _ _ spec
  have ho:s.heap.get? f=some _:=(en.hok f _ hf).1
  have hr:s.heap.CodeRec (.ref c) qual:=(en.hok c _ hc).1
  have hl:=len _ _ _ _ spec
  refine codeAny_call_function room.depth ho rfl S.co S.gen rfl hr (bnd _ _ _ _ ?_)
  refine wpAny_newFunctionEnv S.nocell (fun y hy=>S.isloc _ (List.of_mem_zip (show (y.1,y.2)∈ps.zip us from hy)).1) (fun h' hns hsb=>?_) S.kind
  have hk:∀ b o,s.heap.get? b=some o->h'.get? b=some o:=fun b o e=>by
    rw[hsb.2 b (Nat.ne_of_lt (Heap.lt_size e))];exact Heap.get?_push_of_some _ e
  refine⟨(en.mod.nolimit.keeps fun b o e=>(en.bs b o e).1).keeps hk,codeAny_func ?_⟩
  obtain⟨t,ht,hq⟩:=one A out s H vs ws g Q E (room.deeper _) spec cg
  have cells:∀ b,inC clos b->s.heap.get? b=some (g b):=fun b i=>(en.hok b _ (cg.1 b i)).1
  refine wpAny_mono (ht.out [] _ _ _ _ (inv_startD S inj room.hd en hl rel cg hns hsb) hq) (fun fl s' hs=>?_) fun e s' z=>z.elim
  have fin:∀ {σ':St} {H':Hp}{v:V}{u:Value},Inv (cxL P w K mg base ((ps++clos.map (·.1))++ls) qual scope clos f (.ref c) A out s (remC H clos)) [] σ' H' s'->RelV v u->((∀ b,inC clos b->H' b=none)->Q v (backC H' H clos))->CE out P w H s Q u s':=by
   intro σ' H' v u J rv q
   have un:=J.base
   have nfr:∀ b,inC clos b->b ∉ frs out:=fun b i z=>by have:=en.frf b z;rw[cg.1 b i]at this;cases this
   have hfree:∀ b,inC clos b->H' b=none:=fun b i=>un.free b _ (cells b i) (remC_in i) (by simp [cxL])
   have bno:∀ {b:Addr}{o:HO},H b=some o->(∀ q,o≠.ext q)->¬inC clos b:=fun e n i=>by rw[cg.1 _ i]at e;cases e;exact n _ rfl
   have bb:∀ {b:Addr},¬inC clos b->backC H' H clos b=H' b:=fun i=>if_neg i
   refine⟨v,backC H' H clos,J.os,J.bare,⟨fun b o e n hb hx=>un.keep b o e ?_ hb hx,fun b o e n hb hx=>un.slot b o e ?_ hb hx,fun b o e n hx=>?_,un.there,fun b xs e=>?_,fun b o v e=>?_,fun b qs e=>?_⟩,J.hok.back hfree cg.1 (fun b i=>un.keep b _ (cells b i) (remC_in i) (nfr b i) (by simp [cxL])),rv,q hfree⟩
   · by_cases i:inC clos b
     · exact remC_in i
     · exact (remC_ne i).trans n
   · by_cases i:inC clos b
     · exact remC_in i
     · exact (remC_ne i).trans n
   · have i:¬inC clos b:=fun i=>by rw[cg.1 b i]at n;cases n
     rw[bb i]
     exact un.free b o e ((remC_ne i).trans n) hx
   · have i:=bno e (fun q z=>by cases z)
     rw[bb i];exact un.tups b xs ((remC_ne i).trans e)
   · have i:=bno e (fun q z=>by cases z)
     rw[bb i];exact un.frzs b o v ((remC_ne i).trans e)
   · have i:=bno e (fun q z=>by cases z)
     obtain⟨more,z⟩:=un.tbls b qs ((remC_ne i).trans e)
     exact⟨more,by rw[bb i];exact z⟩
  cases fl with
  | ret u=>
    obtain⟨v,σ',H',J,rv,q⟩:=hs
    exact fin J rv q
  | next=>
    obtain⟨σ',H',J,q⟩:=hs
    exact fin (v:=V.non) (u:=Value.none) J rfl q
  | brk=>
    obtain⟨_,_,_,q⟩:=hs
    exact False.elim q
  | cont=>
    obtain⟨_,_,_,q⟩:=hs
    exact False.elim q
section
variable {X:Cx}
def HeldD (X:Cx) (CX:CXT) (k:Nat) (f:Addr) (sp:Sp):Prop:=∃ (c:Addr) (name qual:Str) (params:Arguments) (body:List Stmt) (scope:Scope) (clos:Clos) (doc pm ctv:Value) (ps:List Str),
 FnOk X.prog X.w X.K X.mg X.base CX k f (PySem.W.fnX name qual params body scope clos .none .none doc pm none (.ref c) ctv) ps sp/\Binds X.K (PySem.W.fnX name qual params body scope clos .none .none doc pm none (.ref c) ctv) ps []/\∀ vs H Q E,sp vs H Q E->H f=some (.ext (DefOC name qual params body scope clos doc pm c ctv f))
theorem pe_callD {CX:CXT}{k:Nat}{C:Addr->Sp->Prop}{E:XK}{fe:Expr}{te:TE}{pos:Pos}{e:Expr}{es:List Expr}{t:TA}
  (hC:∀ f sp,C f sp->HeldD X CX k f sp) (room:Room k X.A) (pass:Passes CX X E) (pf:PE X fe te) (pa:PA X (e::es) t) (ns:noStars (e::es)=true:=by rfl)
  (call:eval (.Call fe (e::es) [] pos) X.env=(do callWith pos (<- eval fe X.env) [] (backTo pos (starEach (e::es) X.env)) (backToKw pos (keywordEach [] X.env))):=by rfl) :
  PE X (.Call fe (e::es) [] pos) (tCallA C E te t):=by
 have n2:notStar e=true/\noStars es=true:=Bool.and_eq_true_iff.mp ns
 rintro pins s σ H Q I h
 refine Call_ (thn (pf pins s σ H _ I h) fun v s1 ⟨y,H1,I1,r1,f,sp,e1,hc,q1⟩=>?_) call
 subst e1
 cases r1
 obtain⟨c,name,qual,params,body,scope,clos,doc,pm,ctv,ps,F,hb,at_⟩:=hC f sp hc
 have st:=star_cons (env:=X.env) (es:=es) n2.1
 have an:=stars_any (env:=X.env) (pos:=pos) n2.2
 have pa':=pa pos pins s1 σ H1 _ I1 q1
 rw[st]at pa' ⊢
 refine PySem.W.callWith_of (P:=fun h=>h.get? f=some (PySem.W.fnMade name qual params body scope clos doc pm c ctv)) (by show ((false || (backTo pos (starEach es X.env)).any (·.1)) || false)=false;rw[an];rfl) (fun h hh=>PySem.W.keeps_K (K:=[(f,PySem.W.fnMade name qual params body scope clos doc pm c ctv)]) ?kp h fun a o z=>?lk) (PySem.Calls.evalArgs_plain (thn pa' fun us s2 ⟨vs,H2,I2,r,q⟩=>⟨(I2.hok f _ (at_ _ _ _ _ q)).1,run_fn F room hb .nil pass I2 r (by rw[List.append_nil];exact q)⟩))
 case kp=>simp [PySem.W.keepIn,List.lookup]
 case lk=>
  by_cases y:a=f
  ·subst y;simp [List.lookup]at z;rw[<- z];exact hh
  ·have:(a == f)=false:=by simpa using y
   simp [List.lookup,this]at z
theorem we_callD {CX:CXT}{k:Nat}{C:Addr->Sp->Prop}{E:XK}{fe:Expr}{te:TE}{pos:Pos}{e:Expr}{es:List Expr}{t:TA}
  (hC:∀ f sp,C f sp->HeldD X CX k f sp) (room:Room k X.A) (pass:Passes CX X E) (pf:Hd (PE X fe te)) (pa:Hd (PA X (e::es) t)) (ns:noStars (e::es)=true:=by rfl)
  (call:eval (.Call fe (e::es) [] pos) X.env=(do callWith pos (<- eval fe X.env) [] (backTo pos (starEach (e::es) X.env)) (backToKw pos (keywordEach [] X.env))):=by rfl) :
  Hd (PE X (.Call fe (e::es) [] pos) (tCallA C E te t)):=⟨pe_callD hC room pass pf.out pa.out ns call⟩
theorem ws_defC {clos:Clos}{name:Str}{params:Arguments}{body:List Stmt}{scope:Scope}{pos:Pos}{c T:Addr}{i:Nat} (hN:X.N.Nodup) (hi:X.N[i]?=some name) (hx:Loc X.env.scope name) (L:LmK X.K X.mg c T) (hcl:closureFor scope X.env=pure clos)
  (hd0:params.defaults=[]:=by rfl) (hk0:params.kw_defaults=[]:=by rfl) (ha:annTrees params none X.env=[]:=by rfl) (hge:X.env.globals=mainGlobals:=by rfl) (hcode:X.env.code=.ref c:=by rfl)
  (hff:X.fn name=true\/X.env.scope.names.lookup name=some .local:=by first | exact .inl rfl | exact .inr rfl | assumption) :
  Hd (PS X (.FunctionDef name params body [] none [] scope none name pos) (tDefC T name (qualnameIn X.env name name) params body scope clos ((X.mg "__name__").getD .none) pos i)):=by
 obtain⟨cd,⟨bm,ob,b1,b2,b3,b4,b5,b6,b7,b8⟩,gT⟩:=L
 exact⟨ps_defC hN hi hx hd0 hk0 ha hcl hge hcode cd b1 b2 b3 b4 b5 b6 b7 b8 gT hff⟩
end
end L2
end
section
namespace K30
open PySem L2 Kn
inductive All2 {α:Type} (R:α->V->Prop):List α->List V->Prop
 | nil:All2 R [] []
 | cons {a:α}{v:V}{as:List α}{vs:List V} (h:R a v) (t:All2 R as vs):All2 R (a::as) (v::vs)
theorem All2.mono {α:Type} {R R':α->V->Prop} (f:∀ a v,R a v->R' a v) {as:List α}{vs:List V} (h:All2 R as vs):All2 R' as vs:=by
 induction h with
 | nil=>exact .nil
 | cons h _ ih=>exact .cons (f _ _ h) ih
theorem All2.length {α:Type} {R:α->V->Prop}{as:List α}{vs:List V} (h:All2 R as vs):as.length=vs.length:=by
 induction h with
 | nil=>rfl
 | cons _ _ ih=>rw[List.length_cons,List.length_cons,ih]
theorem All2.append {α:Type} {R:α->V->Prop}{as bs:List α}{vs us:List V} (h:All2 R as vs) (k:All2 R bs us):All2 R (as++bs) (vs++us):=by
 induction h with
 | nil=>exact k
 | cons h _ ih=>exact .cons h ih
theorem All2.split {α:Type} {R:α->V->Prop}:∀ {as bs:List α}{vs:List V},All2 R (as++bs) vs->∃ us ws,vs=us++ws/\All2 R as us/\All2 R bs ws
 | [],bs,vs,h=>⟨[],vs,rfl,.nil,h⟩
 | a::as,bs,_,.cons h t=>by
  obtain⟨us,ws,rfl,h1,h2⟩:=All2.split t
  exact⟨_::us,ws,rfl,.cons h h1,h2⟩
inductive Tk where
 | U (q:Tr)
 | F (q:Tr)
def qT:Tk->Tr
 | .U q=>q
 | .F q=>q
def isU:Tk->Bool
 | .U _=>true
 | .F _=>false
inductive St' (G:Tr->List Int->Int):Tk->List Int->List Tk->List Int->Prop
 | u {q:Tr}{fs:List Int}:St' G (.U q) fs (.F q::(kids q).reverse.map .U) fs
 | f {q:Tr}{fs js:List Int} (h:js.length=(kids q).length):St' G (.F q) (fs++js) [] (fs++[G q js])
inductive Pd (G:Tr->List Int->Int):List Tk->List Int->Int->Nat->Prop
 | done {y:Int}:Pd G [] [y] y 0
 | step {ts us:List Tk}{t:Tk}{fs gs:List Int}{y:Int}{m:Nat} (s:St' G t fs us gs) (p:Pd G (ts++us) gs y m):Pd G (ts++[t]) fs y (m+1)
theorem Pd.len {G:Tr->List Int->Int}{ts:List Tk}{fs:List Int}{y:Int}{m:Nat} (h:Pd G ts fs y m):ts.length<=m:=by
 induction h with
 | done=>exact Nat.le_refl _
 | step s p ih=>rw[List.length_append]at ih ⊢;show _+1<=_;lia
theorem St'.len {G:Tr->List Int->Int}{t:Tk}{fs gs:List Int}{us:List Tk} (h:St' G t fs us gs):gs.length<=fs.length+1:=by
 cases h with
 | u=>lia
 | f h=>rw[List.length_append,List.length_append];show _+1<=_;lia
theorem Pd.un {G:Tr->List Int->Int}{dg:Tr->Int} (hdg:∀ q,dg q=G q ((kids q).map dg)):∀ (n:Nat) (q:Tr) (ts:List Tk) (fs:List Int) (y:Int) (m:Nat),nq q<=n->Pd G ts (fs++[dg q]) y m->Pd G (ts++[.U q]) fs y (m+2 * nq q):=by
 intro n
 induction n with
 | zero=>intro q _ _ _ _ h;have:=nq_pos q;lia
 | succ n ih=>
  intro q ts fs y m hn p
  have kn:=nq_kids q
  have key:∀ (ks:List Tr) (ts:List Tk) (fs:List Int) (m:Nat),(ks.map nq).sum<=n->Pd G ts (fs++ks.map dg) y m->Pd G (ts++ks.reverse.map .U) fs y (m+2 * (ks.map nq).sum):=by
   intro ks
   induction ks with
   | nil=>intro ts fs m _ p;simpa using p
   | cons k ks ihk=>
    intro ts fs m hs p
    rw[List.map_cons,List.sum_cons]at hs ⊢
    rw[List.reverse_cons,List.map_append,<- List.append_assoc]
    have p1:=ihk ts (fs++[dg k]) m (by lia) (by rw[List.append_assoc];exact p)
    have p2:=ih k _ fs y _ (by lia) p1
    rw[show m+2 * (nq k+(ks.map nq).sum)=m+2 * (ks.map nq).sum+2 * nq k by lia]
    exact p2
  have p0:Pd G (ts++[.F q]) (fs++(kids q).map dg) y (m+1):=.step (.f (by rw[List.length_map])) (by rw[List.append_nil,<- hdg];exact p)
  have p1:=key (kids q) _ fs _ (by lia) p0
  rw[show m+2 * nq q=m+1+2 * ((kids q).map nq).sum+1 by lia]
  exact .step .u (by rw[List.append_assoc]at p1;exact p1)
section
variable {P:Program}{w:World}{K:PySem.W.Frag}{mg:Str->Option Value}{base:Heap}{f:Addr}{fd:FuncData}{C:Addr}
variable (fU fF ft:Addr) (G:Tr->List Int->Int) (H0:Hp)
def TV (H:Hp) (t:Tk) (v:V):Prop:=∃ a u,v=.ref a/\H a=some (.tup [.ref (if isU t then fU else fF),u,.ref ft])/\IsDt H (tdat (qT t)) u/\∃ d,QG d (qT t)
def spS (C:Addr) (i:Bool):Sp:=fun vs H Q _=>∃ (x dx l r:Addr) (ws:List V) (t:Tk) (fs gs:List Int) (us:List Tk) (u:V),vs=[.ref x,u,.ref ft]/\isU t=i/\Wk C H x dx l r ws (fs.map V.int)/\IsDt H (tdat (qT t)) u/\(∃ d,QG d (qT t))/\St' G t fs us gs /\
 ws.length+us.length<=1000000/\fs.length<=1000000/\Same H0 H/\H0 l=none/\H0 r=none/\∀ (H':Hp) (tv:List V),ExW l r H H'->Wk C H' x dx l r (ws++tv) (gs.map V.int)->All2 (TV fU fF ft H') us tv->Q .non H'
def CF (C:Addr):Addr->Sp->Prop:=fun f sp=>∃ i:Bool,f=(if i then fU else fF)/\sp=spS fU fF ft G H0 C i
theorem tups_w {C:Addr}{H H':Hp}{x dx l r:Addr}{ws fs:List V} (w:Wk C H x dx l r ws fs) (e:ExW l r H H'):Tups H H':=fun a zs h=>e a _ (fun z=>by rw[z,w.wt]at h;cases h) (fun z=>by rw[z,w.fd]at h;cases h) h
theorem TV.mono {fU fF ft:Addr}{H H':Hp} (s:Tups H H') {t:Tk}{v:V} (h:TV fU fF ft H t v):TV fU fF ft H' t v:=by
 obtain⟨a,u,rfl,h1,h2,h3⟩:=h
 exact⟨a,u,rfl,s _ _ h1,IsDt.mono s h2,h3⟩
theorem same_w {H0 H H':Hp}{l r:Addr} (s:Same H0 H) (hl:H0 l=none) (hr:H0 r=none) (e:ExW l r H H'):Same H0 H':=fun b o h=>e b o (fun z=>by rw[z,hl]at h;cases h) (fun z=>by rw[z,hr]at h;cases h) (s b o h)
theorem Za3:FnScope ["self","step","question","around"] ["self"] (defScope (mtop 6 4)):=⟨rfl,rfl,rfl,by decide +kernel,rfl,by decide +kernel,by decide +kernel⟩
def spRun (C:Addr):Sp:=fun vs H Q _=>∃ (x dx l r:Addr) (ws:List V) (ts:List Tk) (fs:List Int) (y:Int) (m:Nat),vs=[.ref x]/\Wk C H x dx l r ws (fs.map V.int)/\All2 (TV fU fF ft H) ts ws/\Pd G ts fs y m/\fs.length+m<=1000000/\Same H0 H/\H0 l=none/\H0 r=none /\
 ∀ (H':Hp),ExW l r H H'->Q (.int y) H'
theorem ok_run {k:Nat} (hk:1<=k) (T:Tx mg) (Zag:Cls K C) (N:NA K C) (D:Mf K C "run" "Walk.run" (mtop 6 4) f fd ["self"])
  (hC:∀ f sp,CF fU fF ft G H0 C f sp->∃ (fd:FuncData) (ps:List Str),FnOk P w K mg base CX0 k f fd ps sp/\PySem.W.keepIn K (.ref f)=true/\Binds K fd ps []):FnOk P w K mg base CX0 (k+1) f fd ["self"] (spRun fU fF ft G H0 C):=by
 refine D.fn.okH Za3 (fun vs H Q E h=>?_) (fun cdv A outer s H vs Q E hr h=>?_)
 ·obtain⟨x,dx,l,r,ws,ts,fs,y,m,rfl,_⟩:=h;rfl
 obtain⟨x,dx,l,r,ws,ts,fs,y,m,rfl,wk,tv,pd,lm,sm,hl0,hr0,fin⟩:=h
 have hu:=u110 hr
 have hu0:=u0 hr
 have hu1:=hu_of hr
 refine⟨_,(wss_cons (ws_while PassesOwn.never (wt_truth (we_fld (wv 0)) (fun _=>rfl)) (wss_cons (ws_asg (we_bm0 PySem.F.plainAttrs_list PySem.F.slot_list_pop PySem.F.type_list_pop mt_pop (we_fld (wv 0))) (wg_tup rfl (wgs_cons (wg_name (i:=1) Za3.nd rfl (Or.inl rfl)) (wgs_cons (wg_name (i:=2) Za3.nd rfl (Or.inl rfl)) (wgs_cons (wg_name (i:=3) Za3.nd rfl (Or.inl rfl)) wgs_nil)))))
   (wss_one (ws_expr (we_callA hC (hr.mono (by lia)) pass0 (wv 1) (wa_cons (wv 0) (wa_cons (wv 2) (wa_cons (wv 3) wa_nil))))))))
   (wss_one (ws_ret (we_bm0 PySem.F.plainAttrs_list PySem.F.slot_list_pop PySem.F.type_list_pop mt_pop (we_fld (wv 0)))))),?_⟩
 refine⟨fun m' σ H'=>∃ (ws':List V) (ts':List Tk) (fs':List Int) (o1 o2 o3:Option V),σ=[some (.ref x),o1,o2,o3]/\ExW l r H H'/\Wk C H' x dx l r ws' (fs'.map V.int)/\All2 (TV fU fF ft H') ts' ws'/\Pd G ts' fs' y m'/\fs'.length+m'<=1000000,
  ⟨m,ws,ts,fs,none,none,none,rfl,fun _ _ _ _ e=>e,wk,tv,pd,lm⟩,?_⟩
 rintro m' σ H1 ⟨ws',ts',fs',o1,o2,o3,rfl,ex1,wk1,tv1,pd1,lm1⟩
 refine⟨_,rfl,x,C,dx,_,_,rfl,wk1.at_,Zag,N.waiting,lkw l r,_,.inl ⟨ws',SqL.of wk1.wt,rfl⟩,?_⟩
 cases pd1 with
 | done=>
  cases tv1
  refine iteF ?_
  refine⟨_,rfl,x,C,dx,_,_,rfl,wk1.at_,Zag,N.found,lkf l r,.inl ⟨rfl,_,SqL.of wk1.fd⟩,r,[.int y],.int y,rfl,rfl,wk1.fd,rfl,?_⟩
  have ex2:ExW l r H1 (upd H1 r (.lst [V.int y].dropLast)):=fun b o _ n2 e=>by rw[upd_ne n2];exact e
  exact fin _ (fun b o n1 n2 e=>ex2 b o n1 n2 (ex1 b o n1 n2 e))
 | @step ts0 us t _ gs _ m0 st pd0=>
  obtain⟨wv,w1,rfl,tv2,tv3⟩:=tv1.split
  cases tv3 with
  | @cons _ tvv _ _ ht hn=>
  cases hn
  refine iteP (by simp) ?_
  refine wh_hideD fun E' toN _=>?_
  obtain⟨a,u,rfl,ha,iu,qg⟩:=ht
  refine⟨_,rfl,x,C,dx,_,_,rfl,wk1.at_,Zag,N.waiting,lkw l r,.inl ⟨rfl,_,SqL.of wk1.wt⟩,l,wv++[.ref a],.ref a,rfl,rfl,wk1.wt,last_cat _ _,?_⟩
  rw[List.dropLast_concat]
  have ex2:ExW l r H1 (upd H1 l (.lst wv)):=fun b o n1 _ e=>by rw[upd_ne n1];exact e
  have sy:=tups_w wk1 ex2
  have wk2:=wk1.setW wv
  obtain⟨H2,e2⟩:∃ H2,H2=upd H1 l (.lst wv):=⟨_,rfl⟩
  rw[<- e2]at ex2 sy wk2 ⊢
  clear e2
  refine⟨a,_,rfl,SqT.of (sy _ _ ha),rfl,_,_,rfl,_,_,rfl,_,_,rfl,rfl,?_⟩
  have lt:=pd0.len
  have lw:wv.length=ts0.length:=(tv2.length).symm
  rw[List.length_append]at lt
  have ex02:ExW l r H H2:=fun b o n1 n2 e=>ex2 b o n1 n2 (ex1 b o n1 n2 e)
  refine⟨_,rfl,_,_,rfl,⟨isU t,rfl,rfl⟩,_,rfl,_,rfl,_,rfl,x,dx,l,r,wv,t,fs',gs,us,u,rfl,rfl,wk2,IsDt.mono sy iu,qg,st,by lia,by lia,same_w sm hl0 hr0 ex02,hl0,hr0,fun H3 tv4 ex3 wk3 h1=>?_⟩
  have sy3:=tups_w wk2 ex3
  have lg:=st.len
  exact toN _ _ ⟨m0,Nat.lt_succ_self _,wv++tv4,ts0++us,gs,_,_,_,rfl,fun b o n1 n2 e=>ex3 b o n1 n2 (ex02 b o n1 n2 e),wk3,(tv2.mono fun _ _ h=>(h.mono sy).mono sy3).append h1,pd0,by lia⟩
end
end K30
end
section
namespace K30
open PySem L2 Kn
section
variable {P:Program}{w:World}{K:PySem.W.Frag}{mg:Str->Option Value}{base:Heap}{C:Addr}{fU fF ft Zap f_later f_tell f_take:Addr}{fdU fdF Zaq fd_later fd_tell fd_take:FuncData}{G:Tr->List Int->Int}{H0:Hp}
theorem Zbo:FnScope ["walk","question","told_of","part"] ["walk","question","told_of"] (defScope (top 8)):=⟨rfl,rfl,rfl,by decide +kernel,rfl,by decide +kernel,by decide +kernel⟩
theorem ok_unfold (T:Tx mg) (Zag:Cls K C) (Zay:Df K mg "unfold" (top 8) fU fdU ["walk","question","told_of"]) (ZaA:Df K mg "fold" (top 9) fF fdF ["walk","question","told_of"])
  (Zaf:Df K mg "under" (top 2) Zap Zaq ["question"]) (ZaJ:FnOk P w K mg base CX0 1 Zap Zaq ["question"] spUnder)
  (Zas:Mf K C "later" "Walk.later" (mtop 6 1) f_later fd_later ["self","step","question","around"]) (Za4:FnOk P w K mg base CX0 1 f_later fd_later ["self","step","question","around"] (spLater C)) :
  FnOk P w K mg base CX0 2 fU fdU ["walk","question","told_of"] (spS fU fF ft G H0 C true):=by
 refine Zay.fn.okH (k:=1) Zbo (fun vs H Q E h=>?_) (fun cdv A outer s H vs Q E hr h=>?_)
 ·obtain⟨x,dx,l,r,ws,t,fs,gs,us,u,rfl,_⟩:=h;rfl
 obtain⟨x,dx,l,r,ws,t,fs,gs,us,u,rfl,it,wk,iu0,⟨d,qg⟩,st,lw,lf,sm,hl0,hr0,fin⟩:=h
 have hu:=u110 hr
 have hu0:=u0 hr
 have hu1:=hu_of hr
 refine⟨_,(wss_cons (ws_expr (we_meth (wv 0) Zag Zas.mt Za4 (hr.mono (by lia)) Zas.b .nil pass0 (wa_cons (we_glob rfl ZaA.mg (relv_ref _)) (wa_cons (wv 1) (wa_cons (wv 2) wa_nil)))))
   (wss_one (ws_for PassesOwn.never rfl (wi_revT rfl T.z_reversed (wa_cons (we_call ZaJ (hr.mono (by lia)) rfl Zaf.mg Zaf.kp Zaf.b .nil pass0 (wa_cons (wv 1) wa_nil)) wa_nil)) (wg_name (i:=3) Zbo.nd rfl (Or.inl rfl)) (wss_one (ws_expr (we_meth (wv 0) Zag Zas.mt Za4 (hr.mono (by lia)) Zas.b .nil pass0 (wa_cons (we_glob rfl Zay.mg (relv_ref _)) (wa_cons (wv 3) (wa_cons (wv 2) wa_nil))))))))),?_⟩
 cases st with
 | f h=>cases it
 | @u q _=>
 dsimp only[qT]at iu0 qg
 have lw1:ws.length+((kids q).length+1)<=1000000:=by simpa using lw
 refine seqH fun N3 toN3=>⟨_,rfl,x,dx,_,rfl,wk.at_,rfl,⟨_,rfl,⟨_,rfl,x,dx,l,r,ws,_,_,_,_,rfl,wk,by lia,fun t3 H3 ex3 ht3 hl3 wk3=>toN3 _ _ ?_⟩⟩⟩
 have sy3:=tups_w wk ex3
 refine⟨_,rfl,_,q,d,rfl,IsDt.mono sy3 iu0,qg.th,fun a us H4 s4 ha4 iu4=>⟨a,us,rfl,SqT.of ha4,?_⟩⟩
 have wk4:=wk3.keep s4
 have lus:us.length=(kids q).length:=by rw[iu4.length,List.length_map]
 refine⟨fun i m σ H'=>m+i=us.length/\(∃ o5,σ=[some (.ref x),some u,some (.ref ft),o5])/\∃ tv,ExW l r H4 H'/\Wk C H' x dx l r (ws++[.ref t3]++tv) (fs.map V.int)/\All2 (TV fU fF ft H') (((kids q).reverse.take i).map .U) tv,
  ⟨us.length,rfl,⟨none,rfl⟩,[],fun _ _ _ _ h=>h,by rw[List.append_nil];exact wk4,.nil⟩,?_⟩
 rintro i m σ H5 ⟨hm,⟨o5,rfl⟩,tv,ex5,wk5,at5⟩
 have sy5:=tups_w wk4 ex5
 have ltv:tv.length<=us.length:=by rw[<- at5.length,List.length_map,List.length_take,List.length_reverse];lia
 by_cases hi:i<us.length
 ·refine .inr (for_hide ⟨hi,us,SqT.of (sy5 _ _ ha4),rfl⟩ (fun σ' H'=>(∃ o5,σ'=[some (.ref x),some u,some (.ref ft),o5])/\∃ tv,ExW l r H4 H'/\Wk C H' x dx l r (ws++[.ref t3]++tv) (fs.map V.int)/\All2 (TV fU fF ft H') (((kids q).reverse.take (i+1)).map .U) tv) (fun σ' H' hW=>⟨m-1,by lia,by lia,hW⟩) fun E2 toN4 _=>?_)
  intro z H6 hz
  obtain⟨eH,hz⟩:=hz
  rw[eH]
  clear eH
  have e2:=hz _ (SqT.of (sy5 _ _ ha4))
  have hk:us.length-1-i<(kids q).length:=by lia
  obtain⟨y,e3,d3⟩:=iu4.get (i:=us.length-1-i) (d:=tdat (kids q)[us.length-1-i]) (by rw[List.getElem?_map,List.getElem?_eq_getElem hk];rfl)
  rw[e3]at e2
  cases e2
  refine⟨_,rfl,x,dx,_,rfl,wk5.at_,rfl,⟨_,rfl,⟨_,rfl,x,dx,l,r,_,_,_,_,_,rfl,wk5,by rw[List.length_append,List.length_append];show ws.length+1+_<=_;lia,fun t7 H7 ex7 ht7 hl7 wk7=>?_⟩⟩⟩
  have sy7:=tups_w wk5 ex7
  refine toN4 _ _ ⟨⟨_,rfl⟩,tv++[.ref t7],fun b o n1 n2 h=>ex7 b o n1 n2 (ex5 b o n1 n2 h),by rw[<- List.append_assoc];exact wk7,?_⟩
  have hi':i<(kids q).length:=by lia
  rw[List.take_add_one,List.getElem?_reverse hi',List.getElem?_eq_getElem (by lia),List.map_append]
  obtain⟨d5,_,qg5⟩:=qg.sub _ (List.getElem_mem hk)
  refine (at5.mono fun _ _ h=>h.mono sy7).append (.cons ⟨t7,_,rfl,hl7,by simpa [qT,lus] using IsDt.mono (fun a zs h=>sy7 a zs (sy5 a zs h)) d3,_,by simpa [qT,lus] using qg5⟩ .nil)
 ·refine .inl ⟨by show us.length<=i;lia,?_⟩
  obtain rfl:i=us.length:=by lia
  rw[List.take_of_length_le (by rw[List.length_reverse];lia)]at at5
  refine fin H5 (.ref t3::tv) (fun b o n1 n2 h=>ex5 b o n1 n2 (s4 _ _ (ex3 b o n1 n2 h))) (by rw[show ws++V.ref t3::tv=ws++[.ref t3]++tv by simp];exact wk5) (.cons ⟨t3,_,rfl,sy5 _ _ (s4 _ _ hl3),IsDt.mono sy5 (IsDt.mono s4.tups (IsDt.mono sy3 iu0)),_,qg⟩ at5)
def spTold (G:Tr->List Int->Int) (H0:Hp):Sp:=fun vs H Q _=>∃ (u:V) (b:Addr) (q:Tr) (js:List Int),vs=[u,.ref b]/\IsDt H (tdat q) u/\(∃ d,QG d q)/\H b=some (.lst (js.map V.int))/\js.length=(kids q).length/\Same H0 H/\∀ H',Same H H'->Q (.int (G q js)) H'
def CT (ft:Addr) (G:Tr->List Int->Int) (H0:Hp):Addr->Sp->Prop:=fun f sp=>f=ft/\sp=spTold G H0
theorem ZbH:FnScope ["walk","question","told_of"] ["walk","question","told_of"] (defScope (top 9)):=⟨rfl,rfl,rfl,by decide +kernel,rfl,by decide +kernel,by decide +kernel⟩
theorem ok_fold {k:Nat} (hk:1<=k) (T:Tx mg) (Zag:Cls K C) (ZaA:Df K mg "fold" (top 9) fF fdF ["walk","question","told_of"])
  (Zaf:Df K mg "under" (top 2) Zap Zaq ["question"]) (ZaJ:FnOk P w K mg base CX0 1 Zap Zaq ["question"] spUnder)
  (ZaW:Mf K C "tell" "Walk.tell" (mtop 6 2) f_tell fd_tell ["self","result"]) (ZbI:FnOk P w K mg base CX0 1 f_tell fd_tell ["self","result"] (spTell C))
  (ZaX:Mf K C "take" "Walk.take" (mtop 6 3) f_take fd_take ["self","many"]) (ZbJ:FnOk P w K mg base CX0 1 f_take fd_take ["self","many"] (spTake C))
  (hT:∀ f sp,CT ft G H0 f sp->∃ (c:Addr) (name qual:Str) (params:Arguments) (body:List Stmt) (scope:Scope) (clos:Clos) (doc pm ctv:Value) (ps:List Str),
   FnOk P w K mg base CX0 k f (PySem.W.fnX name qual params body scope clos .none .none doc pm none (.ref c) ctv) ps sp/\Binds K (PySem.W.fnX name qual params body scope clos .none .none doc pm none (.ref c) ctv) ps []/\∀ vs H Q E,sp vs H Q E->H f=some (.ext (DefOC name qual params body scope clos doc pm c ctv f))) :
  FnOk P w K mg base CX0 (k+1) fF fdF ["walk","question","told_of"] (spS fU fF ft G H0 C false):=by
 refine ZaA.fn.okH (k:=k) ZbH (fun vs H Q E h=>?_) (fun cdv A outer s H vs Q E hr h=>?_)
 ·obtain⟨x,dx,l,r,ws,t,fs,gs,us,u,rfl,_⟩:=h;rfl
 obtain⟨x,dx,l,r,ws,t,fs,gs,us,u,rfl,it,wk,iu0,⟨d,qg⟩,st,lw,lf,sm,hl0,hr0,fin⟩:=h
 have hu:=u110 hr
 have hu0:=u0 hr
 have hu1:=hu_of hr
 refine⟨_,(wss_one (ws_expr (we_meth (wv 0) Zag ZaW.mt ZbI (hr.mono (by lia)) ZaW.b .nil pass0 (wa_cons (we_callD hT (hr.mono (by lia)) pass0 (wv 2) (wa_cons (wv 1) (wa_cons (we_meth (wv 0) Zag ZaX.mt ZbJ (hr.mono (by lia)) ZaX.b .nil pass0 (wa_cons (we_callB call_lenU rfl T.z_len bt_len (wa_cons (we_call ZaJ (hr.mono (by lia)) rfl Zaf.mg Zaf.kp Zaf.b .nil pass0 (wa_cons (wv 1) wa_nil)) wa_nil)) wa_nil)) wa_nil))) wa_nil)))),?_⟩
 cases st with
 | u=>cases it
 | @f q fs js hj=>
 dsimp only[qT]at iu0 qg
 rw[List.map_append]at wk
 rw[List.length_append]at lf
 refine⟨_,rfl,x,dx,_,rfl,wk.at_,rfl,⟨_,rfl,ft,_,rfl,⟨rfl,rfl⟩,⟨_,rfl,⟨_,rfl,x,dx,_,rfl,wk.at_,rfl,⟨_,rfl,_,q,d,rfl,iu0,qg.th,fun a us H1 s1 ha iu=>.inl ⟨a,us,rfl,.inr (SqT.of ha),?_⟩⟩⟩⟩⟩⟩
 have lus:us.length=(js.map V.int).length:=by rw[iu.length,List.length_map,List.length_map,hj]
 have wk1:=wk.keep s1
 refine⟨x,dx,l,r,ws,fs.map V.int,js.map V.int,by rw[lus];rfl,wk1,by rw[List.length_map];lia,fun b H2 ex2 hb2 hb wk2=>?_⟩
 have sy2:=tups_w wk1 ex2
 have ex02:ExW l r H H2:=fun b o n1 n2 e=>ex2 b o n1 n2 (s1 _ _ e)
 refine⟨_,b,q,js,rfl,IsDt.mono sy2 (IsDt.mono s1.tups iu0),⟨d,qg⟩,hb,hj,same_w sm hl0 hr0 ex02,fun H3 s3=>?_⟩
 refine⟨x,dx,l,r,ws,fs.map V.int,_,rfl,wk2.keep s3,by rw[List.length_map];lia,fun H4 ex4 wk4=>?_⟩
 exact fin H4 [] (fun b o n1 n2 e=>ex4 b o n1 n2 (s3 _ _ (ex02 b o n1 n2 e))) (by rw[List.append_nil,List.map_append];exact wk4) .nil
end
end K30
end
section
namespace K30
open PySem L2 Kn
def TOLD (P:Program) (w:World) (K:PySem.W.Frag) (mg:Str->Option Value) (base:Heap) (k:Nat) (ft:Addr) (G:Tr->List Int->Int) (H0:Hp):Prop:=
 ∀ f sp,CT ft G H0 f sp->∃ (c:Addr) (name qual:Str) (params:Arguments) (body:List Stmt) (scope:Scope) (clos:Clos) (doc pm ctv:Value) (ps:List Str),
   FnOk P w K mg base CX0 k f (PySem.W.fnX name qual params body scope clos .none .none doc pm none (.ref c) ctv) ps sp/\Binds K (PySem.W.fnX name qual params body scope clos .none .none doc pm none (.ref c) ctv) ps []/\∀ vs H Q E,sp vs H Q E->H f=some (.ext (DefOC name qual params body scope clos doc pm c ctv f))
section
variable {P:Program}{w:World}{K:PySem.W.Frag}{mg:Str->Option Value}{base:Heap}{C:Addr}{f fU fF f_init f_later f_run:Addr}{fd fdU fdF fd_init fd_later fd_run:FuncData}
theorem Zbp:FnScope ["question","told_of","walk"] ["question","told_of"] (defScope (top 7)):=⟨rfl,rfl,rfl,by decide +kernel,rfl,by decide +kernel,by decide +kernel⟩
def spFolded (P:Program) (w:World) (K:PySem.W.Frag) (mg:Str->Option Value) (base:Heap) (k:Nat):Sp:=fun vs H Q _=>∃ (u:V) (ft:Addr) (q:Tr) (d:Nat) (G:Tr->List Int->Int) (dg:Tr->Int),vs=[u,.ref ft]/\IsDt H (tdat q) u/\QG d q/\nq q<=400000/\(∀ q,dg q=G q ((kids q).map dg))/\TOLD P w K mg base k ft G H/\∀ H',Same H H'->Q (.int (dg q)) H'
theorem ok_folded {k k':Nat} (hk:2<=k') (T:Tx mg) (Zag:Cls K C) (ZbK:Mk K C f_init) (ZbL:mg "Walk"=some (.ref C)) (D:Df K mg "folded" (top 7) f fd ["question","told_of"]) (Zay:Df K mg "unfold" (top 8) fU fdU ["walk","question","told_of"])
  (Za5:Mf K C "__init__" "Walk.__init__" (mtop 6 0) f_init fd_init ["self"]) (ZbM:FnOk P w K mg base CX0 1 f_init fd_init ["self"] (spInit C))
  (Zas:Mf K C "later" "Walk.later" (mtop 6 1) f_later fd_later ["self","step","question","around"]) (Za4:FnOk P w K mg base CX0 1 f_later fd_later ["self","step","question","around"] (spLater C))
  (ZaY:Mf K C "run" "Walk.run" (mtop 6 4) f_run fd_run ["self"]) (Zbf:∀ ft G H0,TOLD P w K mg base k ft G H0->FnOk P w K mg base CX0 k' f_run fd_run ["self"] (spRun fU fF ft G H0 C)) :
  FnOk P w K mg base CX0 (k'+1) f fd ["question","told_of"] (spFolded P w K mg base k):=by
 refine D.fn.okH (k:=k') Zbp (fun vs H Q E h=>?_) (fun cdv A outer s H vs Q E hr h=>?_)
 ·obtain⟨u,ft,q,d,G,dg,rfl,_⟩:=h;rfl
 obtain⟨u,ft,q,d,G,dg,rfl,iu,qg,n4,hdg,told,fin⟩:=h
 have hu:=u110 hr
 have hu0:=u0 hr
 have hu1:=hu_of hr
 replace Zbf:=Zbf ft G H told
 refine⟨_,(wss_cons (ws_set (i:=2) Zbp.nd rfl (Or.inl rfl) (we_make0 ZbK ZbM (hr.mono (by lia)) rfl ZbL Za5.b .nil pass0))
   (wss_cons (ws_expr (we_meth (wv 2) Zag Zas.mt Za4 (hr.mono (by lia)) Zas.b .nil pass0 (wa_cons (we_glob rfl Zay.mg (relv_ref _)) (wa_cons (wv 0) (wa_cons (wv 1) wa_nil)))))
   (wss_one (ws_ret (we_meth0 (wv 2) Zag ZaY.mt Zbf (hr.mono (by lia)) ZaY.b .nil pass0))))),?_⟩
 refine seqH fun N toN=>fun x dx hx hdx nd=>⟨x,dx,rfl,upd_same,fun l r H1 ex1 wk1 hl hr1=>⟨rfl,toN _ _ ?_⟩⟩
 have s0:Same H (upd (upd H dx (.own x)) x (.ins C dx [])):=fun b o e=>by rw[upd_ne (ne_of_none e hx),upd_ne (ne_of_none e hdx)];exact e
 have s1:Same H H1:=fun b o e=>ex1 b o (ne_of_none e hx) (s0 b o e)
 have hlH:H l=none:=same_back s0 hl
 have hrH:H r=none:=same_back s0 hr1
 refine seqH fun N2 toN2=>⟨_,rfl,x,dx,_,rfl,wk1.at_,rfl,_,rfl,_,rfl,?_⟩
 refine⟨x,dx,l,r,[],[],_,_,_,rfl,wk1,Nat.zero_le _,fun t3 H3 ex3 ht3 hl3 wk3=>toN2 _ _ ?_⟩
 have s3:=same_w s1 hlH hrH ex3
 have pd:=Pd.un hdg (nq q) q [] [] (dg q) 0 (Nat.le_refl _) .done
 refine⟨_,rfl,x,dx,_,rfl,wk3.at_,rfl,x,dx,l,r,_,[.U q],[],dg q,_,rfl,wk3,.cons ⟨t3,_,rfl,hl3,IsDt.mono s3.tups iu,d,qg⟩ .nil,pd,by simp;lia,s3,hlH,hrH,fun H4 ex4=>fin H4 (same_w s3 hlH hrH ex4)⟩
end
end K30
end
section
namespace L2
open PySem PySem.Spec PyProof.Rows
section
variable {X:Cx}
def rMaxL (K:PySem.W.Frag):List V->Hp->VK->Prop:=fun ws H Q=>∃ (p:Addr) (ns:List Int),ws=[.ref p]/\SqL K H p (ns.map V.int)/\0<ns.length/\∀ M,M∈ns->(∀ a∈ns,a<=M)->Q (.int M) H
theorem call_maxL (hc:X.calm=true):CallR X (.builtin "max") (rMaxL X.K):=by
 intro pins s σ H ws us Q I r h
 obtain⟨p,ns,rfl,hq,h0,q⟩:=h
 obtain⟨u,rfl,ru⟩:=r.one
 cases ru
 have hh:=I.ok.hd hc
 obtain⟨its,rv,pl,_⟩:=I.list hq
 have hi:IntsAre its ns:=intsAre_of rv
 have hl:s.heap.IsList p its.toArray:=pl.isList
 obtain⟨xs,hx⟩:=hi.allInts.items
 have hn:numsOf its.toArray.toList=ns:=by rw[show its.toArray.toList=its from rfl,hi.numsOf]
 rw[hx]at hl hn
 rw[nums_intItems]at hn
 have hsz:0<xs.size:=by
  have:=congrArg List.length hn
  rw[List.length_map,Array.length_toList]at this
  lia
 refine max_intList hh hl hsz fun v h' tk hv hk=>?_
 obtain⟨t,rfl⟩:=intItems_at hv
 obtain⟨h1,h2⟩:=argBest_gt (numAt xs) (xs.size-1)
 refine⟨.int _,H,I.kept (t':=tk) hk,⟨t,rfl⟩,q _ ?_ fun a ha=>?_⟩
 ·rw[<- hn,numAt_eq];exact getD_mem (by rw[List.length_map,Array.length_toList];lia)
 ·rw[<- hn]at ha
  obtain⟨j,hj,rfl⟩:=mem_getD ha
  rw[List.length_map,Array.length_toList]at hj
  rw[<- numAt_eq];exact h2 j (by lia)
end
end L2
end
section
namespace K30
open PySem L2 Kn
theorem heap_at {b:Addr}{o:Obj}{u:Option Value} (hd:o.data=.cell u):∃ h:Heap,h.get? b=some o:=by
 refine⟨⟨Array.replicate (b+1) o,{}⟩,?_⟩
 obtain⟨c,d,dt,sl⟩:=o
 cases hd
 unfold Heap.get?
 simp
theorem cell_inj {c:Addr}{o o':Obj}{u:Option Value} (hd:o.data=.cell u) (e:CellO c o=CellO c o'):o=o':=by
 obtain⟨h,hh⟩:=heap_at (b:=c) hd
 have:CellO c o' h:=by rw[<- e];exact hh
 have this:h.get? c=some o':=this
 rw[hh]at this
 exact Option.some.inj this
theorem relv_inj {v v':V}{u:Value} (h:RelV v u) (h':RelV v' u):v=v':=by
 cases v <;> cases v' <;> simp only[RelV]at h h' <;> first
  | rfl
  | (obtain⟨t,e⟩:=h;obtain⟨t',e'⟩:=h';rw[e]at e';cases e';done)
  | (obtain⟨t,e⟩:=h;obtain⟨t',e'⟩:=h';rw[e]at e';cases e';rfl)
  | (obtain⟨t,e⟩:=h;rw[e]at h';cases h';done)
  | (obtain⟨t,e⟩:=h';rw[e]at h;cases h;done)
  | (rw[h]at h';cases h';done)
  | (rw[h]at h';cases h';rfl)
theorem cells_eq {H:Hp}{g g':Addr->Obj}:∀ {clos:Clos}{ws ws':List V},(∀ p∈clos,H p.2=some (.ext (CellO p.2 (g p.2))))->(∀ p∈clos,H p.2=some (.ext (CellO p.2 (g' p.2))))->Paired (fun (p:Str×Addr) v=>CellIs (g p.2) v) clos ws->Paired (fun (p:Str×Addr) v=>CellIs (g' p.2) v) clos ws'->ws=ws'
 | _,_,_,_,_,.nil,.nil=>rfl
 | p::clos,_,_,h1,h2,.cons a r,.cons a' r'=>by
  have e:=h1 p List.mem_cons_self
  rw[h2 p List.mem_cons_self]at e
  obtain⟨u,rv,du⟩:=a
  obtain⟨u',rv',du'⟩:=a'
  have:=cell_inj du' (by injection e with e;injection e)
  rw[this,du]at du'
  cases du'
  rw[relv_inj rv rv',cells_eq (fun q hq=>h1 q (List.mem_cons_of_mem _ hq)) (fun q hq=>h2 q (List.mem_cons_of_mem _ hq)) r r']
theorem cellsG_eq {H:Hp}{g g':Addr->Obj}{clos:Clos}{ws ws':List V} (a:CellsG H clos g ws) (b:CellsG H clos g' ws'):ws=ws':=
 cells_eq (fun p hp=>a.1 _ (List.mem_map.mpr ⟨p,hp,rfl⟩)) (fun p hp=>b.1 _ (List.mem_map.mpr ⟨p,hp,rfl⟩)) a.2 b.2
def ND:Stmt:=bd 12 0
def dN:Str:=Str.ofString "degree"++".<locals>."++"degree_of"
def clo (L:Addr):Clos:=[(Str.ofString "names",L+1)]
theorem clo_inj (L:Addr):ClosInj (clo L):=fun x y c h1 h2=>by
 have hl:∀ {z:Str},(clo L).lookup z=some c->z=Str.ofString "names":=fun {z} h=>by
  have:=PySem.mem_of_lookup h
  simp only[clo,List.mem_cons,Prod.mk.injEq,List.not_mem_nil,or_false]at this
  exact this.1
 rw[hl h1,hl h2]
theorem sc_nd (L:Addr):LamScope ["part","below"] ((clo L).map (·.1)) (defScope ND):=by
 have:(clo L).map (·.1)=[Str.ofString "names"]:=rfl
 rw[this]
 exact⟨rfl,rfl,rfl,by decide +kernel,by decide +kernel,by decide +kernel,by decide +kernel,by decide +kernel⟩
structure NdS (N:List Str):Prop where
 nd:N.Nodup
theorem sc_degree_of {L:Addr}:NdS ((([Str.ofString "part",Str.ofString "below"]:List Str)++(clo L).map (·.1))++[Str.ofString "word"]):=⟨by show (["part","below","names","word"]:List Str).Nodup;decide +kernel⟩
noncomputable def dgQ (ns:List Str):Tr->List Int->Int
 | .row _,_=>0
 | .node w as _,js=>degN ns w as js
theorem degL_map (ns:List Str) (ps:List Tr):degL ns ps=ps.map (degT ns):=by
 induction ps with
 | nil=>rw[degL];rfl
 | cons p ps ih=>rw[degL,ih];rfl
theorem dg_kids (ns:List Str) (q:Tr):degT ns q=dgQ ns q ((kids q).map (degT ns)):=by
 cases q with
 | row ps=>rw[degT];rfl
 | node w as ps=>
  by_cases h:w=Str.ofString "none"
  ·subst h
   rw[deg_none (by simp only[wT];decide +kernel)]
   show _=degN ns _ as _
   rw[degN,if_neg (by decide +kernel),if_neg (by decide +kernel),if_neg (by decide +kernel),if_neg (by decide +kernel)]
  ·rw[degT,degL_map,kids_ne _ _ h];rfl
structure Tf (H:Hp) (ft c L ln:Addr) (ns:List Str) (doc pm ctv:Value) (g:Addr->Obj):Prop where
 fn:H ft=some (.ext (DefOC "degree_of" dN (defArgs ND) (defBody ND) (defScope ND) (clo L) doc pm c ctv ft))
 cd:H c=some (.ext (CodeO c dN))
 cl:CellsG H (clo L) g [.ref ln]
 nm:H ln=some (.lst (ns.map V.str))
theorem Tf.keep {H H':Hp}{ft c L ln:Addr}{ns:List Str}{doc pm ctv:Value}{g:Addr->Obj} (h:Tf H ft c L ln ns doc pm ctv g) (s:Same H H'):Tf H' ft c L ln ns doc pm ctv g:=
 ⟨s _ _ h.fn,s _ _ h.cd,⟨fun b i=>s _ _ (h.cl.1 b i),h.cl.2⟩,s _ _ h.nm⟩
theorem same_rc {H H':Hp}{clos:Clos} (s:Same (remC H clos) H'):Same H (backC H' H clos):=fun b o e=>by
 by_cases i:inC clos b
 ·exact (if_pos i).trans e
 ·exact (if_neg i).trans (s _ _ ((remC_ne i).trans e))
section
variable {P:Program}{w:World}{K:PySem.W.Frag}{mg:Str->Option Value}{base:Heap}
theorem ok_told {k:Nat}{H0:Hp}{ft c L ln:Addr}{ns:List Str}{doc pm ctv:Value}{g0:Addr->Obj} (T:Tx mg) (tf:Tf H0 ft c L ln ns doc pm ctv g0) :
  FnOk P w K mg base CX0 (k+1) ft (PySem.W.fnX "degree_of" dN (defArgs ND) (defBody ND) (defScope ND) (clo L) .none .none doc pm none (.ref c) ctv) ["part","below"] (spTold (dgQ ns) H0):=by
 refine def_ofC (ls:=["word"]) (sc_nd L) (clo_inj L) (fun vs H Q E h=>?_) (fun vs H Q E h=>?_) fun A out s H vs us g Q E hr h cg=>?_
 ·obtain⟨u,b,q,js,rfl,_⟩:=h;rfl
 ·obtain⟨u,b,q,js,rfl,_,_,_,_,sm,_⟩:=h
  exact⟨(tf.keep sm).fn,(tf.keep sm).cd,_,_,(tf.keep sm).cl⟩
 obtain⟨u,b,q,js,rfl,iu,⟨d,qg⟩,hb,lj,sm,fin⟩:=h
 have tf':=tf.keep sm
 obtain rfl:=cellsG_eq tf'.cl cg
 have hu:=u110 hr
 have hu0:=u0 hr
 have hu1:=hu_of hr
 refine⟨_,(wss_cons (ws_set (i:=3) sc_degree_of.nd rfl (Or.inl rfl) (we_ix (ix_U hu1) (wv 0) we_int (fun _ _=>rfl)))
   (wss_cons (ws_if (wt_cmpR (op_eqU hu) (wv 3) we_str (nomark _)) (wss_one (ws_ret (we_ifExp (wt_cmpR (op_inU hu) (we_ix (ix_U hu1) (wv 0) we_int (fun _ _=>rfl)) (wv 2) (by with_unfolding_all rfl)) we_int we_int))) wss_nil)
   (wss_cons (ws_if (wt_cmpR (op_eqU hu) (wv 3) we_str (nomark _)) (wss_one (ws_ret (we_callB (call_maxL rfl) rfl T.z_max bt_max (wa_cons (wv 1) wa_nil)))) wss_nil)
   (wss_cons (ws_if (wt_cmpR (op_eqU hu) (wv 3) we_str (nomark _)) (wss_one (ws_ret (we_callB (call_sumL rfl) rfl T.z_sum bt_sum (wa_cons (wv 1) wa_nil)))) wss_nil)
   (wss_cons (ws_if (wt_cmpR (op_inU hu) (wv 3) (we_tup (wa_consts rfl)) (by with_unfolding_all rfl)) (wss_one (ws_ret (we_ix (ix_U hu1) (wv 1) (we_un un_neg we_int) (fun _ _=>rfl)))) wss_nil)
   (wss_one (ws_ret we_int))))))),?_⟩
 have nin:∀ {a:Addr}{o:HO},H a=some o->(∀ z,o≠.ext z)->remC H (clo L) a=some o:=fun {a o} e n=>by
  rw[remC_ne fun i=>by rw[cg.1 a i]at e;cases e;exact n _ rfl];exact e
 have tu:Tups H (remC H (clo L)):=fun a zs e=>nin e (fun z h=>by cases h)
 have hb:=nin hb (fun z h=>by cases h)
 have hln:=nin tf'.nm (fun z h=>by cases h)
 have hx:=IsDt.mono tu iu
 have fin:∀ H',Same (remC H (clo L)) H'->Q (.int (dgQ ns q js)) (backC H' H (clo L)):=fun H' s=>fin _ (same_rc s)
 generalize remC H (clo L)=Hr at hb hln hx fin ⊢
 obtain⟨a,xs,rfl,ha⟩:=t_at hx
 refine⟨_,rfl,ixt (SqT.of ha) at0 ?_⟩
 have c:=qg.cs
 refine⟨_,rfl,.inl ⟨rfl,_,rfl,ite2 (fun e=>?_) (fun e1=>?_)⟩⟩
 ·have e:=vs_str e
  rcases c with ⟨s,rfl⟩ | ⟨e1,r1,r2,le,q1,q2,rfl⟩ | ⟨e1,i,r,le,q1,rfl⟩ | ⟨e1,r1,r2,le,q1,q2,rfl⟩ | ⟨e1,s,r1,r2,le,q1,q2,rfl⟩ | ⟨e1,s,r1,r2,le,q1,q2,rfl⟩ | hn
  case inr.inr.inr.inr.inr.inr=>exact absurd (by rw[e];decide +kernel) hn
  case inl=>
   obtain⟨a',zs',ea,ha'⟩:=t_txt hx
   cases ea
   have fin:∀ H',Same Hr H'->Q (.int (if s∈ns then 1 else 0)) (backC H' H (clo L)):=fun H' z=>by
    have:=fin H' z
    rw[dgQ,degN,if_pos rfl,tabV]at this
    exact this
   refine⟨_,rfl,ixt (SqT.of ha') at1 ⟨_,rfl,.inl ⟨ln,_,rfl,.inl (SqL.of hln),rfl,flat_strs ns,_,rfl,?_⟩⟩⟩
   refine ite2 (fun e=>?_) (fun e=>?_)
   ·rw[if_pos ((inV_str s ns).mp e)]at fin
    exact fun _=>fin Hr (.refl _)
   ·rw[if_neg fun z=>e ((inV_str s ns).mpr z)]at fin
    exact fun _=>fin Hr (.refl _)
  all_goals exact absurd e (by simp only[wT];decide +kernel)
 have e1:=vs_ne e1
 dsimp only[tNext]
 refine⟨_,rfl,.inl ⟨rfl,_,rfl,ite2 (fun e=>?_) (fun e2=>?_)⟩⟩
 ·have e:=vs_str e
  rcases c with ⟨s,rfl⟩ | ⟨e1,r1,r2,le,q1,q2,rfl⟩ | ⟨e1,i,r,le,q1,rfl⟩ | ⟨e1,r1,r2,le,q1,q2,rfl⟩ | ⟨e1,s,r1,r2,le,q1,q2,rfl⟩ | ⟨e1,s,r1,r2,le,q1,q2,rfl⟩ | hn
  case inr.inr.inr.inr.inr.inr=>exact absurd (by rw[e];decide +kernel) hn
  case inr.inl=>
   rw[kids_ne _ _ (by decide +kernel)]at lj
   obtain⟨i,j,rfl⟩:∃ i j,js=[i,j]:=by
    match js,lj with
    | [i,j],_=>exact⟨i,j,rfl⟩
   refine⟨_,rfl,b,[i,j],rfl,SqL.of hb,(show 0<2 by decide),fun M hM hle=>?_⟩
   have:=fin Hr (.refl _)
   rw[dgQ,degN,if_neg (by decide +kernel),if_pos rfl,maxV,mx2]at this
   have h1:=hle i (by simp)
   have h2:=hle j (by simp)
   have hM:M=i\/M=j:=by simpa using hM
   have:M=if j > i then j else i:=by split <;> lia
   rw[this]
   exact fun _=>‹Q _ _›
  all_goals exact absurd e (by simp only[wT];decide +kernel)
 have e2:=vs_ne e2
 dsimp only[tNext]
 refine⟨_,rfl,.inl ⟨rfl,_,rfl,ite2 (fun e=>?_) (fun e3=>?_)⟩⟩
 ·have e:=vs_str e
  rcases c with ⟨s,rfl⟩ | ⟨e1,r1,r2,le,q1,q2,rfl⟩ | ⟨e1,i,r,le,q1,rfl⟩ | ⟨e1,r1,r2,le,q1,q2,rfl⟩ | ⟨e1,s,r1,r2,le,q1,q2,rfl⟩ | ⟨e1,s,r1,r2,le,q1,q2,rfl⟩ | hn
  case inr.inr.inr.inr.inr.inr=>exact absurd (by rw[e];decide +kernel) hn
  case inr.inr.inr.inr.inr.inl=>
   refine⟨_,rfl,b,js,rfl,SqL.of hb,fun _=>?_⟩
   have:=fin Hr (.refl _)
   rw[dgQ,degN,if_neg (by decide +kernel),if_neg (by decide +kernel),if_pos rfl]at this
   exact this
  all_goals exact absurd e (by simp only[wT];decide +kernel)
 have e3:=vs_ne e3
 dsimp only[tNext]
 refine⟨_,rfl,⟨(by show 3<=sizeLine;decide),fun c9 hc9=>.inl ⟨c9,[.str "times",.str "when",.str "let"],rfl,.inr (SqT.of upd_same),rfl,rfl,_,rfl,?_⟩⟩⟩
 have s0:=same_new hc9 (.tup [V.str "times",.str "when",.str "let"])
 have hb:=s0 _ _ hb
 have fin:∀ H',Same (upd Hr c9 (.tup [V.str "times",.str "when",.str "let"])) H'->Q (.int (dgQ ns q js)) (backC H' H (clo L)):=fun H' s=>fin H' (s0.trans s)
 have inw:=inV_str (wT q) [Str.ofString "times",Str.ofString "when",Str.ofString "let"]
 generalize upd Hr c9 (.tup [V.str "times",.str "when",.str "let"])=H1 at *
 refine ite2 (fun e=>?_) (fun e4=>?_)
 ·have e:wT q∈_:=inw.mp e
  rcases c with ⟨s,rfl⟩ | ⟨e1,r1,r2,le,q1,q2,rfl⟩ | ⟨e1,i,r,le,q1,rfl⟩ | ⟨e1,r1,r2,le,q1,q2,rfl⟩ | ⟨e1,s,r1,r2,le,q1,q2,rfl⟩ | ⟨e1,s,r1,r2,le,q1,q2,rfl⟩ | hn
  case inr.inr.inr.inr.inr.inr=>exact absurd (by revert e;simp only[List.mem_cons,List.not_mem_nil,or_false];rintro (z | z | z) <;> simp [z]) hn
  case inr.inr.inl=>
   rw[kids_ne _ _ (by decide +kernel)]at lj
   obtain⟨i,rfl⟩:∃ i,js=[i]:=by
    match js,lj with
    | [i],_=>exact⟨i,rfl⟩
   have:=fin H1 (.refl _)
   rw[dgQ,degN,if_neg (by decide +kernel),if_neg (by decide +kernel),if_neg (by decide +kernel),if_pos (.inl rfl)]at this
   exact⟨_,rfl,_,rfl,.inl ⟨b,_,-1,.int i,rfl,rfl,SqL.of hb,rfl,fun _=>this⟩⟩
  case inr.inr.inr.inl=>
   rw[kids_ne _ _ (by decide +kernel)]at lj
   obtain⟨i,j,rfl⟩:∃ i j,js=[i,j]:=by
    match js,lj with
    | [i,j],_=>exact⟨i,j,rfl⟩
   have:=fin H1 (.refl _)
   rw[dgQ,degN,if_neg (by decide +kernel),if_neg (by decide +kernel),if_neg (by decide +kernel),if_pos (.inr (.inl rfl))]at this
   exact⟨_,rfl,_,rfl,.inl ⟨b,_,-1,.int j,rfl,rfl,SqL.of hb,rfl,fun _=>this⟩⟩
  case inr.inr.inr.inr.inl=>
   rw[kids_ne _ _ (by decide +kernel)]at lj
   obtain⟨i,j,rfl⟩:∃ i j,js=[i,j]:=by
    match js,lj with
    | [i,j],_=>exact⟨i,j,rfl⟩
   have:=fin H1 (.refl _)
   rw[dgQ,degN,if_neg (by decide +kernel),if_neg (by decide +kernel),if_neg (by decide +kernel),if_pos (.inr (.inr rfl))]at this
   exact⟨_,rfl,_,rfl,.inl ⟨b,_,-1,.int j,rfl,rfl,SqL.of hb,rfl,fun _=>this⟩⟩
  all_goals exact absurd e (by simp only[wT];decide +kernel)
 have e4:wT q ∉ _:=fun z=>e4 (inw.mpr z)
 have:=fin H1 (.refl _)
 have z0:dgQ ns q js=0:=by
  cases q with
  | row ps=>rfl
  | node w' as ps=>
   simp only[wT,List.mem_cons,List.not_mem_nil,or_false,not_or]at e1 e2 e3 e4
   rw[dgQ,degN,if_neg e1,if_neg e2,if_neg e3,if_neg (by simp [e4])]
 rw[z0]at this
 exact fun _=>this
end
end K30
end
section
namespace K30
open PySem L2 Kn
def nPos:Pos:=match ND with
 | .FunctionDef _ _ _ _ _ _ _ _ _ p=>p
 | _=>⟨0,0,0,0⟩
theorem cl_nd (L f:Addr) (cd:Value):closureFor (defScope ND) (PyProof.Rows.envOfC "degree" (defScope (top 12)) L f cd)=pure (clo L):=by rfl
section
variable {P:Program}{w:World}{K:PySem.W.Frag}{mg:Str->Option Value}{base:Heap}{f c0 T0 Zbg:Addr}{fd Zbh:FuncData}
theorem Zbq:FnScope ["question","names","degree_of"] ["question","names"] (defScope (top 12)):=⟨rfl,rfl,rfl,by decide +kernel,rfl,by decide +kernel,by decide +kernel⟩
def spDegree (T0:Addr):Sp:=fun vs H Q _=>∃ (u:V) (ln:Addr) (ns:List Str) (q:Tr) (d:Nat),vs=[u,.ref ln]/\IsDt H (tdat q) u/\QG d q/\nq q<=400000/\H ln=some (.lst (ns.map V.str))/\LamT H T0 nPos dN/\∀ H',(∀ b o,b≠T0->H b=some o->H' b=some o)->LamT H' T0 nPos dN->Q (.int (degT ns q)) H'
theorem ok_degree {k k':Nat} (hk:1<=k') (T:Tx mg) (LM:LmK K mg c0 T0) (D:Df K mg "degree" (top 12) f fd ["question","names"]) (hc:fd.code=.ref c0)
  (ZaM:Df K mg "folded" (top 7) Zbg Zbh ["question","told_of"]) (ZbN:FnOk P w K mg base CX0 k' Zbg Zbh ["question","told_of"] (spFolded P w K mg base (k+1))) :
  FnOk P w K mg base CX0 (k'+1) f fd ["question","names"] (spDegree T0):=by
 refine D.fn.okC (k:=k') hc Zbq (fun vs H Q E h=>?_) (fun A outer s H vs Q E hr h=>?_)
 ·obtain⟨u,ln,ns,q,d,rfl,_⟩:=h;rfl
 obtain⟨u,ln,ns,q,d,rfl,iu,qg,n4,hln,lt,fin⟩:=h
 have hu:=u110 hr
 have hu0:=u0 hr
 have hu1:=hu_of hr
 have hCl:=cl_nd s.heap.objs.size f (.ref c0)
 have CP:CapOk (cxOf CX0 P w K mg base ["question","names","degree_of"] "degree" (defScope (top 12)) f (.ref c0) A outer s H E).nox (clo s.heap.objs.size) [1]:=
  ⟨fun p hp=>by
   simp only[clo,List.mem_cons,List.not_mem_nil,or_false]at hp
   rcases hp with rfl <;> rfl,.cons ⟨rfl,rfl⟩ .nil,fun _=>rfl⟩
 refine⟨_,(wss_cons (ws_defC (i:=2) Zbq.nd rfl (Or.inl rfl) LM hCl)
   (wss_one (ws_ret (we_callC (E:=E) CP ZbN (hr.mono (by lia)) rfl ZaM.mg ZaM.kp ZaM.b (wa_cons (wv 0) (wa_cons (wv 2) wa_nil)))))),?_⟩
 have hT:∀ {b:Addr}{o:HO},H b=some o->(∀ z,o≠.tbl z)->b≠T0:=fun {b o} e n z=>by
  obtain⟨qs,h⟩:∃ qs,H T0=some (.tbl qs):=by
   rcases lt with h | ⟨c,h,_⟩
   ·exact⟨_,h⟩
   ·exact⟨_,h⟩
  rw[z,h]at e;cases e;exact n _ rfl
 refine seqH fun N1 to1=>⟨lt,fun ft c doc ctv H1 hf h1 h2 h3 ex=>to1 _ _ ?_⟩
 refine⟨_,rfl,_,rfl,[.ref ln],rfl,fun g hp hn0=>?_⟩
 have ad:∀ {b:Addr}{o:HO},H1 b=some o->addG H1 (clo s.heap.objs.size) g b=some o:=fun {b o} e=>by
  rw[addG,if_neg fun i=>by rw[hn0 b i]at e;cases e];exact e
 have iu1:IsDt (addG H1 (clo s.heap.objs.size) g) (tdat q) u:=IsDt.mono (fun a zs e=>ad (ex _ _ (hT e fun z h=>by cases h) e)) iu
 have tf:Tf (addG H1 (clo s.heap.objs.size) g) ft c s.heap.objs.size ln ns doc ((mg "__name__").getD .none) ctv g:=
  ⟨ad h1,ad h2,⟨fun b i=>if_pos i,hp⟩,ad (ex _ _ (hT hln fun z h=>by cases h) hln)⟩
 have told:TOLD P w K mg base (k+1) ft (dgQ ns) (addG H1 (clo s.heap.objs.size) g):=by
  rintro _ _ ⟨rfl,rfl⟩
  refine⟨c,"degree_of",dN,defArgs ND,defBody ND,defScope ND,clo s.heap.objs.size,doc,_,ctv,["part","below"],ok_told T tf,.all fun us hl=>?_,fun vs H Q E h=>?_⟩
  ·match us,hl with
   | [x,y],_=>rfl
  ·obtain⟨u,b,q,js,_,_,_,_,_,sm,_⟩:=h
   exact (tf.keep sm).fn
 refine⟨u,ft,q,d,dgQ ns,degT ns,rfl,iu1,qg,n4,dg_kids ns,told,fun H' s'=>⟨fun b i=>s' _ _ (if_pos i),?_⟩⟩
 have back:∀ {b:Addr}{o:HO},H1 b=some o->remC H' (clo s.heap.objs.size) b=some o:=fun {b o} e=>by
  rw[remC_ne fun i=>by rw[hn0 b i]at e;cases e];exact s' _ _ (ad e)
 exact fin _ (fun b o n e=>back (ex b o n e)) (.inr ⟨c,back h3,back h2⟩)
end
end K30
end
section
namespace K30
open PySem L2 Kn
theorem lt_same {H H':Hp}{T:Addr}{p:Pos}{q:Str} (h:LamT H T p q) (e1:∀ b o,(∀ xs,o≠.lst xs)->H b=some o->H' b=some o):LamT H' T p q:=by
 rcases h with h | ⟨c,h,k⟩
 ·exact .inl (e1 _ _ (fun _ z=>by cases z) h)
 ·exact .inr ⟨c,e1 _ _ (fun _ z=>by cases z) h,e1 _ _ (fun _ z=>by cases z) k⟩
theorem Sd.ne {H:Hp}{p:Addr} (h:Sd H p) {b:Addr}{o:HO} (e:H b=some o) (n:∀ xs,o≠.lst xs):b≠p:=fun z=>by
 obtain⟨x,y,u,t,h⟩:=h
 rw[z,h]at e;cases e;exact n _ rfl
theorem sq_same {K:PySem.W.Frag}{H H':Hp}{a:Addr}{xs:List V} (s:Same H H') (h:SqL K H a xs):SqL K H' a xs:=by
 rcases h with (h | ⟨v,h⟩) | h
 ·exact .inl (.inl (s _ _ h))
 ·exact .inl (.inr ⟨v,s _ _ h⟩)
 ·exact .inr h
theorem cut_ints {ns:List Int}{lo hi:Option Int}{z:Int}:∀ x∈cutV (ns.map V.int) lo hi++[V.int z],∃ i:Int,x=.int i:=fun x hx=>by
 rcases List.mem_append.mp hx with h | h
 ·obtain⟨i,_,rfl⟩:=List.mem_map.mp (List.mem_of_mem_drop (List.mem_of_mem_take h))
  exact⟨i,rfl⟩
 ·exact⟨z,List.mem_singleton.mp h⟩
section
variable {P:Program}{w:World}{K:PySem.W.Frag}{mg:Str->Option Value}{base:Heap}{f T0 f_seed f_q f_nm f_ie f_ev f_dg f_ld:Addr}{fd fd_seed fd_q fd_nm fd_ie fd_ev fd_dg fd_ld:FuncData}
theorem ZaK:FnScope ["script","cell","seed","asked","names","even","found"] ["script"] (defScope (top 42)):=⟨rfl,rfl,rfl,by decide +kernel,rfl,by decide +kernel,by decide +kernel⟩
def spLaw (K:PySem.W.Frag) (T0:Addr):Sp:=fun vs H Q _=>∃ (a:Addr) (ns:List Int),vs=[.ref a]/\SqL K H a (ns.map V.int)/\ns.length<=63/\LamT H T0 nPos dN/\∀ H',Q (.bl true) H'
theorem ok_law (T:Tx mg) (D:Df K mg "law" (top 42) f fd ["script"])
  (ZaN:Df K mg "_law_seed" (top 15) f_seed fd_seed ["cell"]) (ZbO:FnOk P w K mg base CX0 1 f_seed fd_seed ["cell"] spSeed)
  (ZaO:Df K mg "_law_question" (top 38) f_q fd_q ["seed"]) (ZbP:FnOk P w K mg base CX0 59 f_q fd_q ["seed"] spQuestion)
  (ZaP:Df K mg "_law_names" (top 37) f_nm fd_nm ["seed","mark"]) (ZbQ:FnOk P w K mg base CX0 2 f_nm fd_nm ["seed","mark"] spNames)
  (ZaQ:Df K mg "is_even" (top 11) f_ie fd_ie ["question"]) (ZbR:FnOk P w K mg base CX0 4 f_ie fd_ie ["question"] spIsEven)
  (Zao:Df K mg "_law_even" (top 40) f_ev fd_ev ["asked"]) (Zba:FnOk P w K mg base CX0 199 f_ev fd_ev ["asked"] (spEven 99))
  (ZaR:Df K mg "degree" (top 12) f_dg fd_dg ["question","names"]) (ZbS:FnOk P w K mg base CX0 5 f_dg fd_dg ["question","names"] (spDegree T0))
  (Zae:Df K mg "_law_degree" (top 41) f_ld fd_ld ["asked","names"]) (Zaz:FnOk P w K mg base CX0 20 f_ld fd_ld ["asked","names"] (spDeg 20)) :
  FnOk P w K mg base CX0 200 f fd ["script"] (spLaw K T0):=by
 refine D.fn.okH (k:=199) ZaK (fun vs H Q E h=>?_) (fun cdv A outer s H vs Q E hr h=>?_)
 ·obtain⟨a,ns,rfl,_⟩:=h;rfl
 obtain⟨a,ns,rfl,hS,h63,lt,fin⟩:=h
 have hu:=u110 hr
 have hu0:=u0 hr
 have hu1:=hu_of hr
 refine⟨_,(wss_cons (ws_for PassesOwn.never rfl (wi_U (we_op op_plus (we_slice sl_U (wv 0) wo_none (wo_some we_int)) (we_lst (wa_cons (we_callB call_lenU rfl T.z_len bt_len (wa_cons (wv 0) wa_nil)) wa_nil)))) (wg_name (i:=1) ZaK.nd rfl (Or.inl rfl)) (wss_cons (ws_set (i:=2) ZaK.nd rfl (Or.inl rfl) (we_call ZbO (hr.mono (by lia)) rfl ZaN.mg ZaN.kp ZaN.b .nil pass0 (wa_cons (wv 1) wa_nil)))
   (wss_cons (ws_set (i:=3) ZaK.nd rfl (Or.inl rfl) (we_call ZbP (hr.mono (by lia)) rfl ZaO.mg ZaO.kp ZaO.b .nil pass0 (wa_cons (wv 2) wa_nil)))
   (wss_cons (ws_set (i:=4) ZaK.nd rfl (Or.inl rfl) (we_callB (call_sortD rfl) rfl T.z_sorted bt_sorted (wa_cons (we_call ZbQ (hr.mono (by lia)) rfl ZaP.mg ZaP.kp ZaP.b .nil pass0 (wa_cons (wv 2) (wa_cons we_str wa_nil))) wa_nil)))
   (wss_cons (ws_set (i:=5) ZaK.nd rfl (Or.inl rfl) (we_call ZbR (hr.mono (by lia)) rfl ZaQ.mg ZaQ.kp ZaQ.b .nil pass0 (wa_cons (wv 3) wa_nil)))
   (wss_cons (ws_if (wt_pw (ww_or (wt_not (wt_val (we_callB call_isiX rfl T.z_isinstance bt_isinstance (wa_cons (wv 5) (wa_cons (we_bltn rfl T.z_bool bt_bool (relv_ty _)) wa_nil))))) (ww_or1 (wt_cmpR (op_neU hu) (wv 5) (we_call Zba (hr.mono (by lia)) rfl Zao.mg Zao.kp Zao.b .nil pass0 (wa_cons (wv 3) wa_nil)) (nomark _))))) (wss_one (ws_ret we_bl)) wss_nil)
   (wss_one (ws_if (wt_truth (wv 5) (fun _=>rfl)) (wss_cons (ws_set (i:=6) ZaK.nd rfl (Or.inl rfl) (we_call ZbS (hr.mono (by lia)) rfl ZaR.mg ZaR.kp ZaR.b .nil pass0 (wa_cons (wv 3) (wa_cons (wv 4) wa_nil))))
   (wss_one (ws_if (wt_pw (ww_or (wt_not (wt_val (we_callB call_isiX rfl T.z_isinstance bt_isinstance (wa_cons (wv 6) (wa_cons (we_bltn rfl T.z_int bt_int (relv_ty _)) wa_nil))))) (ww_or (wt_val (we_callB call_isiX rfl T.z_isinstance bt_isinstance (wa_cons (wv 6) (wa_cons (we_bltn rfl T.z_bool bt_bool (relv_ty _)) wa_nil)))) (ww_or1 (wt_cmpR (op_neU hu) (wv 6) (we_call Zaz (hr.mono (by lia)) rfl Zae.mg Zae.kp Zae.b .nil pass0 (wa_cons (wv 3) (wa_cons (wv 4) wa_nil))) (nomark _)))))) (wss_one (ws_ret we_bl)) wss_nil))) wss_nil))))))))
   (wss_one (ws_ret we_bl))),?_⟩
 refine seqH fun N0 to0=>?_
 refine .inl ⟨_,rfl,_,rfl,.inl ⟨a,_,rfl,hS,fun p1 hp1=>?_⟩⟩
 have s1:=same_new hp1 (.lst (cutV (ns.map V.int) none (some 16)))
 have l1:(upd H p1 (.lst (cutV (ns.map V.int) none (some 16)))) p1=some (.lst (cutV (ns.map V.int) none (some 16))):=upd_same
 generalize upd H p1 (.lst (cutV (ns.map V.int) none (some 16)))=H1 at s1 l1 ⊢
 refine⟨_,rfl,.inl ⟨a,_,rfl,.inl (sq_same s1 hS),(by show 1<=sizeLine;decide),fun p2 hp2=>.inr (.inr (.inl ⟨p1,p2,_,_,rfl,rfl,same_new hp2 _ _ _ l1,upd_same,?_,fun p3 hp3=>?_⟩))⟩⟩
 ·have:=cutV_length (ns.map V.int) none (some 16)
  rw[List.length_map]at this
  exact Nat.le_of_lt (line1 (show _+1<=_ by lia))
 have s2:=s1.trans ((same_new hp2 (.lst [V.int (ns.map V.int).length])).trans (same_new hp3 (.lst (cutV (ns.map V.int) none (some 16)++[V.int (ns.map V.int).length]))))
 have l3:(upd (upd H1 p2 (.lst [V.int (ns.map V.int).length])) p3 (.lst (cutV (ns.map V.int) none (some 16)++[V.int (ns.map V.int).length]))) p3=some (.lst (cutV (ns.map V.int) none (some 16)++[V.int (ns.map V.int).length])):=upd_same
 generalize upd (upd H1 p2 (.lst [V.int (ns.map V.int).length])) p3 (.lst (cutV (ns.map V.int) none (some 16)++[V.int (ns.map V.int).length]))=H3 at s2 l3 ⊢
 have lt3:=lt_same lt fun b o _ e=>s2 b o e
 have hin:∀ x∈cutV (ns.map V.int) none (some 16)++[V.int (ns.map V.int).length],∃ i:Int,x=.int i:=cut_ints
 generalize cutV (ns.map V.int) none (some 16)++[V.int (ns.map V.int).length]=xs at l3 hin ⊢
 have nT3:p3≠T0:=fun z=>by
  rcases lt3 with h | ⟨c,h,_⟩ <;> rw[<- z,l3]at h <;> cases h
 refine for_list (b:=p3) (xs:=xs) (fun i σ H'=>∃ (o1 o2 o3 o4 o5 o6:Option V),σ=[some (.ref a),o1,o2,o3,o4,o5,o6]/\H' p3=some (.lst xs)/\LamT H' T0 nPos dN) ⟨none,none,none,none,none,none,rfl,l3,lt3⟩ ?stay ?turn ?done
 case stay=>rintro i σ H' ⟨o1,o2,o3,o4,o5,o6,rfl,h,_⟩;exact h
 case done=>rintro σ H' ⟨o1,o2,o3,o4,o5,o6,rfl,h,_⟩;exact to0 _ _ (fin _)
 case turn=>
  rintro E2 i hi σ H' ⟨o1,o2,o3,o4,o5,o6,rfl,hl,lt'⟩ nx rt
  obtain⟨z,ez⟩:=hin _ (List.getElem_mem hi)
  rw[ez]
  dsimp only[gName,List.set]
  refine seqH fun N1 to1=>⟨_,rfl,z,rfl,fun p H4 s4 hp4 sd4=>to1 _ _ ?_⟩
  dsimp only[gName,List.set]
  refine seqH fun N2 to2=>⟨_,rfl,p,rfl,sd4,fun q u H5 ex5 sd5 iq qg n5=>to2 _ _ ?_⟩
  have hl4:=s4 _ _ hl
  have np:p3≠p:=fun z=>by rw[z,hp4]at hl;cases hl
  have hl5:=ex5 _ _ np hl4
  have lt4:=lt_same lt' fun b o _ e=>s4 b o e
  have lt5:=lt_same lt4 fun b o n e=>ex5 b o (sd4.ne e n) e
  dsimp only[gName,List.set]
  refine seqH fun N3 to3=>⟨_,rfl,p,Str.ofString "d",rfl,by decide +kernel,sd5,fun a6 kvs H6 ex6 sd6 ha6 hk6 hks lk6=>?_⟩
  refine⟨a6,kvs,rfl,hk6,hks,by lia,fun l7 ys hl7 pm srt=>to3 _ _ ?_⟩
  have hl6:=ex6 _ _ np hl5
  have lt6:=lt_same lt5 fun b o n e=>ex6 b o (sd5.ne e n) e
  have iq6:IsDt H6 (tdat q) u:=IsDt.mono (fun b xs e=>ex6 b _ (sd5.ne e fun _ z=>by cases z) e) iq
  have s7:=same_new hl7 (.lst (ys.map V.str))
  have n7:(upd H6 l7 (.lst (ys.map V.str))) l7=some (.lst (ys.map V.str)):=upd_same
  generalize upd H6 l7 (.lst (ys.map V.str))=H7 at s7 n7 ⊢
  dsimp only[gName,List.set]
  refine seqH fun N4 to4=>⟨_,rfl,u,q,18,rfl,IsDt.mono s7.tups iq6,qg,by decide,Nat.le_trans n5 (by decide),fun bv H8 s8 hbv=>to4 _ _ ?_⟩
  have s78:=s7.trans s8
  have iq8:=IsDt.mono s78.tups iq6
  have hl8:=s78 _ _ hl6
  have lt8:=lt_same lt6 fun b o _ e=>s78 b o e
  have n8:=s8 _ _ n7
  have dq:=dep_q qg
  have ev:evenD (tdat q)=bv:=by
   have:=(even_iff qg).trans hbv.symm
   cases bv <;> cases h:evenD (tdat q) <;> simp_all
  dsimp only[gName,List.set]
  refine seqH fun N5 to5=>?_
  refine⟨_,rfl,.inl (.inl ⟨.bl bv,"bool",true,rfl,.inr ⟨rfl,⟨bv,rfl⟩,rfl⟩,_,rfl,?_⟩)⟩
  refine iteF ?_
  refine⟨_,rfl,_,rfl,u,tdat q,rfl,iq8,qg.nrw,by lia,by decide,fun H9 s9=>.inl ⟨rfl,_,rfl,?_⟩⟩
  rw[ev]
  refine iteN (by simp) ?_
  dsimp only[tNext]
  refine to5 _ _ ?_
  have iq9:=IsDt.mono s9.tups iq8
  have hl9:=s9 _ _ hl8
  have lt9:=lt_same lt8 fun b o _ e=>s9 b o e
  have n9:=s9 _ _ n8
  refine⟨_,rfl,_,rfl,?_⟩
  cases bv with
  | false=>
   refine iteF ?_
   dsimp only[tNext]
   exact nx _ _ ⟨_,_,_,_,_,_,rfl,hl9,lt9⟩
  | true=>
   refine iteT ?_
   refine seqH fun N6 to6=>⟨_,rfl,_,rfl,u,l7,ys,q,18,rfl,iq9,qg,Nat.le_trans n5 (by decide),n9,lt9,fun H10 ex10 lt10=>to6 _ _ ?_⟩
   have tb9:∀ {b:Addr}{o:HO},H9 b=some o->(∀ z,o≠.tbl z)->b≠T0:=fun {b o} e n z=>by
    rcases lt9 with h | ⟨c,h,_⟩ <;> rw[z,h]at e <;> cases e <;> exact n _ rfl
   have hl10:=ex10 _ _ (tb9 hl9 fun _ z=>by cases z) hl9
   have n10:=ex10 _ _ (tb9 n9 fun _ z=>by cases z) n9
   have iq10:IsDt H10 (tdat q) u:=IsDt.mono (fun b xs e=>ex10 b _ (tb9 e fun _ z=>by cases z) e) iq9
   dsimp only[gName,List.set]
   refine⟨_,rfl,.inl (.inr ⟨.int _,"int",true,rfl,.inl ⟨rfl,⟨_,rfl⟩,rfl⟩,_,rfl,iteF ?_⟩)⟩
   refine⟨_,rfl,.inl (.inr ⟨.int _,"bool",false,rfl,.inr (.inl ⟨rfl,⟨_,rfl⟩,rfl⟩),_,rfl,iteF ?_⟩)⟩
   refine⟨_,rfl,_,rfl,_,rfl,u,l7,ys,q,18,rfl,iq10,qg,by decide,n10,fun H11 s11=>.inl ⟨rfl,_,rfl,iteN (by simp) ?_⟩⟩
   dsimp only[tNext]
   exact nx _ _ ⟨_,_,_,_,_,_,rfl,s11 _ _ hl10,lt_same lt10 fun b o _ e=>s11 b o e⟩
end
end K30
end
section
namespace K30
open PySem L2 Kn
/-- a def that stands at the program's top -/
def DefAt (K:PySem.W.Frag) (x:Str) (st:Stmt):Prop:=∃ (f:Addr) (fd:FuncData),PySem.W.nsIn K mainGlobals x=some (some (.ref f))/\Fun K x x st f fd
theorem len_0 {us:List Value} (h:us.length=0):us=[]:=List.length_eq_zero_iff.mp h
theorem len_1 {us:List Value} (h:us.length=1):∃ a,us=[a]:=List.length_eq_one_iff.mp h
theorem len_2 {us:List Value} (h:us.length=2):∃ a b,us=[a,b]:=by
 cases us with
 | nil=>cases h
 | cons a t=>
  obtain⟨b,rfl⟩:=len_1 (us:=t) (by simpa using h)
  exact⟨a,b,rfl⟩
theorem len_3 {us:List Value} (h:us.length=3):∃ a b c,us=[a,b,c]:=by
 cases us with
 | nil=>cases h
 | cons a t=>
  obtain⟨b,c,rfl⟩:=len_2 (us:=t) (by simpa using h)
  exact⟨a,b,c,rfl⟩
theorem len_4 {us:List Value} (h:us.length=4):∃ a b c d,us=[a,b,c,d]:=by
 cases us with
 | nil=>cases h
 | cons a t=>
  obtain⟨b,c,d,rfl⟩:=len_3 (us:=t) (by simpa using h)
  exact⟨a,b,c,d,rfl⟩
theorem len_5 {us:List Value} (h:us.length=5):∃ a b c d e,us=[a,b,c,d,e]:=by
 cases us with
 | nil=>cases h
 | cons a t=>
  obtain⟨b,c,d,e,rfl⟩:=len_4 (us:=t) (by simpa using h)
  exact⟨a,b,c,d,e,rfl⟩
theorem defAt_mk {K:PySem.W.Frag}{x:Str}{st:Stmt}{f:Addr}{oc:Value}{od an:Option Addr}{osl:Array (Option Value)}{kV doc pm cdv ct:Value} (a:PySem.W.nsIn K mainGlobals x=some (some (.ref f)))
  (l:K.lookup f=some ⟨oc,od,.func (PySem.W.fnOf x x (defArgs st) (defBody st) (defScope st) .none kV doc pm an cdv ct),osl⟩) (c:PySem.W.codeIn K cdv x=true) (k:PySem.W.keepIn K (.ref f)=true):DefAt K x st:=⟨f,_,a,fun_mk l c k⟩
/-- a def that makes a function: its code,and the code's table at T0 -/
def MkAt (K:PySem.W.Frag) (x:Str) (st:Stmt) (T0:Addr):Prop:=∃ (f c:Addr) (fd:FuncData),PySem.W.nsIn K mainGlobals x=some (some (.ref f))/\Fun K x x st f fd/\fd.code=.ref c/\PySem.W.codeHdIn K c T0=true
theorem mkAt_mk {K:PySem.W.Frag}{x:Str}{st:Stmt}{f c T0:Addr}{oc:Value}{od an:Option Addr}{osl:Array (Option Value)}{kV doc pm ct:Value} (a:PySem.W.nsIn K mainGlobals x=some (some (.ref f)))
  (l:K.lookup f=some ⟨oc,od,.func (PySem.W.fnOf x x (defArgs st) (defBody st) (defScope st) .none kV doc pm an (.ref c) ct),osl⟩) (cd:PySem.W.codeIn K (.ref c) x=true) (k:PySem.W.keepIn K (.ref f)=true) (hd:PySem.W.codeHdIn K c T0=true):MkAt K x st T0:=⟨f,c,_,a,fun_mk l cd k,rfl,hd⟩
/-- the module of the built-in names -/
def BltAt (K:PySem.W.Frag) (T0:Addr):Prop:=∃ (bm:Addr) (ob:Obj),PySem.W.nsIn K mainGlobals "__builtins__"=some (some (.ref bm))/\K.lookup bm=some ob/\bm≠builtinsNs/\bm≠mainGlobals/\bm≠T0/\ob.cls=.type "module"/\ob.dict=some builtinsNs/\ob.data=.plain
theorem blt_mk {K:PySem.W.Frag}{T0 bm:Addr}{ob:Obj} (a:PySem.W.nsIn K mainGlobals "__builtins__"=some (some (.ref bm))) (l:K.lookup bm=some ob) (h1:bm≠builtinsNs) (h2:bm≠mainGlobals) (h3:bm≠T0) (h4:ob.cls=.type "module") (h5:ob.dict=some builtinsNs) (h6:ob.data=.plain):BltAt K T0:=⟨bm,ob,a,l,h1,h2,h3,h4,h5,h6⟩
/-- a method of a class -/
def MethAt (K:PySem.W.Frag) (C:Addr) (m qual:Str) (st:Stmt):Prop:=∃ (f:Addr) (fd:FuncData),Fun K m qual st f fd/\Meth K C m f
theorem methAt_mk {K:PySem.W.Frag}{C:Addr}{m qual:Str}{st:Stmt}{f:Addr}{oc:Value}{od an:Option Addr}{osl:Array (Option Value)}{kV doc pm cdv ct:Value} (a:PySem.W.findIn K (.ref C) m=some (some (.ref f)))
  (l:K.lookup f=some ⟨oc,od,.func (PySem.W.fnOf m qual (defArgs st) (defBody st) (defScope st) .none kV doc pm an cdv ct),osl⟩) (c:PySem.W.codeIn K cdv qual=true) (k:PySem.W.keepIn K (.ref f)=true) (n:PySem.W.isFn K (.ref f)=true):MethAt K C m qual st:=⟨f,_,fun_mk l c k,a,n,k⟩
/-- the class Walk -/
def WalkAt (K:PySem.W.Frag):Prop:=∃ C:Addr,PySem.W.nsIn K mainGlobals "Walk"=some (some (.ref C))/\Cls K C/\NA K C/\PySem.W.makesIn K C=true/\PySem.W.keepIn K (.ref C)=true /\
 MethAt K C "__init__" "Walk.__init__" (mtop 6 0)/\MethAt K C "later" "Walk.later" (mtop 6 1)/\MethAt K C "tell" "Walk.tell" (mtop 6 2)/\MethAt K C "take" "Walk.take" (mtop 6 3)/\MethAt K C "run" "Walk.run" (mtop 6 4)
theorem walk_mk {K:PySem.W.Frag}{C:Addr} (a:PySem.W.nsIn K mainGlobals "Walk"=some (some (.ref C))) (c1:PySem.W.plainGet K C Str.empty=true) (c2:PySem.W.hasDictIn K C=true) (c3:PySem.W.plainOver K C=true) (c4:PySem.W.findIn K (.ref C) "__setattr__"=some (some (.builtin "object.__setattr__")))
  (n1:PySem.W.findIn K (.ref C) "waiting"=some none) (n2:PySem.W.findIn K (.ref C) "found"=some none) (mk:PySem.W.makesIn K C=true) (kp:PySem.W.keepIn K (.ref C)=true)
  (m1:MethAt K C "__init__" "Walk.__init__" (mtop 6 0)) (m2:MethAt K C "later" "Walk.later" (mtop 6 1)) (m3:MethAt K C "tell" "Walk.tell" (mtop 6 2)) (m4:MethAt K C "take" "Walk.take" (mtop 6 3)) (m5:MethAt K C "run" "Walk.run" (mtop 6 4)):WalkAt K:=
 ⟨C,a,⟨c1,c2,c3,c4⟩,⟨n1,n2⟩,mk,kp,m1,m2,m3,m4,m5⟩
/-- the words with something more than parts -/
def HaveAt (K:PySem.W.Frag):Prop:=∃ a:Addr,PySem.W.nsIn K mainGlobals "HAVE_MORE"=some (some (.ref a))/\∀ H,SqT K H a (HM.map V.str)
theorem have_mk {K:PySem.W.Frag}{a:Addr}{od:Option Addr}{its:Array Value}{n:Nat}{osl:Array (Option Value)} (h:PySem.W.nsIn K mainGlobals "HAVE_MORE"=some (some (.ref a))) (l:K.lookup a=some ⟨.type "tuple",od,.seq its n,osl⟩) (z:its.size<=sizeLine) (v:Vals (HM.map V.str) its.toList):HaveAt K:=
 ⟨a,h,fun H=>.inr ⟨_,its,n,l,rfl,rfl,z,v⟩⟩
theorem DefAt.df {K:PySem.W.Frag}{h:Heap}{mg:Str->Option Value}{x:Str}{st:Stmt} (d:DefAt K x st) (X:K.In h) (G:h.Ns mainGlobals mg) (ps:List Str) (b:∀ (kV doc pm:Value) (an:Option Addr) (cdv ct:Value) (us:List Value),us.length=ps.length->bindArgs (PySem.W.fnOf x x (defArgs st) (defBody st) (defScope st) .none kV doc pm an cdv ct) ⟨us,[]⟩=pure (ps.zip us)) :
  ∃ (f:Addr) (fd:FuncData),PySem.W.nsIn K mainGlobals x=some (some (.ref f))/\Df K mg x st f fd ps:=by
 obtain⟨f,fd,a,F⟩:=d
 exact⟨f,fd,a,F,F.binds b,PySem.W.mg_of X G a⟩
theorem all_mk {l:PySem.W.OpenLaw}{w:World}{K:PySem.W.Frag}{h:Heap}{mg:Str->Option Value}{fa T0:Addr} (X:K.In h) (G:h.Ns mainGlobals mg) (hfa:mg "law"=some (.ref fa)) (gT:mainGlobals≠T0)
  (ZbT:DefAt K "under" (top 2)) (ZbU:DefAt K "knots" (top 3)) (ZbV:DefAt K "tables" (top 4)) (ZbW:DefAt K "folded" (top 7)) (ZbX:DefAt K "unfold" (top 8)) (ZbY:DefAt K "fold" (top 9)) (ZbZ:DefAt K "is_even" (top 11)) (Zb0:DefAt K "_law_seed" (top 15)) (Zb1:DefAt K "_law_draw" (top 16)) (Zb2:DefAt K "_law_key" (top 17)) (Zb3:DefAt K "_law_bag" (top 18)) (Zb4:DefAt K "_law_value" (top 23)) (Zb5:DefAt K "_law_kinds" (top 24)) (Zb6:DefAt K "_law_seen" (top 26)) (Zb7:DefAt K "_law_held" (top 27)) (Zb8:DefAt K "_law_small" (top 28)) (Zb9:DefAt K "_law_claim" (top 29)) (Zca:DefAt K "_law_over" (top 30)) (Zcb:DefAt K "_law_taken" (top 31)) (Zcc:DefAt K "_law_asked" (top 32)) (Zcd:DefAt K "_law_names" (top 37)) (Zce:DefAt K "_law_question" (top 38)) (Zcf:DefAt K "_law_has" (top 39)) (Zcg:DefAt K "_law_even" (top 40)) (Zch:DefAt K "_law_degree" (top 41)) (Zci:DefAt K "law" (top 42))
  (hI:MkAt K "degree" (top 12) T0) (hB:BltAt K T0) (hW:WalkAt K) (hH:HaveAt K)
  (z1:PySem.W.nsIn K mainGlobals "len"=some none) (z2:PySem.W.nsIn K mainGlobals "int"=some none) (z3:PySem.W.nsIn K mainGlobals "tuple"=some none) (z4:PySem.W.nsIn K mainGlobals "range"=some none) (z5:PySem.W.nsIn K mainGlobals "isinstance"=some none) (z6:PySem.W.nsIn K mainGlobals "sorted"=some none) (z7:PySem.W.nsIn K mainGlobals "dict"=some none) (z8:PySem.W.nsIn K mainGlobals "max"=some none) (z9:PySem.W.nsIn K mainGlobals "any"=some none) (z10:PySem.W.nsIn K mainGlobals "sum"=some none) (z11:PySem.W.nsIn K mainGlobals "set"=some none) (z12:PySem.W.nsIn K mainGlobals "reversed"=some none) (z13:PySem.W.nsIn K mainGlobals "bool"=some none) :
  ∃ fd:FuncData,(∀ (s:Shared) (v:Value),BindsTo s fd ⟨[v],[]⟩ [("script",v)])/\∀ base:Heap,K.In base->base.Ns mainGlobals mg->FnOk l.prog w K mg base CX0 200 fa fd ["script"] (spLaw K T0):=by
 have T:Tx mg:=⟨PySem.W.mg_none_of X G z1,PySem.W.mg_none_of X G z2,PySem.W.mg_none_of X G z3,PySem.W.mg_none_of X G z4,PySem.W.mg_none_of X G z5,PySem.W.mg_none_of X G z6,PySem.W.mg_none_of X G z7,PySem.W.mg_none_of X G z8,PySem.W.mg_none_of X G z9,PySem.W.mg_none_of X G z10,PySem.W.mg_none_of X G z11,PySem.W.mg_none_of X G z12,PySem.W.mg_none_of X G z13⟩
 obtain⟨Zap,Zaq,Zct,Zaf⟩:=ZbT.df X G ["question"] fun _ _ _ _ _ _ us hl=>by obtain⟨_,rfl⟩:=len_1 hl;rfl
 obtain⟨ZaH,ZaI,Zcu,Zar⟩:=ZbU.df X G ["question"] fun _ _ _ _ _ _ us hl=>by obtain⟨_,rfl⟩:=len_1 hl;rfl
 obtain⟨Zbc,Zbd,Zcv,ZaL⟩:=ZbV.df X G ["question"] fun _ _ _ _ _ _ us hl=>by obtain⟨_,rfl⟩:=len_1 hl;rfl
 obtain⟨Zbg,Zbh,Zcw,ZaM⟩:=ZbW.df X G ["question","told_of"] fun _ _ _ _ _ _ us hl=>by obtain⟨_,_,rfl⟩:=len_2 hl;rfl
 obtain⟨Zbi,Zcx,Zcy,Zay⟩:=ZbX.df X G ["walk","question","told_of"] fun _ _ _ _ _ _ us hl=>by obtain⟨_,_,_,rfl⟩:=len_3 hl;rfl
 obtain⟨Zbr,Zcz,ZcA,ZaA⟩:=ZbY.df X G ["walk","question","told_of"] fun _ _ _ _ _ _ us hl=>by obtain⟨_,_,_,rfl⟩:=len_3 hl;rfl
 obtain⟨ZcB,ZcC,ZcD,ZaQ⟩:=ZbZ.df X G ["question"] fun _ _ _ _ _ _ us hl=>by obtain⟨_,rfl⟩:=len_1 hl;rfl
 obtain⟨ZcE,ZcF,ZcG,ZaN⟩:=Zb0.df X G ["cell"] fun _ _ _ _ _ _ us hl=>by obtain⟨_,rfl⟩:=len_1 hl;rfl
 obtain⟨ZcH,ZcI,ZcJ,Zaa⟩:=Zb1.df X G ["seed","most"] fun _ _ _ _ _ _ us hl=>by obtain⟨_,_,rfl⟩:=len_2 hl;rfl
 obtain⟨ZcK,ZcL,ZcM,ZcN⟩:=Zb2.df X G ["value"] fun _ _ _ _ _ _ us hl=>by obtain⟨_,rfl⟩:=len_1 hl;rfl
 obtain⟨ZcO,ZcP,ZcQ,ZaU⟩:=Zb3.df X G ["counts"] fun _ _ _ _ _ _ us hl=>by obtain⟨_,rfl⟩:=len_1 hl;rfl
 obtain⟨ZcR,ZcS,ZcT,Zal⟩:=Zb4.df X G ["kind","seed","deep"] fun _ _ _ _ _ _ us hl=>by obtain⟨_,_,_,rfl⟩:=len_3 hl;rfl
 obtain⟨ZcU,ZcV,ZcW,Zaj⟩:=Zb5.df X G [] fun _ _ _ _ _ _ us hl=>by cases len_0 hl;rfl
 obtain⟨ZcX,ZcY,ZcZ,Zak⟩:=Zb6.df X G ["scope"] fun _ _ _ _ _ _ us hl=>by obtain⟨_,rfl⟩:=len_1 hl;rfl
 obtain⟨Zc0,Zc1,Zc2,Zan⟩:=Zb7.df X G ["kind","scope"] fun _ _ _ _ _ _ us hl=>by obtain⟨_,_,rfl⟩:=len_2 hl;rfl
 obtain⟨Zc3,Zc4,Zc5,Zad⟩:=Zb8.df X G ["kind","scope","fuel","seed"] fun _ _ _ _ _ _ us hl=>by obtain⟨_,_,_,_,rfl⟩:=len_4 hl;rfl
 obtain⟨Zc6,Zc7,Zc8,Zah⟩:=Zb9.df X G ["scope","fuel","seed"] fun _ _ _ _ _ _ us hl=>by obtain⟨_,_,_,rfl⟩:=len_3 hl;rfl
 obtain⟨Zc9,Zda,Zdb,Zax⟩:=Zca.df X G ["scope","fuel","seed"] fun _ _ _ _ _ _ us hl=>by obtain⟨_,_,_,rfl⟩:=len_3 hl;rfl
 obtain⟨Zdc,Zdd,Zde,Zaw⟩:=Zcb.df X G ["kind","scope","fuel","seed"] fun _ _ _ _ _ _ us hl=>by obtain⟨_,_,_,_,rfl⟩:=len_4 hl;rfl
 obtain⟨Zdf,Zdg,Zdh,Zab⟩:=Zcc.df X G ["kind","scope","fuel","seed"] fun _ _ _ _ _ _ us hl=>by obtain⟨_,_,_,_,rfl⟩:=len_4 hl;rfl
 obtain⟨Zdi,Zdj,Zdk,ZaP⟩:=Zcd.df X G ["seed","mark"] fun _ _ _ _ _ _ us hl=>by obtain⟨_,_,rfl⟩:=len_2 hl;rfl
 obtain⟨Zdl,Zdm,Zdn,ZaO⟩:=Zce.df X G ["seed"] fun _ _ _ _ _ _ us hl=>by obtain⟨_,rfl⟩:=len_1 hl;rfl
 obtain⟨Zdo,Zdp,Zdq,Zai⟩:=Zcf.df X G ["asked"] fun _ _ _ _ _ _ us hl=>by obtain⟨_,rfl⟩:=len_1 hl;rfl
 obtain⟨Zdr,Zds,Zdt,Zao⟩:=Zcg.df X G ["asked"] fun _ _ _ _ _ _ us hl=>by obtain⟨_,rfl⟩:=len_1 hl;rfl
 obtain⟨Zdu,Zdv,Zdw,Zae⟩:=Zch.df X G ["asked","names"] fun _ _ _ _ _ _ us hl=>by obtain⟨_,_,rfl⟩:=len_2 hl;rfl
 obtain⟨Zcj,c_degree,Zck,Zcl,Zbs,ec,hcd⟩:=hI
 have ZaR:Df K mg "degree" (top 12) Zcj Zck ["question","names"]:=⟨Zbs,Zbs.binds (ps:=["question","names"]) fun _ _ _ _ _ _ us hl=>by obtain⟨_,_,rfl⟩:=len_2 hl;rfl,PySem.W.mg_of X G Zcl⟩
 obtain⟨bm,ob,b1,b2,b3,b4,b5,b6,b7,b8⟩:=hB
 have LM:LmK K mg c_degree T0:=⟨hcd,⟨bm,ob,PySem.W.mg_of X G b1,b2,b3,b4,b5,b6,b7,b8⟩,gT⟩
 obtain⟨aH,aH1,hHM⟩:=hH
 obtain⟨C,aC,cC,nC,mkC,kpC,⟨f_init,fd_init,F_init,M_init⟩,⟨f_later,fd_later,F_later,M_later⟩,⟨f_tell,fd_tell,F_tell,M_tell⟩,⟨f_take,fd_take,F_take,M_take⟩,⟨f_run,fd_run,F_run,M_run⟩⟩:=hW
 have Za5:Mf K C "__init__" "Walk.__init__" (mtop 6 0) f_init fd_init ["self"]:=⟨F_init,F_init.binds (ps:=["self"]) fun _ _ _ _ _ _ us hl=>by obtain⟨u0,rfl⟩:=len_1 hl;rfl,M_init⟩
 have Zas:Mf K C "later" "Walk.later" (mtop 6 1) f_later fd_later ["self","step","question","around"]:=⟨F_later,F_later.binds (ps:=["self","step","question","around"]) fun _ _ _ _ _ _ us hl=>by obtain⟨u0,u1,u2,u3,rfl⟩:=len_4 hl;rfl,M_later⟩
 have ZaW:Mf K C "tell" "Walk.tell" (mtop 6 2) f_tell fd_tell ["self","result"]:=⟨F_tell,F_tell.binds (ps:=["self","result"]) fun _ _ _ _ _ _ us hl=>by obtain⟨u0,u1,rfl⟩:=len_2 hl;rfl,M_tell⟩
 have ZaX:Mf K C "take" "Walk.take" (mtop 6 3) f_take fd_take ["self","many"]:=⟨F_take,F_take.binds (ps:=["self","many"]) fun _ _ _ _ _ _ us hl=>by obtain⟨u0,u1,rfl⟩:=len_2 hl;rfl,M_take⟩
 have ZaY:Mf K C "run" "Walk.run" (mtop 6 4) f_run fd_run ["self"]:=⟨F_run,F_run.binds (ps:=["self"]) fun _ _ _ _ _ _ us hl=>by obtain⟨u0,rfl⟩:=len_1 hl;rfl,M_run⟩
 obtain⟨Zdx,Zbt,Zcm,Zbj⟩:=Zci
 have e:=hfa.symm.trans (PySem.W.mg_of X G Zcm)
 cases e
 have Zcn:Df K mg "law" (top 42) fa Zbt ["script"]:=⟨Zbj,Zbj.binds (ps:=["script"]) fun _ _ _ _ _ _ us hl=>by obtain⟨_,rfl⟩:=len_1 hl;rfl,hfa⟩
 refine⟨Zbt,?_,fun base _ _=>?_⟩
 ·obtain⟨oc,od,kV,doc,pm,an,cdv,ct,osl,rfl,lk,hcd⟩:=Zbj.ex
  exact fun s v=>.of_eq rfl
 have g_draw:=ok_draw (P:=l.prog) (w:=w) (base:=base) T Zaa
 have g_seed:=ok_seed (P:=l.prog) (w:=w) (base:=base) T ZaN
 have g_kinds:=ok_kinds (P:=l.prog) (w:=w) (base:=base) T Zaj
 have g_seen:=ok_seen (P:=l.prog) (w:=w) (base:=base) T Zak
 have g_held:=ok_held T Zan Zak g_seen
 have g_value:=ok_value T Zal Zaa g_draw ZaU
 have g_all:=gen_all T Zab Zad Zan g_held Zaj g_kinds Zak g_seen Zah Zaw Zax Zal g_value Zaa g_draw 56
 have g_question:=ok_question T ZaO Zab g_all.1 Zaj g_kinds Zaa g_draw
 have g_names:=ok_names T ZaP Zaa g_draw
 have g_has:=has_all (P:=l.prog) (w:=w) (base:=base) T Zai 100
 have g_even:=even_all T Zao Zai g_has 99
 have g_deg:=deg_all (P:=l.prog) (w:=w) (base:=base) T Zae 20
 have Za6:=ok_under (P:=l.prog) (w:=w) (base:=base) T (PySem.W.mg_of X G aH1) hHM Zaf
 have Zbu:=ok_knots T Zar Zaf Za6
 have Zco:=ok_tables T ZaL Zar Zbu
 have g_isEven:=ok_isEven T ZaQ Zaf Za6 Zar Zbu ZaL Zco
 have g_init:=ok_init (P:=l.prog) (w:=w) (base:=base) T cC nC Za5
 have g_later:=ok_later (P:=l.prog) (w:=w) (base:=base) T cC nC Zas
 have g_tell:=ok_tell (P:=l.prog) (w:=w) (base:=base) T cC nC ZaW
 have g_take:=ok_take (P:=l.prog) (w:=w) (base:=base) T cC nC ZaX
 have g_run:∀ ft G0 H0,TOLD l.prog w K mg base 1 ft G0 H0->FnOk l.prog w K mg base CX0 3 _ _ ["self"] (spRun Zbi Zbr ft G0 H0 C):=fun ft G0 H0 told=>by
  have Zcp:=ok_unfold (G:=G0) (H0:=H0) (ft:=ft) T cC Zay ZaA Zaf Za6 Zas g_later
  have Zcq:=ok_fold (fU:=Zbi) (Nat.le_refl 1) T cC ZaA Zaf Za6 ZaW g_tell ZaX g_take told
  refine ok_run (k:=2) Zbi Zbr ft G0 H0 (by decide) T cC nC ZaY fun f sp h=>?_
  obtain⟨i,rfl,rfl⟩:=h
  cases i with
  | true=>exact⟨_,_,Zcp,Zay.kp,Zay.b⟩
  | false=>exact⟨_,_,Zcq,ZaA.kp,ZaA.b⟩
 have Zcr:=ok_folded (k:=1) (by decide) T cC ⟨mkC,M_init.at_,M_init.fn,kpC⟩ (PySem.W.mg_of X G aC) ZaM Zay Za5 g_init Zas g_later ZaY g_run
 have Zcs:=ok_degree (k:=0) (by decide) T LM ZaR ec ZaM Zcr
 exact ok_law T Zcn ZaN g_seed ZaO g_question ZaP g_names ZaQ g_isEven Zao g_even ZaR Zcs Zae g_deg
theorem walk {l:PySem.W.OpenLaw}{q:Program}{loose:List Str}{XP:(Str->Option Value)->Heap->Prop}{YP:World->Heap->Prop}{d:DefRec}{K:Params->PySem.W.Frag}{T0:Addr} (hn:l.most=some 63) (hdf:d.params.defaults=[])
  (hY:∀ (w:World) (h:Heap),YP w h->(K w.params).In h/\∀ P∈[T0],h.get? P=some (PySem.W.tabObj #[]))
  (hKT:∀ (w:World),∀ P∈[T0],(K w.params).lookup P=none/\∃ c,PySem.W.codeHdIn (K w.params) c P=true)
  (F:∀ (w:World) (mg:Str->Option Value) (fa:Addr) (h:Heap),(K w.params).In h->h.Ns mainGlobals mg->mg d.name=some (.ref fa) ->
   ∃ fd:FuncData,(∀ (s:Shared) (u:Value),BindsTo s fd ⟨[u],[]⟩ [("script",u)])/\∀ base:Heap,(K w.params).In base->base.Ns mainGlobals mg->FnOk l.prog w (K w.params) mg base CX0 200 fa fd ["script"] (spLaw (K w.params) T0)) :
  PySem.W.WalkO q loose XP YP l.row.toRowW d [] (fun f vs=>PySem.call f vs):=
 L2.walk_ofT (n:=63) (k:=200) (x:="script") (ts:=[T0]) (CX:=fun _=>CX0) (sp:=fun w=>spLaw (K w.params) T0) hn (by decide) hdf ⟨rfl,by decide,by decide⟩ hY hKT F (fun _ _ a ns hl hO hS=>⟨a,ns,rfl,hS,hl,.inl (hO.1 T0 List.mem_cons_self),fun _=>rfl⟩) fun _ _ _ _ _ z=>z
end K30
open PySem PySem.W PyProof.Rows
set_option maxRecDepth 100000 in
set_option maxHeartbeats 0 in
theorem PySem.Challenge.cw_keptnest_k30_even_and_degree_holds : PySem.Challenge.rw_keptnest_k30_even_and_degree.Holds := by
 w_on
 refine PySem.W.holds_law K30.zS fun said=>?_
 refine PySem.W.holds_open (q:=K30.zV) (loose:=K30.zL) (Xt:=fun s=>PySem.W.xlAt K30.zV [] s && PySem.W.recOk (PySem.W.RowW.records (PySem.W.OpenRow.toRowW PySem.Challenge.rw_keptnest_k30_even_and_degree.row)) s) (XP:=PySem.W.XL K30.zV []) (Yf:=PySem.W.Hook.obs (PySem.W.kmHook K30.zK K30.zA K30.zE K30.zTs)) (Ya:=PySem.W.Hook.val (PySem.W.kmHook K30.zK K30.zA K30.zE K30.zTs)) (YP:=PySem.W.Hook.says (PySem.W.kmHook K30.zK K30.zA K30.zE K30.zTs)) (N:=3150) (Hq.left_two "special-get-raises" K30.zR_false K30.zR_true) (PySem.W.Hook.of _) (PySem.W.Hook.keeps _) (fun s e=>PySem.W.xl_of s (Bool.and_eq_true_iff.mp e).1) PySem.W.XL.keeps (by rfl) (by rfl) (by rfl) (fun s e=>PySem.W.recFacts_of (Bool.and_eq_true_iff.mp e).2) (by rfl) (by first | assumption | decide +kernel) (by decide +kernel) ⟨rfl,rfl,rfl,rfl,rfl,by decide +kernel⟩ ?hw ?hc
 case hw=>w_witness2
 k_fill
 refine K30.walk (l:=PySem.Challenge.rw_keptnest_k30_even_and_degree) (T0:=107) rfl rfl (fun w h Y=>⟨PySem.W.km_in_of Y,PySem.W.km_tabs_of Y⟩) ?KT ?F
 case KT=>
  intro w P hP
  cases List.mem_singleton.mp hP
  exact⟨by kernel_rfl,111,by kernel_rfl⟩
 case F=>
  intro w mg fa h KX G hmg
  refine' K30.all_mk KX G hmg (by decide) ?_ ?_ ?_ ?_ ?_ ?_ ?_ ?_ ?_ ?_ ?_ ?_ ?_ ?_ ?_ ?_ ?_ ?_ ?_ ?_ ?_ ?_ ?_ ?_ ?_ ?_ ?hI ?hB ?hW ?hH ?z1 ?z2 ?z3 ?z4 ?z5 ?z6 ?z7 ?z8 ?z9 ?z10 ?z11 ?z12 ?z13
  iterate 26 (focus (refine' K30.defAt_mk ?_ ?_ ?_ ?_;any_goals k_is))
  case hI=>refine' K30.mkAt_mk ?a ?l ?c ?k ?d;(case a=>k_is);(case l=>k_is);(case c=>k_is);(case k=>k_is);(case d=>kernel_rfl)
  case hB=>refine' K30.blt_mk ?a ?l ?h1 ?h2 ?h3 ?h4 ?h5 ?h6;(case a=>k_is);(case l=>k_is);(case h1=>decide);(case h2=>decide);(case h3=>decide);(case h4=>rfl);(case h5=>rfl);(case h6=>rfl)
  case hW=>
   refine' K30.walk_mk ?a ?c1 ?c2 ?c3 ?c4 ?n1 ?n2 ?mk ?kp ?m1 ?m2 ?m3 ?m4 ?m5
   (case a=>k_is);(case c1=>k_is);(case c2=>k_is);(case c3=>k_is);(case c4=>k_is);(case n1=>k_is);(case n2=>k_is);(case mk=>k_is);(case kp=>k_is)
   case m1=>refine' K30.methAt_mk ?a ?l ?c ?k ?n;(case a=>k_is);(case l=>k_is);(case c=>k_is);(case k=>k_is);(case n=>k_is)
   case m2=>refine' K30.methAt_mk ?a ?l ?c ?k ?n;(case a=>k_is);(case l=>k_is);(case c=>k_is);(case k=>k_is);(case n=>k_is)
   case m3=>refine' K30.methAt_mk ?a ?l ?c ?k ?n;(case a=>k_is);(case l=>k_is);(case c=>k_is);(case k=>k_is);(case n=>k_is)
   case m4=>refine' K30.methAt_mk ?a ?l ?c ?k ?n;(case a=>k_is);(case l=>k_is);(case c=>k_is);(case k=>k_is);(case n=>k_is)
   case m5=>refine' K30.methAt_mk ?a ?l ?c ?k ?n;(case a=>k_is);(case l=>k_is);(case c=>k_is);(case k=>k_is);(case n=>k_is)
  case hH=>
   refine' K30.have_mk ?a ?l ?z ?v
   (case a=>k_is);(case l=>k_is)
   case z=>show 9<=sizeLine;decide
   case v=>exact .cons ⟨_,rfl⟩ (.cons ⟨_,rfl⟩ (.cons ⟨_,rfl⟩ (.cons ⟨_,rfl⟩ (.cons ⟨_,rfl⟩ (.cons ⟨_,rfl⟩ (.cons ⟨_,rfl⟩ (.cons ⟨_,rfl⟩ (.cons ⟨_,rfl⟩ .nil))))))))
  (case z1=>k_is);(case z2=>k_is);(case z3=>k_is);(case z4=>k_is);(case z5=>k_is);(case z6=>k_is);(case z7=>k_is);(case z8=>k_is);(case z9=>k_is);(case z10=>k_is);(case z11=>k_is);(case z12=>k_is);(case z13=>k_is)
#print axioms PySem.Challenge.cw_keptnest_k30_even_and_degree_holds
end
