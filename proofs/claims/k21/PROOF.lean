import PyProof.Rows.All
import Wide.All
import OpenK.AllK
import Wide.FinOn
import PySem.Challenge.RW_keptnest_k21_bags_added
import Lean
import PyProof.EqAt
import PyProof.EqKinds
import PyProof.TupleCall
import PyProof.DictWalks
import PyProof.DictKeyH
import PySem.Str
import PyProof.NeKinds
import KE.KRevSl
import KE.KDictSum
import PyProof.Rows.SortStr
import PyProof.IsiPairs
import PyProof.IsiHeapPairs
import PyProof.ZipIter
import KE.KSortAsk
import KE.KSortTup
import PyProof.EnumFor
import PyProof.EnumMake
import PyProof.StrWalks
import PyProof.Rows.EnumRows
import PyProof.Rows.FStr
import PyProof.Rows.SetFrom
import PyProof.CallStr
import PyProof.FitsBits
import KE.KUnpack
import KE.KTupSum
import KE.KDictOf
import KE.KRevIter
import PyProof.AttrMissHeap
import KE.KItemsList
import KE.KPairComp
import PyProof.Draws
import PyProof.ListRange
import KE.KEqDict
set_option Elab.async false
set_option linter.all false
set_option maxRecDepth 100000
set_option maxHeartbeats 4000000
section
namespace Hq
open PySem PySem.W
def vS (s:PySem.Str) (n:Tok):Value:=.str s n
def vI (i:Int) (n:Tok):Value:=.int i n
def vR (a:Addr):Value:=.ref a
def vN:Value:=.none
def sO (s:String):PySem.Str:=PySem.Str.ofString s
def eN (P:Params) (k:PySem.Str) (n:Tok) (v:Value):DictEntry:=⟨PyData.keyHash P k,.str k n,v⟩
def dA (s:Stmt):Arguments:=match s with
 | .FunctionDef _ a _ _ _ _ _ _ _ _=>a
 | _=>{ posonlyargs:=[],args:=[],vararg:=none,kwonlyargs:=[],kw_defaults:=[],kwarg:=none,defaults:=[] }
def dB (s:Stmt):List Stmt:=match s with
 | .FunctionDef _ _ b _ _ _ _ _ _ _=>b
 | _=>[]
def dS (s:Stmt):Scope:=match s with
 | .FunctionDef _ _ _ _ _ _ sc _ _ _=>sc
 | _=>{ kind:=.function,names:=[],isGenerator:=false,isCoroutine:=false }
def cB (s:Stmt):List Stmt:=match s with
 | .ClassDef _ _ _ b _ _ _ _ _ _ _=>b
 | _=>[]
def fO (nm qual:PySem.Str) (st:Stmt) (m cd:Value):Obj:={ cls:=.type "function",data:=.func (PySem.W.fnOf nm qual (dA st) (dB st) (dS st) .none .none .none m none cd .none) }
def RunTo (p q:Program) (loose:List PySem.Str) (Xt:Shared->Bool) {α:Type} (Yf:Shared->α) (Ya:World->α) (N:Nat) (row:String) (b:Bool):Prop:=
 ∀ w:World,(fencedOpening treeTable p w N).map (fun s₀=>(topFrom treeTable p (w.withFollow row b) N s₀).map fun s=>(openSeen q loose (importedModules p.main.body) Xt true s,Yf s))=some (some (openGood q loose,Ya (w.withFollow row b)))
theorem left_two {p q:Program}{loose:List PySem.Str}{Xt:Shared->Bool} {α:Type} {Yf:Shared->α}{Ya:World->α}{N:Nat} (row:String) (h0:RunTo p q loose Xt Yf Ya N row false) (h1:RunTo p q loose Xt Yf Ya N row true):LeftO p q loose Xt Yf Ya N:=fun w=>by
 obtain⟨s₀,a,b1⟩:=Option.map_eq_some_iff.mp (h0 w)
 obtain⟨s₁,a',b2⟩:=Option.map_eq_some_iff.mp (h1 w)
 rw[a]at a'
 cases a'
 have e:=World.withFollow_self w row
 unfold openEnds
 rw[a]
 cases hb:w.params.followText row <;> rw[hb]at e
 ·rw[e]at b1;exact b1
 ·rw[e]at b2;exact b2
end Hq
end
section
set_option maxHeartbeats 0
namespace K21
open PySem Hq
def zT (i:Nat):Stmt:=PySem.Challenge.pw_keptnest_k21_bags_added.main.body.getD i (.Pass ⟨0,0,0,0⟩)
def zM (i j:Nat):Stmt:=(cB (zT i)).getD j (.Pass ⟨0,0,0,0⟩)
def zK (P:Params):PySem.W.Frag:=(nat_lit 3,{ cls:=PySem.Value.type "dict",data:=PySem.Data.dict #[eN P "__name__" 165 (vS "law_keptnest_k21_bags_added" 558),eN P "__doc__" 166 (vN),eN P "__package__" 167 (vN),eN P "__loader__" 168 (PySem.Value.builtin "__main__.__loader__#opaque"),eN P "__spec__" 169 (vN),eN P "__annotations__" 170 (vR 6),eN P "__builtins__" 171 (vR 4),eN P "__file__" 173 (vS "/claim/cut.py" 172),eN P "__cached__" 174 (vN),eN P "RANKS" 201 (vR 15),eN P "ENDS" 203 (vI 0 202),eN P "GOES_ON_values" 205 (vI 1 204),eN P "unfolded" 216 (vR 22),eN P "order_parts" 225 (vR 29),eN P "order_key" 232 (vR 36),eN P "bag_of" 238 (vR 41),eN P "added" 246 (vR 48),eN P "times" 252 (vR 53),eN P "HAVE_MORE" 264 (vR 54),eN P "under" 270 (vR 59),eN P "Walk" 335 (vR 102),eN P "bound" 345 (vR 113),eN P "EMPTY" 349 (vR 115),eN P "answer" 359 (vR 122),eN P "begin" 371 (vR 129),eN P "go_through" 385 (vR 136),eN P "gather" 391 (vR 141),eN P "let_in" 403 (vR 148),eN P "choose" 412 (vR 155),eN P "GOES_ON_answers" 419 (vR 156),eN P "finish" 428 (vR 163),eN P "row_answer" 434 (vR 168),eN P "at_answer" 442 (vR 175),eN P "add_answer" 450 (vR 182),eN P "mul_answer" 458 (vR 189),eN P "none_answer" 466 (vR 196),eN P "one_answer" 474 (vR 203),eN P "both_answer" 482 (vR 210),eN P "times_answer" 490 (vR 217),eN P "same_answer" 498 (vR 224),eN P "under_answer" 506 (vR 231),eN P "and_answer" 514 (vR 238),eN P "or_answer" 522 (vR 245),eN P "not_answer" 530 (vR 252),eN P "FINISHED" 557 (vR 253),eN P "_law_decks" 571 (vR 260),eN P "_law_draw" 582 (vR 267),eN P "_law_kind" 592 (vR 274),eN P "_law_stock" 603 (vR 281),eN P "_law_key" 609 (vR 286),eN P "_law_sorted" 615 (vR 291),eN P "_law_number" 624 (vR 298),eN P "_law_value" 630 (vR 303),eN P "_law_store" 636 (vR 308),eN P "_law_plain" 647 (vR 315),eN P "_law_put" 660 (vR 322),eN P "_law_many" 670 (vR 329),eN P "law" 676 (vR 334)] 58 }) ::
 (nat_lit 15,{ cls:=PySem.Value.type "dict",data:=PySem.Data.dict #[eN P "num" 189 (vI 0 190),eN P "word" 191 (vI 1 192),eN P "row" 193 (vI 2 194),eN P "bag" 195 (vI 3 196)] 4 }) ::
 (nat_lit 21,{ cls:=PySem.Value.type "code",data:=PySem.Data.fields #[vS "unfolded" 206,vS "unfolded" 207,vS "/claim/cut.py" 208,vI 5 0,vI 2 0,vI 0 0,vI 0 0,vI 3 0,vR 16,PySem.Value.bool Bool.true,vI 181 0,vR 17,vN,vR 18,vR 19,vR 20,vI 214 0,vI 5 0,vS "/claim/cut.py" 215] }) ::
 (nat_lit 22,fO "unfolded" "unfolded" (zT 4) (vS "keptnest.data.values" 187) (vR 21)) ::
 (nat_lit 28,{ cls:=PySem.Value.type "code",data:=PySem.Data.fields #[vS "order_parts" 217,vS "order_parts" 218,vS "/claim/cut.py" 219,vI 15 0,vI 1 0,vI 0 0,vI 0 0,vI 3 0,vR 23,PySem.Value.bool Bool.true,vI 181 0,vR 24,vN,vR 25,vR 26,vR 27,vI 223 0,vI 15 0,vS "/claim/cut.py" 224] }) ::
 (nat_lit 29,fO "order_parts" "order_parts" (zT 5) (vS "keptnest.data.values" 187) (vR 28)) ::
 (nat_lit 35,{ cls:=PySem.Value.type "code",data:=PySem.Data.fields #[vS "order_key" 226,vS "order_key" 227,vS "/claim/cut.py" 228,vI 22 0,vI 1 0,vI 0 0,vI 0 0,vI 3 0,vR 30,PySem.Value.bool Bool.true,vI 181 0,vR 31,vN,vR 32,vR 33,vR 34,vI 230 0,vI 22 0,vS "/claim/cut.py" 231] }) ::
 (nat_lit 36,fO "order_key" "order_key" (zT 6) (vS "keptnest.data.values" 187) (vR 35)) ::
 (nat_lit 40,{ cls:=PySem.Value.type "code",data:=PySem.Data.fields #[vS "bag_of" 233,vS "bag_of" 234,vS "/claim/cut.py" 235,vI 24 0,vI 1 0,vI 0 0,vI 0 0,vI 3 0,vR 37,PySem.Value.bool Bool.true,vI 181 0,vR 38,vN,vN,vN,vR 39,vI 236 0,vI 24 0,vS "/claim/cut.py" 237] }) ::
 (nat_lit 41,fO "bag_of" "bag_of" (zT 7) (vS "keptnest.data.values" 187) (vR 40)) ::
 (nat_lit 47,{ cls:=PySem.Value.type "code",data:=PySem.Data.fields #[vS "added" 239,vS "added" 240,vS "/claim/cut.py" 241,vI 32 0,vI 2 0,vI 0 0,vI 0 0,vI 3 0,vR 42,PySem.Value.bool Bool.true,vI 181 0,vR 43,vN,vR 44,vR 45,vR 46,vI 244 0,vI 32 0,vS "/claim/cut.py" 245] }) ::
 (nat_lit 48,fO "added" "added" (zT 8) (vS "keptnest.data.values" 187) (vR 47)) ::
 (nat_lit 52,{ cls:=PySem.Value.type "code",data:=PySem.Data.fields #[vS "times" 247,vS "times" 248,vS "/claim/cut.py" 249,vI 34 0,vI 2 0,vI 0 0,vI 0 0,vI 3 0,vR 49,PySem.Value.bool Bool.true,vI 181 0,vR 50,vN,vN,vN,vR 51,vI 250 0,vI 34 0,vS "/claim/cut.py" 251] }) ::
 (nat_lit 53,fO "times" "times" (zT 9) (vS "keptnest.data.values" 187) (vR 52)) ::
 (nat_lit 54,{ cls:=PySem.Value.type "tuple",data:=PySem.Data.seq #[vS "num" 255,vS "word" 256,vS "var" 257,vS "table" 258,vS "none" 259,vS "at" 260,vS "times" 261,vS "for" 262,vS "let" 263] }) ::
 (nat_lit 58,{ cls:=PySem.Value.type "code",data:=PySem.Data.fields #[vS "under" 265,vS "under" 266,vS "/claim/cut.py" 267,vI 40 0,vI 1 0,vI 0 0,vI 0 0,vI 3 0,vR 55,PySem.Value.bool Bool.true,vI 181 0,vR 56,vN,vN,vN,vR 57,vI 268 0,vI 40 0,vS "/claim/cut.py" 269] }) ::
 (nat_lit 59,fO "under" "under" (zT 12) (vS "keptnest.asks.questions" 253) (vR 58)) ::
 (nat_lit 72,{ cls:=PySem.Value.type "code",data:=PySem.Data.fields #[vS "__init__" 285,vS "Walk.__init__" 286,vS "/claim/cut.py" 287,vI 47 0,vI 1 0,vI 0 0,vI 0 0,vI 3 0,vR 67,PySem.Value.bool Bool.true,vI 181 0,vR 68,vN,vR 69,vR 70,vR 71,vI 289 0,vI 47 0,vS "/claim/cut.py" 290] }) ::
 (nat_lit 73,fO "__init__" "Walk.__init__" (zM 14 0) (vS "keptnest.asks.walks" 271) (vR 72)) ::
 (nat_lit 79,{ cls:=PySem.Value.type "code",data:=PySem.Data.fields #[vS "later" 292,vS "Walk.later" 293,vS "/claim/cut.py" 294,vI 51 0,vI 4 0,vI 0 0,vI 0 0,vI 3 0,vR 74,PySem.Value.bool Bool.true,vI 181 0,vR 75,vN,vR 76,vR 77,vR 78,vI 299 0,vI 51 0,vS "/claim/cut.py" 300] }) ::
 (nat_lit 80,fO "later" "Walk.later" (zM 14 1) (vS "keptnest.asks.walks" 271) (vR 79)) ::
 (nat_lit 86,{ cls:=PySem.Value.type "code",data:=PySem.Data.fields #[vS "tell" 302,vS "Walk.tell" 303,vS "/claim/cut.py" 304,vI 54 0,vI 2 0,vI 0 0,vI 0 0,vI 3 0,vR 81,PySem.Value.bool Bool.true,vI 181 0,vR 82,vN,vR 83,vR 84,vR 85,vI 307 0,vI 54 0,vS "/claim/cut.py" 308] }) ::
 (nat_lit 87,fO "tell" "Walk.tell" (zM 14 2) (vS "keptnest.asks.walks" 271) (vR 86)) ::
 (nat_lit 91,{ cls:=PySem.Value.type "code",data:=PySem.Data.fields #[vS "take" 310,vS "Walk.take" 311,vS "/claim/cut.py" 312,vI 57 0,vI 2 0,vI 0 0,vI 0 0,vI 3 0,vR 88,PySem.Value.bool Bool.true,vI 181 0,vR 89,vN,vN,vN,vR 90,vI 313 0,vI 57 0,vS "/claim/cut.py" 314] }) ::
 (nat_lit 92,fO "take" "Walk.take" (zM 14 3) (vS "keptnest.asks.walks" 271) (vR 91)) ::
 (nat_lit 98,{ cls:=PySem.Value.type "code",data:=PySem.Data.fields #[vS "run" 316,vS "Walk.run" 317,vS "/claim/cut.py" 318,vI 61 0,vI 1 0,vI 0 0,vI 0 0,vI 3 0,vR 93,PySem.Value.bool Bool.true,vI 181 0,vR 94,vN,vR 95,vR 96,vR 97,vI 323 0,vI 61 0,vS "/claim/cut.py" 324] }) ::
 (nat_lit 99,fO "run" "Walk.run" (zM 14 4) (vS "keptnest.asks.walks" 271) (vR 98)) ::
 (nat_lit 101,{ cls:=PySem.Value.type "dict",data:=PySem.Data.dict #[eN P "__module__" 280 (vS "keptnest.asks.walks" 271),eN P "__firstlineno__" 284 (vI 45 283),eN P "__init__" 291 (vR 73),eN P "later" 301 (vR 80),eN P "tell" 309 (vR 87),eN P "take" 315 (vR 92),eN P "run" 325 (vR 99),eN P "__static_attributes__" 328 (vR 100),eN P "__dict__" 330 (vR 103),eN P "__weakref__" 332 (vR 104),eN P "__doc__" 333 (vN)] 4 }) ::
 (nat_lit 102,{ cls:=PySem.Value.type "type",data:=PySem.Data.cls { name:=sO "Walk",bases:=[PySem.Value.type "object"],mro:=[vR 102,PySem.Value.type "object"],ns:=101,qualname:=sO "Walk" },slots:=#[Option.none,Option.none,Option.some (vS "Walk" 273),Option.some (vS "Walk" 281),Option.some (PySem.Value.builtin "object.__new__"),Option.some (PySem.Value.bool Bool.true)] }) ::
 (nat_lit 114,{ cls:=PySem.Value.type "tuple",data:=PySem.Data.seq #[] }) ::
 (nat_lit 115,{ cls:=PySem.Value.type "tuple",data:=PySem.Data.seq #[vS "bag" 348,vR 114] }) ::
 (nat_lit 121,{ cls:=PySem.Value.type "code",data:=PySem.Data.fields #[vS "answer" 350,vS "answer" 351,vS "/claim/cut.py" 352,vI 72 0,vI 3 0,vI 0 0,vI 0 0,vI 3 0,vR 116,PySem.Value.bool Bool.true,vI 181 0,vR 117,vN,vR 118,vR 119,vR 120,vI 357 0,vI 72 0,vS "/claim/cut.py" 358] }) ::
 (nat_lit 122,fO "answer" "answer" (zT 18) (vS "keptnest.asks.answers" 346) (vR 121)) ::
 (nat_lit 128,{ cls:=PySem.Value.type "code",data:=PySem.Data.fields #[vS "begin" 360,vS "begin" 361,vS "/claim/cut.py" 362,vI 76 0,vI 3 0,vI 0 0,vI 0 0,vI 3 0,vR 123,PySem.Value.bool Bool.true,vI 181 0,vR 124,vN,vR 125,vR 126,vR 127,vI 369 0,vI 76 0,vS "/claim/cut.py" 370] }) ::
 (nat_lit 129,fO "begin" "begin" (zT 19) (vS "keptnest.asks.answers" 346) (vR 128)) ::
 (nat_lit 156,{ cls:=PySem.Value.type "dict",data:=PySem.Data.dict #[eN P "for" 413 (vR 136),eN P "let" 414 (vR 148),eN P "when" 415 (vR 155)] 3 }) ::
 (nat_lit 162,{ cls:=PySem.Value.type "code",data:=PySem.Data.fields #[vS "finish" 420,vS "finish" 421,vS "/claim/cut.py" 422,vI 113 0,vI 3 0,vI 0 0,vI 0 0,vI 3 0,vR 157,PySem.Value.bool Bool.true,vI 181 0,vR 158,vN,vR 159,vR 160,vR 161,vI 426 0,vI 113 0,vS "/claim/cut.py" 427] }) ::
 (nat_lit 163,fO "finish" "finish" (zT 25) (vS "keptnest.asks.answers" 346) (vR 162)) ::
 (nat_lit 195,{ cls:=PySem.Value.type "code",data:=PySem.Data.fields #[vS "none_answer" 459,vS "none_answer" 460,vS "/claim/cut.py" 461,vI 123 0,vI 2 0,vI 0 0,vI 0 0,vI 3 0,vR 190,PySem.Value.bool Bool.true,vI 181 0,vR 191,vN,vR 192,vR 193,vR 194,vI 464 0,vI 123 0,vS "/claim/cut.py" 465] }) ::
 (nat_lit 196,fO "none_answer" "none_answer" (zT 30) (vS "keptnest.asks.answers" 346) (vR 195)) ::
 (nat_lit 202,{ cls:=PySem.Value.type "code",data:=PySem.Data.fields #[vS "one_answer" 467,vS "one_answer" 468,vS "/claim/cut.py" 469,vI 125 0,vI 2 0,vI 0 0,vI 0 0,vI 3 0,vR 197,PySem.Value.bool Bool.true,vI 181 0,vR 198,vN,vR 199,vR 200,vR 201,vI 472 0,vI 125 0,vS "/claim/cut.py" 473] }) ::
 (nat_lit 203,fO "one_answer" "one_answer" (zT 31) (vS "keptnest.asks.answers" 346) (vR 202)) ::
 (nat_lit 209,{ cls:=PySem.Value.type "code",data:=PySem.Data.fields #[vS "both_answer" 475,vS "both_answer" 476,vS "/claim/cut.py" 477,vI 127 0,vI 2 0,vI 0 0,vI 0 0,vI 3 0,vR 204,PySem.Value.bool Bool.true,vI 181 0,vR 205,vN,vR 206,vR 207,vR 208,vI 480 0,vI 127 0,vS "/claim/cut.py" 481] }) ::
 (nat_lit 210,fO "both_answer" "both_answer" (zT 32) (vS "keptnest.asks.answers" 346) (vR 209)) ::
 (nat_lit 216,{ cls:=PySem.Value.type "code",data:=PySem.Data.fields #[vS "times_answer" 483,vS "times_answer" 484,vS "/claim/cut.py" 485,vI 129 0,vI 2 0,vI 0 0,vI 0 0,vI 3 0,vR 211,PySem.Value.bool Bool.true,vI 181 0,vR 212,vN,vR 213,vR 214,vR 215,vI 488 0,vI 129 0,vS "/claim/cut.py" 489] }) ::
 (nat_lit 217,fO "times_answer" "times_answer" (zT 33) (vS "keptnest.asks.answers" 346) (vR 216)) ::
 (nat_lit 253,{ cls:=PySem.Value.type "dict",data:=PySem.Data.dict #[eN P "row" 531 (vR 168),eN P "at" 532 (vR 175),eN P "add" 533 (vR 182),eN P "mul" 534 (vR 189),eN P "none" 535 (vR 196),eN P "one" 536 (vR 203),eN P "both" 537 (vR 210),eN P "times" 538 (vR 217),eN P "same" 539 (vR 224),eN P "under" 540 (vR 231),eN P "and" 541 (vR 238),eN P "or" 542 (vR 245),eN P "not" 543 (vR 252)] 13 }) ::
 (nat_lit 259,{ cls:=PySem.Value.type "code",data:=PySem.Data.fields #[vS "_law_decks" 560,vS "_law_decks" 561,vS "/claim/cut.py" 562,vI 143 0,vI 2 0,vI 0 0,vI 0 0,vI 3 0,vR 254,PySem.Value.bool Bool.true,vI 181 0,vR 255,vN,vR 256,vR 257,vR 258,vI 569 0,vI 143 0,vS "/claim/cut.py" 570] }) ::
 (nat_lit 260,fO "_law_decks" "_law_decks" (zT 41) (vS "law_keptnest_k21_bags_added" 558) (vR 259)) ::
 (nat_lit 266,{ cls:=PySem.Value.type "code",data:=PySem.Data.fields #[vS "_law_draw" 572,vS "_law_draw" 573,vS "/claim/cut.py" 574,vI 152 0,vI 2 0,vI 0 0,vI 0 0,vI 3 0,vR 261,PySem.Value.bool Bool.true,vI 181 0,vR 262,vN,vR 263,vR 264,vR 265,vI 580 0,vI 152 0,vS "/claim/cut.py" 581] }) ::
 (nat_lit 267,fO "_law_draw" "_law_draw" (zT 42) (vS "law_keptnest_k21_bags_added" 558) (vR 266)) ::
 (nat_lit 273,{ cls:=PySem.Value.type "code",data:=PySem.Data.fields #[vS "_law_kind" 583,vS "_law_kind" 584,vS "/claim/cut.py" 585,vI 162 0,vI 1 0,vI 0 0,vI 0 0,vI 3 0,vR 268,PySem.Value.bool Bool.true,vI 181 0,vR 269,vN,vR 270,vR 271,vR 272,vI 590 0,vI 162 0,vS "/claim/cut.py" 591] }) ::
 (nat_lit 274,fO "_law_kind" "_law_kind" (zT 43) (vS "law_keptnest_k21_bags_added" 558) (vR 273)) ::
 (nat_lit 285,{ cls:=PySem.Value.type "code",data:=PySem.Data.fields #[vS "_law_key" 604,vS "_law_key" 605,vS "/claim/cut.py" 606,vI 178 0,vI 1 0,vI 0 0,vI 0 0,vI 3 0,vR 282,PySem.Value.bool Bool.true,vI 181 0,vR 283,vN,vN,vN,vR 284,vI 607 0,vI 178 0,vS "/claim/cut.py" 608] }) ::
 (nat_lit 286,fO "_law_key" "_law_key" (zT 45) (vS "law_keptnest_k21_bags_added" 558) (vR 285)) ::
 (nat_lit 290,{ cls:=PySem.Value.type "code",data:=PySem.Data.fields #[vS "_law_sorted" 610,vS "_law_sorted" 611,vS "/claim/cut.py" 612,vI 185 0,vI 1 0,vI 0 0,vI 0 0,vI 3 0,vR 287,PySem.Value.bool Bool.true,vI 181 0,vR 288,vN,vN,vN,vR 289,vI 613 0,vI 185 0,vS "/claim/cut.py" 614] }) ::
 (nat_lit 291,fO "_law_sorted" "_law_sorted" (zT 46) (vS "law_keptnest_k21_bags_added" 558) (vR 290)) ::
 (nat_lit 297,{ cls:=PySem.Value.type "code",data:=PySem.Data.fields #[vS "_law_number" 616,vS "_law_number" 617,vS "/claim/cut.py" 618,vI 192 0,vI 1 0,vI 0 0,vI 0 0,vI 3 0,vR 292,PySem.Value.bool Bool.true,vI 181 0,vR 293,vN,vR 294,vR 295,vR 296,vI 622 0,vI 192 0,vS "/claim/cut.py" 623] }) ::
 (nat_lit 298,fO "_law_number" "_law_number" (zT 47) (vS "law_keptnest_k21_bags_added" 558) (vR 297)) ::
 (nat_lit 302,{ cls:=PySem.Value.type "code",data:=PySem.Data.fields #[vS "_law_value" 625,vS "_law_value" 626,vS "/claim/cut.py" 627,vI 198 0,vI 2 0,vI 0 0,vI 0 0,vI 3 0,vR 299,PySem.Value.bool Bool.true,vI 181 0,vR 300,vN,vN,vN,vR 301,vI 628 0,vI 198 0,vS "/claim/cut.py" 629] }) ::
 (nat_lit 303,fO "_law_value" "_law_value" (zT 48) (vS "law_keptnest_k21_bags_added" 558) (vR 302)) ::
 (nat_lit 314,{ cls:=PySem.Value.type "code",data:=PySem.Data.fields #[vS "_law_plain" 637,vS "_law_plain" 638,vS "/claim/cut.py" 639,vI 212 0,vI 3 0,vI 0 0,vI 0 0,vI 3 0,vR 309,PySem.Value.bool Bool.true,vI 181 0,vR 310,vN,vR 311,vR 312,vR 313,vI 645 0,vI 212 0,vS "/claim/cut.py" 646] }) ::
 (nat_lit 315,fO "_law_plain" "_law_plain" (zT 50) (vS "law_keptnest_k21_bags_added" 558) (vR 314)) ::
 (nat_lit 321,{ cls:=PySem.Value.type "code",data:=PySem.Data.fields #[vS "_law_put" 648,vS "_law_put" 649,vS "/claim/cut.py" 650,vI 224 0,vI 5 0,vI 0 0,vI 0 0,vI 3 0,vR 316,PySem.Value.bool Bool.true,vI 181 0,vR 317,vN,vR 318,vR 319,vR 320,vI 658 0,vI 224 0,vS "/claim/cut.py" 659] }) ::
 (nat_lit 322,fO "_law_put" "_law_put" (zT 51) (vS "law_keptnest_k21_bags_added" 558) (vR 321)) ::
 (nat_lit 328,{ cls:=PySem.Value.type "code",data:=PySem.Data.fields #[vS "_law_many" 661,vS "_law_many" 662,vS "/claim/cut.py" 663,vI 236 0,vI 1 0,vI 0 0,vI 0 0,vI 3 0,vR 323,PySem.Value.bool Bool.true,vI 181 0,vR 324,vN,vR 325,vR 326,vR 327,vI 668 0,vI 236 0,vS "/claim/cut.py" 669] }) ::
 (nat_lit 329,fO "_law_many" "_law_many" (zT 52) (vS "law_keptnest_k21_bags_added" 558) (vR 328)) ::
 (nat_lit 333,{ cls:=PySem.Value.type "code",data:=PySem.Data.fields #[vS "law" 671,vS "law" 672,vS "/claim/cut.py" 673,vI 242 0,vI 1 0,vI 0 0,vI 0 0,vI 3 0,vR 330,PySem.Value.bool Bool.true,vI 181 0,vR 331,vN,vN,vN,vR 332,vI 674 0,vI 242 0,vS "/claim/cut.py" 675] }) ::
 (nat_lit 334,fO "law" "law" (zT 53) (vS "law_keptnest_k21_bags_added" 558) (vR 333))::[]
def zA:List Addr:=[3,15,21,22,28,29,35,36,40,41,47,48,52,53,54,58,59,72,73,79,80,86,87,91,92,98,99,101,102,114,115,121,122,128,129,156,162,163,195,196,202,203,209,210,216,217,253,259,260,266,267,273,274,285,286,290,291,297,298,302,303,314,315,321,322,328,329,333,334]
def zV:Program:={ PySem.Challenge.pw_keptnest_k21_bags_added with main:={ PySem.Challenge.pw_keptnest_k21_bags_added.main with body:=[1,2,3,4,5,6,7,8,9,11,12,14,15,17,18,19,20,21,22,23,24,25,26,27,28,29,30,31,32,33,34,35,36,37,38,39,41,42,43,44,45,46,47,48,49,50,51,52,53].filterMap fun i=>PySem.Challenge.pw_keptnest_k21_bags_added.main.body[i]? } }
theorem zE:∀ P,zA=(zK P).map (·.1):=fun _=>rfl
def zL:List PySem.Str:=["RANKS","GOES_ON_answers","FINISHED"]
end K21
end
section
set_option maxHeartbeats 0
namespace K21
open PySem Hq
theorem zR_false:RunTo PySem.Challenge.pw_keptnest_k21_bags_added zV zL (fun s=>PySem.W.xlAt zV [] s && PySem.W.recOk (PySem.W.RowW.records (PySem.W.OpenRow.toRowW PySem.Challenge.rw_keptnest_k21_bags_added.row)) s) (PySem.W.Hook.obs (PySem.W.kHook zK zA zE)) (PySem.W.Hook.val (PySem.W.kHook zK zA zE)) 4180 "special-get-raises" false:=by
 intro w
 kernel_rfl
theorem zR_true:RunTo PySem.Challenge.pw_keptnest_k21_bags_added zV zL (fun s=>PySem.W.xlAt zV [] s && PySem.W.recOk (PySem.W.RowW.records (PySem.W.OpenRow.toRowW PySem.Challenge.rw_keptnest_k21_bags_added.row)) s) (PySem.W.Hook.obs (PySem.W.kHook zK zA zE)) (PySem.W.Hook.val (PySem.W.kHook zK zA zE)) 4180 "special-get-raises" true:=by
 intro w
 kernel_rfl
theorem zS:PySem.Challenge.rw_keptnest_k21_bags_added.wellSaid=true:=by kernel_rfl
end K21
end
section
-- CHANGE: your row's module here,as the last of these rows
namespace L2
open PySem PySem.Spec PyProof.Rows
abbrev Key:=Sum Int Str
def keyIs:Key->Value->Bool
 | .inl k,v=>Value.isInt k v
 | .inr x,v=>Value.isStrOf x v
def keyH (w:World):Key->Int
 | .inl k=>hashInt k
 | .inr x=>hashStr w x
theorem keyIs_shape:∀ {k:Key}{v:Value},keyIs k v=true->(∃ i t,k=Sum.inl i/\v=Value.int i t)\/(∃ x t,k=Sum.inr x/\v=Value.str x t)
 | .inl i,v,h=>by
  obtain⟨t,e⟩:=Value.isInt_shape (k:=i) (v:=v) h
  exact .inl ⟨i,t,rfl,e⟩
 | .inr x,v,h=>by
  obtain⟨t,e⟩:=Value.isStrOf_shape (x:=x) (v:=v) h
  exact .inr ⟨x,t,rfl,e⟩
theorem keyIs_int (i:Int) (t:Tok):keyIs (.inl i) (.int i t)=true:=by simp [keyIs,Value.isInt]
theorem keyIs_str (x:Str) (t:Tok):keyIs (.inr x) (.str x t)=true:=by simp [keyIs,Value.isStrOf]
theorem key_ll (a b:Int):decide ((Sum.inl a:Key)=Sum.inl b)=(a == b):=by
 by_cases e:a=b
 ·subst e;simp
 ·have h:¬(Sum.inl a:Key)=Sum.inl b:=fun q=>e (Sum.inl.inj q)
  rw[decide_eq_false h]
  exact (beq_eq_false_iff_ne.mpr e).symm
theorem key_rr (a b:Str):decide ((Sum.inr a:Key)=Sum.inr b)=decide (a=b):=by
 by_cases e:a=b
 ·subst e;simp
 ·have h:¬(Sum.inr a:Key)=Sum.inr b:=fun q=>e (Sum.inr.inj q)
  rw[decide_eq_false h,decide_eq_false e]
theorem key_lr (a:Int) (b:Str):decide ((Sum.inl a:Key)=Sum.inr b)=false:=decide_eq_false (fun q=>nomatch q)
theorem key_rl (a:Str) (b:Int):decide ((Sum.inr a:Key)=Sum.inl b)=false:=decide_eq_false (fun q=>nomatch q)
def mixKind (prog:Program) (w:World):PySem.KeyKind prog w Key where
 is:=keyIs
 hash:=keyH w
 inj:=fun v a b ha hb=>by
  rcases keyIs_shape ha with ⟨i,t,rfl,rfl⟩ | ⟨x,t,rfl,rfl⟩
  ·rcases keyIs_shape hb with ⟨j,u,rfl,e⟩ | ⟨y,u,rfl,e⟩
   ·injection e with e1 _;rw[e1]
   ·exact nomatch e
  ·rcases keyIs_shape hb with ⟨j,u,rfl,e⟩ | ⟨y,u,rfl,e⟩
   ·exact nomatch e
   ·injection e with e1 _;rw[e1]
 byValue:=fun k v h=>by
  rcases keyIs_shape h with ⟨i,t,rfl,rfl⟩ | ⟨x,t,rfl,rfl⟩ <;> rfl
 pyHash:=fun hv h=>by
  rcases keyIs_shape hv with ⟨i,t,rfl,rfl⟩ | ⟨x,t,rfl,rfl⟩
  ·exact wpAny_pyHash_int h
  ·exact wpAny_pyHash_str h
 eqBool:=fun hu hv h=>by
  rcases keyIs_shape hu with ⟨i,t,rfl,rfl⟩ | ⟨x,t,rfl,rfl⟩
  ·rcases keyIs_shape hv with ⟨j,u,rfl,rfl⟩ | ⟨y,u,rfl,rfl⟩
   ·rw[key_ll]at h;exact wpAny_eqBool_int h
   ·rw[key_lr]at h;exact SeqAt.EqAt.int_str i t y u _ _ _ _ h
  ·rcases keyIs_shape hv with ⟨j,u,rfl,rfl⟩ | ⟨y,u,rfl,rfl⟩
   ·rw[key_rl]at h;exact SeqAt.EqAt.str_int x t j u _ _ _ _ h
   ·rw[key_rr]at h;exact wpAny_eqBool_str h
 «strs»:=fun k x t v h=>by
  rcases keyIs_shape h with ⟨i,u,rfl,e⟩ | ⟨y,u,rfl,e⟩
  ·exact nomatch e
  ·injection e with e1 _
   subst e1
   cases v <;> rfl
theorem mixKind_int (prog:Program) (w:World) (i:Int) (t:Tok):(mixKind prog w).is (.inl i) (.int i t)=true:=keyIs_int i t
theorem mixKind_str (prog:Program) (w:World) (x:Str) (t:Tok):(mixKind prog w).is (.inr x) (.str x t)=true:=keyIs_str x t
end L2
namespace L2
open PySem PySem.Spec PyProof.Rows
inductive V where
 | non | bl (b:Bool) | int (i:Int) | str (x:Str) | byt (b:Array UInt8) | flt (b:UInt64) | ref (a:Addr) | ty (n:String)
 deriving DecidableEq
def RelV:V->Value->Prop
 | .non,u=>u=Value.none
 | .bl b,u=>u=Value.bool b
 | .int i,u=>∃ t,u=Value.int i t
 | .str x,u=>∃ t,u=Value.str x t
 | .byt b,u=>∃ t,u=Value.bytes b t
 | .flt b,u=>∃ t,u=Value.float b t
 | .ref a,u=>u=Value.ref a
 | .ty n,u=>u=Value.type n
abbrev Vals:List V->List Value->Prop:=Paired RelV
theorem Vals.length {xs:List V}{us:List Value} (r:Vals xs us):xs.length=us.length:=Paired.length r
theorem Vals.get:∀ {xs:List V}{us:List Value}{i:Nat}{x:V},Vals xs us->xs[i]?=some x->∃ u,us[i]?=some u/\RelV x u
 | _,_,_,_,.nil,e=>by simp at e
 | _,_,0,_,.cons r _,e=>by simp at e;subst e;exact⟨_,rfl,r⟩
 | _,_,i+1,x,.cons _ t,e=>by
  obtain⟨u,h1,h2⟩:=Vals.get (i:=i) (x:=x) t (by simpa using e)
  exact⟨u,by simpa using h1,h2⟩
theorem Vals.set {x:V}{u:Value} (r:RelV x u):∀ {xs:List V}{us:List Value} (i:Nat),Vals xs us->Vals (xs.set i x) (us.set i u)
 | _,_,_,.nil=>.nil
 | _,_,0,.cons _ t=>.cons r t
 | _,_,i+1,.cons q t=>.cons q (Vals.set r i t)
theorem Vals.append {xs ys:List V}{us ws:List Value} (h:Vals xs us) (s:Vals ys ws):Vals (xs++ys) (us++ws):=by
 induction h with
 | nil=>exact s
 | cons r t ih=>exact .cons r ih
theorem Vals.take:∀ {xs:List V}{us:List Value} (n:Nat),Vals xs us->Vals (xs.take n) (us.take n)
 | _,_,0,_=>.nil
 | _,_,_+1,.nil=>.nil
 | _,_,n+1,.cons r t=>.cons r (Vals.take n t)
theorem Vals.drop:∀ {xs:List V}{us:List Value} (n:Nat),Vals xs us->Vals (xs.drop n) (us.drop n)
 | _,_,0,r=>r
 | _,_,_+1,.nil=>.nil
 | _,_,n+1,.cons _ t=>Vals.drop n t
def RelO:Option V->Option Value->Prop
 | some v,some u=>RelV v u
 | none,none=>True
 | _,_=>False
def KV {κ:Type}:List (κ×V)->List (κ×Value)->Prop:=Paired fun (p:κ×V) (q:κ×Value)=>p.1=q.1/\RelV p.2 q.2
def kV:Key->V
 | .inl i=>.int i
 | .inr x=>.str x
inductive HO where
  | lst (xs:List V)
  | tup (xs:List V)
  | dK (kvs:List (Key×V)) | dT (kvs:List (List Key×V))
  | set (S:Int->Bool) (n:Nat)
  | ins (C dx:Addr) (fs:List (Str×V))
  | own (x:Addr)
  | xd (fs:List (Str×V))
  | met (f x:Addr)
  | rng (lo hi:Int)
  | frz (o:Obj) (u:HO)
  | tbl (ps:Array Value)
  | ext (φ:Heap->Prop)
abbrev Hp:=Addr->Option HO
def upd (H:Hp) (a:Addr) (o:HO):Hp:=fun b=>if b=a then some o else H b
theorem upd_same {H:Hp}{a:Addr}{o:HO}:upd H a o a=some o:=by unfold upd;rw[if_pos rfl]
theorem upd_ne {H:Hp}{a b:Addr}{o:HO} (h:b≠a):upd H a o b=H b:=by unfold upd;rw[if_neg h]
theorem ne_of {H:Hp}{a b:Addr}{o u:HO} (h:H a=some o) (h':H b=some u) (d:o≠u):a≠b:=by
 intro e;subst e;rw[h]at h';exact d (Option.some.inj h')
theorem ne_of_none {H:Hp}{a b:Addr}{o:HO} (h:H a=some o) (h':H b=none):a≠b:=by
 intro e;subst e;rw[h]at h';cases h'
def TupD (h:Heap) (a:Addr) (n:Nat):Prop:=n<=sizeLine/\∀ o,h.get? a=some o->o.dict=none
theorem tupD_new {h:Heap}{its:Array Value}{k n:Nat} (z:n<=sizeLine):TupD (h.push { cls:=.type "tuple",data:=.seq its k }) h.objs.size n:=
 ⟨z,fun o q=>by rw[Heap.get?_push_size _ rfl]at q;cases q;rfl⟩
theorem tupD_at {h:Heap}{a:Addr}{o:Obj}{n:Nat} (z:n<=sizeLine) (e:h.get? a=some o) (d:o.dict=none):TupD h a n:=
 ⟨z,fun o' q=>by rw[e]at q;cases q;exact d⟩
section
variable (P:Program) (w:World)
def ObjOk (H:Hp) (h:Heap) (a:Addr):HO->Prop
 | .lst xs=>xs.length<=sizeLine/\∃ (its:List Value) (n:Nat),Vals xs its/\h.get? a=some { cls:=.type "list",data:=.seq its.toArray n }
 | .tup xs=>TupD h a xs.length/\∃ its:List Value,Vals xs its/\IsTup h a its.toArray
 | .dK kvs=>kvs.length<=sizeLine/\(a == sysModules)=false/\∃ vs,KV kvs vs/\h.DictOf (mixKind P w) a vs
 | .dT kvs=>kvs.length<=sizeLine/\(a == sysModules)=false/\∃ xs:List (List Key×Addr×Value),
   Paired (fun (p:List Key×V) (q:List Key×Addr×Value)=>p.1=q.1/\H q.2.1=some (.tup (p.1.map kV))/\RelV p.2 q.2.2) kvs xs /\
   ∃ o es ep,h.get? a=some o/\o.ExactDict/\o.data=.dict es ep/\es.toList=xs.map (entryOfKey (tupleKind (mixKind P w)))/\(xs.map (·.1)).Nodup
 | .set S n=>h.SetOf (intKind P w) a S n
 | .ins C dx fs=>H dx=some (.own a)/\fs.length<=1000/\dx≠a/\h.get? a=some (PySem.W.instObj C dx) /\
   ∃ mA,h.Ns1 dx mA/\(∀ f,RelO (fs.lookup f) (mA f))/\PySem.Within mA (fs.map (·.1))
 | .own _=>∃ o,h.get? a=some o
 | .xd fs=>∃ mA,h.Ns1 a mA/\∀ f,RelO (fs.lookup f) (mA f)
 | .rng lo hi=>∃ t u v,h.get? a=some { cls:=.type "range",data:=.fields #[.int lo t,.int hi u,.int 1 v] }
 | .frz o u=>h.get? a=some o/\ObjOk H h a u
 | .tbl ps=>h.get? a=some { cls:=.none,data:=.fields ps }
 | .met f x=>h.get? a=some (PySem.W.methodObj (.ref f) (.ref x))
 | .ext φ=>φ h/\(∃ o,h.get? a=some o)/\∀ h1 h2:Heap,φ h1->(∀ o,h1.get? a=some o->h2.get? a=some o)->φ h2
def HOk (H:Hp) (h:Heap):Prop:=∀ a o,H a=some o->ObjOk P w H h a o
end
section
variable {P:Program}{w:World}{H H':Hp}{h h':Heap}{a:Addr}{o:HO}
theorem ObjOk.lt (x:ObjOk P w H h a o):a<h.objs.size:=by
 cases o with
 | lst xs=>obtain⟨_,_,_,_,e⟩:=x;exact Heap.lt_size e
 | tup xs=>obtain⟨_,_,_,p⟩:=x;exact p.lt
 | dK kvs=>obtain⟨_,_,_,_,o,_,_,e,_⟩:=x;exact Heap.lt_size e
 | dT kvs=>obtain⟨_,_,_,_,o,_,_,e,_⟩:=x;exact Heap.lt_size e
 | set S n=>obtain⟨o,_,_,_,e,_⟩:=x;exact Heap.lt_size e
 | ins C dx fs=>obtain⟨_,_,_,e,_⟩:=x;exact Heap.lt_size e
 | own y=>obtain⟨_,e⟩:=x;exact Heap.lt_size e
 | xd fs=>obtain⟨_,⟨_,_,_,e,_⟩,_⟩:=x;exact Heap.lt_size e
 | rng lo hi=>obtain⟨_,_,_,e⟩:=x;exact Heap.lt_size e
 | frz ob u=>obtain⟨e,_⟩:=x;exact Heap.lt_size e
 | tbl ps=>exact Heap.lt_size (show h.get? a=some _ from x)
 | met f y=>exact Heap.lt_size (show h.get? a=some _ from x)
 | ext φ=>obtain⟨_,⟨_,e⟩,_⟩:=x;exact Heap.lt_size e
theorem Paired.mapP {α β:Type} {F G:α->β->Prop}:∀ {l₁:List α}{l₂:List β},Paired F l₁ l₂->(∀ a b,F a b->G a b)->Paired G l₁ l₂
 | _,_,.nil,_=>.nil
 | _,_,.cons r t,f=>.cons (f _ _ r) (Paired.mapP t f)
theorem ObjOk.stay (x:ObjOk P w H h a o) (k:∀ b u,(b=a\/H b=some (.own a))->h.get? b=some u->h'.get? b=some u)
  (ho:∀ b,H b=some (.own a)->H' b=some (.own a)) (ht:∀ b xs,H b=some (.tup xs)->H' b=some (.tup xs)):ObjOk P w H' h' a o:=by
 induction o with
 | lst xs=>obtain⟨z,its,n,r,e⟩:=x;exact⟨z,its,n,r,k _ _ (.inl rfl) e⟩
 | tup xs=>obtain⟨z,its,r,ob,e,c⟩:=x;exact⟨tupD_at z.1 (k _ _ (.inl rfl) e) (z.2 _ e),its,r,ob,k _ _ (.inl rfl) e,c⟩
 | dK kvs=>obtain⟨z,y,vs,r,ob,es,ep,e,c⟩:=x;exact⟨z,y,vs,r,ob,es,ep,k _ _ (.inl rfl) e,c⟩
 | dT kvs=>
  obtain⟨z,y,xs,r,ob,es,ep,e,c⟩:=x
  exact⟨z,y,xs,Paired.mapP r fun p q z=>⟨z.1,ht _ _ z.2.1,z.2.2⟩,ob,es,ep,k _ _ (.inl rfl) e,c⟩
 | set S n=>obtain⟨ob,es,ep,t,e,c⟩:=x;exact⟨ob,es,ep,t,k _ _ (.inl rfl) e,c⟩
 | ins C dx fs=>
  obtain⟨d,z,ne,e,mA,⟨od,es,ep,e2,c⟩,r⟩:=x
  exact⟨ho _ d,z,ne,k _ _ (.inl rfl) e,mA,⟨od,es,ep,k _ _ (.inr d) e2,c⟩,r⟩
 | own y=>obtain⟨ob,e⟩:=x;exact⟨ob,k _ _ (.inl rfl) e⟩
 | xd fs=>obtain⟨mA,⟨od,es,ep,e,c⟩,r⟩:=x;exact⟨mA,⟨od,es,ep,k _ _ (.inl rfl) e,c⟩,r⟩
 | rng lo hi=>obtain⟨t,u,v,e⟩:=x;exact⟨t,u,v,k _ _ (.inl rfl) e⟩
 | frz ob u ih=>obtain⟨e,q⟩:=x;exact⟨k _ _ (.inl rfl) e,ih q⟩
 | tbl ps=>
  have e:h.get? a=some { cls:=.none,data:=.fields ps }:=x
  show h'.get? a=some { cls:=.none,data:=.fields ps }
  exact k a _ (.inl rfl) e
 | met f y=>
  have e:h.get? a=some (PySem.W.methodObj (.ref f) (.ref y)):=x
  show h'.get? a=some (PySem.W.methodObj (.ref f) (.ref y))
  exact k a _ (.inl rfl) e
 | ext φ=>obtain⟨p,⟨o,e⟩,st⟩:=x;exact⟨st _ _ p fun o q=>k _ _ (.inl rfl) q,⟨o,k _ _ (.inl rfl) e⟩,st⟩
theorem HOk.lt (x:HOk P w H h) (e:H a=some o):a<h.objs.size:=(x a o e).lt
theorem HOk.fresh (x:HOk P w H h) (e:h.objs.size<=a):H a=none:=by
 cases q:H a with
 | none=>rfl
 | some u=>exact absurd (Nat.lt_of_lt_of_le (x.lt q) e) (Nat.lt_irrefl _)
theorem HOk.kept (x:HOk P w H h) (k:∀ b u,h.get? b=some u->h'.get? b=some u):HOk P w H h':=fun a o e=>
 (x a o e).stay (fun b u _ q=>k b u q) (fun _ q=>q) fun _ _ q=>q
theorem HOk.laid (x:HOk P w H h) (k:∀ b u,h.get? b=some u->h'.get? b=some u) (hp:h.objs.size<=a) (new:ObjOk P w (upd H a o) h' a o):HOk P w (upd H a o) h':=fun b u e=>by
 have hn:=x.fresh hp
 by_cases hb:b=a
 ·subst hb;rw[upd_same]at e;cases e;exact new
 ·rw[upd_ne hb]at e
  exact (x b u e).stay (fun c v _ q=>k c v q) (fun c q=>by rw[upd_ne (ne_of_none q hn)];exact q) fun c xs q=>by rw[upd_ne (ne_of_none q hn)];exact q
end
def Rd (H:Hp) (a:Addr) (u:HO):Prop:=H a=some u\/∃ o,H a=some (.frz o u)
theorem Rd.ok {P:Program}{w:World}{H:Hp}{h:Heap}{a:Addr}{u:HO} (r:Rd H a u) (x:HOk P w H h):ObjOk P w H h a u:=by
 rcases r with r | ⟨o,r⟩
 ·exact x a u r
 ·obtain⟨_,q⟩:=x a _ r
  exact q
def Mut:Option HO->Prop
 | some (.lst _)=>True
 | some (.dK _)=>True
 | some (.dT _)=>True
 | some (.set _ _)=>True
 | some (.ins _ _ _)=>True
 | some (.ext _)=>True
 | _=>False
section
variable {P:Program}{w:World}{H:Hp}{h h':Heap}{x e:Addr}{o':HO}
theorem HOk.write (ok:HOk P w H h) (mu:Mut (H x)) (he:e=x\/H e=some (.own x)) (k:∀ b u,b≠e->h.get? b=some u->h'.get? b=some u) (heo:∃ u,h'.get? e=some u)
  (new:ObjOk P w (upd H x o') h' x o'):HOk P w (upd H x o') h':=fun b u q=>by
 have nown:∀ c y,H c=some (.own y)->c≠x:=fun c y r z=>by subst z;rw[r]at mu;exact mu
 have ntup:∀ c xs,H c=some (.tup xs)->c≠x:=fun c xs r z=>by subst z;rw[r]at mu;exact mu
 by_cases hb:b=x
 ·subst hb;rw[upd_same]at q;cases q;exact new
 ·rw[upd_ne hb]at q
  by_cases hbe:b=e
  ·have q':H b=some (.own x):=by
    rcases he with z | z
    ·exact absurd (hbe.trans z) hb
    ·rw[hbe];exact z
   rw[q]at q';cases q'
   obtain⟨v,hv⟩:=heo
   exact⟨v,by rw[hbe];exact hv⟩
  ·refine (ok b u q).stay (fun c v hc r=>k c v ?_ r) (fun c r=>by rw[upd_ne (nown c b r)];exact r) fun c xs r=>by rw[upd_ne (ntup c xs r)];exact r
   rcases hc with rfl | hc
   ·exact hbe
   ·rintro rfl
    rcases he with z | z
    ·exact nown c b hc z
    ·rw[hc]at z;cases z;exact hb rfl
end
structure Un (fs ex:List Addr) (H H':Hp) (h h':Heap):Prop where
 keep:∀ b o,h.get? b=some o->H b=none->b ∉ fs->b ∉ ex->h'.get? b=some o
 slot:∀ b o,h.get? b=some o->H b=none->b∈fs->b ∉ ex->∃ sl,h'.get? b=some { o with slots:=sl }
 free:∀ b o,h.get? b=some o->H b=none->b ∉ ex->H' b=none
 there:∀ b o,h.get? b=some o->b ∉ ex->∃ o',h'.get? b=some o'
 tups:∀ b xs,H b=some (.tup xs)->H' b=some (.tup xs)
 frzs:∀ b o u,H b=some (.frz o u)->H' b=some (.frz o u)
 tbls:∀ b ps,H b=some (.tbl ps)->∃ more,H' b=some (.tbl (ps++more))
section
variable {fs fs' ex ex':List Addr}{H H1 H2:Hp}{h h1 h2 h':Heap}{a x e:Addr}{o:HO}
theorem Un.any (u:Un fs ex H H1 h h1) {b:Addr}{ob:Obj} (q:h.get? b=some ob) (n:H b=none) (hx:b ∉ ex):∃ sl,h1.get? b=some { ob with slots:=sl }:=by
 by_cases hb:b∈fs
 ·exact u.slot b ob q n hb hx
 ·exact⟨ob.slots,u.keep b ob q n hb hx⟩
theorem Un.kept (k:∀ b u,h.get? b=some u->h'.get? b=some u):Un fs ex H H h h':=
 ⟨fun b ob q _ _ _=>k b ob q,fun b ob q _ _ _=>⟨ob.slots,k b ob q⟩,fun _ _ _ n _=>n,fun b ob q _=>⟨ob,k b ob q⟩,fun _ _ q=>q,fun _ _ _ q=>q,fun _ ps q=>⟨#[],by rw[q];simp⟩⟩
theorem Un.refl:Un fs ex H H h h:=Un.kept fun _ _ q=>q
theorem Un.laid (k:∀ b u,h.get? b=some u->h'.get? b=some u) (hp:h.objs.size<=a) (hn:H a=none):Un fs ex H (upd H a o) h h' where
 keep:=fun b u q _ _ _=>k b u q
 slot:=fun b u q _ _ _=>⟨u.slots,k b u q⟩
 free:=fun b u q n _=>by rw[upd_ne (Nat.ne_of_lt (Nat.lt_of_lt_of_le (Heap.lt_size q) hp))];exact n
 there:=fun b u q _=>⟨u,k b u q⟩
 tups:=fun b xs q=>by rw[upd_ne (ne_of_none q hn)];exact q
 frzs:=fun b u xs q=>by rw[upd_ne (ne_of_none q hn)];exact q
 tbls:=fun b ps q=>⟨#[],by rw[upd_ne (ne_of_none q hn),q];simp⟩
theorem Un.write (mu:Mut (H x)) (he:e=x\/H e=some (.own x)) (k:∀ b u,b≠e->h.get? b=some u->h'.get? b=some u) (heo:∃ u,h'.get? e=some u):Un fs ex H (upd H x o) h h':=by
 have hx:∀ b,H b=none->b≠x:=fun b n z=>by subst z;rw[n]at mu;exact mu
 have hb:∀ b,H b=none->b≠e:=fun b n z=>by
  subst z
  rcases he with r | r
  ·exact hx b n r
  ·rw[n]at r;cases r
 have hm:∀ b u,H b=some u->¬Mut (some u)->b≠x:=fun b u q nm z=>by subst z;rw[q]at mu;exact nm mu
 refine⟨fun b u q n _ _=>k b u (hb b n) q,fun b u q n _ _=>⟨u.slots,k b u (hb b n) q⟩,fun b u q n _=>by rw[upd_ne (hx b n)];exact n,fun b u q _=>?_,
  fun b xs q=>by rw[upd_ne (hm b _ q fun z=>z)];exact q,fun b u xs q=>by rw[upd_ne (hm b _ q fun z=>z)];exact q,fun b ps q=>⟨#[],by rw[upd_ne (hm b _ q fun z=>z),q];simp⟩⟩
 by_cases hbe:b=e
 ·subst hbe;exact heo
 ·exact⟨u,k b u hbe q⟩
end
def trk (h:Heap) (H:Hp):List Addr:=(List.range h.objs.size).filter fun a=>(H a).isSome
def hidT (h:Heap) (H:Hp):Heap:=PySem.W.hideAll h (trk h H)
theorem hidT_size (h:Heap) (H:Hp):(hidT h H).objs.size=h.objs.size:=PySem.W.hideAll_size _ _
theorem hidT_get {h:Heap}{H:Hp}{b:Addr}{o:Obj} (e:h.get? b=some o) (n:H b=none):(hidT h H).get? b=some o:=
 PySem.W.hideAll_get _ e fun hm=>by
  have q:(H b).isSome=true:=(List.mem_filter.mp hm).2
  rw[n]at q;simp at q
theorem of_hidT {h:Heap}{H:Hp}{b:Addr}{o:Obj} (e:(hidT h H).get? b=some o):h.get? b=some o/\H b=none:=by
 have e':h.get? b=some o:=PySem.W.of_hideAll (trk h H) e
 refine⟨e',?_⟩
 cases q:H b with
 | none=>rfl
 | some x=>
  have hm:b∈trk h H:=List.mem_filter.mpr ⟨List.mem_range.mpr (Heap.lt_size e'),by simp [q]⟩
  have z:(hidT h H).get? b=none:=PySem.W.hideAll_none (trk h H) hm
  rw[z]at e;cases e
def allNews (g h:Heap) (L:Addr):List (Addr×Obj):=(List.range h.objs.size).filterMap fun a=>if a=L\/(g.get? a).isSome=true then none else (h.get? a).map fun o=>(a,o)
def rest (g h:Heap) (L d:Addr):List (Addr×Obj):=(allNews g h L).filter fun p=>decide (p.1≠d)
end L2
namespace L2
open PySem PySem.Spec PyProof.Rows
structure Mod (K:PySem.W.Frag) (mg:Str->Option Value) (base:Heap):Prop where
 kin:K.In base
 glob:base.Ns mainGlobals mg
 blt:∃ mb,base.Ns builtinsNs mb/\∀ x:Str,x≠"__name__"->mb x=bootBuiltins x
 nolimit:base.NoLimit
structure Cx where
 prog:Program
 w:World
 K:PySem.W.Frag
 mg:Str->Option Value
 base:Heap
 A:Around
 N:List Str
 s₀:Shared
 H₀:Hp
 env:Env
 outer:List Env
 stack:List Env
 ex:List Addr
 fn:Str->Bool
 calm:Bool
 pn:List (Addr×Obj)
 xe:Value->Shared->Prop
def frs (l:List Env):List Addr:=l.filterMap (·.frame)
abbrev Cx.fs (X:Cx):List Addr:=frs X.outer
def Vis (sc:Scope) (x:Str):Prop:=sc.names.lookup x=some .local\/sc.names.lookup x=some .cell\/sc.names.lookup x=some .free
def Loc (sc:Scope) (x:Str):Prop:=sc.names.lookup x=some .local\/sc.names.lookup x=some .cell
def Look (env:Env) (h:Heap) (m:Str->Option Value) (x:Str) (u:Value):Prop:=
 (env.kindOf x=some .local/\m x=some u)\/((env.kindOf x=some .cell\/env.kindOf x=some .free)/\∃ c,env.cells.lookup x=some c/\h.IsCell c (some u))
structure Cx.Ok (X:Cx):Prop where
 mod:Mod X.K X.mg X.base
 kind:X.env.scope.kind=.function
 glob:X.env.globals=mainGlobals
 blt:X.env.builtins=builtinsNs
 above:X.s₀.heap.objs.size<=X.env.locals
 inj:∀ x y c,X.env.cells.lookup x=some c->X.env.cells.lookup y=some c->x=y
 has:∀ x,(X.env.kindOf x=some .cell\/X.env.kindOf x=some .free)->∃ c,X.env.cells.lookup x=some c
 cab:∀ x c,X.fn x=true->X.env.cells.lookup x=some c->X.s₀.heap.objs.size<=c
 hd:X.calm=true->X.A.handled=none
 frames:X.A.frames=some X.stack
 stk:X.stack=X.outer\/(X.stack=X.env::X.outer/\X.env.frame=some X.env.locals)
 exf:∀ b∈X.ex,b≠X.env.locals/\∀ x c,X.env.cells.lookup x=some c->c≠b
 bs:∀ b o,X.base.get? b=some o->X.s₀.heap.get? b=some o/\X.H₀ b=none
 bsz:X.base.objs.size<=X.s₀.heap.objs.size
 noex:∀ b o,X.base.get? b=some o->b ∉ X.ex
 exfs:∀ b∈X.ex,b ∉ X.fs
 funs:X.s₀.heap.FunFrames X.base X.outer
 frf:∀ b∈X.fs,X.H₀ b=none
structure Inv (X:Cx) (pins:List (Addr×Obj)) (σ:List (Option V)) (H:Hp) (s:Shared):Prop where
 ok:X.Ok
 os:s.os=X.s₀.os
 bare:AllBare s.gens
 base:Un X.fs X.ex X.H₀ H X.s₀.heap s.heap
 loc:∃ m,s.heap.Ns X.env.locals m/\∀ (i:Nat) (x:Str) (v:V),X.N[i]?=some x->σ[i]?=some (some v)->Vis X.env.scope x->∃ u,RelV v u/\Look X.env s.heap m x u
 cell:∀ x c,X.env.cells.lookup x=some c->∃ v,s.heap.IsCell c v
 free:H X.env.locals=none
 freeC:∀ x c,X.env.cells.lookup x=some c->H c=none
 pin:∀ p∈X.pn++pins,s.heap.get? p.1=some p.2/\H p.1=none/\p.1≠X.env.locals/\p.1 ∉ X.fs/\∀ v,p.2.data≠.cell v
 hok:HOk X.prog X.w H s.heap
 len:σ.length=X.N.length
section
variable {X:Cx}{pins:List (Addr×Obj)} {σ:List (Option V)} {H H':Hp}{s:Shared}{h':Heap}
theorem Cx.Ok.nofr (ok:X.Ok) {b:Addr}{o:Obj} (e:X.base.get? b=some o):b ∉ X.fs:=fun hb=>by
 have:=(ok.funs.mem hb).1
 rw[e]at this;cases this
theorem Inv.bs (I:Inv X pins σ H s):∀ b o,X.base.get? b=some o->s.heap.get? b=some o/\H b=none:=fun b o e=>
 ⟨I.base.keep b o (I.ok.bs b o e).1 (I.ok.bs b o e).2 (I.ok.nofr e) (I.ok.noex b o e),I.base.free b o (I.ok.bs b o e).1 (I.ok.bs b o e).2 (I.ok.noex b o e)⟩
theorem Inv.bk (I:Inv X pins σ H s):∀ b o,X.base.get? b=some o->s.heap.get? b=some o:=fun b o e=>(I.bs b o e).1
theorem Inv.mod (I:Inv X pins σ H s):Mod X.K X.mg X.base:=I.ok.mod
theorem Inv.kIn (I:Inv X pins σ H s):X.K.In s.heap:=I.ok.mod.kin.keeps I.bk
theorem Inv.fr (I:Inv X pins σ H s):∃ m,Fr X.base X.env.locals s.heap m:=
 let ⟨m,hn,_⟩:=I.loc
 ⟨m,hn,I.bk,Nat.le_trans I.ok.bsz I.ok.above⟩
theorem Inv.lt (I:Inv X pins σ H s):X.env.locals<s.heap.objs.size:=let ⟨_,hn,_⟩:=I.loc;hn.lt
theorem Inv.sz (I:Inv X pins σ H s):X.s₀.heap.objs.size<=s.heap.objs.size:=Nat.le_trans I.ok.above (Nat.le_of_lt I.lt)
theorem Inv.nofs (I:Inv X pins σ H s) {a:Addr} (h:s.heap.objs.size<=a):a ∉ X.fs:=fun hb=>by
 obtain⟨_,o,ho,_⟩:=I.ok.funs.mem hb
 exact absurd (Nat.lt_of_lt_of_le (Heap.lt_size ho) (Nat.le_trans I.sz h)) (Nat.lt_irrefl _)
theorem Inv.cne (I:Inv X pins σ H s):∀ x c,X.env.cells.lookup x=some c->c≠X.env.locals:=fun x c e z=>by
 obtain⟨v,o,ho,hd⟩:=I.cell x c e
 obtain⟨m,⟨o',es,ep,ho',hd',_⟩,_⟩:=I.loc
 rw[z,ho']at ho;cases ho;rw[hd']at hd;cases hd
theorem Inv.funs (I:Inv X pins σ H s):s.heap.FunFrames X.base X.outer:=by
 have all:∀ (l:List Env),(∀ b∈frs l,b∈X.fs)->X.s₀.heap.FunFrames X.base l->s.heap.FunFrames X.base l:=by
  intro l
  induction l with
  | nil=>intro _ _;trivial
  | cons env r ih=>
   intro hs hl
   obtain⟨hk,⟨L,o,hf,hn,ho,hd⟩,hr⟩:=hl
   have hL:L∈X.fs:=hs L (by unfold frs;rw[List.filterMap_cons,hf];exact List.mem_cons_self)
   obtain⟨sl,e⟩:=I.base.slot L o ho (I.ok.frf L hL) hL fun z=>I.ok.exfs L z hL
   exact⟨hk,⟨L,_,hf,hn,e,hd⟩,ih (fun b hb=>hs b (by unfold frs;rw[List.filterMap_cons,hf];exact List.mem_cons_of_mem _ hb)) hr⟩
 exact all X.outer (fun _ hb=>hb) I.ok.funs
theorem Inv.stack (I:Inv X pins σ H s):s.heap.FunFrames X.base X.stack:=by
 rcases I.ok.stk with e | ⟨e,hf⟩
 ·rw[e];exact I.funs
 ·rw[e]
  obtain⟨m,hn,_⟩:=I.loc
  refine .cons (by rw[I.ok.kind];decide) hf hn ?_ I.funs
  exact Heap.get?_none_of_le (Nat.le_trans I.ok.bsz I.ok.above)
theorem Inv.stkSub (I:Inv X pins σ H s):∀ b∈frs X.stack,b∈X.env.locals::X.fs:=fun b hb=>by
 rcases I.ok.stk with e | ⟨e,hf⟩
 ·rw[e]at hb;exact List.mem_cons_of_mem _ hb
 ·rw[e]at hb
  unfold frs at hb
  rw[List.filterMap_cons,hf]at hb
  exact hb
theorem Inv.stkFree (I:Inv X pins σ H s):∀ b∈frs X.stack,H b=none:=fun b hb=>by
 rcases List.mem_cons.mp (I.stkSub b hb) with e | hb
 ·rw[e];exact I.free
 ·obtain⟨_,o,ho,_⟩:=I.ok.funs.mem hb
  exact I.base.free b o ho (I.ok.frf b hb) fun z=>I.ok.exfs b z hb
theorem Inv.step {g':Array GenState}{t':Nat}{d':Drawn}{ch:List Addr} (I:Inv X pins σ H s)
  (hch:∀ b∈ch,(b∈X.ex\/X.s₀.heap.objs.size<=b)/\b≠X.env.locals/\(∀ x c,X.env.cells.lookup x=some c->c≠b)/\∀ p∈X.pn++pins,p.1≠b)
  (keep:∀ b o,b≠X.env.locals->b ∉ X.fs->b ∉ ch->s.heap.get? b=some o->H b=none->h'.get? b=some o)
  (slot:∀ b o,b≠X.env.locals->b∈X.fs->b ∉ ch->s.heap.get? b=some o->H b=none->∃ sl,h'.get? b=some { o with slots:=sl }) (free:∀ b o,b ∉ ch->s.heap.get? b=some o->H b=none->H' b=none)
  (there:∀ b o,b ∉ ch->s.heap.get? b=some o->∃ o',h'.get? b=some o')
  (tups:∀ b xs,H b=some (.tup xs)->H' b=some (.tup xs)) (frzs:∀ b o u,H b=some (.frz o u)->H' b=some (.frz o u)) (tbls:∀ b ps,H b=some (.tbl ps)->∃ more,H' b=some (.tbl (ps++more)))
  (ns:∀ m,s.heap.Ns X.env.locals m->h'.Ns X.env.locals m) (hok:HOk X.prog X.w H' h') (hg:AllBare g') :
  Inv X pins σ H' { s with heap:=h',gens:=g',drawn:=d',toks:=t' }:=by
 have neL:∀ b o,X.s₀.heap.get? b=some o->b≠X.env.locals:=fun b o e=>Nat.ne_of_lt (Nat.lt_of_lt_of_le (Heap.lt_size e) I.ok.above)
 have neC:∀ b o,X.s₀.heap.get? b=some o->b ∉ X.ex->b ∉ ch:=fun b o e hx hb=>by
  rcases (hch b hb).1 with z | z
  ·exact hx z
  ·exact absurd (Nat.lt_of_lt_of_le (Heap.lt_size e) z) (Nat.lt_irrefl _)
 have cellK:∀ x c,X.env.cells.lookup x=some c->∀ v,s.heap.IsCell c v->h'.IsCell c v:=fun x c e v ⟨o,ho,hd⟩=>by
  have nch:c ∉ ch:=fun z=>(hch c z).2.2.1 x c e rfl
  by_cases hc:c∈X.fs
  ·obtain⟨sl,q⟩:=slot c o (I.cne x c e) hc nch ho (I.freeC x c e)
   exact⟨_,q,hd⟩
  ·exact⟨o,keep c o (I.cne x c e) hc nch ho (I.freeC x c e),hd⟩
 refine⟨I.ok,I.os,hg,⟨fun b o e n hb hx=>?_,fun b o e n hb hx=>?_,fun b o e n hx=>?_,fun b o e hx=>?_,fun b xs e=>tups b xs (I.base.tups b xs e),fun b o xs e=>frzs b o xs (I.base.frzs b o xs e),fun b ps e=>?_⟩,?_,fun x c e=>?_,?_,fun x c e=>?_,fun p hp=>?_,hok,I.len⟩
 ·exact keep b o (neL b o e) hb (neC b o e hx) (I.base.keep b o e n hb hx) (I.base.free b o e n hx)
 ·obtain⟨sl,e1⟩:=I.base.slot b o e n hb hx
  obtain⟨sl',e2⟩:=slot b _ (neL b o e) hb (neC b o e hx) e1 (I.base.free b o e n hx)
  exact⟨sl',e2⟩
 ·obtain⟨o',e1⟩:=I.base.there b o e hx
  exact free b o' (neC b o e hx) e1 (I.base.free b o e n hx)
 ·obtain⟨o',e1⟩:=I.base.there b o e hx
  exact there b o' (neC b o e hx) e1
 ·obtain⟨m1,e1⟩:=I.base.tbls b ps e
  obtain⟨m2,e2⟩:=tbls b _ e1
  exact⟨m1++m2,by rw[e2,Array.append_assoc]⟩
 ·obtain⟨m,hn,hl⟩:=I.loc
  refine⟨m,ns m hn,fun i x v e1 e2 e3=>?_⟩
  obtain⟨u,r,l⟩:=hl i x v e1 e2 e3
  refine⟨u,r,?_⟩
  rcases l with l | ⟨k,c,e,z⟩
  ·exact .inl l
  ·exact .inr ⟨k,c,e,cellK x c e _ z⟩
 ·obtain⟨v,z⟩:=I.cell x c e
  exact⟨v,cellK x c e v z⟩
 ·obtain⟨m,⟨o,_,_,ho,_⟩,_⟩:=I.loc
  exact free _ o (fun z=>(hch _ z).2.1 rfl) ho I.free
 ·obtain⟨v,o,ho,hd⟩:=I.cell x c e
  exact free c o (fun z=>(hch c z).2.2.1 x c e rfl) ho (I.freeC x c e)
 ·obtain⟨e,n,ne,nf,d⟩:=I.pin p hp
  have nch:p.1 ∉ ch:=fun z=>(hch p.1 z).2.2.2 p hp rfl
  exact⟨keep p.1 p.2 ne nf nch e n,free p.1 p.2 nch e n,ne,nf,d⟩
theorem Inv.un {t':Nat} (I:Inv X pins σ H s) (u:Un X.fs [] H H' s.heap h') (hok:HOk X.prog X.w H' h'):Inv X pins σ H' { s with heap:=h',toks:=t' }:=by
 obtain⟨m,⟨o,es,ep,ho,r⟩,_⟩:=id I.loc
 obtain⟨sl,hL⟩:=u.any ho I.free (by simp)
 exact I.step (g':=s.gens) (d':=s.drawn) (ch:=[]) (fun _ z=>nomatch z) (fun b o _ hb _ e n=>u.keep b o e n hb (by simp)) (fun b o _ hb _ e n=>u.slot b o e n hb (by simp)) (fun b o _ e n=>u.free b o e n (by simp)) (fun b o _ e=>u.there b o e (by simp)) u.tups u.frzs u.tbls (fun m' hm=>by
  obtain⟨o',es',ep',ho',r'⟩:=hm
  rw[ho]at ho';cases ho'
  exact⟨_,es',ep',hL,r'⟩) hok I.bare
theorem Inv.call {g':Array GenState}{t':Nat}{d':Drawn}{ch:List Addr} (I:Inv X pins σ H s) (u:Un (frs X.stack) ch H H' s.heap h') (hok:HOk X.prog X.w H' h') (hg:AllBare g')
  (hch:∀ b∈ch,(b∈X.ex\/X.s₀.heap.objs.size<=b)/\b≠X.env.locals/\(∀ x c,X.env.cells.lookup x=some c->c≠b)/\∀ p∈X.pn++pins,p.1≠b) :
  Inv X pins σ H' { s with heap:=h',gens:=g',drawn:=d',toks:=t' }:=by
 obtain⟨m,⟨o,es,ep,ho,r⟩,_⟩:=id I.loc
 obtain⟨sl,hL⟩:=u.any ho I.free fun z=>(hch _ z).2.1 rfl
 exact I.step (ch:=ch) hch (fun b o hL hb hc e n=>u.keep b o e n (fun z=>(List.mem_cons.mp (I.stkSub b z)).elim hL hb) hc) (fun b o _ _ hc e n=>u.any e n hc) (fun b o hc e n=>u.free b o e n hc) (fun b o hc e=>u.there b o e hc) u.tups u.frzs u.tbls (fun m' hm=>by
  obtain⟨o',es',ep',ho',r'⟩:=hm
  rw[ho]at ho';cases ho'
  exact⟨_,es',ep',hL,r'⟩) hok hg
theorem Inv.turned {t':Nat}{it:Addr} (I:Inv X pins σ H s) (k:∀ b o,b≠it->s.heap.get? b=some o->h'.get? b=some o) (hn:H it=none) (hL:it≠X.env.locals)
  (h1:it∈X.ex\/X.s₀.heap.objs.size<=it) (h2:∀ x c,X.env.cells.lookup x=some c->c≠it) (h3:∀ p∈X.pn++pins,p.1≠it):Inv X pins σ H { s with heap:=h',toks:=t' }:=by
 have nit:∀ b u,H b=some u->b≠it:=fun b u e z=>by rw[z,hn]at e;cases e
 refine I.step (g':=s.gens) (d':=s.drawn) (ch:=[it]) (fun b hb=>?_) (fun b o _ _ hc e _=>k b o (fun z=>hc (by simp [z])) e) (fun b o _ _ hc e _=>⟨o.slots,k b o (fun z=>hc (by simp [z])) e⟩) (fun _ _ _ _ n=>n)
  (fun b o hc e=>⟨o,k b o (fun z=>hc (by simp [z])) e⟩) (fun _ _ e=>e) (fun _ _ _ e=>e) (fun b ps e=>⟨#[],by rw[e];simp⟩) (fun m hm=>?_) (fun b u e=>?_) I.bare
 ·have e:b=it:=by simpa using hb
  subst e
  exact⟨h1,hL,h2,h3⟩
 ·obtain⟨o,es,ep,ho,r⟩:=hm
  exact⟨o,es,ep,k _ o (Ne.symm hL) ho,r⟩
 ·refine (I.hok b u e).stay (fun c v hc q=>k c v ?_ q) (fun _ q=>q) fun _ _ q=>q
  rcases hc with z | z
  ·rw[z];exact nit b u e
  ·exact nit c _ z
theorem Inv.tok (I:Inv X pins σ H s) (t:Nat):Inv X pins σ H { s with toks:=t }:=I.un (h':=s.heap) (t':=t) Un.refl I.hok
theorem Inv.kept {t':Nat} (I:Inv X pins σ H s) (k:∀ b u,s.heap.get? b=some u->h'.get? b=some u):Inv X pins σ H { s with heap:=h',toks:=t' }:=I.un (Un.kept k) (I.hok.kept k)
theorem Inv.laid {a:Addr}{o:HO}{t':Nat} (I:Inv X pins σ H s) (k:∀ b u,s.heap.get? b=some u->h'.get? b=some u) (hp:s.heap.objs.size<=a) (new:ObjOk X.prog X.w (upd H a o) h' a o) :
  Inv X pins σ (upd H a o) { s with heap:=h',toks:=t' }:=I.un (Un.laid k hp (I.hok.fresh hp)) (I.hok.laid k hp new)
theorem Inv.write {x e:Addr}{o:HO}{t':Nat} (I:Inv X pins σ H s) (mu:Mut (H x)) (he:e=x\/H e=some (.own x)) (k:∀ b u,b≠e->s.heap.get? b=some u->h'.get? b=some u) (heo:∃ u,h'.get? e=some u)
  (new:ObjOk X.prog X.w (upd H x o) h' x o):Inv X pins σ (upd H x o) { s with heap:=h',toks:=t' }:=I.un (Un.write mu he k heo) (I.hok.write mu he k heo new)
theorem Inv.weak {σ':List (Option V)} (I:Inv X pins σ H s) (hl:σ'.length=σ.length) (w:∀ (i:Nat) v,σ'[i]?=some (some v)->σ[i]?=some (some v)):Inv X pins σ' H s:=
 ⟨I.ok,I.os,I.bare,I.base,let ⟨m,hn,hl'⟩:=I.loc;⟨m,hn,fun i x v e1 e2 e3=>hl' i x v e1 (w i v e2) e3⟩,I.cell,I.free,I.freeC,I.pin,I.hok,hl.trans I.len⟩
theorem Inv.pins_of {pins':List (Addr×Obj)} (I:Inv X pins σ H s) (h:∀ p∈pins',s.heap.get? p.1=some p.2/\H p.1=none/\p.1≠X.env.locals/\p.1 ∉ X.fs/\∀ v,p.2.data≠.cell v):Inv X pins' σ H s:=
 ⟨I.ok,I.os,I.bare,I.base,I.loc,I.cell,I.free,I.freeC,fun p hp=>(List.mem_append.mp hp).elim (fun z=>I.pin p (List.mem_append_left _ z)) (h p),I.hok,I.len⟩
theorem nodup_ix {N:List Str} (hN:N.Nodup) {i j:Nat}{x:Str} (a:N[i]?=some x) (b:N[j]?=some x):i=j:=by
 obtain⟨h1,e1⟩:=List.getElem?_eq_some_iff.mp a
 obtain⟨h2,e2⟩:=List.getElem?_eq_some_iff.mp b
 exact (List.getElem_inj hN).mp (e1.trans e2.symm)
theorem store_ok2 {M:Model}{A:Around}{E:Value->Shared->Prop}{i:Nat}{x:Str}{v:V}{u:Value}{Q:Unit->Shared->Prop} (I:Inv X pins σ H s) (hN:X.N.Nodup) (hi:X.N[i]?=some x) (hx:Loc X.env.scope x) (r:RelV v u)
  (h:∀ s',Inv X pins (σ.set i (some v)) H s'->(∃ a,Heap.SameBut a s.heap s'.heap/\(a=X.env.locals\/X.env.cells.lookup x=some a))->Q () s') (hf:X.fn x=true\/X.env.scope.names.lookup x=some .local:=by first | exact .inl rfl | exact .inr rfl | assumption):wpAny M A (storeName X.env x u) Q E s:=by
 obtain⟨m,hn,hl⟩:=id I.loc
 have hcls:(X.env.scope.kind == .class || (X.env.scope.kind == .module && X.env.locals != X.env.globals))=false:=by rw[I.ok.kind];rfl
 have hiσ:i < σ.length:=by rw[I.len];exact (List.getElem?_eq_some_iff.mp hi).1
 have cne:=I.cne
 have tracked:∀ {a:Addr}{h':Heap},(∃ o,s.heap.get? a=some o/\H a=none)->Heap.SameBut a s.heap h'->HOk X.prog X.w H h':=fun {a h'} ha hs b ob e=>by
  obtain⟨_,_,hfree⟩:=ha
  refine (I.hok b ob e).stay (fun c w' hc q=>(hs.2 c ?_).trans q) (fun _ q=>q) fun _ _ q=>q
  rintro rfl
  rcases hc with rfl | hc
  ·rw[hfree]at e;cases e
  ·rw[hfree]at hc;cases hc
 rcases hx with hk | hk
 ·refine wpAny_storeName_local hk hn (fun h' hn' hs=>?_) hcls
  obtain⟨oL,_,_,hoL,_⟩:=id hn
  refine h _ ⟨I.ok,I.os,I.bare,⟨fun b o e n hb hx=>?_,fun b o e n hb hx=>?_,I.base.free,fun b o e hx=>?_,I.base.tups,I.base.frzs,I.base.tbls⟩,⟨_,hn',fun j y v' e1 e2 e3=>?_⟩,fun y c e=>?_,I.free,I.freeC,fun p hp=>?_,tracked ⟨oL,hoL,I.free⟩ hs,by simpa using I.len⟩ ⟨_,hs,.inl rfl⟩
  ·exact (hs.2 b (Nat.ne_of_lt (Nat.lt_of_lt_of_le (Heap.lt_size e) I.ok.above))).trans (I.base.keep b o e n hb hx)
  ·obtain⟨sl,e1⟩:=I.base.slot b o e n hb hx
   exact⟨sl,(hs.2 b (Nat.ne_of_lt (Nat.lt_of_lt_of_le (Heap.lt_size e) I.ok.above))).trans e1⟩
  ·obtain⟨o',e1⟩:=I.base.there b o e hx
   exact⟨o',(hs.2 b (Nat.ne_of_lt (Nat.lt_of_lt_of_le (Heap.lt_size e) I.ok.above))).trans e1⟩
  ·by_cases hj:j=i
   ·subst hj
    rw[hi]at e1;cases e1
    rw[List.getElem?_set_self hiσ]at e2
    cases e2
    exact⟨u,r,.inl ⟨hk,by simp⟩⟩
   ·rw[List.getElem?_set_ne (Ne.symm hj)]at e2
    obtain⟨u',r',q⟩:=hl j y v' e1 e2 e3
    refine⟨u',r',?_⟩
    rcases q with ⟨k,e⟩ | ⟨k,c,e,z⟩
    ·refine .inl ⟨k,?_⟩
     have:y≠x:=fun e=>hj (nodup_ix hN e1 (e ▸ hi))
     simp [this,e]
    ·exact .inr ⟨k,c,e,z.sameBut hs (cne y c e)⟩
  ·obtain⟨w',z⟩:=I.cell y c e
   exact⟨w',z.sameBut hs (cne y c e)⟩
  ·obtain⟨e,n,ne,nf,d⟩:=I.pin p hp
   exact⟨(hs.2 p.1 ne).trans e,n,ne,nf,d⟩
 ·have hfn:X.fn x=true:=by
   rcases hf with z | z
   ·exact z
   ·rw[z]at hk;cases hk
  obtain⟨c,hc⟩:=I.ok.has x (.inl hk)
  obtain⟨w',z⟩:=I.cell x c hc
  refine wpAny_storeName_cell I.ok.kind hk hc z (fun h' hc' hs=>?_)
  obtain⟨oc,hoc,hocd⟩:=id z
  refine h { s with heap:=h' } ⟨I.ok,I.os,I.bare,⟨fun b o e n hb hx=>?_,fun b o e n hb hx=>?_,I.base.free,fun b o e hx=>?_,I.base.tups,I.base.frzs,I.base.tbls⟩,⟨m,hn.sameBut hs (Ne.symm (cne x c hc)),fun j y v' e1 e2 e3=>?_⟩,fun y c' e=>?_,I.free,I.freeC,fun p hp=>?_,tracked ⟨oc,hoc,I.freeC x c hc⟩ hs,by simpa using I.len⟩ ⟨c,hs,.inr hc⟩
  ·exact (hs.2 b (Nat.ne_of_lt (Nat.lt_of_lt_of_le (Heap.lt_size e) (I.ok.cab x c hfn hc)))).trans (I.base.keep b o e n hb hx)
  ·obtain⟨sl,e1⟩:=I.base.slot b o e n hb hx
   exact⟨sl,(hs.2 b (Nat.ne_of_lt (Nat.lt_of_lt_of_le (Heap.lt_size e) (I.ok.cab x c hfn hc)))).trans e1⟩
  ·obtain⟨o',e1⟩:=I.base.there b o e hx
   exact⟨o',(hs.2 b (Nat.ne_of_lt (Nat.lt_of_lt_of_le (Heap.lt_size e) (I.ok.cab x c hfn hc)))).trans e1⟩
  ·by_cases hj:j=i
   ·subst hj
    rw[hi]at e1;cases e1
    rw[List.getElem?_set_self hiσ]at e2
    cases e2
    exact⟨u,r,.inr ⟨.inl hk,c,hc,hc'⟩⟩
   ·rw[List.getElem?_set_ne (Ne.symm hj)]at e2
    obtain⟨u',r',q⟩:=hl j y v' e1 e2 e3
    refine⟨u',r',?_⟩
    rcases q with q | ⟨k,c',e,z'⟩
    ·exact .inl q
    ·refine .inr ⟨k,c',e,z'.sameBut hs ?_⟩
     rintro rfl
     exact hj (nodup_ix hN e1 (I.ok.inj _ _ _ e hc ▸ hi))
  ·by_cases hcc:c'=c
   ·subst hcc;exact⟨_,hc'⟩
   ·obtain⟨w2,z2⟩:=I.cell y c' e
    exact⟨w2,z2.sameBut hs hcc⟩
  ·obtain⟨e,n,ne,nf,d⟩:=I.pin p hp
   refine⟨(hs.2 p.1 ?_).trans e,n,ne,nf,d⟩
   intro q
   rw[q,hoc]at e
   have q':oc=p.2:=Option.some.inj e
   exact d w' (by rw[<- q'];exact hocd)
theorem store_ok {M:Model}{A:Around}{E:Value->Shared->Prop}{i:Nat}{x:Str}{v:V}{u:Value}{Q:Unit->Shared->Prop} (I:Inv X pins σ H s) (hN:X.N.Nodup) (hi:X.N[i]?=some x) (hx:Loc X.env.scope x) (r:RelV v u)
  (h:∀ s',Inv X pins (σ.set i (some v)) H s'->Q () s') (hf:X.fn x=true\/X.env.scope.names.lookup x=some .local:=by first | exact .inl rfl | exact .inr rfl | assumption):wpAny M A (storeName X.env x u) Q E s:=
 store_ok2 I hN hi hx r (fun s' I' _=>h s' I') hf
theorem Inv.call' {s':Shared}{ch:List Addr} (I:Inv X pins σ H s) (ho:s'.os=s.os) (u:Un (frs X.stack) ch H H' s.heap s'.heap) (hok:HOk X.prog X.w H' s'.heap) (hg:AllBare s'.gens)
  (hch:∀ b∈ch,(b∈X.ex\/X.s₀.heap.objs.size<=b)/\b≠X.env.locals/\(∀ x c,X.env.cells.lookup x=some c->c≠b)/\∀ p∈X.pn++pins,p.1≠b):Inv X pins σ H' s':=by
 obtain⟨h',g',d',t',o'⟩:=s'
 have e:o'=s.os:=ho
 subst e
 exact I.call (g':=g') (t':=t') (d':=d') u hok hg hch
end
abbrev XK:=Value->Option Addr->Hp->Prop
abbrev St:=List (Option V)
abbrev VK:=V->Hp->Prop
abbrev TE:=St->Hp->VK->Prop
abbrev TT:=St->Hp->(Bool->Hp->Prop)->Prop
abbrev TA:=St->Hp->(List V->Hp->Prop)->Prop
structure Ends where
 nx:St->Hp->Prop
 rt:VK
 bk:St->Hp->Prop:=fun _ _=>False
 ct:St->Hp->Prop:=fun _ _=>False
abbrev TS:=Ends->St->Hp->Prop
def EP (X:Cx) (pins:List (Addr×Obj)) (σ:St) (Q:VK) (u:Value) (s':Shared):Prop:=∃ v H',Inv X pins σ H' s'/\RelV v u/\Q v H'
def TP (X:Cx) (pins:List (Addr×Obj)) (σ:St) (Q:Bool->Hp->Prop) (b:Bool) (s':Shared):Prop:=∃ H',Inv X pins σ H' s'/\Q b H'
def AP (X:Cx) (pins:List (Addr×Obj)) (σ:St) (Q:List V->Hp->Prop) (us:List Value) (s':Shared):Prop:=∃ vs H',Inv X pins σ H' s'/\Vals vs us/\Q vs H'
def SP (X:Cx) (pins:List (Addr×Obj)) (D:Ends) (f:Flow) (s':Shared):Prop:=
 match f with
 | .next=>∃ σ' H',Inv X pins σ' H' s'/\D.nx σ' H'
 | .brk=>∃ σ' H',Inv X pins σ' H' s'/\D.bk σ' H'
 | .cont=>∃ σ' H',Inv X pins σ' H' s'/\D.ct σ' H'
 | .ret u=>∃ v σ' H',Inv X pins σ' H' s'/\RelV v u/\D.rt v H'
def PE (X:Cx) (e:Expr) (t:TE):Prop:=
 ∀ (pins:List (Addr×Obj)) (s:Shared) (σ:St) (H:Hp) (Q:VK),Inv X pins σ H s->t σ H Q->wpAny (model X.prog X.w) X.A (eval e X.env) (EP X pins σ Q) X.xe s
def PT (X:Cx) (e:Expr) (t:TT):Prop:=
 ∀ (pins:List (Addr×Obj)) (s:Shared) (σ:St) (H:Hp) (Q:Bool->Hp->Prop),Inv X pins σ H s->t σ H Q->wpAny (model X.prog X.w) X.A (isTrue e X.env (eval e X.env)) (TP X pins σ Q) X.xe s
def PW (X:Cx) (e:Expr) (t:TT):Prop:=
 ∀ (whole:Sem Value) (pins:List (Addr×Obj)) (s:Shared) (σ:St) (H:Hp) (Q:Bool->Hp->Prop),Inv X pins σ H s->t σ H Q->wpAny (model X.prog X.w) X.A (isTrue e X.env whole) (TP X pins σ Q) X.xe s
theorem PW.pt {X:Cx}{e:Expr}{t:TT} (h:PW X e t):PT X e t:=h _
def PA (X:Cx) (es:List Expr) (t:TA):Prop:=
 ∀ (pos:Pos) (pins:List (Addr×Obj)) (s:Shared) (σ:St) (H:Hp) (Q:List V->Hp->Prop),Inv X pins σ H s->t σ H Q->wpAny (model X.prog X.w) X.A (spliced (backTo pos (starEach es X.env))) (AP X pins σ Q) X.xe s
def PS (X:Cx) (st:Stmt) (t:TS):Prop:=
 ∀ (pins:List (Addr×Obj)) (s:Shared) (σ:St) (H:Hp) (D:Ends),Inv X pins σ H s->t D σ H->wpAny (model X.prog X.w) X.A (exec st X.env) (SP X pins D) X.xe s
def PSs (X:Cx) (st:List Stmt) (t:TS):Prop:=
 ∀ (pins:List (Addr×Obj)) (s:Shared) (σ:St) (H:Hp) (D:Ends),Inv X pins σ H s->t D σ H->wpAny (model X.prog X.w) X.A (execs st X.env) (SP X pins D) X.xe s
theorem thn {α:Type} {t:Sem α}{Q Q':α->Shared->Prop}{M:Model}{A:Around}{E:Value->Shared->Prop}{s:Shared} (h:wpAny M A t Q E s) (hQ:∀ a s,Q a s->Q' a s):wpAny M A t Q' E s:=wpAny_mono h hQ fun _ _ x=>x
end L2
namespace L2
open PySem PySem.Spec PyProof.Rows
section
variable {X:Cx}
def tVar (i:Nat):TE:=fun σ H Q=>∃ v,σ[i]?=some (some v)/\Q v H
def tC (v:V):TE:=fun _ H Q=>Q v H
theorem pe_var {i:Nat}{x:Str}{pos:Pos} (hN:X.N[i]?=some x) (hv:Vis X.env.scope x) (hd:(x == ("__debug__" : Str))=false:=by decide) (hcd:(x == ("__classdict__" : Str))=false:=by decide):PE X (.Name x pos) (tVar i):=by
 intro pins s σ H Q I h
 obtain⟨v,e,h⟩:=h
 obtain⟨m,hn,hl⟩:=I.loc
 obtain⟨u,r,l⟩:=hl i x v hN e hv
 have fin:EP X pins σ Q u s:=⟨v,H,I,r,h⟩
 rcases l with ⟨hk,hm⟩ | ⟨hk,c,hc,hcell⟩
 ·exact wpAny_Name (wpAny_loadName_local I.ok.kind hk hn hm fin) hd
 ·rcases hk with hk | hk
  ·exact wpAny_Name (wpAny_loadName_cell I.ok.kind hk hc hcell fin) hd
  ·exact wpAny_Name (wpAny_loadName_free I.ok.kind hk hc hcell fin hcd) hd
theorem pe_int {i j pos}:PE X (.Constant (.int i) j pos) (tC (.int i)):=fun _ _ _ H _ I h=>wpAny_Constant_int ⟨.int i,H,I.tok _,⟨_,rfl⟩,h⟩
theorem pe_bl {b j pos}:PE X (.Constant (.bool b) j pos) (tC (.bl b)):=fun _ _ _ H _ I h=>Constant_bool ⟨.bl b,H,I,rfl,h⟩
theorem pe_str {x j pos}:PE X (.Constant (.str x) j pos) (tC (.str x)):=fun _ _ _ H _ I h=>Calls.Constant_str ⟨.str x,H,I.tok _,⟨_,rfl⟩,h⟩
def Gl (X:Cx) (x:Str):Prop:=X.env.kindOf x=some .globalImplicit
theorem ld_glob {E:Value->Shared->Prop}{pins:List (Addr×Obj)}{s:Shared} {σ:St} {H:Hp}{x:Str}{u:Value}{pos:Pos}{Q:Value->Shared->Prop} (I:Inv X pins σ H s) (hg:Gl X x) (hm:X.mg x=some u) (h:Q u s)
  (hd:(x == ("__debug__" : Str))=false:=by decide):wpAny (model X.prog X.w) X.A (eval (.Name x pos) X.env) Q E s:=
 Calls.Name_function_global I.ok.kind hg (Calls.loadGlobal_global (by rw[I.ok.glob];exact I.mod.glob.keeps I.bk) hm h) hd
theorem ld_blt {E:Value->Shared->Prop}{pins:List (Addr×Obj)}{s:Shared} {σ:St} {H:Hp}{x:Str}{u:Value}{pos:Pos}{Q:Value->Shared->Prop} (I:Inv X pins σ H s) (hg:Gl X x) (hm:X.mg x=none) (hv:bootBuiltins x=some u) (h:Q u s)
  (hn:x≠"__name__":=by decide) (hd:(x == ("__debug__" : Str))=false:=by decide):wpAny (model X.prog X.w) X.A (eval (.Name x pos) X.env) Q E s:=by
 obtain⟨mb,h1,h2⟩:=I.mod.blt
 exact Calls.Name_function_global I.ok.kind hg (Calls.loadGlobal_builtin (by rw[I.ok.glob];exact I.mod.glob.keeps I.bk) hm (by rw[I.ok.blt];exact h1.keeps I.bk) ((h2 x hn).trans hv) h) hd
theorem pe_glob {x:Str}{v:V}{u:Value}{pos:Pos} (hg:Gl X x) (hm:X.mg x=some u) (r:RelV v u) (hd:(x == ("__debug__" : Str))=false:=by decide):PE X (.Name x pos) (tC v):=
 fun _ _ _ H _ I h=>ld_glob I hg hm ⟨v,H,I,r,h⟩ hd
theorem pe_bltn {x:Str}{v:V}{u:Value}{pos:Pos} (hg:Gl X x) (hm:X.mg x=none) (hv:bootBuiltins x=some u) (r:RelV v u) (hn:x≠"__name__":=by decide) (hd:(x == ("__debug__" : Str))=false:=by decide):PE X (.Name x pos) (tC v):=
 fun _ _ _ H _ I h=>ld_blt I hg hm hv ⟨v,H,I,r,h⟩ hn hd
variable {a b:Expr}{ta tb:TE}{pos:Pos}
def tB (t:TE):TT:=fun σ H Q=>t σ H fun x H1=>∃ c,x=.bl c/\Q c H1
theorem pt_val {e:Expr}{t:TE} (h:PE X e t) (he:∀ whole,isTrue e X.env whole=(do let v <- whole;standAt e.pos;holding [v] (truthy v)):=by intro _;rfl):PT X e (tB t):=by
 intro pins s σ H Q I hw
 refine isTrue_plain (thn (h pins s σ H _ I hw) fun v s1 ⟨x,H1,I1,r1,q1⟩=>?_) (he _)
 obtain⟨d,rfl,q⟩:=q1
 cases r1
 exact wpAny_truthy_bool ⟨H1,I1,q⟩
variable {tA tB':TT}{rest:List Expr}
def tAnd (t u:TT):TT:=fun σ H Q=>t σ H fun c H1=>if c=true then u σ H1 Q else Q false H1
def tOr (t u:TT):TT:=fun σ H Q=>t σ H fun c H1=>if c=true then Q true H1 else u σ H1 Q
def tNot (t:TT):TT:=fun σ H Q=>t σ H fun c H1=>Q (!c) H1
theorem pw_and1 (ha:PT X a tA):PW X (.BoolOp .And [a] pos) tA:=by
 intro wh pins s σ H Q I h
 refine isTrue_and (thn (ha pins s σ H Q I h) fun c s1 e=>?_)
 cases c with
 | true=>exact isTrue_and_nil e
 | false=>exact e
theorem pw_or1 (ha:PT X a tA):PW X (.BoolOp .Or [a] pos) tA:=by
 intro wh pins s σ H Q I h
 refine isTrue_or (thn (ha pins s σ H Q I h) fun c s1 e=>?_)
 cases c with
 | false=>exact isTrue_or_nil e
 | true=>exact e
theorem pw_and (ha:PT X a tA) (hb:PW X (.BoolOp .And (b::rest) pos) tB'):PW X (.BoolOp .And (a::b::rest) pos) (tAnd tA tB'):=by
 intro wh pins s σ H Q I h
 refine isTrue_and (thn (ha pins s σ H _ I h) fun c s1 ⟨H1,I1,q1⟩=>?_)
 cases c with
 | true=>exact hb wh pins s1 σ H1 Q I1 q1
 | false=>exact⟨H1,I1,q1⟩
theorem pw_or (ha:PT X a tA) (hb:PW X (.BoolOp .Or (b::rest) pos) tB'):PW X (.BoolOp .Or (a::b::rest) pos) (tOr tA tB'):=by
 intro wh pins s σ H Q I h
 refine isTrue_or (thn (ha pins s σ H _ I h) fun c s1 ⟨H1,I1,q1⟩=>?_)
 cases c with
 | true=>exact⟨H1,I1,q1⟩
 | false=>exact hb wh pins s1 σ H1 Q I1 q1
theorem pt_not (ha:PT X a tA):PT X (.UnaryOp .Not a pos) (tNot tA):=by
 intro pins s σ H Q I h
 exact isTrue_not (ha pins s σ H (fun c H1=>Q (!c) H1) I h)
def tIf (t:TT) (ta tb:TE):TE:=fun σ H Q=>t σ H fun c H1=>if c=true then ta σ H1 Q else tb σ H1 Q
theorem pe_ifExp {c:Expr} (hc:PT X c tA) (ha:PE X a ta) (hb:PE X b tb):PE X (.IfExp c a b pos) (tIf tA ta tb):=by
 intro pins s σ H Q I h
 refine wpAny_IfExp (thn (hc pins s σ H _ I h) fun d s1 ⟨H1,I1,q1⟩=>?_)
 cases d with
 | true=>exact ha pins s1 σ H1 Q I1 q1
 | false=>exact hb pins s1 σ H1 Q I1 q1
end
end L2
namespace L2
open PySem PySem.Spec PyProof.Rows
def SqL (K:PySem.W.Frag) (H:Hp) (a:Addr) (xs:List V):Prop:=
 Rd H a (.lst xs) \/
  ∃ (o:Obj) (its:Array Value) (n:Nat),K.lookup a=some o/\o.cls=.type "list"/\o.dict=none/\o.data=.seq its n/\its.size<=sizeLine/\Vals xs its.toList
def SqT (K:PySem.W.Frag) (H:Hp) (a:Addr) (xs:List V):Prop:=
 Rd H a (.tup xs) \/
  ∃ (o:Obj) (its:Array Value) (n:Nat),K.lookup a=some o/\o.cls=.type "tuple"/\o.data=.seq its n/\its.size<=sizeLine/\Vals xs its.toList
def absV:Value->Option V
 | .none=>some .non
 | .bool b=>some (.bl b)
 | .int i _=>some (.int i)
 | .str x _=>some (.str x)
 | .bytes b _=>some (.byt b)
 | .float b _=>some (.flt b)
 | .ref a=>some (.ref a)
 | .type n=>some (.ty n)
 | _=>none
theorem RelV.abs {x:V}{u:Value} (r:RelV x u):absV u=some x:=by
 cases x with
 | non=>cases r;rfl
 | bl _=>cases r;rfl
 | int _=>obtain⟨t,rfl⟩:=r;rfl
 | str _=>obtain⟨t,rfl⟩:=r;rfl
 | byt _=>obtain⟨t,rfl⟩:=r;rfl
 | flt _=>obtain⟨t,rfl⟩:=r;rfl
 | ref _=>cases r;rfl
 | ty _=>cases r;rfl
theorem RelV.inj {x y:V}{u:Value} (r:RelV x u) (q:RelV y u):x=y:=Option.some.inj (r.abs.symm.trans q.abs)
theorem Vals.inj:∀ {xs ys:List V}{us:List Value},Vals xs us->Vals ys us->xs=ys
 | _,_,_,.nil,.nil=>rfl
 | _,_,_,.cons r t,.cons r' t'=>by rw[r.inj r',Vals.inj t t']
section
variable {X:Cx}{pins:List (Addr×Obj)} {σ:St} {H:Hp}{s:Shared}{a:Addr}{xs ys:List V}
theorem SqL.of {K:PySem.W.Frag} (h:H a=some (.lst xs)):SqL K H a xs:=.inl (.inl h)
theorem SqT.of {K:PySem.W.Frag} (h:H a=some (.tup xs)):SqT K H a xs:=.inl (.inl h)
theorem Inv.list (I:Inv X pins σ H s) (h:SqL X.K H a xs):∃ its:List Value,Vals xs its/\PlainL s.heap a its.toArray/\xs.length<=sizeLine:=by
 rcases h with h | ⟨o,its,n,hk,hc,hd,hs,hz,r⟩
 ·obtain⟨z,its,n,r,e⟩:=h.ok I.hok
  exact⟨its,r,⟨_,n,e,rfl,rfl,rfl⟩,z⟩
 ·refine⟨its.toList,r,⟨o,n,I.kIn a o hk,hc,hd,by simpa using hs⟩,?_⟩
  have e:=r.length
  simp only[Array.length_toList]at e
  lia
theorem Inv.tuple (I:Inv X pins σ H s) (h:SqT X.K H a xs):∃ its:List Value,Vals xs its/\IsTup s.heap a its.toArray/\xs.length<=sizeLine:=by
 rcases h with h | ⟨o,its,n,hk,hc,hs,hz,r⟩
 ·obtain⟨z,its,r,p⟩:=h.ok I.hok
  exact⟨its,r,p,z.1⟩
 ·refine⟨its.toList,r,⟨o,I.kIn a o hk,hc,n,by simpa using hs⟩,?_⟩
  have e:=r.length
  simp only[Array.length_toList]at e
  lia
theorem Inv.list_inj (I:Inv X pins σ H s) (h:SqL X.K H a xs) (h':SqL X.K H a ys):xs=ys:=by
 obtain⟨its,r,⟨o,n,e,_,_,d⟩,_⟩:=I.list h
 obtain⟨its',r',⟨o',n',e',_,_,d'⟩,_⟩:=I.list h'
 rw[e]at e';cases e'
 rw[d]at d'
 injection d' with d1 _
 have:its=its':=by simpa using congrArg Array.toList d1
 subst this
 exact r.inj r'
theorem Inv.tuple_inj (I:Inv X pins σ H s) (h:SqT X.K H a xs) (h':SqT X.K H a ys):xs=ys:=by
 obtain⟨its,r,⟨o,e,_,n,d⟩,_⟩:=I.tuple h
 obtain⟨its',r',⟨o',e',_,n',d'⟩,_⟩:=I.tuple h'
 rw[e]at e';cases e'
 rw[d]at d'
 injection d' with d1 _
 have:its=its':=by simpa using congrArg Array.toList d1
 subst this
 exact r.inj r'
end
abbrev Cx.wish (X:Cx) (E:Value->Shared->Prop):Cx:={ X with xe:=E }
abbrev Cx.nox (X:Cx):Cx:=X.wish fun _ _=>False
theorem Cx.Ok.wish {X:Cx} (ok:X.Ok) (E:Value->Shared->Prop):(X.wish E).Ok:=
 ⟨ok.mod,ok.kind,ok.glob,ok.blt,ok.above,ok.inj,ok.has,ok.cab,ok.hd,ok.frames,ok.stk,ok.exf,ok.bs,ok.bsz,ok.noex,ok.exfs,ok.funs,ok.frf⟩
theorem Cx.Ok.unwish {X:Cx}{E:Value->Shared->Prop} (ok:(X.wish E).Ok):X.Ok:=
 ⟨ok.mod,ok.kind,ok.glob,ok.blt,ok.above,ok.inj,ok.has,ok.cab,ok.hd,ok.frames,ok.stk,ok.exf,ok.bs,ok.bsz,ok.noex,ok.exfs,ok.funs,ok.frf⟩
section
variable {X:Cx}{pins:List (Addr×Obj)} {σ:St} {H:Hp}{s:Shared}{E:Value->Shared->Prop}
theorem Inv.wish (I:Inv X pins σ H s) (E:Value->Shared->Prop):Inv (X.wish E) pins σ H s:=⟨I.ok.wish E,I.os,I.bare,I.base,I.loc,I.cell,I.free,I.freeC,I.pin,I.hok,I.len⟩
theorem Inv.unwish (I:Inv (X.wish E) pins σ H s):Inv X pins σ H s:=⟨I.ok.unwish,I.os,I.bare,I.base,I.loc,I.cell,I.free,I.freeC,I.pin,I.hok,I.len⟩
theorem SP.unwish {D:Ends}{f:Flow}{s':Shared} (h:SP (X.wish E) pins D f s'):SP X pins D f s':=by
 cases f with
 | next=>obtain⟨σ',H',I,q⟩:=h;exact⟨σ',H',I.unwish,q⟩
 | brk=>obtain⟨σ',H',I,q⟩:=h;exact⟨σ',H',I.unwish,q⟩
 | cont=>obtain⟨σ',H',I,q⟩:=h;exact⟨σ',H',I.unwish,q⟩
 | ret u=>obtain⟨v,σ',H',I,r,q⟩:=h;exact⟨v,σ',H',I.unwish,r,q⟩
theorem PSs.nox {st:List Stmt}{t:TS} (h:PSs X.nox st t):PSs X st t:=fun pins s σ H D I hw=>
 wpAny_mono (h pins s σ H D (I.wish _) hw) (fun _ _ q=>q.unwish) fun _ _ z=>False.elim z
end
section
variable {X:Cx}{st:Stmt}{rest:List Stmt}{t u:TS}{e:Expr}{te:TE}{pos:Pos}
def tNext:TS:=fun D σ H=>D.nx σ H
def tSeq (t u:TS):TS:=fun D σ H=>t { D with nx:=u D } σ H
theorem pss_nil:PSs X [] tNext:=fun _ _ σ H _ I h=>wpAny_execs_nil ⟨σ,H,I,h⟩
theorem pss_cons (h1:PS X st t) (h2:PSs X rest u):PSs X (st::rest) (tSeq t u):=by
 intro pins s σ H D I h
 refine wpAny_execs_cons (thn (h1 pins s σ H { D with nx:=u D } I h) fun f s1 q=>?_)
 cases f with
 | next=>
  obtain⟨σ',H',I',q⟩:=q
  exact h2 pins s1 σ' H' D I' q
 | ret v=>exact q
 | brk=>exact q
 | cont=>exact q
theorem pss_one (h1:PS X st t):PSs X [st] t:=by
 intro pins s σ H D I h
 refine wpAny_execs_cons (thn (h1 pins s σ H D I h) fun f s1 q=>?_)
 cases f with
 | next=>exact wpAny_execs_nil q
 | ret v=>exact q
 | brk=>exact q
 | cont=>exact q
theorem Inv.quiet {pins:List (Addr×Obj)} {σ:St} {H:Hp}{s:Shared} (I:Inv X pins σ H s):interactive X.env=false:=by simp [interactive,I.ok.kind]
def tDrop (te:TE):TS:=fun D σ H=>te σ H fun _ H1=>D.nx σ H1
theorem ps_expr (he:PE X e te) (hs:swapsWith e none pos.line X.env=pure false:=by rfl):PS X (.Expr e pos) (tDrop te):=by
 intro pins s σ H D I h
 exact wpAny_Expr_any (thn (he pins s σ H _ I h) fun v s1 ⟨x,H1,I1,r1,q1⟩=>⟨σ,H1,I1,q1⟩) I.quiet hs
def tRet (te:TE):TS:=fun D σ H=>te σ H D.rt
theorem ps_ret (he:PE X e te):PS X (.Return (some e) pos) (tRet te):=by
 intro pins s σ H D I h
 exact wpAny_Return_some (thn (he pins s σ H _ I h) fun v s1 ⟨x,H1,I1,r1,q1⟩=>⟨x,σ,H1,I1,r1,q1⟩)
def tIfS (c:TT) (t u:TS):TS:=fun D σ H=>c σ H fun b H1=>if b=true then t D σ H1 else u D σ H1
theorem ps_if {c:Expr}{a b:List Stmt}{tc:TT} (hc:PT X c tc) (ha:PSs X a t) (hb:PSs X b u):PS X (.If c a b pos) (tIfS tc t u):=by
 intro pins s σ H D I h
 refine wpAny_If (thn (hc pins s σ H _ I h) fun d s1 ⟨H1,I1,q1⟩=>?_)
 cases d with
 | true=>exact ha pins s1 σ H1 D I1 q1
 | false=>exact hb pins s1 σ H1 D I1 q1
end
abbrev TG:=V->St->Hp->(St->Hp->Prop)->Prop
abbrev TGs:=List V->St->Hp->(St->Hp->Prop)->Prop
def PG (X:Cx) (target:Expr) (t:TG):Prop:=
 ∀ (pins:List (Addr×Obj)) (s:Shared) (σ:St) (H:Hp) (v:V) (u:Value) (Q:St->Hp->Prop),Inv X pins σ H s->RelV v u->t v σ H Q ->
  wpAny (model X.prog X.w) X.A (assign target X.env u) (fun _ s'=>∃ σ' H',Inv X pins σ' H' s'/\Q σ' H') X.xe s
def PGs (X:Cx) (ts:List Expr) (t:TGs):Prop:=
 ∀ (pins:List (Addr×Obj)) (s:Shared) (σ:St) (H:Hp) (vs:List V) (us:List Value) (Q:St->Hp->Prop),Inv X pins σ H s->Vals vs us->t vs σ H Q ->
  wpAny (model X.prog X.w) X.A (assignInOrder ((assignEach ts X.env).map (·.2)) us) (fun _ s'=>∃ σ' H',Inv X pins σ' H' s'/\Q σ' H') X.xe s
abbrev TSet:=V->V->V->Hp->(Hp->Prop)->Prop
def PSet (X:Cx) (t:TSet):Prop:=
 ∀ (pins:List (Addr×Obj)) (s:Shared) (σ:St) (H:Hp) (o i v:V) (ov iv u:Value) (Q:Hp->Prop),Inv X pins σ H s->RelV o ov->RelV i iv->RelV v u->t o i v H Q ->
  wpAny (model X.prog X.w) X.A (setItem ov iv u) (fun _ s'=>∃ H',Inv X pins σ H' s'/\Q H') X.xe s
section
variable {X:Cx}{pos:Pos}
def gName (i:Nat):TG:=fun v σ H Q=>Q (σ.set i (some v)) H
theorem pg_name {i:Nat}{x:Str} (hN:X.N.Nodup) (hi:X.N[i]?=some x) (hx:Loc X.env.scope x) (hf:X.fn x=true\/X.env.scope.names.lookup x=some .local:=by first | exact .inl rfl | exact .inr rfl | assumption):PG X (.Name x pos) (gName i):=by
 intro pins s σ H v u Q I r h
 exact wpAny_assign_Name (store_ok I hN hi hx r (fun s' I'=>⟨_,H,I',h⟩) hf)
def gNil:TGs:=fun vs σ H Q=>vs=[]/\Q σ H
def gCons (t:TG) (u:TGs):TGs:=fun vs σ H Q=>∃ v r,vs=v::r/\t v σ H fun σ' H'=>u r σ' H' Q
theorem pgs_nil:PGs X [] gNil:=by
 intro pins s σ H vs us Q I r h
 obtain⟨e,h⟩:=h
 subst e
 cases r
 exact assignInOrder_nil ⟨σ,H,I,h⟩
theorem pgs_cons {e:Expr}{es:List Expr}{t:TG}{u:TGs} (h1:PG X e t) (h2:PGs X es u)
  (hs:(assignEach (e::es) X.env).map (·.2)=assign e X.env::(assignEach es X.env).map (·.2):=by rfl):PGs X (e::es) (gCons t u):=by
 intro pins s σ H vs us Q I r h
 obtain⟨v,vr,e1,h⟩:=h
 subst e1
 cases r with
 | cons r rr=>
  rw[hs]
  refine assignInOrder_cons (thn (h1 pins s σ H _ _ _ I r h) fun _ s1 ⟨σ1,H1,I1,q1⟩=>?_)
  exact h2 pins s1 σ1 H1 _ _ Q I1 rr q1
def gTup (K:PySem.W.Frag) (n:Nat) (t:TGs):TG:=fun v σ H Q=>∃ a xs,v=.ref a/\SqT K H a xs/\xs.length=n/\t xs σ H Q
theorem pg_tup {es:List Expr}{k:Nat}{t:TGs}{n:Nat} (hc:X.calm=true) (h:PGs X es t)
  (hn:(assignEach es X.env).length=n:=by rfl) (hst:(assignEach es X.env).findIdx? (·.1)=none:=by rfl):PG X (.Tuple es k pos) (gTup X.K n t):=by
 intro pins s σ H v u Q I r hw
 obtain⟨a,xs,e1,hq,hl,hw⟩:=hw
 subst e1
 cases r
 obtain⟨its,rv,ht,hz⟩:=I.tuple hq
 refine assign_Tuple_tuple (I.ok.hd hc) ht (by simp [hn,<- hl,rv.length]) hst fun h' hx=>?_
 have I1:Inv X pins σ H { s with heap:=h' }:=I.kept (t':=s.toks) fun b o e=>hx b o (Nat.ne_of_lt (Heap.lt_size e)) e
 exact h pins _ σ H xs _ Q I1 (by simpa using rv) hw
def gSub (to ti:TE) (t:TSet):TG:=fun v σ H Q=>to σ H fun o H1=>ti σ H1 fun i H2=>t o i v H2 fun H3=>Q σ H3
theorem pg_sub {o i:Expr}{to ti:TE}{t:TSet} (ho:PE X o to) (hi:PE X i ti) (hs:PSet X t)
  (ha:∀ v,assign (.Subscript o i pos) X.env v=(do
   let ov <- holding [v] (eval o X.env)
   let iv <- holding [v,ov] (eval i X.env)
   standAt pos
   holding [v,ov,iv] (setItem ov iv v)
   release [v,ov,iv] []):=by intro _;rfl):PG X (.Subscript o i pos) (gSub to ti t):=by
 intro pins s σ H v u Q I r h
 rw[ha]
 refine wpAny_bind (wpAny_holding (thn (ho pins s σ H _ I h) fun ov s1 ⟨x,H1,I1,r1,q1⟩=>?_))
 refine wpAny_bind (wpAny_holding (thn (hi pins s1 σ H1 _ I1 q1) fun iv s2 ⟨y,H2,I2,r2,q2⟩=>?_))
 refine wpAny_bind (wpAny_standAt (wpAny_bind (wpAny_holding (thn (hs pins s2 σ H2 x y v ov iv u _ I2 r1 r2 r q2) fun _ s3 ⟨H3,I3,q3⟩=>?_))))
 exact wpAny_release ⟨σ,H3,I3,q3⟩
def tAsg (te:TE) (g:TG):TS:=fun D σ H=>te σ H fun x H1=>g x σ H1 D.nx
theorem ps_asg {tg e:Expr}{te:TE}{g:TG} (he:PE X e te) (hg:PG X tg g) (hs:swapsWithSole [tg] e pos.line X.env=pure false:=by rfl) (hw:swappedStores [tg] e X.env=pure none:=by rfl)
  (h1:(assignEach [tg] X.env).map (·.2)=[assign tg X.env]:=by rfl):PS X (.Assign [tg] e pos) (tAsg te g):=by
 intro pins s σ H D I h
 refine wpAny_Assign_stores (thn (he pins s σ H _ I h) fun v s1 ⟨x,H1,I1,r1,q1⟩=>?_) hs hw
 rw[h1]
 exact thn (hg pins s1 σ H1 x v _ I1 r1 q1) fun _ s2 q=>q
theorem ps_set {i:Nat}{x:Str}{e:Expr}{te:TE}{pos':Pos} (hN:X.N.Nodup) (hi:X.N[i]?=some x) (hx:Loc X.env.scope x) (he:PE X e te) (hs:swapsWith e (some (.Name x pos')) pos.line X.env=pure false:=by rfl) (hf:X.fn x=true\/X.env.scope.names.lookup x=some .local:=by first | exact .inl rfl | exact .inr rfl | assumption) :
  PS X (.Assign [.Name x pos'] e pos) (tAsg te (gName i)):=by
 intro pins s σ H D I h
 refine wpAny_Assign_Name (thn (he pins s σ H _ I h) fun v s1 ⟨y,H1,I1,r1,q1⟩=>?_) hs
 exact store_ok I1 hN hi hx r1 (fun s2 I2=>⟨_,H1,I2,q1⟩) hf
end
section
variable {X:Cx}{pos:Pos}
def tWhile (c:TT) (tb:TS):TS:=fun D σ H=>∃ W:Nat->St->Hp->Prop,(∃ m,W m σ H)/\∀ m σ H,W m σ H ->
 c σ H fun b H1=>if b=true then ∃ N:St->Hp->Prop,(∀ σ' H',N σ' H'->∃ m',m'<m/\W m' σ' H')/\tb { D with nx:=N,ct:=N,bk:=D.nx } σ H1 else D.nx σ H1
theorem ps_while {c:Expr}{body:List Stmt}{tc:TT}{tb:TS} (hp:PassesOwn (model X.prog X.w) X.A X.env X.xe) (hc:PT X c tc) (hb:PSs X body tb):PS X (.While c body [] pos) (tWhile tc tb):=by
 intro pins s σ H D I h
 obtain⟨W,⟨m0,w0⟩,turn⟩:=h
 refine wpAny_While (codeAny_whileLoop (fun n s'=>∃ σ' H',Inv X pins σ' H' s'/\W n σ' H') ?_ m0 ⟨σ,H,I,w0⟩)
 rintro n s1 ⟨σ1,H1,I1,w1⟩
 refine wpAny_passesOwn hp (thn (hc pins s1 σ1 H1 _ I1 (turn n σ1 H1 w1)) fun b s2 ⟨H2,I2,q2⟩=>?_)
 cases b with
 | true=>
  obtain⟨N,hN,q2⟩:=q2
  rw[if_pos rfl]
  refine wpAny_passesOwn hp (thn (hb pins s2 σ1 H2 _ I2 q2) fun f s3 q3=>?_)
  cases f with
  | next=>
   obtain⟨σ3,H3,I3,n3⟩:=q3
   obtain⟨m',hm,w3⟩:=hN σ3 H3 n3
   exact⟨m',hm,σ3,H3,I3,w3⟩
  | cont=>
   obtain⟨σ3,H3,I3,n3⟩:=q3
   obtain⟨m',hm,w3⟩:=hN σ3 H3 n3
   exact⟨m',hm,σ3,H3,I3,w3⟩
  | brk=>exact q3
  | ret v=>exact q3
 | false=>
  rw[if_neg Bool.false_ne_true]
  exact wpAny_execs_nil ⟨σ1,H2,I2,q2⟩
end
structure It where
 go:Nat->Hp->Prop
 yld:Nat->Hp->V->Hp->Prop
 stop:Nat->Hp->Prop
def FpOk (X:Cx) (pins:List (Addr×Obj)) (H:Hp) (b:Addr):Prop:=
 H b=none/\b≠X.env.locals/\b ∉ X.fs/\(b∈X.ex\/X.s₀.heap.objs.size<=b)/\(∀ x c,X.env.cells.lookup x=some c->c≠b)/\∀ p∈X.pn++pins,p.1≠b
theorem Inv.fpOk {X:Cx}{pins:List (Addr×Obj)} {σ:St} {H H':Hp}{s:Shared}{b:Addr} (I:Inv X pins σ H s) (hb:s.heap.objs.size<=b) (hn:H' b=none):FpOk X pins H' b:=by
 refine⟨hn,Nat.ne_of_gt (Nat.lt_of_lt_of_le I.lt hb),I.nofs hb,.inr (Nat.le_trans I.sz hb),fun x c e z=>?_,fun p hp z=>?_⟩
 ·obtain⟨v,q⟩:=I.cell x c e
  exact absurd (Nat.lt_of_lt_of_le q.lt (by rw[z];exact hb)) (Nat.lt_irrefl _)
 ·exact absurd (Nat.lt_of_lt_of_le (Heap.lt_size (I.pin p hp).1) (by rw[z];exact hb)) (Nat.lt_irrefl _)
structure Turn (P:Program) (w:World) (K:PySem.W.Frag) (tg:Expr) (J:It) (fp:List Addr) (it:Addr) (tn:Nat->Heap->Prop):Prop where
 mem:it∈fp
 obj:∀ i h,tn i h->∀ b∈fp,∃ o,h.get? b=some o/\∀ v,o.data≠.cell v
 keep:∀ i h h',tn i h->(∀ b∈fp,∀ o,h.get? b=some o->h'.get? b=some o)->tn i h'
 item:∀ (X:Cx),X.prog=P->X.w=w->X.K=K->X.calm=true->∀ (i:Nat) (pins:List (Addr×Obj)) (s:Shared) (σ:St) (H:Hp) (E:Value->Shared->Prop),Inv X pins σ H s->(∀ b∈fp,FpOk X pins H b)->tn i s.heap->J.go i H ->
  wpAny (model P w) X.A (pyNext (.ref it)) (fun r s1=>∃ u,r=some u /\
   wpAny (model P w) X.A (letOwnedTupleGo tg (.ref it) u) (fun _ s2=>∃ x H',Inv X pins σ H' s2/\RelV x u/\J.yld i H x H'/\tn (i+1) s2.heap/\∀ b∈fp,H' b=none) E s1) E s
 done:∀ (X:Cx),X.prog=P->X.w=w->X.K=K->X.calm=true->∀ (i:Nat) (pins:List (Addr×Obj)) (s:Shared) (σ:St) (H:Hp) (E:Value->Shared->Prop),Inv X pins σ H s->(∀ b∈fp,FpOk X pins H b)->tn i s.heap->J.stop i H ->
  wpAny (model P w) X.A (pyNext (.ref it)) (fun r s1=>r=none/\Inv X pins σ H s1) E s
 self:∀ (A:Around) (i:Nat) (s:Shared) (Q:Value->Shared->Prop) (E:Value->Shared->Prop),tn i s.heap->Q (.ref it) s->wpAny (model P w) A (pyIter (.ref it)) Q E s
abbrev TI:=St->Hp->(It->Hp->Prop)->Prop
def PIE (X:Cx) (pins:List (Addr×Obj)) (σ:St) (tg:Expr) (R:It->Hp->Prop) (itv:Value) (s2:Shared):Prop:=
 ∃ (it:Addr) (fp:List Addr) (tn:Nat->Heap->Prop) (J:It) (H':Hp),itv=.ref it/\Inv X pins σ H' s2/\Turn X.prog X.w X.K tg J fp it tn/\tn 0 s2.heap/\(∀ b∈fp,FpOk X pins H' b)/\R J H'
def PI (X:Cx) (tg iter:Expr) (wi:TI):Prop:=
 ∀ (pins:List (Addr×Obj)) (s:Shared) (σ:St) (H:Hp) (R:It->Hp->Prop),Inv X pins σ H s->wi σ H R ->
  wpAny (model X.prog X.w) X.A (eval iter X.env) (fun v s1=>wpAny (model X.prog X.w) X.A (pyIter v) (PIE X pins σ tg R) X.xe s1) X.xe s
theorem go_of {M:Model}{A:Around}{E:Value->Shared->Prop}{s:Shared}{tg:Expr}{it:Addr}{u:Value}{o:Obj}{n:String}{vs:Array Value}{Q:Unit->Shared->Prop} (ho:s.heap.get? it=some o) (hc:o.cls=.type n) (hd:o.data=.fields vs)
    (hn:["enumerate","zip","dict_itemiterator","dict_reverseitemiterator","odict_iterator","itertools.zip_longest","itertools.pairwise"].contains n=false) (hQ:Q () s):wpAny M A (letOwnedTupleGo tg (.ref it) u) Q E s:=by
  unfold letOwnedTupleGo
  cases tg <;> first
    | exact wpAny_pure hQ
    | (cases u <;> first
        | exact wpAny_pure hQ
        | (refine wpAny_bind (wpAny_load ho ?_)
           rw[hc,hd]
           show wpAny M A (if (["enumerate","zip","dict_itemiterator","dict_reverseitemiterator","odict_iterator","itertools.zip_longest","itertools.pairwise"].contains n && vs[0]? == some (rawInt _))=true then _ else _) Q E s
           rw[if_neg (by intro h;rw[hn,Bool.false_and]at h;cases h)]
           exact wpAny_pure hQ))
def Itl (K:PySem.W.Frag) (a:Addr):It:=
 ⟨fun i H=>∃ xs x,SqL K H a xs/\xs[i]?=some x,fun i H x H'=>H'=H/\∀ xs,SqL K H a xs->xs[i]?=some x,fun i H=>∃ xs,SqL K H a xs/\xs.length<=i⟩
def Itt (K:PySem.W.Frag) (a:Addr):It:=
 ⟨fun i H=>∃ xs x,SqT K H a xs/\xs[i]?=some x,fun i H x H'=>H'=H/\∀ xs,SqT K H a xs->xs[i]?=some x,fun i H=>∃ xs,SqT K H a xs/\xs.length<=i⟩
def Itr (lo:Int) (n:Nat):It:=⟨fun i _=>i<n,fun i H x H'=>H'=H/\x=.int (lo+i),fun i _=>n<=i⟩
theorem turn_list {P:Program}{w:World}{K:PySem.W.Frag}{tg:Expr} (a it:Addr):Turn P w K tg (Itl K a) [it] it (fun i h=>h.IsListIter it a i) where
 mem:=by simp
 obj:=fun i h st b hb=>by
  have e:b=it:=by simpa using hb
  subst e
  obtain⟨o,e,c,d⟩:=st
  exact⟨o,e,fun v z=>by rw[d]at z;cases z⟩
 keep:=fun i h h' st k=>st.at fun o e=>k it (by simp) o e
 item:=by
  intro X hP hw hK hc i pins s σ H E I hf st hg
  subst hP hw hK
  obtain⟨xs,x,hq,hx⟩:=hg
  obtain⟨its,rv,p,hz⟩:=I.list hq
  obtain⟨u,hu,ru⟩:=rv.get hx
  obtain⟨f0,f1,f2,f3,f4,f5⟩:=hf it (by simp)
  refine wpAny_pyNext_list_item st p.isList (x:=u) (by simpa using hu) fun h' st' sb=>?_
  have I1:Inv X pins σ H { s with heap:=h' }:=I.turned (t':=s.toks) (fun b o hb e=>(sb.2 b hb).trans e) f0 f1 f3 f4 f5
  obtain⟨o,e,c,d⟩:=id st'
  exact⟨u,rfl,go_of (s:={ s with heap:=h' }) e c d (by decide) ⟨x,H,I1,ru,⟨rfl,fun ys hy=>by rw[I.list_inj hy hq];exact hx⟩,st',fun b hb=>(hf b hb).1⟩⟩
 done:=by
  intro X hP hw hK hc i pins s σ H E I hf st hg
  subst hP hw hK
  obtain⟨xs,hq,hx⟩:=hg
  obtain⟨its,rv,p,hz⟩:=I.list hq
  obtain⟨f0,f1,f2,f3,f4,f5⟩:=hf it (by simp)
  have hl:=rv.length
  exact wpAny_pyNext_list_end (I.ok.hd hc) st p.isList (by simp;lia) fun h' eb=>⟨rfl,I.turned (t':=s.toks) (fun b o hb e=>eb b o hb e) f0 f1 f3 f4 f5⟩
 self:=fun _ _ _ _ _ st h=>wpAny_pyIter_listiter st h
theorem turn_tuple {P:Program}{w:World}{K:PySem.W.Frag}{tg:Expr} (a it:Addr):Turn P w K tg (Itt K a) [it] it (fun i h=>h.IsTupleIter it a i) where
 mem:=by simp
 obj:=fun i h st b hb=>by
  have e:b=it:=by simpa using hb
  subst e
  obtain⟨o,e,c,d⟩:=st
  exact⟨o,e,fun v z=>by rw[d]at z;cases z⟩
 keep:=fun i h h' st k=>st.at fun o e=>k it (by simp) o e
 item:=by
  intro X hP hw hK hc i pins s σ H E I hf st hg
  subst hP hw hK
  obtain⟨xs,x,hq,hx⟩:=hg
  obtain⟨its,rv,p,hz⟩:=I.tuple hq
  obtain⟨u,hu,ru⟩:=rv.get hx
  obtain⟨f0,f1,f2,f3,f4,f5⟩:=hf it (by simp)
  refine wpAny_pyNext_tuple_item st (show s.heap.IsTuple a its.toArray from p) (x:=u) (by simpa using hu) fun h' st' sb=>?_
  have I1:Inv X pins σ H { s with heap:=h' }:=I.turned (t':=s.toks) (fun b o hb e=>(sb.2 b hb).trans e) f0 f1 f3 f4 f5
  obtain⟨o,e,c,d⟩:=id st'
  exact⟨u,rfl,go_of (s:={ s with heap:=h' }) e c d (by decide) ⟨x,H,I1,ru,⟨rfl,fun ys hy=>by rw[I.tuple_inj hy hq];exact hx⟩,st',fun b hb=>(hf b hb).1⟩⟩
 done:=by
  intro X hP hw hK hc i pins s σ H E I hf st hg
  subst hP hw hK
  obtain⟨xs,hq,hx⟩:=hg
  obtain⟨its,rv,p,hz⟩:=I.tuple hq
  obtain⟨f0,f1,f2,f3,f4,f5⟩:=hf it (by simp)
  have hl:=rv.length
  exact wpAny_pyNext_tuple_end (I.ok.hd hc) st (show s.heap.IsTuple a its.toArray from p) (by simp;lia) fun h' eb=>⟨rfl,I.turned (t':=s.toks) (fun b o hb e=>eb b o hb e) f0 f1 f3 f4 f5⟩
 self:=fun _ _ _ _ _ st h=>wpAny_pyIter_tupleiter st h
theorem turn_range {P:Program}{w:World}{K:PySem.W.Frag}{tg:Expr} (it:Addr) (lo:Int) (n:Nat):Turn P w K tg (Itr lo n) [it] it (fun i h=>IsRangeIter h it (lo+(i:Nat) * 1) ((n:Int)-(i:Nat)) 1) where
 mem:=by simp
 obj:=fun i h st b hb=>by
  have e:b=it:=by simpa using hb
  subst e
  exact⟨_,st,fun v z=>by
   have z':Data.fields _=Data.cell v:=z
   cases z'⟩
 keep:=fun i h h' st k=>k it (by simp) _ st
 item:=by
  intro X hP hw hK hc i pins s σ H E I hf st hg
  subst hP hw hK
  obtain⟨f0,f1,f2,f3,f4,f5⟩:=hf it (by simp)
  have W:=Walks.range (prog:=X.prog) (w:=X.w) (I.ok.hd hc) it lo 1 n
  refine W.item i s _ _ hg st fun v h' tk hv st' kk=>?_
  obtain⟨t,rfl⟩:=hv
  have I1:Inv X pins σ H { s with heap:=h',toks:=tk }:=I.turned (fun b o hb e=>kk b o (by simpa using hb) e) f0 f1 f3 f4 f5
  refine⟨_,rfl,go_of (s:={ s with heap:=h',toks:=tk }) (n:="range_iterator") st' rfl rfl (by decide) ⟨.int (lo+i),H,I1,⟨t,?_⟩,⟨rfl,rfl⟩,st',fun b hb=>(hf b hb).1⟩⟩
  rw[Int.mul_one]
 done:=by
  intro X hP hw hK hc i pins s σ H E I hf st hg
  subst hP hw hK
  obtain⟨f0,f1,f2,f3,f4,f5⟩:=hf it (by simp)
  exact wpAny_pyNext_range_end (I.ok.hd hc) st (by have:n<=i:=hg;lia) fun h' eb=>⟨rfl,I.turned (t':=s.toks) (fun b o hb e=>eb b o hb e) f0 f1 f3 f4 f5⟩
 self:=fun _ _ _ _ _ st h=>wpAny_pyIter_rangeiter st h
end L2
namespace L2
open PySem PySem.Spec PyProof.Rows
section
variable {X:Cx}{tg:Expr}
def iList (K:PySem.W.Frag) (tl:TE):TI:=fun σ H R=>tl σ H fun x H1=>∃ a,x=.ref a/\(∃ xs,SqL K H1 a xs)/\R (Itl K a) H1
def iTup (K:PySem.W.Frag) (tl:TE):TI:=fun σ H R=>tl σ H fun x H1=>∃ a,x=.ref a/\(∃ xs,SqT K H1 a xs)/\R (Itt K a) H1
theorem pi_list {l:Expr}{tl:TE} (hl:PE X l tl):PI X tg l (iList X.K tl):=by
 intro pins s σ H R I h
 refine thn (hl pins s σ H _ I h) fun v s1 ⟨x,H1,I1,r1,q1⟩=>?_
 obtain⟨a,e,⟨xs,hq⟩,q⟩:=q1
 subst e
 cases r1
 obtain⟨its,rv,p,hz⟩:=I1.list hq
 refine wpAny_pyIter_list p.isList ?_
 refine⟨s1.heap.objs.size,[s1.heap.objs.size],_,_,H1,rfl,I1.kept (t':=s1.toks) fun b o e=>Heap.get?_push_of_some _ e,turn_list a _,⟨_,Heap.get?_push_size _ rfl,rfl,rfl⟩,fun b hb=>?_,q⟩
 have e:b=s1.heap.objs.size:=by simpa using hb
 subst e
 exact I1.fpOk (Nat.le_refl _) (I1.hok.fresh (Nat.le_refl _))
theorem pi_tup {l:Expr}{tl:TE} (hl:PE X l tl):PI X tg l (iTup X.K tl):=by
 intro pins s σ H R I h
 refine thn (hl pins s σ H _ I h) fun v s1 ⟨x,H1,I1,r1,q1⟩=>?_
 obtain⟨a,e,⟨xs,hq⟩,q⟩:=q1
 subst e
 cases r1
 obtain⟨its,rv,p,hz⟩:=I1.tuple hq
 refine wpAny_pyIter_tuple (show s1.heap.IsTuple a its.toArray from p) ?_
 refine⟨s1.heap.objs.size,[s1.heap.objs.size],_,_,H1,rfl,I1.kept (t':=s1.toks) fun b o e=>Heap.get?_push_of_some _ e,turn_tuple a _,⟨_,Heap.get?_push_size _ rfl,rfl,rfl⟩,fun b hb=>?_,q⟩
 have e:b=s1.heap.objs.size:=by simpa using hb
 subst e
 exact I1.fpOk (Nat.le_refl _) (I1.hok.fresh (Nat.le_refl _))
theorem range_it {pins:List (Addr×Obj)} {σ:St} {H:Hp}{s:Shared}{R:It->Hp->Prop}{E:Value->Shared->Prop}{lo hi:Int}{t u v:Tok}{tk:Nat} (I:Inv X pins σ H s) (h1:-(2 ^ 62)<=lo) (h2:lo<2 ^ 62) (h3:-(2 ^ 62)<=hi) (h4:hi<2 ^ 62)
  (q:R (Itr lo (hi-lo).toNat) H):wpAny (model X.prog X.w) X.A (pyIter (.ref s.heap.objs.size)) (PIE X pins σ tg R) E { s with heap:=s.heap.push { cls:=.type "range",data:=.fields #[.int lo t,.int hi u,.int 1 v] },toks:=tk }:=by
 refine wpAny_pyIter_range (IsRange.new ..) (small_one h1 h2 h3 h4) ?_
 have I1:Inv X pins σ H { s with heap:=s.heap.push { cls:=.type "range",data:=.fields #[.int lo t,.int hi u,.int 1 v] },toks:=tk }:=I.kept fun b o e=>Heap.get?_push_of_some _ e
 refine⟨(s.heap.push { cls:=.type "range",data:=.fields #[.int lo t,.int hi u,.int 1 v] }).objs.size,[(s.heap.push { cls:=.type "range",data:=.fields #[.int lo t,.int hi u,.int 1 v] }).objs.size],_,_,H,rfl,
  I1.kept (t':=tk) fun b o e=>Heap.get?_push_of_some _ e,turn_range _ lo (hi-lo).toNat,?_,fun b hb=>?_,q⟩
 ·have e1:lo+((0:Nat):Int) * 1=lo:=by simp
  have e2:(((hi-lo).toNat:Nat):Int)-((0:Nat):Int)=Builtin.Range.rangeSize lo hi 1:=by rw[rangeSize_one];split <;> lia
  show IsRangeIter _ _ (lo+((0:Nat):Int) * 1) ((((hi-lo).toNat:Nat):Int)-((0:Nat):Int)) 1
  rw[e1,e2]
  exact Heap.get?_push_size _ rfl
 ·have e:b=(s.heap.push { cls:=.type "range",data:=.fields #[.int lo t,.int hi u,.int 1 v] }).objs.size:=by simpa using hb
  subst e
  exact I1.fpOk (Nat.le_refl _) (I1.hok.fresh (Nat.le_refl _))
def iRng1 (ta:TA):TI:=fun σ H R=>ta σ H fun vs H1=>∃ j:Int,vs=[.int j]/\-(2 ^ 62)<=j/\j<2 ^ 62/\R (Itr 0 j.toNat) H1
theorem pi_range1 {a:Expr}{ta:TA}{p pos:Pos} (hg:Gl X "range") (hm:X.mg "range"=none) (ha:PA X [a] ta) (hs:starEach [a] X.env=[(false,eval a X.env)]:=by rfl):PI X tg (.Call (.Name "range" p) [a] [] pos) (iRng1 ta):=by
 intro pins s σ H R I h
 refine Call_ (ld_blt I hg hm boot_range (PyProof.Rows.callWith_type1 (thn (ha pos pins s σ H _ I h) fun us s1 ⟨vs,H1,I1,r1,q1⟩=>?_) hs rfl))
 obtain⟨j,e,q1,q2,q⟩:=q1
 subst e
 cases r1 with
 | cons r rr=>
  cases rr
  obtain⟨t,rfl⟩:=r
  exact call_range_1 (range_it I1 (by lia) (by lia) q1 q2 (by simpa using q))
def tFor (wi:TI) (g:TG) (tb:TS):TS:=fun D σ H=>wi σ H fun J H1=>∃ W:Nat->Nat->St->Hp->Prop,(∃ m,W 0 m σ H1)/\∀ i m σ H,W i m σ H ->
 (J.stop i H/\D.nx σ H)\/(J.go i H/\∃ N:St->Hp->Prop,(∀ σ' H',N σ' H'->∃ m',m'<m/\W (i+1) m' σ' H')/\∀ x H',J.yld i H x H'->g x σ H' fun σ2 H2=>tb { D with nx:=N,ct:=N,bk:=D.nx } σ2 H2)
def pinsAt (fp:List Addr) (h:Heap):List (Addr×Obj):=fp.filterMap fun b=>(h.get? b).map fun o=>(b,o)
theorem mem_pinsAt {fp:List Addr}{h:Heap}{b:Addr}{o:Obj} (hb:b∈fp) (e:h.get? b=some o):(b,o)∈pinsAt fp h:=List.mem_filterMap.mpr ⟨b,hb,by rw[e];rfl⟩
theorem of_pinsAt {fp:List Addr}{h:Heap}{p:Addr×Obj} (hp:p∈pinsAt fp h):p.1∈fp/\h.get? p.1=some p.2:=by
 obtain⟨b,hb,e⟩:=List.mem_filterMap.mp hp
 cases q:h.get? b with
 | none=>rw[q]at e;cases e
 | some o=>
  rw[q]at e
  have e':(b,o)=p:=Option.some.inj e
  subst e'
  exact⟨hb,q⟩
theorem Inv.pinned {pins:List (Addr×Obj)} {σ:St} {H:Hp}{s:Shared}{fp:List Addr} (I:Inv X pins σ H s) (hf:∀ b∈fp,FpOk X pins H b) (ho:∀ b∈fp,∃ o,s.heap.get? b=some o/\∀ v,o.data≠.cell v):Inv X (pins++pinsAt fp s.heap) σ H s:=
 I.pins_of fun p hp=>(List.mem_append.mp hp).elim (fun z=>I.pin p (List.mem_append_right _ z)) fun z=>by
  obtain⟨hb,e⟩:=of_pinsAt z
  obtain⟨f0,f1,f2,_⟩:=hf p.1 hb
  obtain⟨o,e',d⟩:=ho p.1 hb
  rw[e]at e';cases e'
  exact⟨e,f0,f1,f2,d⟩
theorem Inv.unpinned {pins pl:List (Addr×Obj)} {σ:St} {H:Hp}{s:Shared} (I:Inv X (pins++pl) σ H s):Inv X pins σ H s:=I.pins_of fun p hp=>I.pin p (List.mem_append_right _ (List.mem_append_left _ hp))
theorem ps_for {iter:Expr}{body:List Stmt}{wi:TI}{g:TG}{tb:TS}{pos:Pos} (hp:PassesOwn (model X.prog X.w) X.A X.env X.xe) (hc:X.calm=true) (hi:PI X tg iter wi) (hg:PG X tg g) (hb:PSs X body tb)
  (hs:∀ x,foldedSetIterable iter X.env x=pure x:=by intro _;rfl):PS X (.For tg iter body [] pos) (tFor wi g tb):=by
 intro pins s σ H D I h
 refine wpAny_For (thn (hi pins s σ H _ I h) fun v s1 h1=>thn h1 fun itv s2 h2=>?_) hs
 obtain⟨it,fp,tn,J,H2,e,I2,T,st2,f2,W,⟨m0,w0⟩,turn⟩:=h2
 subst e
 -- what stays true of the iterator's objects through the loop
 have stat:∀ {H':Hp},(∀ b∈fp,H' b=none)->∀ b∈fp,FpOk X pins H' b:=fun hn b hb=>⟨hn b hb,(f2 b hb).2⟩
 refine codeAny_forLoop_any (fun n s'=>∃ i σ' H',Inv X pins σ' H' s'/\tn i s'.heap/\(∀ b∈fp,H' b=none)/\W i n σ' H') ?_ m0 ⟨0,σ,H2,I2,st2,fun b hb=>(f2 b hb).1,w0⟩
 rintro n s3 ⟨i,σ3,H3,I3,st3,fr3,w3⟩
 rcases turn i n σ3 H3 w3 with ⟨stop,qn⟩ | ⟨go,N,hN,step⟩
 ·refine wpAny_passesOwn hp (thn (T.done X rfl rfl rfl hc i pins s3 σ3 H3 X.xe I3 (stat fr3) st3 stop) fun r s4 ⟨hr,I4⟩=>?_)
  subst hr
  exact wpAny_execs_nil ⟨σ3,H3,I4,qn⟩
 ·refine wpAny_passesOwn hp (thn (T.item X rfl rfl rfl hc i pins s3 σ3 H3 X.xe I3 (stat fr3) st3 go) fun r s4 ⟨u,hr,h4⟩=>?_)
  subst hr
  refine wpAny_passesOwn hp (thn h4 fun _ s5 ⟨x,H5,I5,r5,y5,st5,fr5⟩=>?_)
  have I5':=I5.pinned (stat fr5) (T.obj _ _ st5)
  refine wpAny_passesOwn hp (thn (hg _ s5 σ3 H5 x u _ I5' r5 (step x H5 y5)) fun _ s6 ⟨σ6,H6,I6,q6⟩=>?_)
  refine wpAny_passesOwn hp (thn (hb _ s6 σ6 H6 _ I6 q6) fun f s7 q7=>?_)
  have again:∀ {σ7:St} {H7:Hp},Inv X (pins++pinsAt fp s5.heap) σ7 H7 s7->N σ7 H7->∃ m,m<n/\∃ i σ' H',Inv X pins σ' H' s7/\tn i s7.heap/\(∀ b∈fp,H' b=none)/\W i m σ' H':=fun {σ7 H7} I7 n7=>by
   obtain⟨m',hm,w7⟩:=hN σ7 H7 n7
   refine⟨m',hm,i+1,σ7,H7,I7.unpinned,T.keep _ _ _ st5 fun b hb o e=>(I7.pin (b,o) (List.mem_append_right _ (List.mem_append_right _ (mem_pinsAt hb e)))).1,fun b hb=>?_,w7⟩
   obtain⟨o,e,d⟩:=T.obj _ _ st5 b hb
   exact (I7.pin (b,o) (List.mem_append_right _ (List.mem_append_right _ (mem_pinsAt hb e)))).2.1
  cases f with
  | next=>obtain⟨σ7,H7,I7,n7⟩:=q7;exact again I7 n7
  | cont=>obtain⟨σ7,H7,I7,n7⟩:=q7;exact again I7 n7
  | brk=>obtain⟨σ7,H7,I7,q7⟩:=q7;exact⟨σ7,H7,I7.unpinned,q7⟩
  | ret v=>obtain⟨x7,σ7,H7,I7,r7,q7⟩:=q7;exact⟨x7,σ7,H7,I7.unpinned,r7,q7⟩
end
theorem for_tup {K:PySem.W.Frag}{a:Addr}{xs:List V}{g:TG}{tb:TS}{D:Ends} {σ:St} {H:Hp} (Pv:Nat->St->Hp->Prop) (h0:Pv 0 σ H) (hl:∀ i σ H,i<=xs.length->Pv i σ H->SqT K H a xs)
  (hs:∀ i x σ H,xs[i]?=some x->Pv i σ H->g x σ H fun σ2 H2=>tb { D with nx:=Pv (i+1),ct:=Pv (i+1),bk:=D.nx } σ2 H2) (hd:∀ σ H,Pv xs.length σ H->D.nx σ H) :
  ∃ W:Nat->Nat->St->Hp->Prop,(∃ m,W 0 m σ H)/\∀ i m σ H,W i m σ H ->
   ((Itt K a).stop i H/\D.nx σ H)\/((Itt K a).go i H/\∃ N:St->Hp->Prop,(∀ σ' H',N σ' H'->∃ m',m'<m/\W (i+1) m' σ' H')/\∀ x H',(Itt K a).yld i H x H'->g x σ H' fun σ2 H2=>tb { D with nx:=N,ct:=N,bk:=D.nx } σ2 H2):=by
 refine⟨fun i m σ H=>m=xs.length-i/\i<=xs.length/\Pv i σ H,⟨xs.length,by simp,Nat.zero_le _,h0⟩,?_⟩
 rintro i m σ H ⟨rfl,hi,p⟩
 have q:=hl i σ H hi p
 by_cases hlt:i<xs.length
 ·refine .inr ⟨⟨xs,xs[i],q,by simp [hlt]⟩,Pv (i+1),fun σ' H' p'=>⟨xs.length-(i+1),by lia,rfl,hlt,p'⟩,fun x H' y=>?_⟩
  obtain⟨e,y⟩:=y
  subst e
  exact hs i x σ _ (y xs q) p
 ·have e:i=xs.length:=by lia
  subst e
  exact .inl ⟨⟨xs,q,Nat.le_refl _⟩,hd σ H p⟩
theorem for_range {lo:Int}{n:Nat}{g:TG}{tb:TS}{D:Ends} {σ:St} {H:Hp} (Pv:Nat->St->Hp->Prop) (h0:Pv 0 σ H)
  (hs:∀ i σ H,i<n->Pv i σ H->g (.int (lo+i)) σ H fun σ2 H2=>tb { D with nx:=Pv (i+1),ct:=Pv (i+1),bk:=D.nx } σ2 H2) (hd:∀ σ H,Pv n σ H->D.nx σ H) :
  ∃ W:Nat->Nat->St->Hp->Prop,(∃ m,W 0 m σ H)/\∀ i m σ H,W i m σ H ->
   ((Itr lo n).stop i H/\D.nx σ H)\/((Itr lo n).go i H/\∃ N:St->Hp->Prop,(∀ σ' H',N σ' H'->∃ m',m'<m/\W (i+1) m' σ' H')/\∀ x H',(Itr lo n).yld i H x H'->g x σ H' fun σ2 H2=>tb { D with nx:=N,ct:=N,bk:=D.nx } σ2 H2):=by
 refine⟨fun i m σ H=>m=n-i/\i<=n/\Pv i σ H,⟨n,by simp,Nat.zero_le _,h0⟩,?_⟩
 rintro i m σ H ⟨rfl,hi,p⟩
 by_cases hlt:i<n
 ·refine .inr ⟨hlt,Pv (i+1),fun σ' H' p'=>⟨n-(i+1),by lia,rfl,hlt,p'⟩,fun x H' y=>?_⟩
  obtain⟨e,y⟩:=y
  subst e y
  exact hs i σ _ hlt p
 ·have e:i=n:=by lia
  subst e
  exact .inl ⟨Nat.le_refl _,hd σ H p⟩
end L2
namespace L2
open PySem PySem.Spec PyProof.Rows
abbrev R2:=V->V->Hp->VK->Prop
def OpR (X:Cx) (f:Value->Value->Sem Value) (r:R2):Prop:=
 ∀ (pins:List (Addr×Obj)) (s:Shared) (σ:St) (H:Hp) (x y:V) (v u:Value) (Q:VK),Inv X pins σ H s->RelV x v->RelV y u->r x y H Q ->
  wpAny (model X.prog X.w) X.A (f v u) (EP X pins σ Q) X.xe s
def UnR (X:Cx) (f:Value->Sem Value) (r:V->Hp->VK->Prop):Prop:=
 ∀ (pins:List (Addr×Obj)) (s:Shared) (σ:St) (H:Hp) (x:V) (v:Value) (Q:VK),Inv X pins σ H s->RelV x v->r x H Q ->
  wpAny (model X.prog X.w) X.A (f v) (EP X pins σ Q) X.xe s
def CallR (X:Cx) (f:Value) (r:List V->Hp->VK->Prop):Prop:=
 ∀ (pins:List (Addr×Obj)) (s:Shared) (σ:St) (H:Hp) (xs:List V) (us:List Value) (Q:VK),Inv X pins σ H s->Vals xs us->r xs H Q ->
  wpAny (model X.prog X.w) X.A (call f us) (EP X pins σ Q) X.xe s
def TruR (X:Cx) (r:V->Hp->(Bool->Hp->Prop)->Prop):Prop:=
 ∀ (pins:List (Addr×Obj)) (s:Shared) (σ:St) (H:Hp) (x:V) (v:Value) (Q:Bool->Hp->Prop),Inv X pins σ H s->RelV x v->r x H Q ->
  wpAny (model X.prog X.w) X.A (truthy v) (TP X pins σ Q) X.xe s
def tOp (r:R2) (ta tb:TE):TE:=fun σ H Q=>ta σ H fun x H1=>tb σ H1 fun y H2=>r x y H2 Q
def tUn (r:V->Hp->VK->Prop) (ta:TE):TE:=fun σ H Q=>ta σ H fun x H1=>r x H1 Q
def rI (C:Int->Int->Prop) (g:Int->Int->V):R2:=fun x y H Q=>∃ i j,x=.int i/\y=.int j/\C i j/\Q (g i j) H
def rI0 (g:Int->Int->V):R2:=fun x y H Q=>∃ i j,x=.int i/\y=.int j/\Q (g i j) H
def rU (g:Int->V):V->Hp->VK->Prop:=fun x H Q=>∃ i,x=.int i/\Q (g i) H
section
variable {X:Cx}{a b c:Expr}{ta tb tc:TE}{pos:Pos}
theorem binT (ha:PE X a ta) (hb:PE X b tb) {pins:List (Addr×Obj)}{s:Shared} {σ:St} {H:Hp}{R:V->V->Hp->Prop} (I:Inv X pins σ H s)
  (h:ta σ H fun x H1=>tb σ H1 fun y H2=>R x y H2) {Q:Value->Shared->Prop}{f:Value->Value->Sem Value}
  (hf:∀ v u s2 x y H2,Inv X pins σ H2 s2->RelV x v->RelV y u->R x y H2->wpAny (model X.prog X.w) X.A (f v u) Q X.xe s2) :
  wpAny (model X.prog X.w) X.A (eval a X.env) (fun v s₁=>wpAny (model X.prog X.w) X.A (eval b X.env) (fun u s₂=>wpAny (model X.prog X.w) X.A (f v u) Q X.xe s₂) X.xe s₁) X.xe s:=by
 refine thn (ha pins s σ H _ I h) fun v s1 ⟨x,H1,I1,r1,q1⟩=>?_
 refine thn (hb pins s1 σ H1 _ I1 q1) fun u s2 ⟨y,H2,I2,r2,q2⟩=>?_
 exact hf v u s2 x y H2 I2 r1 r2 q2
theorem pe_op {op:Operator}{r:R2} (ho:OpR X (binaryOp op) r) (ha:PE X a ta) (hb:PE X b tb):PE X (.BinOp a op b pos) (tOp r ta tb):=by
 intro pins s σ H Q I h
 exact wpAny_BinOp (binT ha hb I h fun v u s2 x y H2 I2 rx ry q=>ho pins s2 σ H2 x y v u Q I2 rx ry q)
theorem pe_un {op:UnaryOp}{r:V->Hp->VK->Prop} (ho:UnR X (unaryOp op) r) (ha:PE X a ta):PE X (.UnaryOp op a pos) (tUn r ta):=by
 intro pins s σ H Q I h
 exact UnaryOp_ (thn (ha pins s σ H _ I h) fun v s1 ⟨x,H1,I1,r1,q1⟩=>ho pins s1 σ H1 x v Q I1 r1 q1)
theorem opI {f:Value->Value->Sem Value}{C:Int->Int->Prop}{g:Int->Int->Int}
  (rule:∀ (i j:Int) (t u:Tok) (s:Shared) (Q:Value->Shared->Prop) (E:Value->Shared->Prop),C i j->Q (.int (g i j) s.toks) { s with toks:=s.toks+1 }->wpAny (model X.prog X.w) X.A (f (.int i t) (.int j u)) Q E s) :
  OpR X f (rI C fun i j=>.int (g i j)):=by
 intro pins s σ H x y v u Q I rx ry h
 obtain⟨i,j,rfl,rfl,hc,q⟩:=h
 obtain⟨t,rfl⟩:=rx
 obtain⟨t',rfl⟩:=ry
 exact rule i j t t' s _ _ hc ⟨.int (g i j),H,I.tok _,⟨_,rfl⟩,q⟩
theorem opI0 {f:Value->Value->Sem Value}{g:Int->Int->Int}
  (rule:∀ (i j:Int) (t u:Tok) (s:Shared) (Q:Value->Shared->Prop) (E:Value->Shared->Prop),Q (.int (g i j) s.toks) { s with toks:=s.toks+1 }->wpAny (model X.prog X.w) X.A (f (.int i t) (.int j u)) Q E s) :
  OpR X f (rI0 fun i j=>.int (g i j)):=by
 intro pins s σ H x y v u Q I rx ry h
 obtain⟨i,j,rfl,rfl,q⟩:=h
 obtain⟨t,rfl⟩:=rx
 obtain⟨t',rfl⟩:=ry
 exact rule i j t t' s _ _ ⟨.int (g i j),H,I.tok _,⟨_,rfl⟩,q⟩
theorem opB0 {f:Value->Value->Sem Value}{g:Int->Int->Bool}
  (rule:∀ (i j:Int) (t u:Tok) (s:Shared) (Q:Value->Shared->Prop) (E:Value->Shared->Prop),Q (.bool (g i j)) s->wpAny (model X.prog X.w) X.A (f (.int i t) (.int j u)) Q E s) :
  OpR X f (rI0 fun i j=>.bl (g i j)):=by
 intro pins s σ H x y v u Q I rx ry h
 obtain⟨i,j,rfl,rfl,q⟩:=h
 obtain⟨t,rfl⟩:=rx
 obtain⟨t',rfl⟩:=ry
 exact rule i j t t' s _ _ ⟨.bl (g i j),H,I,rfl,q⟩
def CDiv (i j:Int):Prop:=0<j/\j<1073741824
def CPow (i j:Int):Prop:=0<=j/\j<=1000000/\i.natAbs<2 ^ 64
def CMul (i j:Int):Prop:=(-(2 ^ 64)<i/\i<2 ^ 64)\/(-(2 ^ 64)<j/\j<2 ^ 64)
theorem CMul.ok {i j:Int} (h:CMul i j):IntMulOk i j:=by
 rcases h with ⟨h1,h2⟩ | ⟨h1,h2⟩
 ·exact .of_left (intBits_le_64 h1 h2)
 ·exact .of_right (intBits_le_64 h1 h2)
theorem op_add:OpR X (binaryOp .Add) (rI0 fun i j=>.int (i+j)):=opI0 fun _ _ _ _ _ _ _ q=>add_int q
theorem op_sub:OpR X (binaryOp .Sub) (rI0 fun i j=>.int (i-j)):=opI0 fun _ _ _ _ _ _ _ q=>sub_int q
theorem op_mul:OpR X (binaryOp .Mult) (rI CMul fun i j=>.int (i * j)):=opI fun _ _ _ _ _ _ _ hc q=>mul_int q hc.ok
theorem op_fdiv:OpR X (binaryOp .FloorDiv) (rI CDiv fun i j=>.int (i / j)):=opI fun i j _ _ _ _ _ hc q=>by
 have h1:(0:Int)<j:=hc.1
 have h2:j<1073741824:=hc.2
 exact floordiv_int (by lia) (by rw[Int.fdiv_eq_ediv_of_nonneg i (by lia)];exact q) (.inl (PyProof.noPylong_small (by lia)))
theorem op_mod:OpR X (binaryOp .Mod) (rI (fun _ j=>0<j) fun i j=>.int (i % j)):=opI fun i j _ _ _ _ _ hc q=>by
 have h1:(0:Int)<j:=hc
 exact mod_int' (by lia) (by rw[Int.fmod_eq_emod_of_nonneg i (by lia)];exact q)
theorem op_pow:OpR X (binaryOp .Pow) (rI CPow fun i j=>.int (i ^ j.toNat)):=opI fun _ _ _ _ _ _ _ hc q=>pow_int_small hc.1 hc.2.1 hc.2.2 q
theorem unI {f:Value->Sem Value}{g:Int->Int}
  (rule:∀ (i:Int) (t:Tok) (s:Shared) (Q:Value->Shared->Prop) (E:Value->Shared->Prop),Q (.int (g i) s.toks) { s with toks:=s.toks+1 }->wpAny (model X.prog X.w) X.A (f (.int i t)) Q E s) :
  UnR X f (rU fun i=>.int (g i)):=by
 intro pins s σ H x v Q I rx h
 obtain⟨i,rfl,q⟩:=h
 obtain⟨t,rfl⟩:=rx
 exact rule i t s _ _ ⟨.int (g i),H,I.tok _,⟨_,rfl⟩,q⟩
theorem un_neg:UnR X (unaryOp .USub) (rU fun i=>.int (-i)):=unI fun _ _ _ _ _ q=>neg_int q
end
def scal:V->V->Bool
 | .non,.non=>true | .non,.int _=>true | .int _,.non=>true | .non,.bl _=>true | .bl _,.non=>true | .non,.str _=>true | .str _,.non=>true
 | .int _,.int _=>true | .bl _,.bl _=>true | .str _,.str _=>true | .byt _,.byt _=>true
 | .int _,.str _=>true | .str _,.int _=>true | .bl _,.str _=>true | .str _,.bl _=>true
 | _,_=>false
def rEq:R2:=fun x y H Q=>scal x y=true/\Q (.bl (decide (x=y))) H
def rNe:R2:=fun x y H Q=>scal x y=true/\Q (.bl (!decide (x=y))) H
theorem dec_int {i j:Int}:decide (V.int i=V.int j)=(i == j):=by
 rw[Bool.eq_iff_iff]
 simp
theorem dec_bl {i j:Bool}:decide (V.bl i=V.bl j)=(i == j):=by
 rw[Bool.eq_iff_iff]
 simp
theorem dec_str {i j:Str}:decide (V.str i=V.str j)=(i == j):=by
 rw[Bool.eq_iff_iff]
 simp
theorem dec_byt {i j:Array UInt8}:decide (V.byt i=V.byt j)=(i.toList == j.toList):=by
 rw[Bool.eq_iff_iff]
 cases i
 cases j
 simp
section
variable {X:Cx}{a b c:Expr}{ta tb tc:TE}{pos:Pos}
theorem fin_bl {pins:List (Addr×Obj)} {σ:St} {H:Hp}{s:Shared}{Q:VK}{k k':Bool} (I:Inv X pins σ H s) (q:Q (.bl k) H) (e:k=k'):EP X pins σ Q (.bool k') s:=by
 subst e
 exact⟨.bl k,H,I,rfl,q⟩
theorem op_eq:OpR X (compareOp .Eq) rEq:=by
 intro pins s σ H x y v u Q I rx ry h
 obtain⟨hs,q⟩:=h
 cases x with
 | non=>
  cases rx
  cases y with
  | non=>cases ry;exact PySem.EqNone.eq_none_none (fin_bl I q (by simp))
  | bl j=>cases ry;exact PySem.EqNone.eq_none_bool (fin_bl I q (by simp))
  | int j=>obtain⟨t',rfl⟩:=ry;exact PySem.EqNone.eq_none_int (fin_bl I q (by simp))
  | str j=>obtain⟨t',rfl⟩:=ry;exact PySem.EqNone.eq_none_str (fin_bl I q (by simp))
  | _=>exact absurd (show false=true from hs) Bool.false_ne_true
 | bl i=>
  cases rx
  cases y with
  | non=>cases ry;exact PySem.EqNone.eq_bool_none (fin_bl I q (by simp))
  | bl j=>cases ry;exact eq_bool (fin_bl I q dec_bl)
  | str j=>obtain⟨t',rfl⟩:=ry;exact PySem.EqMixed.eq_bool_str (fin_bl I q (by simp))
  | _=>exact absurd (show false=true from hs) Bool.false_ne_true
 | int i=>
  obtain⟨t,rfl⟩:=rx
  cases y with
  | non=>cases ry;exact PySem.EqNone.eq_int_none (fin_bl I q (by simp))
  | int j=>obtain⟨t',rfl⟩:=ry;exact eq_int (fin_bl I q dec_int)
  | str j=>obtain⟨t',rfl⟩:=ry;exact PySem.EqMixed.eq_int_str (fin_bl I q (by simp))
  | _=>exact absurd (show false=true from hs) Bool.false_ne_true
 | str i=>
  obtain⟨t,rfl⟩:=rx
  cases y with
  | non=>cases ry;exact PySem.EqNone.eq_str_none (fin_bl I q (by simp))
  | bl j=>cases ry;exact PySem.EqMixed.eq_str_bool (fin_bl I q (by simp))
  | int j=>obtain⟨t',rfl⟩:=ry;exact PySem.EqMixed.eq_str_int (fin_bl I q (by simp))
  | str j=>obtain⟨t',rfl⟩:=ry;exact eq_str (fin_bl I q dec_str)
  | _=>exact absurd (show false=true from hs) Bool.false_ne_true
 | byt i=>
  obtain⟨t,rfl⟩:=rx
  cases y with
  | byt j=>obtain⟨t',rfl⟩:=ry;exact PySem.W.eq_bytes (fin_bl I q dec_byt)
  | _=>exact absurd (show false=true from hs) Bool.false_ne_true
 | _=>cases y <;> exact absurd (show false=true from hs) Bool.false_ne_true
theorem op_ne:OpR X (compareOp .NotEq) rNe:=by
 intro pins s σ H x y v u Q I rx ry h
 obtain⟨hs,q⟩:=h
 cases x with
 | non=>
  cases rx
  cases y with
  | non=>cases ry;exact PySem.EqNone.ne_none_none (fin_bl I q (by simp))
  | bl j=>cases ry;exact PySem.EqNone.ne_none_bool (fin_bl I q (by simp))
  | int j=>obtain⟨t',rfl⟩:=ry;exact PySem.EqNone.ne_none_int (fin_bl I q (by simp))
  | str j=>obtain⟨t',rfl⟩:=ry;exact PySem.EqNone.ne_none_str (fin_bl I q (by simp))
  | _=>exact absurd (show false=true from hs) Bool.false_ne_true
 | bl i=>
  cases rx
  cases y with
  | non=>cases ry;exact PySem.EqNone.ne_bool_none (fin_bl I q (by simp))
  | bl j=>cases ry;exact ne_bool (fin_bl I q (congrArg not dec_bl))
  | str j=>obtain⟨t',rfl⟩:=ry;exact PySem.EqMixed.ne_bool_str (fin_bl I q (by simp))
  | _=>exact absurd (show false=true from hs) Bool.false_ne_true
 | int i=>
  obtain⟨t,rfl⟩:=rx
  cases y with
  | non=>cases ry;exact PySem.EqNone.ne_int_none (fin_bl I q (by simp))
  | int j=>obtain⟨t',rfl⟩:=ry;exact ne_int (fin_bl I q (congrArg not dec_int))
  | str j=>obtain⟨t',rfl⟩:=ry;exact PySem.EqMixed.ne_int_str (fin_bl I q (by simp))
  | _=>exact absurd (show false=true from hs) Bool.false_ne_true
 | str i=>
  obtain⟨t,rfl⟩:=rx
  cases y with
  | non=>cases ry;exact PySem.EqNone.ne_str_none (fin_bl I q (by simp))
  | bl j=>cases ry;exact PySem.EqMixed.ne_str_bool (fin_bl I q (by simp))
  | int j=>obtain⟨t',rfl⟩:=ry;exact PySem.EqMixed.ne_str_int (fin_bl I q (by simp))
  | str j=>obtain⟨t',rfl⟩:=ry;exact ne_str (fin_bl I q (congrArg not dec_str))
  | _=>exact absurd (show false=true from hs) Bool.false_ne_true
 | byt i=>
  obtain⟨t,rfl⟩:=rx
  cases y with
  | byt j=>obtain⟨t',rfl⟩:=ry;exact PySem.W.ne_bytes (fin_bl I q (congrArg not dec_byt))
  | _=>exact absurd (show false=true from hs) Bool.false_ne_true
 | _=>cases y <;> exact absurd (show false=true from hs) Bool.false_ne_true
theorem op_lt:OpR X (compareOp .Lt) (rI0 fun i j=>.bl (decide (i<j))):=opB0 fun _ _ _ _ _ _ _ q=>lt_int q
theorem op_gt:OpR X (compareOp .Gt) (rI0 fun i j=>.bl (decide (j<i))):=opB0 fun _ _ _ _ _ _ _ q=>gt_int q
theorem op_ge:OpR X (compareOp .GtE) (rI0 fun i j=>.bl (decide (j<=i))):=opB0 fun _ _ _ _ _ _ _ q=>ge_int q
theorem OpR.or {f:Value->Value->Sem Value}{r r':R2} (h:OpR X f r) (h':OpR X f r'):OpR X f (fun x y H Q=>r x y H Q\/r' x y H Q):=by
 intro pins s σ H x y v u Q I rx ry q
 rcases q with q | q
 ·exact h pins s σ H x y v u Q I rx ry q
 ·exact h' pins s σ H x y v u Q I rx ry q
theorem nomark (b:Expr) {op:CmpOp} (h:op≠.In:=by decide) (h2:op≠.NotIn:=by decide):behindInMarks op b=false:=by
 have e1:(op == CmpOp.In)=false:=by cases op <;> first | rfl | exact absurd rfl h
 have e2:(op == CmpOp.NotIn)=false:=by cases op <;> first | rfl | exact absurd rfl h2
 cases b <;> simp [behindInMarks,e1,e2]
theorem pe_cmpR {op:CmpOp}{r:R2} (ho:OpR X (compareOp op) r) (ha:PE X a ta) (hb:PE X b tb) (hm:behindInMarks op b=false):PE X (.Compare a [op] [b] pos) (tOp r ta tb):=by
 intro pins s σ H Q I h
 exact wpAny_Compare1 (binT ha hb I h fun v u s2 x y H2 I2 rx ry q=>ho pins s2 σ H2 x y v u Q I2 rx ry q) hm
def tTest (t:TE):TT:=fun σ H Q=>t σ H fun x H'=>∃ k,x=.bl k/\Q k H'
theorem pt_cmpR {op:CmpOp}{r:R2} (ho:OpR X (compareOp op) r) (ha:PE X a ta) (hb:PE X b tb) (hm:behindInMarks op b=false):PT X (.Compare a [op] [b] pos) (tTest (tOp r ta tb)):=by
 intro pins s σ H Q I h
 refine wpAny_isTrue_Compare1 (thn (ha pins s σ H _ I h) fun v s1 ⟨x,H1,I1,r1,q1⟩=>thn (hb pins s1 σ H1 _ I1 q1) fun u s2 ⟨y,H2,I2,r2,q2⟩=>
  thn (ho pins s2 σ H2 x y v u _ I2 r1 r2 q2) fun c s3 ⟨z,H3,I3,r3,k,e,q3⟩=>?_) hm
 subst e
 cases r3
 exact wpAny_truthy_bool ⟨H3,I3,q3⟩
def TruV (K:PySem.W.Frag) (x:V) (H:Hp) (k:Bool):Prop:=
 match x with
 | .non=>k=false
 | .bl b=>k=b
 | .int i=>k=(i != 0)
 | .str y=>y.length<=sizeLine/\k=((y.length:Int) != 0)
 | .byt y=>y.size<=sizeLine/\k=((y.size:Int) != 0)
 | .ref p=>(∃ xs,SqL K H p xs/\k=!xs.isEmpty)\/(∃ xs,SqT K H p xs/\k=!xs.isEmpty)\/∃ kvs,H p=some (.dK kvs)/\k=!kvs.isEmpty
 | _=>False
theorem isEmpty_kv {κ:Type} {kvs:List (κ×V)}{vs:List (κ×Value)} (r:KV kvs vs):(!vs.isEmpty)=!kvs.isEmpty:=by
 cases r <;> rfl
theorem isEmpty_of {xs:List V}{its:List Value} (r:Vals xs its):(!its.toArray.isEmpty)=!xs.isEmpty:=by
 cases r <;> simp
theorem line63:(sizeLine:Nat)<2 ^ 63:=by rw[sizeLine_eq];decide
theorem tru_ok:TruR X (fun x H Q=>∃ k,TruV X.K x H k/\Q k H):=by
 intro pins s σ H x v Q I rx h
 obtain⟨k,e,q⟩:=h
 have hl:=line63
 have hs:sizeLine=16777216:=sizeLine_eq
 cases x with
 | non=>
  cases rx
  have e':k=false:=e
  subst e'
  exact truthy_none ⟨H,I,q⟩
 | bl b=>
  cases rx
  have e':k=b:=e
  subst e'
  exact wpAny_truthy_bool ⟨H,I,q⟩
 | int i=>
  obtain⟨t,rfl⟩:=rx
  have e':k=(i != 0):=e
  subst e'
  exact PySem.P.truthy_int ⟨H,I,q⟩
 | str y=>
  obtain⟨t,rfl⟩:=rx
  obtain⟨hy,e'⟩:y.length<=sizeLine/\k=((y.length:Int) != 0):=e
  subst e'
  exact PySem.P.truthy_str (by lia) ⟨H,I.tok _,q⟩
 | byt y=>
  obtain⟨t,rfl⟩:=rx
  obtain⟨hy,e'⟩:y.size<=sizeLine/\k=((y.size:Int) != 0):=e
  subst e'
  exact PySem.W.truthy_bytes (by lia) ⟨H,I.tok _,q⟩
 | ref p=>
  cases rx
  have e':(∃ xs,SqL X.K H p xs/\k=!xs.isEmpty)\/(∃ xs,SqT X.K H p xs/\k=!xs.isEmpty)\/∃ kvs,H p=some (.dK kvs)/\k=!kvs.isEmpty:=e
  rcases e' with ⟨xs,hx,e'⟩ | ⟨xs,hx,e'⟩ | ⟨kvs,hx,e'⟩
  ·subst e'
   obtain⟨its,r,pl,hz⟩:=I.list hx
   have hlen:=r.length
   exact wpAny_truthy_list pl.isList (by simp only[List.size_toArray];lia) ⟨H,I.tok _,by rw[isEmpty_of r];exact q⟩
  ·subst e'
   obtain⟨its,r,pl,hz⟩:=I.tuple hx
   have hlen:=r.length
   exact truthy_tuple pl (by simp only[List.size_toArray];lia) ⟨H,I.tok _,by rw[isEmpty_of r];exact q⟩
  ·subst e'
   obtain⟨hz,hS,vs,r,m⟩:kvs.length<=sizeLine/\(p == sysModules)=false/\∃ vs,KV kvs vs/\s.heap.DictOf (mixKind X.prog X.w) p vs:=I.hok p _ hx
   have hlen:kvs.length=vs.length:=Paired.length r
   exact wpAny_truthy_dict hS m (by lia) ⟨H,I.tok _,by rw[isEmpty_kv r];exact q⟩
 | _=>exact (show False from e).elim
theorem pt_truth (ha:PE X a ta) (he:∀ whole,isTrue a X.env whole=(do let v <- whole;standAt a.pos;holding [v] (truthy v))) :
  PT X a (fun σ H Q=>ta σ H fun x H'=>∃ k,TruV X.K x H' k/\Q k H'):=by
 intro pins s σ H Q I h
 exact isTrue_plain (thn (ha pins s σ H _ I h) fun v s1 ⟨x,H1,I1,r1,q1⟩=>tru_ok pins s1 σ H1 x v Q I1 r1 q1) (he _)
theorem op_add_str:OpR X (binaryOp .Add) (fun x y H Q=>∃ i j,x=.str i/\y=.str j/\i.length+j.length<=sizeLine/\Q (.str (i++j)) H):=by
 intro pins s σ H x y v u Q I rx ry h
 obtain⟨i,j,rfl,rfl,hz,q⟩:=h
 obtain⟨t,rfl⟩:=rx
 obtain⟨t',rfl⟩:=ry
 exact add_str (fun t' tk=>⟨.str (i++j),H,I.tok _,⟨_,rfl⟩,q⟩) hz
theorem vals1 {x:V}{us:List Value} (r:Vals [x] us):∃ u,us=[u]/\RelV x u:=by
 cases r with
 | cons r1 r2=>cases r2;exact⟨_,rfl,r1⟩
theorem call_int1:CallR X (.type "int") (fun xs H Q=>(∃ i,xs=[.int i]/\Q (.int i) H)\/∃ k,xs=[.bl k]/\Q (.int (if k then 1 else 0)) H):=by
 intro pins s σ H xs us Q I r h
 rcases h with ⟨i,rfl,q⟩ | ⟨k,rfl,q⟩
 ·obtain⟨u,rfl,t,rfl⟩:=vals1 r
  exact call_int_int ⟨.int i,H,I,⟨_,rfl⟩,q⟩
 ·obtain⟨u,rfl,r1⟩:=vals1 r
  cases r1
  exact call_int_bool ⟨.int (if k then 1 else 0),H,I.tok _,⟨_,rfl⟩,q⟩
end
end L2
namespace L2
open PySem PySem.Spec PyProof.Rows
structure ObjM (h:Heap) (x dx C:Addr) (mA:Str->Option Value):Prop where
 obj:h.get? x=some (PySem.W.instObj C dx)
 ns:h.Ns1 dx mA
 ne:dx≠x
theorem lookIn_ns {h:Heap}{dx:Addr}{mA:Str->Option Value} (n:h.Ns1 dx mA):∃ od,h.get? dx=some od/\∀ name,PySem.W.lookIn name od=some (mA name):=by
 obtain⟨o,es,ep,ho,hd,hk,_,hm⟩:=n
 refine⟨o,ho,fun name=>?_⟩
 have e:=hm name
 unfold nsFind findBy at e
 rw[<- Array.find?_toList]at e
 unfold PySem.W.lookIn
 rw[hd]
 dsimp only
 split
 ·rename_i y q
  rw[q]at e
  exact congrArg some e
 ·rename_i q
  rw[q]at e
  have a:es.toList.any (·.refKey)=false:=by
   rw[List.any_eq_false]
   intro y hy
   obtain⟨z,t,hkey⟩:=hk y (Array.mem_toList_iff.mp hy)
   simp [DictEntry.refKey,hkey]
  have a':¬es.toList.any (·.refKey)=true:=by rw[a];exact Bool.false_ne_true
  rw[if_neg a']
  exact congrArg some e
theorem ObjM.look {h:Heap}{x dx C:Addr}{mA:Str->Option Value} (I:ObjM h x dx C mA):∃ od,PySem.W.InstAt h x (PySem.W.instObj C dx) C (some od)/\∀ name,PySem.W.lookIn name od=some (mA name):=
 let ⟨od,ho,hl⟩:=lookIn_ns I.ns
 ⟨od,⟨I.obj,rfl,rfl,ho⟩,hl⟩
section
variable {prog:Program}{w:World}{A:Around}{E:Value->Shared->Prop}{s:Shared}{K:PySem.W.Frag}{x dx C f:Addr}{mA:Str->Option Value}{name:Str}{v:Value}
theorem get_map {expr:Bool}{Q:Value->Shared->Prop} (X:K.In s.heap) (I:ObjM s.heap x dx C mA) (hg:PySem.W.plainGet K C name=true) (hh:PySem.W.hasDictIn K C=true)
  (ha:PySem.W.findIn K (.ref C) name=some none) (hv:mA name=some v) (hv':PySem.W.handedIn v=true) (h:Q v { s with toks:=s.toks+1 }) :
  wpAny (model prog w) A (getAttr (.ref x) name expr) Q E s:=by
 obtain⟨od,J,hl⟩:=I.look
 exact PySem.W.get_value X J (PySem.W.plainGet_of hg).1 (PySem.W.findObj_own hh ha rfl (by rw[hl,hv])) hv' h
theorem get_meth {pl:Sem Bool}{Q:Value×List Value->Shared->Prop} (X:K.In s.heap) (I:ObjM s.heap x dx C mA) (hg:PySem.W.plainGet K C name=true)
  (hf:PySem.W.findIn K (.ref C) name=some (some (.ref f))) (ht:PySem.W.isFn K (.ref f)=true) (hv:mA name=none) (h:Q (.ref f,[.ref x]) s) :
  wpAny (model prog w) A (getMethod (.ref x) name pl) Q E s:=by
 obtain⟨od,J,hl⟩:=I.look
 exact PySem.W.method_fn X J (PySem.W.plainGet_of hg).1 (PySem.W.plainGet_of hg).2 hf (beq_iff_eq.mp ht) (by show (PySem.W.lookIn name od).map (·.isSome)=some false;rw[hl,hv];rfl) h
theorem set_map {ns:List Str}{Q:Unit->Shared->Prop} (X:K.In s.heap) (I:ObjM s.heap x dx C mA)
  (hs:PySem.W.findIn K (.ref C) "__setattr__"=some (some (.builtin "object.__setattr__"))) (hp:PySem.W.plainOver K C=true) (ht:PySem.W.takerIn K C name=some none) (hh:PySem.W.hasDictIn K C=true)
  (hw:PySem.Within mA ns) (hsz:ns.length<=sizeLine)
  (h:∀ h',ObjM h' x dx C (fun y=>if y=name then some v else mA y)->Heap.SameBut dx s.heap h'->Q () { s with heap:=h',toks:=s.toks+2 }) :
  wpAny (model prog w) A (setAttr (.ref x) name v) Q E s:=by
 obtain⟨od,J,hl⟩:=I.look
 refine PySem.W.set_plain X J hs (PySem.W.osa_open (s:={ s with toks:=s.toks+1 }) (r:=none) X J hp ht fun b=>?_)
 obtain⟨cd,hc,hd'⟩:=PySem.W.any_some hh
 have hx:s.heap.get? x=some ⟨.ref C,some dx,.plain,#[]⟩:=I.obj
 refine wpAny_bind (wpAny_pure (wpAny_bind (wpAny_bind (wpAny_loadPart hx (wpAny_bind (PySem.W.Looks.here (s:={ s with toks:=s.toks+1 }) (PySem.W.looks_clsIn X hc) ?_))))))
 rw[hd']
 refine wpAny_pure (a:=some dx) (wpAny_bind (wpAny_pure (wpAny_bind ?_)))
 refine wpAny_nsSet1 (s:={ s with toks:=s.toks+1 }) I.ns fun h' hn2 hs2=>?_
 obtain⟨oD,esD,epD,hoD,hdD,hcD⟩:=hn2.count (PySem.Within.cons name v hw)
 refine wpAny_bind (wpAny_lookBehind hoD (by rw[hdD];exact pastItsLine_dict (Nat.le_trans hcD (by rw[List.length_cons];lia))) ?_)
 exact wpAny_pure (h _ ⟨(hs2.2 _ (Ne.symm I.ne)).trans I.obj,hn2,I.ne⟩ hs2)
theorem make_map {R:Result->Shared->Prop}{vs:List Value}{kw:List (Str×Value)} (X:K.In s.heap) (hm:PySem.W.makesIn K C=true)
  (hi:PySem.W.findIn K (.ref C) "__init__"=some (some (.ref f))) (hf:PySem.W.typeIn K (.ref f)=some (.type "function"))
  (h:codeAny (model prog w) (A.under (.builtin "type.__call__" ⟨.ref C::vs,kw⟩)) (.call (.ref f) ⟨.ref (s.heap.objs.size+1)::vs,kw⟩) (PySem.W.InitBack (s.heap.objs.size+1) R)
   { s with heap:=(s.heap.push PySem.W.emptyDict).push (PySem.W.instObj C s.heap.objs.size) }) :
  codeAny (model prog w) A (.call (.ref C) ⟨vs,kw⟩) R s:=by
 obtain⟨hh,g,d,t,os⟩:=s
 exact PySem.W.make_core (PySem.W.makes_of X hm) (PySem.W.looks_findIn X hi) (fun self=>PySem.W.bind_fn X self hf) (.inl rfl) h
end
def putF (f:Str) (v:V):List (Str×V)->List (Str×V)
 | []=>[(f,v)]
 | (g,x)::r=>if g=f then (g,v)::r else (g,x)::putF f v r
theorem lookup_putF (f g:Str) (v:V):∀ fs:List (Str×V),(putF f v fs).lookup g=if g=f then some v else fs.lookup g
 | []=>by
  show List.lookup g [(f,v)]=_
  by_cases h:g=f
  ·have hb:(g == f)=true:=beq_iff_eq.mpr h
   simp only[List.lookup,hb,if_pos h]
  ·have hb:(g == f)=false:=beq_eq_false_iff_ne.mpr h
   simp only[List.lookup,hb,if_neg h]
 | (k,x)::r=>by
  have ih:=lookup_putF f g v r
  rw[show putF f v ((k,x)::r)=(if k=f then (k,v)::r else (k,x)::putF f v r) from rfl]
  by_cases hk:k=f
  ·rw[if_pos hk]
   by_cases h:g=k
   ·have hb:(g == k)=true:=beq_iff_eq.mpr h
    simp only[List.lookup,hb,if_pos (h.trans hk)]
   ·have hb:(g == k)=false:=beq_eq_false_iff_ne.mpr h
    simp only[List.lookup,hb,if_neg (fun e:g=f=>h (e.trans hk.symm))]
  ·rw[if_neg hk]
   by_cases h:g=k
   ·have hb:(g == k)=true:=beq_iff_eq.mpr h
    simp only[List.lookup,hb,if_neg (fun e:g=f=>hk (h.symm.trans e))]
   ·have hb:(g == k)=false:=beq_eq_false_iff_ne.mpr h
    simp only[List.lookup,hb]
    exact ih
theorem keys_putF (f:Str) (v:V):∀ fs:List (Str×V),f∈(putF f v fs).map (·.1)/\∀ g,g∈fs.map (·.1)->g∈(putF f v fs).map (·.1)
 | []=>⟨by simp [putF],fun g h=>by simp at h⟩
 | (k,x)::r=>by
  obtain⟨i1,i2⟩:=keys_putF f v r
  rw[show putF f v ((k,x)::r)=(if k=f then (k,v)::r else (k,x)::putF f v r) from rfl]
  by_cases hk:k=f
  ·rw[if_pos hk]
   subst hk
   exact⟨by simp,fun g h=>by simpa using h⟩
  ·rw[if_neg hk]
   refine⟨?_,fun g h=>?_⟩
   ·rw[List.map_cons]
    exact List.mem_cons_of_mem _ i1
   ·rw[List.map_cons]at h ⊢
    rcases List.mem_cons.mp h with e | e
    ·exact List.mem_cons.mpr (.inl e)
    ·exact List.mem_cons_of_mem _ (i2 g e)
theorem length_putF (f:Str) (v:V):∀ fs:List (Str×V),(putF f v fs).length<=fs.length+1
 | []=>by simp [putF]
 | (k,x)::r=>by
  have ih:=length_putF f v r
  rw[show putF f v ((k,x)::r)=(if k=f then (k,v)::r else (k,x)::putF f v r) from rfl]
  by_cases hk:k=f
  ·rw[if_pos hk,List.length_cons,List.length_cons];lia
  ·rw[if_neg hk,List.length_cons,List.length_cons];lia
theorem RelO.some_of {v:V}{o:Option Value} (r:RelO (some v) o):∃ u,o=some u/\RelV v u:=by
 cases o with
 | none=>exact (show False from r).elim
 | some u=>exact⟨u,rfl,r⟩
theorem RelO.none_of {o:Option Value} (r:RelO none o):o=none:=by
 cases o with
 | none=>rfl
 | some u=>exact (show False from r).elim
theorem handed_of {v:V}{u:Value} (r:RelV v u):PySem.W.handedIn u=true:=by
 cases v with
 | non=>cases (show u=Value.none from r);rfl
 | bl b=>cases (show u=Value.bool b from r);rfl
 | int i=>obtain⟨t,e⟩:=(show ∃ t,u=Value.int i t from r);cases e;rfl
 | str x=>obtain⟨t,e⟩:=(show ∃ t,u=Value.str x t from r);cases e;rfl
 | byt b=>obtain⟨t,e⟩:=(show ∃ t,u=Value.bytes b t from r);cases e;rfl
 | flt b=>obtain⟨t,e⟩:=(show ∃ t,u=Value.float b t from r);cases e;rfl
 | ref a=>cases (show u=Value.ref a from r);rfl
 | ty n=>cases (show u=Value.type n from r);rfl
section
variable {P:Program}{w:World}{H H':Hp}{h h':Heap}{a C dx:Addr}{fs fs':List (Str×V)}
theorem ins_get (hok:HOk P w H h) (e:H a=some (.ins C dx fs)):∃ mA,ObjM h a dx C mA/\(∀ f,RelO (fs.lookup f) (mA f))/\PySem.Within mA (fs.map (·.1))/\fs.length<=1000/\H dx=some (.own a):=by
 obtain⟨d,z,ne,ob,mA,n,r,q⟩:=(show ObjOk P w H h a (.ins C dx fs) from hok a _ e)
 exact⟨mA,⟨ob,n,ne⟩,r,q,z,d⟩
end
structure Cls (K:PySem.W.Frag) (C:Addr):Prop where
 pg:PySem.W.plainGet K C Str.empty=true
 hd:PySem.W.hasDictIn K C=true
 po:PySem.W.plainOver K C=true
 sa:PySem.W.findIn K (.ref C) "__setattr__"=some (some (.builtin "object.__setattr__"))
theorem Cls.get {K:PySem.W.Frag}{C:Addr} (c:Cls K C) (f:Str):PySem.W.plainGet K C f=true:=c.pg
def NoAttr (K:PySem.W.Frag) (C:Addr) (f:Str):Prop:=PySem.W.findIn K (.ref C) f=some none
theorem NoAttr.taker {K:PySem.W.Frag}{C:Addr}{f:Str} (n:NoAttr K C f):PySem.W.takerIn K C f=some none:=by
 unfold PySem.W.takerIn
 rw[show PySem.W.findIn K (.ref C) f=some none from n]
 rfl
structure Meth (K:PySem.W.Frag) (C:Addr) (m:Str) (f:Addr):Prop where
 at_:PySem.W.findIn K (.ref C) m=some (some (.ref f))
 fn:PySem.W.isFn K (.ref f)=true
 kp:PySem.W.keepIn K (.ref f)=true
section
variable {X:Cx}{pins:List (Addr×Obj)} {σ:St} {H:Hp}{s:Shared}{a C dx:Addr}{fs:List (Str×V)}{f:Str}{v:V}{A:Around}{E:Value->Shared->Prop}
theorem getattr_ok {b:Bool}{Q:Value->Shared->Prop} (I:Inv X pins σ H s) (e:H a=some (.ins C dx fs)) (c:Cls X.K C) (n:NoAttr X.K C f) (l:fs.lookup f=some v)
  (h:∀ u s',Inv X pins σ H s'->RelV v u->Q u s'):wpAny (model X.prog X.w) A (getAttr (.ref a) f b) Q E s:=by
 obtain⟨mA,O,r,_,_,_⟩:=ins_get I.hok e
 obtain⟨u,hu,ru⟩:=RelO.some_of (v:=v) (o:=mA f) (by rw[<- l];exact r f)
 exact get_map I.kIn O (c.get f) c.hd n hu (handed_of ru) (h u _ (I.tok _) ru)
theorem getmeth_ok {m:Str}{g:Addr}{pl:Sem Bool}{Q:Value×List Value->Shared->Prop} (I:Inv X pins σ H s) (e:H a=some (.ins C dx fs)) (c:Cls X.K C) (k:Meth X.K C m g) (l:fs.lookup m=none)
  (h:Q (.ref g,[.ref a]) s):wpAny (model X.prog X.w) A (getMethod (.ref a) m pl) Q E s:=by
 obtain⟨mA,O,r,_,_,_⟩:=ins_get I.hok e
 have hn:mA m=none:=RelO.none_of (by rw[<- l];exact r m)
 exact get_meth I.kIn O (c.get m) k.at_ k.fn hn h
theorem setattr_ok {y:V}{u:Value}{Q:Unit->Shared->Prop} (I:Inv X pins σ H s) (e:H a=some (.ins C dx fs)) (c:Cls X.K C) (n:NoAttr X.K C f) (hl:fs.length<1000) (ry:RelV y u)
  (h:∀ s',Inv X pins σ (upd H a (.ins C dx (putF f y fs))) s'->Q () s'):wpAny (model X.prog X.w) A (setAttr (.ref a) f u) Q E s:=by
 obtain⟨mA,O,r,wi,_,ho⟩:=ins_get I.hok e
 have hz:(fs.map (·.1)).length<=sizeLine:=by rw[List.length_map,sizeLine_eq];lia
 refine set_map I.kIn O c.sa c.po n.taker c.hd wi hz fun h' O' sb=>h _ ?_
 have hd:∃ o,h'.get? dx=some o:=let ⟨o,_,_,e',_⟩:=O'.ns;⟨o,e'⟩
 refine I.write (x:=a) (e:=dx) (by rw[e];exact True.intro) (.inr ho) (fun b q hb z=>(sb.2 b hb).trans z) hd ?_
 refine⟨by rw[upd_ne O.ne];exact ho,?_,O.ne,O'.obj,_,O'.ns,fun g=>?_,fun g hg=>?_⟩
 ·have:=length_putF f y fs;lia
 ·show RelO ((putF f y fs).lookup g) (if g=f then some u else mA g)
  rw[lookup_putF]
  by_cases q:g=f
  ·rw[if_pos q,if_pos q];exact ry
  ·rw[if_neg q,if_neg q];exact r g
 ·by_cases q:g=f
  ·rw[q];exact (keys_putF f y fs).1
  ·refine (keys_putF f y fs).2 g (wi g fun z=>hg ?_)
   show (if g=f then some u else mA g)=none
   rw[if_neg q];exact z
theorem Inv.made (I:Inv X pins σ H s):Inv X pins σ (upd (upd H s.heap.objs.size (.own (s.heap.objs.size+1))) (s.heap.objs.size+1) (.ins C s.heap.objs.size []))
  { s with heap:=(s.heap.push PySem.W.emptyDict).push (PySem.W.instObj C s.heap.objs.size) }:=by
 have e1:(s.heap.push PySem.W.emptyDict).get? s.heap.objs.size=some PySem.W.emptyDict:=Heap.get?_push_size s.heap rfl
 have e2:((s.heap.push PySem.W.emptyDict).push (PySem.W.instObj C s.heap.objs.size)).get? (s.heap.objs.size+1)=some (PySem.W.instObj C s.heap.objs.size):=by
  have:=Heap.get?_push_size (s.heap.push PySem.W.emptyDict) (o:=PySem.W.instObj C s.heap.objs.size) rfl
  rwa [Heap.size_push]at this
 have e3:(s.heap.push PySem.W.emptyDict).Ns s.heap.objs.size (fun _=>none):=⟨PySem.W.emptyDict,#[],_,e1,rfl,(fun e he=>absurd he (by simp)),fun _=>rfl⟩
 have I1:=I.laid (a:=s.heap.objs.size) (o:=.own (s.heap.objs.size+1)) (h':=s.heap.push PySem.W.emptyDict) (t':=s.toks) (fun b u q=>Heap.get?_push_of_some _ q) (Nat.le_refl _) ⟨_,e1⟩
 refine I1.laid (a:=s.heap.objs.size+1) (o:=.ins C s.heap.objs.size []) (t':=s.toks) (fun b u q=>Heap.get?_push_of_some _ q) (Nat.le_of_eq (Heap.size_push _ _)) ?_
 have ne:s.heap.objs.size≠s.heap.objs.size+1:=Nat.ne_of_lt (Nat.lt_succ_self _)
 refine⟨by rw[upd_ne ne,upd_same],Nat.zero_le _,ne,e2,fun _=>none,(Heap.Ns1.of_empty e3).at fun o q=>Heap.get?_push_of_some _ q,fun _=>True.intro,fun y hy=>absurd rfl hy⟩
theorem attr_of {prog:Program}{w:World}{env:Env}{e:Expr}{f:Str}{pos:Pos}{s:Shared}{Q:Value->Shared->Prop} (hb:attributeBase e f env (eval e env)=eval e env)
  (h:wpAny (model prog w) A (eval e env) (fun o s₁=>wpAny (model prog w) A (getAttr o f true) Q E s₁) E s):wpAny (model prog w) A (eval (.Attribute e f pos) env) Q E s:=
 Attribute_any_ h (by rw[arm_eval_Attribute,hb])
end
def tFld (K:PySem.W.Frag) (ta:TE) (f:Str):TE:=fun σ H Q=>ta σ H fun x H1=>∃ a C dx fs v,x=.ref a/\H1 a=some (.ins C dx fs)/\Cls K C/\NoAttr K C f/\fs.lookup f=some v/\Q v H1
def sFld (K:PySem.W.Frag) (ta tv:TE) (f:Str):TS:=fun D σ H=>tv σ H fun y H1=>ta σ H1 fun x H2=>∃ a C dx fs,x=.ref a/\H2 a=some (.ins C dx fs)/\Cls K C/\NoAttr K C f/\fs.length<1000 /\
 D.nx σ (upd H2 a (.ins C dx (putF f y fs)))
section
variable {X:Cx}{o e value:Expr}{f:Str}{pos pos' tpos:Pos}{ta tv:TE}
theorem pe_fld (he:PE X e ta) (hb:attributeBase e f X.env (eval e X.env)=eval e X.env):PE X (.Attribute e f pos) (tFld X.K ta f):=by
 intro pins s σ H Q I h
 refine attr_of hb (thn (he pins s σ H _ I h) fun u s1 ⟨x,H1,I1,rx,a,C,dx,fs,v,ex,ea,c,n,l,q⟩=>?_)
 subst ex
 obtain rfl:u=Value.ref a:=rx
 exact getattr_ok I1 ea c n l fun u' s2 I2 ru=>⟨v,H1,I2,ru,q⟩
theorem ps_fld (ha:PE X o ta) (hv:PE X value tv) (hs:swapsWith value (some (.Attribute o f pos')) pos.line X.env=pure false):PS X (.Assign [.Attribute o f pos'] value pos) (sFld X.K ta tv f):=by
 intro pins s σ H D I h
 refine plainObj_wpAny_Assign_Attribute (thn (hv pins s σ H _ I h) fun u s1 ⟨y,H1,I1,ry,q⟩=>thn (ha pins s1 σ H1 _ I1 q) fun ov s2 ⟨x,H2,I2,rx,a,C,dx,fs,ex,ea,c,n,l,q2⟩=>?_) hs
 subst ex
 obtain rfl:ov=Value.ref a:=rx
 exact setattr_ok I2 ea c n l ry fun s3 I3=>⟨σ,_,I3,q2⟩
end
section
variable {X:Cx}{pins:List (Addr×Obj)} {σ:St} {H:Hp}{s:Shared}{A:Around}{E:Value->Shared->Prop}{Q:Value->Shared->Prop}{c:Value}{b:Bool}
inductive TyOf (K:PySem.W.Frag) (H:Hp):V->Value->Prop where
 | non:TyOf K H .non (.type "NoneType")
 | bl (x:Bool):TyOf K H (.bl x) (.type "bool")
 | int (i:Int):TyOf K H (.int i) (.type "int")
 | str (x:Str):TyOf K H (.str x) (.type "str")
 | flt (x:UInt64):TyOf K H (.flt x) (.type "float")
 | lst {a:Addr}{xs:List V} (e:H a=some (.lst xs)):TyOf K H (.ref a) (.type "list")
 | frz {a:Addr}{o:Obj}{xs:List V} (e:H a=some (.frz o (.lst xs))):TyOf K H (.ref a) (.type "list")
 | tup {a:Addr}{xs:List V} (e:H a=some (.tup xs)):TyOf K H (.ref a) (.type "tuple")
 | dK {a:Addr}{kvs:List (Key×V)} (e:H a=some (.dK kvs)):TyOf K H (.ref a) (.type "dict")
 | dT {a:Addr}{kvs:List (List Key×V)} (e:H a=some (.dT kvs)):TyOf K H (.ref a) (.type "dict")
 | ins {a C dx:Addr}{fs:List (Str×V)} (e:H a=some (.ins C dx fs)) (cl:Cls K C) (ha:PySem.W.findIn K (.ref C) "__class__"=some (some (.builtin "object.__class__")))
   (hn:PySem.W.specialIn K (.builtin "object.__class__") "__get__"=some (some (.builtin "getset_descriptor.__get__"))) (htk:PySem.W.takesIn K (.builtin "object.__class__")=some true)
   (hm:PySem.W.mroIn K C (.type "object")=some true):TyOf K H (.ref a) (.ref C)
theorem isinst_ok {x:V}{u t:Value} (I:Inv X pins σ H s) (rx:RelV x u) (ty:TyOf X.K H x t) (e:PySem.W.kitOne X.K t c=some b) (h:∀ tk,Q (.bool b) { s with toks:=tk }) :
  wpAny (model X.prog X.w) A (call (.builtin "isinstance") [u,c]) Q E s:=by
 cases ty with
 | non=>cases (show u=Value.none from rx);exact PySem.W.kia_one PySem.W.kitx_none I.kIn True.intro e (fun z=>nomatch z) h
 | bl y=>cases (show u=Value.bool y from rx);exact PySem.W.kia_one PySem.W.kitx_bool I.kIn True.intro e (fun z=>nomatch z) h
 | int i=>obtain⟨t,q⟩:=(show ∃ t,u=Value.int i t from rx);cases q;exact PySem.W.kia_one PySem.W.kitx_int I.kIn True.intro e (fun z=>nomatch z) h
 | str y=>obtain⟨t,q⟩:=(show ∃ t,u=Value.str y t from rx);cases q;exact PySem.W.kia_one PySem.W.kitx_str I.kIn True.intro e (fun z=>nomatch z) h
 | flt y=>obtain⟨t,q⟩:=(show ∃ t,u=Value.float y t from rx);cases q;exact PySem.W.kia_one PySem.W.kitx_float I.kIn True.intro e (fun z=>nomatch z) h
 | @lst a xs ea=>
  cases (show u=Value.ref a from rx)
  obtain⟨_,_,n,_,h1⟩:=(show ObjOk X.prog X.w H s.heap a (.lst xs) from I.hok a _ ea)
  exact PySem.W.kia_one PySem.W.kitx_list I.kIn ⟨_,h1,rfl⟩ e (fun z=>nomatch z) h
 | @frz a ob xs ea=>
  cases (show u=Value.ref a from rx)
  obtain⟨_,_,_,n,_,h1⟩:=(show ObjOk X.prog X.w H s.heap a (.frz ob (.lst xs)) from I.hok a _ ea)
  exact PySem.W.kia_one PySem.W.kitx_list I.kIn ⟨_,h1,rfl⟩ e (fun z=>nomatch z) h
 | @tup a xs ea=>
  cases (show u=Value.ref a from rx)
  obtain⟨_,_,_,p⟩:=(show ObjOk X.prog X.w H s.heap a (.tup xs) from I.hok a _ ea)
  obtain⟨o,h1,h2,_⟩:=p
  exact PySem.W.kia_one PySem.W.kitx_tuple I.kIn ⟨o,h1,h2⟩ e (fun z=>nomatch z) h
 | @dK a kvs ea=>
  cases (show u=Value.ref a from rx)
  obtain⟨_,_,vs,_,p⟩:=(show ObjOk X.prog X.w H s.heap a (.dK kvs) from I.hok a _ ea)
  obtain⟨o,es,ep,h1,h2,_⟩:=p
  exact PySem.W.kia_one PySem.W.kitx_dict I.kIn ⟨o,h1,h2.1⟩ e (fun z=>nomatch z) h
 | @dT a kvs ea=>
  cases (show u=Value.ref a from rx)
  obtain⟨_,_,xs,_,o,es,ep,h1,h2,_⟩:=(show ObjOk X.prog X.w H s.heap a (.dT kvs) from I.hok a _ ea)
  exact PySem.W.kia_one PySem.W.kitx_dict I.kIn ⟨o,h1,h2.1⟩ e (fun z=>nomatch z) h
 | @ins a C dx fs ea cl ha hn htk hm=>
  cases (show u=Value.ref a from rx)
  obtain⟨mA,O,_⟩:=ins_get I.hok ea
  obtain⟨od,J,_⟩:=O.look
  exact PySem.W.kia_one (PySem.W.kitx_own (cl.get _) cl.hd ha hn htk hm) I.kIn J e (fun z=>nomatch z) h
end
end L2
namespace L2
open PySem PySem.Spec PyProof.Rows
structure Room (k:Nat) (A:Around):Prop where
 hd:A.handled=none
 dp:A.depth+3 * k+5<recursionLimit
 un:A.units+16 * k+200<cLine
theorem Room.mono {j k:Nat}{A:Around} (r:Room k A) (h:j<=k):Room j A:=⟨r.hd,by have:=r.dp;lia,by have:=r.un;lia⟩
theorem Room.deeper {k:Nat}{A:Around} (r:Room (k+1) A) (env:Env):Room k (A.deeper env):=
 ⟨r.hd,by have:=r.dp;show A.depth+1+3 * k+5<_;lia,by have:=r.un;show A.units+3+16 * k+200<_;lia⟩
theorem make_depth {A:Around}{C:Addr}{us:List Value}{kw:List (Str×Value)}:(A.under (.builtin "type.__call__" ⟨.ref C::us,kw⟩)).depth=A.depth+1:=by
 first | rfl | simp [Around.under,Code.weight,Code.isCreation,Code.isGuard,Code.isCaller,Code.frames,Code.isFrame,guardIds]
theorem make_units {A:Around}{C:Addr}{us:List Value}{kw:List (Str×Value)}:(A.under (.builtin "type.__call__" ⟨.ref C::us,kw⟩)).units=A.units+1:=by
 first | rfl | simp [Around.under,Code.cUnits,Code.frames,Code.isFrame]
theorem Room.make {k:Nat}{A:Around} (r:Room (k+1) A) (C:Addr) (us:List Value) (kw:List (Str×Value)):Room k (A.under (.builtin "type.__call__" ⟨.ref C::us,kw⟩)):=
 ⟨r.hd,by have:=r.dp;rw[make_depth];lia,by have:=r.un;rw[make_units];lia⟩
theorem Room.depth {k:Nat}{A:Around} (r:Room k A):A.depth<recursionLimit:=by have:=r.dp;lia
theorem Room.units {k:Nat}{A:Around} (r:Room k A):A.units+64<cLine:=by have:=r.un;lia
def tNil:TA:=fun _ H Q=>Q [] H
def tCons (ta:TE) (tr:TA):TA:=fun σ H Q=>ta σ H fun x H1=>tr σ H1 fun xs H2=>Q (x::xs) H2
section
variable {X:Cx}{e:Expr}{es:List Expr}{te:TE}{t:TA}{pos:Pos}
theorem pa_nil:PA X [] tNil:=fun _ _ _ _ H Q I h=>Calls.spliced_nil ⟨[],H,I,.nil,h⟩
theorem pa_cons (ha:PE X e te) (hr:PA X es t) (hs:starEach (e::es) X.env=(false,eval e X.env)::starEach es X.env:=by rfl):PA X (e::es) (tCons te t):=by
 intro pos pins s σ H Q I h
 rw[hs]
 show wpAny _ _ (spliced ((false,eval e X.env)::backTo pos (starEach es X.env))) _ _ s
 refine Calls.spliced_cons (thn (ha pins s σ H _ I h) fun u s1 ⟨x,H1,I1,r1,q1⟩=>?_)
 exact thn (hr pos pins s1 σ H1 _ I1 q1) fun us s2 ⟨xs,H2,I2,r2,q2⟩=>⟨x::xs,H2,I2,.cons r1 r2,q2⟩
def tTup (t:TA):TE:=fun σ H Q=>t σ H fun xs H1=>xs.length<=sizeLine/\∀ p,H1 p=none->Q (.ref p) (upd H1 p (.tup xs))
def tLst (t:TA):TE:=fun σ H Q=>t σ H fun xs H1=>xs.length<=sizeLine/\∀ p,H1 p=none->Q (.ref p) (upd H1 p (.lst xs))
theorem pe_tup {x1} (h:PA X es t):PE X (.Tuple es x1 pos) (tTup t):=by
 intro pins s σ H Q I hq
 refine wpAny_Tuple_spliced (thn (h pos pins s σ H _ I hq) fun us s1 ⟨xs,H1,I1,r,z,q⟩=>⟨by rw[<- r.length];exact z,?_⟩)
 have hf:H1 s1.heap.objs.size=none:=I1.hok.fresh (Nat.le_refl _)
 refine⟨.ref s1.heap.objs.size,upd H1 s1.heap.objs.size (.tup xs),I1.laid (t':=s1.toks) (fun b u e=>Heap.get?_push_of_some _ e) (Nat.le_refl _) ?_,rfl,q _ hf⟩
 exact⟨tupD_new z,us,r,⟨_,Heap.get?_push_size _ rfl,rfl,_,rfl⟩⟩
theorem pe_lst (h:PA X es t):PE X (.List es pos) (tLst t):=by
 intro pins s σ H Q I hq
 refine wpAny_List_spliced (thn (h pos pins s σ H _ I hq) fun us s1 ⟨xs,H1,I1,r,z,q⟩=>⟨by rw[<- r.length];exact z,?_⟩)
 have hf:H1 s1.heap.objs.size=none:=I1.hok.fresh (Nat.le_refl _)
 refine⟨.ref s1.heap.objs.size,upd H1 s1.heap.objs.size (.lst xs),I1.laid (t':=s1.toks) (fun b u e=>Heap.get?_push_of_some _ e) (Nat.le_refl _) ?_,rfl,q _ hf⟩
 exact⟨z,us,0,r,Heap.get?_push_size _ rfl⟩
end
abbrev Sp:=List V->Hp->VK->XK->Prop
abbrev CXT:=List Env->Hp->Shared->XK->Value->Shared->Prop
structure Env0 (P:Program) (w:World) (K:PySem.W.Frag) (mg:Str->Option Value) (base:Heap) (A:Around) (outer:List Env) (s:Shared) (H:Hp):Prop where
 frames:A.frames=some outer
 mod:Mod K mg base
 bs:∀ b o,base.get? b=some o->s.heap.get? b=some o/\H b=none
 bsz:base.objs.size<=s.heap.objs.size
 funs:s.heap.FunFrames base outer
 frf:∀ b∈frs outer,H b=none
 hok:HOk P w H s.heap
 bare:AllBare s.gens
def CE (outer:List Env) (P:Program) (w:World) (H:Hp) (s:Shared) (Q:VK) (u:Value) (s':Shared):Prop:=
 ∃ v H',s'.os=s.os/\AllBare s'.gens/\Un (frs outer) [] H H' s.heap s'.heap/\HOk P w H' s'.heap/\RelV v u/\Q v H'
def CR (CX:CXT) (outer:List Env) (P:Program) (w:World) (H:Hp) (s:Shared) (Q:VK) (E:XK) (r:Result) (s':Shared):Prop:=
 match r with
 | .ok (.ret u)=>CE outer P w H s Q u s'
 | .ok _=>False
 | .error e=>CX outer H s E e s'
structure FnOk (P:Program) (w:World) (K:PySem.W.Frag) (mg:Str->Option Value) (base:Heap) (CX:CXT) (k:Nat) (f:Addr) (fd:FuncData) (ps:List Str) (sp:Sp):Prop where
 len:∀ vs H Q E,sp vs H Q E->vs.length=ps.length
 run:∀ (A:Around) (outer:List Env) (s:Shared) (H:Hp) (args:Args) (us:List Value) (vs:List V) (Q:VK) (E:XK),Room k A->Env0 P w K mg base A outer s H->BindsTo s fd args (ps.zip us)->Vals vs us->sp vs H Q E ->
  codeAny (model P w) A (.call (.ref f) args) (CR CX outer P w H s Q E) s
theorem FnOk.mono {P:Program}{w:World}{K:PySem.W.Frag}{mg:Str->Option Value}{base:Heap}{CX:CXT}{j k:Nat}{f:Addr}{fd:FuncData}{ps:List Str}{sp:Sp} (F:FnOk P w K mg base CX j f fd ps sp) (h:j<=k) :
  FnOk P w K mg base CX k f fd ps sp:=⟨F.len,fun A outer s H args us vs Q E hr=>F.run A outer s H args us vs Q E (hr.mono h)⟩
theorem Env0.make {P:Program}{w:World}{K:PySem.W.Frag}{mg:Str->Option Value}{base:Heap}{A:Around}{outer:List Env}{s:Shared}{H:Hp} (e:Env0 P w K mg base A outer s H) (C:Addr) (us:List Value) (kw:List (Str×Value)) :
  Env0 P w K mg base (A.under (.builtin "type.__call__" ⟨.ref C::us,kw⟩)) outer s H:=⟨by first | exact e.frames | (simpa [Around.under,Code.envs,Code.isFrame,pushEnvs] using e.frames),e.mod,e.bs,e.bsz,e.funs,e.frf,e.hok,e.bare⟩
section
variable {X:Cx}{pins:List (Addr×Obj)} {σ:St} {H:Hp}{s s':Shared}
theorem Inv.env0 (I:Inv X pins σ H s):Env0 X.prog X.w X.K X.mg X.base X.A X.stack s H:=
 ⟨I.ok.frames,I.ok.mod,I.bs,Nat.le_trans I.ok.bsz I.sz,I.stack,I.stkFree,I.hok,I.bare⟩
theorem Inv.after {Q:VK}{u:Value} (I:Inv X pins σ H s) (h:CE X.stack X.prog X.w H s Q u s'):EP X pins σ Q u s':=by
 obtain⟨v,H',os,bare,un,hok,r,q⟩:=h
 obtain⟨hh,g,d,t,os'⟩:=s'
 obtain rfl:os'=s.os:=os
 exact⟨v,H',I.call (h':=hh) (g':=g) (d':=d) (t':=t) (ch:=[]) un hok bare (fun b z=>absurd z (by simp)),r,q⟩
end
def tCall (sp:Sp) (dvs:List V) (E:XK) (t:TA):TE:=fun σ H Q=>t σ H fun vs H1=>sp (vs++dvs) H1 Q E
def tMeth (C:Addr) (m:Str) (sp:Sp) (dvs:List V) (E:XK) (ta:TE) (t:TA):TE:=fun σ H Q=>ta σ H fun x H1=>∃ a dx fs,x=.ref a/\H1 a=some (.ins C dx fs)/\fs.lookup m=none /\
 t σ H1 fun vs H2=>sp (x::(vs++dvs)) H2 Q E
def tMake (C:Addr) (sp:Sp) (dvs:List V) (E:XK) (t:TA):TE:=fun σ H Q=>t σ H fun vs H1=>∀ x dx,H1 x=none->H1 dx=none->dx≠x ->
 sp (.ref x::(vs++dvs)) (upd (upd H1 dx (.own x)) x (.ins C dx [])) (fun v H2=>v=.non/\Q (.ref x) H2) E
def Binds (K:PySem.W.Frag) (fd:FuncData) (ps:List Str) (ds:List Value):Prop:=
 ∀ (s:Shared) (us:List Value),K.In s.heap->(us++ds).length=ps.length->BindsTo s fd ⟨us,[]⟩ (ps.zip (us++ds))
theorem Binds.all {K:PySem.W.Frag}{fd:FuncData}{ps:List Str} (h:∀ us:List Value,us.length=ps.length->bindArgs fd ⟨us,[]⟩=pure (ps.zip us)):Binds K fd ps []:=fun s us _ hl=>by
 rw[List.append_nil]at hl ⊢
 exact .of_eq (h us hl)
def Passes (CX:CXT) (X:Cx) (E:XK):Prop:=∀ (pins:List (Addr×Obj)) (σ:St) (H:Hp) (s:Shared) (e:Value) (s':Shared),Inv X pins σ H s->CX X.stack H s E e s'->X.xe e s'
section
variable {X:Cx}{CX:CXT}{k:Nat}{f C:Addr}{fd:FuncData}{ps:List Str}{sp:Sp}{dvs:List V}{ds:List Value}{E:XK}{x m:Str}{p pos apos:Pos}{e o:Expr}{es:List Expr}{ta:TE}{t:TA}
theorem run_fn {pins:List (Addr×Obj)} {σ:St} {H:Hp}{s:Shared}{Q:VK}{us:List Value}{vs:List V} (F:FnOk X.prog X.w X.K X.mg X.base CX k f fd ps sp) (hr:Room k X.A) (hb:Binds X.K fd ps ds) (hd:Vals dvs ds) (hx:Passes CX X E)
  (I:Inv X pins σ H s) (r:Vals vs us) (h:sp (vs++dvs) H Q E):wpAny (model X.prog X.w) X.A (call (.ref f) us) (EP X pins σ Q) X.xe s:=by
 have r2:Vals (vs++dvs) (us++ds):=r.append hd
 have hl:(us++ds).length=ps.length:=by rw[<- r2.length];exact F.len _ _ _ _ h
 refine wpAny_call (codeAny_mono (F.run X.A X.stack s H ⟨us,[]⟩ (us++ds) (vs++dvs) Q E hr I.env0 (hb s us I.kIn hl) r2 h) fun r s' hq=>?_)
 cases r with
 | error e=>exact hx pins σ H s e s' I hq
 | ok fl=>
  cases fl with
  | ret u=>exact I.after hq
  | next=>exact False.elim hq
  | brk=>exact False.elim hq
  | cont=>exact False.elim hq
theorem pe_call (F:FnOk X.prog X.w X.K X.mg X.base CX k f fd ps sp) (hr:Room k X.A) (hg:Gl X x) (hm:X.mg x=some (.ref f)) (hk:PySem.W.keepIn X.K (.ref f)=true) (hb:Binds X.K fd ps ds) (hd:Vals dvs ds) (hx:Passes CX X E)
  (ha:PA X (e::es) t) (hdb:(x == ("__debug__" : Str))=false:=by decide) (he:starEach (e::es) X.env=(false,eval e X.env)::starEach es X.env:=by rfl) (hpl:(backTo pos (starEach es X.env)).any (·.1)=false:=by rfl) :
  PE X (.Call (.Name x p) (e::es) [] pos) (tCall sp dvs E t):=by
 intro pins s σ H Q I h
 refine wpAny_Call_Name_kw (ld_glob I hg hm ?_ hdb)
 refine PySem.W.callWith_K (h₀:=X.base) I.ok.mod.kin hk (thn (ha pos pins s σ H _ I h) fun us s1 ⟨vs,H1,I1,r,q⟩=>⟨I1.kIn,?_⟩) he hpl
 exact run_fn F hr hb hd hx I1 r q
theorem pe_meth {pl:Sem Bool} (he:PE X o ta) (c:Cls X.K C) (hm:Meth X.K C m f) (F:FnOk X.prog X.w X.K X.mg X.base CX k f fd ps sp) (hr:Room k X.A) (hb:Binds X.K fd ps ds) (hd:Vals dvs ds) (hx:Passes CX X E) (ha:PA X (e::es) t)
  (hst:starEach (e::es) X.env=(false,eval e X.env)::starEach es X.env:=by rfl) (hpl:(backTo pos (starEach es X.env)).any (·.1)=false:=by rfl)
  (ht:eval (.Call (.Attribute o m apos) (e::es) [] pos) X.env=(do
   let ov <- eval o X.env
   standAt apos.atName
   let (f,first) <- holding [ov] (getMethod ov m pl)
   callWith pos f first (backTo pos (starEach (e::es) X.env)) (backToKw pos (keywordEach [] X.env))):=by rfl) :
  PE X (.Call (.Attribute o m apos) (e::es) [] pos) (tMeth C m sp dvs E ta t):=by
 intro pins s σ H Q I h
 refine PySem.W.methodCall_KW (pl:=pl) (thn (he pins s σ H _ I h) fun u s1 ⟨x,H1,I1,rx,a,dx,fs,ex,ea,l,q⟩=>?_) ht
 subst ex
 obtain rfl:u=Value.ref a:=rx
 refine getmeth_ok I1 ea c hm l ?_
 refine PySem.W.callWith_K (first:=[.ref a]) (h₀:=X.base) I.ok.mod.kin hm.kp (thn (ha pos pins s1 σ H1 _ I1 q) fun us s2 ⟨vs,H2,I2,r,q2⟩=>⟨I2.kIn,?_⟩) hst hpl
 exact run_fn (us:=.ref a::us) (vs:=.ref a::vs) F hr hb hd hx I2 (.cons rfl r) q2
theorem pe_meth0 {pl:Sem Bool} (he:PE X o ta) (c:Cls X.K C) (hm:Meth X.K C m f) (F:FnOk X.prog X.w X.K X.mg X.base CX k f fd ps sp) (hr:Room k X.A) (hb:Binds X.K fd ps ds) (hd:Vals dvs ds) (hx:Passes CX X E)
  (ht:eval (.Call (.Attribute o m apos) [] [] pos) X.env=(do
   let ov <- eval o X.env
   standAt apos.atName
   let (f,first) <- holding [ov] (getMethod ov m pl)
   callWith pos f first (backTo pos (starEach [] X.env)) (backToKw pos (keywordEach [] X.env))):=by rfl) :
  PE X (.Call (.Attribute o m apos) [] [] pos) (tMeth C m sp dvs E ta tNil):=by
 intro pins s σ H Q I h
 refine PySem.W.methodCall_KW (pl:=pl) (thn (he pins s σ H _ I h) fun u s1 ⟨x,H1,I1,rx,a,dx,fs,ex,ea,l,q⟩=>?_) ht
 subst ex
 obtain rfl:u=Value.ref a:=rx
 refine getmeth_ok I1 ea c hm l ?_
 exact PySem.W.callWith_K0 (first:=[.ref a]) I1.kIn hm.kp (run_fn (us:=[.ref a]) (vs:=[.ref a]) F hr hb hd hx I1 (.cons rfl .nil) q)
structure Mk (K:PySem.W.Frag) (C f:Addr):Prop where
 makes:PySem.W.makesIn K C=true
 init:PySem.W.findIn K (.ref C) "__init__"=some (some (.ref f))
 fn:PySem.W.isFn K (.ref f)=true
 kp:PySem.W.keepIn K (.ref C)=true
theorem run_make {pins:List (Addr×Obj)} {σ:St} {H:Hp}{s:Shared}{Q:VK}{us:List Value}{vs:List V} (M:Mk X.K C f) (F:FnOk X.prog X.w X.K X.mg X.base CX k f fd ps sp) (hr:Room (k+1) X.A) (hb:Binds X.K fd ps ds) (hd:Vals dvs ds)
  (hx:Passes CX X E) (I:Inv X pins σ H s) (r:Vals vs us)
  (h:∀ x dx,H x=none->H dx=none->dx≠x->sp (.ref x::(vs++dvs)) (upd (upd H dx (.own x)) x (.ins C dx [])) (fun v H2=>v=.non/\Q (.ref x) H2) E) :
  wpAny (model X.prog X.w) X.A (call (.ref C) us) (EP X pins σ Q) X.xe s:=by
 have hq:=h (s.heap.objs.size+1) s.heap.objs.size (I.hok.fresh (Nat.le_succ _)) (I.hok.fresh (Nat.le_refl _)) (Nat.ne_of_lt (Nat.lt_succ_self _))
 have I2:=Inv.made (C:=C) I
 have r2:Vals (V.ref (s.heap.objs.size+1)::(vs++dvs)) (Value.ref (s.heap.objs.size+1)::(us++ds)):=.cons rfl (r.append hd)
 have hl:(Value.ref (s.heap.objs.size+1)::us++ds).length=ps.length:=by
  have e:=r2.length
  rw[F.len _ _ _ _ hq]at e
  exact e.symm
 refine wpAny_call (make_map (f:=f) I.kIn M.makes M.init (beq_iff_eq.mp M.fn) (codeAny_mono (F.run _ X.stack _ _ ⟨Value.ref (s.heap.objs.size+1)::us,[]⟩ (Value.ref (s.heap.objs.size+1)::(us++ds)) _ _ E (hr.make C us [])
  (I2.env0.make C us []) (hb _ (Value.ref (s.heap.objs.size+1)::us) I2.kIn hl) r2 hq) fun r s' hq'=>?_))
 cases r with
 | error e=>exact hx pins σ _ _ e s' I2 hq'
 | ok fl=>
  cases fl with
  | ret u=>
   obtain⟨v,H',I3,rv,ev,q3⟩:=I2.after hq'
   subst ev
   exact⟨rv,⟨V.ref (s.heap.objs.size+1),H',I3,rfl,q3⟩⟩
  | next=>exact False.elim hq'
  | brk=>exact False.elim hq'
  | cont=>exact False.elim hq'
theorem pe_make0 (M:Mk X.K C f) (F:FnOk X.prog X.w X.K X.mg X.base CX k f fd ps sp) (hr:Room (k+1) X.A) (hg:Gl X x) (hm:X.mg x=some (.ref C)) (hb:Binds X.K fd ps ds) (hd:Vals dvs ds) (hx:Passes CX X E)
  (hdb:(x == ("__debug__" : Str))=false:=by decide):PE X (.Call (.Name x p) [] [] pos) (tMake C sp dvs E tNil):=by
 intro pins s σ H Q I h
 refine wpAny_Call_Name_kw (ld_glob I hg hm ?_ hdb)
 exact PySem.W.callWith_K0 I.kIn M.kp (run_make (us:=[]) M F hr hb hd hx I .nil h)
end
section
variable {X:Cx}{CX:CXT}{k:Nat}{f C:Addr}{fd:FuncData}{ps ks:List Str}{sp:Sp}{E:XK}{x m:Str}{p pos apos kpos:Pos}{e o:Expr}{es:List Expr}{kws:List Keyword}{te ta:TE}{t tk:TA}{nm:Option Str}
variable {g:List Value->List Value->List Value}{gV:List V->List V->List V}
end
structure FnScope (N P:List Str) (sc:Scope):Prop where
 kind:sc.kind=.function
 co:sc.isCoroutine=false
 gen:sc.isGenerator=false
 nd:N.Nodup
 pre:N.take P.length=P
 par:∀ x∈P,sc.names.lookup x=some .local\/sc.names.lookup x=some .cell
 nofree:∀ y∈sc.names,y.2≠.free
theorem bindL_out {kindOf:Str->Option NameKind}{x:Str}:∀ {binds:List (Str×Value)}{m:Str->Option Value},(∀ v,(x,v) ∉ binds)->bindL kindOf binds m x=m x
 | [],_,_=>rfl
 | (n,v)::r,m,h=>by
  unfold bindL
  rw[bindL_out fun w hw=>h w (List.mem_cons_of_mem _ hw)]
  split
  ·have:x≠n:=by rintro rfl;exact h v List.mem_cons_self
   simp [this]
  ·rfl
theorem bindC_out {kindOf:Str->Option NameKind}{x:Str}:∀ {binds:List (Str×Value)}{m:Str->Option Value},(∀ v,(x,v) ∉ binds)->bindC kindOf binds m x=m x
 | [],_,_=>rfl
 | (n,v)::r,m,h=>by
  unfold bindC
  rw[bindC_out fun w hw=>h w (List.mem_cons_of_mem _ hw)]
  split
  ·rfl
  ·have:x≠n:=by rintro rfl;exact h v List.mem_cons_self
   simp [this]
theorem bindL_get {kindOf:Str->Option NameKind}{x:Str}{v:Value}:∀ {P:List Str}{vs:List Value}{i:Nat}{m:Str->Option Value},P.Nodup->P[i]?=some x->vs[i]?=some v->kindOf x=some .local ->
  bindL kindOf (P.zip vs) m x=some v
 | [],_,_,_,_,h,_,_=>by simp at h
 | _::_,[],_,_,_,_,h,_=>by simp at h
 | p::P,w::vs,0,m,nd,h1,h2,hk=>by
  simp at h1 h2;subst h1;subst h2
  show bindL kindOf ((p,w)::P.zip vs) m p=_
  unfold bindL
  rw[bindL_out fun v hv=>(List.nodup_cons.mp nd).1 (List.of_mem_zip hv).1,if_pos hk]
  simp
 | p::P,w::vs,i+1,m,nd,h1,h2,hk=>by
  show bindL kindOf ((p,w)::P.zip vs) m x=_
  unfold bindL
  exact bindL_get (i:=i) (List.nodup_cons.mp nd).2 (by simpa using h1) (by simpa using h2) hk
theorem bindC_get {kindOf:Str->Option NameKind}{x:Str}{v:Value}:∀ {P:List Str}{vs:List Value}{i:Nat}{m:Str->Option Value},P.Nodup->P[i]?=some x->vs[i]?=some v->kindOf x≠some .local ->
  bindC kindOf (P.zip vs) m x=some v
 | [],_,_,_,_,h,_,_=>by simp at h
 | _::_,[],_,_,_,_,h,_=>by simp at h
 | p::P,w::vs,0,m,nd,h1,h2,hk=>by
  simp at h1 h2;subst h1;subst h2
  show bindC kindOf ((p,w)::P.zip vs) m p=_
  unfold bindC
  rw[bindC_out fun v hv=>(List.nodup_cons.mp nd).1 (List.of_mem_zip hv).1,if_neg hk]
  simp
 | p::P,w::vs,i+1,m,nd,h1,h2,hk=>by
  show bindC kindOf ((p,w)::P.zip vs) m x=_
  unfold bindC
  exact bindC_get (i:=i) (List.nodup_cons.mp nd).2 (by simpa using h1) (by simpa using h2) hk
def start (N:List Str) (vs:List V):St:=vs.map some++List.replicate (N.length-vs.length) none
def cxOf (CX:CXT) (P:Program) (w:World) (K:PySem.W.Frag) (mg:Str->Option Value) (base:Heap) (N:List Str) (qual:Str) (scope:Scope) (f:Addr) (cd:Value) (A:Around) (outer:List Env) (s:Shared) (H:Hp) (E:XK):Cx where
 prog:=P
 w:=w
 K:=K
 mg:=mg
 base:=base
 A:=A.deeper (envOfC qual scope s.heap.objs.size f cd)
 N:=N
 s₀:=s
 H₀:=H
 env:=envOfC qual scope s.heap.objs.size f cd
 outer:=outer
 stack:=envOfC qual scope s.heap.objs.size f cd::outer
 ex:=[]
 calm:=true
 fn:=fun _=>true
 pn:=[]
 xe:=fun e s'=>wpAny (model P w) (A.deeper (envOfC qual scope s.heap.objs.size f cd)) (leaving (envOfC qual scope s.heap.objs.size f cd) e) (fun _ s''=>CX outer H s E e s'') (fun e' s''=>CX outer H s E e' s'') s'
theorem cell_has {sc:Scope}{n:Nat}{x:Str} (h:sc.names.lookup x=some .cell):∃ c,(cellsFrom n sc.names []).lookup x=some c:=by
 have q:=PySem.W.cellsFrom_some sc.names n [] (.inl h)
 exact Option.isSome_iff_exists.mp q
theorem inv_start {CX:CXT}{P:Program}{w:World}{K:PySem.W.Frag}{mg:Str->Option Value}{base:Heap}{N ps:List Str}{qual:Str}{scope:Scope}{f:Addr}{cd:Value}{A:Around}{outer:List Env}{s s1:Shared}{H:Hp}{E:XK}{us:List Value}{vs:List V}
  (S:FnScope N ps scope) (hd:A.handled=none) (e0:Env0 P w K mg base A outer s H) (hl:vs.length=ps.length) (r:Vals vs us)
  (x:InCallC s s.heap.objs.size (bindL (envOfC qual scope s.heap.objs.size f cd).kindOf (ps.zip us) fun _=>none) (cellsFrom (s.heap.objs.size+1) scope.names []) (bindC (envOfC qual scope s.heap.objs.size f cd).kindOf (ps.zip us) fun _=>none) s1) :
  Inv (cxOf CX P w K mg base N qual scope f cd A outer s H E) [] (start N vs) H s1:=by
 have hpl:ps.length<=N.length:=by have:=congrArg List.length S.pre;rw[List.length_take]at this;lia
 obtain⟨h1,tk,rfl,hk⟩:=x.done
 have noA:∀ b:Addr,b ∉ (cxOf CX P w K mg base N qual scope f cd A outer s H E).ex:=fun b z=>absurd (show b∈([]:List Addr) from z) (by simp)
 refine⟨⟨e0.mod,S.kind,rfl,rfl,Nat.le_refl _,fun y z c h1 h2=>?_,fun y hy=>?_,fun y c _ h=>?_,fun _=>hd,Around.frames_deeper e0.frames,.inr ⟨rfl,rfl⟩,fun b z=>absurd z (noA b),e0.bs,e0.bsz,fun b _ _=>noA b,fun b z=>absurd z (noA b),e0.funs,e0.frf⟩,
  rfl,e0.bare,Un.kept hk,⟨_,x.toInCall.ns,fun i y v h1 h2 h3=>?_⟩,fun y c h=>⟨_,x.cell y c h⟩,e0.hok.fresh (Nat.le_refl _),fun y c h=>?_,fun p hp=>absurd (show p∈([]:List (Addr×Obj)) from hp) (by simp),e0.hok.kept hk,?_⟩
 ·exact name_of_addr x.apart (PySem.mem_of_lookup h1) (PySem.mem_of_lookup h2)
 ·have hy:scope.names.lookup y=some .cell\/scope.names.lookup y=some .free:=hy
  rcases hy with hy | hy
  ·exact cell_has hy
  ·exact absurd rfl (S.nofree _ (PySem.mem_of_lookup hy))
 ·exact Nat.le_of_lt (x.above y c (PySem.mem_of_lookup h))
 ·have hi:i<vs.length:=by
   unfold start at h2
   by_cases hi:i<vs.length
   ·exact hi
   ·rw[List.getElem?_append_right (by simpa using hi)]at h2
    rw[List.getElem?_replicate]at h2
    split at h2 <;> cases h2
  have ha:vs[i]?=some v:=by
   unfold start at h2
   rw[List.getElem?_append_left (by simpa using hi),List.getElem?_map]at h2
   cases e:vs[i]? with
   | none=>rw[e]at h2;cases h2
   | some a=>rw[e]at h2;cases h2;rfl
  obtain⟨u,hu,rv⟩:=r.get ha
  have hp:ps[i]?=some y:=by
   rw[<- S.pre,List.getElem?_take_of_lt (by lia)];exact h1
  have ndP:ps.Nodup:=by rw[<- S.pre];exact S.nd.sublist (List.take_sublist _ _)
  refine⟨u,rv,?_⟩
  rcases S.par y (List.mem_of_getElem? hp) with k | k
  ·exact .inl ⟨k,bindL_get ndP hp hu k⟩
  ·obtain⟨c,e⟩:=cell_has (n:=s.heap.objs.size+1) k
   refine .inr ⟨.inl k,c,e,?_⟩
   have q:=x.cell y c e
   rw[bindC_get ndP hp hu (by show scope.names.lookup y≠_;rw[k];decide)]at q
   exact q
 ·exact e0.hok.fresh (Nat.le_of_lt (x.above y c (PySem.mem_of_lookup h)))
 ·unfold start
  show _=N.length
  rw[List.length_append,List.length_map,List.length_replicate]
  lia
theorem fn_of {CX:CXT}{P:Program}{w:World}{K:PySem.W.Frag}{mg:Str->Option Value}{base:Heap}{k:Nat}{f:Addr}{name qual:Str}{params:Arguments}{body:List Stmt}{scope:Scope}{dV kV doc pm cdv ct oc:Value}{an od:Option Addr}
  {osl:Array (Option Value)}{N ps:List Str}{sp:Sp} (lk:K.lookup f=some ⟨oc,od,.func (PySem.W.fnOf name qual params body scope dV kV doc pm an cdv ct),osl⟩) (hcd:PySem.W.codeIn K cdv qual=true) (S:FnScope N ps scope)
  (len:∀ vs H Q E,sp vs H Q E->vs.length=ps.length)
  (hbody:∀ (A:Around) (outer:List Env) (s:Shared) (H:Hp) (vs:List V) (Q:VK) (E:XK),Room k (A.deeper (envOfC qual scope s.heap.objs.size f cdv))->sp vs H Q E ->
   ∃ t,PSs (cxOf CX P w K mg base N qual scope f cdv A outer s H E) body t/\t { nx:=fun _ H'=>Q .non H',rt:=Q } (start N vs) H) :
  FnOk P w K mg base CX (k+1) f (PySem.W.fnOf name qual params body scope dV kV doc pm an cdv ct) ps sp:=by
 refine⟨len,fun A outer s H args us vs Q E hr e0 hb r hsp=>?_⟩
 have hl:=len _ _ _ _ hsp
 have KX:K.In s.heap:=e0.mod.kin.keeps fun b o e=>(e0.bs b o e).1
 have lim:s.heap.NoLimit:=e0.mod.nolimit.keeps fun b o e=>(e0.bs b o e).1
 have hkind:∀ y∈ps.zip us,scope.names.lookup y.1=some .local\/(scope.names.lookup y.1=some .cell/\((cellsFrom (s.heap.objs.size+1) scope.names []).lookup y.1).isSome=true):=fun⟨n,v⟩ hy=>by
  rcases S.par n (List.of_mem_zip hy).1 with q | q
  ·exact .inl q
  ·exact .inr ⟨q,PySem.W.cellsFrom_some _ _ _ (.inl q)⟩
 refine codeAny_call_function hr.depth (KX _ _ lk) rfl S.co S.gen rfl (PySem.W.codeRec_of KX hcd) (hb _ _ _ _ ?_)
 refine wpAny_newFunctionEnv_cells S.kind hkind fun env he s1 x=>?_
 subst he
 refine⟨lim.keeps x.toInCall.keep,codeAny_func ?_⟩
 obtain⟨t,ht,hq⟩:=hbody A outer s H vs Q E (hr.deeper _) hsp
 have I:Inv (cxOf CX P w K mg base N qual scope f cdv A outer s H E) [] (start N vs) H s1:=inv_start S hr.hd e0 hl r x
 refine wpAny_mono (ht [] s1 (start N vs) H _ I hq) (fun fl s' hs=>?_) fun e s' hs=>hs
 have fin:∀ {σ':St} {H':Hp}{v:V}{u:Value},Inv (cxOf CX P w K mg base N qual scope f cdv A outer s H E) [] σ' H' s'->RelV v u->Q v H'->CE outer P w H s Q u s':=
  fun {σ' H' v u} J rv q=>⟨v,H',J.os,J.bare,J.base,J.hok,rv,q⟩
 cases fl with
 | ret u=>
  obtain⟨v,σ',H',J,rv,q⟩:=hs
  exact fin J rv q
 | next=>
  obtain⟨σ',H',J,q⟩:=hs
  exact fin (v:=V.non) (u:=Value.none) J rfl q
 | brk=>
  obtain⟨_,_,_,q⟩:=hs
  exact False.elim q
 | cont=>
  obtain⟨_,_,_,q⟩:=hs
  exact False.elim q
end L2
namespace L2
open PySem PySem.Spec PyProof.Rows
section
variable {X:Cx}{x:Str}{p pos:Pos}{e:Expr}{es:List Expr}{t:TA}{id T:String}{r:List V->Hp->VK->Prop}
def tCB (r:List V->Hp->VK->Prop) (t:TA):TE:=fun σ H Q=>t σ H fun vs H1=>r vs H1 Q
theorem pe_callB (hc:CallR X (.builtin id) r) (hg:Gl X x) (hm:X.mg x=none) (hv:bootBuiltins x=some (.builtin id)) (ha:PA X (e::es) t) (hn:x≠"__name__":=by decide) (hdb:(x == ("__debug__" : Str))=false:=by decide)
  (he:starEach (e::es) X.env=(false,eval e X.env)::starEach es X.env:=by rfl) (hpl:(backTo pos (starEach es X.env)).any (·.1)=false:=by rfl):PE X (.Call (.Name x p) (e::es) [] pos) (tCB r t):=by
 intro pins s σ H Q I h
 refine wpAny_Call_Name_kw (ld_blt I hg hm hv ?_ hn hdb)
 exact PyProof.Rows.callWith_builtin1 (thn (ha pos pins s σ H _ I h) fun us s1 ⟨vs,H1,I1,r1,q1⟩=>hc pins s1 σ H1 vs us Q I1 r1 q1) he hpl
theorem pe_callTy (hc:CallR X (.type T) r) (hg:Gl X x) (hm:X.mg x=none) (hv:bootBuiltins x=some (.type T)) (ha:PA X (e::es) t) (hn:x≠"__name__":=by decide) (hdb:(x == ("__debug__" : Str))=false:=by decide)
  (he:starEach (e::es) X.env=(false,eval e X.env)::starEach es X.env:=by rfl) (hpl:(backTo pos (starEach es X.env)).any (·.1)=false:=by rfl):PE X (.Call (.Name x p) (e::es) [] pos) (tCB r t):=by
 intro pins s σ H Q I h
 refine wpAny_Call_Name_kw (ld_blt I hg hm hv ?_ hn hdb)
 exact PyProof.Rows.callWith_type1 (thn (ha pos pins s σ H _ I h) fun us s1 ⟨vs,H1,I1,r1,q1⟩=>hc pins s1 σ H1 vs us Q I1 r1 q1) he hpl
end
end L2
namespace L2
open PySem PySem.Spec PyProof.Rows
section
variable {κ:Type} [DecidableEq κ]
def valV (kvs:List (κ×V)) (k:κ):Option V:=(kvs.find? fun kv=>decide (kv.1=k)).map (·.2)
def putK (kvs:List (κ×V)) (k:κ) (v:V):List (κ×V):=
 if (kvs.any fun kv=>decide (kv.1=k))=true then kvs.map (fun kv=>if kv.1=k then (kv.1,v) else kv) else kvs++[(k,v)]
theorem valV_pos {p:κ×V}{r:List (κ×V)}{k:κ} (e:p.1=k):valV (p::r) k=some p.2:=by simp [valV,List.find?_cons,e]
theorem valV_neg {p:κ×V}{r:List (κ×V)}{k:κ} (e:¬p.1=k):valV (p::r) k=valV r k:=by simp [valV,List.find?_cons,e]
theorem valV_any (k:κ):∀ kvs:List (κ×V),(kvs.any fun kv=>decide (kv.1=k))=(valV kvs k).isSome
 | []=>rfl
 | p::r=>by
  rw[List.any_cons]
  by_cases e:p.1=k
  ·simp only[valV_pos e,decide_eq_true e,Bool.true_or,Option.isSome_some]
  ·rw[valV_neg e,decide_eq_false e,Bool.false_or];exact valV_any k r
theorem valV_map (k j:κ) (y:V):∀ kvs:List (κ×V),valV (kvs.map fun kv=>if kv.1=k then (kv.1,y) else kv) j=(valV kvs j).map fun x=>if j=k then y else x
 | []=>rfl
 | p::r=>by
  have ih:=valV_map k j y r
  rw[List.map_cons]
  by_cases h:p.1=k
  ·rw[if_pos h]
   by_cases e:p.1=j
   ·rw[valV_pos (p:=(p.1,y)) e,valV_pos e,Option.map_some,if_pos (e.symm.trans h)]
   ·rw[valV_neg (p:=(p.1,y)) e,valV_neg e,ih]
  ·rw[if_neg h]
   by_cases e:p.1=j
   ·rw[valV_pos (p:=p) e,valV_pos e,Option.map_some,if_neg (fun z=>h (e.trans z))]
   ·rw[valV_neg (p:=p) e,valV_neg e,ih]
theorem valV_snoc (k j:κ) (y:V):∀ kvs:List (κ×V),valV kvs k=none->valV (kvs++[(k,y)]) j=if j=k then some y else valV kvs j
 | [],_=>by
  by_cases e:k=j
  ·rw[if_pos e.symm];exact valV_pos (p:=(k,y)) e
  ·rw[if_neg (fun z=>e z.symm)];exact valV_neg (p:=(k,y)) e
 | p::r,hn=>by
  rw[List.cons_append]
  have hk:¬p.1=k:=fun z=>by rw[valV_pos z]at hn;cases hn
  rw[valV_neg hk]at hn
  have ih:=valV_snoc k j y r hn
  by_cases e:p.1=j
  ·rw[valV_pos e,valV_pos e,if_neg (fun z=>hk (e.trans z))]
  ·rw[valV_neg e,valV_neg e,ih]
theorem valV_put (kvs:List (κ×V)) (k j:κ) (y:V):valV (putK kvs k y) j=if j=k then some y else valV kvs j:=by
 unfold putK
 by_cases a:(kvs.any fun kv=>decide (kv.1=k))=true
 ·rw[if_pos a,valV_map]
  rw[valV_any]at a
  by_cases e:j=k
  ·obtain⟨x,hx⟩:=Option.isSome_iff_exists.mp a
   rw[if_pos e,e,hx,Option.map_some,if_pos rfl]
  ·rw[if_neg e]
   cases valV kvs j with
   | none=>rfl
   | some x=>rw[Option.map_some,if_neg e]
 ·rw[if_neg a]
  refine valV_snoc k j y kvs ?_
  rw[valV_any]at a
  cases q:valV kvs k with
  | none=>rfl
  | some x=>rw[q]at a;exact (a rfl).elim
theorem length_putK (kvs:List (κ×V)) (k:κ) (v:V):(putK kvs k v).length<=kvs.length+1:=by
 unfold putK
 split
 ·rw[List.length_map];lia
 ·rw[List.length_append,List.length_cons,List.length_nil];lia
theorem putK_new {kvs:List (κ×V)}{k:κ} (v:V) (h:valV kvs k=none):putK kvs k v=kvs++[(k,v)]:=by
 unfold putK
 rw[valV_any,h]
 exact if_neg (by decide)
theorem RelO.isSome_eq {o:Option V}{u:Option Value} (r:RelO o u):o.isSome=u.isSome:=by
 cases o with
 | none=>cases u with
  | none=>rfl
  | some _=>exact (show False from r).elim
 | some _=>cases u with
  | none=>exact (show False from r).elim
  | some _=>rfl
theorem RelO.getD {o:Option V}{u:Option Value}{d:V}{d':Value} (r:RelO o u) (rd:RelV d d'):RelV (o.getD d) (u.getD d'):=by
 cases o with
 | none=>cases u with
  | none=>exact rd
  | some _=>exact (show False from r).elim
 | some _=>cases u with
  | none=>exact (show False from r).elim
  | some _=>exact r
theorem KV.val {kvs:List (κ×V)}{vs:List (κ×Value)} (r:KV kvs vs) (k:κ):RelO (valV kvs k) (valueAt vs k):=by
 unfold KV at r
 induction r with
 | nil=>exact True.intro
 | @cons p q ps qs h t ih=>
  obtain⟨h1,h2⟩:=h
  by_cases e:p.1=k
  ·have e':q.1=k:=h1.symm.trans e
   have b:valueAt (q::qs) k=some q.2:=by simp [valueAt,List.find?_cons,e']
   rw[valV_pos e,b];exact h2
  ·have e':¬q.1=k:=fun z=>e (h1.trans z)
   have b:valueAt (q::qs) k=valueAt qs k:=by simp [valueAt,List.find?_cons,e']
   rw[valV_neg e,b];exact ih
theorem KV.any {kvs:List (κ×V)}{vs:List (κ×Value)} (r:KV kvs vs) (k:κ):(kvs.any fun kv=>decide (kv.1=k))=vs.any fun kv=>decide (kv.1=k):=by
 unfold KV at r
 induction r with
 | nil=>rfl
 | cons h t ih=>rw[List.any_cons,List.any_cons,ih,h.1]
theorem KV.repl {kvs:List (κ×V)}{vs:List (κ×Value)} (r:KV kvs vs) (k:κ) {y:V}{u:Value} (ry:RelV y u) :
  KV (kvs.map fun kv=>if kv.1=k then (kv.1,y) else kv) (vs.map fun kv=>if kv.1=k then (kv.1,u) else kv):=by
 unfold KV at r ⊢
 induction r with
 | nil=>exact .nil
 | @cons p q ps qs h t ih=>
  rw[List.map_cons,List.map_cons]
  refine .cons ?_ ih
  obtain⟨h1,h2⟩:=h
  by_cases e:p.1=k
  ·rw[if_pos e,if_pos (h1.symm.trans e)];exact⟨h1,ry⟩
  ·rw[if_neg e,if_neg (fun z=>e (h1.trans z))];exact⟨h1,h2⟩
theorem KV.put {kvs:List (κ×V)}{vs:List (κ×Value)} (r:KV kvs vs) (k:κ) {y:V}{u:Value} (ry:RelV y u):KV (putK kvs k y) (stored vs k u):=by
 unfold putK stored
 rw[r.any k]
 by_cases e:(vs.any fun kv=>decide (kv.1=k))=true
 ·rw[if_pos e,if_pos e];exact r.repl k ry
 ·rw[if_neg e,if_neg e];exact Paired.snoc r ⟨rfl,ry⟩
theorem KV.length {kvs:List (κ×V)}{vs:List (κ×Value)} (r:KV kvs vs):kvs.length=vs.length:=Paired.length r
end
theorem kV_is {P:Program}{w:World}{k:Key}{u:Value} (r:RelV (kV k) u):(mixKind P w).is k u=true:=by
 cases k with
 | inl i=>obtain⟨t,e⟩:=(show ∃ t,u=Value.int i t from r);subst e;exact mixKind_int P w i t
 | inr x=>obtain⟨t,e⟩:=(show ∃ t,u=Value.str x t from r);subst e;exact mixKind_str P w x t
theorem items_are {P:Program}{w:World}:∀ {ks:List Key}{us:List Value},Vals (ks.map kV) us->ItemsAre (mixKind P w) ks us
 | [],_,r=>by rw[List.map_nil]at r;cases r;exact .nil
 | k::ks,_,r=>by
  rw[List.map_cons]at r
  cases r with
  | cons h t=>exact .cons (kV_is h) (items_are t)
abbrev KT (H:Hp):List (List Key×V)->List (List Key×Addr×Value)->Prop:=Paired fun p q=>p.1=q.1/\H q.2.1=some (.tup (p.1.map kV))/\RelV p.2 q.2.2
theorem KT.val {H:Hp}{kvs:List (List Key×V)}{xs:List (List Key×Addr×Value)} (r:KT H kvs xs) (k:List Key):RelO (valV kvs k) ((atKey xs k).map (·.2)):=by
 induction r with
 | nil=>exact True.intro
 | @cons p q ps qs h t ih=>
  obtain⟨h1,_,h2⟩:=h
  by_cases e:p.1=k
  ·have e':q.1=k:=h1.symm.trans e
   have b:atKey (q::qs) k=some q.2:=by simp [atKey,List.find?_cons,e']
   rw[valV_pos e,b];exact h2
  ·have e':¬q.1=k:=fun z=>e (h1.trans z)
   have b:atKey (q::qs) k=atKey qs k:=by simp [atKey,List.find?_cons,e']
   rw[valV_neg e,b];exact ih
theorem KT.repl {H:Hp}{kvs:List (List Key×V)}{xs:List (List Key×Addr×Value)} (r:KT H kvs xs) (k:List Key) {y:V}{u:Value} (ry:RelV y u) :
  KT H (kvs.map fun kv=>if kv.1=k then (kv.1,y) else kv) (xs.map (putAt k u)):=by
 induction r with
 | nil=>exact .nil
 | @cons p q ps qs h t ih=>
  rw[List.map_cons,List.map_cons]
  refine .cons ?_ ih
  obtain⟨h1,h2,h3⟩:=h
  unfold putAt
  by_cases e:p.1=k
  ·rw[if_pos e,if_pos (h1.symm.trans e)];exact⟨h1,h2,ry⟩
  ·rw[if_neg e,if_neg (fun z=>e (h1.trans z))];exact⟨h1,h2,h3⟩
theorem KT.put {H:Hp}{kvs:List (List Key×V)}{xs:List (List Key×Addr×Value)} (r:KT H kvs xs) (k:List Key) {b:Addr}{y:V}{u:Value} (hb:H b=some (.tup (k.map kV))) (ry:RelV y u) :
  KT H (putK kvs k y) (storedH xs k b u):=by
 have e:(kvs.any fun kv=>decide (kv.1=k))=(atKey xs k).isSome:=by
  rw[valV_any,(r.val k).isSome_eq,Option.isSome_map]
 unfold putK storedH
 rw[e]
 by_cases q:(atKey xs k).isSome=true
 ·rw[if_pos q,if_pos q];exact r.repl k ry
 ·rw[if_neg q,if_neg q];exact Paired.snoc r ⟨rfl,hb,ry⟩
theorem KT.keeps {H H':Hp}{kvs:List (List Key×V)}{xs:List (List Key×Addr×Value)} (r:KT H kvs xs) (ht:∀ b ys,H b=some (.tup ys)->H' b=some (.tup ys)):KT H' kvs xs:=
 Paired.mapP r fun _ _ z=>⟨z.1,ht _ _ z.2.1,z.2.2⟩
section
variable {P:Program}{w:World}{H:Hp}{h:Heap}{a:Addr}
theorem rd_of {u:HO} (ok:HOk P w H h) (e:Rd H a u):ObjOk P w H h a u:=e.ok ok
theorem dk_rd {kvs:List (Key×V)} (ok:HOk P w H h) (e:Rd H a (.dK kvs)):kvs.length<=sizeLine/\(a == sysModules)=false/\∃ vs,KV kvs vs/\h.DictOf (mixKind P w) a vs:=
 show ObjOk P w H h a (.dK kvs) from rd_of ok e
theorem dk_of {kvs:List (Key×V)} (ok:HOk P w H h) (e:H a=some (.dK kvs)):kvs.length<=sizeLine/\(a == sysModules)=false/\∃ vs,KV kvs vs/\h.DictOf (mixKind P w) a vs:=dk_rd ok (.inl e)
theorem key_of {ks:List Key} (ok:HOk P w H h) (e:H a=some (.tup (ks.map kV))):(tupleKind (mixKind P w)).is h ks a:=by
 obtain⟨_,its,r,o,h1,h2,n,h3⟩:=(show ObjOk P w H h a (.tup (ks.map kV)) from ok a _ e)
 exact⟨o,its.toArray,n,h1,h2,h3,by simpa using items_are r⟩
theorem dt_rd {kvs:List (List Key×V)} (ok:HOk P w H h) (e:Rd H a (.dT kvs)):kvs.length<=sizeLine/\(a == sysModules)=false /\
  ∃ xs,KT H kvs xs/\h.DictOfH (tupleKind (mixKind P w)) a xs:=by
 obtain⟨z,y,xs,r,o,es,ep,h1,h2,h3,h4,h5⟩:=(show ObjOk P w H h a (.dT kvs) from rd_of ok e)
 refine⟨z,y,xs,r,o,es,ep,h1,h2,h3,h4,fun x hx=>?_,h5⟩
 have all:∀ {l:List (List Key×V)}{m:List (List Key×Addr×Value)},KT H l m->∀ x∈m,(tupleKind (mixKind P w)).is h x.1 x.2.1:=by
  intro l m q
  induction q with
  | nil=>intro x hx;exact nomatch hx
  | @cons p q ps qs hq t ih=>
   intro x hx
   rcases List.mem_cons.mp hx with e | hx
   ·subst e
    exact key_of ok (by rw[<- hq.1];exact hq.2.1)
   ·exact ih x hx
 exact all r x hx
theorem dt_of {kvs:List (List Key×V)} (ok:HOk P w H h) (e:H a=some (.dT kvs)):kvs.length<=sizeLine/\(a == sysModules)=false /\
  ∃ xs,KT H kvs xs/\h.DictOfH (tupleKind (mixKind P w)) a xs:=dt_rd ok (.inl e)
end
def DGet (H:Hp) (a:Addr) (y:V) (r:Option V):Prop:=
 (∃ kvs k,Rd H a (.dK kvs)/\y=kV k/\r=valV kvs k)\/∃ kvs k b,Rd H a (.dT kvs)/\y=.ref b/\H b=some (.tup (k.map kV))/\r=valV kvs k
def DPut (H:Hp) (a:Addr) (y v:V) (H':Hp):Prop:=
 (∃ kvs k,H a=some (.dK kvs)/\y=kV k/\kvs.length<sizeLine/\H'=upd H a (.dK (putK kvs k v))) \/
 ∃ kvs k b,H a=some (.dT kvs)/\y=.ref b/\H b=some (.tup (k.map kV))/\kvs.length<sizeLine/\H'=upd H a (.dT (putK kvs k v))
theorem DGet.t {H:Hp}{a b:Addr}{kvs:List (List Key×V)}{k:List Key} (e:H a=some (.dT kvs)) (eb:H b=some (.tup (k.map kV))):DGet H a (.ref b) (valV kvs k):=.inr ⟨kvs,k,b,.inl e,rfl,eb,rfl⟩
theorem DPut.t {H:Hp}{a b:Addr}{kvs:List (List Key×V)}{k:List Key}{v:V} (e:H a=some (.dT kvs)) (eb:H b=some (.tup (k.map kV))) (hl:kvs.length<sizeLine) :
  DPut H a (.ref b) v (upd H a (.dT (putK kvs k v))):=.inr ⟨kvs,k,b,e,rfl,eb,hl,rfl⟩
section
variable {X:Cx}{pins:List (Addr×Obj)} {σ:St} {H:Hp}{s:Shared}{a:Addr}{y v:V}{u r:Value}{o:Option V}{A:Around}{E:Value->Shared->Prop}
theorem Inv.big (I:Inv X pins σ H s):sysModules<s.heap.objs.size:=by
 have h:mainGlobals<s.heap.objs.size:=(I.mod.glob.keeps I.bk).lt
 exact Nat.lt_trans (by decide) h
theorem d_getItem {Q:Value->Shared->Prop} (hu:A.units+1<cLine) (I:Inv X pins σ H s) (g:DGet H a y (some v)) (ry:RelV y u) (h:∀ w' s',Inv X pins σ H s'->RelV v w'->Q w' s') :
  wpAny (model X.prog X.w) A (getItem (.ref a) u) Q E s:=by
 rcases g with ⟨kvs,k,e,ey,l⟩ | ⟨kvs,k,b,e,ey,eb,l⟩
 ·subst ey
  obtain⟨z,hd,vs,rel,dd⟩:=dk_rd I.hok e
  obtain⟨w',hw,rw'⟩:=RelO.some_of (v:=v) (o:=valueAt vs k) (by rw[l];exact rel.val k)
  exact wpAny_getItem_of (kV_is ry) dd.mapOf hw (h w' _ (I.tok _) rw')
 ·subst ey
  cases (show u=Value.ref b from ry)
  obtain⟨z,hd,xs,rel,dd⟩:=dt_rd I.hok e
  obtain⟨w',hw,rw'⟩:=RelO.some_of (v:=v) (o:=(atKey xs k).map (·.2)) (by rw[l];exact rel.val k)
  obtain⟨p,hp,hp2⟩:=Option.map_eq_some_iff.mp hw
  refine wpAny_getItem_heap (tupleKind_room_in1 hu) (key_of I.hok eb) dd hp ?_
  rw[hp2]
  exact h w' _ (I.tok _) rw'
theorem d_write {h':Heap}{t':Nat}{ob:HO} (I:Inv X pins σ H s) (mu:Mut (H a)) (hs:Heap.SameBut a s.heap h') (he:∃ q,h'.get? a=some q) (new:ObjOk X.prog X.w (upd H a ob) h' a ob) :
  Inv X pins σ (upd H a ob) { s with heap:=h',toks:=t' }:=
 I.write (x:=a) (e:=a) mu (.inl rfl) (fun b q hb z=>(hs.2 b hb).trans z) he new
theorem dk_new {P:Program}{w:World}{H':Hp}{h':Heap}{kvs:List (Key×V)}{vs:List (Key×Value)} (z:kvs.length<=sizeLine) (hd:(a == sysModules)=false) (rel:KV kvs vs) (dd:h'.DictOf (mixKind P w) a vs) :
  ObjOk P w H' h' a (.dK kvs):=⟨z,hd,vs,rel,dd⟩
theorem d_setItem {H':Hp}{Q:Unit->Shared->Prop} (hu:A.units+1<cLine) (I:Inv X pins σ H s) (g:DPut H a y v H') (ry:RelV y u) (rv:RelV v r) (h:∀ s',Inv X pins σ H' s'->Q () s') :
  wpAny (model X.prog X.w) A (setItem (.ref a) u r) Q E s:=by
 rcases g with ⟨kvs,k,e,ey,l,eH⟩ | ⟨kvs,k,b,e,ey,eb,l,eH⟩
 ·subst ey eH
  obtain⟨z,hd,vs,rel,dd⟩:=dk_of I.hok e
  have hz:vs.length<=sizeLine:=by rw[<- rel.length];exact z
  have hl:(putK kvs k v).length<=sizeLine:=by have:=length_putK kvs k v;lia
  refine wpAny_setItem_pairs (hsz:=hz) (kV_is ry) dd fun h' dd' hs=>h _ ?_
  have he:∃ q,h'.get? a=some q:=let ⟨q,_,_,hq,_⟩:=dd';⟨q,hq⟩
  exact d_write I (by rw[e];exact True.intro) hs he (dk_new hl hd (rel.put k rv) dd')
 ·subst ey eH
  cases (show u=Value.ref b from ry)
  obtain⟨z,hd,xs,rel,dd⟩:=dt_of I.hok e
  have hz:xs.length<=sizeLine:=by rw[<- Paired.length rel];exact z
  have hl:(putK kvs k v).length<=sizeLine:=by have:=length_putK kvs k v;lia
  refine wpAny_setItem_heap (hsz:=hz) (tupleKind_room_in1 hu) (key_of I.hok eb) dd fun h' dd' hs=>h _ ?_
  obtain⟨q,es,ep,hq,h2,h3,h4,_,h5⟩:=dd'
  refine d_write I (by rw[e];exact True.intro) hs ⟨q,hq⟩ ⟨hl,hd,_,(rel.put k eb rv).keeps fun c ys ec=>?_,q,es,ep,hq,h2,h3,h4,h5⟩
  rw[upd_ne (ne_of ec e (fun z=>nomatch z))]
  exact ec
end
section
variable {X:Cx}{pins:List (Addr×Obj)} {σ:St} {H:Hp}{s:Shared}{a:Addr}{kvs:List (Key×V)}{k:Key}{u:Value}{A:Around}{E:Value->Shared->Prop}
end
theorem dict_typeIs {X:Cx}{pins:List (Addr×Obj)} {σ:St} {H:Hp}{s:Shared}{a:Addr}{y:V}{o:Option V} (I:Inv X pins σ H s) (g:DGet H a y o):s.TypeIs (.ref a) "dict":=by
 rcases g with ⟨kvs,k,e,_,_⟩ | ⟨kvs,k,b,e,_,_,_⟩
 ·obtain⟨_,_,vs,_,dd⟩:=dk_rd I.hok e
  exact dd.typeIs
 ·obtain⟨_,_,xs,_,dd⟩:=dt_rd I.hok e
  exact dd.typeIs
section
variable {X:Cx}{o i e value:Expr}{pos pos' tpos:Pos}{td ty tv:TE}
end
theorem dk_empty {P:Program}{w:World}{H:Hp} (h:Heap) (hb:sysModules<h.objs.size):ObjOk P w H (h.push { cls:=.type "dict",data:=.dict #[] }) h.objs.size (.dK []):=
 ⟨Nat.zero_le _,beq_eq_false_iff_ne.mpr (Ne.symm (Nat.ne_of_lt hb)),[],.nil,Heap.DictOf.new h⟩
theorem dt_empty {P:Program}{w:World}{H:Hp} (h:Heap) (hb:sysModules<h.objs.size):ObjOk P w H (h.push { cls:=.type "dict",data:=.dict #[] }) h.objs.size (.dT []):=
 ⟨Nat.zero_le _,beq_eq_false_iff_ne.mpr (Ne.symm (Nat.ne_of_lt hb)),[],.nil,_,#[],0,Heap.get?_push_size _ rfl,⟨rfl,rfl,rfl⟩,rfl,rfl,List.nodup_nil⟩
def tDNewT:TE:=fun _ H Q=>∀ p,H p=none->Q (.ref p) (upd H p (.dT []))
section
variable {X:Cx}{pos:Pos}
theorem pe_dnewT:PE X (.Dict [] [] pos) tDNewT:=fun pins s σ H Q I h=>
 wpAny_Dict_empty ⟨.ref s.heap.objs.size,_,I.laid (a:=s.heap.objs.size) (o:=.dT []) (t':=s.toks) (fun _ _ q=>Heap.get?_push_of_some _ q) (Nat.le_refl _) (dt_empty s.heap I.big),rfl,h _ (I.hok.fresh (Nat.le_refl _))⟩
end
def tPairs:List (TE×TE)->St->Hp->(List (V×V)->Hp->Prop)->Prop
 | [],_,H,Q=>Q [] H
 | (tk,tv)::r,σ,H,Q=>tk σ H fun x H1=>tv σ H1 fun y H2=>tPairs r σ H2 fun ps H3=>Q ((x,y)::ps) H3
abbrev VV:List (V×V)->List (Value×Value)->Prop:=Paired fun p q=>RelV p.1 q.1/\RelV p.2 q.2
def PPs (X:Cx) (pos:Pos) (keys:List (Option Expr)) (values:List Expr) (trs:List (TE×TE)):Prop:=
 ∀ (pins:List (Addr×Obj)) (s:Shared) (σ:St) (H:Hp) (Q:List (V×V)->Hp->Prop),Inv X pins σ H s->tPairs trs σ H Q ->
  wpAny (model X.prog X.w) X.A (evalPairs (pairTrees keys values X.env pos)) (fun vs s'=>∃ ps H',Inv X pins σ H' s'/\VV ps vs/\Q ps H') X.xe s
theorem pps_nil {X:Cx}{pos:Pos}:PPs X pos [] [] []:=fun pins s σ H Q I h=>pairTrees_nil_walk ⟨[],H,I,.nil,h⟩
theorem pps_cons {X:Cx}{pos:Pos}{k v:Expr}{ks:List (Option Expr)}{vs:List Expr}{tk tv:TE}{trs:List (TE×TE)} (hk:PE X k tk) (hv:PE X v tv) (hr:PPs X pos ks vs trs) :
  PPs X pos (some k::ks) (v::vs) ((tk,tv)::trs):=fun pins s σ H Q I h=>
 pairTrees_cons_walk (thn (hk pins s σ H _ I h) fun u s1 ⟨x,H1,I1,rx,q1⟩=>thn (hv pins s1 σ H1 _ I1 q1) fun w2 s2 ⟨y,H2,I2,ry,q2⟩=>
  thn (hr pins s2 σ H2 _ I2 q2) fun ws s3 ⟨ps,H3,I3,rel,q3⟩=>⟨(x,y)::ps,H3,I3,.cons ⟨rx,ry⟩ rel,q3⟩)
def mergeK (kvs more:List (Key×V)):List (Key×V):=more.foldl (fun acc kv=>putK acc kv.1 kv.2) kvs
theorem KV.merge:∀ {more:List (Key×V)}{rs:List (Key×Value)}{kvs:List (Key×V)}{vs:List (Key×Value)},KV more rs->KV kvs vs->KV (mergeK kvs more) (merged vs rs):=by
 intro more rs kvs vs r
 unfold KV at r
 induction r generalizing kvs vs with
 | nil=>intro q;exact q
 | @cons p q ps qs h t ih=>
  intro r0
  have e:KV (putK kvs p.1 p.2) (stored vs q.1 q.2):=by
   have:=r0.put p.1 h.2
   rw[<- h.1];exact this
  exact ih e
theorem length_mergeK:∀ (more kvs:List (Key×V)),(mergeK kvs more).length<=kvs.length+more.length
 | [],kvs=>by show kvs.length<=kvs.length+0;lia
 | p::r,kvs=>by
  have h1:=length_mergeK r (putK kvs p.1 p.2)
  have h2:=length_putK kvs p.1 p.2
  show (mergeK (putK kvs p.1 p.2) r).length<=_
  rw[List.length_cons];lia
theorem carries_of {P:Program}{w:World}:∀ {kvs:List (Key×V)}{ws:List (Value×Value)},VV (kvs.map fun kv=>(kV kv.1,kv.2)) ws->∃ rs,Carries (mixKind P w) ws rs/\KV kvs rs
 | [],_,r=>by rw[List.map_nil]at r;cases r;exact⟨[],True.intro,.nil⟩
 | p::kvs,_,r=>by
  rw[List.map_cons]at r
  cases r with
  | @cons a b as bs h t=>
   obtain⟨rs,c,q⟩:=carries_of (P:=P) (w:=w) t
   obtain⟨b1,b2⟩:=b
   exact⟨(p.1,b2)::rs,⟨kV_is h.1,rfl,c⟩,.cons ⟨rfl,h.2⟩ q⟩
def tDisp (trs:List (TE×TE)):TE:=fun σ H Q=>∀ p,H p=none->tPairs trs σ (upd H p (.dK [])) fun ps H2=>H2 p=some (.dK [])/\∃ kvs:List (Key×V),ps=kvs.map (fun kv=>(kV kv.1,kv.2))/\kvs.length<=15/\Q (.ref p) (upd H2 p (.dK (mergeK [] kvs)))
theorem pe_disp {X:Cx}{pos:Pos}{keys:List (Option Expr)}{values:List Expr}{trs:List (TE×TE)} (h:PPs X pos keys values trs) (hall:keys.all (·.isSome)=true) (hl:keys.length=values.length) (h0:keys≠[])
  (h15:keys.length<=15):PE X (.Dict keys values pos) (tDisp trs):=by
 intro pins s σ H Q I q
 have hn:=I.hok.fresh (Nat.le_refl s.heap.objs.size)
 have I1:=I.laid (a:=s.heap.objs.size) (o:=.dK []) (h':=s.heap.push { cls:=.type "dict",data:=.dict #[] }) (t':=s.toks) (fun _ _ q=>Heap.get?_push_of_some _ q) (Nat.le_refl _) (dk_empty s.heap I.big)
 refine wpAny_Dict_walk (knd:=mixKind X.prog X.w) hall hl h0 h15 (thn (h pins _ σ _ _ I1 (q _ hn)) fun ws s2 ⟨ps,H2,I2,rel,e,kvs,ep,lk,q2⟩=>?_)
 subst ep
 obtain⟨rs,c,rk⟩:=carries_of (P:=X.prog) (w:=X.w) rel
 obtain⟨z,hd,vs0,r0,dd⟩:=dk_of I2.hok e
 cases r0
 refine⟨rs,c,dd,fun h' dd' hs=>⟨.ref s.heap.objs.size,_,?_,rfl,q2⟩⟩
 have hz:(mergeK [] kvs).length<=sizeLine:=by
  have h1:=length_mergeK kvs []
  rw[List.length_nil]at h1
  rw[sizeLine_eq];lia
 have he:∃ q,h'.get? s.heap.objs.size=some q:=let ⟨q,_,_,hq,_⟩:=dd';⟨q,hq⟩
 exact d_write I2 (by rw[e];exact True.intro) hs he (dk_new hz hd (rk.merge .nil) dd')
structure M1 (X:Cx) (o:Expr) (m:Str) (apos:Pos) (e:Expr) (cpos:Pos):Prop where
 base:attributeBase o m X.env (eval o X.env)=eval o X.env
 few:((backTo cpos (starEach [e] X.env)).all (fun x=>!x.1) && (backToKw cpos (keywordEach [] X.env)).all (fun x=>x.1.isSome)
  && decide (([e]:List Expr).length+([]:List Keyword).length+(if ([]:List Keyword).isEmpty then 0 else 1)<30))=true
 line:(apos.endLine == cpos.line)=true
 trees:backTo cpos (starEach [e] X.env)=[(false,eval e X.env)]
structure M2 (X:Cx) (o:Expr) (m:Str) (apos:Pos) (e f:Expr) (cpos:Pos):Prop where
 base:attributeBase o m X.env (eval o X.env)=eval o X.env
 few:((backTo cpos (starEach [e,f] X.env)).all (fun x=>!x.1) && (backToKw cpos (keywordEach [] X.env)).all (fun x=>x.1.isSome)
  && decide (([e,f]:List Expr).length+([]:List Keyword).length+(if ([]:List Keyword).isEmpty then 0 else 1)<30))=true
 line:(apos.endLine == cpos.line)=true
 trees:backTo cpos (starEach [e,f] X.env)=[(false,eval e X.env),(false,eval f X.env)]
def IsD (H:Hp) (a:Addr):Prop:=(∃ kvs,Rd H a (.dK kvs))\/∃ kvs,Rd H a (.dT kvs)
theorem isD_at {X:Cx}{pins:List (Addr×Obj)} {σ:St} {H:Hp}{s:Shared}{a:Addr} (I:Inv X pins σ H s) (d:IsD H a) :
  s.TypeIs (.ref a) "dict"/\(∀ b,Value.ref a=.ref b->∃ ob,s.heap.get? b=some ob/\ob.dict=none)/\(a == sysModules)=false:=by
 rcases d with ⟨kvs,e⟩ | ⟨kvs,e⟩
 ·obtain⟨_,hd,vs,_,dd⟩:=dk_rd I.hok e
  refine⟨dd.typeIs,fun b q=>?_,hd⟩
  cases q
  obtain⟨ob,_,_,h1,h2,_⟩:=dd
  exact⟨ob,h1,h2.2.1⟩
 ·obtain⟨_,hd,xs,_,dd⟩:=dt_rd I.hok e
  refine⟨dd.typeIs,fun b q=>?_,hd⟩
  cases q
  obtain⟨ob,_,_,h1,h2,_⟩:=dd
  exact⟨ob,h1,h2.2.1⟩
section
variable {X:Cx}{pins:List (Addr×Obj)} {σ:St} {H:Hp}{s:Shared}{a:Addr}{y d:V}{u r:Value}{o:Option V}{A:Around}{E:Value->Shared->Prop}
theorem d_get2 {Q:Value->Shared->Prop} (hu:A.units+1<cLine) (I:Inv X pins σ H s) (g:DGet H a y o) (ry:RelV y u) (rd:RelV d r) (h:∀ w' s',Inv X pins σ H s'->RelV (o.getD d) w'->Q w' s') :
  wpAny (model X.prog X.w) A (call (.builtin "dict.get") [.ref a,u,r]) Q E s:=by
 rcases g with ⟨kvs,k,e,ey,l⟩ | ⟨kvs,k,b,e,ey,eb,l⟩
 ·subst ey
  obtain⟨z,hd,vs,rel,dd⟩:=dk_rd I.hok e
  refine call_meetsIn PySem.F.slot_dict_get dd.typeIs PySem.F.entry_dict_get (PySem.F.args_dict_get_3 _ _ _) (meets_dict_get_default (mixKind X.prog X.w) a (kV_is ry) hd r) ⟨_,dd.mapOf,h _ _ (I.tok _) ?_⟩
  rw[l]
  exact (rel.val k).getD rd
 ·subst ey
  cases (show u=Value.ref b from ry)
  obtain⟨z,hd,xs,rel,dd⟩:=dt_rd I.hok e
  refine call_meetsIn PySem.F.slot_dict_get dd.typeIs PySem.F.entry_dict_get (PySem.F.args_dict_get_3 _ _ _) (meetsH_dict_get_default (tupleKind (mixKind X.prog X.w)) a b hd r) ⟨tupleKind_room_in1 hu,k,xs,key_of I.hok eb,dd,h _ _ (I.tok _) ?_⟩
  rw[l]
  exact (rel.val k).getD rd
end
def tDGet2 (td ty tx:TE):TE:=fun σ H Q=>td σ H fun x H1=>∃ a,x=.ref a/\IsD H1 a/\ty σ H1 fun y H2=>tx σ H2 fun z H3=>∃ o,DGet H3 a y o/\Q (o.getD z) H3
section
variable {X:Cx}{o e f:Expr}{apos cpos:Pos}{td ty tx:TE}
theorem pe_dget2 (hu:X.A.units+1<cLine) (ho:PE X o td) (he:PE X e ty) (hf:PE X f tx) (m:M2 X o "get" apos e f cpos):PE X (.Call (.Attribute o "get" apos) [e,f] [] cpos) (tDGet2 td ty tx):=by
 intro pins s σ H Q I h
 refine wpAny_Call_method m.base m.few m.line PySem.F.plainAttrs_dict PySem.F.slot_dict_get PySem.F.type_dict_get (thn (ho pins s σ H _ I h) fun u s1 ⟨x,H1,I1,rx,a,ex,d,q1⟩=>?_)
 subst ex
 obtain rfl:u=Value.ref a:=rx
 obtain⟨t1,t2,_⟩:=isD_at I1 d
 refine⟨t1,t2,?_⟩
 rw[m.trees]
 refine Calls.callWith_builtin rfl (Calls.evalArgs_plain (Calls.spliced_cons (thn (he pins s1 σ H1 _ I1 q1) fun iv s2 ⟨y,H2,I2,ry,q2⟩=>
  Calls.spliced_cons (thn (hf pins s2 σ H2 _ I2 q2) fun fv s3 ⟨z,H3,I3,rz,ov,g,q3⟩=>Calls.spliced_nil ?_))))
 exact d_get2 hu I3 g ry rz fun w' s4 I4 rw'=>⟨_,H3,I4,rw',q3⟩
end
section
variable {X:Cx}{pins:List (Addr×Obj)} {σ:St} {H:Hp}{s:Shared}{a:Addr}{kvs:List (Key×V)}{A:Around}{E:Value->Shared->Prop}
end
section
variable {X:Cx}{pins:List (Addr×Obj)} {σ:St} {H:Hp}{s:Shared}{a:Addr}{y:V}{u:Value}{A:Around}{E:Value->Shared->Prop}
end
end L2
namespace HT
open PySem PyProof.Rows
theorem rcLt_int (A:Around) (s:Shared) (a:Int) (t:Tok) (c:Int) (u:Tok) (prog:Program) (w:World) (E:Value->Shared->Prop) (Q:Value->Shared->Prop) (h:Q (.bool (decide (a<c))) s) :
  wpAny (model prog w) A (richCompare .Lt (.int a t) (.int c u)) Q E s:=
 (PyProof.Rows.lt_int h:wpAny (model prog w) A (compareOp .Lt (.int a t) (.int c u)) Q E s)
section
open PySem.SeqAt
open PySem.AutoSeq1 (wpAny_loadPart')
open PySem.MeetsSeq PySem.MeetsSeq2 PySem.MeetsSeq3
end
section
variable {prog:Program}{w:World}{A:Around}{E:Value->Shared->Prop}{s:Shared}
theorem cat_tup {t b:Addr}{vs ws:List Value}{Q:Value->Shared->Prop} (ht:IsTup s.heap t vs.toArray) (hb:IsTup s.heap b ws.toArray) (hv:vs≠[])
  (h1:ws=[]->Q (.ref t) s) (h2:ws≠[]->Q (.ref s.heap.objs.size) { s with heap:=s.heap.push { cls:=.type "tuple",data:=.seq (vs++ws).toArray } })
  (hsz:vs.length+ws.length<=sizeLine):wpAny (model prog w) A (binaryOp .Add (.ref t) (.ref b)) Q E s:=by
 obtain⟨⟨cls,dd,data,sl⟩,ho,hc,n,hd⟩:=id ht
 obtain⟨⟨cls2,dd2,data2,sl2⟩,ho2,hc2,n2,hd2⟩:=id hb
 simp only at hc hd hc2 hd2
 subst hc hd hc2 hd2
 have e:vs.toArray++ws.toArray=(vs++ws).toArray:=by simp
 by_cases hw:ws=[]
 ·exact concat_meets ⟨_,ho,rfl⟩ ⟨_,ho2,rfl⟩ noFill_tuple_add seq_tuple_add PySem.F.slot_tuple_add PySem.F.entry_tuple_add (PySem.F.args_tuple_add_2 _ _)
   (tuple_addW1 t b vs.toArray ws.toArray n n2 dd dd2 sl sl2 (by simpa using hv) (by simp [hw])) ⟨ho,ho2,h1 hw⟩
 ·refine concat_meets ⟨_,ho,rfl⟩ ⟨_,ho2,rfl⟩ noFill_tuple_add seq_tuple_add PySem.F.slot_tuple_add PySem.F.entry_tuple_add (PySem.F.args_tuple_add_2 _ _)
   (tuple_addW2 t b vs.toArray ws.toArray n n2 dd dd2 sl sl2 (by simpa using hv) (by simpa using hw) (by rw[List.size_toArray,List.size_toArray];exact hsz)) ⟨ho,ho2,?_⟩
  rw[e]
  exact h2 hw
def sIx (n d:Nat):Option Int->Nat
 | none=>d
 | some v=>if v<0 then (v+(n:Int)).toNat else min v.toNat n
theorem sIx_nat (n d k:Nat):sIx n d (some (k:Int))=min k n:=by
 show (if (k:Int)<0 then ((k:Int)+(n:Int)).toNat else min (k:Int).toNat n)=min k n
 rw[if_neg (by lia),Int.toNat_natCast]
theorem sIx_le (n d:Nat) (hd:d<=n) (o:Option Int):sIx n d o<=n:=by
 cases o with
 | none=>exact hd
 | some v=>
  show (if v<0 then (v+(n:Int)).toNat else min v.toNat n)<=n
  by_cases hv:v<0
  ·rw[if_pos hv];lia
  ·rw[if_neg hv];exact Nat.min_le_right _ _
theorem clip_eq (v:Int) (n d:Nat):(if v<0 then max (v+(n:Int)) 0 else min v (n:Int))=((sIx n d (some v):Nat):Int):=by
 show (if v<0 then max (v+(n:Int)) 0 else min v (n:Int))=(((if v<0 then (v+(n:Int)).toNat else min v.toNat n):Nat):Int)
 by_cases hv:v<0
 ·simp only[if_pos hv];lia
 ·simp only[if_neg hv];lia
theorem adjust_gen (lo hi:Option Int) (n:Nat):Builtin.Slice.sliceAdjust lo hi 1 (n:Int)=(((sIx n 0 lo:Nat):Int),((sIx n n hi:Nat):Int)):=by
 have h1:¬((1:Int)<0):=by lia
 unfold Builtin.Slice.sliceAdjust
 simp only[h1,if_false]
 refine Prod.ext ?_ ?_
 ·cases lo with
  | none=>rfl
  | some v=>exact clip_eq v n 0
 ·cases hi with
  | none=>rfl
  | some v=>exact clip_eq v n n
theorem places_gen (i j:Nat):Builtin.Slice.slicePlaces (i:Int) (j:Int) 1=j-i:=by
 unfold Builtin.Slice.slicePlaces
 have h1:(1:Int) > 0:=by lia
 simp only[h1,if_true,Int.ediv_one]
 split <;> lia
theorem slicePart_ {v:Value}{o:Option Int}{Q:Option Int->Shared->Prop} (p:IsPart v o) (h:Q o s):wpAny (model prog w) A (Builtin.Slice.slicePartIndex v) Q E s:=by
 cases p with
 | none=>exact slicePart_none h
 | int i t=>exact slicePart_int h
theorem sliceApplied_gen {sl:Addr}{vl vu:Value}{lo hi:Option Int}{n:Nat}{Q:Int×Int×Nat->Shared->Prop} (hs:s.heap.IsSliceOf sl vl vu .none) (pl:IsPart vl lo) (pu:IsPart vu hi)
  (h:Q (((sIx n 0 lo:Nat):Int),1,sIx n n hi-sIx n 0 lo) s):wpAny (model prog w) A (Builtin.Slice.sliceApplied (.ref sl) (pure (n:Int))) Q E s:=by
 obtain⟨os,hos,hcs,hds⟩:=id hs
 unfold Builtin.Slice.sliceApplied Builtin.Slice.sliceFields
 refine wpAny_bind (wpAny_bind (wpAny_field hos hds (x:=vl) rfl (wpAny_bind (wpAny_field hos hds (x:=vu) rfl (wpAny_bind (wpAny_field hos hds (x:=.none) rfl (wpAny_pure ?_)))))))
 refine wpAny_bind (slicePart_none ?_)
 show wpAny _ _ (if ((1:Int) == 0)=true then _ else _) _ _ s
 rw[if_neg (by decide)]
 refine wpAny_bind (slicePart_ pl (wpAny_bind (slicePart_ pu (wpAny_bind (wpAny_pure ?_)))))
 show wpAny _ _ (match Builtin.Slice.sliceAdjust lo hi 1 (n:Int) with | (lo,hi)=>pure (lo,(1:Int),Builtin.Slice.slicePlaces lo hi 1)) _ _ s
 rw[adjust_gen lo hi n]
 show wpAny _ _ (pure (((sIx n 0 lo:Nat):Int),(1:Int),Builtin.Slice.slicePlaces ((sIx n 0 lo:Nat):Int) ((sIx n n hi:Nat):Int) 1)) _ _ s
 rw[places_gen]
 exact wpAny_pure h
theorem pick_gen (xs:Array Value) (i k:Nat):((List.range k).filterMap fun (m:Nat)=>xs[((i:Int)+(m:Int) * 1).toNat]?).toArray=((xs.toList.drop i).take k).toArray:=by
 have e:(fun (m:Nat)=>xs[((i:Int)+(m:Int) * 1).toNat]?)=fun m=>xs[i+m]?:=by
  funext m
  have:((i:Int)+(m:Int) * 1).toNat=i+m:=by lia
  rw[this]
 rw[e]
 have:=pick_run xs i k
 rw[List.filterMap_map]at this
 have e2:((fun x=>xs[x]?) ∘ fun x=>i+x)=fun m=>xs[i+m]?:=rfl
 rw[e2]at this
 rw[this]
theorem getItem_tuple_cut {t sl:Addr}{items:Array Value}{vl vu:Value}{lo hi:Option Int}{Q:Value->Shared->Prop} (ht:IsTup s.heap t items) (hs:s.heap.IsSliceOf sl vl vu .none) (pl:IsPart vl lo) (pu:IsPart vu hi)
  (hw:¬(sIx items.size 0 lo=0/\sIx items.size items.size hi=items.size))
  (h:Q (.ref s.heap.objs.size) { s with heap:=s.heap.push { cls:=.type "tuple",data:=.seq ((items.toList.drop (sIx items.size 0 lo)).take (sIx items.size items.size hi-sIx items.size 0 lo)).toArray } })
  (hsz:items.size<=sizeLine):wpAny (model prog w) A (getItem (.ref t) (.ref sl)) Q E s:=by
 have htake:sizeOk (.seq ((items.toList.drop (sIx items.size 0 lo)).take (sIx items.size items.size hi-sIx items.size 0 lo)).toArray):=by
  show ((items.toList.drop (sIx items.size 0 lo)).take (sIx items.size items.size hi-sIx items.size 0 lo)).toArray.size<=sizeLine
  rw[List.size_toArray,List.length_take,List.length_drop,Array.length_toList]
  lia
 have hj:sIx items.size items.size hi<=items.size:=sIx_le _ _ (Nat.le_refl _) hi
 obtain⟨os,hos,hcs,hds⟩:=id hs
 have hTs:s.TypeIs (.ref sl) "slice":=⟨os,hos,hcs⟩
 unfold getItem
 try with_reducible refine wpAny_holding ?_
 first | refine wpAny_bind (wpAny_pure ?_) | skip
 refine wpAny_bind (wpAny_sequenceKey ht.typeIs (by decide) ?_)
 refine wpAny_bind (wpAny_callSpecial?_slot (name:=Str.ofString "__getitem__") ht.typeIs PyProof.Rows.slot_tuple_getitem
  (wpAny_call_entry PyProof.Rows.slot_tuple_getitem ht.typeIs entry_tuple_getitem ?_ (args_tuple_getitem _ _)))
 show wpAny _ _ (Builtin.Tuple.tupleItemsOf (.ref t) >>= _) _ _ s
 refine wpAny_bind (tupleItemsOf_ ht ?_)
 refine wpAny_bind (wpAny_typeOf hTs ?_)
 rw[if_pos (by decide)]
 refine wpAny_bind (sliceApplied_gen hs pl pu ?_)
 have hno:¬((((sIx items.size 0 lo:Nat):Int) == 0 && (1:Int) == 1 && (sIx items.size items.size hi-sIx items.size 0 lo) == items.size)=true):=by
  intro q
  rw[Bool.and_eq_true,Bool.and_eq_true]at q
  have q1:((sIx items.size 0 lo:Nat):Int)=0:=eq_of_beq q.1.1
  have q2:sIx items.size items.size hi-sIx items.size 0 lo=items.size:=eq_of_beq q.2
  exact hw ⟨by lia,by lia⟩
 show wpAny _ _ (if (((sIx items.size 0 lo:Nat):Int) == 0 && (1:Int) == 1 && (sIx items.size items.size hi-sIx items.size 0 lo) == items.size)=true then _ else _) _ _ s
 rw[if_neg hno,pick_gen]
 first
  | exact wpAny_bind (m:=Builtin.Tuple.tupleExact _) (wpAny_newObj_type (wpAny_pure ⟨_,rfl,wpAny_pure h⟩) htake)
  | exact wpAny_bind (m:=Builtin.Tuple.tupleExact _) (wpAny_newObj_type (wpAny_bind (wpAny_pure (wpAny_pure ⟨_,rfl,wpAny_pure h⟩))) htake)
  | exact wpAny_bind (wpAny_bind (m:=Builtin.Tuple.tupleExact _) (wpAny_newObj_type (wpAny_pure (wpAny_pure ⟨_,rfl,wpAny_pure h⟩)) htake))
  | exact wpAny_bind (wpAny_bind (m:=Builtin.Tuple.tupleExact _) (wpAny_newObj_type (wpAny_pure ⟨_,rfl,wpAny_pure h⟩) htake))
end
end HT
namespace L2
open PySem PySem.Spec PyProof.Rows
abbrev TO:=St->Hp->(Option Int->Hp->Prop)->Prop
def PO (X:Cx) (e:Option Expr) (t:TO):Prop:=
 ∀ (pins:List (Addr×Obj)) (s:Shared) (σ:St) (H:Hp) (Q:Option Int->Hp->Prop),Inv X pins σ H s->t σ H Q ->
  wpAny (model X.prog X.w) X.A (evalPart e X.env) (fun u s'=>∃ o H',Inv X pins σ H' s'/\IsPart u o/\Q o H') X.xe s
def tNoPart:TO:=fun _ H Q=>Q none H
def tPart (t:TE):TO:=fun σ H Q=>t σ H fun x H1=>∃ i,x=.int i/\Q (some i) H1
section
variable {X:Cx}{e:Expr}{te:TE}{lo hi:Option Expr}{tl th:TO}{pos p2:Pos}
theorem po_none:PO X none tNoPart:=by
 intro pins s σ H Q I h
 rw[evalPart_none]
 exact wpAny_pure ⟨none,H,I,.none,h⟩
theorem po_some (h:PE X e te):PO X (some e) (tPart te):=by
 intro pins s σ H Q I hw
 rw[evalPart_some]
 refine thn (h pins s σ H _ I hw) fun u s1 ⟨x,H1,I1,r1,q1⟩=>?_
 obtain⟨i,rfl,q⟩:=q1
 obtain⟨t,rfl⟩:=r1
 exact⟨some i,H1,I1,.int i t,q⟩
def SlR (X:Cx) (r:V->Option Int->Option Int->Hp->VK->Prop):Prop:=
 ∀ (pins:List (Addr×Obj)) (s:Shared) (σ:St) (H:Hp) (x:V) (v vl vu:Value) (lo hi:Option Int) (sl:Addr) (Q:VK),Inv X pins σ H s->RelV x v->s.heap.IsSliceOf sl vl vu .none->IsPart vl lo->IsPart vu hi->r x lo hi H Q ->
  ∃ T id,typeLookup (.type T) "__getitem__"=pure (some (.builtin id))/\s.TypeIs v T/\wpAny (model X.prog X.w) X.A (getItem v (.ref sl)) (EP X pins σ Q) X.xe s
theorem SlR.or {r r':V->Option Int->Option Int->Hp->VK->Prop} (h:SlR X r) (h':SlR X r'):SlR X (fun x lo hi H Q=>r x lo hi H Q\/r' x lo hi H Q):=by
 intro pins s σ H x v vl vu lo hi sl Q I rx hs pl pu q
 rcases q with q | q
 ·exact h pins s σ H x v vl vu lo hi sl Q I rx hs pl pu q
 ·exact h' pins s σ H x v vl vu lo hi sl Q I rx hs pl pu q
def tSl (r:V->Option Int->Option Int->Hp->VK->Prop) (te:TE) (tl th:TO):TE:=fun σ H Q=>te σ H fun x H1=>tl σ H1 fun l H2=>th σ H2 fun u H3=>r x l u H3 Q
theorem pe_slice {r:V->Option Int->Option Int->Hp->VK->Prop} (hr:SlR X r) (he:PE X e te) (hl:PO X lo tl) (hu:PO X hi th):PE X (.Subscript e (.Slice lo hi none p2) pos) (tSl r te tl th):=by
 intro pins s σ H Q I h
 refine Subscript_ (thn (he pins s σ H _ I h) fun v s1 ⟨x,H1,I1,r1,q1⟩=>?_)
 refine wpAny_Slice (thn (hl pins s1 σ H1 _ I1 q1) fun vl s2 ⟨l,H2,I2,pl,q2⟩=>thn (hu pins s2 σ H2 _ I2 q2) fun vu s3 ⟨u,H3,I3,pu,q3⟩=>?_)
 rw[evalPart_none]
 refine wpAny_pure ?_
 have I4:Inv X pins σ H3 { s3 with heap:=s3.heap.push { cls:=.type "slice",data:=.fields #[vl,vu,.none] } }:=I3.kept (t':=s3.toks) fun b ob q=>Heap.get?_push_of_some _ q
 obtain⟨T,id,hT,ht,hg⟩:=hr pins { s3 with heap:=s3.heap.push { cls:=.type "slice",data:=.fields #[vl,vu,.none] } } σ H3 x v vl vu l u s3.heap.objs.size Q I4 r1 (Heap.IsSliceOf.new ..) pl pu q3
 show wpAny (model X.prog X.w) X.A (subscriptTail e (.Slice lo hi none p2) v (.ref s3.heap.objs.size)) (EP X pins σ Q) X.xe { s3 with heap:=s3.heap.push { cls:=.type "slice",data:=.fields #[vl,vu,.none] } }
 exact tail_any (ops:=[.ref s3.heap.objs.size,v]) ht hT hg (by with_unfolding_all rfl)
def cutV (xs:List V) (lo hi:Option Int):List V:=(xs.drop (HT.sIx xs.length 0 lo)).take (HT.sIx xs.length xs.length hi-HT.sIx xs.length 0 lo)
theorem cutV_length (xs:List V) (lo hi:Option Int):(cutV xs lo hi).length<=xs.length:=by
 unfold cutV
 rw[List.length_take,List.length_drop]
 lia
def rSlT (K:PySem.W.Frag):V->Option Int->Option Int->Hp->VK->Prop:=fun x lo hi H Q=>∃ a xs,x=.ref a/\SqT K H a xs /\
 ¬(HT.sIx xs.length 0 lo=0/\HT.sIx xs.length xs.length hi=xs.length)/\∀ p,H p=none->Q (.ref p) (upd H p (.tup (cutV xs lo hi)))
theorem sl_tup:SlR X (rSlT X.K):=by
 intro pins s σ H x v vl vu lo hi sl Q I rx hs pl pu h
 obtain⟨a,xs,rfl,hx,hw,q⟩:=h
 cases rx
 obtain⟨its,r,ht,hz⟩:=I.tuple hx
 have hlen:its.toArray.size=xs.length:=by rw[List.size_toArray];exact r.length.symm
 refine⟨"tuple",_,PyProof.Rows.slot_tuple_getitem.lookup,ht.typeIs,?_⟩
 refine HT.getItem_tuple_cut ht hs pl pu (by rw[hlen];exact hw) ?_ (by rw[hlen];exact hz)
 rw[hlen]
 refine⟨.ref s.heap.objs.size,_,I.laid (t':=s.toks) (o:=.tup (cutV xs lo hi)) (fun b ob q=>Heap.get?_push_of_some _ q) (Nat.le_refl _) ?_,rfl,q _ (I.hok.fresh (Nat.le_refl _))⟩
 exact⟨tupD_new (Nat.le_trans (cutV_length xs lo hi) hz),_,(r.drop (HT.sIx xs.length 0 lo)).take (HT.sIx xs.length xs.length hi-HT.sIx xs.length 0 lo),IsTup.new _ _⟩
def rCatT (K:PySem.W.Frag):R2:=fun x y H Q=>∃ a b xs ys,x=.ref a/\y=.ref b/\SqT K H a xs/\SqT K H b ys/\xs≠[]/\xs.length+ys.length<=sizeLine /\
 (ys=[]->Q (.ref a) H)/\(ys≠[]->∀ p,H p=none->Q (.ref p) (upd H p (.tup (xs++ys))))
theorem Vals.nil_iff {xs:List V}{us:List Value} (r:Vals xs us):us=[] ↔ xs=[]:=by
 cases r with
 | nil=>simp
 | cons _ _=>simp
theorem op_catT:OpR X (binaryOp .Add) (rCatT X.K):=by
 intro pins s σ H x y v u Q I rx ry h
 obtain⟨a,b,xs,ys,rfl,rfl,ha,hb,hx,hz,q1,q2⟩:=h
 cases rx
 cases ry
 obtain⟨its,r1,p1,_⟩:=I.tuple ha
 obtain⟨its2,r2,p2,_⟩:=I.tuple hb
 refine HT.cat_tup p1 p2 (fun z=>hx (r1.nil_iff.mp z)) (fun z=>⟨.ref a,H,I,rfl,q1 (r2.nil_iff.mp z)⟩) (fun z=>?_) (by rw[<- r1.length,<- r2.length];exact hz)
 refine⟨.ref s.heap.objs.size,_,I.laid (t':=s.toks) (o:=.tup (xs++ys)) (fun b ob q=>Heap.get?_push_of_some _ q) (Nat.le_refl _) ?_,rfl,q2 (fun w=>z (r2.nil_iff.mpr w)) _ (I.hok.fresh (Nat.le_refl _))⟩
 exact⟨tupD_new (by rw[List.length_append];exact hz),_,r1.append r2,IsTup.new _ _⟩
end
end L2
namespace L2
open PySem PySem.Spec PyProof.Rows
def ixN (n:Nat) (i:Int):Option Nat:=if 0<=i then (if i<n then some i.toNat else none) else if -(n:Int)<=i then some (i+n).toNat else none
def atI {α:Type} (xs:List α) (i:Int):Option α:=(ixN xs.length i).bind fun j=>xs[j]?
theorem ixN_seq {n:Nat}{i:Int}{j:Nat} (h:ixN n i=some j):seqIndex? i n=some j/\j<n/\-(n:Int)<=i/\i<n:=by
 unfold ixN at h
 by_cases h0:0<=i
 ·rw[if_pos h0]at h
  by_cases h1:i<n
  ·rw[if_pos h1]at h
   have e:i.toNat=j:=Option.some.inj h
   exact⟨by rw[seqIndex_of h0 h1,e],by lia,by lia,h1⟩
  ·rw[if_neg h1]at h;cases h
 ·rw[if_neg h0]at h
  by_cases h1:-(n:Int)<=i
  ·rw[if_pos h1]at h
   have e:(i+n).toNat=j:=Option.some.inj h
   exact⟨by rw[seqIndex_neg (by lia) h1,e],by lia,h1,by lia⟩
  ·rw[if_neg h1]at h;cases h
theorem atI_get {α:Type} {xs:List α}{i:Int}{v:α} (h:atI xs i=some v):∃ j,seqIndex? i xs.length=some j/\xs[j]?=some v/\j<xs.length/\-(xs.length:Int)<=i/\i<xs.length:=by
 unfold atI at h
 cases e:ixN xs.length i with
 | none=>rw[e]at h;cases h
 | some j=>
  rw[e]at h
  obtain⟨h1,h2,h3,h4⟩:=ixN_seq e
  exact⟨j,h1,h,h2,h3,h4⟩
theorem atI_nat {α:Type} {xs:List α}{j:Nat}{v:α} (h:xs[j]?=some v):atI xs (j:Int)=some v:=by
 have hj:j<xs.length:=(List.getElem?_eq_some_iff.mp h).1
 have e:ixN xs.length (j:Int)=some j:=by
  unfold ixN
  rw[if_pos (by lia),if_pos (by lia)];simp
 unfold atI;rw[e];exact h
theorem atI_last {α:Type} (xs:List α) (v:α):atI (xs++[v]) (-1)=some v:=by
 have hl:(xs++[v]).length=xs.length+1:=by simp
 have e:ixN (xs++[v]).length (-1)=some xs.length:=by
  unfold ixN
  rw[hl,if_neg (by decide),if_pos (by lia)]
  congr 1
  lia
 unfold atI
 rw[e]
 show (xs++[v])[xs.length]?=some v
 simp
def PlainIx (b:Expr):Prop:=∀ o i,subscripted b false o i=operate [o,i] (getItem o i)
def IxR (X:Cx) (r:R2):Prop:=
 ∀ (value slice:Expr) (pins:List (Addr×Obj)) (s:Shared) (σ:St) (H:Hp) (x y:V) (v u:Value) (Q:VK),Inv X pins σ H s->RelV x v->RelV y u->r x y H Q ->
  subscripted slice false v u=operate [v,u] (getItem v u)->wpAny (model X.prog X.w) X.A (subscriptTail value slice v u) (EP X pins σ Q) X.xe s
def MtR (X:Cx) (id:String) (r:V->List V->Hp->VK->Prop):Prop:=
 ∀ (pins:List (Addr×Obj)) (s:Shared) (σ:St) (H:Hp) (x:V) (xs:List V) (v:Value) (us:List Value) (Q:VK),Inv X pins σ H s->RelV x v->Vals xs us->r x xs H Q ->
  wpAny (model X.prog X.w) X.A (call (.builtin id) (v::us)) (EP X pins σ Q) X.xe s
section
variable {X:Cx}{a b:Expr}{ta tb:TE}{pos:Pos}
theorem IxR.or {r r':R2} (h:IxR X r) (h':IxR X r'):IxR X (fun x y H Q=>r x y H Q\/r' x y H Q):=by
 intro value slice pins s σ H x y v u Q I rx ry q hs
 rcases q with q | q
 ·exact h value slice pins s σ H x y v u Q I rx ry q hs
 ·exact h' value slice pins s σ H x y v u Q I rx ry q hs
theorem pe_ix {r:R2} (hr:IxR X r) (ha:PE X a ta) (hb:PE X b tb) (hs:PlainIx b):PE X (.Subscript a b pos) (tOp r ta tb):=by
 intro pins s σ H Q I h
 exact Subscript_ (binT ha hb I h fun v u s2 x y H2 I2 rx ry q=>hr a b pins s2 σ H2 x y v u Q I2 rx ry q (hs _ _))
def rIxL (K:PySem.W.Frag):R2:=fun x y H Q=>∃ p xs i v,x=.ref p/\y=.int i/\SqL K H p xs/\atI xs i=some v/\Q v H
def rIxT (K:PySem.W.Frag):R2:=fun x y H Q=>∃ p xs i v,x=.ref p/\y=.int i/\SqT K H p xs/\atI xs i=some v/\Q v H
def rIxS:R2:=fun x y H Q=>∃ z i c,x=.str z/\y=.int i/\z.length<=sizeLine/\atI z.cps.toList i=some c/\Q (.str ⟨#[c]⟩) H
theorem ix_list:IxR X (rIxL X.K):=by
 intro value slice pins s σ H x y v u Q I rx ry h hs
 obtain⟨p,xs,i,z,rfl,rfl,hq,he,q⟩:=h
 cases rx
 obtain⟨t,rfl⟩:=ry
 obtain⟨its,r,pl,hz⟩:=I.list hq
 obtain⟨j,h1,h2,h3,h4,h5⟩:=atI_get he
 obtain⟨w,ew,rw'⟩:=r.get h2
 have hl:=r.length
 have hn:=line63
 have fin:EP X pins σ Q w s:=⟨z,H,I,rw',q⟩
 by_cases h0:0<=i
 ·have hj:i.toNat=j:=by
   rw[seqIndex_of h0 h5]at h1
   exact Option.some.inj h1
  exact item_listR pl.isList h0 (by lia) (by rw[hj];simpa using ew) fin hs
 ·have hj:(i+(its.toArray.size:Int)).toNat=j:=by
   rw[seqIndex_neg (by lia) h4]at h1
   rw[List.size_toArray,<- hl]
   exact Option.some.inj h1
  exact subscriptTail_builtinR (x:=w) pl.isList.typeIs slot_list_getitem.lookup
   (wpAny_getItem_list_neg (Q:=fun r s'=>r=w/\EP X pins σ Q r s') pl.isList (by lia) (by rw[List.size_toArray] <;> lia) (by lia) (by rw[hj];simpa using ew) ⟨rfl,fin⟩) hs
theorem ix_tup:IxR X (rIxT X.K):=by
 intro value slice pins s σ H x y v u Q I rx ry h hs
 obtain⟨p,xs,i,z,rfl,rfl,hq,he,q⟩:=h
 cases rx
 obtain⟨t,rfl⟩:=ry
 obtain⟨its,r,pl,hz⟩:=I.tuple hq
 obtain⟨j,h1,h2,h3,h4,h5⟩:=atI_get he
 obtain⟨w,ew,rw'⟩:=r.get h2
 have hl:=r.length
 have hn:=line63
 have fin:EP X pins σ Q w s:=⟨z,H,I,rw',q⟩
 exact subscriptTail_builtinR (x:=w) pl.typeIs slot_tuple_getitem.lookup
  (getItem_tuple (j:=j) (Q:=fun r s'=>r=w/\EP X pins σ Q r s') pl (by lia) (by lia) (by rw[List.size_toArray,<- hl];exact h1) (by simpa using ew) ⟨rfl,fin⟩) hs
theorem ix_str:IxR X rIxS:=by
 intro value slice pins s σ H x y v u Q I rx ry h hs
 obtain⟨z,i,c,rfl,rfl,hz,he,q⟩:=h
 obtain⟨t,rfl⟩:=rx
 obtain⟨t',rfl⟩:=ry
 obtain⟨j,h1,h2,h3,h4,h5⟩:=atI_get he
 have hl:z.cps.toList.length=z.length:=by simp [Str.length]
 rw[hl]at h1 h4 h5
 have hn:=line63
 exact tail_any (typeIs_str s z t) slot_str_getitem.lookup (getItem_str (c:=c) (by
  have e1:decide (i < -(2 ^ 63:Int))=false:=decide_eq_false (by lia)
  have e2:decide (i ≥ 2 ^ 63)=false:=decide_eq_false (by lia)
  rw[e1,e2,Bool.or_false]) (by rw[h1];simpa using h2) ⟨.str ⟨#[c]⟩,H,I.tok _,⟨_,rfl⟩,q⟩) hs
theorem mapSeq_set (its:List Value) (n j:Nat) (u:Value):Obj.mapSeq (·.setIfInBounds j u) { cls:=.type "list",data:=.seq its.toArray n }={ cls:=.type "list",data:=.seq (its.set j u).toArray n }:=by
 simp [Obj.mapSeq]
theorem Inv.lst {pins:List (Addr×Obj)} {σ:St} {H:Hp}{s:Shared}{p:Addr}{xs:List V} (I:Inv X pins σ H s) (h:H p=some (.lst xs)) :
  ∃ (its:List Value) (n:Nat),Vals xs its/\s.heap.get? p=some { cls:=.type "list",data:=.seq its.toArray n }/\xs.length<=sizeLine:=by
 obtain⟨z,its,n,r,e⟩:=I.hok p _ h
 exact⟨its,n,r,e,z⟩
theorem Inv.lstUpd {pins:List (Addr×Obj)} {σ:St} {H:Hp}{s:Shared}{p:Addr}{xs ys:List V}{its its':List Value}{n n':Nat}{f:Obj->Obj} (I:Inv X pins σ H s) (h:H p=some (.lst xs))
  (ho:s.heap.get? p=some { cls:=.type "list",data:=.seq its.toArray n }) (hf:f { cls:=.type "list",data:=.seq its.toArray n }={ cls:=.type "list",data:=.seq its'.toArray n' }) (r:Vals ys its') (hz:ys.length<=sizeLine) (t:Nat) :
  Inv X pins σ (upd H p (.lst ys)) { s with heap:=s.heap.update p f,toks:=t }:=by
 have e:(s.heap.update p f).get? p=some { cls:=.type "list",data:=.seq its'.toArray n' }:=by
  rw[Heap.get?_update_self f ho (by rw[hf] <;> rfl),hf]
 refine I.write (x:=p) (e:=p) (by rw[h];trivial) (.inl rfl) (fun b u hb q=>(Heap.get?_update_other _ _ (Ne.symm hb)).trans q) ⟨_,e⟩ ?_
 exact⟨hz,its',n',r,e⟩
def rSetL:V->V->V->Hp->(Hp->Prop)->Prop:=fun o i v H Q=>∃ p xs k j,o=.ref p/\i=.int k/\H p=some (.lst xs)/\ixN xs.length k=some j/\Q (upd H p (.lst (xs.set j v)))
theorem set_list:PSet X rSetL:=by
 intro pins s σ H o i v ov iv u Q I ro ri rv h
 obtain⟨p,xs,k,j,rfl,rfl,hp,hj,q⟩:=h
 cases ro
 obtain⟨t,rfl⟩:=ri
 obtain⟨its,n,r,ho,hz⟩:=I.lst hp
 obtain⟨h1,h2,h3,h4⟩:=ixN_seq hj
 have hl:=r.length
 have hn:=line63
 have I':Inv X pins σ (upd H p (.lst (xs.set j v))) { s with heap:=s.heap.update p (Obj.mapSeq (·.setIfInBounds j u)) }:=
  I.lstUpd hp ho (mapSeq_set its n j u) (r.set rv j) (by rw[List.length_set];exact hz) s.toks
 by_cases h0:0<=k
 ·have hk:k.toNat=j:=by
   rw[seqIndex_of h0 h4]at h1
   exact Option.some.inj h1
  exact PySem.W.ki_setAt ho h0 (by lia) (by rw[List.size_toArray,<- hl];exact h4) (by rw[hk];exact⟨_,I',q⟩)
 ·have hk:(k+(its.toArray.size:Int)).toNat=j:=by
   rw[seqIndex_neg (by lia) h3]at h1
   rw[List.size_toArray,<- hl]
   exact Option.some.inj h1
  exact PySem.W.ki_setBack ho (by lia) (by rw[List.size_toArray,<- hl];exact h3) (by lia) (by rw[hk];exact⟨_,I',q⟩)
theorem slice_bounds (lo hi:Option Int) (n:Nat):(sliceBounds lo hi none n).1=((HT.sIx n 0 lo:Nat):Int)/\(sliceBounds lo hi none n).2.1=((HT.sIx n n hi:Nat):Int)/\(sliceBounds lo hi none n).2.2=1:=by
 refine⟨?_,?_,rfl⟩
 ·cases lo with
  | none=>simp [sliceBounds,HT.sIx]
  | some i=>
   simp only[sliceBounds,HT.sIx,Option.getD_none,show (1:Int) > 0 by decide,if_true]
   by_cases h:i<0
   ·simp only[h,if_true] <;> lia
   ·simp only[h,if_false] <;> lia
 ·cases hi with
  | none=>simp [sliceBounds,HT.sIx]
  | some i=>
   simp only[sliceBounds,HT.sIx,Option.getD_none,show (1:Int) > 0 by decide,if_true]
   by_cases h:i<0
   ·simp only[h,if_true] <;> lia
   ·simp only[h,if_false] <;> lia
theorem slicePick_cut (its:List Value) (lo hi:Option Int):slicePick its.toArray lo hi none=((its.drop (HT.sIx its.length 0 lo)).take (HT.sIx its.length its.length hi-HT.sIx its.length 0 lo)).toArray:=by
 obtain⟨h1,h2,h3⟩:=slice_bounds lo hi its.toArray.size
 unfold slicePick
 rw[h1,h2,h3]
 simp only[sliceRange_one,pick_run,List.size_toArray] <;> rfl
def rSlL (K:PySem.W.Frag):V->Option Int->Option Int->Hp->VK->Prop:=fun x lo hi H Q=>∃ a xs,x=.ref a/\SqL K H a xs/\∀ p,H p=none->Q (.ref p) (upd H p (.lst (cutV xs lo hi)))
theorem sl_list:SlR X (rSlL X.K):=by
 intro pins s σ H x v vl vu lo hi sl Q I rx hs pl pu h
 obtain⟨a,xs,rfl,hx,q⟩:=h
 cases rx
 obtain⟨its,r,ht,hz⟩:=I.list hx
 have hlen:=r.length
 refine⟨"list",_,slot_list_getitem.lookup,ht.isList.typeIs,?_⟩
 refine wpAny_getItem_list_slice ht.isList hs pl pu .none (by simp) ?_ (by rw[List.size_toArray] <;> lia)
 rw[slicePick_cut,<- hlen]
 refine⟨.ref s.heap.objs.size,_,I.laid (t':=s.toks) (o:=.lst (cutV xs lo hi)) (fun b ob q=>Heap.get?_push_of_some _ q) (Nat.le_refl _) ?_,rfl,q _ (I.hok.fresh (Nat.le_refl _))⟩
 exact⟨Nat.le_trans (cutV_length xs lo hi) hz,_,0,(r.drop (HT.sIx xs.length 0 lo)).take (HT.sIx xs.length xs.length hi-HT.sIx xs.length 0 lo),Heap.get?_push_size _ rfl⟩
def flatV:V->Bool
 | .non=>true
 | .bl _=>true
 | .int _=>true
 | .str _=>true
 | _=>false
def eqV:V->V->Bool
 | .non,.non=>true
 | .bl a,.bl b=>a == b
 | .bl a,.int b=>(if a then 1 else 0) == b
 | .int a,.bl b=>a == (if b then 1 else 0)
 | .int a,.int b=>a == b
 | .str a,.str b=>a == b
 | _,_=>false
theorem eqAt_V {A:Around}{s:Shared}{y x:V}{u v:Value} (ry:RelV y u) (rx:RelV x v) (fy:flatV y=true) (fx:flatV x=true):SeqAt.EqAt A s u v (eqV y x):=by
 cases y with
 | non=>
  cases ry
  cases x with
  | non=>cases rx;exact SeqAt.EqAt.same _
  | bl b=>cases rx;exact SeqAt.EqAt.none_bool b
  | int b=>obtain⟨t,rfl⟩:=rx;exact SeqAt.EqAt.none_int b t
  | str b=>obtain⟨t,rfl⟩:=rx;exact SeqAt.EqAt.none_str b t
  | _=>exact absurd (show false=true from fx) Bool.false_ne_true
 | bl a=>
  cases ry
  cases x with
  | non=>cases rx;exact SeqAt.EqAt.bool_none a
  | bl b=>cases rx;exact SeqAt.EqAt.bool_bool a b
  | int b=>obtain⟨t,rfl⟩:=rx;exact SeqAt.EqAt.bool_int a b t
  | str b=>obtain⟨t,rfl⟩:=rx;exact SeqAt.EqAt.bool_str a b t
  | _=>exact absurd (show false=true from fx) Bool.false_ne_true
 | int a=>
  obtain⟨t',rfl⟩:=ry
  cases x with
  | non=>cases rx;exact SeqAt.EqAt.int_none a t'
  | bl b=>cases rx;exact SeqAt.EqAt.int_bool a t' b
  | int b=>obtain⟨t,rfl⟩:=rx;exact SeqAt.EqAt.int_int a t' b t
  | str b=>obtain⟨t,rfl⟩:=rx;exact SeqAt.EqAt.int_str a t' b t
  | _=>exact absurd (show false=true from fx) Bool.false_ne_true
 | str a=>
  obtain⟨t',rfl⟩:=ry
  cases x with
  | non=>cases rx;exact SeqAt.EqAt.str_none a t'
  | bl b=>cases rx;exact SeqAt.EqAt.str_bool a t' b
  | int b=>obtain⟨t,rfl⟩:=rx;exact SeqAt.EqAt.str_int a t' b t
  | str b=>obtain⟨t,rfl⟩:=rx;exact SeqAt.EqAt.str_str a t' b t
  | _=>exact absurd (show false=true from fx) Bool.false_ne_true
 | _=>exact absurd (show false=true from fy) Bool.false_ne_true
def eqU (x:V) (u:Value):Bool:=match u with
 | .none=>eqV .non x
 | .bool b=>eqV (.bl b) x
 | .int i _=>eqV (.int i) x
 | .str z _=>eqV (.str z) x
 | _=>false
theorem eqU_of {x y:V}{u:Value} (r:RelV y u) (f:flatV y=true):eqU x u=eqV y x:=by
 cases y with
 | non=>cases r;rfl
 | bl b=>cases r;rfl
 | int i=>obtain⟨t,rfl⟩:=r;rfl
 | str z=>obtain⟨t,rfl⟩:=r;rfl
 | _=>exact absurd (show false=true from f) Bool.false_ne_true
theorem any_eqU {x:V}:∀ {xs:List V}{us:List Value},Vals xs us->xs.all flatV=true->us.any (eqU x)=xs.any fun y=>eqV y x
 | _,_,.nil,_=>rfl
 | y::xs,u::us,.cons r t,f=>by
  rw[List.all_cons,Bool.and_eq_true]at f
  rw[List.any_cons,List.any_cons,eqU_of r f.1,any_eqU t f.2]
theorem mem_eqAt {A:Around}{s:Shared}{x:V}{v:Value} (rx:RelV x v) (fx:flatV x=true):∀ {xs:List V}{us:List Value},Vals xs us->xs.all flatV=true->∀ u∈us,SeqAt.EqAt A s u v (eqU x u)
 | _,_,.nil,_=>fun u hu=>by cases hu
 | y::xs,u::us,.cons r t,f=>fun u' hu=>by
  rw[List.all_cons,Bool.and_eq_true]at f
  rcases List.mem_cons.mp hu with rfl | hu
  ·rw[eqU_of r f.1];exact eqAt_V r rx f.1 fx
  ·exact mem_eqAt rx fx t f.2 u' hu
def inV (x:V) (xs:List V):Bool:=xs.any fun y=>eqV y x
def rIn (K:PySem.W.Frag) (neg:Bool):R2:=fun x y H Q=>∃ p xs,y=.ref p/\(SqL K H p xs\/SqT K H p xs)/\flatV x=true/\xs.all flatV=true/\Q (.bl (if neg then !inV x xs else inV x xs)) H
theorem op_in_seq:OpR X (compareOp .In) (rIn X.K false):=by
 intro pins s σ H x y v u Q I rx ry h
 obtain⟨p,xs,rfl,hq,fx,fs,q⟩:=h
 cases ry
 rcases hq with hq | hq
 ·obtain⟨its,r,pl,hz⟩:=I.list hq
  refine SeqAt.in_listAt (eqU x) pl.isList (fun w hw=>mem_eqAt rx fx r fs w (by simpa using hw)) ⟨.bl _,H,I,rfl,?_⟩
  rw[show its.toArray.any (eqU x)=its.any (eqU x) by simp,any_eqU r fs]
  exact q
 ·obtain⟨its,r,pl,hz⟩:=I.tuple hq
  refine SeqAt.in_tupleAt (eqU x) pl (fun w hw=>mem_eqAt rx fx r fs w (by simpa using hw)) ⟨.bl _,H,I,rfl,?_⟩
  rw[show its.toArray.any (eqU x)=its.any (eqU x) by simp,any_eqU r fs]
  exact q
theorem call_len_seq:CallR X (.builtin "len") (fun xs H Q=>∃ p ys,xs=[.ref p]/\(SqL X.K H p ys\/SqT X.K H p ys)/\Q (.int ys.length) H):=by
 intro pins s σ H xs us Q I r h
 obtain⟨p,ys,rfl,hq,q⟩:=h
 obtain⟨u,rfl,rx⟩:=vals1 r
 cases rx
 have hn:=line63
 rcases hq with hq | hq
 ·obtain⟨its,r',pl,hz⟩:=I.list hq
  have hlen:=r'.length
  exact Calls.call_len_list pl.isList (by simp only[List.size_toArray] <;> lia) ⟨.int ys.length,H,I.tok _,⟨s.toks+1,by rw[List.size_toArray,hlen]⟩,q⟩
 ·obtain⟨its,r',pl,hz⟩:=I.tuple hq
  have hlen:=r'.length
  exact len_tuple pl (by simp only[List.size_toArray] <;> lia) ⟨.int ys.length,H,I.tok _,⟨s.toks+1,by rw[List.size_toArray,hlen]⟩,q⟩
theorem call_len_str:CallR X (.builtin "len") (fun xs H Q=>∃ z,xs=[.str z]/\z.length<=sizeLine/\Q (.int z.length) H):=by
 intro pins s σ H xs us Q I r h
 obtain⟨z,rfl,hz,q⟩:=h
 obtain⟨u,rfl,t,rfl⟩:=vals1 r
 have hn:=line63
 exact len_str (by lia) ⟨.int z.length,H,I.tok _,⟨_,rfl⟩,q⟩
theorem CallR.or {f:Value}{r r':List V->Hp->VK->Prop} (h:CallR X f r) (h':CallR X f r'):CallR X f (fun xs H Q=>r xs H Q\/r' xs H Q):=by
 intro pins s σ H xs us Q I rs q
 rcases q with q | q
 ·exact h pins s σ H xs us Q I rs q
 ·exact h' pins s σ H xs us Q I rs q
theorem call_tuple_of:CallR X (.type "tuple") (fun xs H Q=>∃ p ys,xs=[.ref p]/\((SqL X.K H p ys/\∀ l,H l=none->Q (.ref l) (upd H l (.tup ys)))\/(SqT X.K H p ys/\Q (.ref p) H))):=by
 intro pins s σ H xs us Q I r h
 obtain⟨p,ys,rfl,h⟩:=h
 obtain⟨u,rfl,rx⟩:=vals1 r
 cases rx
 rcases h with ⟨hq,q⟩ | ⟨hq,q⟩
 ·obtain⟨its,r',pl,hz⟩:=I.list hq
  have hlen:=r'.length
  refine call_tuple_list pl.isList (fun h' kp=>?_) (by simp only[List.size_toArray] <;> lia)
  have I1:Inv X pins σ H { s with heap:=h' }:=I.kept (t':=s.toks) kp
  have I2:Inv X pins σ (upd H h'.objs.size (.tup ys)) { s with heap:=h'.push { cls:=.type "tuple",data:=.seq its.toArray } }:=
   I1.laid (t':=s.toks) (fun b o e=>Heap.get?_push_of_some _ e) (Nat.le_refl _) (show ObjOk X.prog X.w _ _ _ (.tup ys) from ⟨tupD_new hz,its,r',IsTup.new _ _⟩)
  exact⟨.ref h'.objs.size,_,I2,rfl,q _ (I1.hok.fresh (Nat.le_refl _))⟩
 ·obtain⟨its,r',pl,hz⟩:=I.tuple hq
  exact call_tuple_same pl ⟨.ref p,H,I,rfl,q⟩
def tyV (K:PySem.W.Frag) (T:String) (x:V) (H:Hp):Prop:=match x with
 | .str _=>T="str"
 | .int _=>T="int"
 | .ref p=>(T="list"/\∃ xs,SqL K H p xs)\/(T="tuple"/\∃ o,K.lookup p=some o/\o.cls=.type "tuple"/\o.dict=none) \/
   (T="dict"/\((∃ kvs,H p=some (.dK kvs))\/∃ kvs,H p=some (.dT kvs)))\/(T="set"/\∃ S n,H p=some (.set S n))
 | _=>False
theorem tyV_is {pins:List (Addr×Obj)} {σ:St} {H:Hp}{s:Shared}{T:String}{x:V}{v:Value} (I:Inv X pins σ H s) (r:RelV x v) (ty:tyV X.K T x H) :
  s.TypeIs v T/\∀ a,v=.ref a->∃ ob,s.heap.get? a=some ob/\ob.dict=none:=by
 cases x with
 | str z=>
  obtain⟨t,rfl⟩:=r
  cases (show T="str" from ty)
  exact⟨typeIs_str s z t,fun _ e=>nomatch e⟩
 | int i=>
  obtain⟨t,rfl⟩:=r
  cases (show T="int" from ty)
  exact⟨typeIs_int s i t,fun _ e=>nomatch e⟩
 | ref p=>
  cases r
  rcases ty with ⟨rfl,xs,hq⟩ | ⟨rfl,o,hk,hc,hd⟩ | ⟨rfl,hk⟩ | ⟨rfl,S,n,hk⟩
  ·obtain⟨its,_,pl,_⟩:=I.list hq
   refine⟨pl.isList.typeIs,fun a e=>?_⟩
   cases e
   obtain⟨o,n,e,c,hd,_⟩:=pl
   exact⟨o,e,hd⟩
  ·refine⟨⟨o,I.kIn p o hk,hc⟩,fun a e=>?_⟩
   cases e
   exact⟨o,I.kIn _ o hk,hd⟩
  ·have z:∃ o,s.heap.get? p=some o/\o.ExactDict:=by
    rcases hk with ⟨kvs,hk⟩ | ⟨kvs,hk⟩
    ·obtain⟨_,_,_,_,o,_,_,e,ex,_⟩:=I.hok p _ hk
     exact⟨o,e,ex⟩
    ·obtain⟨_,_,_,_,o,_,_,e,ex,_⟩:=I.hok p _ hk
     exact⟨o,e,ex⟩
   obtain⟨o,e,ex⟩:=z
   refine⟨⟨o,e,ex.1⟩,fun a e2=>?_⟩
   cases e2
   exact⟨o,e,ex.2.1⟩
  ·obtain⟨o,_,_,_,e,ex,_⟩:=I.hok p _ hk
   refine⟨⟨o,e,ex.1⟩,fun a e2=>?_⟩
   cases e2
   exact⟨o,e,ex.2.1⟩
 | _=>exact False.elim ty
def tBM0 (K:PySem.W.Frag) (T:String) (r:V->List V->Hp->VK->Prop) (to:TE):TE:=fun σ H Q=>to σ H fun x H1=>tyV K T x H1/\r x [] H1 Q
def tBM (K:PySem.W.Frag) (T:String) (r:V->List V->Hp->VK->Prop) (to:TE) (t:TA):TE:=fun σ H Q=>to σ H fun x H1=>tyV K T x H1/\t σ H1 fun xs H2=>r x xs H2 Q
variable {o e:Expr}{es:List Expr}{to:TE}{t:TA}{name:Str}{apos cpos:Pos}{T id:String}{r:V->List V->Hp->VK->Prop}
theorem pe_bm0 (pa:PlainAttrs T) (slot:Slot T name id) (hty:typeOf (.builtin id)=pure (.type "method_descriptor")) (hm:MtR X id r) (ho:PE X o to)
  (hbase:attributeBase o name X.env (eval o X.env)=eval o X.env:=by rfl) (hline:(apos.endLine == cpos.line)=true:=by rfl):PE X (.Call (.Attribute o name apos) [] [] cpos) (tBM0 X.K T r to):=by
 intro pins s σ H Q I h
 refine wpAny_Call_method0_late hbase hline (thn (ho pins s σ H _ I h) fun v s1 ⟨x,H1,I1,r1,ty,q1⟩=>?_)
 obtain⟨h1,h2⟩:=tyV_is I1 r1 ty
 exact⟨T,id,pa,slot,hty,h1,h2,Calls.callWith_builtin rfl (PySem.evalArgs_none (hm pins s1 σ H1 x [] v [] Q I1 r1 .nil q1))⟩
theorem pe_bm (pa:PlainAttrs T) (slot:Slot T name id) (hty:typeOf (.builtin id)=pure (.type "method_descriptor")) (hm:MtR X id r) (ho:PE X o to) (ha:PA X (e::es) t)
  (hbase:attributeBase o name X.env (eval o X.env)=eval o X.env:=by rfl)
  (hfew:((backTo cpos (starEach (e::es) X.env)).all (fun x=>!x.1) && (backToKw cpos (keywordEach [] X.env)).all (fun x=>x.1.isSome)
   && decide ((e::es).length+([]:List Keyword).length+(if ([]:List Keyword).isEmpty then 0 else 1)<30))=true:=by rfl)
  (hline:(apos.endLine == cpos.line)=true:=by rfl) (hs:starEach (e::es) X.env=(false,eval e X.env)::starEach es X.env:=by rfl) (hplain:(backTo cpos (starEach es X.env)).any (·.1)=false:=by rfl) :
  PE X (.Call (.Attribute o name apos) (e::es) [] cpos) (tBM X.K T r to t):=by
 intro pins s σ H Q I h
 refine wpAny_Call_method_late hbase hfew hline rfl (thn (ho pins s σ H _ I h) fun v s1 ⟨x,H1,I1,r1,ty,q1⟩=>?_)
 obtain⟨h1,h2⟩:=tyV_is I1 r1 ty
 refine⟨T,id,pa,slot,hty,h1,h2,?_⟩
 have hA:=ha cpos pins s1 σ H1 _ I1 q1
 rw[hs]at hA ⊢
 refine Calls.callWith_builtin (by show (false || (backTo cpos (starEach es X.env)).any (·.1))=false;rw[hplain] <;> rfl) (Calls.evalArgs_plain ?_)
 exact thn hA fun us s2 ⟨vs,H2,I2,r2,q2⟩=>hm pins s2 σ H2 x vs v us Q I2 r1 r2 q2
/- xs.append(e),list.index on a module's tuple .. are MtR facts of 06m -/
end
end L2
namespace L2
open PySem PySem.Spec PyProof.Rows
def MtM (X:Cx) (id:String) (r:V->List V->Hp->VK->Prop):Prop:=
 ∀ (pins:List (Addr×Obj)) (s:Shared) (σ:St) (H:Hp) (x:V) (xs:List V) (v:Value) (us:List Value) (Q:VK),Inv X pins σ H s->RelV x v->Vals xs us->r x xs H Q ->
  wpAny (model X.prog X.w) X.A (call (.builtin id) (v::us)) (EP X pins σ Q) X.xe s
theorem Vals.one {x:V}{us:List Value} (h:Vals [x] us):∃ u,us=[u]/\RelV x u:=by
 cases h with
 | cons r t=>cases t;exact⟨_,rfl,r⟩
theorem Vals.two {x y:V}{us:List Value} (h:Vals [x,y] us):∃ u v,us=[u,v]/\RelV x u/\RelV y v:=by
 cases h with
 | cons r t=>
  obtain⟨v,rfl,q⟩:=Vals.one t
  exact⟨_,_,rfl,r,q⟩
theorem Vals.zero:∀ {us:List Value},Vals [] us->us=[]
 | _,.nil=>rfl
theorem Vals.dropLast {xs:List V}{us:List Value} (h:Vals xs us):Vals xs.dropLast us.dropLast:=by
 induction h with
 | nil=>exact .nil
 | cons r t ih=>
  cases t with
  | nil=>exact .nil
  | cons q t'=>exact .cons r ih
theorem Vals.reverse {xs:List V}{us:List Value} (h:Vals xs us):Vals xs.reverse us.reverse:=by
 induction h with
 | nil=>exact .nil
 | cons r t ih=>rw[List.reverse_cons,List.reverse_cons];exact Vals.append ih (.cons r .nil)
theorem erase_last {α:Type} (l:List α):l.eraseIdx (l.length-1)=l.dropLast:=by
 induction l with
 | nil=>rfl
 | cons a r ih=>
  cases r with
  | nil=>rfl
  | cons b r=>
   have e:(a::b::r).length-1=((b::r).length-1)+1:=by
    have h1:(a::b::r).length=r.length+2:=rfl
    have h2:(b::r).length=r.length+1:=rfl
    lia
   rw[e,List.eraseIdx_cons_succ,ih]
   all_goals rfl
section
variable {X:Cx}{pins:List (Addr×Obj)} {σ:St} {H:Hp}{s:Shared}{l b:Addr}{xs ys zs:List V}
theorem Inv.lset {its its':List Value}{n:Nat}{f:Array Value->Array Value}{t':Nat} (I:Inv X pins σ H s) (hH:H l=some (.lst xs))
  (e:s.heap.get? l=some { cls:=.type "list",data:=.seq its.toArray n }) (hf:f its.toArray=its'.toArray) (hv:Vals ys its') (hz:ys.length<=sizeLine) :
  Inv X pins σ (upd H l (.lst ys)) { s with heap:=s.heap.update l (Obj.mapSeq f),toks:=t' }:=by
 have q:=PySem.IsL.update e f
 rw[hf]at q
 refine I.write (x:=l) (e:=l) (by rw[hH];exact trivial) (.inl rfl) (fun b' u hb hu=>(Heap.get?_update_other s.heap (Obj.mapSeq f) (Ne.symm hb)).trans hu) ⟨_,q⟩ ?_
 exact⟨hz,its',_,hv,q⟩
theorem Inv.lnew {its:List Value}{t':Nat} (I:Inv X pins σ H s) (hv:Vals ys its) (hz:ys.length<=sizeLine) :
  Inv X pins σ (upd H s.heap.objs.size (.lst ys)) { s with heap:=s.heap.push { cls:=.type "list",data:=.seq its.toArray },toks:=t' }:=
 I.laid (fun _ _ q=>Heap.get?_push_of_some _ q) (Nat.le_refl _) ⟨hz,its,0,hv,Heap.get?_push_size _ rfl⟩
theorem Inv.fresh (I:Inv X pins σ H s):H s.heap.objs.size=none:=I.hok.fresh (Nat.le_refl _)
theorem Inv.lstM (I:Inv X pins σ H s) (hH:H l=some (.lst xs)):xs.length<=sizeLine/\∃ (its:List Value) (n:Nat),Vals xs its/\xs.length=its.length/\s.heap.get? l=some { cls:=.type "list",data:=.seq its.toArray n }:=by
 obtain⟨z,its,n,r,e⟩:=I.hok l _ hH
 exact⟨z,its,n,r,r.length,e⟩
theorem notLongL {n:Nat} (h:n<=sizeLine):Builtin.List.listTooLong n=false:=by
 unfold Builtin.List.listTooLong
 exact decide_eq_false (by lia)
end
section
variable {X:Cx}
def rAppend:V->List V->Hp->VK->Prop:=fun x vs H Q=>∃ l xs y,x=.ref l/\vs=[y]/\H l=some (.lst xs)/\xs.length<sizeLine/\Q .non (upd H l (.lst (xs++[y])))
theorem mt_append:MtM X "list.append" rAppend:=by
 intro pins s σ H x vs v us Q I rx rv h
 obtain⟨l,xs,y,rfl,rfl,hH,hz,q⟩:=h
 cases rx
 obtain⟨u,rfl,ru⟩:=rv.one
 obtain⟨z,its,n,r,hl,e⟩:=I.lstM hH
 refine call_meets F.slot_list_append ⟨_,e,rfl⟩ F.entry_list_append (F.args_list_append_2 _ _) (PySem.list_append l its.toArray n u (by rw[List.size_toArray];lia)) ⟨e,?_⟩
 refine⟨.non,_,I.lset (its':=its++[u]) hH e (by simp) (r.append (.cons ru .nil)) ?_,rfl,q⟩
 rw[List.length_append,List.length_singleton]
 lia
def rExtend:V->List V->Hp->VK->Prop:=fun x vs H Q=>∃ l b xs zs,x=.ref l/\vs=[.ref b]/\H l=some (.lst xs)/\H b=some (.lst zs)/\xs.length+zs.length<=sizeLine/\Q .non (upd H l (.lst (xs++zs)))
theorem mt_extend:MtM X "list.extend" rExtend:=by
 intro pins s σ H x vs v us Q I rx rv h
 obtain⟨l,b,xs,zs,rfl,rfl,hH,hB,hz,q⟩:=h
 cases rx
 obtain⟨u,rfl,ru⟩:=rv.one
 cases ru
 obtain⟨z,its,n,r,hl,e⟩:=I.lstM hH
 obtain⟨z2,its2,n2,r2,hl2,e2⟩:=I.lstM hB
 have hsz:its.toArray.size+its2.toArray.size<=sizeLine:=by rw[List.size_toArray,List.size_toArray];lia
 have hlong:¬(!its.toArray.isEmpty && Builtin.List.listTooLong (its.toArray.size+its2.toArray.size))=true:=by
  rw[notLongL hsz,Bool.and_false]
  exact Bool.false_ne_true
 refine call_meets F.slot_list_extend ⟨_,e,rfl⟩ F.entry_list_extend (F.args_list_extend_2 _ _)
  (AutoSeq1.list_extend_list_list_0 l its.toArray n b its2.toArray n2 hlong (by rw[List.size_toArray];lia) (by lia)) ⟨e,e2,?_⟩
 refine⟨.non,_,I.lset (its':=its++its2) hH e (by simp) (r.append r2) ?_,rfl,q⟩
 rw[List.length_append]
 lia
def rPop:V->List V->Hp->VK->Prop:=fun x vs H Q=>∃ l xs y,x=.ref l/\vs=[]/\H l=some (.lst xs)/\xs[xs.length-1]?=some y/\Q y (upd H l (.lst xs.dropLast))
theorem mt_pop:MtM X "list.pop" rPop:=by
 intro pins s σ H x vs v us Q I rx rv h
 obtain⟨l,xs,y,rfl,rfl,hH,hy,q⟩:=h
 cases rx
 have hus:=rv.zero
 subst hus
 obtain⟨z,its,n,r,hl,e⟩:=I.lstM hH
 obtain⟨u,hu,ru⟩:=r.get hy
 have hy':its.toArray[its.toArray.size-1]?=some u:=by
  show its.toArray[its.length-1]?=some u
  rw[<- Array.getElem?_toList,<- hl]
  exact hu
 refine call_meets F.slot_list_pop ⟨_,e,rfl⟩ F.entry_list_pop (F.args_list_pop_1 _) (MeetsSeq.list_pop_last l its.toArray n u hy' (by rw[List.size_toArray];lia)) ⟨e,?_⟩
 refine⟨y,_,I.lset (its':=its.dropLast) hH e ?_ r.dropLast ?_,ru,q⟩
 ·show its.toArray.eraseIdxIfInBounds (its.toArray.size-1)=its.dropLast.toArray
  rw[List.size_toArray,List.eraseIdxIfInBounds_toArray,erase_last]
 ·rw[List.length_dropLast]
  lia
def rCat:R2:=fun x y H Q=>∃ l b xs zs,x=.ref l/\y=.ref b/\H l=some (.lst xs)/\H b=some (.lst zs)/\xs.length+zs.length<=sizeLine/\∀ p,H p=none->Q (.ref p) (upd H p (.lst (xs++zs)))
theorem op_cat:OpR X (binaryOp .Add) rCat:=by
 intro pins s σ H x y v u Q I rx ry h
 obtain⟨l,b,xs,zs,rfl,rfl,hH,hB,hz,q⟩:=h
 cases rx
 cases ry
 obtain⟨z,its,n,r,hl,e⟩:=I.lstM hH
 obtain⟨z2,its2,n2,r2,hl2,e2⟩:=I.lstM hB
 refine PySem.P.add_list e e2 ?_ (by rw[List.size_toArray,List.size_toArray];lia)
 have ea:its.toArray++its2.toArray=(its++its2).toArray:=by simp
 rw[ea]
 exact⟨.ref _,_,I.lnew (t':=s.toks) (r.append r2) (by rw[List.length_append];lia),rfl,q _ I.fresh⟩
end
section
variable {prog:Program}{w:World}{A:Around}{E:Value->Shared->Prop}{s:Shared}
set_option maxRecDepth 100000 in
end
section
variable {X:Cx}
end
end L2
namespace Att
open PySem PySem.W PySem.Calls PyProof.Rows
theorem ints_of_wellAll {P:Params}{h:Heap}:∀ (ns:List Int) (vs:List Value),WellAll P h vs (ns.map WData.int)->IntsAre vs ns:=by
 intro ns
 induction ns with
 | nil=>
  intro vs w
  rw[List.map_nil]at w
  cases w
  exact .nil
 | cons n ns ih=>
  intro vs w
  rw[List.map_cons]at w
  cases w with
  | cons a b=>
   cases a
   exact .cons _ _ (ih _ b)
theorem script_of {l:OpenLaw}{n:Nat} (hn:l.most=some n) {P:Params}{h:Heap}{args:List WData}{vals:List Value}
  (hpre:l.row.toRowW.claim.pre args=true) (hwl:WellAll P h vals args) :
  ∃ a vs ns,vals=[Value.ref a]/\args=[WData.list (ns.map WData.int)]/\h.get? a=some { cls:=.type "list",data:=.seq vs.toArray }/\IntsAre vs ns/\ns.length<=n:=by
 have hsh:WShape.hasAll [] args [.list .int]=true:=(pre_splitW hpre).1
 have hc:l.pre.holds [] { args:=args }=true:=(pre_splitW hpre).2
 obtain⟨d,r,rfl,h1,h2⟩:=hasAllW_cons hsh
 obtain rfl:=hasAllW_nil h2
 obtain⟨xs,rfl,h3⟩:=hasW_list h1
 obtain⟨ns,rfl⟩:=items_int h3
 have hlen:ns.length<=n:=by
  unfold OpenLaw.pre at hc
  have h4:(WTm.not (.lt (.lit (.int (n:Int))) (.len (.arg 0)))).holds [] { args:=[.list (ns.map .int)] }=true:=by
   have h4:=(holds_andW hc).1
   rw[hn]at h4
   exact h4
  have h5:=condW_of h4 (w_not (w_lt w_lit (w_len_list (w_arg rfl))))
  rw[List.length_map]at h5
  refine Nat.le_of_not_lt fun q=>?_
  have q':(n:Int)<((ns.length:Nat):Int):=by lia
  first
   | (rw[decide_eq_true q']at h5;exact absurd h5 (by decide))
   | (simp at h5;lia)
 cases hwl with
 | cons w1 w2=>
  cases w2
  cases w1 with
  | list ho hall=>exact⟨_,_,ns,rfl,rfl,ho,ints_of_wellAll ns _ hall,hlen⟩
theorem post_true (l:OpenLaw) (args:List WData):l.row.toRowW.claim.post args (.bool true) args=true:=
 postW_of (r:=l.row.toRowW) (X:=(true == true))
  (show WShape.has [] (.bool true) .bool=true by first | rfl | decide | simp [WShape.has,WShape.arms,WShape.armsAll])
  (show (WTm.eq .res (.lit (.bool true))).value [] { args:=args,res:=some (.bool true),after:=args }=some (.bool (true == true)) from w_eq_bool (w_res rfl) w_lit) rfl
theorem attach_call {l:OpenLaw}{n:Nat}{q:Program}{loose:List Str}{XP:(Str->Option Value)->Heap->Prop}{YP:World->Heap->Prop}{d:DefRec}
  (hn:l.most=some n) (hdf:d.params.defaults=[])
  (call:∀ (w:World) (s₀ s₁:Shared) (mg mb:Str->Option Value) (fa:Addr) (o:Obj) (pm cd doc:Value) (a:Addr) (vs:List Value) (ns:List Int),
   Ground q loose [] XP w s₀ mg mb s₁.heap->YP w s₁.heap ->
   s₁.heap.get? fa=some o->o.data=.func (docDef d.name d.params d.body d.scope pm cd doc)->s₁.heap.CodeRec cd d.name->mg d.name=some (.ref fa) ->
   s₁.heap.get? a=some { cls:=.type "list",data:=.seq vs.toArray }->IntsAre vs ns->ns.length<=n->s₁.gens=#[] ->
   codeAny (model l.prog w) callerA (.call (.ref fa) ⟨[.ref a],[]⟩) (fun r s'=>r=.ok (.ret (.bool true))/\OldK s₁.heap s'.heap/\s'.os=s₁.os/\AllBare s'.gens) s₁) :
  WalkO q loose XP YP l.row.toRowW d [] (fun f vs=>PySem.call f vs):=by
 intro w s₀ s₁ mg mb G Y fa o pm cd doc dV kV ho hd hcd hD hmg hg args vals as hpre hlay hrd hwl hlo
 obtain rfl:dV=.none:=Dflts.none hD hdf
 obtain rfl:kV=.none:=Dflts.noKw hD
 obtain⟨a,vs,ns,rfl,rfl,hobj,hints,hlen⟩:=script_of hn hpre hwl
 refine enter_call (codeAny_mono (call w s₀ s₁ mg mb fa o pm cd doc a vs ns G Y ho (fd_plain hd) hcd hmg hobj hints hlen hg) fun r s' hq=>?_)
 obtain⟨rfl,h2,h3,h4⟩:=hq
 exact⟨.inl ⟨.bool true,.bool true,[],rfl,fun _=>rfl,.bool true,post_true l _,fun _=>⟨List.Pairwise.nil,fun _ hm=>(nomatch hm)⟩⟩,h2,h3,h4⟩
section
variable {prog:Program}{w:World}{A:Around}{E:Value->Shared->Prop}{s:Shared}{K:Frag}
end
end Att
namespace L2
open PySem PySem.Spec PyProof.Rows
theorem vals_ints:∀ {vs:List Value}{ns:List Int},IntsAre vs ns->Vals (ns.map V.int) vs
 | _,_,.nil=>.nil
 | _,_,.cons n t h=>.cons ⟨t,rfl⟩ (vals_ints h)
def Only (H:Hp):Prop:=∀ b,H b=none\/∃ o xs,H b=some (.frz o (.lst xs))
theorem law_call {P:Program}{w:World}{K:PySem.W.Frag}{mg mb:Str->Option Value}{CX:CXT}{k:Nat}{fa a:Addr}{fd:FuncData}{x:Str}{sp:Sp}{s₁:Shared}{vs:List Value}{ns:List Int}
  (KX:K.In s₁.heap) (hns:s₁.heap.Ns mainGlobals mg) (hb:s₁.heap.Ns builtinsNs mb) (hbb:∀ x:Str,x≠"__name__"->mb x=bootBuiltins x) (hlim:s₁.heap.NoLimit) (hg:s₁.gens=#[])
  (ha:s₁.heap.get? a=some { cls:=.type "list",data:=.seq vs.toArray }) (hi:IntsAre vs ns) (hl:ns.length<=sizeLine) (hr:Room k callerA)
  (F:∀ base:Heap,K.In base->base.Ns mainGlobals mg->FnOk P w K mg base CX k fa fd [x] sp) (hbind:∀ (s:Shared) (u:Value),BindsTo s fd ⟨[u],[]⟩ [(x,u)])
  (hsp:∀ H:Hp,Only H->SqL K H a (ns.map V.int)->sp [.ref a] H (fun v _=>v=.bl true) fun _ _ _=>False)
  (hCX:∀ H e s',CX [] H s₁ (fun _ _ _=>False) e s'->False) :
  codeAny (model P w) callerA (.call (.ref fa) ⟨[.ref a],[]⟩) (fun r s'=>r=.ok (.ret (.bool true))/\OldK s₁.heap s'.heap/\s'.os=s₁.os/\AllBare s'.gens) s₁:=by
 have rv:=vals_ints hi
 have lenV:=hi.length
 -- from an abstract heap in which nothing but the script may be tracked
 have core:∀ H:Hp,Only H->SqL K H a (ns.map V.int)->HOk P w H s₁.heap->(∀ b,H b≠none->b=a)->(H a≠none->K.lookup a=none) ->
   codeAny (model P w) callerA (.call (.ref fa) ⟨[.ref a],[]⟩) (fun r s'=>r=.ok (.ret (.bool true))/\OldK s₁.heap s'.heap/\s'.os=s₁.os/\AllBare s'.gens) s₁:=by
  intro H hO hS hok hA hK
  have base_of:∀ {b:Addr}{o:Obj},s₁.heap.get? b=some o->H b=none->(hidT s₁.heap H).get? b=some o:=fun e n=>hidT_get e n
  have noA:∀ {b:Addr}{o:Obj}{es:Array DictEntry}{ep:Nat},s₁.heap.get? b=some o->o.data=.dict es ep->H b=none:=fun {b o es ep} e d=>by
   cases q:H b with
   | none=>rfl
   | some u=>
    have e':b=a:=hA b (by rw[q];simp)
    subst e'
    rw[ha]at e;cases e
    have d':Data.seq vs.toArray _=Data.dict es ep:=d
    cases d'
  have nsK:∀ {b:Addr}{m:Str->Option Value},s₁.heap.Ns b m->(hidT s₁.heap H).Ns b m:=fun {b m} ⟨o,es,ep,e,d,r⟩=>⟨o,es,ep,base_of e (noA e d),d,r⟩
  have hKb:K.In (hidT s₁.heap H):=fun b o e=>base_of (KX b o e) (by
   cases q:H b with
   | none=>rfl
   | some u=>
    have e':b=a:=hA b (by rw[q];simp)
    subst e'
    rw[hK (by rw[q];simp)]at e;cases e)
  have hM:Mod K mg (hidT s₁.heap H):=⟨hKb,nsK hns,⟨mb,nsK hb,hbb⟩,let ⟨mc,h1,h2⟩:=hlim;⟨mc,nsK h1,h2⟩⟩
  have e0:Env0 P w K mg (hidT s₁.heap H) callerA [] s₁ H:=⟨rfl,hM,fun b o e=>of_hidT e,Nat.le_of_eq (hidT_size _ _),trivial,fun b hb=>absurd (show b∈([]:List Addr) from hb) (by simp),hok,.of_eq hg⟩
  refine codeAny_mono ((F _ hKb (nsK hns)).run callerA [] s₁ H ⟨[.ref a],[]⟩ [.ref a] [.ref a] _ _ hr e0 (hbind s₁ (.ref a)) (.cons rfl .nil) (hsp H hO hS)) fun r s' h=>?_
  cases r with
  | error e=>exact (hCX H e s' h).elim
  | ok fl=>
   cases fl with
   | next=>exact False.elim h
   | brk=>exact False.elim h
   | cont=>exact False.elim h
   | ret u=>
    obtain⟨v,H',os,bare,un,hok',r',q⟩:=h
    have q':v=.bl true:=q
    subst q'
    obtain rfl:u=Value.bool true:=r'
    refine⟨rfl,OldK.of_keep fun b o e=>?_,os,bare⟩
    cases q:H b with
    | none=>exact un.keep b o e q (by intro z;exact absurd (show b∈([]:List Addr) from z) (by simp)) (by simp)
    | some u=>
     rcases hO b with z | ⟨ob,xs,z⟩
     ·rw[q]at z;cases z
     ·have z2:=un.frzs b ob _ z
      obtain⟨e1,_⟩:=hok b _ z
      obtain⟨e2,_⟩:=hok' b _ z2
      rw[e]at e1;cases e1
      exact e2
 cases hk:K.lookup a with
 | some o=>
  -- the script is one of the module's own objects
  have e:=KX a o hk
  rw[ha]at e
  cases e
  refine core (fun _=>none) (fun _=>.inl rfl) (.inr ⟨_,vs.toArray,_,hk,rfl,rfl,rfl,by rw[List.size_toArray,lenV];exact hl,by simpa using rv⟩) (fun b u z=>by have z':(none:Option HO)=some u:=z;cases z') (fun b z=>absurd rfl z) fun z=>absurd rfl z
 | none=>
  refine core (fun b=>if b=a then some (.frz { cls:=.type "list",data:=.seq vs.toArray } (.lst (ns.map V.int))) else none) (fun b=>?_) (.inl (.inr ⟨{ cls:=.type "list",data:=.seq vs.toArray },if_pos rfl⟩)) (fun b u z=>?_) (fun b z=>?_) fun _=>hk
  ·by_cases hb:b=a
   ·exact .inr ⟨_,_,if_pos hb⟩
   ·exact .inl (if_neg hb)
  ·by_cases hb:b=a
   ·have z':=(if_pos hb).symm.trans z
    cases z'
    subst hb
    exact⟨ha,by rw[List.length_map];exact hl,vs,_,rv,ha⟩
   ·have z':=(if_neg hb).symm.trans z
    cases z'
  ·by_cases hb:b=a
   ·exact hb
   ·exact absurd (if_neg hb) z
end L2
namespace L2
open PySem PySem.Spec PyProof.Rows
abbrev KOf {K:PySem.W.Frag}{h:Heap} (_:K.In h):PySem.W.Frag:=K
theorem walk_of {l:PySem.W.OpenLaw}{n k:Nat}{q:Program}{loose:List Str}{XP:(Str->Option Value)->Heap->Prop}{YP:World->Heap->Prop}{d:DefRec}{K:Params->PySem.W.Frag}{CX:World->CXT}{sp:World->Sp}{x:Str}
  (hn:l.most=some n) (hn2:n<=sizeLine) (hdf:d.params.defaults=[]) (hr:Room k callerA)
  (hY:∀ (w:World) (h:Heap),YP w h->(K w.params).In h)
  (F:∀ (w:World) (mg:Str->Option Value) (fa:Addr) (h:Heap),(K w.params).In h->h.Ns mainGlobals mg->mg d.name=some (.ref fa) ->
   ∃ fd:FuncData,(∀ (s:Shared) (u:Value),BindsTo s fd ⟨[u],[]⟩ [(x,u)]) /\
    ∀ base:Heap,(K w.params).In base->base.Ns mainGlobals mg->FnOk l.prog w (K w.params) mg base (CX w) k fa fd [x] (sp w))
  (hsp:∀ (w:World) (H:Hp) (a:Addr) (ns:List Int),ns.length<=n->Only H->SqL (K w.params) H a (ns.map V.int)->sp w [.ref a] H (fun v _=>v=.bl true) fun _ _ _=>False)
  (hCX:∀ (w:World) (H:Hp) (s:Shared) (e:Value) (s':Shared),CX w [] H s (fun _ _ _=>False) e s'->False) :
  PySem.W.WalkO q loose XP YP l.row.toRowW d [] (fun f vs=>PySem.call f vs):=by
 refine Att.attach_call hn hdf fun w s₀ s₁ mg mb fa o pm cd doc a vs ns G Y ho hd hcd hmg hobj hints hlen hg=>?_
 have KX:=hY w _ Y
 obtain⟨fd,hb,hF⟩:=F w mg fa _ KX G.T.g hmg
 exact law_call KX G.T.g G.T.b G.T.builtins G.T.nolimit hg hobj hints (Nat.le_trans hlen hn2) hr hF hb (fun H hO hS=>hsp w H a ns hlen hO hS) fun H e s'=>hCX w H s₁ e s'
end L2
/- THE LAST THEOREM (shape;LID,My.* are yours):
   My.Adr: a structure of the addresses that your layer names (classes,functions);My.Txt K t: a structure (Prop) of the equations over K;
   My.txt_mk:{K} {implicit addresses ..} (e1:nsIn K mainGlobals "law"=some (some (.ref f))) (e2:K.lookup f=some ⟨oc,od,.func (fnOf "law" "law" params body scope dV kV doc pm an cdv ct),sl⟩) (e3:codeIn K cdv "law"=true) ..:∃ t,My.Txt K t
set_option maxRecDepth 100000 in
set_option maxHeartbeats 0 in
theorem PySem.Challenge.cw_LID_holds : PySem.Challenge.rw_LID.Holds := by
 w_on;o_law;k_head;(case hw=>w_witness2)
 k_fill
 refine L2.walk_of (l:=PySem.Challenge.rw_LID) (n:=63) (k:=40) (x:="script") (CX:=fun w=>..) (sp:=fun _=>My.sp_law) rfl (by decide) rfl ⟨rfl,by decide,by decide⟩ (fun w h Y=>PySem.W.kIn_of Y) ?F ?S ?C
 case F=>
  intro w mg fa h KX G hmg
  have T:∃ t,My.Txt (L2.KOf KX) t:=by
   dsimp only[L2.KOf]                          -- K must stand as «<heap const> w.params» for k_is
   refine' My.txt_mk ?e1 ?e2 ?e3 ..
   (case e1=>PySem.W.k_is)                    -- in the order: a name->its address->its object->its parts
   (case e2=>PySem.W.k_is)
   ..
  obtain⟨t,T⟩:=T
  have e0:=hmg.symm.trans (PySem.W.mg_of KX G T.law)
  cases e0                                       -- fa is the law's own address
  exact⟨_,fun s u=>.of_eq rfl,fun base kb nb=>My.law_fn T kb nb⟩     -- if «.of_eq rfl» comes too early: refine' ⟨_,?b,fun base kb nb=>My.law_fn T kb nb⟩;exact fun s u=>.of_eq rfl
 case S=>exact fun w H a ns hl hO hS=>..
 case C=>exact ..
(the tactic k_is has no namespace: write k_is) -/
namespace L2
open PySem PySem.Spec PyProof.Rows
def defArgs (s:Stmt):Arguments:=match s with
 | .FunctionDef _ a _ _ _ _ _ _ _ _=>a
 | _=>{ posonlyargs:=[],args:=[],vararg:=none,kwonlyargs:=[],kw_defaults:=[],kwarg:=none,defaults:=[] }
def defBody (s:Stmt):List Stmt:=match s with
 | .FunctionDef _ _ b _ _ _ _ _ _ _=>b
 | _=>[]
def defScope (s:Stmt):Scope:=match s with
 | .FunctionDef _ _ _ _ _ _ sc _ _ _=>sc
 | _=>{ kind:=.function,names:=[],isGenerator:=false,isCoroutine:=false }
abbrev CX0:CXT:=fun _ _ _ _ _ _=>False
abbrev E0:XK:=fun _ _ _=>False
theorem pass0 {X:Cx}:Passes CX0 X E0:=fun _ _ _ _ _ _ _ h=>h.elim
structure Fun (K:PySem.W.Frag) (x qual:Str) (st:Stmt) (f:Addr) (fd:FuncData):Prop where
 ex:∃ (oc:Value) (od:Option Addr) (kV doc pm:Value) (an:Option Addr) (cdv ct:Value) (osl:Array (Option Value)),
  fd=PySem.W.fnOf x qual (defArgs st) (defBody st) (defScope st) .none kV doc pm an cdv ct/\K.lookup f=some ⟨oc,od,.func fd,osl⟩/\PySem.W.codeIn K cdv qual=true
 kp:PySem.W.keepIn K (.ref f)=true
section
variable {P:Program}{w:World}{K:PySem.W.Frag}{mg:Str->Option Value}{base:Heap}
theorem Fun.ok {x qual:Str}{st:Stmt}{f:Addr}{fd:FuncData}{N ps:List Str}{k:Nat}{sp:Sp} (F:Fun K x qual st f fd) (S:FnScope N ps (defScope st)) (len:∀ vs H Q E,sp vs H Q E->vs.length=ps.length)
  (hbody:∀ (cdv:Value) (A:Around) (outer:List Env) (s:Shared) (H:Hp) (vs:List V) (Q:VK) (E:XK),Room k (A.deeper (envOfC qual (defScope st) s.heap.objs.size f cdv))->sp vs H Q E ->
   ∃ t,PSs (cxOf CX0 P w K mg base N qual (defScope st) f cdv A outer s H E).nox (defBody st) t/\t { nx:=fun _ H'=>Q .non H',rt:=Q } (start N vs) H):FnOk P w K mg base CX0 (k+1) f fd ps sp:=by
 obtain⟨oc,od,kV,doc,pm,an,cdv,ct,osl,rfl,lk,hcd⟩:=F.ex
 refine fn_of lk hcd S len fun A outer s H vs Q E hr hsp=>?_
 obtain⟨t,h,q⟩:=hbody cdv A outer s H vs Q E hr hsp
 exact⟨t,h.nox,q⟩
theorem Fun.binds {x qual:Str}{st:Stmt}{f:Addr}{fd:FuncData}{ps:List Str} (F:Fun K x qual st f fd)
  (h:∀ (kV doc pm:Value) (an:Option Addr) (cdv ct:Value) (us:List Value),us.length=ps.length->bindArgs (PySem.W.fnOf x qual (defArgs st) (defBody st) (defScope st) .none kV doc pm an cdv ct) ⟨us,[]⟩=pure (ps.zip us)):Binds K fd ps []:=by
 obtain⟨oc,od,kV,doc,pm,an,cdv,ct,osl,rfl,lk,hcd⟩:=F.ex
 exact .all (h kV doc pm an cdv ct)
theorem fun_mk {x qual:Str}{st:Stmt}{f:Addr}{oc:Value}{od an:Option Addr}{osl:Array (Option Value)}{kV doc pm cdv ct:Value} (l:K.lookup f=some ⟨oc,od,.func (PySem.W.fnOf x qual (defArgs st) (defBody st) (defScope st) .none kV doc pm an cdv ct),osl⟩)
  (c:PySem.W.codeIn K cdv qual=true) (k:PySem.W.keepIn K (.ref f)=true):Fun K x qual st f (PySem.W.fnOf x qual (defArgs st) (defBody st) (defScope st) .none kV doc pm an cdv ct):=⟨⟨oc,od,kV,doc,pm,an,cdv,ct,osl,rfl,l,c⟩,k⟩
end
theorem hu_of {A:Around}{k:Nat} (hr:Room k A):A.units+1<cLine:=Nat.lt_of_le_of_lt (Nat.add_le_add_left (by decide:1<=64) _) hr.units
section
variable {X:Cx}
end
theorem iteF {A B:Prop} (h:B):if false=true then A else B:=by
 rw[if_neg Bool.false_ne_true]
 exact h
theorem iteT {A B:Prop} (h:A):if true=true then A else B:=by
 rw[if_pos rfl]
 exact h
theorem ite2 {c A B:Prop} [Decidable c] (h1:c->A) (h2:¬c->B):if c then A else B:=by
 by_cases h:c
 ·rw[if_pos h]
  exact h1 h
 ·rw[if_neg h]
  exact h2 h
def Same (H H':Hp):Prop:=∀ b o,H b=some o->H' b=some o
theorem Same.refl (H:Hp):Same H H:=fun _ _ h=>h
theorem Same.trans {H H1 H2:Hp} (a:Same H H1) (b:Same H1 H2):Same H H2:=fun c o h=>b c o (a c o h)
theorem Same.free {H H':Hp} (e:Same H H') {l:Addr} (h:H' l=Option.none):H l=Option.none:=by
 cases q:H l with
 | none=>rfl
 | some o=>
  rw[e l o q]at h
  cases h
end L2
namespace L2
open PySem PySem.Spec PyProof.Rows
section
variable {X:Cx}
end
end L2
namespace L2
open PySem PySem.Spec PyProof.Rows
section
variable {κ:Type} [DecidableEq κ]
theorem valV_in {kvs:List (κ×V)}{k:κ}{v:V} (h:valV kvs k=some v):k∈kvs.map (·.1):=by
 have q:(kvs.any fun kv=>decide (kv.1=k))=true:=by
  rw[valV_any,h]
  all_goals rfl
 obtain⟨p,hp,e⟩:=List.any_eq_true.mp q
 exact List.mem_map.mpr ⟨p,hp,of_decide_eq_true e⟩
end
end L2
end
section
namespace L2
open PySem
def DRaw (h:Heap) (d:Addr) (es:Array DictEntry) (ep:Nat):Prop:=∃ ob,h.get? d=some ob/\ob.ExactDict/\ob.data=.dict es ep
theorem DRaw.type {s:Shared}{d:Addr}{es:Array DictEntry}{ep:Nat} (m:DRaw s.heap d es ep):s.TypeIs (.ref d) "dict":=let ⟨ob,a,b,_⟩:=m;⟨ob,a,b.1⟩
theorem DRaw.lt {h:Heap}{d:Addr}{es:Array DictEntry}{ep:Nat} (m:DRaw h d es ep):d<h.objs.size:=let ⟨_,a,_⟩:=m;Heap.lt_size a
theorem DRaw.at {h h':Heap}{d:Addr}{es:Array DictEntry}{ep:Nat} (m:DRaw h d es ep) (k:∀ o,h.get? d=some o->h'.get? d=some o):DRaw h' d es ep:=let ⟨ob,a,r⟩:=m;⟨ob,k _ a,r⟩
section
variable {prog:Program}{w:World}{A:Around}{E:Value->Shared->Prop}{s:Shared}
theorem draw_iter {d:Addr}{es:Array DictEntry}{ep:Nat}{Q:Value->Shared->Prop} (lo:(d == sysModules)=false) (m:DRaw s.heap d es ep)
  (q:Q (.ref s.heap.objs.size) { s with heap:=s.heap.push { cls:=.type "dict_keyiterator",data:=.fields #[.ref d,.int 0 0,.int es.size 0,.int ep 0] } }):wpAny (model prog w) A (pyIter (.ref d)) Q E s:=by
 obtain⟨ob,g1,g2,g3⟩:=id m
 refine wpAny_pyIter_slot m.type F.slot_dict_iter (wpAny_call_entry F.slot_dict_iter m.type F.entry_dict_iter ?_ (F.args_dict_iter_1 _))
 (unfold Builtin.«dict.__iter__»;refine wpAny_bind ?_;unfold Builtin.Dict.dictSlotNone;refine wpAny_bind (wpAny_notOrdered_dict m.type ?_))
 (show wpAny _ _ (pure (Value.ref d)) _ _ s;refine wpAny_pure ?_)
 (show wpAny _ _ (Builtin.Dict.showsAll d >>= _) _ _ s;unfold Builtin.Dict.showsAll;rw[if_neg (by rw[lo];exact Bool.false_ne_true)])
 refine wpAny_bind (wpAny_pure (wpAny_bind (wpAny_dictEntries g1 g3 (wpAny_bind (wpAny_dictEpoch g1 g3 ?_)))))
 refine wpAny_bind (wpAny_newObj_type (wpAny_pure ⟨_,rfl,"dict_keyiterator",_,⟨_,Heap.get?_push_size _ rfl,rfl⟩,F.slot_dict_keyiterator_next.lookup,?_⟩))
 simpa [rawInt] using q
theorem draw_item {it d:Addr}{i ep:Nat}{es:Array DictEntry}{Q:Option Value->Shared->Prop} (k:s.heap.IsKeyIter it d i es.size ep) (m:DRaw s.heap d es ep) (lt:i<es.size)
  (q:∀ h',h'.IsKeyIter it d (i+1) es.size ep->Heap.SameBut it s.heap h'->Q (some es[i].key) { s with heap:=h' }):wpAny (model prog w) A (pyNext (.ref it)) Q E s:=by
 obtain⟨oi,a1,a2,a3⟩:=id k
 obtain⟨ob,g1,g2,g3⟩:=id m
 unfold pyNext
 refine wpAny_bind (wpAny_attempt (wpAny_callSpecial?_slot (name:=Str.ofString "__next__") k.typeIs F.slot_dict_keyiterator_next (wpAny_call_entry F.slot_dict_keyiterator_next k.typeIs F.entry_dict_keyiterator_next ?_ (F.args_dict_keyiterator_next_1 _))))
 (refine wpAny_bind (wpAny_pure ?_);refine wpAny_bind ?_;refine wpAny_bind ?_)
 first | refine wpAny_bind (wpAny_typeNameOfWhole_keyiter k.typeIs (wpAny_pure ?_)) | refine wpAny_bind (wpAny_typeNameOf_keyiter k.typeIs (wpAny_pure ?_))
 refine wpAny_bind (wpAny_fieldsOf a1 a3 ?_)
 simp only[show Builtin.Dict_items.ownsTuple "dict_keyiterator"=false by decide,Bool.false_eq_true,if_false]
 (show wpAny _ _ (if (Value.ref d == Value.none)=true then _ else _) _ _ s;rw[if_neg (show ¬((Value.ref d == Value.none)=true) from fun z=>Bool.false_ne_true z)])
 refine wpAny_bind (wpAny_pure (wpAny_bind (wpAny_dictEntries g1 g3 ?_)))
 (rw[if_neg (by simp)];refine wpAny_bind (wpAny_pure (wpAny_bind (wpAny_dictEpoch g1 g3 ?_))))
 (rw[if_neg (by simp)];refine wpAny_pure ?_)
 simp only[show ¬((i:Int)<0) from by lia,if_false,Int.toNat_natCast,Array.getElem?_eq_getElem lt]
 refine wpAny_bind ?_
 first | refine wpAny_bind (wpAny_typeNameOfWhole_keyiter k.typeIs (wpAny_pure ?_)) | refine wpAny_bind (wpAny_typeNameOf_keyiter k.typeIs (wpAny_pure ?_))
 refine wpAny_bind (wpAny_isOneOf_keyiter k.typeIs ?_)
 (show wpAny _ _ (setField (.ref it) 1 (rawInt ((i:Int)+1)) >>= _) _ _ s;refine wpAny_bind (wpAny_setField a1 a3 (by simp) ?_))
 have k':(s.heap.update it (Obj.mapFields (·.setIfInBounds 1 (rawInt ((i:Int)+1))))).IsKeyIter it d (i+1) es.size ep:=⟨_,Heap.get?_update_self _ a1 (Obj.isFreed_of_fields (Obj.data_mapFields a3 _)),Eq.trans (Obj.cls_mapFields ..) a2,by rw[Obj.data_mapFields a3];simp [rawInt]⟩
 refine wpAny_bind (wpAny_holding (wpAny_bind (wpAny_isOneOf_keyiter (s:={ s with heap:=s.heap.update it (Obj.mapFields (·.setIfInBounds 1 (rawInt ((i:Int)+1)))) }) k'.typeIs ?_)))
 show wpAny _ _ (pure es[i].key) _ _ _
 exact wpAny_pure (wpAny_pure ⟨_,rfl,wpAny_pure (q _ k' (Heap.SameBut.update ..))⟩)
theorem draw_end {it d:Addr}{i ep:Nat}{es:Array DictEntry}{Q:Option Value->Shared->Prop} (hh:A.handled=none) (k:s.heap.IsKeyIter it d i es.size ep) (m:DRaw s.heap d es ep) (ge:es.size<=i)
  (q:∀ h',Heap.ExtBut it s.heap h'->Q none { s with heap:=h' }):wpAny (model prog w) A (pyNext (.ref it)) Q E s:=by
 obtain⟨oi,a1,a2,a3⟩:=id k
 obtain⟨ob,g1,g2,g3⟩:=id m
 unfold pyNext
 refine wpAny_bind (wpAny_attempt (wpAny_callSpecial?_slot (name:=Str.ofString "__next__") k.typeIs F.slot_dict_keyiterator_next (wpAny_call_entry F.slot_dict_keyiterator_next k.typeIs F.entry_dict_keyiterator_next ?_ (F.args_dict_keyiterator_next_1 _))))
 (refine wpAny_bind (wpAny_pure ?_);refine wpAny_bind ?_;refine wpAny_bind ?_)
 first | refine wpAny_bind (wpAny_typeNameOfWhole_keyiter k.typeIs (wpAny_pure ?_)) | refine wpAny_bind (wpAny_typeNameOf_keyiter k.typeIs (wpAny_pure ?_))
 refine wpAny_bind (wpAny_fieldsOf a1 a3 ?_)
 simp only[show Builtin.Dict_items.ownsTuple "dict_keyiterator"=false by decide,Bool.false_eq_true,if_false]
 (show wpAny _ _ (if (Value.ref d == Value.none)=true then _ else _) _ _ s;rw[if_neg (show ¬((Value.ref d == Value.none)=true) from fun z=>Bool.false_ne_true z)])
 refine wpAny_bind (wpAny_pure (wpAny_bind (wpAny_dictEntries g1 g3 ?_)))
 (rw[if_neg (by simp)];refine wpAny_bind (wpAny_pure (wpAny_bind (wpAny_dictEpoch g1 g3 ?_))))
 (rw[if_neg (by simp)];refine wpAny_pure ?_)
 simp only[show ¬((i:Int)<0) from by lia,if_false,Int.toNat_natCast,Array.getElem?_eq_none ge]
 refine wpAny_bind ?_
 first | refine wpAny_bind (wpAny_typeNameOfWhole_keyiter k.typeIs (wpAny_pure ?_)) | refine wpAny_bind (wpAny_typeNameOf_keyiter k.typeIs (wpAny_pure ?_))
 (show wpAny _ _ (setField (.ref it) 0 .none >>= _) _ _ s;refine wpAny_bind (wpAny_setField a1 a3 (by simp) ?_))
 (show wpAny _ _ (newExc (.type "StopIteration") [] >>= _) _ _ _;refine wpAny_bind ?_;simp only[newExc,newTuple])
 refine wpAny_bind (wpAny_newObj_type (wpAny_bind (m:=firstArgMember _ _) (wpAny_of_eq (a:=Value.none) (by first | rfl | (simp only[firstArgMember] <;> rfl)) (wpAny_newObj_type ?_ (by size_fits)))) (by size_fits))
 (simp only[raiseNew];refine wpAny_bind (wpAny_handled ?_);rw[show A.in1.handled=none from hh])
 refine wpAny_bind (wpAny_pure (wpAny_throw ?_))
 refine wpAny_bind (wpAny_isInstance (T:="StopIteration") (b:=true) ⟨_,Heap.get?_push_size _ rfl,rfl⟩ isSubtype_stop (wpAny_pure ?_))
 exact q _ (((Heap.SameBut.update ..).extBut.push _).push _)
end
theorem walks_raw {prog:Program}{w:World}{A:Around} (hh:A.handled=none) (J d:Addr) (ne:d≠J) (es:Array DictEntry) (ep:Nat) :
  Walks prog w A J [J,d] [J] es.size (fun i v=>∃ e,es[i]?=some e/\v=e.key) (fun i h=>h.IsKeyIter J d i es.size ep/\DRaw h d es ep) where
 sub:=fun b hb=>by simp at hb;simp [hb]
 frame:=fun _ _ _ st hk=>⟨let ⟨o,a,r⟩:=st.1;⟨o,hk J (by simp) o a,r⟩,st.2.at fun o e=>hk d (by simp) o e⟩
 item:=fun i s Q E lt st q=>draw_item st.1 st.2 lt fun h' k' sb=>q _ h' s.toks ⟨es[i],Array.getElem?_eq_getElem lt,rfl⟩ ⟨k',st.2.at fun o e=>sb.extBut _ _ ne e⟩ fun b o hb e=>sb.extBut b o (fun z=>hb (by simp [z])) e
 done:=fun s Q E st q=>draw_end hh st.1 st.2 (Nat.le_refl _) fun h' eb=>q h' s.toks fun b o hb e=>eb b o (fun z=>hb (by simp [z])) e
 self:=fun _ _ _ _ st q=>wpAny_pyIter_keyiter st.1 q
end L2
end
section
namespace Kn
open PySem
inductive Val where
 | num (i:Int)
 | word (s:Str)
 | row (ps:List (Str×Val))
 | bag (ps:List (Val×Int))
inductive KE where
 | i (n:Int)
 | s (x:Str)
noncomputable instance:DecidableEq Val:=fun a b=>Classical.propDecidable (a=b)
noncomputable instance:DecidableEq KE:=fun a b=>Classical.propDecidable (a=b)
def sLt (a b:Str):Bool:=decide (a.cps.toList<b.cps.toList)
def rank:Val->Int
 | .num _=>0
 | .word _=>1
 | .row _=>2
 | .bag _=>3
mutual
def key:Val->List KE
 | .num i=>[.i 0,.i i]
 | .word s=>[.i 1,.s s]
 | .row ps=>.i 2::keyR ps
 | .bag ps=>.i 3::keyB ps
def keyR:List (Str×Val)->List KE
 | []=>[.i 0]
 | p::ps=>.i 1::.s p.1::(key p.2++keyR ps)
def keyB:List (Val×Int)->List KE
 | []=>[.i 0]
 | p::ps=>.i 1::(key p.1++.i p.2::keyB ps)
end
mutual
noncomputable def ltV:Val->Val->Bool
 | .num i,.num j=>decide (i<j)
 | .word s,.word t=>sLt s t
 | .row ps,.row qs=>ltR ps qs
 | .bag ps,.bag qs=>ltB ps qs
 | x,y=>decide (rank x<rank y)
noncomputable def ltR:List (Str×Val)->List (Str×Val)->Bool
 | [],[]=>false
 | [],_::_=>true
 | _::_,[]=>false
 | p::ps,q::qs=>if p=q then ltR ps qs else if p.1=q.1 then ltV p.2 q.2 else sLt p.1 q.1
noncomputable def ltB:List (Val×Int)->List (Val×Int)->Bool
 | [],[]=>false
 | [],_::_=>true
 | _::_,[]=>false
 | p::ps,q::qs=>if p=q then ltB ps qs else if p.1=q.1 then decide (p.2<q.2) else ltV p.1 q.1
end
def kEl:KE->KE->Option Bool
 | .i m,.i n=>some (decide (m<n))
 | .s x,.s y=>some (sLt x y)
 | _,_=>none
noncomputable def cmpK:List KE->List KE->Option Bool
 | [],[]=>some false
 | [],_::_=>some true
 | _::_,[]=>some false
 | a::as,b::bs=>if a=b then cmpK as bs else kEl a b
theorem cmpK_same {a:KE}{as bs:List KE}:cmpK (a::as) (a::bs)=cmpK as bs:=by rw[cmpK,if_pos rfl]
theorem cmpK_int {m n:Int}{as bs:List KE} (h:m≠n):cmpK (.i m::as) (.i n::bs)=some (decide (m<n)):=by
 rw[cmpK,if_neg (by intro e;injection e with e;exact h e)];rfl
theorem cmpK_str {m n:Str}{as bs:List KE} (h:m≠n):cmpK (.s m::as) (.s n::bs)=some (sLt m n):=by
 rw[cmpK,if_neg (by intro e;injection e with e;exact h e)];rfl
mutual
theorem cmp_key:∀ (x y:Val) (r r':List KE),cmpK (key x++r) (key y++r')=if x=y then cmpK r r' else some (ltV x y)
 | .num i,.num j,r,r'=>by
  simp only[key,List.cons_append,List.nil_append,cmpK_same]
  by_cases h:i=j
  ·subst h;rw[if_pos rfl,cmpK_same]
  ·rw[if_neg (by intro e;injection e with e;exact h e),cmpK_int h,ltV]
 | .word i,.word j,r,r'=>by
  simp only[key,List.cons_append,List.nil_append,cmpK_same]
  by_cases h:i=j
  ·subst h;rw[if_pos rfl,cmpK_same]
  ·rw[if_neg (by intro e;injection e with e;exact h e),cmpK_str h,ltV]
 | .row ps,.row qs,r,r'=>by
  simp only[key,List.cons_append,cmpK_same]
  rw[cmp_keyR ps qs r r']
  by_cases h:ps=qs
  ·subst h;rw[if_pos rfl,if_pos rfl]
  ·rw[if_neg h,if_neg (by intro e;injection e with e;exact h e),ltV]
 | .bag ps,.bag qs,r,r'=>by
  simp only[key,List.cons_append,cmpK_same]
  rw[cmp_keyB ps qs r r']
  by_cases h:ps=qs
  ·subst h;rw[if_pos rfl,if_pos rfl]
  ·rw[if_neg h,if_neg (by intro e;injection e with e;exact h e),ltV]
 | .num _,.word _,r,r'=>by simp [key,cmpK,kEl,ltV,rank]
 | .num _,.row _,r,r'=>by simp [key,cmpK,kEl,ltV,rank]
 | .num _,.bag _,r,r'=>by simp [key,cmpK,kEl,ltV,rank]
 | .word _,.num _,r,r'=>by simp [key,cmpK,kEl,ltV,rank]
 | .word _,.row _,r,r'=>by simp [key,cmpK,kEl,ltV,rank]
 | .word _,.bag _,r,r'=>by simp [key,cmpK,kEl,ltV,rank]
 | .row _,.num _,r,r'=>by simp [key,cmpK,kEl,ltV,rank]
 | .row _,.word _,r,r'=>by simp [key,cmpK,kEl,ltV,rank]
 | .row _,.bag _,r,r'=>by simp [key,cmpK,kEl,ltV,rank]
 | .bag _,.num _,r,r'=>by simp [key,cmpK,kEl,ltV,rank]
 | .bag _,.word _,r,r'=>by simp [key,cmpK,kEl,ltV,rank]
 | .bag _,.row _,r,r'=>by simp [key,cmpK,kEl,ltV,rank]
theorem cmp_keyR:∀ (ps qs:List (Str×Val)) (r r':List KE),cmpK (keyR ps++r) (keyR qs++r')=if ps=qs then cmpK r r' else some (ltR ps qs)
 | [],[],r,r'=>by simp [keyR,cmpK_same,cmpK]
 | [],q::qs,r,r'=>by
  simp only[keyR,List.cons_append,List.nil_append]
  rw[cmpK_int (by decide),if_neg (by intro e;cases e),ltR];rfl
 | p::ps,[],r,r'=>by
  simp only[keyR,List.cons_append,List.nil_append]
  rw[cmpK_int (by decide),if_neg (by intro e;cases e),ltR];rfl
 | p::ps,q::qs,r,r'=>by
  simp only[keyR,List.cons_append,List.append_assoc,cmpK_same]
  by_cases hf:p.1=q.1
  ·rw[hf,cmpK_same,cmp_key p.2 q.2 _ _]
   by_cases hx:p.2=q.2
   ·have e:p=q:=Prod.ext hf hx
    subst e
    rw[if_pos rfl,cmp_keyR ps qs r r',ltR,if_pos rfl]
    by_cases h:ps=qs
    ·subst h;rw[if_pos rfl,if_pos rfl]
    ·rw[if_neg h,if_neg (by intro e;injection e with _ e;exact h e)]
   ·have e:¬p=q:=fun z=>hx (by rw[z])
    rw[if_neg hx,if_neg (by intro z;injection z with z _;exact e z),ltR,if_neg e,if_pos hf]
  ·have e:¬p=q:=fun z=>hf (by rw[z])
   rw[cmpK_str hf,if_neg (by intro z;injection z with z _;exact e z),ltR,if_neg e,if_neg hf]
theorem cmp_keyB:∀ (ps qs:List (Val×Int)) (r r':List KE),cmpK (keyB ps++r) (keyB qs++r')=if ps=qs then cmpK r r' else some (ltB ps qs)
 | [],[],r,r'=>by simp [keyB,cmpK_same,cmpK]
 | [],q::qs,r,r'=>by
  simp only[keyB,List.cons_append,List.nil_append]
  rw[cmpK_int (by decide),if_neg (by intro e;cases e),ltB];rfl
 | p::ps,[],r,r'=>by
  simp only[keyB,List.cons_append,List.nil_append]
  rw[cmpK_int (by decide),if_neg (by intro e;cases e),ltB];rfl
 | p::ps,q::qs,r,r'=>by
  simp only[keyB,List.cons_append,List.append_assoc,cmpK_same]
  rw[cmp_key p.1 q.1 _ _]
  by_cases hx:p.1=q.1
  ·rw[if_pos hx]
   by_cases hf:p.2=q.2
   ·have e:p=q:=Prod.ext hx hf
    subst e
    rw[cmpK_same,cmp_keyB ps qs r r',ltB,if_pos rfl]
    by_cases h:ps=qs
    ·subst h;rw[if_pos rfl,if_pos rfl]
    ·rw[if_neg h,if_neg (by intro e;injection e with _ e;exact h e)]
   ·have e:¬p=q:=fun z=>hf (by rw[z])
    rw[cmpK_int hf,if_neg (by intro z;injection z with z _;exact e z),ltB,if_neg e,if_pos hx]
  ·have e:¬p=q:=fun z=>hx (by rw[z])
   rw[if_neg hx,if_neg (by intro z;injection z with z _;exact e z),ltB,if_neg e,if_neg hx]
end
noncomputable def aheadB (x y:Val):Bool:=if x=y then false else ltV x y
theorem cmp_keys (x y:Val):cmpK (key x) (key y)=some (aheadB x y):=by
 have h:=cmp_key x y [] []
 simp only[List.append_nil]at h
 rw[h]
 unfold aheadB
 by_cases e:x=y
 ·rw[if_pos e,if_pos e];rfl
 ·rw[if_neg e,if_neg e]
theorem sLt_irrefl (x:Str):sLt x x=false:=by
 unfold sLt
 exact decide_eq_false (List.lt_irrefl _)
theorem sLt_trans {x y z:Str} (h1:sLt x y=true) (h2:sLt y z=true):sLt x z=true:=by
 unfold sLt at *
 exact decide_eq_true (List.lt_trans (of_decide_eq_true h1) (of_decide_eq_true h2))
theorem cmpK_trans:∀ (a b c:List KE),cmpK a b=some true->cmpK b c=some true->cmpK a c=some true
 | [],[],_,h,_=>by cases h
 | [],_::_,[],_,h=>by cases h
 | [],_::_,_::_,_,_=>rfl
 | _::_,[],_,h,_=>by cases h
 | _::_,_::_,[],_,h=>by cases h
 | a::as,b::bs,c::cs,h1,h2=>by
  by_cases e1:a=b
  ·subst e1
   rw[cmpK_same]at h1
   by_cases e2:a=c
   ·subst e2
    rw[cmpK_same]at h2 ⊢
    exact cmpK_trans as bs cs h1 h2
   ·rw[cmpK,if_neg e2]at h2 ⊢
    exact h2
  ·by_cases e2:b=c
   ·subst e2
    rw[cmpK,if_neg e1]at h1 ⊢
    exact h1
   ·rw[cmpK,if_neg e1]at h1
    rw[cmpK,if_neg e2]at h2
    cases a with
    | i m=>
     cases b with
     | i n=>
      cases c with
      | i k=>
       have g1:m<n:=of_decide_eq_true (Option.some.inj h1)
       have g2:n<k:=of_decide_eq_true (Option.some.inj h2)
       have g:m<k:=by lia
       rw[cmpK_int (by lia),decide_eq_true g]
      | s z=>cases h2
     | s y=>cases h1
    | s x=>
     cases b with
     | i n=>cases h1
     | s y=>
      cases c with
      | i k=>cases h2
      | s z=>
       have g1:sLt x y=true:=Option.some.inj h1
       have g2:sLt y z=true:=Option.some.inj h2
       have g:=sLt_trans g1 g2
       rw[cmpK_str (by intro e;subst e;rw[sLt_irrefl]at g;cases g),g]
theorem ahead_trans {x y z:Val} (h1:aheadB x y=true) (h2:aheadB y z=true):aheadB x z=true:=by
 have e1:=cmp_keys x y
 have e2:=cmp_keys y z
 rw[h1]at e1
 rw[h2]at e2
 have e:=cmpK_trans _ _ _ e1 e2
 rw[cmp_keys x z]at e
 exact Option.some.inj e
end Kn
end
section
namespace L2
open PySem PySem.Spec PyProof.Rows
inductive Dt where
 | int (i:Int)
 | str (x:Str)
 | tup (ds:List Dt)
noncomputable instance:DecidableEq Dt:=fun a b=>Classical.propDecidable (a=b)
mutual
def Dt.dep:Dt->Nat
 | .int _=>0
 | .str _=>0
 | .tup ds=>depL ds+1
def depL:List Dt->Nat
 | []=>0
 | d::ds=>max d.dep (depL ds)
end
theorem dep_mem:∀ {ds:List Dt}{d:Dt},d∈ds->d.dep<=depL ds
 | d::ds,e,h=>by
  rw[depL]
  rcases List.mem_cons.mp h with rfl | h
  ·exact Nat.le_max_left _ _
  ·exact Nat.le_trans (dep_mem h) (Nat.le_max_right _ _)
mutual
def IsDt (H:Hp):Dt->V->Prop
 | .int i,v=>v=.int i
 | .str x,v=>v=.str x
 | .tup ds,v=>∃ a xs,v=.ref a/\H a=some (.tup xs)/\IsDts H ds xs
def IsDts (H:Hp):List Dt->List V->Prop
 | [],xs=>xs=[]
 | d::ds,xs=>∃ y ys,xs=y::ys/\IsDt H d y/\IsDts H ds ys
end
def Tups (H H':Hp):Prop:=∀ b xs,H b=some (.tup xs)->H' b=some (.tup xs)
theorem Tups.trans {H H1 H2:Hp} (a:Tups H H1) (b:Tups H1 H2):Tups H H2:=fun c xs h=>b c xs (a c xs h)
theorem Same.tups {H H':Hp} (h:Same H H'):Tups H H':=fun b xs e=>h b _ e
theorem Tups.new {H:Hp}{p:Addr} (h:H p=none) (o:HO):Tups H (upd H p o):=fun b xs e=>by rw[upd_ne (ne_of_none e h)];exact e
theorem Tups.lst {H:Hp}{p:Addr}{xs ys:List V} (h:H p=some (.lst xs)):Tups H (upd H p (.lst ys)):=fun b zs e=>by
 rw[upd_ne (ne_of e h (by intro z;cases z))];exact e
mutual
theorem IsDt.mono {H H':Hp} (t:Tups H H'):∀ {d:Dt}{v:V},IsDt H d v->IsDt H' d v
 | .int i,v,h=>by rw[IsDt]at h ⊢;exact h
 | .str x,v,h=>by rw[IsDt]at h ⊢;exact h
 | .tup ds,v,h=>by
  rw[IsDt]at h ⊢
  obtain⟨a,xs,e,h1,h2⟩:=h
  exact⟨a,xs,e,t a xs h1,IsDts.mono t h2⟩
theorem IsDts.mono {H H':Hp} (t:Tups H H'):∀ {ds:List Dt}{xs:List V},IsDts H ds xs->IsDts H' ds xs
 | [],xs,h=>by rw[IsDts]at h ⊢;exact h
 | d::ds,xs,h=>by
  rw[IsDts]at h ⊢
  obtain⟨y,ys,e,h1,h2⟩:=h
  exact⟨y,ys,e,IsDt.mono t h1,IsDts.mono t h2⟩
end
mutual
theorem IsDt.inj {H:Hp}:∀ {d e:Dt}{v:V},IsDt H d v->IsDt H e v->d=e
 | .int i,e,v,h,h'=>by
  rw[IsDt]at h;subst h
  cases e with
  | int j=>rw[IsDt]at h';cases h';rfl
  | str y=>rw[IsDt]at h';cases h'
  | tup es=>rw[IsDt]at h';obtain⟨_,_,z,_⟩:=h';cases z
 | .str i,e,v,h,h'=>by
  rw[IsDt]at h;subst h
  cases e with
  | int j=>rw[IsDt]at h';cases h'
  | str y=>rw[IsDt]at h';cases h';rfl
  | tup es=>rw[IsDt]at h';obtain⟨_,_,z,_⟩:=h';cases z
 | .tup ds,e,v,h,h'=>by
  rw[IsDt]at h
  obtain⟨a,xs,rfl,h1,h2⟩:=h
  cases e with
  | int j=>rw[IsDt]at h';cases h'
  | str y=>rw[IsDt]at h';cases h'
  | tup es=>
   rw[IsDt]at h'
   obtain⟨b,ys,z,g1,g2⟩:=h'
   cases z
   rw[h1]at g1
   cases g1
   rw[IsDts.inj h2 g2]
theorem IsDts.inj {H:Hp}:∀ {ds es:List Dt}{xs:List V},IsDts H ds xs->IsDts H es xs->ds=es
 | [],es,xs,h,h'=>by
  rw[IsDts]at h;subst h
  cases es with
  | nil=>rfl
  | cons e es=>rw[IsDts]at h';obtain⟨_,_,z,_⟩:=h';cases z
 | d::ds,es,xs,h,h'=>by
  rw[IsDts]at h
  obtain⟨y,ys,rfl,h1,h2⟩:=h
  cases es with
  | nil=>rw[IsDts]at h';cases h'
  | cons e es=>
   rw[IsDts]at h'
   obtain⟨y',ys',z,g1,g2⟩:=h'
   cases z
   rw[IsDt.inj h1 g1,IsDts.inj h2 g2]
end
theorem IsDts.length {H:Hp}:∀ {ds:List Dt}{xs:List V},IsDts H ds xs->xs.length=ds.length
 | [],xs,h=>by rw[IsDts]at h;subst h;rfl
 | d::ds,xs,h=>by
  rw[IsDts]at h
  obtain⟨y,ys,rfl,h1,h2⟩:=h
  simp [IsDts.length h2]
theorem IsDts.get {H:Hp}:∀ {ds:List Dt}{xs:List V}{i:Nat}{d:Dt},IsDts H ds xs->ds[i]?=some d->∃ y,xs[i]?=some y/\IsDt H d y
 | [],xs,i,d,h,e=>by simp at e
 | c::ds,xs,0,d,h,e=>by
  rw[IsDts]at h
  obtain⟨y,ys,rfl,h1,h2⟩:=h
  simp at e;subst e
  exact⟨y,rfl,h1⟩
 | c::ds,xs,i+1,d,h,e=>by
  rw[IsDts]at h
  obtain⟨y,ys,rfl,h1,h2⟩:=h
  obtain⟨z,q,r⟩:=IsDts.get (i:=i) h2 (by simpa using e)
  exact⟨z,by simpa using q,r⟩
theorem IsDts.append {H:Hp}:∀ {ds es:List Dt}{xs ys:List V},IsDts H ds xs->IsDts H es ys->IsDts H (ds++es) (xs++ys)
 | [],es,xs,ys,h,h'=>by rw[IsDts]at h;subst h;exact h'
 | d::ds,es,xs,ys,h,h'=>by
  rw[IsDts]at h
  obtain⟨z,zs,rfl,h1,h2⟩:=h
  rw[List.cons_append,List.cons_append,IsDts]
  exact⟨z,zs++ys,rfl,h1,IsDts.append h2 h'⟩
theorem IsDts.one {H:Hp}{d:Dt}{v:V} (h:IsDt H d v):IsDts H [d] [v]:=by
 rw[IsDts];exact⟨v,[],rfl,h,by rw[IsDts]⟩
theorem IsDts.cons {H:Hp}{d:Dt}{v:V}{ds:List Dt}{vs:List V} (h:IsDt H d v) (h':IsDts H ds vs):IsDts H (d::ds) (v::vs):=by
 rw[IsDts];exact⟨v,vs,rfl,h,h'⟩
theorem IsDts.nil {H:Hp}:IsDts H [] []:=by rw[IsDts]
theorem isDt_int {H:Hp} (i:Int):IsDt H (.int i) (.int i):=by rw[IsDt]
theorem isDt_str {H:Hp} (x:Str):IsDt H (.str x) (.str x):=by rw[IsDt]
theorem isDt_tup {H:Hp}{a:Addr}{xs:List V}{ds:List Dt} (h:H a=some (.tup xs)) (h':IsDts H ds xs):IsDt H (.tup ds) (.ref a):=by rw[IsDt];exact⟨a,xs,rfl,h,h'⟩
theorem isDt_new {H:Hp}{p:Addr}{xs:List V}{ds:List Dt} (hp:H p=none) (h':IsDts H ds xs):IsDt (upd H p (.tup xs)) (.tup ds) (.ref p):=
 isDt_tup upd_same (h'.mono (.new hp _))
section
variable {P:Program}{w:World}{H:Hp}
theorem all_eq (ds es:List Dt):((List.range (min ds.length es.length)).all (fun j=>decide (ds[j]?=es[j]?)) && ds.length == es.length)=decide (ds=es):=by
 rw[Bool.eq_iff_iff]
 simp only[Bool.and_eq_true,List.all_eq_true,List.mem_range,decide_eq_true_eq,beq_iff_eq]
 constructor
 ·rintro⟨h1,h2⟩
  refine List.ext_getElem? fun i=>?_
  by_cases hi:i<min ds.length es.length
  ·exact h1 i hi
  ·rw[List.getElem?_eq_none (by lia),List.getElem?_eq_none (by lia)]
 ·rintro rfl
  exact⟨fun _ _=>rfl,rfl⟩
theorem eqAt_D:∀ (n:Nat) (A:Around) (s:Shared) (d e:Dt) (v u:V) (x y:Value),HOk P w H s.heap->d.dep<=n->A.units+n<cLine->IsDt H d v->IsDt H e u->RelV v x->RelV u y->SeqAt.EqAt A s x y (decide (d=e)):=by
 intro n
 induction n with
 | zero=>
  intro A s d e v u x y ok hd hu iv iu rv ru
  cases d with
  | int i=>
   rw[IsDt]at iv;subst iv
   obtain⟨t,rfl⟩:=rv
   cases e with
   | int j=>
    rw[IsDt]at iu;subst iu
    obtain⟨t',rfl⟩:=ru
    have z:decide (Dt.int i=Dt.int j)=(i == j):=by rw[Bool.eq_iff_iff];simp
    rw[z];exact SeqAt.EqAt.int_int i t j t'
   | str z=>
    rw[IsDt]at iu;subst iu
    obtain⟨t',rfl⟩:=ru
    rw[decide_eq_false (by intro q;cases q)];exact SeqAt.EqAt.int_str i t z t'
   | tup es=>
    rw[IsDt]at iu
    obtain⟨a,xs,rfl,h1,h2⟩:=iu
    cases ru
    obtain⟨hz,its,r,p⟩:=ok a _ h1
    rw[decide_eq_false (by intro q;cases q)];exact SeqAt.EqAt.int_tuple i t p (by lia)
  | str i=>
   rw[IsDt]at iv;subst iv
   obtain⟨t,rfl⟩:=rv
   cases e with
   | int j=>
    rw[IsDt]at iu;subst iu
    obtain⟨t',rfl⟩:=ru
    rw[decide_eq_false (by intro q;cases q)];exact SeqAt.EqAt.str_int i t j t'
   | str z=>
    rw[IsDt]at iu;subst iu
    obtain⟨t',rfl⟩:=ru
    have q:decide (Dt.str i=Dt.str z)=(i == z):=by rw[Bool.eq_iff_iff];simp
    rw[q];exact SeqAt.EqAt.str_str i t z t'
   | tup es=>
    rw[IsDt]at iu
    obtain⟨a,xs,rfl,h1,h2⟩:=iu
    cases ru
    obtain⟨hz,its,r,p⟩:=ok a _ h1
    rw[decide_eq_false (by intro q;cases q)];exact SeqAt.EqAt.str_tuple i t p (by lia)
  | tup ds=>rw[Dt.dep]at hd;lia
 | succ n ih=>
  intro A s d e v u x y ok hd hu iv iu rv ru
  cases d with
  | int i=>exact ih A s _ e v u x y ok (by rw[Dt.dep];lia) (by lia) iv iu rv ru
  | str i=>exact ih A s _ e v u x y ok (by rw[Dt.dep];lia) (by lia) iv iu rv ru
  | tup ds=>
   rw[IsDt]at iv
   obtain⟨a,xs,rfl,h1,h2⟩:=iv
   cases rv
   obtain⟨hz,its,r,p⟩:=ok a _ h1
   cases e with
   | int j=>
    rw[IsDt]at iu;subst iu
    obtain⟨t',rfl⟩:=ru
    rw[decide_eq_false (by intro q;cases q)];exact SeqAt.EqAt.tuple_int j t' p (by lia)
   | str z=>
    rw[IsDt]at iu;subst iu
    obtain⟨t',rfl⟩:=ru
    rw[decide_eq_false (by intro q;cases q)];exact SeqAt.EqAt.tuple_str z t' p (by lia)
   | tup es=>
    have iu':=iu
    rw[IsDt]at iu
    obtain⟨b,ys,rfl,g1,g2⟩:=iu
    cases ru
    obtain⟨hz2,its2,r2,p2⟩:=ok b _ g1
    by_cases hab:a=b
    ·subst hab
     rw[h1]at g1
     cases g1
     rw[IsDts.inj h2 g2,decide_eq_true rfl]
     exact SeqAt.EqAt.same _
    ·have l1:its.toArray.size=ds.length:=by rw[List.size_toArray,<- r.length,h2.length]
     have l2:its2.toArray.size=es.length:=by rw[List.size_toArray,<- r2.length,g2.length]
     have q:=SeqAt.RcAt.tuples (s:=s) (A:=A) (e:=fun j=>decide (ds[j]?=es[j]?)) p p2 (by lia) fun j hj1 hj2=>by
      have k1:j<ds.length:=by rw[<- l1];exact hj1
      have k2:j<es.length:=by rw[<- l2];exact hj2
      obtain⟨y1,e1,i1⟩:=h2.get (i:=j) (List.getElem?_eq_getElem k1)
      obtain⟨y2,e2,i2⟩:=g2.get (i:=j) (List.getElem?_eq_getElem k2)
      obtain⟨u1,f1,q1⟩:=r.get e1
      obtain⟨u2,f2,q2⟩:=r2.get e2
      have w1:its.toArray[j]=u1:=by
       have:=(List.getElem?_eq_some_iff.mp f1).2
       simpa using this
      have w2:its2.toArray[j]=u2:=by
       have:=(List.getElem?_eq_some_iff.mp f2).2
       simpa using this
      rw[w1,w2,List.getElem?_eq_getElem k1,List.getElem?_eq_getElem k2]
      have z:decide (some ds[j]=some es[j])=decide (ds[j]=es[j]):=by rw[Bool.eq_iff_iff];simp
      rw[z]
      have hdep:ds[j].dep<=n:=by
       have:=dep_mem (List.getElem_mem k1)
       rw[Dt.dep]at hd
       lia
      exact ih A.in1 s _ _ y1 y2 u1 u2 ok hdep (by show A.units+1+n<cLine;lia) i1 i2 q1 q2
     rw[l1,l2,all_eq]at q
     have z:decide (Dt.tup ds=Dt.tup es)=decide (ds=es):=by rw[Bool.eq_iff_iff];simp
     rw[z]
     exact SeqAt.EqAt.of_refs hab q
end
section
variable {X:Cx}
def depMax:Nat:=100
def rEqD:R2:=fun x y H Q=>∃ d e,IsDt H d x/\IsDt H e y/\d.dep<=depMax/\Q (.bl (decide (d=e))) H
theorem items_eq {P:Program}{w:World}{H:Hp}{s:Shared}{A:Around}{ds es:List Dt}{xs ys:List V}{its its2:List Value}{n:Nat} (ok:HOk P w H s.heap) (hd:depL ds<=n) (hu:A.units+n<cLine) (h2:IsDts H ds xs) (g2:IsDts H es ys) (r:Vals xs its) (r2:Vals ys its2) :
  ∀ j (h1:j<its.toArray.size) (h2:j<its2.toArray.size),SeqAt.EqAt A s its.toArray[j] its2.toArray[j] (decide (ds[j]?=es[j]?)):=fun j hj1 hj2=>by
 have l1:its.toArray.size=ds.length:=by rw[List.size_toArray,<- r.length,h2.length]
 have l2:its2.toArray.size=es.length:=by rw[List.size_toArray,<- r2.length,g2.length]
 have k1:j<ds.length:=by rw[<- l1];exact hj1
 have k2:j<es.length:=by rw[<- l2];exact hj2
 obtain⟨y1,e1,i1⟩:=h2.get (i:=j) (List.getElem?_eq_getElem k1)
 obtain⟨y2,e2,i2⟩:=g2.get (i:=j) (List.getElem?_eq_getElem k2)
 obtain⟨u1,f1,q1⟩:=r.get e1
 obtain⟨u2,f2,q2⟩:=r2.get e2
 have w1:its.toArray[j]=u1:=by
  have:=(List.getElem?_eq_some_iff.mp f1).2
  simpa using this
 have w2:its2.toArray[j]=u2:=by
  have:=(List.getElem?_eq_some_iff.mp f2).2
  simpa using this
 rw[w1,w2,List.getElem?_eq_getElem k1,List.getElem?_eq_getElem k2]
 have z:decide (some ds[j]=some es[j])=decide (ds[j]=es[j]):=by rw[Bool.eq_iff_iff];simp
 rw[z]
 exact eqAt_D n A s _ _ y1 y2 u1 u2 ok (Nat.le_trans (dep_mem (List.getElem_mem k1)) hd) hu i1 i2 q1 q2
theorem op_eqD (hu:X.A.units+110<cLine):OpR X (compareOp .Eq) rEqD:=by
 intro pins s σ H x y v u Q I rx ry h
 obtain⟨d,e,ix,iy,hd,q⟩:=h
 cases d with
 | int i=>
  rw[IsDt]at ix;subst ix
  cases e with
  | int j=>
   rw[IsDt]at iy;subst iy
   refine op_eq pins s σ H _ _ v u Q I rx ry ⟨rfl,?_⟩
   have z:decide (V.int i=V.int j)=decide (Dt.int i=Dt.int j):=by rw[Bool.eq_iff_iff];simp
   rw[z];exact q
  | str j=>
   rw[IsDt]at iy;subst iy
   refine op_eq pins s σ H _ _ v u Q I rx ry ⟨rfl,?_⟩
   have z:decide (V.int i=V.str j)=decide (Dt.int i=Dt.str j):=by rw[Bool.eq_iff_iff];simp
   rw[z];exact q
  | tup es=>
   rw[IsDt]at iy
   obtain⟨a,xs,rfl,h1,h2⟩:=iy
   cases ry
   obtain⟨t,rfl⟩:=rx
   obtain⟨hz,its,r,p⟩:=I.hok a _ h1
   rw[decide_eq_false (by intro q;cases q)]at q
   exact SeqAt.RcAt.int_tuple i t p (by lia) _ _ _ _ ⟨.bl false,H,I,rfl,q⟩
 | str i=>
  rw[IsDt]at ix;subst ix
  cases e with
  | int j=>
   rw[IsDt]at iy;subst iy
   refine op_eq pins s σ H _ _ v u Q I rx ry ⟨rfl,?_⟩
   have z:decide (V.str i=V.int j)=decide (Dt.str i=Dt.int j):=by rw[Bool.eq_iff_iff];simp
   rw[z];exact q
  | str j=>
   rw[IsDt]at iy;subst iy
   refine op_eq pins s σ H _ _ v u Q I rx ry ⟨rfl,?_⟩
   have z:decide (V.str i=V.str j)=decide (Dt.str i=Dt.str j):=by rw[Bool.eq_iff_iff];simp
   rw[z];exact q
  | tup es=>
   rw[IsDt]at iy
   obtain⟨a,xs,rfl,h1,h2⟩:=iy
   cases ry
   obtain⟨t,rfl⟩:=rx
   obtain⟨hz,its,r,p⟩:=I.hok a _ h1
   rw[decide_eq_false (by intro q;cases q)]at q
   exact SeqAt.RcAt.str_tuple i t p (by lia) _ _ _ _ ⟨.bl false,H,I,rfl,q⟩
 | tup ds=>
  rw[IsDt]at ix
  obtain⟨a,xs,rfl,h1,h2⟩:=ix
  cases rx
  obtain⟨hz,its,r,p⟩:=I.hok a _ h1
  cases e with
  | int j=>
   rw[IsDt]at iy;subst iy
   obtain⟨t,rfl⟩:=ry
   rw[decide_eq_false (by intro q;cases q)]at q
   exact SeqAt.RcAt.tuple_int j t p (by lia) _ _ _ _ ⟨.bl false,H,I,rfl,q⟩
  | str j=>
   rw[IsDt]at iy;subst iy
   obtain⟨t,rfl⟩:=ry
   rw[decide_eq_false (by intro q;cases q)]at q
   exact SeqAt.RcAt.tuple_str j t p (by lia) _ _ _ _ ⟨.bl false,H,I,rfl,q⟩
  | tup es=>
   rw[IsDt]at iy
   obtain⟨b,ys,rfl,g1,g2⟩:=iy
   cases ry
   obtain⟨hz2,its2,r2,p2⟩:=I.hok b _ g1
   have l1:its.toArray.size=ds.length:=by rw[List.size_toArray,<- r.length,h2.length]
   have l2:its2.toArray.size=es.length:=by rw[List.size_toArray,<- r2.length,g2.length]
   rw[Dt.dep]at hd
   have z:decide (Dt.tup ds=Dt.tup es)=decide (ds=es):=by rw[Bool.eq_iff_iff];simp
   rw[z]at q
   refine SeqAt.RcAt.tuples (s:=s) (A:=X.A) (e:=fun j=>decide (ds[j]?=es[j]?)) p p2 (by lia) (items_eq (n:=depMax) (A:=X.A.in1) I.hok (by lia) (by show X.A.units+1+depMax<cLine;unfold depMax;lia) h2 g2 r r2) _ _ _ _ ?_
   rw[l1,l2,all_eq]
   exact⟨.bl _,H,I,rfl,q⟩
theorem op_neD (hu:X.A.units+110<cLine):OpR X (compareOp .NotEq) (fun x y H Q=>∃ ds es,IsDt H (.tup ds) x/\IsDt H (.tup es) y/\depL ds<=depMax/\Q (.bl (!decide (ds=es))) H):=by
 intro pins s σ H x y v u Q I rx ry h
 obtain⟨ds,es,ix,iy,hd,q⟩:=h
 rw[IsDt]at ix iy
 obtain⟨a,xs,rfl,h1,h2⟩:=ix
 obtain⟨b,ys,rfl,g1,g2⟩:=iy
 cases rx
 cases ry
 obtain⟨hz,its,r,p⟩:=I.hok a _ h1
 obtain⟨hz2,its2,r2,p2⟩:=I.hok b _ g1
 have l1:its.toArray.size=ds.length:=by rw[List.size_toArray,<- r.length,h2.length]
 have l2:its2.toArray.size=es.length:=by rw[List.size_toArray,<- r2.length,g2.length]
 refine SeqAt.RcNeAt.tuples (s:=s) (A:=X.A) (e:=fun j=>decide (ds[j]?=es[j]?)) p p2 (by lia) (items_eq (n:=depMax) (A:=X.A.in1) I.hok (by lia) (by show X.A.units+1+depMax<cLine;unfold depMax;lia) h2 g2 r r2) _ _ _ _ ?_
 rw[l1,l2,all_eq]
 exact⟨.bl _,H,I,rfl,q⟩
noncomputable def eqDv (H:Hp) (d:Dt) (u:Value):Bool:=@decide (∃ v,RelV v u/\IsDt H d v) (Classical.propDecidable _)
theorem relV_inj {v v':V}{u:Value} (h:RelV v u) (h':RelV v' u):v=v':=by
 cases v <;> cases v' <;> simp only[RelV]at h h' <;> first
  | rfl
  | (obtain⟨t,rfl⟩:=h;obtain⟨t',h'⟩:=h';injection h' with h' _;subst h';rfl)
  | (obtain⟨t,rfl⟩:=h;obtain⟨t',h'⟩:=h';cases h';done)
  | (subst h;cases h';rfl)
  | (subst h;obtain⟨t',h'⟩:=h';cases h')
  | (obtain⟨t,rfl⟩:=h;cases h')
theorem eqDv_of {H:Hp}{d e:Dt}{v:V}{u:Value} (r:RelV v u) (i:IsDt H e v):eqDv H d u=decide (e=d):=by
 unfold eqDv
 rw[Bool.eq_iff_iff]
 simp only[decide_eq_true_eq]
 constructor
 ·rintro⟨v',r',i'⟩
  rw[relV_inj r' r]at i'
  exact i.inj i'
 ·rintro rfl
  exact⟨v,r,i⟩
theorem mem_eqD {P:Program}{w:World}{H:Hp}{s:Shared}{A:Around}{d:Dt}{x:V}{v:Value}{n:Nat} (ok:HOk P w H s.heap) (hu:A.units+n<cLine) (rx:RelV x v) (ix:IsDt H d x) :
  ∀ {ds:List Dt}{xs:List V}{us:List Value},depL ds<=n->IsDts H ds xs->Vals xs us->(∀ u∈us,SeqAt.EqAt A s u v (eqDv H d u))/\us.map (eqDv H d)=ds.map fun e=>decide (e=d)
 | [],xs,us,hd,hi,r=>by
  rw[IsDts]at hi;subst hi;cases r
  exact⟨fun u hu=>(nomatch hu),rfl⟩
 | e::ds,xs,us,hd,hi,r=>by
  rw[IsDts]at hi
  obtain⟨y,ys,rfl,h1,h2⟩:=hi
  cases r with
  | cons r1 r2=>
   rw[depL]at hd
   obtain⟨m1,m2⟩:=mem_eqD ok hu rx ix (by lia) h2 r2
   have e1:=eqDv_of (d:=d) r1 h1
   refine⟨fun u hu'=>?_,by rw[List.map_cons,List.map_cons,e1,m2]⟩
   rcases List.mem_cons.mp hu' with rfl | hu'
   ·rw[e1];exact eqAt_D n A s e d y x _ v ok (by lia) hu h1 ix r1 rx
   ·exact m1 u hu'
theorem any_map_of {α:Type} {us:List α}{f:α->Bool}{ds:List Dt}{d:Dt} (h:us.map f=ds.map fun e=>decide (e=d)):us.any f=decide (d∈ds):=by
 have e1:us.any f=(us.map f).any id:=by simp
 have e2:(ds.map fun e=>decide (e=d)).any id=decide (d∈ds):=by
  rw[Bool.eq_iff_iff]
  simp
 rw[e1,h,e2]
def rInD (K:PySem.W.Frag) (neg:Bool):R2:=fun x y H Q=>∃ p xs d ds,y=.ref p/\SqL K H p xs/\IsDt H d x/\IsDts H ds xs/\depL ds<=depMax/\Q (.bl (if neg then !decide (d∈ds) else decide (d∈ds))) H
theorem op_inD (hu:X.A.units+110<cLine):OpR X (compareOp .In) (rInD X.K false):=by
 intro pins s σ H x y v u Q I rx ry h
 obtain⟨p,xs,d,ds,rfl,hq,ix,is,hd,q⟩:=h
 cases ry
 obtain⟨its,r,pl,hz⟩:=I.list hq
 obtain⟨m1,m2⟩:=mem_eqD (A:=X.A.in1) I.hok (by show X.A.units+1+depMax<cLine;unfold depMax;lia) rx ix hd is r
 refine SeqAt.in_listAt (eqDv H d) pl.isList (fun w hw=>m1 w (by simpa using hw)) ⟨.bl _,H,I,rfl,?_⟩
 rw[show its.toArray.any (eqDv H d)=its.any (eqDv H d) by simp,any_map_of m2]
 exact q
end
end L2
end
section
namespace L2
open PySem PySem.Spec PyProof.Rows
open Kn (KE cmpK kEl sLt)
def kv:KE->V
 | .i n=>.int n
 | .s x=>.str x
theorem eqAt_K {A:Around}{s:Shared}{a c:KE}{y x:Value} (ra:RelV (kv a) y) (rc:RelV (kv c) x):∃ e,SeqAt.EqAt A s y x e/\(e=true ↔ a=c):=by
 cases a with
 | i m=>
  obtain⟨t,rfl⟩:=ra
  cases c with
  | i n=>obtain⟨u,rfl⟩:=rc;exact⟨(m == n),SeqAt.EqAt.int_int m t n u,by simp⟩
  | s z=>obtain⟨u,rfl⟩:=rc;exact⟨false,SeqAt.EqAt.int_str m t z u,by simp⟩
 | s w=>
  obtain⟨t,rfl⟩:=ra
  cases c with
  | i n=>obtain⟨u,rfl⟩:=rc;exact⟨false,SeqAt.EqAt.str_int w t n u,by simp⟩
  | s z=>obtain⟨u,rfl⟩:=rc;exact⟨(w == z),SeqAt.EqAt.str_str w t z u,by simp⟩
theorem rcLt_K {A:Around}{s:Shared}{a c:KE}{y x:Value}{r:Bool} (ra:RelV (kv a) y) (rc:RelV (kv c) x) (h:kEl a c=some r) (prog:Program) (w:World) (E:Value->Shared->Prop) (Q:Value->Shared->Prop) (q:Q (.bool r) s) :
  wpAny (model prog w) A (richCompare .Lt y x) Q E s:=by
 cases a with
 | i m=>
  obtain⟨t,rfl⟩:=ra
  cases c with
  | i n=>
   obtain⟨u,rfl⟩:=rc
   cases h
   exact HT.rcLt_int A s m t n u prog w E Q q
  | s z=>cases h
 | s v=>
  obtain⟨t,rfl⟩:=ra
  cases c with
  | i n=>cases h
  | s z=>
   obtain⟨u,rfl⟩:=rc
   cases h
   exact (PyProof.Rows.lt_str q:wpAny (model prog w) A (compareOp .Lt (.str v t) (.str z u)) Q E s)
section
open PySem.SeqAt
open PySem.AutoSeq1 (wpAny_loadPart')
open PySem.MeetsSeq PySem.MeetsSeq2 PySem.MeetsSeq3
theorem tuple_ltK (l b:Addr) (items items2:Array Value) (n n2:Nat) (dd dd2:Option Addr) (sl sl2:Array (Option Value)) (ks js:List KE) (hi:Vals (ks.map kv) items.toList) (hj:Vals (js.map kv) items2.toList) (r:Bool) (hr:cmpK ks js=some r) :
  Meets (Builtin.«tuple.__lt__» ⟨[.ref l,.ref b],[]⟩)
   (fun _ R s=>s.heap.get? l=some { cls:=.type "tuple",dict:=dd,data:=.seq items n,slots:=sl }/\s.heap.get? b=some { cls:=.type "tuple",dict:=dd2,data:=.seq items2 n2,slots:=sl2 } /\
    R (.ok (.ret (.bool r))) s):=
 .of_wp fun prog w A R s h=>by
  obtain⟨hp,g,d,tk,os⟩:=s;obtain⟨hl,hb,h⟩:=h
  have f2:=AutoSeq1.sub_tuple_tuple
  have z1:items.size=ks.length:=by have:=hi.length;simpa using this.symm
  have z2:items2.size=js.length:=by have:=hj.length;simpa using this.symm
  wp_walk using wpAny_loadPart' hl,wpAny_loadPart' hb,wpAny_forIn_list _ (fun rest b s'=>b.1=none/\s'=⟨hp,g,d,tk,os⟩/\∃ (vs ws:List Value) (ks' js':List KE),rest=vs.zip ws /\
   Vals (ks'.map kv) vs/\Vals (js'.map kv) ws/\ks'.length+items2.size=js'.length+items.size/\cmpK ks' js'=some r) _
  case turn=>
   rintro⟨y,x⟩ rest b s' ⟨hb',rfl,vs,ws,ks',js',hz,hvi,hwi,hlen,hR⟩
   cases ks' with
   | nil=>cases hvi;rw[List.zip_nil_left]at hz;cases hz
   | cons a ks'=>
    cases js' with
    | nil=>cases hwi;rw[List.zip_nil_right]at hz;cases hz
    | cons c js'=>
     rw[List.map_cons]at hvi hwi
     cases hvi with
     | cons ra hvi'=>
      cases hwi with
      | cons rc hwi'=>
       rw[List.zip_cons_cons]at hz
       injection hz with hyx hrest
       injection hyx with hy hx
       subst hy hx
       rw[Kn.cmpK]at hR
       simp only[List.length_cons]at hlen
       obtain⟨e,he,hiff⟩:=eqAt_K (A:=A.in1) (s:=⟨hp,g,d,tk,os⟩) ra rc
       refine wpAny_bind (he prog w _ _ ?_)
       cases e with
       | true=>
        rw[if_pos (hiff.mp rfl)]at hR
        wp_walk
        exact⟨rfl,rfl,_,_,_,_,hrest,hvi',hwi',by lia,hR⟩
       | false=>
        rw[if_neg (fun q=>absurd (hiff.mpr q) Bool.false_ne_true)]at hR
        have hri:=rcLt_K (A:=A.in1) (s:=⟨hp,g,d,tk,os⟩) ra rc hR prog w
        wp_walk using hri
        exact⟨_,rfl,by simpa using h⟩
  case fin=>
   rintro⟨b1,b2⟩ s' ⟨hb',rfl,vs,ws,ks',js',hz,hvi,hwi,hlen,hR⟩
   simp only at hb'
   subst hb'
   have hv:r=decide (items.size<items2.size):=by
    cases ks' with
    | nil=>
     cases js' with
     | nil=>
      simp only[List.length_nil]at hlen
      cases hR
      exact (decide_eq_false (by lia)).symm
     | cons c js'=>
      simp only[List.length_nil,List.length_cons]at hlen
      cases hR
      exact (decide_eq_true (by lia)).symm
    | cons a ks'=>
     cases js' with
     | nil=>
      simp only[List.length_nil,List.length_cons]at hlen
      cases hR
      exact (decide_eq_false (by lia)).symm
     | cons c js'=>
      rw[List.map_cons]at hvi hwi
      cases hvi
      cases hwi
      rw[List.zip_cons_cons]at hz
      cases hz
   rw[hv]at h
   wp_walk
   exact⟨_,rfl,by simpa [Builtin.Tuple.tupleCompareSizes] using h⟩
  case h=>
   exact⟨rfl,rfl,items.toList,items2.toList,ks,js,rfl,hi,hj,by lia,hr⟩
end
section
variable {X:Cx}
def rLtK (K:PySem.W.Frag):R2:=fun x y H Q=>∃ a b ks js r,x=.ref a/\y=.ref b/\SqT K H a (ks.map kv)/\SqT K H b (js.map kv)/\cmpK ks js=some r/\Q (.bl r) H
theorem op_ltK (hu:X.A.units<cLine):OpR X (compareOp .Lt) (rLtK X.K):=by
 intro pins s σ H x y v u Q I rx ry h
 obtain⟨a,b,ks,js,r,rfl,rfl,ha,hb,hr,q⟩:=h
 cases rx
 cases ry
 obtain⟨its,r1,p1,_⟩:=I.tuple ha
 obtain⟨its2,r2,p2,_⟩:=I.tuple hb
 obtain⟨⟨cls,dd,data,sl⟩,ho,hc,n,hd⟩:=id p1
 obtain⟨⟨cls2,dd2,data2,sl2⟩,ho2,hc2,n2,hd2⟩:=id p2
 simp only at hc hd hc2 hd2
 subst hc hd hc2 hd2
 exact richCompare_meets_room (op:=.Lt) ⟨_,ho,rfl⟩ ⟨_,ho2,rfl⟩ PySem.F.slot_tuple_lt PySem.F.entry_tuple_lt (PySem.F.args_tuple_lt_2 _ _) (tuple_ltK a b its.toArray its2.toArray n n2 dd dd2 sl sl2 ks js (by simpa using r1) (by simpa using r2) r hr)
  ⟨ho,ho2,show Value.bool r≠Value.notImplemented/\EP X pins σ Q (.bool r) s from ⟨(fun x=>nomatch x),⟨.bl r,H,I,rfl,q⟩⟩⟩ hu
def rLtE:R2:=fun x y H Q=>∃ a c r,x=kv a/\y=kv c/\kEl a c=some r/\Q (.bl r) H
theorem op_ltE:OpR X (compareOp .Lt) rLtE:=by
 intro pins s σ H x y v u Q I rx ry h
 obtain⟨a,c,r,rfl,rfl,hr,q⟩:=h
 show wpAny (model X.prog X.w) X.A (richCompare .Lt v u) (EP X pins σ Q) X.xe s
 exact rcLt_K rx ry hr X.prog X.w _ _ ⟨.bl r,H,I,rfl,q⟩
def tRev (K:PySem.W.Frag) (te:TE):TE:=fun σ H Q=>te σ H fun x H1=>∃ a xs,x=.ref a/\SqL K H1 a xs/\∀ p,H1 p=none->Q (.ref p) (upd H1 p (.lst xs.reverse))
theorem pe_rev {e:Expr}{te:TE}{k:Nat}{p2 p3 p4 pos:Pos} (he:PE X e te):PE X (.Subscript e (.Slice none none (some (.UnaryOp .USub (.Constant (.int 1) k p3) p4)) p2) pos) (tRev X.K te):=by
 intro pins s σ H Q I h
 refine Subscript_ (thn (he pins s σ H _ I h) fun v s1 ⟨x,H1,I1,r1,q1⟩=>?_)
 obtain⟨a,xs,rfl,hx,q⟩:=q1
 cases r1
 refine wpAny_Slice ?_
 rw[evalPart_none]
 refine wpAny_pure (wpAny_pure ?_)
 rw[evalPart_some]
 refine thn (pe_un un_neg pe_int pins s1 σ H1 (fun y H2=>y=.int (-1)/\H2=H1) I1 ⟨1,rfl,rfl,rfl⟩) fun u s2 ⟨y,H2,I2,r2,e1,e2⟩=>?_
 subst e1 e2
 obtain⟨t,rfl⟩:=r2
 have I4:Inv X pins σ H2 { s2 with heap:=s2.heap.push { cls:=.type "slice",data:=.fields #[.none,.none,.int (-1) t] } }:=I2.kept (t':=s2.toks) fun b ob q=>Heap.get?_push_of_some _ q
 obtain⟨its,r,ht,hz⟩:=I4.list hx
 have hlen:=r.length
 refine tail_any (ops:=[.ref a,.ref s2.heap.objs.size]) (T:="list") ht.isList.typeIs slot_list_getitem.lookup ?_ (by with_unfolding_all rfl)
 refine wpAny_getItem_list_slice ht.isList (Heap.IsSliceOf.new ..) .none .none (.int (-1) t) (by simp) ?_ (by rw[List.size_toArray] <;> lia)
 rw[PySem.W.krv_pick]
 refine⟨.ref _,_,I4.laid (t':=s2.toks) (o:=.lst xs.reverse) (fun b ob q=>Heap.get?_push_of_some _ q) (Nat.le_refl _) ?_,rfl,q _ (I4.hok.fresh (Nat.le_refl _))⟩
 exact⟨by rw[List.length_reverse];exact hz,_,0,r.reverse,Heap.get?_push_size _ rfl⟩
def isiV (H:Hp) (x:V) (T:String) (b:Bool):Prop:=
 (T="tuple"/\((∃ i,x=.int i)/\b=false\/(∃ z,x=.str z)/\b=false\/(∃ a xs,x=.ref a/\H a=some (.tup xs))/\b=true))\/(T="bool"/\(∃ c,x=.bl c)/\b=true)
theorem call_isi:CallR X (.builtin "isinstance") (fun xs H Q=>∃ x T b,xs=[x,.ty T]/\isiV H x T b/\Q (.bl b) H):=by
 intro pins s σ H xs us Q I r h
 obtain⟨x,T,b,rfl,hi,q⟩:=h
 obtain⟨u,v,rfl,ru,rv⟩:=r.two
 cases rv
 rcases hi with ⟨rfl,⟨⟨i,rfl⟩,rfl⟩ | ⟨⟨z,rfl⟩,rfl⟩ | ⟨⟨a,ys,rfl,ha⟩,rfl⟩⟩ | ⟨rfl,⟨c,rfl⟩,rfl⟩
 ·obtain⟨t,rfl⟩:=ru
  exact IsiPair.int_tuple ⟨.bl false,H,I.tok _,rfl,q⟩
 ·obtain⟨t,rfl⟩:=ru
  exact IsiPair.str_tuple ⟨.bl false,H,I.tok _,rfl,q⟩
 ·cases ru
  obtain⟨hz,its,r',o,ho,hc,_⟩:=I.hok a _ ha
  exact IsiPair.tuple_tuple ho hc ⟨.bl true,H,I,rfl,q⟩
 ·cases ru
  exact IsiPair.bool_bool ⟨.bl true,H,I,rfl,q⟩
theorem pe_callV {CX:CXT}{k i:Nat}{f:Addr}{fd:FuncData}{ps:List Str}{sp:Sp}{dvs:List V}{ds:List Value}{E:XK}{x:Str}{p pos:Pos}{e:Expr}{es:List Expr}{t:TA}
  (F:FnOk X.prog X.w X.K X.mg X.base CX k f fd ps sp) (hr:Room k X.A) (hN:X.N[i]?=some x) (hv:Vis X.env.scope x) (hk:PySem.W.keepIn X.K (.ref f)=true) (hb:Binds X.K fd ps ds) (hd:Vals dvs ds) (hx:Passes CX X E)
  (ha:PA X (e::es) t) (hdb:(x == ("__debug__" : Str))=false:=by decide) (hcd:(x == ("__classdict__" : Str))=false:=by decide) (he:starEach (e::es) X.env=(false,eval e X.env)::starEach es X.env:=by rfl) (hpl:(backTo pos (starEach es X.env)).any (·.1)=false:=by rfl) :
  PE X (.Call (.Name x p) (e::es) [] pos) (fun σ H Q=>σ[i]?=some (some (.ref f))/\tCall sp dvs E t σ H Q):=by
 intro pins s σ H Q I h
 refine wpAny_Call_Name_kw (thn (pe_var hN hv hdb hcd pins s σ H (fun y H1=>y=.ref f/\H1=H) I ⟨_,h.1,rfl,rfl⟩) fun v s1 ⟨y,H1,I1,r1,e1,e2⟩=>?_)
 subst e1 e2
 cases r1
 refine PySem.W.callWith_K (h₀:=X.base) I1.ok.mod.kin hk (thn (ha pos pins s1 σ H1 _ I1 h.2) fun us s2 ⟨vs,H2,I2,r,q⟩=>⟨I2.kIn,?_⟩) he hpl
 exact run_fn F hr hb hd hx I2 r q
def rCatT' (K:PySem.W.Frag):R2:=fun x y H Q=>∃ a b xs ys,x=.ref a/\y=.ref b/\H a=some (.tup xs)/\H b=some (.tup ys)/\xs.length+ys.length<=sizeLine /\
 ∀ p H',(∀ c o,H c=some o->H' c=some o)->H' p=some (.tup (xs++ys))->Q (.ref p) H'
theorem op_catT':OpR X (binaryOp .Add) (rCatT' X.K):=by
 intro pins s σ H x y v u Q I rx ry h
 obtain⟨a,b,xs,ys,rfl,rfl,ha0,hb0,hz,q⟩:=h
 have ha:SqT X.K H a xs:=SqT.of ha0
 have hb:SqT X.K H b ys:=SqT.of hb0
 by_cases hx:xs=[]
 ·subst hx
  cases rx
  cases ry
  obtain⟨its,r1,p1,_⟩:=I.tuple ha
  obtain⟨its2,r2,p2,_⟩:=I.tuple hb
  cases r1
  obtain⟨⟨cls,dd,data,sl⟩,ho,hc,n,hd⟩:=id p1
  obtain⟨⟨cls2,dd2,data2,sl2⟩,ho2,hc2,n2,hd2⟩:=id p2
  simp only at hc hd hc2 hd2
  subst hc hd hc2 hd2
  exact concat_meets ⟨_,ho,rfl⟩ ⟨_,ho2,rfl⟩ noFill_tuple_add seq_tuple_add PySem.F.slot_tuple_add PySem.F.entry_tuple_add (PySem.F.args_tuple_add_2 _ _)
   (tuple_addW0 a b _ its2.toArray n n2 dd dd2 sl sl2 (by simp)) ⟨ho,ho2,⟨.ref b,H,I,rfl,q b H (fun _ _ z=>z) hb0⟩⟩
 ·exact op_catT pins s σ H _ _ v u Q I rx ry ⟨a,b,xs,ys,rfl,rfl,ha,hb,hx,hz,fun e=>q a H (fun _ _ z=>z) (by subst e;rw[List.append_nil];exact ha0),fun e p hp=>q p _ (fun c o z=>by rw[upd_ne (ne_of_none z hp)];exact z) upd_same⟩
end
end L2
end
section
namespace L2
open PySem PySem.Spec PyProof.Rows
open PySem.W (kdu_collect kdl_dict)
section
variable {X:Cx}
end
section
variable {X:Cx}
theorem op_plus:OpR X (binaryOp .Add) (fun x y H Q=>rI0 (fun i j=>.int (i+j)) x y H Q\/((∃ i j,x=.str i/\y=.str j/\i.length+j.length<=sizeLine/\Q (.str (i++j)) H)\/(rCat x y H Q\/rCatT' X.K x y H Q))):=op_add.or (op_add_str.or (op_cat.or op_catT'))
theorem op_ltU (hu:X.A.units<cLine):OpR X (compareOp .Lt) (fun x y H Q=>rI0 (fun i j=>.bl (decide (i<j))) x y H Q\/(rLtE x y H Q\/rLtK X.K x y H Q)):=op_lt.or (op_ltE.or (op_ltK hu))
theorem op_eqU (hu:X.A.units+110<cLine):OpR X (compareOp .Eq) (fun x y H Q=>rEq x y H Q\/rEqD x y H Q):=op_eq.or (op_eqD hu)
def rNeL:R2:=fun x y H Q=>∃ a b xs,x=.ref a/\y=.ref b/\H a=some (.lst xs)/\H b=some (.lst [])/\Q (.bl (decide (xs≠[]))) H
theorem op_neL (hu:X.A.units<cLine):OpR X (compareOp .NotEq) rNeL:=by
 intro pins s σ H x y v u Q I rx ry h
 obtain⟨a,b,xs,rfl,rfl,ha,hb,q⟩:=h
 cases rx
 cases ry
 obtain⟨its,r,p,_⟩:=I.list (SqL.of ha)
 obtain⟨its2,r2,p2,_⟩:=I.list (SqL.of hb)
 cases r2
 by_cases hx:xs=[]
 ·subst hx
  cases r
  refine SeqAt.RcNeAt.lists (A:=X.A) (e:=fun _=>true) p.isList p2.isList rfl hu (fun j h1=>by simp at h1) _ _ _ _ ⟨.bl false,H,I,rfl,?_⟩
  simpa using q
 ·refine SeqAt.RcNeAt.lists_lengths (A:=X.A) p.isList p2.isList ?_ hu _ _ _ _ ⟨.bl true,H,I,rfl,?_⟩
  ·have:=r.length
   have h0:its≠[]:=fun z=>hx (by subst z;cases xs with | nil=>rfl | cons _ _=>simp at this)
   cases its with
   | nil=>exact absurd rfl h0
   | cons _ _=>simp
  ·rw[decide_eq_true hx]at q
   exact q
theorem op_neU (hu:X.A.units+110<cLine):OpR X (compareOp .NotEq) (fun x y H Q=>rNe x y H Q\/((∃ ds es,IsDt H (.tup ds) x/\IsDt H (.tup es) y/\depL ds<=depMax/\Q (.bl (!decide (ds=es))) H)\/rNeL x y H Q)):=op_ne.or ((op_neD hu).or (op_neL (by lia)))
theorem op_inU (hu:X.A.units+110<cLine):OpR X (compareOp .In) (fun x y H Q=>rIn X.K false x y H Q\/rInD X.K false x y H Q):=op_in_seq.or (op_inD hu)
theorem call_lenU:CallR X (.builtin "len") (fun xs H Q=>(∃ p ys,xs=[.ref p]/\(SqL X.K H p ys\/SqT X.K H p ys)/\Q (.int ys.length) H)\/∃ z,xs=[.str z]/\z.length<=sizeLine/\Q (.int z.length) H):=call_len_seq.or call_len_str
def rIxD:R2:=fun x y H Q=>∃ a v,x=.ref a/\DGet H a y (some v)/\Q v H
theorem ix_dict (hu:X.A.units+1<cLine):IxR X rIxD:=by
 intro value slice pins s σ H x y v u Q I rx ry h hs
 obtain⟨a,w,rfl,g,q⟩:=h
 cases rx
 exact tail_any (ops:=[.ref a,u]) (dict_typeIs I g) PySem.F.slot_dict_getitem.lookup (d_getItem hu I g ry fun w' s3 I3 rw'=>⟨w,H,I3,rw',q⟩) hs
theorem ix_U (hu:X.A.units+1<cLine):IxR X (fun x y H Q=>rIxL X.K x y H Q\/(rIxT X.K x y H Q\/(rIxS x y H Q\/rIxD x y H Q))):=ix_list.or (ix_tup.or (ix_str.or (ix_dict hu)))
def rSetD:TSet:=fun o i v H Q=>∃ a H',o=.ref a/\DPut H a i v H'/\Q H'
theorem set_dict (hu:X.A.units+1<cLine):PSet X rSetD:=by
 intro pins s σ H o i v ov iv u Q I ro ri rv h
 obtain⟨a,H',rfl,g,q⟩:=h
 cases ro
 exact d_setItem hu I g ri rv fun s4 I4=>⟨H',I4,q⟩
theorem PSet.or {r r':TSet} (h:PSet X r) (h':PSet X r'):PSet X (fun o i v H Q=>r o i v H Q\/r' o i v H Q):=by
 intro pins s σ H o i v ov iv u Q I ro ri rv q
 rcases q with q | q
 ·exact h pins s σ H o i v ov iv u Q I ro ri rv q
 ·exact h' pins s σ H o i v ov iv u Q I ro ri rv q
theorem set_U (hu:X.A.units+1<cLine):PSet X (fun o i v H Q=>rSetL o i v H Q\/rSetD o i v H Q):=set_list.or (set_dict hu)
theorem pi_U {tg l:Expr}{tl:TE} (hl:PE X l tl):PI X tg l (fun σ H R=>iList X.K tl σ H R\/iTup X.K tl σ H R):=by
 intro pins s σ H R I h
 rcases h with h | h
 ·exact pi_list hl pins s σ H R I h
 ·exact pi_tup hl pins s σ H R I h
end
end L2
end
section
namespace L2
open PySem PySem.Spec PyProof.Rows
structure ZC where
 cl:List (Str×Addr)
 C:Addr
 fp:List Addr
 s:Shared
 H:Hp
def cxC (X:Cx) (scope:Scope) (N':List Str) (z:ZC):Cx where
 prog:=X.prog
 w:=X.w
 K:=X.K
 mg:=X.mg
 base:=X.base
 A:=X.A
 N:=N'
 s₀:=z.s
 H₀:=z.H
 env:=compEnvC scope z.cl z.C X.env
 outer:=X.stack
 stack:=X.stack
 ex:=z.fp
 fn:=fun _=>false
 calm:=X.calm
 pn:=[]
 xe:=fun _ _=>False
theorem clos_loop {env:Env}:∀ (names:List (Str×NameKind)) (acc:List (Str×Addr)),(∀ y∈names,y.2=.free->∃ c,env.cells.lookup y.1=some c) ->
  (∀ x c,acc.lookup x=some c->env.cells.lookup x=some c) ->
  ∃ cl,(forIn names acc (fun y cs=>if (y.2 == NameKind.free)=true then (cellOf env y.1 >>= fun c=>pure (ForInStep.yield ((y.1,c)::cs))) else pure (ForInStep.yield cs)):Sem (List (Str×Addr)))=pure cl /\
   (∀ x c,cl.lookup x=some c->env.cells.lookup x=some c)/\(∀ y∈names,y.2=.free->∃ c,cl.lookup y.1=some c)/\∀ x c,acc.lookup x=some c->∃ c',cl.lookup x=some c'
 | [],acc,_,ha=>⟨acc,rfl,ha,fun y hy=>(nomatch hy),fun x c h=>⟨c,h⟩⟩
 | (n,k)::r,acc,h,ha=>by
  by_cases hk:k=.free
  ·subst hk
   obtain⟨c,hc⟩:=h (n,.free) List.mem_cons_self rfl
   have hac:∀ x c',((n,c)::acc).lookup x=some c'->env.cells.lookup x=some c':=fun x c' q=>by
    rw[List.lookup_cons]at q
    cases e:x == n with
    | true=>
     rw[e]at q
     cases q
     rw[eq_of_beq e]
     exact hc
    | false=>
     rw[e]at q
     exact ha x c' q
   obtain⟨cl,e1,e2,e3,e4⟩:=clos_loop r ((n,c)::acc) (fun y hy=>h y (List.mem_cons_of_mem _ hy)) hac
   refine⟨cl,?_,e2,fun y hy hf=>?_,fun x c' q=>?_⟩
   ·rw[List.forIn_cons]
    have ec:cellOf env n=pure c:=by unfold cellOf;rw[hc]
    simp only[beq_self_eq_true,if_true,ec,pure_bind]
    exact e1
   ·rcases List.mem_cons.mp hy with rfl | hy
    ·exact e4 n c (by simp)
    ·exact e3 y hy hf
   ·cases e:x == n with
    | true=>exact e4 x c (by rw[List.lookup_cons,e])
    | false=>exact e4 x c' (by rw[List.lookup_cons,e];exact q)
  ·obtain⟨cl,e1,e2,e3,e4⟩:=clos_loop r acc (fun y hy=>h y (List.mem_cons_of_mem _ hy)) ha
   refine⟨cl,?_,e2,fun y hy hf=>?_,e4⟩
   ·rw[List.forIn_cons]
    have hb:(k == NameKind.free)=false:=by simpa using hk
    simp only[hb,Bool.false_eq_true,if_false,pure_bind]
    exact e1
   ·rcases List.mem_cons.mp hy with rfl | hy
    ·exact absurd hf hk
    ·exact e3 y hy hf
theorem clos_of {scope:Scope}{env:Env} (h:∀ y∈scope.names,y.2=.free->∃ c,env.cells.lookup y.1=some c) :
  ∃ cl,closureFor scope env=pure cl/\(∀ x c,cl.lookup x=some c->env.cells.lookup x=some c)/\∀ y∈scope.names,y.2=.free->∃ c,cl.lookup y.1=some c:=by
 obtain⟨cl,e1,e2,e3,_⟩:=clos_loop (env:=env) scope.names [] h (fun x c q=>by simp at q)
 refine⟨cl,?_,e2,e3⟩
 unfold closureFor
 first
  | exact e1
  | (simp only[bind_pure_comp,map_pure,bind_pure]at e1 ⊢;exact e1)
  | (rw[show (forIn scope.names [] _:Sem (List (Str×Addr)))=pure cl from e1];rfl)
theorem rel_free {env:Env}:∀ {names:List (Str×NameKind)}{x:Str},names.lookup x=some .free ->
  let l:=(names.map fun (n,k)=>if (k == NameKind.free && env.scope.kind == .function && env.kindOf n == some .cell) then (n,NameKind.cell) else (n,k)).lookup x
  l=some .cell\/l=some .free
 | [],_,h=>by simp at h
 | (n,k)::r,x,h=>by
  have ih:=@rel_free env r x
  simp only at ih ⊢
  rw[List.map_cons]
  cases hx:x == n with
  | true=>
   rw[List.lookup_cons,hx]at h
   cases h
   by_cases hc:(NameKind.free == NameKind.free && env.scope.kind == .function && env.kindOf n == some .cell)=true
   ·left
    simp only[hc,if_true,List.lookup_cons,hx]
   ·right
    simp only[if_neg hc,List.lookup_cons,hx]
  | false=>
   rw[List.lookup_cons,hx]at h
   by_cases hc:(k == NameKind.free && env.scope.kind == .function && env.kindOf n == some .cell)=true
   ·simp only[if_pos hc,List.lookup_cons,hx];exact ih h
   ·simp only[if_neg hc,List.lookup_cons,hx];exact ih h
theorem rel_back {env:Env}:∀ {names:List (Str×NameKind)}{x:Str}{k':NameKind},(∀ y∈names,y.2≠.cell)->(k'=.cell\/k'=.free) ->
  (names.map fun (n,k)=>if (k == NameKind.free && env.scope.kind == .function && env.kindOf n == some .cell) then (n,NameKind.cell) else (n,k)).lookup x=some k'->(x,NameKind.free)∈names
 | [],_,_,_,_,h=>by simp at h
 | (n,k)::r,x,k',hn,hk,h=>by
  rw[List.map_cons]at h
  cases hx:x == n with
  | true=>
   have e:x=n:=eq_of_beq hx
   subst e
   by_cases hc:(k == NameKind.free && env.scope.kind == .function && env.kindOf x == some .cell)=true
   ·have hf:k=.free:=by
     simp only[Bool.and_eq_true,beq_iff_eq]at hc
     exact hc.1.1
    subst hf
    exact List.mem_cons_self
   ·simp only[if_neg hc,List.lookup_cons,hx]at h
    have e2:k=k':=Option.some.inj h
    subst e2
    rcases hk with rfl | rfl
    ·exact absurd rfl (hn _ List.mem_cons_self)
    ·exact List.mem_cons_self
  | false=>
   have ih:=@rel_back env r x k' (fun y hy=>hn y (List.mem_cons_of_mem _ hy)) hk
   by_cases hc:(k == NameKind.free && env.scope.kind == .function && env.kindOf n == some .cell)=true
   ·simp only[if_pos hc,List.lookup_cons,hx]at h
    exact List.mem_cons_of_mem _ (ih h)
   ·simp only[if_neg hc,List.lookup_cons,hx]at h
    exact List.mem_cons_of_mem _ (ih h)
theorem comp_loop {prog:Program}{w:World}{A:Around}{s:Shared}{elt tg iter:Expr}{ifs:List Expr}{scope:Scope}{pos:Pos}{it acc:Value}{env:Env}{P:Shared->Prop}{R:Result->Shared->Prop}
  (hR:∀ s',P s'->R (.ok .next) s') (J:Nat->Shared->Prop)
  (turn:∀ n s,J n s->wpAny (model prog w) A (pyNext it) (fun r s1=>match r with
   | none=>P s1
   | some v=>wpAny (model prog w) A (letOwnedTupleGo tg it v) (fun _ s2=>wpAny (model prog w) A (assign tg env v) (fun _ s3=>
     wpAny (model prog w) A (forIn ifs true fun c r=>if r=true then do let ok <- isTrue c env (eval c env);pure (ForInStep.yield ok) else pure (ForInStep.yield r)) (fun ok s4=>
      if ok=true then wpAny (model prog w) A (eval elt env) (fun x s5=>
       wpAny (model prog w) A (call (.builtin "list.append") [acc,x]) (fun _ s6=>∃ m,m<n/\J m s6) (fun _ _=>False) s5) (fun _ _=>False) s4
      else ∃ m,m<n/\J m s4) (fun _ _=>False) s3) (fun _ _=>False) s2) (fun _ _=>False) s1) (fun _ _=>False) s)
  (n:Nat) (h:J n s):codeAny (model prog w) A (.compLoop (.ListComp elt [⟨tg,iter,ifs,0⟩] scope pos) 0 it acc env) R s:=by
 refine codeAny_loop rfl J (fun n s hJ=>?_) n h
 show wpAny _ A ((compTurn (.ListComp elt [⟨tg,iter,ifs,0⟩] scope pos) 0 it acc env).onRaise (fun x=>do noteFrame x env;theTreesLotGoes x)) _ _ s
 refine wpAny_noted (wpAny_mono (E:=fun _ _=>False) ?_ (fun _ _ q=>q) fun _ _ q=>q.elim)
 rw[compTurn_list]
 refine wpAny_bind (wpAny_standAt (wpAny_bind (thn (turn n s hJ) fun r s1 h1=>?_)))
 cases r with
 | none=>exact wpAny_pure (hR _ h1)
 | some v=>
  refine wpAny_bind (thn h1 fun _ s2 h2=>wpAny_bind (thn h2 fun _ s3 h3=>wpAny_bind (thn h3 fun ok s4 h4=>?_)))
  cases ok with
  | false=>exact wpAny_pure ⟨rfl,h4⟩
  | true=>exact wpAny_bind (wpAny_bind (thn h4 fun x s5 h5=>wpAny_bind (thn h5 fun _ s6 h6=>wpAny_pure (wpAny_pure ⟨rfl,h6⟩))))
def PIfs (X:Cx) (ifs:List Expr) (t:TT):Prop:=
 ∀ (pins:List (Addr×Obj)) (s:Shared) (σ:St) (H:Hp) (Q:Bool->Hp->Prop),Inv X pins σ H s->t σ H Q ->
  wpAny (model X.prog X.w) X.A (forIn ifs true fun c r=>if r=true then do let ok <- isTrue c X.env (eval c X.env);pure (ForInStep.yield ok) else pure (ForInStep.yield r)) (TP X pins σ Q) X.xe s
def tAll:TT:=fun _ H Q=>Q true H
theorem pif_nil {X:Cx}:PIfs X [] tAll:=fun pins s σ H Q I h=>wpAny_tests_nil ⟨H,I,h⟩
theorem pif_one {X:Cx}{c:Expr}{t:TT} (h:PT X c t):PIfs X [c] t:=fun pins s σ H Q I q=>wpAny_tests_one (h pins s σ H Q I q)
def sigC (k:Nat) (fr:List (Str×Nat)) (σ:St):St:=List.replicate k none++fr.map fun p=>(σ[p.2]?).join
def Tgt (k:Nat) (g:TG):Prop:=∀ x σ H Q,g x σ H Q->g x σ H fun σ2 H2=>Q σ2 H2/\σ2.length=σ.length/\σ2.drop k=σ.drop k
theorem tgt_name {i k:Nat} (h:i<k):Tgt k (gName i):=fun x σ H Q q=>⟨q,by simp,by rw[List.drop_set_of_lt h]⟩
theorem tgt_two {K:PySem.W.Frag}{i j k:Nat} (hi:i<k) (hj:j<k):Tgt k (gTup K 2 (gCons (gName i) (gCons (gName j) gNil))):=fun x σ H Q q=>by
 obtain⟨a,xs,e1,e2,e3,v,r,e4,v2,r2,e5,e6,q⟩:=q
 exact⟨a,xs,e1,e2,e3,v,r,e4,v2,r2,e5,e6,q,by simp,by rw[List.drop_set_of_lt hj,List.drop_set_of_lt hi]⟩
def lcStep (J:It) (k:Nat) (fr:List (Str×Nat)) (g:ZC->TG) (tc:ZC->TT) (te:ZC->TE) (σ:St) (W:Nat->Nat->List V->Hp->Prop) (fin:List V->Hp->Prop):Prop:=
 ∀ i m ys H,W i m ys H->ys.length<sizeLine/\((J.stop i H/\fin ys H)\/(J.go i H/\∀ (z:ZC) x H1,J.yld i H x H1->g z x (sigC k fr σ) H1 fun σ2 H2=>tc z σ2 H2 fun b H3=>
  if b=true then te z σ2 H3 fun y H4=>∃ m',m'<m/\W (i+1) m' (ys++[y]) H4 else ∃ m',m'<m/\W (i+1) m' ys H3))
def tLC (wi:TI) (k:Nat) (fr:List (Str×Nat)) (g:ZC->TG) (tc:ZC->TT) (te:ZC->TE):TE:=fun σ H Q=>wi σ H fun J H1=>
 ∃ W:Nat->Nat->List V->Hp->Prop,(∃ m,W 0 m [] H1)/\lcStep J k fr g tc te σ W fun ys H2=>∀ p,H2 p=none->Q (.ref p) (upd H2 p (.lst ys))
section
variable {X:Cx}{tg elt iter:Expr}{ifs:List Expr}{scope:Scope}{pos:Pos}{k:Nat}{Nt:List Str}{fr:List (Str×Nat)}{g:ZC->TG}{tc:ZC->TT}{te:ZC->TE}
structure LcOk (X:Cx) (scope:Scope) (Nt:List Str) (fr:List (Str×Nat)):Prop where
 kind:scope.kind=.function
 cell:∀ y∈scope.names,y.2≠.cell
 names:∀ y∈scope.names,y.2=.local->scope.names.lookup y.1=some .local
 free:∀ y∈scope.names,y.2=.free->X.env.kindOf y.1=some .cell
 fr:∀ p∈fr,X.N[p.2]?=some p.1/\scope.names.lookup p.1=some .free
theorem lc_start {pins:List (Addr×Obj)} {σ:St} {H:Hp}{s2:Shared}{cl:List (Str×Addr)}{fp:List Addr}{h1:Heap}{t1:Nat}{C D:Addr}{m:Str->Option Value} (L:LcOk X scope Nt fr) (I:Inv X pins σ H s2)
  (hcl:∀ x c,cl.lookup x=some c->X.env.cells.lookup x=some c) (hcl2:∀ y∈scope.names,y.2=.free->∃ c,cl.lookup y.1=some c) (hf:∀ b∈fp,FpOk X pins H b) (hlt:∀ b∈fp,b<s2.heap.objs.size)
  (hC:s2.heap.objs.size<=C) (hD:s2.heap.objs.size<=D) (hCD:D≠C) (old:∀ b o,s2.heap.get? b=some o->h1.get? b=some o) (hn:h1.Ns C m) (ho:h1.get? D=some { cls:=.type "list",data:=.seq #[] 0 }) :
  Inv (cxC X scope (Nt++fr.map (·.1)) ⟨cl,C,fp,s2,H⟩) [(D,{ cls:=.type "list",data:=.seq #[] 0 })] (sigC Nt.length fr σ) H { s2 with heap:=h1,toks:=t1 }:=by
 have hstk:∀ b∈frs X.stack,b<s2.heap.objs.size:=fun b hb=>by
  rcases List.mem_cons.mp (I.stkSub b hb) with e | e
  ·rw[e];exact I.lt
  ·exact Nat.lt_of_not_le fun z=>I.nofs z e
 have cdn:∀ x c,cl.lookup x=some c->c<s2.heap.objs.size:=fun x c e=>by
  obtain⟨v,q⟩:=I.cell x c (hcl x c e)
  exact q.lt
 refine⟨⟨I.mod,L.kind,I.ok.glob,I.ok.blt,hC,fun x y c e1 e2=>I.ok.inj x y c (hcl _ _ e1) (hcl _ _ e2),fun x hx=>?_,fun x c hf' _=>(nomatch hf'),I.ok.hd,I.ok.frames,.inl rfl,fun b hb=>⟨Nat.ne_of_lt (Nat.lt_of_lt_of_le (hlt b hb) hC),fun x c e=>(hf b hb).2.2.2.2.1 x c (hcl x c e)⟩,
   I.bs,Nat.le_trans I.ok.bsz I.sz,fun b o e hb=>?_,fun b hb z=>?_,I.stack,I.stkFree⟩,
  rfl,I.bare,Un.kept old,⟨m,hn,fun i x v h1' h2 h3=>?_⟩,fun x c e=>?_,I.hok.fresh hC,fun x c e=>I.freeC x c (hcl x c e),fun p hp=>?_,I.hok.kept old,?_⟩
 ·have hx':((relabel scope X.env).names.lookup x=some .cell\/(relabel scope X.env).names.lookup x=some .free):=hx
  rcases hx' with q | q
  ·exact hcl2 _ (rel_back L.cell (.inl rfl) q) rfl
  ·exact hcl2 _ (rel_back L.cell (.inr rfl) q) rfl
 ·rcases (hf b hb).2.2.2.1 with q | q
  ·exact I.ok.noex b o e q
  ·exact absurd (Nat.lt_of_lt_of_le (Heap.lt_size e) (Nat.le_trans I.ok.bsz q)) (Nat.lt_irrefl _)
 ·rcases List.mem_cons.mp (I.stkSub b z) with e | e
  ·exact (hf b hb).2.1 e
  ·exact (hf b hb).2.2.1 e
 ·have h1'':(Nt++fr.map (·.1))[i]?=some x:=h1'
  have hi:¬i<Nt.length:=fun hi=>by
   unfold sigC at h2
   rw[List.getElem?_append_left (by simpa using hi),List.getElem?_replicate]at h2
   split at h2 <;> cases h2
  unfold sigC at h2
  rw[List.getElem?_append_right (by simpa using hi),List.length_replicate,List.getElem?_map]at h2
  rw[List.getElem?_append_right (by lia),List.getElem?_map]at h1''
  cases e:fr[i-Nt.length]? with
  | none=>rw[e]at h2;cases h2
  | some p=>
   rw[e]at h2 h1''
   have ex:p.1=x:=Option.some.inj h1''
   have ev:(σ[p.2]?).join=some v:=Option.some.inj h2
   obtain⟨hN,hfr⟩:=L.fr p (List.mem_of_getElem? e)
   have es:σ[p.2]?=some (some v):=by
    cases q:σ[p.2]? with
    | none=>rw[q]at ev;cases ev
    | some o=>rw[q]at ev;exact congrArg some ev
   have hkc:=L.free (p.1,.free) (PySem.mem_of_lookup hfr) rfl
   obtain⟨mo,hmo,hloc⟩:=I.loc
   obtain⟨u,ru,lk⟩:=hloc p.2 p.1 v hN es (.inr (.inl hkc))
   refine⟨u,ru,?_⟩
   rcases lk with ⟨kk,_⟩ | ⟨_,c,hc,hcell⟩
   ·rw[hkc]at kk;cases kk
   ·obtain⟨c',hc'⟩:=hcl2 _ (PySem.mem_of_lookup hfr) rfl
    have hcc:=hcl _ _ hc'
    rw[hc]at hcc
    cases hcc
    subst ex
    refine .inr ⟨?_,c,hc',?_⟩
    ·exact rel_free hfr
    ·obtain⟨o,q1,q2⟩:=hcell
     exact⟨o,old _ _ q1,q2⟩
 ·obtain⟨v,q⟩:=I.cell x c (hcl x c e)
  obtain⟨o,q1,q2⟩:=q
  exact⟨v,o,old _ _ q1,q2⟩
 ·have hp':p∈([(D,({ cls:=.type "list",data:=.seq #[] 0 }:Obj))]:List (Addr×Obj)):=hp
  rw[List.mem_singleton]at hp'
  subst hp'
  exact⟨ho,I.hok.fresh hD,hCD,fun z=>absurd (Nat.lt_of_lt_of_le (hstk _ z) hD) (Nat.lt_irrefl _),fun v z=>by cases z⟩
 ·unfold sigC
  show _=(Nt++fr.map (·.1)).length
  simp
structure LcEnd (X:Cx) (fp:List Addr) (H1:Hp) (s2:Shared) (fin:List V->Hp->Prop) (D C:Addr) (s':Shared) (ys:List V) (its:List Value) (n:Nat) (H':Hp) (m':Str->Option Value):Prop where
 ns:s'.heap.Ns C m'
 fc:H' C=none
 fd:H' D=none
 gc:s2.heap.objs.size<=C
 gd:s2.heap.objs.size<=D
 cd:D≠C
 un:Un (frs X.stack) fp H1 H' s2.heap s'.heap
 ok:HOk X.prog X.w H' s'.heap
 os:s'.os=s2.os
 bare:AllBare s'.gens
 obj:s'.heap.get? D=some { cls:=.type "list",data:=.seq its.toArray n }
 vals:Vals ys its
 size:ys.length<=sizeLine
 fin:fin ys H'
theorem lc_close {pins:List (Addr×Obj)} {σ:St} {fp:List Addr}{H1 H':Hp}{s2 s':Shared}{fin:List V->Hp->Prop}{D C:Addr}{ys:List V}{its:List Value}{n:Nat}{m':Str->Option Value}{h':Heap}
  (I:Inv X pins σ H1 s2) (hf:∀ b∈fp,FpOk X pins H1 b) (e:LcEnd X fp H1 s2 fin D C s' ys its n H' m') (sb:Heap.SameBut C s'.heap h'):Inv X pins σ (upd H' D (.lst ys)) { s' with heap:=h' }:=by
 have old:∀ b o,s2.heap.get? b=some o->b≠C/\b≠D:=fun b o q=>⟨Nat.ne_of_lt (Nat.lt_of_lt_of_le (Heap.lt_size q) e.gc),Nat.ne_of_lt (Nat.lt_of_lt_of_le (Heap.lt_size q) e.gd)⟩
 have at':∀ b,b≠C->h'.get? b=s'.heap.get? b:=fun b hb=>sb.2 b hb
 refine I.call' (s':={ s' with heap:=h' }) (ch:=fp) e.os ?_ ?_ e.bare fun b hb=>⟨(hf b hb).2.2.2.1,(hf b hb).2.1,(hf b hb).2.2.2.2.1,(hf b hb).2.2.2.2.2⟩
 ·have u:=e.un
  refine⟨fun b o q n hb hx=>?_,fun b o q n hb hx=>?_,fun b o q n hx=>?_,fun b o q hx=>?_,fun b xs q=>?_,fun b o v q=>?_,fun b ps q=>?_⟩
  ·exact (at' b (old b o q).1).trans (u.keep b o q n hb hx)
  ·obtain⟨sl,z⟩:=u.slot b o q n hb hx
   exact⟨sl,(at' b (old b o q).1).trans z⟩
  ·rw[upd_ne (old b o q).2]
   exact u.free b o q n hx
  ·obtain⟨o',z⟩:=u.there b o q hx
   exact⟨o',(at' b (old b o q).1).trans z⟩
  ·have z:=u.tups b xs q
   rw[upd_ne (ne_of_none z e.fd)]
   exact z
  ·have z:=u.frzs b o v q
   rw[upd_ne (ne_of_none z e.fd)]
   exact z
  ·obtain⟨more,z⟩:=u.tbls b ps q
   refine⟨more,?_⟩
   rw[upd_ne (ne_of_none z e.fd)]
   exact z
 ·intro b o q
  by_cases hb:b=D
  ·subst hb
   rw[upd_same]at q
   cases q
   exact⟨e.size,its,n,e.vals,(at' _ e.cd).trans e.obj⟩
  ·rw[upd_ne hb]at q
   refine (e.ok b o q).stay (fun c v hc z=>?_) (fun c z=>?_) fun c xs z=>?_
   ·have hcC:c≠C:=by
     rcases hc with rfl | hc
     ·exact ne_of_none q e.fc
     ·exact ne_of_none hc e.fc
    exact (at' c hcC).trans z
   ·rw[upd_ne (ne_of_none z e.fd)]
    exact z
   ·rw[upd_ne (ne_of_none z e.fd)]
    exact z
theorem lc_block {pins:List (Addr×Obj)} {σ:St} {H1:Hp}{s2:Shared}{cl:List (Str×Addr)}{fp:List Addr}{it:Addr}{tn:Nat->Heap->Prop}{J:It}{W:Nat->Nat->List V->Hp->Prop}{fin:List V->Hp->Prop}{E:Value->Shared->Prop}{RR:Value->Addr->Result->Shared->Prop}{m0:Nat}
  (L:LcOk X scope Nt fr) (hcalm:X.calm=true) (I:Inv X pins σ H1 s2) (hcl:∀ x c,cl.lookup x=some c->X.env.cells.lookup x=some c) (hcl2:∀ y∈scope.names,y.2=.free->∃ c,cl.lookup y.1=some c)
  (T:Turn X.prog X.w X.K tg J fp it tn) (st0:tn 0 s2.heap) (hf:∀ b∈fp,FpOk X pins H1 b)
  (hg:∀ z,PG (cxC X scope (Nt++fr.map (·.1)) z) tg (g z)) (hgt:∀ z,Tgt Nt.length (g z)) (hc:∀ z,PIfs (cxC X scope (Nt++fr.map (·.1)) z) ifs (tc z)) (he:∀ z,PE (cxC X scope (Nt++fr.map (·.1)) z) elt (te z))
  (w0:W 0 m0 [] H1) (step:lcStep J Nt.length fr g tc te σ W fin)
  (hRR:∀ D C s' ys its n H' m',LcEnd X fp H1 s2 fin D C s' ys its n H' m'->RR (.ref D) C (.ok .next) s') :
  wpAny (model X.prog X.w) X.A (newList []) (fun acc s3=>wpAny (model X.prog X.w) X.A (newFunctionEnv scope X.env.globals cl [] X.env.qual none .none (some X.env)) (fun cenv s4=>
   codeAny (model X.prog X.w) X.A (.compStart (.ListComp elt [⟨tg,iter,ifs,0⟩] scope pos) 0 (.ref it) acc { cenv with scope:=relabel scope X.env }) (RR acc cenv.locals) s4) E s3) E s2:=by
 refine wpAny_newObj_type (wpAny_newFunctionEnv L.cell (by intro y hy;simp at hy) (fun h1 hns hsb=>?_) L.kind)
 dsimp only at hns hsb ⊢
 generalize hH2:s2.heap.push { cls:=.type "list",dict:=none,data:=.seq ([]:List Value).toArray }=G at hns hsb ⊢
 have hC:G.objs.size=s2.heap.objs.size+1:=by rw[<- hH2,Heap.size_push]
 have hlt:∀ b∈fp,b<s2.heap.objs.size:=fun b hb=>by
  obtain⟨o,q,_⟩:=T.obj 0 _ st0 b hb
  exact Heap.lt_size q
 have old:∀ b o,s2.heap.get? b=some o->h1.get? b=some o:=fun b o q=>
  hsb.extBut b o (by rw[hC];exact Nat.ne_of_lt (Nat.lt_succ_of_lt (Heap.lt_size q))) (Heap.get?_push_of_some _ (hH2 ▸ Heap.get?_push_of_some _ q))
 have hDC:s2.heap.objs.size≠G.objs.size:=by rw[hC];exact Nat.ne_of_lt (Nat.lt_succ_self _)
 have hacc:h1.get? s2.heap.objs.size=some { cls:=.type "list",data:=.seq #[] 0 }:=hsb.extBut _ _ hDC (Heap.get?_push_of_some _ (hH2 ▸ Heap.get?_push_size _ rfl))
 have hgC:s2.heap.objs.size<=G.objs.size:=by rw[hC];exact Nat.le_succ _
 have I0:=lc_start (t1:=s2.toks+([]:List (Str×Value)).length) (C:=G.objs.size) (D:=s2.heap.objs.size) L I hcl hcl2 hf hlt hgC (Nat.le_refl _) hDC old hns hacc
 have st1:tn 0 h1:=T.keep 0 _ _ st0 fun b _ o q=>old b o q
 generalize hX:cxC X scope (Nt++fr.map (·.1)) ⟨cl,G.objs.size,fp,s2,H1⟩=X' at I0
 have hcd:∀ x c,cl.lookup x=some c->c<s2.heap.objs.size:=fun x c e=>by
  obtain⟨v,q⟩:=I.cell x c (hcl x c e)
  exact q.lt
 have hfr:∀ b∈fp,b ∉ frs X.stack:=fun b hb z=>by
  rcases List.mem_cons.mp (I.stkSub b z) with e | e
  ·exact (hf b hb).2.1 e
  ·exact (hf b hb).2.2.1 e
 have stat:∀ {H':Hp}{ob:Obj},(∀ b∈fp,H' b=none)->∀ b∈fp,FpOk X' [(s2.heap.objs.size,ob)] H' b:=fun {H' ob} hn b hb=>by
  subst hX
  refine⟨hn b hb,Nat.ne_of_lt (Nat.lt_of_lt_of_le (hlt b hb) hgC),hfr b hb,.inl hb,fun x c e=>(hf b hb).2.2.2.2.1 x c (hcl x c e),fun p hp=>?_⟩
  have hp':p∈([(s2.heap.objs.size,ob)]:List (Addr×Obj)):=hp
  rw[List.mem_singleton]at hp'
  subst hp'
  exact Nat.ne_of_gt (hlt b hb)
 have eP:X'.prog=X.prog:=by subst hX;rfl
 have eW:X'.w=X.w:=by subst hX;rfl
 have eK:X'.K=X.K:=by subst hX;rfl
 have eC:X'.calm=true:=by subst hX;exact hcalm
 have hg':PG X' tg (g ⟨cl,G.objs.size,fp,s2,H1⟩):=by subst hX;exact hg _
 have hc':PIfs X' ifs (tc ⟨cl,G.objs.size,fp,s2,H1⟩):=by subst hX;exact hc _
 have he':PE X' elt (te ⟨cl,G.objs.size,fp,s2,H1⟩):=by subst hX;exact he _
 -- what is known of the list that grows
 have grow:∀ {pl:List (Addr×Obj)} {σ':St} {H':Hp}{s':Shared}{ob ob':Obj}{h':Heap},Inv X' pl σ' H' s'->H' s2.heap.objs.size=none->(sigC Nt.length fr σ).length=σ'.length->σ'.drop Nt.length=(sigC Nt.length fr σ).drop Nt.length ->
   Heap.SameBut s2.heap.objs.size s'.heap h'->h'.get? s2.heap.objs.size=some ob'->(∀ v,ob'.data≠.cell v)->Inv X' [(s2.heap.objs.size,ob')] (sigC Nt.length fr σ) H' { s' with heap:=h' }:=fun {pl σ' H' s' ob ob' h'} I' hn hl hd sb ho' hv=>by
  have I1:Inv X' [] σ' H' s':=I'.pins_of fun p hp=>(nomatch hp)
  have g1:s2.heap.objs.size≠X'.env.locals:=by subst hX;exact hDC
  have g2:X'.s₀.heap.objs.size<=s2.heap.objs.size:=by subst hX;exact Nat.le_refl _
  have g3:∀ x c,X'.env.cells.lookup x=some c->c≠s2.heap.objs.size:=by subst hX;exact fun x c e=>Nat.ne_of_lt (hcd x c e)
  have g4:∀ p∈X'.pn++([]:List (Addr×Obj)),p.1≠s2.heap.objs.size:=by subst hX;exact fun p hp=>(nomatch (show p∈([]:List (Addr×Obj)) from hp))
  have g5:s2.heap.objs.size ∉ X'.fs:=by
   subst hX
   intro z
   rcases List.mem_cons.mp (I.stkSub _ z) with e | e
   ·exact absurd (e ▸ I.lt) (Nat.lt_irrefl _)
   ·exact I.nofs (Nat.le_refl _) e
  have I2:Inv X' [] σ' H' { s' with heap:=h' }:=I1.turned (t':=s'.toks) (it:=s2.heap.objs.size) (fun b o hb q=>(sb.2 b hb).trans q) hn g1 (.inr g2) g3 g4
  have I3:Inv X' [(s2.heap.objs.size,ob')] σ' H' { s' with heap:=h' }:=I2.pins_of fun p hp=>by
   rw[List.mem_singleton]at hp
   subst hp
   exact⟨ho',hn,g1,g5,hv⟩
  refine I3.weak hl fun i v q=>?_
  have hi:¬i<Nt.length:=fun hi=>by
   unfold sigC at q
   rw[List.getElem?_append_left (by simpa using hi),List.getElem?_replicate]at q
   split at q <;> cases q
  have z:∀ l:St,l[i]?=(l.drop Nt.length)[i-Nt.length]?:=fun l=>by
   rw[List.getElem?_drop]
   congr 1
   lia
  rw[z,hd,<- z]
  exact q
 have loop:∀ s3:Shared,s3={ s2 with heap:=h1,toks:=s2.toks+([]:List (Str×Value)).length } ->
   codeAny (model X.prog X.w) X.A (.compLoop (.ListComp elt [⟨tg,iter,ifs,0⟩] scope pos) 0 (.ref it) (.ref s2.heap.objs.size) (compEnvC scope cl G.objs.size X.env)) (RR (.ref s2.heap.objs.size) G.objs.size) s3:=by
  rintro s3 rfl
  refine comp_loop (P:=fun s'=>∃ ys its n H' m',LcEnd X fp H1 s2 fin s2.heap.objs.size G.objs.size s' ys its n H' m') (fun s' ⟨ys,its,n,H',m',q⟩=>hRR _ _ s' ys its n H' m' q)
   (fun n s'=>∃ i ys its c H',Inv X' [(s2.heap.objs.size,{ cls:=.type "list",data:=.seq (its:List Value).toArray c })] (sigC Nt.length fr σ) H' s'/\Vals ys its/\tn i s'.heap/\(∀ b∈fp,H' b=none)/\W i n ys H')
   ?_ m0 ⟨0,[],[],0,H1,I0,.nil,st1,fun b hb=>(hf b hb).1,w0⟩
  rintro n s' ⟨i,ys,its,c,H',I',rv,st,fr0,w⟩
  obtain⟨hz,hstep⟩:=step i n ys H' w
  have nD:∀ {pl:List (Addr×Obj)} {σ':St} {H'':Hp}{s'':Shared}{ob:Obj},Inv X' ((s2.heap.objs.size,ob)::pl) σ' H'' s''->s''.heap.get? s2.heap.objs.size=some ob/\H'' s2.heap.objs.size=none:=fun {pl σ' H'' s'' ob} I''=>by
   have q:=I''.pin (s2.heap.objs.size,ob) (List.mem_append_right _ List.mem_cons_self)
   exact⟨q.1,q.2.1⟩
  rcases hstep with ⟨stop,fn⟩ | ⟨go,hgo⟩
  ·have A1:=T.done X' eP eW eK eC i _ s' _ H' (fun _ _=>False) I' (stat fr0) st stop
   have hA:X'.A=X.A:=by subst hX;rfl
   rw[hA]at A1
   refine thn A1 fun r s1 ⟨hr,I1⟩=>?_
   subst hr
   obtain⟨q1,q2⟩:=nD I1
   have hL:X'.env.locals=G.objs.size:=by subst hX;rfl
   obtain⟨m',hm',_⟩:=I1.loc
   have un:Un (frs X.stack) fp H1 H' s2.heap s1.heap:=by subst hX;exact I1.base
   have os:s1.os=s2.os:=by subst hX;exact I1.os
   exact⟨ys,its,c,H',m',⟨hL ▸ hm',hL ▸ I1.free,q2,hgC,Nat.le_refl _,hDC,un,eP ▸ eW ▸ I1.hok,os,I1.bare,q1,rv,Nat.le_of_lt hz,fn⟩⟩
  ·have hA:X'.A=X.A:=by subst hX;rfl
   have hE:X'.env=compEnvC scope cl G.objs.size X.env:=by subst hX;rfl
   have hxe:X'.xe=fun _ _=>False:=by subst hX;rfl
   have A1:=T.item X' eP eW eK eC i _ s' _ H' (fun _ _=>False) I' (stat fr0) st go
   rw[hA]at A1
   refine thn A1 fun r s1 ⟨u,hr,h4⟩=>?_
   subst hr
   refine thn h4 fun _ s5 ⟨x,H5,I5,r5,y5,st5,fr5⟩=>?_
   have I5':=I5.pinned (stat fr5) (T.obj _ _ st5)
   have q5:=hgt _ x _ H5 _ (hgo ⟨cl,G.objs.size,fp,s2,H1⟩ x H5 y5)
   have A2:=hg' _ s5 _ H5 x u _ I5' r5 q5
   rw[eP,eW,hA,hE,hxe]at A2
   refine thn A2 fun _ s6 ⟨σ6,H6,I6,q6,l6,d6⟩=>?_
   have A3:=hc' _ s6 σ6 H6 _ I6 q6
   rw[eP,eW,hA,hE,hxe]at A3
   refine thn A3 fun ok s7 ⟨H7,I7,q7⟩=>?_
   have back:∀ {σ8:St} {H8:Hp}{s8 s9:Shared},Inv X' ([(s2.heap.objs.size,{ cls:=.type "list",data:=.seq its.toArray c })]++pinsAt fp s5.heap) σ8 H8 s8->(∀ b,b≠s2.heap.objs.size->s9.heap.get? b=s8.heap.get? b)->tn (i+1) s9.heap/\∀ b∈fp,H8 b=none:=fun {σ8 H8 s8 s9} I8 h9=>by
    refine⟨T.keep _ _ _ st5 fun b hb o q=>?_,fun b hb=>?_⟩
    ·rw[h9 b (Nat.ne_of_lt (hlt b hb))]
     exact (I8.pin (b,o) (List.mem_append_right _ (List.mem_append_right _ (mem_pinsAt hb q)))).1
    ·obtain⟨o,q,_⟩:=T.obj _ _ st5 b hb
     exact (I8.pin (b,o) (List.mem_append_right _ (List.mem_append_right _ (mem_pinsAt hb q)))).2.1
   cases ok with
   | false=>
    rw[if_neg Bool.false_ne_true]at q7 ⊢
    obtain⟨m',hm',w'⟩:=q7
    obtain⟨e1,e2⟩:=nD I7
    obtain⟨b1,b2⟩:=back (s9:=s7) I7 fun _ _=>rfl
    refine⟨m',hm',i+1,ys,its,c,H7,?_,rv,b1,b2,w'⟩
    exact grow (ob:={ cls:=.type "list",data:=.seq its.toArray c }) (h':=s7.heap) I7 e2 l6.symm d6 (.refl ..) e1 (fun v z=>by cases z)
   | true=>
    rw[if_pos rfl]at q7 ⊢
    have A4:=he' _ s7 σ6 H7 _ I7 q7
    rw[eP,eW,hA,hE,hxe]at A4
    refine thn A4 fun v s8 ⟨y,H8,I8,r8,m',hm',w'⟩=>?_
    obtain⟨e1,e2⟩:=nD I8
    refine append_at (hsz:=by rw[List.size_toArray,<- rv.length];exact Nat.le_of_lt hz) e1 fun h9 sb o9=>?_
    obtain⟨b1,b2⟩:=back (s9:={ s8 with heap:=h9 }) I8 fun b hb=>sb.2 b hb
    have ea:its.toArray.push v=(its++[v]).toArray:=by simp
    rw[ea]at o9
    refine⟨m',hm',i+1,ys++[y],its++[v],c+1,H8,?_,rv.append (.cons r8 .nil),b1,b2,w'⟩
    exact grow (ob:={ cls:=.type "list",data:=.seq its.toArray c }) I8 e2 l6.symm d6 sb o9 (fun v z=>by cases z)
 exact codeAny_compStart_list (loop _ rfl) (T.self X.A 0 _ _ _ st1 (loop _ rfl))
theorem pe_lc {wi:TI} (L:LcOk X scope Nt fr) (hcalm:X.calm=true) (hi:PI X tg iter wi) (hg:∀ z,PG (cxC X scope (Nt++fr.map (·.1)) z) tg (g z)) (hgt:∀ z,Tgt Nt.length (g z))
  (hc:∀ z,PIfs (cxC X scope (Nt++fr.map (·.1)) z) ifs (tc z)) (he:∀ z,PE (cxC X scope (Nt++fr.map (·.1)) z) elt (te z)) (hs:∀ x,foldedSetIterable iter X.env x=pure x:=by intro _;rfl) :
  PE X (.ListComp elt [⟨tg,iter,ifs,0⟩] scope pos) (tLC wi Nt.length fr g tc te):=by
 intro pins s σ H Q I h
 obtain⟨cl,e1,e2,e3⟩:=clos_of (scope:=scope) (env:=X.env) fun y hy hf=>I.ok.has _ (.inl (L.free y hy hf))
 rw[eval_ListComp]
 refine wpAny_comprehension_free (use:=none) rfl hs e1 L.kind L.names (thn (hi pins s σ H _ I h) fun v s1 h1=>thn h1 fun itv s2 h2=>?_)
 obtain⟨it,fp,tn,J,H2,e,I2,T,st2,f2,W,⟨m0,w0⟩,step⟩:=h2
 subst e
 refine lc_block (RR:=fun acc C r s'=>compPost (model X.prog X.w) X.A X.xe none (EP X pins σ Q) acc C r s') L hcalm I2 e2 e3 T st2 f2 hg hgt hc he w0 step fun D C s' ys its n H' m' q=>?_
 exact⟨m',q.ns,fun h' sb=>⟨.ref D,_,lc_close I2 f2 q sb,rfl,q.fin D q.fd⟩⟩
def tLCset (wi:TI) (k:Nat) (fr:List (Str×Nat)) (g:ZC->TG) (tc:ZC->TT) (te:ZC->TE) (j:Nat):TS:=fun Ds σ H=>wi σ H fun J H1=>
 ∃ W:Nat->Nat->List V->Hp->Prop,(∃ m,W 0 m [] H1)/\lcStep J k fr g tc te σ W fun ys H2=>∀ p,H2 p=none->Ds.nx (σ.set j (some (.ref p))) (upd H2 p (.lst ys))
theorem ps_lc {wi:TI}{y:Str}{j:Nat}{py spos:Pos} (L:LcOk X scope Nt fr) (hcalm:X.calm=true) (hN:X.N.Nodup) (hj:X.N[j]?=some y) (hy:Loc X.env.scope y) (hi:PI X tg iter wi) (hg:∀ z,PG (cxC X scope (Nt++fr.map (·.1)) z) tg (g z)) (hgt:∀ z,Tgt Nt.length (g z))
  (hc:∀ z,PIfs (cxC X scope (Nt++fr.map (·.1)) z) ifs (tc z)) (he:∀ z,PE (cxC X scope (Nt++fr.map (·.1)) z) elt (te z)) (hs:∀ x,foldedSetIterable iter X.env x=pure x:=by intro _;rfl)
  (hsw:swapsWith (.ListComp elt [⟨tg,iter,ifs,0⟩] scope pos) (some (.Name y py)) spos.line X.env=pure true:=by rfl)
  (hff:X.fn y=true\/X.env.scope.names.lookup y=some .local:=by first | exact .inl rfl | exact .inr rfl | assumption) :
  PS X (.Assign [.Name y py] (.ListComp elt [⟨tg,iter,ifs,0⟩] scope pos) spos) (tLCset wi Nt.length fr g tc te j):=by
 intro pins s σ H Ds I h
 obtain⟨cl,e1,e2,e3⟩:=clos_of (scope:=scope) (env:=X.env) fun y hy hf=>I.ok.has _ (.inl (L.free y hy hf))
 rw[exec_Assign_Name_used _ _ _ _ hsw]
 refine wpAny_bind (wpAny_standAt (wpAny_bind ?_))
 show wpAny _ X.A (do let _ <- comprehension (.ListComp elt [⟨tg,iter,ifs,0⟩] scope pos) scope X.env _ (newList []) false (eval iter X.env) (some (assign (.Name y py) X.env))) _ _ s
 refine wpAny_bind (thn (wpAny_comprehension_free (use:=some (assign (.Name y py) X.env)) (Q:=fun _ s'=>SP X pins Ds .next s') rfl hs e1 L.kind L.names
  (thn (hi pins s σ H _ I h) fun v s1 h1=>thn h1 fun itv s2 h2=>?_)) fun _ s' hq=>wpAny_pure (wpAny_pure hq))
 obtain⟨it,fp,tn,J,H2,e,I2,T,st2,f2,W,⟨m0,w0⟩,step⟩:=h2
 subst e
 refine lc_block (RR:=fun acc C r s'=>compPost (model X.prog X.w) X.A X.xe (some (assign (.Name y py) X.env)) (fun _ s'=>SP X pins Ds .next s') acc C r s') L hcalm I2 e2 e3 T st2 f2 hg hgt hc he w0 step fun D C s' ys its n H' m' q=>?_
 have I3:Inv X pins σ (upd H' D (.lst ys)) s':=lc_close (h':=s'.heap) I2 f2 q (.refl ..)
 obtain⟨oC,es,ep,hoC,hdC,hkC,hmC⟩:=id q.ns
 have hCH:upd H' D (.lst ys) C=none:=by rw[upd_ne (Ne.symm q.cd)];exact q.fc
 have gL:C≠X.env.locals:=Nat.ne_of_gt (Nat.lt_of_lt_of_le I2.lt q.gc)
 have gF:C ∉ X.fs:=I2.nofs q.gc
 have gE:X.s₀.heap.objs.size<=C:=Nat.le_trans I2.sz q.gc
 have gC:∀ x c,X.env.cells.lookup x=some c->c≠C:=fun x c e=>by
  obtain⟨v,z⟩:=I2.cell x c e
  exact Nat.ne_of_lt (Nat.lt_of_lt_of_le z.lt q.gc)
 have gP:∀ p∈X.pn++pins,p.1≠C:=fun p hp=>Nat.ne_of_lt (Nat.lt_of_lt_of_le (Heap.lt_size (I2.pin p hp).1) q.gc)
 have I4:Inv X (pins++[(C,oC)]) σ (upd H' D (.lst ys)) s':=I3.pins_of fun p hp=>by
  rcases List.mem_append.mp hp with z | z
  ·exact I3.pin p (List.mem_append_right _ z)
  ·rw[List.mem_singleton]at z
   subst z
   exact⟨hoC,hCH,gL,gF,fun v z=>by rw[hdC]at z;cases z⟩
 show wpAny _ _ (assign (.Name y py) X.env (.ref D)) _ _ s'
 refine wpAny_assign_Name (store_ok I4 hN hj hy (show RelV (.ref D) (.ref D) from rfl) (fun s'' I5=>?_) hff)
 have z:=I5.pin (C,oC) (List.mem_append_right _ (List.mem_append_right _ (List.mem_singleton.mpr rfl)))
 refine⟨m',⟨oC,es,ep,z.1,hdC,hkC,hmC⟩,fun h'' sb=>⟨σ.set j (some (.ref D)),_,?_,q.fin D q.fd⟩⟩
 have I6:Inv X pins (σ.set j (some (.ref D))) (upd H' D (.lst ys)) s'':=I5.unpinned
 exact I6.turned (t':=s''.toks) (it:=C) (fun b o hb e=>(sb.2 b hb).trans e) hCH gL (.inr gE) gC gP
end
end L2
end
section
namespace L2
open PySem PySem.Spec PyProof.Rows
section
variable {prog:Program}{w:World}{A:Around}{E:Value->Shared->Prop}{s:Shared}
end
section
variable {prog:Program}{w:World}{A:Around}{E:Value->Shared->Prop}{s:Shared}
end
section
variable {X:Cx}
end
end L2
end
section
namespace L2
open PySem PySem.Spec PyProof.Rows
section
variable {prog:Program}{w:World}{A:Around}{E:Value->Shared->Prop}{s:Shared}
theorem getItem_tuple_all {t sl:Addr}{items:Array Value}{vl vu:Value}{lo hi:Option Int}{Q:Value->Shared->Prop} (ht:IsTup s.heap t items) (hs:s.heap.IsSliceOf sl vl vu .none) (pl:IsPart vl lo) (pu:IsPart vu hi)
  (hw:HT.sIx items.size 0 lo=0/\HT.sIx items.size items.size hi=items.size) (h:Q (.ref t) s):wpAny (model prog w) A (getItem (.ref t) (.ref sl)) Q E s:=by
 obtain⟨os,hos,hcs,hds⟩:=id hs
 have hTs:s.TypeIs (.ref sl) "slice":=⟨os,hos,hcs⟩
 unfold getItem
 try with_reducible refine wpAny_holding ?_
 first | refine wpAny_bind (wpAny_pure ?_) | skip
 refine wpAny_bind (wpAny_sequenceKey ht.typeIs (by decide) ?_)
 refine wpAny_bind (wpAny_callSpecial?_slot (name:=Str.ofString "__getitem__") ht.typeIs PyProof.Rows.slot_tuple_getitem
  (wpAny_call_entry PyProof.Rows.slot_tuple_getitem ht.typeIs entry_tuple_getitem ?_ (args_tuple_getitem _ _)))
 show wpAny _ _ (Builtin.Tuple.tupleItemsOf (.ref t) >>= _) _ _ s
 refine wpAny_bind (tupleItemsOf_ ht ?_)
 refine wpAny_bind (wpAny_typeOf hTs ?_)
 rw[if_pos (by decide)]
 refine wpAny_bind (HT.sliceApplied_gen hs pl pu ?_)
 have yes:(((HT.sIx items.size 0 lo:Nat):Int) == 0 && (1:Int) == 1 && (HT.sIx items.size items.size hi-HT.sIx items.size 0 lo) == items.size)=true:=by
  rw[hw.1,hw.2];simp
 show wpAny _ _ (if (((HT.sIx items.size 0 lo:Nat):Int) == 0 && (1:Int) == 1 && (HT.sIx items.size items.size hi-HT.sIx items.size 0 lo) == items.size)=true then _ else _) _ _ s
 rw[if_pos yes]
 obtain⟨o,ho,hc,n,hd⟩:=id ht
 have ex:wpAny (model prog w) A.in1 (Builtin.Tuple.tupleIsExact (.ref t)) (fun b s'=>b=true/\s'=s) E s:=by
  unfold Builtin.Tuple.tupleIsExact
  first
   | exact wpAny_bind (wpAny_typeOf ⟨o,ho,hc⟩ (wpAny_pure ⟨by rfl,rfl⟩))
   | exact wpAny_bind (wpAny_load ho (wpAny_pure ⟨by rw[hc];rfl,rfl⟩))
 refine wpAny_bind (thn ex fun b s' hb=>?_)
 obtain⟨rfl,rfl⟩:=hb
 rw[if_pos rfl]
 exact wpAny_bind (wpAny_rule (wpAny_pure ⟨_,rfl,wpAny_pure h⟩))
end
section
variable {X:Cx}
def rSlW (K:PySem.W.Frag):V->Option Int->Option Int->Hp->VK->Prop:=fun x lo hi H Q=>∃ a xs,x=.ref a/\SqT K H a xs/\HT.sIx xs.length 0 lo=0/\HT.sIx xs.length xs.length hi=xs.length/\Q (.ref a) H
theorem sl_tupW:SlR X (rSlW X.K):=by
 intro pins s σ H x v vl vu lo hi sl Q I rx hs pl pu h
 obtain⟨a,xs,rfl,hx,h1,h2,q⟩:=h
 cases rx
 obtain⟨its,r,ht,hz⟩:=I.tuple hx
 have hlen:its.toArray.size=xs.length:=by rw[List.size_toArray];exact r.length.symm
 refine⟨"tuple",_,PyProof.Rows.slot_tuple_getitem.lookup,ht.typeIs,?_⟩
 exact getItem_tuple_all ht hs pl pu (by rw[hlen];exact⟨h1,h2⟩) ⟨.ref a,H,I,rfl,q⟩
def rSlS:V->Option Int->Option Int->Hp->VK->Prop:=fun x lo hi H Q=>∃ z,x=.str z/\z.length<=sizeLine/\Q (.str (Txt.slice z lo hi)) H
theorem sl_str:SlR X rSlS:=by
 intro pins s σ H x v vl vu lo hi sl Q I rx hs pl pu h
 obtain⟨z,rfl,hz,q⟩:=h
 obtain⟨t,rfl⟩:=rx
 obtain⟨os,hos,hcs,hds⟩:=id hs
 refine⟨"str",_,F.slot_str_getitem.lookup,typeIs_str _ _ _,?_⟩
 have fin:∀ (t':Tok) (k:Nat),EP X pins σ Q (.str (Txt.slice z lo hi) t') { s with toks:=k }:=fun t' k=>⟨.str _,H,I.tok _,⟨_,rfl⟩,q⟩
 cases pl with
 | none=>
  cases pu with
  | none=>exact wpAny_getItem_str_slice (l:=none) (u:=none) (st:=none) ⟨os,hos,hcs,hds⟩ rfl (post_val_or_str ⟨Nat.le_trans (Txt.slice_le z _ _) hz,fin⟩)
  | int j uj=>exact wpAny_getItem_str_slice (l:=none) (u:=some (j,uj)) (st:=none) ⟨os,hos,hcs,hds⟩ rfl (post_val_or_str ⟨Nat.le_trans (Txt.slice_le z _ _) hz,fin⟩)
 | int i ui=>
  cases pu with
  | none=>exact wpAny_getItem_str_slice (l:=some (i,ui)) (u:=none) (st:=none) ⟨os,hos,hcs,hds⟩ rfl (post_val_or_str ⟨Nat.le_trans (Txt.slice_le z _ _) hz,fin⟩)
  | int j uj=>exact wpAny_getItem_str_slice (l:=some (i,ui)) (u:=some (j,uj)) (st:=none) ⟨os,hos,hcs,hds⟩ rfl (post_val_or_str ⟨Nat.le_trans (Txt.slice_le z _ _) hz,fin⟩)
theorem sl_U:SlR X (fun x lo hi H Q=>rSlL X.K x lo hi H Q\/(rSlT X.K x lo hi H Q\/(rSlW X.K x lo hi H Q\/rSlS x lo hi H Q))):=sl_list.or (sl_tup.or (sl_tupW.or sl_str))
end
structure Df (K:PySem.W.Frag) (mg:Str->Option Value) (x:Str) (st:Stmt) (f:Addr) (fd:FuncData) (ps:List Str):Prop where
 fn:Fun K x x st f fd
 b:Binds K fd ps []
 mg:mg x=some (.ref f)
theorem Df.kp {K:PySem.W.Frag}{mg:Str->Option Value}{x:Str}{st:Stmt}{f:Addr}{fd:FuncData}{ps:List Str} (D:Df K mg x st f fd ps):PySem.W.keepIn K (.ref f)=true:=D.fn.kp
end L2
namespace L2
open PySem
theorem bt_len:bootBuiltins "len"=some (.builtin "len"):=by decide +kernel
theorem bt_isinstance:bootBuiltins "isinstance"=some (.builtin "isinstance"):=by decide +kernel
theorem bt_sorted:bootBuiltins "sorted"=some (.builtin "sorted"):=by decide +kernel
theorem bt_int:bootBuiltins "int"=some (.type "int"):=by decide +kernel
theorem bt_tuple:bootBuiltins "tuple"=some (.type "tuple"):=by decide +kernel
theorem bt_bool:bootBuiltins "bool"=some (.type "bool"):=by decide +kernel
end L2
end
section
namespace L2
open PySem
def lcChk (sc:Scope) (N:List Str) (scope:Scope) (fr:List (Str×Nat)):Bool:=
 (scope.kind == .function) && scope.names.all (fun y=>decide (y.2≠.cell)) && scope.names.all (fun y=>decide (y.2=.local->scope.names.lookup y.1=some .local)) &&
  scope.names.all (fun y=>decide (y.2=.free->sc.names.lookup y.1=some .cell)) && fr.all (fun p=>decide (N[p.2]?=some p.1) && decide (scope.names.lookup p.1=some .free))
theorem LcOk.of {X:Cx}{sc:Scope}{N:List Str}{scope:Scope}{Nt:List Str}{fr:List (Str×Nat)} (h1:X.env.scope=sc) (h2:X.N=N) (h:lcChk sc N scope fr=true):LcOk X scope Nt fr:=by
 unfold lcChk at h
 simp only[Bool.and_eq_true,List.all_eq_true,decide_eq_true_eq]at h
 obtain⟨⟨⟨⟨a1,a2⟩,a3⟩,a4⟩,a5⟩:=h
 refine⟨eq_of_beq a1,a2,a3,fun y hy hf=>?_,fun p hp=>?_⟩
 ·show X.env.scope.names.lookup y.1=some .cell
  rw[h1];exact a4 y hy hf
 ·rw[h2];exact a5 p hp
end L2
end
section
namespace L2
open PySem PySem.Spec PyProof.Rows
def notStar:Expr->Bool
 | .Starred _ _=>false
 | _=>true
def noStars:List Expr->Bool
 | []=>true
 | e::es=>notStar e && noStars es
theorem star_cons {env:Env}{e:Expr}{es:List Expr} (h:notStar e=true):starEach (e::es) env=(false,eval e env)::starEach es env:=by
 cases e <;> first | rfl | exact absurd h Bool.false_ne_true
theorem stars_any {env:Env}{pos:Pos}:∀ {es:List Expr},noStars es=true->(backTo pos (starEach es env)).any (·.1)=false
 | [],_=>rfl
 | e::es,h=>by
  have h':(notStar e && noStars es)=true:=h
  rw[Bool.and_eq_true]at h'
  rw[star_cons h'.1]
  show (false || (backTo pos (starEach es env)).any (·.1))=false
  rw[stars_any h'.2];rfl
section
variable {X:Cx}
theorem qa_cons {e:Expr}{es:List Expr}{te:TE}{t:TA} (ha:PE X e te) (hr:PA X es t) (hs:notStar e=true:=by rfl):PA X (e::es) (tCons te t):=pa_cons ha hr (star_cons hs)
def constV:Expr->Option V
 | .Constant (.int i) _ _=>some (.int i)
 | .Constant (.str x) _ _=>some (.str x)
 | .Constant (.bool b) _ _=>some (.bl b)
 | _=>none
def constVs:List Expr->Option (List V)
 | []=>some []
 | e::es=>match constV e,constVs es with
  | some v,some vs=>some (v::vs)
  | _,_=>none
theorem pe_const {e:Expr}{v:V} (h:constV e=some v):PE X e (tC v):=by
 unfold constV at h
 split at h
 ·cases h;exact pe_int
 ·cases h;exact pe_str
 ·cases h;exact pe_bl
 ·cases h
theorem constV_ns {e:Expr}{v:V} (h:constV e=some v):notStar e=true:=by
 cases e <;> first | rfl | (unfold constV at h;cases h)
def tVs (vs:List V):TA:=fun _ H Q=>Q vs H
theorem pa_consts:∀ {es:List Expr}{vs:List V},constVs es=some vs->PA X es (tVs vs)
 | [],vs,h=>by cases h;exact pa_nil
 | e::es,vs,h=>by
  unfold constVs at h
  cases h1:constV e with
  | none=>rw[h1]at h;cases h
  | some v=>
   cases h2:constVs es with
   | none=>rw[h1,h2]at h;cases h
   | some us=>
    rw[h1,h2]at h
    cases h
    exact pa_cons (pe_const h1) (pa_consts h2) (star_cons (constV_ns h1))
theorem qe_call {CX:CXT}{k:Nat}{f:Addr}{fd:FuncData}{ps:List Str}{sp:Sp}{dvs:List V}{ds:List Value}{E:XK}{x:Str}{p pos:Pos}{e:Expr}{es:List Expr}{t:TA}
  (F:FnOk X.prog X.w X.K X.mg X.base CX k f fd ps sp) (hr:Room k X.A) (hg:Gl X x) (hm:X.mg x=some (.ref f)) (hk:PySem.W.keepIn X.K (.ref f)=true) (hb:Binds X.K fd ps ds) (hd:Vals dvs ds) (hx:Passes CX X E)
  (ha:PA X (e::es) t) (hs:noStars (e::es)=true:=by rfl) (hdb:(x == ("__debug__" : Str))=false:=by decide):PE X (.Call (.Name x p) (e::es) [] pos) (tCall sp dvs E t):=by
 have h':(notStar e && noStars es)=true:=hs
 rw[Bool.and_eq_true]at h'
 exact pe_call F hr hg hm hk hb hd hx ha hdb (star_cons h'.1) (stars_any h'.2)
theorem qe_callV {CX:CXT}{k i:Nat}{f:Addr}{fd:FuncData}{ps:List Str}{sp:Sp}{dvs:List V}{ds:List Value}{E:XK}{x:Str}{p pos:Pos}{e:Expr}{es:List Expr}{t:TA}
  (F:FnOk X.prog X.w X.K X.mg X.base CX k f fd ps sp) (hr:Room k X.A) (hN:X.N[i]?=some x) (hv:Vis X.env.scope x) (hk:PySem.W.keepIn X.K (.ref f)=true) (hb:Binds X.K fd ps ds) (hd:Vals dvs ds) (hx:Passes CX X E)
  (ha:PA X (e::es) t) (hs:noStars (e::es)=true:=by rfl) (hdb:(x == ("__debug__" : Str))=false:=by decide) (hcd:(x == ("__classdict__" : Str))=false:=by decide) :
  PE X (.Call (.Name x p) (e::es) [] pos) (fun σ H Q=>σ[i]?=some (some (.ref f))/\tCall sp dvs E t σ H Q):=by
 have h':(notStar e && noStars es)=true:=hs
 rw[Bool.and_eq_true]at h'
 exact pe_callV F hr hN hv hk hb hd hx ha hdb hcd (star_cons h'.1) (stars_any h'.2)
theorem qe_callB {x:Str}{p pos:Pos}{e:Expr}{es:List Expr}{t:TA}{id:String}{r:List V->Hp->VK->Prop} (hc:CallR X (.builtin id) r) (hg:Gl X x) (hm:X.mg x=none) (hv:bootBuiltins x=some (.builtin id)) (ha:PA X (e::es) t)
  (hs:noStars (e::es)=true:=by rfl) (hn:x≠"__name__":=by decide) (hdb:(x == ("__debug__" : Str))=false:=by decide):PE X (.Call (.Name x p) (e::es) [] pos) (tCB r t):=by
 have h':(notStar e && noStars es)=true:=hs
 rw[Bool.and_eq_true]at h'
 exact pe_callB hc hg hm hv ha hn hdb (star_cons h'.1) (stars_any h'.2)
theorem qe_callTy {x:Str}{p pos:Pos}{e:Expr}{es:List Expr}{t:TA}{T:String}{r:List V->Hp->VK->Prop} (hc:CallR X (.type T) r) (hg:Gl X x) (hm:X.mg x=none) (hv:bootBuiltins x=some (.type T)) (ha:PA X (e::es) t)
  (hs:noStars (e::es)=true:=by rfl) (hn:x≠"__name__":=by decide) (hdb:(x == ("__debug__" : Str))=false:=by decide):PE X (.Call (.Name x p) (e::es) [] pos) (tCB r t):=by
 have h':(notStar e && noStars es)=true:=hs
 rw[Bool.and_eq_true]at h'
 exact pe_callTy hc hg hm hv ha hn hdb (star_cons h'.1) (stars_any h'.2)
theorem qi_range1 {tg a:Expr}{ta:TA}{p pos:Pos} (hg:Gl X "range") (hm:X.mg "range"=none) (ha:PA X [a] ta) (hs:notStar a=true:=by rfl):PI X tg (.Call (.Name "range" p) [a] [] pos) (iRng1 ta):=
 pi_range1 hg hm ha (by rw[star_cons hs];rfl)
end
end L2
end
section
namespace L2
open PySem PySem.Spec PyProof.Rows
theorem relv_ref (a:Addr):RelV (.ref a) (.ref a):=rfl
theorem relv_int (i:Int) (t:Tok):RelV (.int i) (.int i t):=⟨t,rfl⟩
theorem relv_ty (n:String):RelV (.ty n) (.type n):=rfl
structure Hd (p:Prop):Prop where
 out:p
section
variable {X:Cx}{pos:Pos}{a b c e o:Expr}{es:List Expr}{ta tb tc te to:TE}{t u:TS}{tt tu:TT}{tA:TA}{st:Stmt}{rest:List Stmt}
theorem wv (i:Nat) {x:Str} (hN:X.N[i]?=some x:=by rfl) (hv:Vis X.env.scope x:=by first | exact Or.inl rfl | exact Or.inr (Or.inl rfl) | exact Or.inr (Or.inr rfl)) (hd:(x == ("__debug__" : Str))=false:=by decide)
  (hcd:(x == ("__classdict__" : Str))=false:=by decide):Hd (PE X (.Name x pos) (tVar i)):=⟨pe_var hN hv hd hcd⟩
theorem we_int {i j pos}:Hd (PE X (.Constant (.int i) j pos) (tC (.int i))):=⟨pe_int⟩
theorem we_str {x j pos}:Hd (PE X (.Constant (.str x) j pos) (tC (.str x))):=⟨pe_str⟩
theorem we_bl {x j pos}:Hd (PE X (.Constant (.bool x) j pos) (tC (.bl x))):=⟨pe_bl⟩
theorem we_glob {x:Str}{v:V}{y:Value} (hg:Gl X x) (hm:X.mg x=some y) (r:RelV v y) (hd:(x == ("__debug__" : Str))=false:=by decide):Hd (PE X (.Name x pos) (tC v)):=⟨pe_glob hg hm r hd⟩
theorem we_bltn {x:Str}{v:V}{y:Value} (hg:Gl X x) (hm:X.mg x=none) (hv:bootBuiltins x=some y) (r:RelV v y) (hn:x≠"__name__":=by decide) (hd:(x == ("__debug__" : Str))=false:=by decide):Hd (PE X (.Name x pos) (tC v)):=⟨pe_bltn hg hm hv r hn hd⟩
theorem we_op {op:Operator}{r:R2} (ho:OpR X (binaryOp op) r) (ha:Hd (PE X a ta)) (hb:Hd (PE X b tb)):Hd (PE X (.BinOp a op b pos) (tOp r ta tb)):=⟨pe_op ho ha.out hb.out⟩
theorem we_un {op:UnaryOp}{r:V->Hp->VK->Prop} (ho:UnR X (unaryOp op) r) (ha:Hd (PE X a ta)):Hd (PE X (.UnaryOp op a pos) (tUn r ta)):=⟨pe_un ho ha.out⟩
theorem we_cmpR {op:CmpOp}{r:R2} (ho:OpR X (compareOp op) r) (ha:Hd (PE X a ta)) (hb:Hd (PE X b tb)) (hm:behindInMarks op b=false):Hd (PE X (.Compare a [op] [b] pos) (tOp r ta tb)):=⟨pe_cmpR ho ha.out hb.out hm⟩
theorem we_ifExp (hc:Hd (PT X c tt)) (ha:Hd (PE X a ta)) (hb:Hd (PE X b tb)):Hd (PE X (.IfExp c a b pos) (tIf tt ta tb)):=⟨pe_ifExp hc.out ha.out hb.out⟩
theorem we_lst (h:Hd (PA X es tA)):Hd (PE X (.List es pos) (tLst tA)):=⟨pe_lst h.out⟩
theorem we_tup {x1} (h:Hd (PA X es tA)):Hd (PE X (.Tuple es x1 pos) (tTup tA)):=⟨pe_tup h.out⟩
theorem wps_nil:Hd (PPs X pos [] [] []):=⟨pps_nil⟩
theorem wps_cons {k v:Expr}{ks:List (Option Expr)}{vs:List Expr}{tk tv:TE}{trs:List (TE×TE)} (hk:Hd (PE X k tk)) (hv:Hd (PE X v tv)) (hr:Hd (PPs X pos ks vs trs)):Hd (PPs X pos (some k::ks) (v::vs) ((tk,tv)::trs)):=⟨pps_cons hk.out hv.out hr.out⟩
theorem we_disp {keys:List (Option Expr)}{values:List Expr}{trs:List (TE×TE)} (h:Hd (PPs X pos keys values trs)) (hall:keys.all (·.isSome)=true) (hl:keys.length=values.length) (h0:keys≠[]) (h15:keys.length<=15) :
  Hd (PE X (.Dict keys values pos) (tDisp trs)):=⟨pe_disp h.out hall hl h0 h15⟩
theorem we_rev {k:Nat}{p2 p3 p4:Pos} (he:Hd (PE X e te)):Hd (PE X (.Subscript e (.Slice none none (some (.UnaryOp .USub (.Constant (.int 1) k p3) p4)) p2) pos) (tRev X.K te)):=⟨pe_rev he.out⟩
theorem wo_none:Hd (PO X none tNoPart):=⟨po_none⟩
theorem wo_some (h:Hd (PE X e te)):Hd (PO X (some e) (tPart te)):=⟨po_some h.out⟩
theorem we_slice {r:V->Option Int->Option Int->Hp->VK->Prop}{lo hi:Option Expr}{tl th:TO}{p2:Pos} (hr:SlR X r) (he:Hd (PE X e te)) (hl:Hd (PO X lo tl)) (hu:Hd (PO X hi th)):Hd (PE X (.Subscript e (.Slice lo hi none p2) pos) (tSl r te tl th)):=⟨pe_slice hr he.out hl.out hu.out⟩
theorem we_ix {r:R2} (hr:IxR X r) (ha:Hd (PE X a ta)) (hb:Hd (PE X b tb)) (hs:PlainIx b):Hd (PE X (.Subscript a b pos) (tOp r ta tb)):=⟨pe_ix hr ha.out hb.out hs⟩
theorem wa_nil:Hd (PA X [] tNil):=⟨pa_nil⟩
theorem wa_cons (ha:Hd (PE X e te)) (hr:Hd (PA X es tA)) (hs:notStar e=true:=by rfl):Hd (PA X (e::es) (tCons te tA)):=⟨qa_cons ha.out hr.out hs⟩
theorem wa_consts {vs:List V} (h:constVs es=some vs):Hd (PA X es (tVs vs)):=⟨pa_consts h⟩
theorem we_call {CX:CXT}{k:Nat}{f:Addr}{fd:FuncData}{ps:List Str}{sp:Sp}{dvs:List V}{ds:List Value}{E:XK}{x:Str}{p:Pos}
  (F:FnOk X.prog X.w X.K X.mg X.base CX k f fd ps sp) (hr:Room k X.A) (hg:Gl X x) (hm:X.mg x=some (.ref f)) (hk:PySem.W.keepIn X.K (.ref f)=true) (hb:Binds X.K fd ps ds) (hd:Vals dvs ds) (hx:Passes CX X E)
  (ha:Hd (PA X (e::es) tA)) (hs:noStars (e::es)=true:=by rfl) (hdb:(x == ("__debug__" : Str))=false:=by decide):Hd (PE X (.Call (.Name x p) (e::es) [] pos) (tCall sp dvs E tA)):=⟨qe_call F hr hg hm hk hb hd hx ha.out hs hdb⟩
theorem we_callV {CX:CXT}{k i:Nat}{f:Addr}{fd:FuncData}{ps:List Str}{sp:Sp}{dvs:List V}{ds:List Value}{E:XK}{x:Str}{p:Pos}
  (F:FnOk X.prog X.w X.K X.mg X.base CX k f fd ps sp) (hr:Room k X.A) (hN:X.N[i]?=some x) (hv:Vis X.env.scope x) (hk:PySem.W.keepIn X.K (.ref f)=true) (hb:Binds X.K fd ps ds) (hd:Vals dvs ds) (hx:Passes CX X E)
  (ha:Hd (PA X (e::es) tA)) (hs:noStars (e::es)=true:=by rfl) (hdb:(x == ("__debug__" : Str))=false:=by decide) (hcd:(x == ("__classdict__" : Str))=false:=by decide) :
  Hd (PE X (.Call (.Name x p) (e::es) [] pos) (fun σ H Q=>σ[i]?=some (some (.ref f))/\tCall sp dvs E tA σ H Q)):=⟨qe_callV F hr hN hv hk hb hd hx ha.out hs hdb hcd⟩
theorem we_callB {x:Str}{p:Pos}{id:String}{r:List V->Hp->VK->Prop} (hc:CallR X (.builtin id) r) (hg:Gl X x) (hm:X.mg x=none) (hv:bootBuiltins x=some (.builtin id)) (ha:Hd (PA X (e::es) tA))
  (hs:noStars (e::es)=true:=by rfl) (hn:x≠"__name__":=by decide) (hdb:(x == ("__debug__" : Str))=false:=by decide):Hd (PE X (.Call (.Name x p) (e::es) [] pos) (tCB r tA)):=⟨qe_callB hc hg hm hv ha.out hs hn hdb⟩
theorem we_callTy {x:Str}{p:Pos}{T:String}{r:List V->Hp->VK->Prop} (hc:CallR X (.type T) r) (hg:Gl X x) (hm:X.mg x=none) (hv:bootBuiltins x=some (.type T)) (ha:Hd (PA X (e::es) tA))
  (hs:noStars (e::es)=true:=by rfl) (hn:x≠"__name__":=by decide) (hdb:(x == ("__debug__" : Str))=false:=by decide):Hd (PE X (.Call (.Name x p) (e::es) [] pos) (tCB r tA)):=⟨qe_callTy hc hg hm hv ha.out hs hn hdb⟩
theorem we_bm0 {name:Str}{apos cpos:Pos}{T id:String}{r:V->List V->Hp->VK->Prop} (pa:PlainAttrs T) (slot:Slot T name id) (hty:typeOf (.builtin id)=pure (.type "method_descriptor")) (hm:MtR X id r) (ho:Hd (PE X o to))
  (hbase:attributeBase o name X.env (eval o X.env)=eval o X.env:=by rfl) (hline:(apos.endLine == cpos.line)=true:=by rfl):Hd (PE X (.Call (.Attribute o name apos) [] [] cpos) (tBM0 X.K T r to)):=⟨pe_bm0 pa slot hty hm ho.out hbase hline⟩
theorem few_of {env:Env}{cpos:Pos}{es:List Expr} (h:noStars es=true) (hl:es.length<29) :
  ((backTo cpos (starEach es env)).all (fun x=>!x.1) && (backToKw cpos (keywordEach [] env)).all (fun x=>x.1.isSome)
   && decide (es.length+([]:List Keyword).length+(if ([]:List Keyword).isEmpty then 0 else 1)<30))=true:=by
 have h1:(backTo cpos (starEach es env)).all (fun x=>!x.1)=true:=by
  have:=stars_any (env:=env) (pos:=cpos) h
  rw[List.all_eq_not_any_not]
  simpa using this
 have h2:(backToKw cpos (keywordEach [] env)).all (fun x=>x.1.isSome)=true:=rfl
 rw[h1,h2]
 simp
 lia
theorem we_bm {name:Str}{apos cpos:Pos}{T id:String}{r:V->List V->Hp->VK->Prop} (pa:PlainAttrs T) (slot:Slot T name id) (hty:typeOf (.builtin id)=pure (.type "method_descriptor")) (hm:MtR X id r) (ho:Hd (PE X o to)) (ha:Hd (PA X (e::es) tA))
  (hbase:attributeBase o name X.env (eval o X.env)=eval o X.env:=by rfl) (hs:noStars (e::es)=true:=by rfl) (hl:(e::es).length<29:=by decide) (hline:(apos.endLine == cpos.line)=true:=by rfl) :
  Hd (PE X (.Call (.Attribute o name apos) (e::es) [] cpos) (tBM X.K T r to tA)):=by
 have h':(notStar e && noStars es)=true:=hs
 rw[Bool.and_eq_true]at h'
 exact⟨pe_bm pa slot hty hm ho.out ha.out hbase (few_of hs hl) hline (star_cons h'.1) (stars_any h'.2)⟩
theorem wt_cmpR {op:CmpOp}{r:R2} (ho:OpR X (compareOp op) r) (ha:Hd (PE X a ta)) (hb:Hd (PE X b tb)) (hm:behindInMarks op b=false):Hd (PT X (.Compare a [op] [b] pos) (tTest (tOp r ta tb))):=⟨pt_cmpR ho ha.out hb.out hm⟩
theorem ww_and1 (ha:Hd (PT X a tt)):Hd (PW X (.BoolOp .And [a] pos) tt):=⟨pw_and1 ha.out⟩
theorem ww_or1 (ha:Hd (PT X a tt)):Hd (PW X (.BoolOp .Or [a] pos) tt):=⟨pw_or1 ha.out⟩
theorem ww_and {more:List Expr} (ha:Hd (PT X a tt)) (hb:Hd (PW X (.BoolOp .And (b::more) pos) tu)):Hd (PW X (.BoolOp .And (a::b::more) pos) (tAnd tt tu)):=⟨pw_and ha.out hb.out⟩
theorem ww_or {more:List Expr} (ha:Hd (PT X a tt)) (hb:Hd (PW X (.BoolOp .Or (b::more) pos) tu)):Hd (PW X (.BoolOp .Or (a::b::more) pos) (tOr tt tu)):=⟨pw_or ha.out hb.out⟩
theorem wt_pw (h:Hd (PW X e tt)):Hd (PT X e tt):=⟨h.out.pt⟩
theorem wt_not (ha:Hd (PT X a tt)):Hd (PT X (.UnaryOp .Not a pos) (tNot tt)):=⟨pt_not ha.out⟩
theorem wt_val (h:Hd (PE X e te)) (he:∀ whole,isTrue e X.env whole=(do let v <- whole;standAt e.pos;holding [v] (truthy v)):=by intro _;rfl):Hd (PT X e (tB te)):=⟨pt_val h.out he⟩
theorem wt_truth (ha:Hd (PE X a ta)) (he:∀ whole,isTrue a X.env whole=(do let v <- whole;standAt a.pos;holding [v] (truthy v))):Hd (PT X a (fun σ H Q=>ta σ H fun x H'=>∃ k,TruV X.K x H' k/\Q k H')):=⟨pt_truth ha.out he⟩
variable {tg iter:Expr}{wi:TI}{g:TG}
theorem wi_range1 {p:Pos} (hg:Gl X "range") (hm:X.mg "range"=none) (ha:Hd (PA X [a] tA)) (hs:notStar a=true:=by rfl):Hd (PI X tg (.Call (.Name "range" p) [a] [] pos) (iRng1 tA)):=⟨qi_range1 hg hm ha.out hs⟩
theorem wi_U (hl:Hd (PE X e te)):Hd (PI X tg e (fun σ H R=>iList X.K te σ H R\/iTup X.K te σ H R)):=⟨pi_U hl.out⟩
theorem wg_name {i:Nat}{x:Str} (hN:X.N.Nodup) (hi:X.N[i]?=some x) (hx:Loc X.env.scope x) (hf:X.fn x=true\/X.env.scope.names.lookup x=some .local:=by first | exact .inl rfl | exact .inr rfl | assumption):Hd (PG X (.Name x pos) (gName i)):=⟨pg_name hN hi hx hf⟩
theorem wgs_nil:Hd (PGs X [] gNil):=⟨pgs_nil⟩
theorem wgs_cons {gs:TGs} (h1:Hd (PG X e g)) (h2:Hd (PGs X es gs)) (hs:(assignEach (e::es) X.env).map (·.2)=assign e X.env::(assignEach es X.env).map (·.2):=by rfl):Hd (PGs X (e::es) (gCons g gs)):=⟨pgs_cons h1.out h2.out hs⟩
theorem wg_tup {k n:Nat}{gs:TGs} (hc:X.calm=true) (h:Hd (PGs X es gs)) (hn:(assignEach es X.env).length=n:=by rfl) (hst:(assignEach es X.env).findIdx? (·.1)=none:=by rfl):Hd (PG X (.Tuple es k pos) (gTup X.K n gs)):=⟨pg_tup hc h.out hn hst⟩
theorem wg_sub {i:Expr}{ti:TE}{ts:TSet} (ho:Hd (PE X o to)) (hi:Hd (PE X i ti)) (hs:PSet X ts)
  (ha:∀ v,assign (.Subscript o i pos) X.env v=(do
   let ov <- holding [v] (eval o X.env)
   let iv <- holding [v,ov] (eval i X.env)
   standAt pos
   holding [v,ov,iv] (setItem ov iv v)
   release [v,ov,iv] []):=by intro _;rfl):Hd (PG X (.Subscript o i pos) (gSub to ti ts)):=⟨pg_sub ho.out hi.out hs ha⟩
theorem wss_nil:Hd (PSs X [] tNext):=⟨pss_nil⟩
theorem wss_one (h1:Hd (PS X st t)):Hd (PSs X [st] t):=⟨pss_one h1.out⟩
theorem wss_cons (h1:Hd (PS X st t)) (h2:Hd (PSs X rest u)):Hd (PSs X (st::rest) (tSeq t u)):=⟨pss_cons h1.out h2.out⟩
theorem ws_ret (he:Hd (PE X e te)):Hd (PS X (.Return (some e) pos) (tRet te)):=⟨ps_ret he.out⟩
theorem ws_if {sa sb:List Stmt} (hc:Hd (PT X c tt)) (ha:Hd (PSs X sa t)) (hb:Hd (PSs X sb u)):Hd (PS X (.If c sa sb pos) (tIfS tt t u)):=⟨ps_if hc.out ha.out hb.out⟩
theorem ws_expr (he:Hd (PE X e te)) (hs:swapsWith e none pos.line X.env=pure false:=by rfl):Hd (PS X (.Expr e pos) (tDrop te)):=⟨ps_expr he.out hs⟩
theorem ws_set {i:Nat}{x:Str}{pos':Pos} (hN:X.N.Nodup) (hi:X.N[i]?=some x) (hx:Loc X.env.scope x) (he:Hd (PE X e te)) (hs:swapsWith e (some (.Name x pos')) pos.line X.env=pure false:=by rfl) (hf:X.fn x=true\/X.env.scope.names.lookup x=some .local:=by first | exact .inl rfl | exact .inr rfl | assumption) :
  Hd (PS X (.Assign [.Name x pos'] e pos) (tAsg te (gName i))):=⟨ps_set hN hi hx he.out hs hf⟩
theorem ws_asg (he:Hd (PE X e te)) (hg:Hd (PG X tg g)) (hs:swapsWithSole [tg] e pos.line X.env=pure false:=by rfl) (hw:swappedStores [tg] e X.env=pure none:=by rfl) (h1:(assignEach [tg] X.env).map (·.2)=[assign tg X.env]:=by rfl) :
  Hd (PS X (.Assign [tg] e pos) (tAsg te g)):=⟨ps_asg he.out hg.out hs hw h1⟩
theorem ws_for {body:List Stmt} (hp:PassesOwn (model X.prog X.w) X.A X.env X.xe) (hc:X.calm=true) (hi:Hd (PI X tg iter wi)) (hg:Hd (PG X tg g)) (hb:Hd (PSs X body t)) (hs:∀ x,foldedSetIterable iter X.env x=pure x:=by intro _;rfl):Hd (PS X (.For tg iter body [] pos) (tFor wi g t)):=⟨ps_for hp hc hi.out hg.out hb.out hs⟩
theorem ws_while {body:List Stmt} (hp:PassesOwn (model X.prog X.w) X.A X.env X.xe) (hc:Hd (PT X c tt)) (hb:Hd (PSs X body t)):Hd (PS X (.While c body [] pos) (tWhile tt t)):=⟨ps_while hp hc.out hb.out⟩
variable {ifs:List Expr}{scope:Scope}{Nt:List Str}{fr:List (Str×Nat)}{gz:ZC->TG}{tz:ZC->TT}{ez:ZC->TE}
theorem wif_nil:Hd (PIfs X [] tAll):=⟨pif_nil⟩
theorem wif_one (h:Hd (PT X c tt)):Hd (PIfs X [c] tt):=⟨pif_one h.out⟩
theorem we_lc (L:LcOk X scope Nt fr) (hcalm:X.calm=true) (hi:Hd (PI X tg iter wi)) (hg:∀ z,Hd (PG (cxC X scope (Nt++fr.map (·.1)) z) tg (gz z))) (hgt:∀ z,Tgt Nt.length (gz z))
  (hc:∀ z,Hd (PIfs (cxC X scope (Nt++fr.map (·.1)) z) ifs (tz z))) (he:∀ z,Hd (PE (cxC X scope (Nt++fr.map (·.1)) z) e (ez z))) (hs:∀ x,foldedSetIterable iter X.env x=pure x:=by intro _;rfl) :
  Hd (PE X (.ListComp e [⟨tg,iter,ifs,0⟩] scope pos) (tLC wi Nt.length fr gz tz ez)):=⟨pe_lc L hcalm hi.out (fun z=>(hg z).out) hgt (fun z=>(hc z).out) (fun z=>(he z).out) hs⟩
theorem ws_lc {y:Str}{j:Nat}{py spos:Pos} (hN:X.N.Nodup) (hj:X.N[j]?=some y) (hy:Loc X.env.scope y) (L:LcOk X scope Nt fr) (hcalm:X.calm=true) (hi:Hd (PI X tg iter wi)) (hg:∀ z,Hd (PG (cxC X scope (Nt++fr.map (·.1)) z) tg (gz z))) (hgt:∀ z,Tgt Nt.length (gz z))
  (hc:∀ z,Hd (PIfs (cxC X scope (Nt++fr.map (·.1)) z) ifs (tz z))) (he:∀ z,Hd (PE (cxC X scope (Nt++fr.map (·.1)) z) e (ez z))) (hs:∀ x,foldedSetIterable iter X.env x=pure x:=by intro _;rfl)
  (hsw:swapsWith (.ListComp e [⟨tg,iter,ifs,0⟩] scope pos) (some (.Name y py)) spos.line X.env=pure true:=by rfl)
  (hff:X.fn y=true\/X.env.scope.names.lookup y=some .local:=by first | exact .inl rfl | exact .inr rfl | assumption) :
  Hd (PS X (.Assign [.Name y py] (.ListComp e [⟨tg,iter,ifs,0⟩] scope pos) spos) (tLCset wi Nt.length fr gz tz ez j)):=⟨ps_lc L hcalm hN hj hy hi.out (fun z=>(hg z).out) hgt (fun z=>(hc z).out) (fun z=>(he z).out) hs hsw hff⟩
end
section
variable {P:Program}{w:World}{K:PySem.W.Frag}{mg:Str->Option Value}{base:Heap}
theorem Fun.okH {x qual:Str}{st:Stmt}{f:Addr}{fd:FuncData}{N ps:List Str}{k:Nat}{sp:Sp} (F:Fun K x qual st f fd) (S:FnScope N ps (defScope st)) (len:∀ vs H Q E,sp vs H Q E->vs.length=ps.length)
  (hbody:∀ (cdv:Value) (A:Around) (outer:List Env) (s:Shared) (H:Hp) (vs:List V) (Q:VK) (E:XK),Room k (A.deeper (envOfC qual (defScope st) s.heap.objs.size f cdv))->sp vs H Q E ->
   ∃ t,Hd (PSs (cxOf CX0 P w K mg base N qual (defScope st) f cdv A outer s H E).nox (defBody st) t)/\t { nx:=fun _ H'=>Q .non H',rt:=Q } (start N vs) H):FnOk P w K mg base CX0 (k+1) f fd ps sp:=
 F.ok S len fun cdv A outer s H vs Q E hr h=>let ⟨t,h1,h2⟩:=hbody cdv A outer s H vs Q E hr h;⟨t,h1.out,h2⟩
end
end L2
end
section
namespace Kn
open PySem PySem.W PyProof.Rows
def krun {α:Type} (lt:Nat->Nat->Bool):KasT α->α
 | .ret a=>a
 | .ask i j k=>krun lt (k (lt i j))
theorem krun_bind {α β:Type} (lt:Nat->Nat->Bool) (f:α->KasT β):∀ t:KasT α,krun lt (t.bind f)=krun lt (f (krun lt t))
 | .ret _=>rfl
 | .ask i j k=>krun_bind lt f (k (lt i j))
section
variable (r:Nat->Nat)
def kat (p:Array Nat) (i:Nat):Nat:=r (p.getD i 0)
def Srt (p:Array Nat) (m:Nat):Prop:=∀ i j,i<j->j<m->kat r p i<kat r p j
variable {r}
end
end Kn
end
section
namespace Kn
open PySem
theorem sLt_total {x y:Str} (h:x≠y):sLt y x=!sLt x y:=by
 have ne:x.cps.toList≠y.cps.toList:=fun e=>h (by cases x;cases y;congr 1;exact Array.toList_inj.mp e)
 unfold sLt
 by_cases a:x.cps.toList<y.cps.toList
 ·have b:¬y.cps.toList<x.cps.toList:=fun b=>List.lt_irrefl _ (List.lt_trans a b)
  simp [a,b]
 ·have b:y.cps.toList<x.cps.toList:=Classical.byContradiction fun b=>ne (List.le_antisymm (List.not_lt.mp b) (List.not_lt.mp a))
  simp [a,b]
theorem cmpK_anti:∀ {a b:List KE}{r:Bool},cmpK a b=some r->a≠b->cmpK b a=some (!r)
 | [],[],_,_,h=>absurd rfl h
 | [],_::_,_,h,_=>by cases h;rfl
 | _::_,[],_,h,_=>by cases h;rfl
 | a::as,b::bs,r,h,hne=>by
  by_cases e:a=b
  ·subst e
   rw[cmpK_same]at h ⊢
   exact cmpK_anti h fun z=>hne (by rw[z])
  ·rw[cmpK,if_neg e]at h
   rw[cmpK,if_neg (fun z=>e z.symm)]
   cases a with
   | i m=>
    cases b with
    | i n=>
     have mn:m≠n:=fun z=>e (by rw[z])
     cases h
     show some (decide (n<m))=_
     by_cases c:m<n
     ·simp [c];lia
     ·simp [c];lia
    | s y=>cases h
   | s x=>
    cases b with
    | i n=>cases h
    | s y=>
     cases h
     show some (sLt y x)=_
     rw[sLt_total fun z=>e (by rw[z])]
theorem key_inj {x y:Val} (h:key x=key y):x=y:=by
 by_cases e:x=y
 ·exact e
 ·exfalso
  have same:∀ (l r s:List KE),cmpK (l++r) (l++s)=cmpK r s:=fun l r s=>by
   induction l with
   | nil=>rfl
   | cons a l ih=>rw[List.cons_append,List.cons_append,cmpK_same,ih]
  have h1:=cmp_key x y [.i 0] [.i 1]
  have h2:=cmp_key x y [.i 1] [.i 0]
  rw[if_neg e,h,same,cmpK_int (by decide)]at h1
  rw[if_neg e,h,same,cmpK_int (by decide)]at h2
  rw[<- h1]at h2
  exact absurd h2 (by decide)
theorem ahead_total {x y:Val} (h:x≠y):aheadB y x=!aheadB x y:=by
 have:=cmpK_anti (cmp_keys x y) fun e=>h (key_inj e)
 rw[cmp_keys]at this
 exact Option.some.inj this
theorem ahead_irrefl (x:Val):aheadB x x=false:=by unfold aheadB;rw[if_pos rfl]
theorem ahead_asymm {x y:Val} (h:aheadB x y=true):aheadB y x=false:=by
 have ne:x≠y:=fun e=>by rw[e,ahead_irrefl]at h;cases h
 rw[ahead_total ne,h];rfl
noncomputable def cnt (v:Val):List (Val×Int)->Int
 | []=>0
 | p::ps=>(if p.1=v then p.2 else 0)+cnt v ps
theorem cnt_append (v:Val) (a b:List (Val×Int)):cnt v (a++b)=cnt v a+cnt v b:=by
 induction a with
 | nil=>simp [cnt]
 | cons p a ih=>rw[List.cons_append,cnt,cnt,ih];lia
theorem cnt_perm (v:Val) {a b:List (Val×Int)} (h:a.Perm b):cnt v a=cnt v b:=by
 induction h with
 | nil=>rfl
 | cons p _ ih=>rw[cnt,cnt,ih]
 | swap p q l=>rw[cnt,cnt,cnt,cnt];lia
 | trans _ _ h1 h2=>rw[h1,h2]
theorem cnt_none {v:Val}{a:List (Val×Int)} (h:∀ p∈a,p.1≠v):cnt v a=0:=by
 induction a with
 | nil=>rfl
 | cons p a ih=>rw[cnt,if_neg (h p List.mem_cons_self),ih fun q hq=>h q (List.mem_cons_of_mem _ hq)];rfl
def Rise (ps:List (Val×Int)):Prop:=ps.Pairwise fun p q=>aheadB p.1 q.1=true
def IsBag (xs qs:List (Val×Int)):Prop:=Rise qs/\(∀ q∈qs,q.2≠0)/\∀ v,cnt v qs=cnt v xs
theorem Rise.cnt {ps:List (Val×Int)} (h:Rise ps):∀ {p},p∈ps->Kn.cnt p.1 ps=p.2:=by
 induction ps with
 | nil=>intro p hp;cases hp
 | cons q ps ih=>
  intro p hp
  have h':=List.pairwise_cons.mp h
  rw[Kn.cnt]
  rcases List.mem_cons.mp hp with e | hm
  ·subst e
   rw[if_pos rfl,cnt_none fun r hr e=>?_]
   ·lia
   ·have:=h'.1 r hr
    rw[e,ahead_irrefl]at this
    cases this
  ·have:=h'.1 p hm
   rw[if_neg (fun e=>by rw[e,ahead_irrefl]at this;cases this),ih h'.2 hm]
   lia
theorem mem_of_cnt {ps:List (Val×Int)} (h:Rise ps) {v:Val} (hv:cnt v ps≠0):(v,cnt v ps)∈ps:=by
 have:∃ p∈ps,p.1=v:=Classical.byContradiction fun z=>hv (cnt_none fun p hp e=>z ⟨p,hp,e⟩)
 obtain⟨p,hp,e⟩:=this
 have:=h.cnt hp
 rw[e]at this
 rw[this]
 subst e
 exact hp
theorem bag_mem {xs qs:List (Val×Int)} (h:IsBag xs qs) (p:Val×Int):p∈qs ↔ (p.2≠0/\cnt p.1 xs=p.2):=by
 constructor
 ·intro hp
  exact⟨h.2.1 p hp,by rw[<- h.2.2];exact h.1.cnt hp⟩
 ·rintro⟨h1,h2⟩
  have:=mem_of_cnt h.1 (v:=p.1) (by rw[h.2.2,h2];exact h1)
  rw[h.2.2,h2]at this
  exact this
theorem rise_unique:∀ {a b:List (Val×Int)},Rise a->Rise b->(∀ p,p∈a ↔ p∈b)->a=b
 | [],[],_,_,_=>rfl
 | [],q::b,_,_,h=>absurd ((h q).mpr List.mem_cons_self) (by simp)
 | p::a,[],_,_,h=>absurd ((h p).mp List.mem_cons_self) (by simp)
 | p::a,q::b,ha,hb,h=>by
  have ha':=List.pairwise_cons.mp ha
  have hb':=List.pairwise_cons.mp hb
  have e:p=q:=by
   rcases List.mem_cons.mp ((h p).mp List.mem_cons_self) with e | m
   ·exact e
   ·rcases List.mem_cons.mp ((h q).mpr List.mem_cons_self) with e | m'
    ·exact e.symm
    ·have h1:=hb'.1 p m
     have h2:=ha'.1 q m'
     rw[ahead_asymm h1]at h2
     cases h2
  subst e
  have na:∀ r∈a,r≠p:=fun r hr e=>by have:=ha'.1 r hr;rw[e,ahead_irrefl]at this;cases this
  have nb:∀ r∈b,r≠p:=fun r hr e=>by have:=hb'.1 r hr;rw[e,ahead_irrefl]at this;cases this
  rw[rise_unique ha'.2 hb'.2 fun r=>⟨fun hr=>((List.mem_cons.mp ((h r).mp (List.mem_cons_of_mem _ hr))).resolve_left (na r hr)),fun hr=>((List.mem_cons.mp ((h r).mpr (List.mem_cons_of_mem _ hr))).resolve_left (nb r hr))⟩]
theorem bag_unique {xs ys a b:List (Val×Int)} (ha:IsBag xs a) (hb:IsBag ys b) (h:∀ v,cnt v xs=cnt v ys):a=b:=
 rise_unique ha.1 hb.1 fun p=>by rw[bag_mem ha,bag_mem hb,h]
noncomputable def nAhead (v:Val) (ys:List Val):Nat:=(ys.filter fun y=>aheadB y v).length
def RiseV (ys:List Val):Prop:=ys.Pairwise fun p q=>aheadB p q=true
theorem nAhead_split {v:Val}{ys:List Val} (h:RiseV ys) (hv:v ∉ ys):(∀ y∈ys.take (nAhead v ys),aheadB y v=true)/\(∀ y∈ys.drop (nAhead v ys),aheadB v y=true):=by
 induction ys with
 | nil=>exact⟨fun y hy=>by simp at hy,fun y hy=>by simp at hy⟩
 | cons y ys ih=>
  have h':=List.pairwise_cons.mp h
  have ne:y≠v:=fun e=>hv (by rw[e];exact List.mem_cons_self)
  have ih':=ih h'.2 fun m=>hv (List.mem_cons_of_mem _ m)
  by_cases c:aheadB y v=true
  ·have e:nAhead v (y::ys)=nAhead v ys+1:=by unfold nAhead;rw[List.filter_cons,if_pos c];rfl
   rw[e]
   refine⟨fun z hz=>?_,fun z hz=>?_⟩
   ·rw[List.take_succ_cons]at hz
    rcases List.mem_cons.mp hz with e | m
    ·rw[e];exact c
    ·exact ih'.1 z m
   ·exact ih'.2 z hz
  ·have c':aheadB v y=true:=by
    have:=ahead_total ne
    rw[this]
    simpa using c
   have no:nAhead v ys=0:=by
    unfold nAhead
    rw[List.length_eq_zero_iff,List.filter_eq_nil_iff]
    intro z hz cz
    have:=ahead_trans c' (h'.1 z hz)
    rw[ahead_asymm this]at cz
    cases cz
   have e:nAhead v (y::ys)=0:=by unfold nAhead at no ⊢;rw[List.filter_cons,if_neg c];exact no
   rw[e]
   refine⟨fun z hz=>by simp at hz,fun z hz=>?_⟩
   rw[List.drop_zero]at hz
   rcases List.mem_cons.mp hz with e | m
   ·rw[e];exact c'
   ·exact ahead_trans c' (h'.1 z m)
theorem rise_put {v:Val}{ys:List Val} (h:RiseV ys) (hv:v ∉ ys):RiseV (ys.take (nAhead v ys)++v::ys.drop (nAhead v ys)):=by
 obtain⟨h1,h2⟩:=nAhead_split h hv
 refine List.pairwise_append.mpr ⟨h.sublist (List.take_sublist _ _),List.pairwise_cons.mpr ⟨h2,h.sublist (List.drop_sublist _ _)⟩,fun a ha b hb=>?_⟩
 rcases List.mem_cons.mp hb with e | m
 ·rw[e];exact h1 a ha
 ·exact ahead_trans (h1 a ha) (h2 b m)
end Kn
end
section
namespace Kn
open PySem PySem.W PyProof.Rows
def Asks {α:Type} (n:Nat) (R:α->Prop):KasT α->Prop
 | .ret a=>R a
 | .ask i j k=>i<n/\j<n/\∀ b,Asks n R (k b)
theorem Asks.bind {α β:Type} {n:Nat}{R:α->Prop}{S:β->Prop}{f:α->KasT β} (hf:∀ a,R a->Asks n S (f a)):∀ {t:KasT α},Asks n R t->Asks n S (t.bind f)
 | .ret a,h=>hf a h
 | .ask _ _ k,h=>⟨h.1,h.2.1,fun b=>Asks.bind hf (h.2.2 b)⟩
theorem wp_of_run {α:Type} {n:Nat}{R:α->Prop}{lt:Nat->Nat->Bool}{cmp:Nat->Nat->(Bool->Shared->Prop)->Shared->Prop}{Q:α->Shared->Prop}{s:Shared}
  (hc:∀ i j C,i<n->j<n->C (lt i j) s->cmp i j C s):∀ {t:KasT α},Asks n R t->Q (krun lt t) s->t.kasWp cmp Q s
 | .ret _,_,q=>q
 | .ask i j k,h,q=>hc i j _ h.1 h.2.1 (wp_of_run hc (h.2.2 _) q)
def Gn (n:Nat) (p:Array Nat):Prop:=∀ x∈p.toList,x<n
theorem Gn.get {n:Nat}{p:Array Nat} (h0:0<n) (h:Gn n p) (i:Nat):p.getD i 0<n:=by
 rw[Array.getD_eq_getD_getElem?]
 cases e:p[i]? with
 | none=>exact h0
 | some x=>exact h x (Array.mem_toList_iff.mpr (Array.mem_of_getElem? e))
theorem Gn.perm {n:Nat}{p q:Array Nat} (h:Gn n p) (e:q.Perm p):Gn n q:=fun x hx=>h x (Array.mem_toList_iff.mpr (e.mem_iff.mp (Array.mem_toList_iff.mp hx)))
section
variable {n:Nat} (h0:0<n)
include h0
theorem asks_asc {p:Array Nat} (g:Gn n p):∀ f m,Asks n (fun _=>True) (kas_asc p f m)
 | 0,_=>trivial
 | f+1,m=>by
  rw[kas_asc]
  refine⟨g.get h0 _,g.get h0 _,fun b=>?_⟩
  dsimp only
  split
  ·trivial
  ·exact asks_asc g f _
theorem asks_desc:∀ (f:Nat) (p:Array Nat) (m q:Nat),Gn n p->Asks n (fun r:Array Nat×Nat×Nat=>Gn n r.1) (kas_desc f p m q)
 | 0,p,_,_,g=>g
 | f+1,p,m,q,g=>by
  rw[kas_desc]
  refine⟨g.get h0 _,g.get h0 _,fun b=>?_⟩
  dsimp only
  by_cases hb:b=true
  ·rw[if_pos hb]
   split
   ·exact asks_desc f _ _ _ (g.perm (mirror_perm _ _ _ _))
   ·exact asks_desc f _ _ _ g
  ·rw[if_neg hb]
   refine⟨g.get h0 _,g.get h0 _,fun b=>?_⟩
   dsimp only
   split
   ·exact g
   ·exact asks_desc f _ _ _ g
theorem asks_tail {p:Array Nat} (g:Gn n p) (m k:Nat):Asks n (fun r:Nat×Array Nat=>Gn n r.2) (kas_tail3 m k p):=by
 unfold kas_tail3
 refine Asks.bind (R:=fun _=>True) (fun m _=>?_) (asks_asc h0 (g.perm (mirror_perm _ _ _ _)) _ _)
 exact g.perm (mirror_perm _ _ _ _)
theorem asks_descPart {p:Array Nat} (g:Gn n p) (m k:Nat):Asks n (fun r:Nat×Array Nat=>Gn n r.2) (kas_descPart m k p):=by
 unfold kas_descPart
 refine Asks.bind (fun r hr=>?_) (asks_desc h0 _ p _ _ g)
 split
 ·exact asks_tail h0 (Gn.perm hr (mirror_perm _ _ _ _)) _ _
 ·exact asks_tail h0 hr _ _
theorem asks_count {p:Array Nat} (g:Gn n p) (k:Nat):Asks n (fun r:Nat×Array Nat=>Gn n r.2) (kas_count k p):=by
 unfold kas_count
 refine Asks.bind (fun m _=>?_) (asks_asc h0 g _ _)
 split
 ·exact g
 split
 ·refine⟨g.get h0 _,g.get h0 _,fun b=>?_⟩
  dsimp only
  split
  ·exact g
  ·exact asks_descPart h0 (g.perm (mirror_perm _ _ _ _)) _ _
 ·exact asks_descPart h0 g _ _
theorem asks_place {p:Array Nat} (g:Gn n p) (k:Nat):∀ f l u,Asks n (fun _=>True) (kas_place p k f l u)
 | 0,_,_=>trivial
 | f+1,l,u=>by
  rw[kas_place]
  split
  ·trivial
  ·refine⟨g.get h0 _,g.get h0 _,fun b=>?_⟩
   dsimp only
   split
   ·exact asks_place g k f _ _
   ·exact asks_place g k f _ _
theorem asks_bin:∀ (f:Nat) (p:Array Nat) (k:Nat),Gn n p->Asks n (fun _=>True) (kas_bin f p k)
 | 0,_,_,_=>trivial
 | f+1,p,k,g=>by
  rw[kas_bin]
  exact Asks.bind (fun l _=>asks_bin f _ _ (g.perm (bubble_perm _ _ _))) (asks_place h0 g _ _ _ _)
theorem asks_sort:Asks n (fun _=>True) (kas_sort n):=by
 unfold kas_sort
 refine Asks.bind (fun r hr=>?_) (asks_count h0 (p:=(List.range n).toArray) (fun x hx=>by simpa using hx) n)
 split
 ·exact asks_bin h0 _ _ _ hr
 ·trivial
end
def vAt (xs:List Val) (i:Nat):Val:=xs[i]?.getD (.num 0)
theorem vAt_eq {xs:List Val}{i:Nat} (h:i<xs.length):vAt xs i=xs[i]:=by unfold vAt;rw[List.getElem?_eq_getElem h];rfl
end Kn
end
section
namespace L2
open PySem PySem.Spec PyProof.Rows PySem.W
open Kn (KE cmpK kEl sLt key aheadB RiseV vAt)
def kk:KE->Key
 | .i n=>.inl n
 | .s x=>.inr x
theorem kV_kk (e:KE):kV (kk e)=kv e:=by cases e <;> rfl
theorem kk_inj {a b:KE} (h:kk a=kk b):a=b:=by
 cases a <;> cases b <;> first | (injection h with h;rw[h]) | cases h
theorem map_kk (l:List KE):(l.map kk).map kV=l.map kv:=by
 rw[List.map_map]
 exact List.map_congr_left fun e _=>kV_kk e
theorem kdl_raw {prog:Program}{w:World}{d:Addr}{es:Array DictEntry}{ep:Nat} (lo:(d == sysModules)=false):KdlSrc prog w "dict" d d es.size (fun i v=>∃ e,es[i]?=some e/\v=e.key) (fun h=>DRaw h d es ep) where
 type:=fun _ m=>m.type
 there:=fun _ m=>⟨m.lt,m.lt⟩
 keep:=fun _ _ m k=>m.at fun o e=>k d (.inl rfl) o e
 notList:=by decide
 notTuple:=by decide
 hint:=fun _ _ _ _ m q=>kdl_hint_dict m.type q
 iter:=fun _ _ hh m=>⟨_,_,(fun _ _ q=>draw_iter lo m q),walks_raw hh _ d (Nat.ne_of_lt m.lt) es ep,⟨⟨_,Heap.get?_push_size _ rfl,rfl,rfl⟩,m.at fun o e=>Heap.get?_push_of_some _ e⟩⟩
section
variable {prog:Program}{w:World}{A:Around}{E:Value->Shared->Prop}{s:Shared}
end
section
variable {X:Cx}
theorem kt_get {H:Hp}:∀ {kvs:List (List Key×V)}{ts:List (List Key×Addr×Value)}{i:Nat}{q:List Key×Addr×Value},KT H kvs ts->ts[i]?=some q->∃ p,kvs[i]?=some p/\p.1=q.1/\H q.2.1=some (.tup (p.1.map kV))
 | _,_,_,_,.nil,e=>by simp at e
 | _,_,0,_,.cons r _,e=>by simp at e;subst e;exact⟨_,rfl,r.1,r.2.1⟩
 | _,_,i+1,q,.cons _ t,e=>by
  obtain⟨p,h1,h2⟩:=kt_get (i:=i) (q:=q) t (by simpa using e)
  exact⟨p,by simpa using h1,h2⟩
end
end L2
end
section
namespace L2
open PySem PySem.Spec PyProof.Rows
section
variable {X:Cx}
variable {pos:Pos}{e f o:Expr}{te tf to:TE}
theorem we_dnewT:Hd (PE X (.Dict [] [] pos) tDNewT):=⟨pe_dnewT⟩
theorem m2_of {m:Str}{apos cpos:Pos} (hb:attributeBase o m X.env (eval o X.env)=eval o X.env) (h1:notStar e=true) (h2:notStar f=true) (hline:(apos.endLine == cpos.line)=true):M2 X o m apos e f cpos:=
 ⟨hb,few_of (by show (notStar e && (notStar f && true))=true;rw[h1,h2];rfl) (by show 2<29;decide),hline,by rw[star_cons h1,star_cons h2];rfl⟩
theorem we_dget2 {apos cpos:Pos} (hu:X.A.units+1<cLine) (ho:Hd (PE X o to)) (he:Hd (PE X e te)) (hf:Hd (PE X f tf)) (hb:attributeBase o "get" X.env (eval o X.env)=eval o X.env:=by rfl) (h1:notStar e=true:=by rfl) (h2:notStar f=true:=by rfl) (hline:(apos.endLine == cpos.line)=true:=by rfl) :
  Hd (PE X (.Call (.Attribute o "get" apos) [e,f] [] cpos) (tDGet2 to te tf)):=⟨pe_dget2 hu ho.out he.out hf.out (m2_of hb h1 h2 hline)⟩
end
end L2
end
section
namespace L2
open PySem PySem.Spec PyProof.Rows
section
variable {X:Cx}
end
end L2
end
section
namespace L2
open PySem PySem.Spec PyProof.Rows
section
variable {X:Cx}
end
end L2
end
section
namespace L2
open PySem PySem.Spec PyProof.Rows
section
variable {prog:Program}{w:World}{A:Around}{E:Value->Shared->Prop}{s:Shared}{a:Addr}{zs:List Str}
end
end L2
end
section
namespace L2
open PySem PySem.Spec PyProof.Rows
section
variable {prog:Program}{w:World}{A:Around}{R:Result->Shared->Prop}{I:Addr}{fp wr:List Addr}{G:Array GenState->Array GenState->Prop}{n:Nat}{P:Nat->Value->Prop}{St:Nat->Shared->Prop}
end
section
variable {prog:Program}{w:World}{A:Around}{E:Value->Shared->Prop}{s:Shared}
end
end L2
end
section
namespace L2
open PySem PySem.Spec PyProof.Rows
section
variable {M:Model}{prog:Program}{w:World}{A:Around}{E:Value->Shared->Prop}{s:Shared}
end
end L2
end
section
namespace L2
open PySem PySem.Spec PyProof.Rows PySem.W
section
variable {prog:Program}{w:World}{A:Around}{E:Value->Shared->Prop}{s:Shared}
end
end L2
end
section
namespace L2
open PySem PySem.Spec PyProof.Rows PySem.W
section
variable {prog:Program}{w:World}{A:Around}{E:Value->Shared->Prop}{s:Shared}
end
end L2
end
section
namespace L2
open PySem PySem.Spec PyProof.Rows
theorem bt_dict:bootBuiltins "dict"=some (.type "dict"):=by decide +kernel
section
variable {X:Cx}
end
end L2
end
section
namespace L2
open PySem PySem.Spec PyProof.Rows
section
variable {X:Cx}
def rEqLK (K:PySem.W.Frag):R2:=fun x y H Q=>∃ a b xs,x=.ref a/\y=.ref b/\SqL K H a xs/\H b=some (.lst [])/\Q (.bl (decide (xs=[]))) H
theorem op_eqLK (hu:X.A.units<cLine):OpR X (compareOp .Eq) (rEqLK X.K):=by
 intro pins s σ H x y v u Q I rx ry h
 obtain⟨a,b,xs,rfl,rfl,ha,hb,q⟩:=h
 cases rx
 cases ry
 obtain⟨its,r,p,_⟩:=I.list ha
 obtain⟨its2,r2,p2,_⟩:=I.list (SqL.of hb)
 cases r2
 by_cases hx:xs=[]
 ·subst hx
  cases r
  refine SeqAt.RcAt.lists (A:=X.A) (e:=fun _=>true) p.isList p2.isList rfl hu (fun j h1=>by simp at h1) _ _ _ _ ⟨.bl true,H,I,rfl,?_⟩
  simpa using q
 ·refine SeqAt.RcAt.lists_lengths (A:=X.A) p.isList p2.isList ?_ hu _ _ _ _ ⟨.bl false,H,I,rfl,?_⟩
  ·have:=r.length
   have h0:its≠[]:=fun z=>hx (by subst z;cases xs with | nil=>rfl | cons _ _=>simp at this)
   cases its with
   | nil=>exact absurd rfl h0
   | cons _ _=>simp
  ·rw[decide_eq_false hx]at q
   exact q
end
section
variable {H:Hp}{p c:Addr}{cs:List Int}{n r t:Int}{kn:Option Int}{kvs:List (Key×V)}
end
def Ex (p:Addr) (H H':Hp):Prop:=∀ b o,b≠p->H b=some o->H' b=some o
theorem Ex.refl (p:Addr) (H:Hp):Ex p H H:=fun _ _ _ h=>h
theorem Ex.trans {p:Addr}{H H1 H2:Hp} (a:Ex p H H1) (b:Ex p H1 H2):Ex p H H2:=fun c o n h=>b c o n (a c o n h)
theorem ex_upd {p:Addr}{H:Hp}{o:HO}:Ex p H (upd H p o):=fun b u n h=>by rw[upd_ne n];exact h
theorem ex_new {p q:Addr}{H:Hp}{o:HO} (h:H q=none):Ex p H (upd H q o):=fun b u n e=>by rw[upd_ne (ne_of_none e h)];exact e
theorem Same.ex {p:Addr}{H H':Hp} (s:Same H H'):Ex p H H':=fun b o _ h=>s b o h
end L2
end
section
namespace L2
open PySem PySem.Spec PyProof.Rows
def CMulB (i j:Int):Prop:=i.natAbs<2 ^ 600/\j.natAbs<2 ^ 600
theorem bits_le {a:Int} (h:a.natAbs<2 ^ 600):Builtin.Int.intBits a<=2 ^ 20:=by
 unfold Builtin.Int.intBits
 split
 ·exact Nat.zero_le _
 ·rename_i z
  have hz:a.natAbs≠0:=by first | exact fun e=>z (by simpa using e) | (intro e;apply z;lia)
  have:=(Nat.log2_lt hz).mpr h
  lia
section
variable {X:Cx}
theorem op_mulB:OpR X (binaryOp .Mult) (rI CMulB fun i j=>.int (i * j)):=opI fun _ _ _ _ _ _ _ hc q=>mul_int q (.of_bits (bits_le hc.1) (bits_le hc.2))
end
end L2
end
section
namespace L2
open PySem PySem.Spec PyProof.Rows PyProof.V
section
variable {X:Cx}
variable {pos:Pos}
end
end L2
end
section
namespace L2
open PySem PySem.Spec PyProof.Rows
section
variable {X:Cx}{pos pos' apos:Pos}{o e value:Expr}{es:List Expr}{f:Str}{ta tv to te:TE}{tA:TA}
theorem we_fld (he:Hd (PE X e ta)) (hb:attributeBase e f X.env (eval e X.env)=eval e X.env:=by rfl):Hd (PE X (.Attribute e f pos) (tFld X.K ta f)):=⟨pe_fld he.out hb⟩
theorem ws_fld (ha:Hd (PE X o ta)) (hv:Hd (PE X value tv)) (hs:swapsWith value (some (.Attribute o f pos')) pos.line X.env=pure false:=by rfl):Hd (PS X (.Assign [.Attribute o f pos'] value pos) (sFld X.K ta tv f)):=⟨ps_fld ha.out hv.out hs⟩
theorem we_meth {CX:CXT}{k:Nat}{C fa:Addr}{fd:FuncData}{ps:List Str}{sp:Sp}{dvs:List V}{ds:List Value}{E:XK}{m:Str}{pl:Sem Bool} (he:Hd (PE X o ta)) (c:Cls X.K C) (hm:Meth X.K C m fa) (F:FnOk X.prog X.w X.K X.mg X.base CX k fa fd ps sp) (hr:Room k X.A) (hb:Binds X.K fd ps ds) (hd:Vals dvs ds) (hx:Passes CX X E)
  (ha:Hd (PA X (e::es) tA)) (hs:noStars (e::es)=true:=by rfl) (ht:eval (.Call (.Attribute o m apos) (e::es) [] pos) X.env=(do
   let ov <- eval o X.env
   standAt apos.atName
   let (f,first) <- holding [ov] (getMethod ov m pl)
   callWith pos f first (backTo pos (starEach (e::es) X.env)) (backToKw pos (keywordEach [] X.env))):=by rfl):Hd (PE X (.Call (.Attribute o m apos) (e::es) [] pos) (tMeth C m sp dvs E ta tA)):=by
 have h':(notStar e && noStars es)=true:=hs
 rw[Bool.and_eq_true]at h'
 exact⟨pe_meth he.out c hm F hr hb hd hx ha.out (star_cons h'.1) (stars_any h'.2) ht⟩
theorem we_meth0 {CX:CXT}{k:Nat}{C fa:Addr}{fd:FuncData}{ps:List Str}{sp:Sp}{dvs:List V}{ds:List Value}{E:XK}{m:Str}{pl:Sem Bool} (he:Hd (PE X o ta)) (c:Cls X.K C) (hm:Meth X.K C m fa) (F:FnOk X.prog X.w X.K X.mg X.base CX k fa fd ps sp) (hr:Room k X.A) (hb:Binds X.K fd ps ds) (hd:Vals dvs ds) (hx:Passes CX X E)
  (ht:eval (.Call (.Attribute o m apos) [] [] pos) X.env=(do
   let ov <- eval o X.env
   standAt apos.atName
   let (f,first) <- holding [ov] (getMethod ov m pl)
   callWith pos f first (backTo pos (starEach [] X.env)) (backToKw pos (keywordEach [] X.env))):=by rfl):Hd (PE X (.Call (.Attribute o m apos) [] [] pos) (tMeth C m sp dvs E ta tNil)):=⟨pe_meth0 he.out c hm F hr hb hd hx ht⟩
theorem vals_get:∀ {xs:List V}{us:List Value}{i:Nat}{v:Value},Vals xs us->us[i]?=some v->∃ x,xs[i]?=some x/\RelV x v
 | _,_,i,v,.nil,e=>by simp at e
 | _,_,0,v,.cons r _,e=>by simp at e;subst e;exact⟨_,rfl,r⟩
 | _,_,i+1,v,.cons _ t,e=>by
  obtain⟨x,h1,h2⟩:=vals_get (i:=i) t (by simpa using e)
  exact⟨x,by simpa using h1,h2⟩
end
end L2
end
section
namespace L2
open PySem PySem.Spec PyProof.Rows
section
variable {X:Cx}
end
end L2
end
section
namespace Kn
open PySem PySem.W PyProof.Rows
section
variable {lt:Nat->Nat->Bool}
theorem prm_desc:∀ (f:Nat) (p:Array Nat) (m q:Nat),(krun lt (kas_desc f p m q)).1.Perm p
 | 0,p,_,_=>by rw[kas_desc];exact .refl _
 | f+1,p,m,q=>by
  rw[kas_desc,krun]
  split
  ·split
   ·exact (prm_desc f _ _ _).trans (mirror_perm _ _ _ _)
   ·exact prm_desc f _ _ _
  ·rw[krun]
   split
   ·exact .refl _
   ·exact prm_desc f _ _ _
theorem prm_tail (p:Array Nat) (m k:Nat):(krun lt (kas_tail3 m k p)).2.Perm p:=by
 unfold kas_tail3
 rw[krun_bind]
 exact mirror_perm _ _ _ _
theorem prm_descPart (p:Array Nat) (m k:Nat):(krun lt (kas_descPart m k p)).2.Perm p:=by
 unfold kas_descPart
 rw[krun_bind]
 split
 ·exact (prm_tail _ _ _).trans ((mirror_perm _ _ _ _).trans (prm_desc _ _ _ _))
 ·exact (prm_tail _ _ _).trans (prm_desc _ _ _ _)
theorem prm_count (p:Array Nat) (k:Nat):(krun lt (kas_count k p)).2.Perm p:=by
 unfold kas_count
 rw[krun_bind]
 split
 ·exact .refl _
 split
 ·rw[krun]
  split
  ·exact .refl _
  ·exact (prm_descPart _ _ _).trans (mirror_perm _ _ _ _)
 ·exact prm_descPart _ _ _
theorem prm_bin:∀ (f:Nat) (p:Array Nat) (k:Nat),(krun lt (kas_bin f p k)).Perm p
 | 0,p,_=>by rw[kas_bin];exact .refl _
 | f+1,p,k=>by
  rw[kas_bin,krun_bind]
  exact (prm_bin f _ _).trans (bubble_perm _ _ _)
theorem prm_sort (n:Nat):(krun lt (kas_sort n)).Perm (List.range n).toArray:=by
 unfold kas_sort
 rw[krun_bind]
 split
 ·exact (prm_bin _ _ _).trans (prm_count _ _)
 ·exact prm_count _ _
end
end Kn
namespace L2
open PySem PySem.Spec PyProof.Rows PySem.W
open Kn (sLt krun)
mutual
noncomputable def ltD:Dt->Dt->Option Bool
 | .int i,e=>match e with | .int j=>some (decide (i<j)) | _=>none
 | .str x,e=>match e with | .str y=>some (sLt x y) | _=>none
 | .tup ds,e=>match e with | .tup es=>ltDs ds es | _=>none
noncomputable def ltDs:List Dt->List Dt->Option Bool
 | [],es=>some (decide (es≠[]))
 | d::ds,es=>match es with | []=>some false | e::es=>if d=e then ltDs ds es else ltD d e
end
def RcLt (P:Program) (w:World) (A:Around) (s:Shared) (x y:Value) (r:Bool):Prop:=∀ (E:Value->Shared->Prop) (Q:Value->Shared->Prop),Q (.bool r) s->wpAny (model P w) A (richCompare .Lt x y) Q E s
section
open PySem.SeqAt
open PySem.AutoSeq1 (wpAny_loadPart')
open PySem.MeetsSeq PySem.MeetsSeq2 PySem.MeetsSeq3
variable {P:Program}{w:World}{H:Hp}
inductive DRow (H:Hp):List Dt->List Value->Prop
 | nil:DRow H [] []
 | cons {d:Dt}{v:V}{x:Value}{ds:List Dt}{us:List Value}:IsDt H d v->RelV v x->DRow H ds us->DRow H (d::ds) (x::us)
theorem drow_of:∀ {ds:List Dt}{xs:List V}{us:List Value},IsDts H ds xs->Vals xs us->DRow H ds us
 | [],_,_,h,r=>by rw[IsDts]at h;subst h;cases r;exact .nil
 | d::ds,_,_,h,r=>by
  rw[IsDts]at h
  obtain⟨y,ys,rfl,h1,h2⟩:=h
  cases r with
  | cons q t=>exact .cons h1 q (drow_of h2 t)
theorem DRow.length {ds:List Dt}{us:List Value} (h:DRow H ds us):ds.length=us.length:=by
 induction h with
 | nil=>rfl
 | cons _ _ _ ih=>simp [ih]
theorem tuple_ltD (n : Nat) (ih : ∀ (A : Around) (s : Shared) (d e : Dt) (v u : V) (x y : Value) (r : Bool), HOk P w H s.heap -> d.dep <= n -> A.units + n < cLine -> IsDt H d v -> IsDt H e u -> RelV v x -> RelV u y -> ltD d e = some r -> RcLt P w A s x y r)
    (l b : Addr) (items items2 : Array Value) (n1 n2 : Nat) (dd dd2 : Option Addr) (sl sl2 : Array (Option Value)) (ks js : List Dt) (hi : DRow H ks items.toList) (hj : DRow H js items2.toList) (hdep : depL ks <= n) (r : Bool) (hr : ltDs ks js = some r) :
    MeetsIn P w (Builtin.«tuple.__lt__» ⟨[.ref l, .ref b], []⟩)
      (fun A R s => A.units + 1 + n < cLine /\ HOk P w H s.heap /\ s.heap.get? l = some { cls := .type "tuple", dict := dd, data := .seq items n1, slots := sl } /\ s.heap.get? b = some { cls := .type "tuple", dict := dd2, data := .seq items2 n2, slots := sl2 } /\
        R (.ok (.ret (.bool r))) s) :=
  .of_wp fun A R s h => by
    obtain ⟨hp, g, d, tk, os⟩ := s; obtain ⟨hu, ok, hl, hb, h⟩ := h
    have f2 := AutoSeq1.sub_tuple_tuple
    have z1 : items.size = ks.length := by have := hi.length; simpa using this.symm
    have z2 : items2.size = js.length := by have := hj.length; simpa using this.symm
    wp_walk using wpAny_loadPart' hl, wpAny_loadPart' hb, wpAny_forIn_list _ (fun rest b s' => b.1 = none /\ s' = ⟨hp, g, d, tk, os⟩ /\ ∃ (vs ws : List Value) (ks' js' : List Dt), rest = vs.zip ws /\
      DRow H ks' vs /\ DRow H js' ws /\ depL ks' <= n /\ ks'.length + items2.size = js'.length + items.size /\ ltDs ks' js' = some r) _
    case turn =>
      rintro ⟨y, x⟩ rest b s' ⟨hb', rfl, vs, ws, ks', js', hz, hvi, hwi, hdp, hlen, hR⟩
      cases hvi with
      | nil => rw [List.zip_nil_left] at hz; cases hz
      | @cons a av ax ks' vs' ia ra hvi' =>
        cases hwi with
        | nil => rw [List.zip_nil_right] at hz; cases hz
        | @cons c cv cx js' ws' ic rc hwi' =>
              rw [List.zip_cons_cons] at hz
              injection hz with hyx hrest
              injection hyx with hy hx
              subst hy hx
              rw [ltDs] at hR
              rw [depL] at hdp
              simp only [List.length_cons] at hlen
              have he := eqAt_D n A.in1 ⟨hp, g, d, tk, os⟩ a c av cv y x ok (by lia) (by show A.units + 1 + n < cLine; lia) ia ic ra rc
              refine wpAny_bind (he P w _ _ ?_)
              by_cases ac : a = c
              · rw [decide_eq_true ac]
                rw [if_pos ac] at hR
                wp_walk
                exact ⟨rfl, rfl, _, _, _, _, hrest, hvi', hwi', by lia, by lia, hR⟩
              · rw [decide_eq_false ac]
                rw [if_neg ac] at hR
                have hri := ih A.in1 ⟨hp, g, d, tk, os⟩ a c av cv y x r ok (by lia) (by show A.units + 1 + n < cLine; lia) ia ic ra rc hR
                unfold RcLt at hri
                wp_walk using hri
                exact ⟨_, rfl, by simpa using h⟩
    case fin =>
      rintro ⟨b1, b2⟩ s' ⟨hb', rfl, vs, ws, ks', js', hz, hvi, hwi, _, hlen, hR⟩
      simp only at hb'
      subst hb'
      have hv : r = decide (items.size < items2.size) := by
        cases hvi with
        | nil =>
          cases hwi with
          | nil =>
            simp only [List.length_nil] at hlen
            rw [ltDs] at hR
            cases hR
            simp; lia
          | cons _ _ _ =>
            simp only [List.length_nil, List.length_cons] at hlen
            rw [ltDs] at hR
            cases hR
            simp; lia
        | cons _ _ _ =>
          cases hwi with
          | nil =>
            simp only [List.length_nil, List.length_cons] at hlen
            rw [ltDs] at hR
            cases hR
            exact (decide_eq_false (by lia)).symm
          | cons _ _ _ =>
            rw [List.zip_cons_cons] at hz
            cases hz
      rw [hv] at h
      wp_walk
      exact ⟨_, rfl, by simpa [Builtin.Tuple.tupleCompareSizes] using h⟩
    case h =>
      exact ⟨rfl, rfl, items.toList, items2.toList, ks, js, rfl, hi, hj, hdep, by lia, hr⟩
theorem rcLt_D:∀ (n:Nat) (A:Around) (s:Shared) (d e:Dt) (v u:V) (x y:Value) (r:Bool),HOk P w H s.heap->d.dep<=n->A.units+n<cLine->IsDt H d v->IsDt H e u->RelV v x->RelV u y->ltD d e=some r->RcLt P w A s x y r:=by
 intro n
 induction n with
 | zero=>
  intro A s d e v u x y r ok hd hu iv iu rv ru h E Q q
  cases d with
  | int i=>
   cases e with
   | int j=>
    rw[IsDt]at iv iu;subst iv iu
    obtain⟨t,rfl⟩:=rv
    obtain⟨t',rfl⟩:=ru
    rw[ltD]at h;cases h
    exact HT.rcLt_int A s i t j t' P w E Q q
   | str z=>simp [ltD]at h
   | tup es=>simp [ltD]at h
  | str i=>
   cases e with
   | int j=>simp [ltD]at h
   | str z=>
    rw[IsDt]at iv iu;subst iv iu
    obtain⟨t,rfl⟩:=rv
    obtain⟨t',rfl⟩:=ru
    rw[ltD]at h;cases h
    exact (PyProof.Rows.lt_str q:wpAny (model P w) A (compareOp .Lt (.str i t) (.str z t')) Q E s)
   | tup es=>simp [ltD]at h
  | tup ds=>rw[Dt.dep]at hd;lia
 | succ n ih=>
  intro A s d e v u x y r ok hd hu iv iu rv ru h
  cases d with
  | int i=>exact ih A s _ e v u x y r ok (by rw[Dt.dep];lia) (by lia) iv iu rv ru h
  | str i=>exact ih A s _ e v u x y r ok (by rw[Dt.dep];lia) (by lia) iv iu rv ru h
  | tup ds=>
   cases e with
   | int j=>simp [ltD]at h
   | str z=>simp [ltD]at h
   | tup es=>
    intro E Q q
    rw[ltD]at h
    rw[Dt.dep]at hd
    rw[IsDt]at iv iu
    obtain⟨a,xs,rfl,h1,h2⟩:=iv
    obtain⟨b,ys,rfl,g1,g2⟩:=iu
    cases rv
    cases ru
    obtain⟨_,its,r1,p1⟩:=ok a _ h1
    obtain⟨_,its2,r2,p2⟩:=ok b _ g1
    obtain⟨⟨cls,dd,data,sl⟩,ho,hc,n1,hd1⟩:=id p1
    obtain⟨⟨cls2,dd2,data2,sl2⟩,ho2,hc2,n2,hd2⟩:=id p2
    simp only at hc hd1 hc2 hd2
    subst hc hd1 hc2 hd2
    exact wpAny_richCompare_same_room (op:=.Lt) ⟨_,ho,rfl⟩ ⟨_,ho2,rfl⟩ PySem.F.slot_tuple_lt (call_meetsIn PySem.F.slot_tuple_lt ⟨_,ho,rfl⟩ PySem.F.entry_tuple_lt (PySem.F.args_tuple_lt_2 _ _) (tuple_ltD n ih a b its.toArray its2.toArray n1 n2 dd dd2 sl sl2 ds es (by simpa using drow_of h2 r1) (by simpa using drow_of g2 r2) (by lia) r h)
     ⟨by lia,ok,ho,ho2,show Value.bool r≠Value.notImplemented/\Q (.bool r) s from ⟨(fun x=>nomatch x),q⟩⟩) (by lia)
end
end L2
end
section
namespace L2
open PySem PySem.Spec PyProof.Rows PySem.W
open Kn (sLt krun)
theorem HOk.but {P:Program}{w:World}{H:Hp}{h h':Heap}{a:Addr} (x:HOk P w H h) (ha:H a=none) (k:∀ b u,b≠a->h.get? b=some u->h'.get? b=some u):HOk P w H h':=fun b o e=>
 (x b o e).stay (fun c u hc q=>k c u (by rintro rfl;rcases hc with rfl | hc;(· rw[ha]at e;cases e);(· rw[ha]at hc;cases hc)) q) (fun _ q=>q) fun _ _ q=>q
def tyD:Dt->String
 | .int _=>"int"
 | .str _=>"str"
 | .tup _=>"tuple"
theorem looks_tyD {P:Program}{w:World}{M:Model}{H:Hp}{h:Heap} (ok:HOk P w H h) {d:Dt}{v:V}{x:Value} (i:IsDt H d v) (r:RelV v x):Looks M h (typeOf x) (.type (tyD d)):=by
 cases d with
 | int n=>rw[IsDt]at i;subst i;obtain⟨t,rfl⟩:=r;exact .now
 | str n=>rw[IsDt]at i;subst i;obtain⟨t,rfl⟩:=r;exact .now
 | tup ds=>
  rw[IsDt]at i
  obtain⟨a,xs,rfl,h1,_⟩:=i
  cases r
  obtain⟨_,its,_,o,ho,hc,_⟩:=ok a _ h1
  have:=(show Looks M h (typeOf (.ref a)) o.cls from (Looks.ld ho).andThen .now)
  rw[hc]at this
  exact this
section
variable {prog:Program}{w:World}{A:Around}{E:Value->Shared->Prop}{s:Shared}{H:Hp}
theorem katLex_D {b fin:Bool}{Q:Bool->Shared->Prop}{n:Nat} (ok:HOk prog w H s.heap) (hu:A.units+n<cLine):∀ (ds es:List Dt) (us ws:List Value) (i:Nat) (r:Bool),DRow H ds us->DRow H es ws->depL ds<=n->ltDs ds es=some r->fin=decide (ds.length<es.length) ->
  ((b && i == 0)=true->∀ d e,ds.head?=some d->es.head?=some e->tyD d=tyD e/\tyD d≠"tuple")->Q r s->KatLex prog w A b fin Q (us.zip ws) i s
 | _,_,_,_,i,r,.nil,.nil,_,h,hf,_,q=>by
  rw[ltDs]at h;cases h
  subst hf
  refine kat_nil (by simpa using q)
 | _,_,_,_,i,r,.nil,.cons _ _ _,_,h,hf,_,q=>by
  rw[ltDs]at h;cases h
  subst hf
  refine kat_nil (by simpa using q)
 | _,_,_,_,i,r,.cons _ _ _,.nil,_,h,hf,_,q=>by
  rw[ltDs]at h;cases h
  rw[List.zip_nil_right]
  subst hf
  exact q
 | _,_,_,_,i,r,.cons (d:=d) (v:=v) (x:=x) (ds:=ds) (us:=us) iv rv t,.cons (d:=e) (v:=u) (x:=y) (ds:=es) (us:=ws) iu ru t',hd,h,hf,hb,q=>by
  rw[depL]at hd
  rw[ltDs]at h
  rw[List.zip_cons_cons]
  refine kat_cons (eqAt_D n A s d e v u x y ok (by lia) hu iv iu rv ru _ _ _ _ ?_)
  by_cases ac:d=e
  ·rw[if_pos ac]at h
   rw[decide_eq_true ac]
   refine kat_yes (katLex_D ok hu ds es us ws (i+1) r t t' (by lia) h (by rw[hf];simp) (fun z=>?_) q)
   simp at z
  ·rw[if_neg ac]at h
   rw[decide_eq_false ac]
   refine kat_no ?_
   cases hbb:(b && i == 0) with
   | false=>exact kat_one _ _ (rcLt_D n A s d e v u x y r ok (by lia) hu iv iu rv ru h _ _ q)
   | true=>
    obtain⟨t1,t2⟩:=hb hbb d e rfl rfl
    cases d with
    | int m=>
     cases e with
     | int k=>
      rw[IsDt]at iv iu;subst iv iu
      obtain⟨t,rfl⟩:=rv
      obtain⟨t',rfl⟩:=ru
      rw[ltD]at h;cases h
      exact oneLt_int q
     | str z=>simp [ltD]at h
     | tup z=>simp [ltD]at h
    | str m=>
     cases e with
     | int k=>simp [ltD]at h
     | str z=>
      rw[IsDt]at iv iu;subst iv iu
      obtain⟨t,rfl⟩:=rv
      obtain⟨t',rfl⟩:=ru
      rw[ltD]at h;cases h
      exact oneLt_str q
     | tup z=>simp [ltD]at h
    | tup ds=>exact absurd rfl t2
def DTs (H:Hp) (vs:List Value) (ds:List (List Dt)):Prop:=vs.length=ds.length/\∀ (i:Nat) (d:List Dt),ds[i]?=some d->∃ (b:Addr) (xs:List V),vs[i]?=some (Value.ref b)/\H b=some (.tup xs)/\IsDts H d xs
structure Sortable (T:String) (ds:List (List Dt)):Prop where
 first:∀ d∈ds,∃ e r,d=e::r/\tyD e=T
 tot:∀ d∈ds,∀ e∈ds,(ltDs d e).isSome=true
 dep:∀ d∈ds,depL d<=50
noncomputable def ltB (ds:List (List Dt)) (i j:Nat):Bool:=(ltDs (ds.getD i []) (ds.getD j [])).getD false
theorem DTs.firsts {T:String} (ok:HOk prog w H s.heap):∀ {vs:List Value}{ds:List (List Dt)},DTs H vs ds->(∀ d∈ds,∃ e r,d=e::r/\tyD e=T)->∃ fs,KatTups s.heap vs fs/\fs.length=vs.length/\∀ f∈fs,Looks (model prog w) s.heap (typeOf f) (.type T)
 | [],[],_,_=>⟨[],.nil,rfl,fun f hf=>(nomatch hf)⟩
 | [],_::_,t,_=>by have:=t.1;simp at this
 | _::_,[],t,_=>by have:=t.1;simp at this
 | v::vs,d::ds,t,hf=>by
  obtain⟨fs,h1,h2,h3⟩:=DTs.firsts ok (vs:=vs) (ds:=ds) ⟨by have:=t.1;simpa using this,fun i y hy=>t.2 (i+1) y (by simpa using hy)⟩ (fun d hd=>hf d (List.mem_cons_of_mem _ hd))
  obtain⟨b,xs,e1,e2,e3⟩:=t.2 0 d rfl
  obtain⟨e,r,rfl,et⟩:=hf d List.mem_cons_self
  rw[IsDts]at e3
  obtain⟨y,ys,rfl,i1,i2⟩:=e3
  have ev:v=.ref b:=by simpa using e1
  subst ev
  obtain⟨_,its,r1,o,g1,g2,n,g3⟩:=ok b _ e2
  cases r1 with
  | @cons _ u _ ur ru _=>
   refine⟨u::fs,.cons g1 g2 g3 (by simp) h1,by simp [h2],fun f hf=>?_⟩
   rcases List.mem_cons.mp hf with z | z
   ·subst z;have:=looks_tyD (M:=model prog w) ok i1 ru;rw[et]at this;exact this
   ·exact h3 f z
theorem dt_list_sort {a : Addr} {vs : List Value} {ds : List (List Dt)} {n : Nat} {T : String} {P : Fin -> Shared -> Prop} (hu : A.units + 60 < cLine) (ok : HOk prog w H s.heap) (ha : H a = none) (ho : s.heap.get? a = some (seqObj "list" vs.toArray n)) (hT : DTs H vs ds) (so : Sortable T ds) (h64 : vs.length < 64)
    (h : ∀ (p : List Nat), p.Perm (List.range vs.length) -> (2 <= vs.length -> p = (krun (ltB ds) (kas_sort vs.length)).toList) -> (vs.length < 2 -> p = List.range vs.length) -> P (.done (.ret .none)) { s with heap := sortedHeap s.heap a vs (p.map fun i => vs.getD i Value.none).toArray }) :
    wpAny (model prog w) A (Builtin.«list.sort» ⟨[.ref a], []⟩) P E s := by
  obtain ⟨e1, g1⟩ : ∃ e1, (s.heap.update a (Obj.mapSeq fun _ => (#[] : Array Value))).get? a = some (seqObj "list" #[] e1) := ⟨_, get?_update_seq ho fun _ => #[]⟩
  have g6 : (((s.heap.update a (Obj.mapSeq fun _ => (#[] : Array Value))).push (seqObj "tuple" vs.toArray 0)).push (seqObj "list" #[] 0)).get? a = some (seqObj "list" #[] e1) := Heap.get?_push_of_some _ (Heap.get?_push_of_some _ g1)
  have sb := Heap.SameBut.update s.heap a (Obj.mapSeq fun _ => (#[] : Array Value))
  have ok6 : HOk prog w H (((s.heap.update a (Obj.mapSeq fun _ => (#[] : Array Value))).push (seqObj "tuple" vs.toArray 0)).push (seqObj "list" #[] 0)) := ok.but ha fun b o nb e => Heap.get?_push_of_some _ (Heap.get?_push_of_some _ (sb.extBut b o nb e))
  rw [list_sort_plain]
  refine wpAny_bind (listItems_at ho rfl (wpAny_bind (listUpdate_at ho rfl ?_ (by rw [List.size_toArray, sizeLine_eq]; lia) (Nat.zero_le _))))
  refine wpAny_bind (seqEpoch_at g1 rfl (wpAny_bind (wpAny_newTuple ?_ (by show vs.length <= _; rw [sizeLine_eq]; lia))))
  refine wpAny_bind (wpAny_newList (wpAny_holding ?_) (Nat.zero_le _))
  show wpAny (model prog w) A _ P E { s with heap := ((s.heap.update a (Obj.mapSeq fun _ => (#[] : Array Value))).push (seqObj "tuple" vs.toArray 0)).push (seqObj "list" #[] 0) }
  dsimp only
  by_cases h2 : vs.toArray.size < 2
  · have h2' : vs.length < 2 := by simpa using h2
    rw [if_pos h2, if_pos h2]
    refine wpAny_bind (wpAny_pure ?_)
    rw [StateT.run_pure]
    refine wpAny_bind (wpAny_pure ?_)
    dsimp only
    have ez : (arrOf (SortSt.mk' general' (vs.toArray.zip vs.toArray) #[] 7 none)).map (·.2) = vs.toArray := by
      show (vs.toArray.zip vs.toArray).map (·.2) = vs.toArray
      apply Array.toList_inj.mp
      rw [Array.toList_map, Array.toList_zip]
      simp only [List.toList_toArray]
      have zz : ∀ l : List Value, (l.zip l).map (·.2) = l := fun l => by induction l with | nil => rfl | cons x l ih => simp [ih]
      exact zz vs
    rw [ez]
    refine wpAny_bind (seqEpoch_at g6 rfl (wpAny_bind (listUpdate_at g6 rfl ?_ (Nat.zero_le _) (by rw [List.size_toArray, sizeLine_eq]; lia))))
    simp only [bne_self_eq_false, Bool.false_eq_true, if_false]
    have q := h (List.range vs.length) (.refl _) (fun z => by lia) fun _ => rfl
    have zz : (List.range vs.length).map (fun i => vs.getD i Value.none) = vs := by
      refine List.ext_getElem (by simp) fun i h1 h2 => ?_
      simp [List.getD_eq_getElem?_getD, List.getElem?_eq_getElem h2]
    rw [zz] at q
    exact wpAny_pure q
  · have h2' : 2 ≤ vs.length := by have : ¬ vs.length < 2 := by simpa using h2
                                   lia
    rw [if_neg h2, if_neg h2]
    obtain ⟨fs, f1, f2, f3⟩ := hT.firsts (s := { s with heap := ((s.heap.update a (Obj.mapSeq fun _ => (#[] : Array Value))).push (seqObj "tuple" vs.toArray 0)).push (seqObj "list" #[] 0) }) ok6 so.first
    refine wpAny_bind (kat_kind (T := .type T) f1 (by rw [f2]; lia) f3 (by simp) ?_)
    have pp := Kn.prm_sort (lt := ltB ds) vs.length
    refine wpAny_bind (wpAny_mono (kat_run (ks := vs) (Q := fun st' s' => arrOf st' = (krun (ltB ds) (kas_sort vs.length)).map (kas_item (vs.toArray.zip vs.toArray)) /\ failedOf st' = none /\ s' = { s with heap := ((s.heap.update a (Obj.mapSeq fun _ => (#[] : Array Value))).push (seqObj "tuple" vs.toArray 0)).push (seqObj "list" #[] 0) })
      (G := fun q s' => q = krun (ltB ds) (kas_sort vs.length) /\ s' = { s with heap := ((s.heap.update a (Obj.mapSeq fun _ => (#[] : Array Value))).push (seqObj "tuple" vs.toArray 0)).push (seqObj "list" #[] 0) }) rfl h2' h64 (fun q st' s' _ a2 a3 ⟨a4, a5⟩ => ⟨a4 ▸ a2, a3, a5⟩) ?ask) ?_ fun _ _ e => e)
    case ask =>
      refine Kn.wp_of_run (n := vs.length) (R := fun _ => True) (lt := ltB ds) (fun i j C hi hj q => ?_) (Kn.asks_sort (by lia)) ⟨rfl, rfl⟩
      have hi' : i < ds.length := by rw [<- hT.1]; exact hi
      have hj' : j < ds.length := by rw [<- hT.1]; exact hj
      have di : ds[i]? = some ds[i] := List.getElem?_eq_getElem hi'
      have dj : ds[j]? = some ds[j] := List.getElem?_eq_getElem hj'
      obtain ⟨bi, xi, a1, a2, a3⟩ := hT.2 i _ di
      obtain ⟨bj, xj, c1, c2, c3⟩ := hT.2 j _ dj
      obtain ⟨_, ti, ri, oi, a4, a5, ni, a6⟩ := ok6 bi _ a2
      obtain ⟨_, tj, rj, oj, c4, c5, nj, c6⟩ := ok6 bj _ c2
      unfold kas_ask
      rw [List.getD_eq_getElem?_getD, List.getD_eq_getElem?_getD, a1, c1]
      refine kat_lt a4 a6 c4 c6 ?_
      have mi : ds[i] ∈ ds := List.getElem_mem _
      have mj : ds[j] ∈ ds := List.getElem_mem _
      obtain ⟨r, hr⟩ := Option.isSome_iff_exists.mp (so.tot _ mi _ mj)
      have eq : ltB ds i j = r := by
        unfold ltB
        rw [List.getD_eq_getElem?_getD, List.getD_eq_getElem?_getD, di, dj]
        show (ltDs ds[i] ds[j]).getD false = r
        rw [hr]; rfl
      rw [eq] at q
      refine katLex_D (n := 50) ok6 (by lia) ds[i] ds[j] _ _ 0 r (by simpa using drow_of a3 ri) (by simpa using drow_of c3 rj) (so.dep _ mi) hr ?_ (fun hb d e hd he => ?_) q
      · have l1 := (drow_of a3 ri).length
        have l2 := (drow_of c3 rj).length
        simp [l1, l2]
      · obtain ⟨d', r', q1, q2⟩ := so.first _ mi
        obtain ⟨e', r'', q3, q4⟩ := so.first _ mj
        rw [q1] at hd; rw [q3] at he
        cases hd; cases he
        refine ⟨q2.trans q4.symm, fun z => ?_⟩
        rw [q2] at z
        subst z
        simp at hb
    rintro ⟨⟨⟩, st'⟩ s' ⟨har, hf, rfl⟩
    dsimp only
    have hout := kat_snds rfl har
    rw [hout]
    have lp : (krun (ltB ds) (kas_sort vs.length)).toList.length = vs.length := by rw [Array.length_toList, pp.size_eq]; simp
    refine wpAny_bind (seqEpoch_at g6 rfl (wpAny_bind (listUpdate_at g6 rfl ?_ (Nat.zero_le _) (by rw [List.size_toArray, List.length_map, lp, sizeLine_eq]; lia))))
    rw [hf]
    simp only [bne_self_eq_false, Bool.false_eq_true, if_false]
    exact wpAny_pure (h _ (by have := Array.perm_iff_toList_perm.mp pp; simpa using this) (fun _ => rfl) fun z => by lia)
end
section
variable {X:Cx}
theorem vals_map {bs:List V}{us:List Value} (r:Vals bs us):∀ (p:List Nat),(∀ i∈p,i<us.length)->Vals (p.map fun i=>bs.getD i V.non) (p.map fun i=>us.getD i Value.none)
 | [],_=>.nil
 | i::p,h=>by
  refine .cons ?_ (vals_map r p fun j hj=>h j (List.mem_cons_of_mem _ hj))
  have hi:i<us.length:=h i List.mem_cons_self
  have hi':i<bs.length:=by rw[r.length];exact hi
  obtain⟨u,h1,h2⟩:=r.get (List.getElem?_eq_getElem hi')
  show RelV (bs.getD i V.non) (us.getD i Value.none)
  rw[List.getD_eq_getElem?_getD,List.getD_eq_getElem?_getD,h1,List.getElem?_eq_getElem hi']
  exact h2
theorem dts_of {H:Hp}{bs:List V}{us:List Value} (r:Vals bs us) {ds:List (List Dt)} (h:IsDts H (ds.map Dt.tup) bs):DTs H us ds:=by
 refine⟨by rw[<- r.length,h.length,List.length_map],fun i d hd=>?_⟩
 obtain⟨y,e1,e2⟩:=h.get (i:=i) (d:=.tup d) (by rw[List.getElem?_map,hd];rfl)
 obtain⟨u,f1,f2⟩:=r.get e1
 rw[IsDt]at e2
 obtain⟨a,xs,rfl,g1,g2⟩:=e2
 cases f2
 exact⟨a,xs,f1,g1,g2⟩
end
end L2
end
section
namespace Tm
open PySem PySem.W PyProof.Rows
def gallop':Bool->Keyed->Array Keyed->Nat->Nat->Nat->StateT SortSt Sem (Option Nat):=sortPriv% PySem.Builtin.gallop
def mergeLo':Array Keyed->Array Keyed->StateT SortSt Sem (Array Keyed):=sortPriv% PySem.Builtin.mergeLo
def mergeHi':Array Keyed->Array Keyed->StateT SortSt Sem (Array Keyed):=sortPriv% PySem.Builtin.mergeHi
section
variable {M:Model}{A:Around}{E:Value->Shared->Prop}{s:Shared} {κ:SortKind} {S:Keyed->Prop}{L:Keyed->Keyed->Bool}
def Cmp (M:Model) (A:Around) (E:Value->Shared->Prop) (s:Shared) (κ:SortKind) (S:Keyed->Prop) (L:Keyed->Keyed->Bool):Prop:=
 ∀ (x y:Keyed) (st:SortSt) (Q:Option Bool->SortSt->Prop),kindOf st=κ->S x->S y->Q (some (L x y)) st->wpS M A E s (lt' x y) Q st
theorem wp_elem {arr:Array Keyed}{i:Nat}{st:SortSt}{Q:Keyed->SortSt->Prop} (h:i<arr.size) (q:Q arr[i] st):wpS M A E s (elem' arr i) Q st:=by
 rw[elem'_eq,Array.getElem?_eq_getElem h]
 exact wpS_pure q
def bey (L:Keyed->Keyed->Bool) (left:Bool) (key x:Keyed):Bool:=if left=true then L x key else !(L key x)
theorem wp_bey {left:Bool}{key:Keyed}{arr:Array Keyed}{i:Nat}{st:SortSt}{Q:Option Bool->SortSt->Prop} (C:Cmp M A E s κ S L) (hk:kindOf st=κ) (h:i<arr.size) (sx:S arr[i]) (sk:S key) (q:Q (some (bey L left key arr[i])) st) :
  wpS M A E s (do let x <- elem' arr i;if left=true then lt' x key else do let r <- lt' key x;pure (r.map (!·))) Q st:=by
 refine wpS_bind (wp_elem h ?_)
 cases left with
 | true=>exact C _ _ _ _ hk sx sk q
 | false=>exact wpS_bind (C _ _ _ _ hk sk sx (wpS_pure q))
theorem wp_search {n:Nat}{B:Nat->Bool}{st:SortSt}{f:Nat->(Option (Option Nat)×Nat×Nat)->StateT SortSt Sem (ForInStep (Option (Option Nat)×Nat×Nat))}{Q:(Option (Option Nat)×Nat×Nat)->SortSt->Prop}{lo hi:Nat}
  (mono:∀ i j,i<=j->j<n->B j=true->B i=true) (h1:lo<=hi) (h2:hi<=n) (h3:∀ i,i<lo->B i=true) (h4:∀ i,hi<=i->i<n->B i=false)
  (hf:∀ (t lo hi:Nat) (R:ForInStep (Option (Option Nat)×Nat×Nat)->SortSt->Prop),lo<=hi->hi<=n->(hi<=lo->R (.done (none,lo,hi)) st) ->
   (lo<hi->(B (lo+(hi-lo) / 2)=true->R (.yield (none,lo+(hi-lo) / 2+1,hi)) st)/\(B (lo+(hi-lo) / 2)=false->R (.yield (none,lo,lo+(hi-lo) / 2)) st))->wpS M A E s (f t (none,lo,hi)) R st)
  (q:∀ k,k<=n->(∀ i,i<k->B i=true)->(∀ i,k<=i->i<n->B i=false)->Q (none,k,k) st):wpS M A E s (forIn [:n] (none,lo,hi) f) Q st:=by
 refine wpS_mono (wpS_forRange (I:=fun t c st'=>∃ lo hi,c=(none,lo,hi)/\st'=st/\lo<=hi/\hi<=n/\hi-lo<=n-t/\(∀ i,i<lo->B i=true)/\(∀ i,hi<=i->i<n->B i=false))
  (Q:=fun c st'=>∃ k,c=(none,k,k)/\st'=st/\k<=n/\(∀ i,i<k->B i=true)/\(∀ i,k<=i->i<n->B i=false)) ?step ?fin ⟨lo,hi,rfl,rfl,h1,h2,by lia,h3,h4⟩) ?post
 case fin=>
  rintro c st' ⟨lo,hi,rfl,rfl,a1,a2,a3,a4,a5⟩
  have:lo=hi:=by lia
  subst this
  exact⟨lo,rfl,rfl,a2,a4,a5⟩
 case step=>
  rintro t c st' _ ht ⟨lo,hi,rfl,rfl,a1,a2,a3,a4,a5⟩
  refine hf t lo hi _ a1 a2 (fun hge=>?_) (fun hlt=>⟨fun e=>?_,fun e=>?_⟩)
  ·have:lo=hi:=by lia
   subst this
   exact⟨lo,rfl,rfl,a2,a4,a5⟩
  ·exact⟨_,_,rfl,rfl,by lia,a2,by lia,fun i hi'=>mono i _ (by lia) (by lia) e,a5⟩
  ·refine⟨_,_,rfl,rfl,by lia,by lia,by lia,a4,fun i h5 h6=>?_⟩
   cases e':B i with
   | false=>rfl
   | true=>rw[mono _ i h5 h6 e']at e;cases e
 case post=>
  rintro c st' ⟨k,rfl,rfl,a2,a4,a5⟩
  exact q k a2 a4 a5
theorem wp_gallop {left:Bool}{key:Keyed}{arr:Array Keyed}{base n hint:Nat}{st:SortSt}{Q:Option Nat->SortSt->Prop} (C:Cmp M A E s κ S L) (hk:kindOf st=κ) (sk:S key) (hz:base+n<=arr.size) (hS:∀ i (h:i<arr.size),S arr[i]) (hh:hint<n)
  (B:Nat->Bool) (hB:∀ i (h:base+i<arr.size),i<n->bey L left key arr[base+i]=B i) (mono:∀ i j,i<=j->j<n->B j=true->B i=true)
  (q:∀ k,k<=n->(∀ i,i<k->B i=true)->(∀ i,k<=i->i<n->B i=false)->Q (some k) st):wpS M A E s (gallop' left key arr base n hint) Q st:=by
 have ask:∀ (i:Nat) (Q:Option Bool->SortSt->Prop),i<n->Q (some (B i)) st->wpS M A E s (do let x <- elem' arr (base+i);if left=true then lt' x key else do let r <- lt' key x;pure (r.map (!·))) Q st:=fun i Q hi h=>by
  have hz':base+i<arr.size:=by lia
  exact wp_bey C hk hz' (hS _ hz') sk (by rw[hB i hz' hi];exact h)
 have monoF:∀ i j,i<=j->j<n->B i=false->B j=false:=fun i j hij hj h=>by
  cases e:B j with
  | false=>rfl
  | true=>rw[mono i j hij hj e]at h;cases h
 unfold gallop'
 refine wpS_bind (ask hint _ hh ?_)
 dsimp only
 cases e0:B hint with
 | true=>
  rw[if_pos rfl]
  refine wpS_bind (wpS_mono (wpS_forRange (I:=fun t c st'=>∃ lastofs ofs,c=(none,lastofs,ofs)/\st'=st/\lastofs<ofs/\t+1<=ofs/\hint+lastofs<n/\B (hint+lastofs)=true)
   (Q:=fun c st'=>∃ lastofs ofs,c=(none,lastofs,ofs)/\st'=st/\lastofs<ofs/\hint+lastofs<n/\B (hint+lastofs)=true/\(ofs ≥ n-hint\/(hint+ofs<n/\B (hint+ofs)=false))) ?step ?fin ⟨0,1,rfl,rfl,by lia,by lia,hh,e0⟩) ?post)
  case fin=>
   rintro c st' ⟨lo,ofs,rfl,rfl,a1,a2,a3,a4⟩
   exact⟨lo,ofs,rfl,rfl,a1,a3,a4,.inl (by lia)⟩
  case step=>
   rintro t c st' _ ht ⟨lo,ofs,rfl,rfl,a1,a2,a3,a4⟩
   dsimp only
   by_cases hge:ofs ≥ n-hint
   ·rw[if_pos hge]
    exact wpS_pure ⟨lo,ofs,rfl,rfl,a1,a3,a4,.inl hge⟩
   ·rw[if_neg hge]
    refine wpS_bind (ask _ _ (by lia) ?_)
    dsimp only
    cases e:B (hint+ofs) with
    | true=>exact wpS_pure ⟨_,_,rfl,rfl,by lia,by lia,by lia,e⟩
    | false=>exact wpS_pure ⟨_,_,rfl,rfl,a1,a3,a4,.inr ⟨by lia,e⟩⟩
  case post=>
   rintro c st' ⟨lo,ofs,rfl,rfl,a1,a3,a4,a5⟩
   dsimp only
   refine wpS_bind (wp_search (B:=B) mono ?_ ?_ (fun i hi=>mono i (hint+lo) (by lia) a3 a4) (fun i h5 h6=>?_) (fun t lo hi R l1 l2 r1 r2=>?_) fun k k1 k2 k3=>wpS_pure (q k k1 k2 k3))
   ·lia
   ·lia
   ·rcases a5 with a5 | a5
    ·lia
    ·exact monoF (hint+ofs) i (by lia) h6 a5.2
   ·dsimp only
    by_cases hge:lo ≥ hi
    ·rw[if_pos hge];exact wpS_pure (r1 hge)
    ·rw[if_neg hge]
     refine wpS_bind (ask _ _ (by lia) ?_)
     cases e:B (lo+(hi-lo) / 2) with
     | true=>exact wpS_pure ((r2 (by lia)).1 e)
     | false=>exact wpS_pure ((r2 (by lia)).2 e)
 | false=>
  rw[if_neg (by decide)]
  refine wpS_bind (wpS_mono (wpS_forRange (I:=fun t c st'=>∃ lastofs ofs,c=(none,lastofs,ofs)/\st'=st/\lastofs<ofs/\t+1<=ofs/\lastofs<=hint/\B (hint-lastofs)=false)
   (Q:=fun c st'=>∃ lastofs ofs,c=(none,lastofs,ofs)/\st'=st/\lastofs<ofs/\lastofs<=hint/\B (hint-lastofs)=false/\(ofs ≥ hint+1\/(ofs<=hint/\B (hint-ofs)=true))) ?step ?fin ⟨0,1,rfl,rfl,by lia,by lia,by lia,e0⟩) ?post)
  case fin=>
   rintro c st' ⟨lo,ofs,rfl,rfl,a1,a2,a3,a4⟩
   exact⟨lo,ofs,rfl,rfl,a1,a3,a4,.inl (by lia)⟩
  case step=>
   rintro t c st' _ ht ⟨lo,ofs,rfl,rfl,a1,a2,a3,a4⟩
   dsimp only
   by_cases hge:ofs ≥ hint+1
   ·rw[if_pos hge]
    exact wpS_pure ⟨lo,ofs,rfl,rfl,a1,a3,a4,.inl hge⟩
   ·rw[if_neg hge]
    refine wpS_bind (ask _ _ (by lia) ?_)
    dsimp only
    cases e:B (hint-ofs) with
    | true=>exact wpS_pure ⟨_,_,rfl,rfl,a1,a3,a4,.inr ⟨by lia,e⟩⟩
    | false=>exact wpS_pure ⟨_,_,rfl,rfl,by lia,by lia,by lia,e⟩
  case post=>
   rintro c st' ⟨lo,ofs,rfl,rfl,a1,a3,a4,a5⟩
   dsimp only
   refine wpS_bind (wp_search (B:=B) mono ?_ ?_ (fun i hi=>?_) (fun i h5 h6=>monoF (hint-lo) i (by lia) h6 a4) (fun t lo hi R l1 l2 r1 r2=>?_) fun k k1 k2 k3=>wpS_pure (q k k1 k2 k3))
   ·lia
   ·lia
   ·rcases a5 with a5 | a5
    ·lia
    ·exact mono i (hint-ofs) (by lia) (by lia) a5.2
   ·dsimp only
    by_cases hge:lo ≥ hi
    ·rw[if_pos hge];exact wpS_pure (r1 hge)
    ·rw[if_neg hge]
     refine wpS_bind (ask _ _ (by lia) ?_)
     cases e:B (lo+(hi-lo) / 2) with
     | true=>exact wpS_pure ((r2 (by lia)).1 e)
     | false=>exact wpS_pure ((r2 (by lia)).2 e)
end
end Tm
end
section
namespace Tm
open PySem PySem.W PyProof.Rows
structure Ord (S:Keyed->Prop) (L:Keyed->Keyed->Bool):Prop where
 asym:∀ x y,S x->S y->L x y=true->L y x=false
 trans:∀ x y z,S x->S y->S z->L y x=false->L z y=false->L z x=false
def Srt (L:Keyed->Keyed->Bool) (l:List Keyed):Prop:=l.Pairwise fun x y=>L y x=false
section
variable {S:Keyed->Prop}{L:Keyed->Keyed->Bool}{la lb out:List Keyed}{ia ib:Nat}
def MI (L:Keyed->Keyed->Bool) (la lb out:List Keyed) (ia ib:Nat):Prop:=
 out.Perm (la.take ia++lb.take ib)/\Srt L out/\(∀ x∈out,∀ y∈la.drop ia,L y x=false)/\∀ x∈out,∀ y∈lb.drop ib,L y x=false
theorem srt_drop {l:List Keyed}{i:Nat} (h:Srt L l) (hi:i<l.length):∀ y∈l.drop (i+1),L y l[i]=false:=by
 have h':Srt L (l.drop i):=List.Pairwise.sublist (List.drop_sublist _ _) h
 rw[List.drop_eq_getElem_cons hi]at h'
 exact (List.pairwise_cons.mp h').1
theorem mem_drop_succ {l:List Keyed}{i:Nat}{y:Keyed} (h:y∈l.drop (i+1)):y∈l.drop i:=by
 rw[show l.drop (i+1)=(l.drop i).drop 1 by rw[List.drop_drop]]at h
 exact List.mem_of_mem_drop h
theorem mem_drop_get {l:List Keyed}{i:Nat} (h:i<l.length):l[i]∈l.drop i:=by rw[List.drop_eq_getElem_cons h];exact List.mem_cons_self
theorem MI.a (hl:Srt L la) (h:MI L la lb out ia ib) (hi:ia<la.length) (le:∀ y∈lb.drop ib,L y la[ia]=false):MI L la lb (out++[la[ia]]) (ia+1) ib:=by
 obtain⟨h1,h2,h3,h4⟩:=h
 refine⟨?_,List.pairwise_append.mpr ⟨h2,List.pairwise_singleton _ _,fun x hx y hy=>?_⟩,fun x hx y hy=>?_,fun x hx y hy=>?_⟩
 ·rw[List.take_add_one,List.getElem?_eq_getElem hi]
  show (out++[la[ia]]).Perm (la.take ia++[la[ia]]++lb.take ib)
  refine (h1.append_right _).trans ?_
  rw[List.append_assoc,List.append_assoc]
  exact List.Perm.append_left _ List.perm_append_comm
 ·rw[List.mem_singleton.mp hy];exact h3 x hx _ (mem_drop_get hi)
 ·rcases List.mem_append.mp hx with z | z
  ·exact h3 x z y (mem_drop_succ hy)
  ·rw[List.mem_singleton.mp z];exact srt_drop hl hi y hy
 ·rcases List.mem_append.mp hx with z | z
  ·exact h4 x z y hy
  ·rw[List.mem_singleton.mp z];exact le y hy
theorem MI.b (hl:Srt L lb) (h:MI L la lb out ia ib) (hi:ib<lb.length) (le:∀ y∈la.drop ia,L y lb[ib]=false):MI L la lb (out++[lb[ib]]) ia (ib+1):=by
 obtain⟨h1,h2,h3,h4⟩:=h
 refine⟨?_,List.pairwise_append.mpr ⟨h2,List.pairwise_singleton _ _,fun x hx y hy=>?_⟩,fun x hx y hy=>?_,fun x hx y hy=>?_⟩
 ·rw[List.take_add_one,List.getElem?_eq_getElem hi]
  show (out++[lb[ib]]).Perm (la.take ia++(lb.take ib++[lb[ib]]))
  rw[<- List.append_assoc]
  exact h1.append_right _
 ·rw[List.mem_singleton.mp hy];exact h4 x hx _ (mem_drop_get hi)
 ·rcases List.mem_append.mp hx with z | z
  ·exact h3 x z y hy
  ·rw[List.mem_singleton.mp z];exact le y hy
 ·rcases List.mem_append.mp hx with z | z
  ·exact h4 x z y (mem_drop_succ hy)
  ·rw[List.mem_singleton.mp z];exact srt_drop hl hi y hy
theorem take_drop_succ {l:List Keyed}{i k:Nat} (h:i+k<l.length):(l.drop i).take (k+1)=(l.drop i).take k++[l[i+k]]:=by
 rw[List.take_add_one,List.getElem?_drop,List.getElem?_eq_getElem h];rfl
theorem MI.as (hl:Srt L la) (h:MI L la lb out ia ib):∀ k,ia+k<=la.length->(∀ i (hi:ia+i<la.length),i<k->∀ y∈lb.drop ib,L y la[ia+i]=false)->MI L la lb (out++(la.drop ia).take k) (ia+k) ib
 | 0,_,_=>by simpa using h
 | k+1,hk,le=>by
  have ih:=MI.as hl h k (by lia) fun i hi hik=>le i hi (by lia)
  have:=ih.a hl (show ia+k<la.length by lia) (le k (by lia) (by lia))
  rw[take_drop_succ (by lia),<- List.append_assoc]
  exact this
theorem MI.bs (hl:Srt L lb) (h:MI L la lb out ia ib):∀ k,ib+k<=lb.length->(∀ i (hi:ib+i<lb.length),i<k->∀ y∈la.drop ia,L y lb[ib+i]=false)->MI L la lb (out++(lb.drop ib).take k) ia (ib+k)
 | 0,_,_=>by simpa using h
 | k+1,hk,le=>by
  have ih:=MI.bs hl h k (by lia) fun i hi hik=>le i hi (by lia)
  have:=ih.b hl (show ib+k<lb.length by lia) (le k (by lia) (by lia))
  rw[take_drop_succ (by lia),<- List.append_assoc]
  exact this
def Mg (L:Keyed->Keyed->Bool) (la lb r:List Keyed):Prop:=r.Perm (la++lb)/\Srt L r
theorem MI.endb (hl:Srt L la) (h:MI L la lb out ia ib) (e:ib=lb.length):Mg L la lb (out++la.drop ia++lb.drop ib):=by
 obtain⟨h1,h2,h3,h4⟩:=h
 subst e
 rw[List.drop_length,List.append_nil]
 rw[List.take_length]at h1
 refine⟨?_,List.pairwise_append.mpr ⟨h2,List.Pairwise.sublist (List.drop_sublist _ _) hl,h3⟩⟩
 refine (h1.append_right _).trans ?_
 rw[List.append_assoc]
 refine (List.Perm.append_left _ List.perm_append_comm).trans ?_
 rw[<- List.append_assoc,List.take_append_drop]
theorem MI.enda (hl:Srt L lb) (h:MI L la lb out ia ib) (e:ia=la.length):Mg L la lb (out++la.drop ia++lb.drop ib):=by
 obtain⟨h1,h2,h3,h4⟩:=h
 subst e
 rw[List.drop_length,List.append_nil]
 rw[List.take_length]at h1
 refine⟨?_,List.pairwise_append.mpr ⟨h2,List.Pairwise.sublist (List.drop_sublist _ _) hl,h4⟩⟩
 refine (h1.append_right _).trans ?_
 rw[List.append_assoc,List.take_append_drop]
theorem MI.lasta (hl:Srt L lb) (h:MI L la lb out ia ib) (e:ia+1=la.length) (le:∀ y∈lb,L la[ia] y=false):Mg L la lb (out++lb.drop ib++la.drop ia):=by
 obtain⟨h1,h2,h3,h4⟩:=h
 have hd:la.drop ia=[la[ia]]:=by rw[List.drop_eq_getElem_cons (by lia),List.drop_of_length_le (by lia)]
 refine⟨?_,?_⟩
 ·rw[List.append_assoc]
  refine (h1.append_right _).trans ?_
  rw[List.append_assoc]
  have:(lb.take ib++(lb.drop ib++la.drop ia)).Perm (la.drop ia++lb):=by
   rw[<- List.append_assoc,List.take_append_drop]
   exact List.perm_append_comm
  refine (List.Perm.append_left _ this).trans ?_
  rw[<- List.append_assoc,List.take_append_drop]
 ·rw[List.append_assoc]
  refine List.pairwise_append.mpr ⟨h2,List.pairwise_append.mpr ⟨List.Pairwise.sublist (List.drop_sublist _ _) hl,by rw[hd];exact List.pairwise_singleton _ _,fun x hx y hy=>?_⟩,fun x hx y hy=>?_⟩
  ·rw[hd]at hy
   rw[List.mem_singleton.mp hy]
   exact le x (List.mem_of_mem_drop hx)
  ·rcases List.mem_append.mp hy with z | z
   ·exact h4 x hx y z
   ·exact h3 x hx y z
end
end Tm
end
section
namespace Tm
open PySem PySem.W PyProof.Rows
def SG0 (st st':SortSt):Prop:=kindOf st'=kindOf st/\arrOf st'=arrOf st/\pendingOf st'=pendingOf st/\failedOf st'=failedOf st
theorem SG0.refl (st:SortSt):SG0 st st:=⟨rfl,rfl,rfl,rfl⟩
theorem SG0.trans {a b c:SortSt} (h:SG0 a b) (k:SG0 b c):SG0 a c:=⟨k.1.trans h.1,k.2.1.trans h.2.1,k.2.2.1.trans h.2.2.1,k.2.2.2.trans h.2.2.2⟩
theorem ext1 (a:Array Keyed) (i:Nat):(a.extract i).toList=a.toList.drop i:=by
 rw[Array.toList_extract]
 simp only[List.extract]
 rw[List.take_of_length_le (by simp)]
theorem ext2 (a:Array Keyed) (i k:Nat):(a.extract i (i+k)).toList=(a.toList.drop i).take k:=by
 rw[Array.toList_extract]
 simp [List.extract]
section
variable {M:Model}{A:Around}{E:Value->Shared->Prop}{s:Shared} {κ:SortKind} {S:Keyed->Prop}{L:Keyed->Keyed->Bool}
theorem wp_gal {left:Bool}{key:Keyed}{arr:Array Keyed}{base n hint:Nat}{st:SortSt}{Q:Option Nat->SortSt->Prop} (C:Cmp M A E s κ S L) (O:Ord S L) (hk:kindOf st=κ) (sk:S key) (hz:base+n<=arr.size) (hS:∀ i (h:i<arr.size),S arr[i]) (hh:hint<n)
  (hs:∀ i j (hi:base+i<arr.size) (hj:base+j<arr.size),i<j->j<n->L arr[base+j] arr[base+i]=false)
  (q:∀ k,k<=n->(∀ i (h:base+i<arr.size),i<k->bey L left key arr[base+i]=true)->(∀ i (h:base+i<arr.size),k<=i->i<n->bey L left key arr[base+i]=false)->Q (some k) st):wpS M A E s (gallop' left key arr base n hint) Q st:=by
 have hB:∀ i (h:base+i<arr.size),(if h:base+i<arr.size then bey L left key arr[base+i] else false)=bey L left key arr[base+i]:=fun i h=>dif_pos h
 refine wp_gallop C hk sk hz hS hh (fun i=>if h:base+i<arr.size then bey L left key arr[base+i] else false) (fun i h _=>(hB i h).symm) (fun i j hij hj e=>?_) fun k k1 k2 k3=>q k k1 (fun i h hi=>by rw[<- hB i h];exact k2 i hi) (fun i h h1 h2=>by rw[<- hB i h];exact k3 i h1 h2)
 have zj:base+j<arr.size:=by lia
 have zi:base+i<arr.size:=by lia
 rw[hB j zj]at e
 rw[hB i zi]
 by_cases eij:i=j
 ·subst eij;exact e
 have l:=hs i j zi zj (by lia) hj
 unfold bey at e ⊢
 cases left with
 | true=>
  rw[if_pos rfl]at e ⊢
  cases z:L arr[base+i] key with
  | true=>rfl
  | false=>rw[O.trans key _ _ sk (hS _ zi) (hS _ zj) z l]at e;cases e
 | false=>
  rw[if_neg (by decide)]at e ⊢
  have e':L key arr[base+j]=false:=by simpa using e
  rw[O.trans _ _ key (hS _ zi) (hS _ zj) sk l e']
  rfl
theorem wp_lo {a b : Array Keyed} {st : SortSt} {Q : Array Keyed -> SortSt -> Prop} (C : Cmp M A E s κ S L) (O : Ord S L) (hk : kindOf st = κ) (hSa : ∀ i (h : i < a.size), S a[i]) (hSb : ∀ i (h : i < b.size), S b[i])
    (ha : Srt L a.toList) (hb : Srt L b.toList) (na : 0 < a.size) (nb : 0 < b.size) (h0 : ∀ x ∈ a.toList, L b[0] x = true) (h1 : ∀ y ∈ b.toList, L y a[a.size - 1] = true)
    (q : ∀ r st', SG0 st st' -> Mg L a.toList b.toList r.toList -> Q r st') : wpS M A E s (mergeLo' a b) Q st := by
  have La : a.toList.length = a.size := Array.length_toList
  have Lb : b.toList.length = b.size := Array.length_toList
  have Sa : ∀ x ∈ a.toList, S x := fun x hx => by
    obtain ⟨i, hi, rfl⟩ := List.getElem_of_mem hx
    rw [Array.getElem_toList]; exact hSa i (by lia)
  have Sb : ∀ x ∈ b.toList, S x := fun x hx => by
    obtain ⟨i, hi, rfl⟩ := List.getElem_of_mem hx
    rw [Array.getElem_toList]; exact hSb i (by lia)
  -- what stands behind is not less
  have leA : ∀ (ia : Nat) (h : ia < a.size) (z : Keyed), S z -> L a[ia] z = false -> ∀ y ∈ a.toList.drop ia, L y z = false := fun ia h z sz e y hy => by
    rw [List.drop_eq_getElem_cons (by lia)] at hy
    rcases List.mem_cons.mp hy with rfl | hy
    · rw [Array.getElem_toList]; exact e
    · have := srt_drop ha (show ia < a.toList.length by lia) y hy
      rw [Array.getElem_toList] at this
      exact O.trans _ _ _ sz (hSa ia h) (Sa y (List.mem_of_mem_drop hy)) e this
  have leB : ∀ (ib : Nat) (h : ib < b.size) (z : Keyed), S z -> L b[ib] z = false -> ∀ y ∈ b.toList.drop ib, L y z = false := fun ib h z sz e y hy => by
    rw [List.drop_eq_getElem_cons (by lia)] at hy
    rcases List.mem_cons.mp hy with rfl | hy
    · rw [Array.getElem_toList]; exact e
    · have := srt_drop hb (show ib < b.toList.length by lia) y hy
      rw [Array.getElem_toList] at this
      exact O.trans _ _ _ sz (hSb ib h) (Sb y (List.mem_of_mem_drop hy)) e this
  have srtA : ∀ i j (hi : i < a.size) (hj : j < a.size), i < j -> L a[j] a[i] = false := fun i j hi hj hij => by
    have := List.pairwise_iff_getElem.mp ha i j (by lia) (by lia) hij
    simpa using this
  have srtB : ∀ i j (hi : i < b.size) (hj : j < b.size), i < j -> L b[j] b[i] = false := fun i j hi hj hij => by
    have := List.pairwise_iff_getElem.mp hb i j (by lia) (by lia) hij
    simpa using this
  -- the three ends
  have endB : ∀ (out : Array Keyed) (ia ib : Nat), MI L a.toList b.toList out.toList ia ib -> ib = b.size -> Mg L a.toList b.toList (out ++ a.extract ia ++ b.extract ib).toList := fun out ia ib h e => by
    rw [Array.toList_append, Array.toList_append, ext1, ext1]
    exact h.endb ha (by lia)
  have endA : ∀ (out : Array Keyed) (ia ib : Nat), MI L a.toList b.toList out.toList ia ib -> ia = a.size -> Mg L a.toList b.toList (out ++ a.extract ia ++ b.extract ib).toList := fun out ia ib h e => by
    rw [Array.toList_append, Array.toList_append, ext1, ext1]
    exact h.enda hb (by lia)
  have lastA : ∀ (out : Array Keyed) (ia ib : Nat), MI L a.toList b.toList out.toList ia ib -> ia + 1 = a.size -> Mg L a.toList b.toList (out ++ b.extract ib ++ a.extract ia).toList := fun out ia ib h e => by
    rw [Array.toList_append, Array.toList_append, ext1, ext1]
    refine h.lasta hb (by lia) fun y hy => ?_
    have e1 := h1 y hy
    have e2 : a.toList[ia]'(by lia) = a[a.size - 1] := by
      rw [Array.getElem_toList]
      congr 1; lia
    rw [e2]
    exact O.asym _ _ (Sb y hy) (hSa _ (by lia)) e1
  have pushA : ∀ (out : Array Keyed) (ia ib : Nat) (h : ia < a.size), MI L a.toList b.toList out.toList ia ib -> (∀ y ∈ b.toList.drop ib, L y a[ia] = false) -> MI L a.toList b.toList (out.push a[ia]).toList (ia + 1) ib := fun out ia ib h m le => by
    have := m.a ha (show ia < a.toList.length by lia) (by rw [Array.getElem_toList]; exact le)
    rw [Array.getElem_toList] at this
    rw [Array.toList_push]; exact this
  have pushB : ∀ (out : Array Keyed) (ia ib : Nat) (h : ib < b.size), MI L a.toList b.toList out.toList ia ib -> (∀ y ∈ a.toList.drop ia, L y b[ib] = false) -> MI L a.toList b.toList (out.push b[ib]).toList ia (ib + 1) := fun out ia ib h m le => by
    have := m.b hb (show ib < b.toList.length by lia) (by rw [Array.getElem_toList]; exact le)
    rw [Array.getElem_toList] at this
    rw [Array.toList_push]; exact this
  have m0 : MI L a.toList b.toList (#[b[0]] : Array Keyed).toList 0 1 := by
    have h00 : MI L a.toList b.toList (#[] : Array Keyed).toList 0 0 := ⟨by simp, List.Pairwise.nil, fun x hx => by simp at hx, fun x hx => by simp at hx⟩
    exact pushB #[] 0 0 nb h00 fun y hy => O.asym _ _ (hSb 0 nb) (Sa y (List.mem_of_mem_drop hy)) (h0 y (List.mem_of_mem_drop hy))
  unfold mergeLo'
  refine wpS_bind (wpS_lift (wpAny_rule ⟨rfl, ?_⟩))
  refine wpS_bind (wp_elem nb ?_)
  dsimp only
  by_cases e1 : (1 == b.size) = true
  · rw [if_pos e1]
    exact wpS_pure (q _ _ (.refl _) (endB _ _ _ m0 (by simpa using e1)))
  rw [if_neg e1]
  by_cases e2 : (0 + 1 == a.size) = true
  · rw [if_pos e2]
    exact wpS_pure (q _ _ (.refl _) (lastA _ _ _ m0 (by simpa using e2)))
  rw [if_neg e2]
  have e1' : 1 < b.size := by have : 1 ≠ b.size := by simpa using e1
                              lia
  have e2' : 0 + 1 < a.size := by have : 1 ≠ a.size := by simpa using e2
                                  lia
  refine wpS_bind (wpS_get ?_)
  refine wpS_bind (wpS_mono (wpS_forRange (I := fun t c st' => ∃ out ia ib mg, c = (none, out, ia, ib, mg) /\ SG0 st st' /\ MI L a.toList b.toList out.toList ia ib /\ ia + 1 < a.size /\ ib < b.size /\ t + 1 <= ia + ib)
    (Q := fun c st' => ∃ r out ia ib mg, c = (some r, out, ia, ib, mg) /\ SG0 st st' /\ Mg L a.toList b.toList r.toList) ?step ?fin ⟨_, _, _, _, rfl, .refl _, m0, e2', e1', by lia⟩) ?post)
  case fin =>
    rintro c st' ⟨out, ia, ib, mg, rfl, g, m, l1, l2, l3⟩
    lia
  case post =>
    rintro c st' ⟨r, out, ia, ib, mg, rfl, g, m⟩
    exact wpS_pure (q _ _ g m)
  case step =>
    rintro t c st1 _ ht ⟨out, ia, ib, mg, rfl, g1, m1, l1, l2, l3⟩
    have hk1 : kindOf st1 = κ := g1.1.trans hk
    dsimp only
    refine wpS_bind (wpS_mono (wpS_forRange (I := fun u c st' => ∃ out ia ib ac bc, c = (none, out, ia, ib, ac, bc) /\ st' = st1 /\ MI L a.toList b.toList out.toList ia ib /\ ia + 1 < a.size /\ ib < b.size /\ t + 1 <= ia + ib /\ (1 <= u -> t + 2 <= ia + ib))
      (Q := fun c st' => st' = st1 /\ ((∃ r out ia ib ac bc, c = (some r, out, ia, ib, ac, bc) /\ Mg L a.toList b.toList r.toList) \/ ∃ out ia ib ac bc, c = (none, out, ia, ib, ac, bc) /\ MI L a.toList b.toList out.toList ia ib /\ ia + 1 < a.size /\ ib < b.size /\ t + 2 <= ia + ib)) ?istep ?ifin ⟨_, _, _, _, _, rfl, rfl, m1, l1, l2, l3, by lia⟩) ?ipost)
    case ifin =>
      rintro c st' ⟨out, ia, ib, ac, bc, rfl, rfl, m, k1, k2, k3, k4⟩
      exact ⟨rfl, .inr ⟨_, _, _, _, _, rfl, m, k1, k2, k4 (by lia)⟩⟩
    case istep =>
      rintro u c st' _ hu ⟨out, ia, ib, ac, bc, rfl, rfl, m, k1, k2, k3, k4⟩
      dsimp only
      refine wpS_bind (wp_elem k2 ?_)
      refine wpS_bind (wp_elem (show ia < a.size by lia) ?_)
      refine wpS_bind (C _ _ _ _ hk1 (hSb _ k2) (hSa _ (by lia)) ?_)
      dsimp only
      cases eL : L b[ib] a[ia] with
      | true =>
        rw [if_pos rfl]
        refine wpS_bind (wp_elem k2 ?_)
        have m' := pushB out ia ib k2 m (leA ia (by lia) _ (hSb _ k2) (O.asym _ _ (hSb _ k2) (hSa _ (by lia)) eL))
        by_cases z : (ib + 1 == b.size) = true
        · rw [if_pos z]
          exact wpS_pure ⟨rfl, .inl ⟨_, _, _, _, _, _, rfl, endB _ _ _ m' (by simpa using z)⟩⟩
        · rw [if_neg z]
          have z' : ib + 1 < b.size := by have : ib + 1 ≠ b.size := by simpa using z
                                          lia
          split
          · exact wpS_pure ⟨rfl, .inr ⟨_, _, _, _, _, rfl, m', k1, z', by lia⟩⟩
          · exact wpS_pure ⟨_, _, _, _, _, rfl, rfl, m', k1, z', by lia, fun _ => by lia⟩
      | false =>
        rw [if_neg (by decide)]
        refine wpS_bind (wp_elem (show ia < a.size by lia) ?_)
        have m' := pushA out ia ib (by lia) m (leB ib k2 _ (hSa _ (by lia)) eL)
        by_cases z : (ia + 1 + 1 == a.size) = true
        · rw [if_pos z]
          exact wpS_pure ⟨rfl, .inl ⟨_, _, _, _, _, _, rfl, lastA _ _ _ m' (by simpa using z)⟩⟩
        · rw [if_neg z]
          have z' : ia + 1 + 1 < a.size := by have : ia + 1 + 1 ≠ a.size := by simpa using z
                                              lia
          split
          · exact wpS_pure ⟨rfl, .inr ⟨_, _, _, _, _, rfl, m', z', k2, by lia⟩⟩
          · exact wpS_pure ⟨_, _, _, _, _, rfl, rfl, m', z', k2, by lia, fun _ => by lia⟩
    case ipost =>
      rintro c st' ⟨rfl, ⟨r, out, ia, ib, ac, bc, rfl, m⟩ | ⟨out, ia, ib, ac, bc, rfl, m, k1, k2, k3⟩⟩
      · exact wpS_pure ⟨_, _, _, _, _, rfl, g1, m⟩
      dsimp only
      refine wpS_bind (wpS_lift (wpAny_rule ⟨rfl, ?_⟩))
      refine wpS_bind (wpS_mono (wpS_forRange (I := fun u c st'' => ∃ out ia ib mg ac bc, c = (none, out, ia, ib, mg, ac, bc) /\ SG0 st st'' /\ MI L a.toList b.toList out.toList ia ib /\ ia + 1 < a.size /\ ib < b.size /\ t + 2 <= ia + ib)
        (Q := fun c st'' => SG0 st st'' /\ ((∃ r out ia ib mg ac bc, c = (some r, out, ia, ib, mg, ac, bc) /\ Mg L a.toList b.toList r.toList) \/ ∃ out ia ib mg ac bc, c = (none, out, ia, ib, mg, ac, bc) /\ MI L a.toList b.toList out.toList ia ib /\ ia + 1 < a.size /\ ib < b.size /\ t + 2 <= ia + ib)) ?gstep ?gfin ⟨_, _, _, _, _, _, rfl, g1, m, k1, k2, k3⟩) ?gpost)
      case gfin =>
        rintro c st'' ⟨out, ia, ib, mg, ac, bc, rfl, g, m, k1, k2, k3⟩
        exact ⟨g, .inr ⟨_, _, _, _, _, _, rfl, m, k1, k2, k3⟩⟩
      case gpost =>
        rintro c st'' ⟨g, ⟨r, out, ia, ib, mg, ac, bc, rfl, m⟩ | ⟨out, ia, ib, mg, ac, bc, rfl, m, k1, k2, k3⟩⟩
        · exact wpS_pure ⟨_, _, _, _, _, rfl, g, m⟩
        dsimp only
        refine wpS_bind (wpS_modify ?_)
        exact wpS_pure ⟨_, _, _, _, rfl, g.trans ⟨rfl, rfl, rfl, rfl⟩, m, k1, k2, k3⟩
      case gstep =>
        rintro u c st2 _ hu ⟨out, ia, ib, mg, ac, bc, rfl, g2, m, k1, k2, k3⟩
        dsimp only
        have key : ∀ (x y : Keyed), bey L false x y = true -> L x y = false := fun x y h => by simpa [bey] using h
        have key' : ∀ (x y : Keyed), bey L false x y = false -> L x y = true := fun x y h => by simpa [bey] using h
        by_cases c1 : mg > 1
        case' pos => rw [if_pos c1]
        case' neg => rw [if_neg c1]
        all_goals
          refine wpS_bind (wpS_modify ?_)
          have g3 : SG0 st (SortSt.mk' (kindOf st2) (arrOf st2) (pendingOf st2) _ (failedOf st2)) := g2.trans ⟨rfl, rfl, rfl, rfl⟩
          refine wpS_bind (wp_elem k2 ?_)
          refine wpS_bind (wp_gal (left := false) C O (g2.1.trans hk) (hSb _ k2) (by lia) hSa (by lia) (fun i j hi hj hij hjn => srtA _ _ hi hj (by lia)) fun k kn kt kf => ?_)
          dsimp only
          rcases Nat.eq_zero_or_pos k with c2 | c2
          case' inl =>
            rw [if_neg (by lia)]
            have mX := m
            have kX := k1
            have leX := leA ia (by lia) _ (hSb _ k2) (O.asym _ _ (hSb _ k2) (hSa _ (by lia)) (key' _ _ (kf 0 (by lia) (by lia) (by lia))))
            have zX : ia <= ia := Nat.le_refl _
          case' inr =>
            rw [if_pos c2]
            have mX : MI L a.toList b.toList (out ++ a.extract ia (ia + k)).toList (ia + k) ib := by
              rw [Array.toList_append, ext2]
              refine m.as ha k (by lia) fun i hi hik => ?_
              rw [Array.getElem_toList]
              exact leB ib k2 _ (hSa _ (by lia)) (key _ _ (kt i (by lia) hik))
            by_cases z1 : (ia + k + 1 == a.size) = true
            · rw [if_pos z1]
              exact wpS_pure ⟨g3, .inl ⟨_, _, _, _, _, _, _, rfl, lastA _ _ _ mX (by simpa using z1)⟩⟩
            rw [if_neg z1]
            by_cases z2 : (ia + k == a.size) = true
            · rw [if_pos z2]
              exact wpS_pure ⟨g3, .inl ⟨_, _, _, _, _, _, _, rfl, endA _ _ _ mX (by simpa using z2)⟩⟩
            rw [if_neg z2]
            have kX : ia + k + 1 < a.size := by
              have t1 : ia + k + 1 ≠ a.size := by simpa using z1
              have t2 : ia + k ≠ a.size := by simpa using z2
              lia
            have leX := leA (ia + k) (by lia) _ (hSb _ k2) (O.asym _ _ (hSb _ k2) (hSa _ (by lia)) (key' _ _ (kf k (by lia) (by lia) (by lia))))
            have zX : ia <= ia + k := by lia
          all_goals
            refine wpS_bind (wp_elem k2 ?_)
            have m2 := pushB _ _ ib k2 mX leX
            by_cases z : (ib + 1 == b.size) = true
            · rw [if_pos z]
              exact wpS_pure ⟨g3, .inl ⟨_, _, _, _, _, _, _, rfl, endB _ _ _ m2 (by simpa using z)⟩⟩
            rw [if_neg z]
            have z' : ib + 1 < b.size := by have : ib + 1 ≠ b.size := by simpa using z
                                            lia
            refine wpS_bind (wp_elem (Nat.lt_of_succ_lt kX) ?_)
            refine wpS_bind (wp_gal (left := true) C O (g2.1.trans hk) (hSa _ (Nat.lt_of_succ_lt kX)) (by lia) hSb (by lia) (fun i j hi hj hij hjn => srtB _ _ hi hj (by lia)) fun k' kn' kt' kf' => ?_)
            dsimp only
            have keyT : ∀ (x y : Keyed), bey L true x y = true -> L y x = true := fun x y h => by simpa [bey] using h
            have keyF : ∀ (x y : Keyed), bey L true x y = false -> L y x = false := fun x y h => by simpa [bey] using h
            rcases Nat.eq_zero_or_pos k' with c3 | c3
            case' inl =>
              rw [if_neg (by lia)]
              have mY := m2
              have kY := z'
              have leY := leB (ib + 1) z' _ (hSa _ (Nat.lt_of_succ_lt kX)) (keyF _ _ (kf' 0 (by lia) (by lia) (by lia)))
              have yY : ib + 1 <= ib + 1 := Nat.le_refl _
            case' inr =>
              rw [if_pos c3]
              have mY := m2.bs hb k' (by lia) fun i hi hik => by
                rw [Array.getElem_toList]
                exact leA _ (Nat.lt_of_succ_lt kX) _ (hSb _ (by lia)) (O.asym _ _ (hSb _ (by lia)) (hSa _ (Nat.lt_of_succ_lt kX)) (keyT _ _ (kt' i (by lia) hik)))
              rw [<- ext2, <- Array.toList_append] at mY
              by_cases z3 : (ib + 1 + k' == b.size) = true
              · rw [if_pos z3]
                exact wpS_pure ⟨g3, .inl ⟨_, _, _, _, _, _, _, rfl, endB _ _ _ mY (by simpa using z3)⟩⟩
              rw [if_neg z3]
              have kY : ib + 1 + k' < b.size := by have : ib + 1 + k' ≠ b.size := by simpa using z3
                                                   lia
              have leY := leB (ib + 1 + k') kY _ (hSa _ (Nat.lt_of_succ_lt kX)) (keyF _ _ (kf' k' (by lia) (by lia) (by lia)))
              have yY : ib + 1 <= ib + 1 + k' := by lia
            all_goals
              refine wpS_bind (wp_elem (Nat.lt_of_succ_lt kX) ?_)
              have m3 := pushA _ _ _ (Nat.lt_of_succ_lt kX) mY leY
              split
              · rename_i z4
                exact wpS_pure ⟨g3, .inl ⟨_, _, _, _, _, _, _, rfl, lastA _ _ _ m3 (by simpa using z4)⟩⟩
              · rename_i z4
                simp only [beq_iff_eq] at z4
                split
                · exact wpS_pure ⟨g3, .inr ⟨_, _, _, _, _, _, rfl, m3, by lia, kY, by lia⟩⟩
                · exact wpS_pure ⟨_, _, _, _, _, _, rfl, g3, m3, by lia, kY, by lia⟩
end
end Tm
end
section
namespace Tm
open PySem PySem.W PyProof.Rows
section
variable {S:Keyed->Prop}{L:Keyed->Keyed->Bool}{la lb lo:List Keyed}{na nb:Nat}
def MH (L:Keyed->Keyed->Bool) (la lb lo:List Keyed) (na nb:Nat):Prop:=
 lo.Perm (la.drop na++lb.drop nb)/\Srt L lo/\(∀ x∈la.take na,∀ y∈lo,L y x=false)/\∀ x∈lb.take nb,∀ y∈lo,L y x=false
theorem srt_take {l:List Keyed}{i:Nat} (h:Srt L l) (hi:i<l.length):∀ x∈l.take i,L l[i] x=false:=by
 have h':Srt L (l.take i++l.drop i):=by rw[List.take_append_drop];exact h
 intro x hx
 exact (List.pairwise_append.mp h').2.2 x hx _ (mem_drop_get hi)
theorem mem_take_succ {l:List Keyed}{i:Nat}{y:Keyed} (h:y∈l.take i):y∈l.take (i+1):=by
 rw[List.take_add_one];exact List.mem_append_left _ h
theorem mem_take_get {l:List Keyed}{i:Nat} (h:i<l.length):l[i]∈l.take (i+1):=by
 rw[List.take_add_one,List.getElem?_eq_getElem h];exact List.mem_append_right _ (by simp)
theorem MH.a (hl:Srt L la) (h:MH L la lb lo (na+1) nb) (hi:na<la.length) (le:∀ x∈lb.take nb,L la[na] x=false):MH L la lb (la[na]::lo) na nb:=by
 obtain⟨h1,h2,h3,h4⟩:=h
 refine⟨?_,List.pairwise_cons.mpr ⟨fun y hy=>h3 _ (mem_take_get hi) y hy,h2⟩,fun x hx y hy=>?_,fun x hx y hy=>?_⟩
 ·rw[List.drop_eq_getElem_cons hi];exact h1.cons _
 ·rcases List.mem_cons.mp hy with rfl | hy
  ·exact srt_take hl hi x hx
  ·exact h3 x (mem_take_succ hx) y hy
 ·rcases List.mem_cons.mp hy with rfl | hy
  ·exact le x hx
  ·exact h4 x hx y hy
theorem MH.b (hl:Srt L lb) (h:MH L la lb lo na (nb+1)) (hi:nb<lb.length) (le:∀ x∈la.take na,L lb[nb] x=false):MH L la lb (lb[nb]::lo) na nb:=by
 obtain⟨h1,h2,h3,h4⟩:=h
 refine⟨?_,List.pairwise_cons.mpr ⟨fun y hy=>h4 _ (mem_take_get hi) y hy,h2⟩,fun x hx y hy=>?_,fun x hx y hy=>?_⟩
 ·rw[List.drop_eq_getElem_cons hi]
  exact (h1.cons _).trans List.perm_middle.symm
 ·rcases List.mem_cons.mp hy with rfl | hy
  ·exact le x hx
  ·exact h3 x hx y hy
 ·rcases List.mem_cons.mp hy with rfl | hy
  ·exact srt_take hl hi x hx
  ·exact h4 x (mem_take_succ hx) y hy
theorem MH.as (hl:Srt L la):∀ (k:Nat) {lo:List Keyed},MH L la lb lo (na+k) nb->na+k<=la.length->(∀ i (hi:na+i<la.length),i<k->∀ x∈lb.take nb,L la[na+i] x=false)->MH L la lb ((la.drop na).take k++lo) na nb
 | 0,lo,h,_,_=>by simpa using h
 | k+1,lo,h,hk,le=>by
  have:=MH.as hl k (MH.a hl h (show na+k<la.length by lia) (le k (by lia) (by lia))) (by lia) fun i hi hik=>le i hi (by lia)
  rw[take_drop_succ (by lia),List.append_assoc]
  exact this
theorem MH.bs (hl:Srt L lb):∀ (k:Nat) {lo:List Keyed},MH L la lb lo na (nb+k)->nb+k<=lb.length->(∀ i (hi:nb+i<lb.length),i<k->∀ x∈la.take na,L lb[nb+i] x=false)->MH L la lb ((lb.drop nb).take k++lo) na nb
 | 0,lo,h,_,_=>by simpa using h
 | k+1,lo,h,hk,le=>by
  have:=MH.bs hl k (MH.b hl h (show nb+k<lb.length by lia) (le k (by lia) (by lia))) (by lia) fun i hi hik=>le i hi (by lia)
  rw[take_drop_succ (by lia),List.append_assoc]
  exact this
theorem MH.cast {nb':Nat} (h:MH L la lb lo na nb) (e:nb'=nb):MH L la lb lo na nb':=by rw[e];exact h
theorem MH.enda (hl:Srt L lb) (h:MH L la lb lo na nb) (e:na=0):Mg L la lb (la.take na++lb.take nb++lo):=by
 obtain⟨h1,h2,h3,h4⟩:=h
 subst e
 rw[List.take_zero,List.nil_append]
 refine⟨?_,List.pairwise_append.mpr ⟨List.Pairwise.sublist (List.take_sublist _ _) hl,h2,h4⟩⟩
 refine (List.Perm.append_left _ h1).trans ?_
 rw[List.drop_zero,<- List.append_assoc]
 refine (List.Perm.append_right _ List.perm_append_comm).trans ?_
 rw[List.append_assoc,List.take_append_drop]
theorem MH.endb (hl:Srt L la) (h:MH L la lb lo na nb) (e:nb=0):Mg L la lb (la.take na++lb.take nb++lo):=by
 obtain⟨h1,h2,h3,h4⟩:=h
 subst e
 rw[List.take_zero,List.append_nil]
 refine⟨?_,List.pairwise_append.mpr ⟨List.Pairwise.sublist (List.take_sublist _ _) hl,h2,h3⟩⟩
 refine (List.Perm.append_left _ h1).trans ?_
 rw[List.drop_zero,<- List.append_assoc,List.take_append_drop]
theorem MH.firstb (hl:Srt L la) (h:MH L la lb lo na nb) (e:nb=1) (z:0<lb.length) (le:∀ x∈la,L x lb[0]=false):Mg L la lb (lb.take nb++la.take na++lo):=by
 obtain⟨h1,h2,h3,h4⟩:=h
 subst e
 have hd:lb.take 1=[lb[0]]:=by rw[show (1:Nat)=0+1 from rfl,List.take_add_one,List.getElem?_eq_getElem z];rfl
 refine⟨?_,?_⟩
 ·refine (List.Perm.append_left _ h1).trans ?_
  rw[List.append_assoc]
  refine (List.perm_append_comm).trans ?_
  rw[<- List.append_assoc,List.take_append_drop,List.append_assoc]
  refine List.Perm.append_left _ (List.perm_append_comm.trans ?_)
  rw[List.take_append_drop]
 ·rw[List.append_assoc]
  refine List.pairwise_append.mpr ⟨by rw[hd];exact List.pairwise_singleton _ _,List.pairwise_append.mpr ⟨List.Pairwise.sublist (List.take_sublist _ _) hl,h2,h3⟩,fun x hx y hy=>?_⟩
  rcases List.mem_append.mp hy with w | w
  ·rw[hd]at hx
   rw[List.mem_singleton.mp hx]
   exact le y (List.mem_of_mem_take w)
  ·exact h4 x hx y w
end
theorem ext0 (a:Array Keyed) (i:Nat):(a.extract 0 i).toList=a.toList.take i:=by
 rw[Array.toList_extract]
 simp [List.extract]
theorem ext3 (a:Array Keyed) {i j:Nat} (h:i<=j):(a.extract i j).toList=(a.toList.drop i).take (j-i):=by
 rw[Array.toList_extract]
theorem cat_rev (u:Array Keyed) (v:Array Keyed):(u++v.reverse).toList.reverse=v.toList++u.toList.reverse:=by
 rw[Array.toList_append,Array.toList_reverse,List.reverse_append,List.reverse_reverse]
section
variable {M:Model}{A:Around}{E:Value->Shared->Prop}{s:Shared} {κ:SortKind} {S:Keyed->Prop}{L:Keyed->Keyed->Bool}
theorem wp_hi {a b : Array Keyed} {st : SortSt} {Q : Array Keyed -> SortSt -> Prop} (C : Cmp M A E s κ S L) (O : Ord S L) (hk : kindOf st = κ) (hSa : ∀ i (h : i < a.size), S a[i]) (hSb : ∀ i (h : i < b.size), S b[i])
    (ha : Srt L a.toList) (hb : Srt L b.toList) (na : 0 < a.size) (nb : 0 < b.size) (h0 : ∀ x ∈ a.toList, L b[0] x = true) (h1 : ∀ y ∈ b.toList, L y a[a.size - 1] = true)
    (q : ∀ r st', SG0 st st' -> Mg L a.toList b.toList r.toList -> Q r st') : wpS M A E s (mergeHi' a b) Q st := by
  have La : a.toList.length = a.size := Array.length_toList
  have Lb : b.toList.length = b.size := Array.length_toList
  have Sa : ∀ x ∈ a.toList, S x := fun x hx => by
    obtain ⟨i, hi, rfl⟩ := List.getElem_of_mem hx
    rw [Array.getElem_toList]; exact hSa i (by lia)
  have Sb : ∀ x ∈ b.toList, S x := fun x hx => by
    obtain ⟨i, hi, rfl⟩ := List.getElem_of_mem hx
    rw [Array.getElem_toList]; exact hSb i (by lia)
  have leA : ∀ (i : Nat) (h : i < a.size) (z : Keyed), S z -> L z a[i] = false -> ∀ x ∈ a.toList.take (i + 1), L z x = false := fun i h z sz e x hx => by
    rw [List.take_add_one, List.getElem?_eq_getElem (by lia)] at hx
    rcases List.mem_append.mp hx with w | w
    · have := srt_take ha (show i < a.toList.length by lia) x w
      rw [Array.getElem_toList] at this
      exact O.trans _ _ _ (Sa x (List.mem_of_mem_take w)) (hSa i h) sz this e
    · have : x = a[i] := by simpa using w
      rw [this]; exact e
  have leB : ∀ (i : Nat) (h : i < b.size) (z : Keyed), S z -> L z b[i] = false -> ∀ x ∈ b.toList.take (i + 1), L z x = false := fun i h z sz e x hx => by
    rw [List.take_add_one, List.getElem?_eq_getElem (by lia)] at hx
    rcases List.mem_append.mp hx with w | w
    · have := srt_take hb (show i < b.toList.length by lia) x w
      rw [Array.getElem_toList] at this
      exact O.trans _ _ _ (Sb x (List.mem_of_mem_take w)) (hSb i h) sz this e
    · have : x = b[i] := by simpa using w
      rw [this]; exact e
  have srtA : ∀ i j (hi : i < a.size) (hj : j < a.size), i < j -> L a[j] a[i] = false := fun i j hi hj hij => by
    have := List.pairwise_iff_getElem.mp ha i j (by lia) (by lia) hij
    simpa using this
  have srtB : ∀ i j (hi : i < b.size) (hj : j < b.size), i < j -> L b[j] b[i] = false := fun i j hi hj hij => by
    have := List.pairwise_iff_getElem.mp hb i j (by lia) (by lia) hij
    simpa using this
  have endA : ∀ (out : Array Keyed) (n m : Nat), MH L a.toList b.toList out.toList.reverse n m -> n = 0 -> Mg L a.toList b.toList (a.extract 0 n ++ b.extract 0 m ++ out.reverse).toList := fun out n m h e => by
    rw [Array.toList_append, Array.toList_append, ext0, ext0, Array.toList_reverse]
    exact h.enda hb e
  have endB : ∀ (out : Array Keyed) (n m : Nat), MH L a.toList b.toList out.toList.reverse n m -> m = 0 -> Mg L a.toList b.toList (a.extract 0 n ++ b.extract 0 m ++ out.reverse).toList := fun out n m h e => by
    rw [Array.toList_append, Array.toList_append, ext0, ext0, Array.toList_reverse]
    exact h.endb ha e
  have firstB : ∀ (out : Array Keyed) (n m : Nat), MH L a.toList b.toList out.toList.reverse n m -> m = 1 -> Mg L a.toList b.toList (b.extract 0 m ++ a.extract 0 n ++ out.reverse).toList := fun out n m h e => by
    rw [Array.toList_append, Array.toList_append, ext0, ext0, Array.toList_reverse]
    refine h.firstb ha e (by lia) fun x hx => ?_
    rw [Array.getElem_toList]
    exact O.asym _ _ (hSb 0 nb) (Sa x hx) (h0 x hx)
  have pushA : ∀ (out : Array Keyed) (n m : Nat) (h : n - 1 < a.size), 0 < n -> MH L a.toList b.toList out.toList.reverse n m -> (∀ x ∈ b.toList.take m, L a[n - 1] x = false) -> MH L a.toList b.toList (out.push a[n - 1]).toList.reverse (n - 1) m := fun out n m h hn mh le => by
    rw [Array.toList_push, List.reverse_append]
    have e : n = n - 1 + 1 := by lia
    rw [e] at mh
    have := MH.a ha mh (show n - 1 < a.toList.length by lia) (by rw [Array.getElem_toList]; exact le)
    rw [Array.getElem_toList] at this
    exact this
  have pushB : ∀ (out : Array Keyed) (n m : Nat) (h : m - 1 < b.size), 0 < m -> MH L a.toList b.toList out.toList.reverse n m -> (∀ x ∈ a.toList.take n, L b[m - 1] x = false) -> MH L a.toList b.toList (out.push b[m - 1]).toList.reverse n (m - 1) := fun out n m h hm mh le => by
    rw [Array.toList_push, List.reverse_append]
    have e : m = m - 1 + 1 := by lia
    rw [e] at mh
    have := MH.b hb mh (show m - 1 < b.toList.length by lia) (by rw [Array.getElem_toList]; exact le)
    rw [Array.getElem_toList] at this
    exact this
  have m0 : MH L a.toList b.toList (#[a[a.size - 1]] : Array Keyed).toList.reverse (a.size - 1) b.size := by
    have h00 : MH L a.toList b.toList (#[] : Array Keyed).toList.reverse a.size b.size := ⟨by rw [List.drop_of_length_le (by lia), List.drop_of_length_le (by lia)]; simp, List.Pairwise.nil, fun x _ y hy => by simp at hy, fun x _ y hy => by simp at hy⟩
    exact pushA #[] a.size b.size (by lia) na h00 fun x hx => O.asym _ _ (Sb x (List.mem_of_mem_take hx)) (hSa _ (by lia)) (h1 x (List.mem_of_mem_take hx))
  have key : ∀ (x y : Keyed), bey L false x y = true -> L x y = false := fun x y h => by simpa [bey] using h
  have key' : ∀ (x y : Keyed), bey L false x y = false -> L x y = true := fun x y h => by simpa [bey] using h
  have keyT : ∀ (x y : Keyed), bey L true x y = true -> L y x = true := fun x y h => by simpa [bey] using h
  have keyF : ∀ (x y : Keyed), bey L true x y = false -> L y x = false := fun x y h => by simpa [bey] using h
  have stBg : ∀ (z : Keyed), S z -> ∀ k', k' <= b.size -> (∀ i (h : 0 + i < b.size), i < k' -> bey L true z b[0 + i] = true) -> ∀ x ∈ b.toList.take k', L z x = false := fun z sz k' hk' kt' x hx => by
    obtain ⟨i, hi, e⟩ := List.getElem_of_mem hx
    rw [List.length_take] at hi
    rw [List.getElem_take, Array.getElem_toList] at e
    have h9 := keyT _ _ (kt' i (by lia) (by lia))
    have h10 : b[0 + i]'(by lia) = x := by rw [<- e]; congr 1; lia
    rw [h10] at h9
    exact O.asym _ _ (Sb x (List.mem_of_mem_take hx)) sz h9
  unfold mergeHi'
  refine wpS_bind (wpS_lift (wpAny_rule ⟨rfl, ?_⟩))
  refine wpS_bind (wp_elem (show a.size - 1 < a.size by lia) ?_)
  dsimp only
  by_cases e1 : (a.size - 1 == 0) = true
  · rw [if_pos e1]
    exact wpS_pure (q _ _ (.refl _) (endA _ _ _ m0 (by simpa using e1)))
  rw [if_neg e1]
  by_cases e2 : (b.size == 1) = true
  · rw [if_pos e2]
    exact wpS_pure (q _ _ (.refl _) (firstB _ _ _ m0 (by simpa using e2)))
  rw [if_neg e2]
  have e1' : 0 < a.size - 1 := by have : a.size - 1 ≠ 0 := by simpa using e1
                                  lia
  have e2' : 1 < b.size := by have : b.size ≠ 1 := by simpa using e2
                              lia
  refine wpS_bind (wpS_get ?_)
  refine wpS_bind (wpS_mono (wpS_forRange (I := fun t c st' => ∃ n m out mg, c = (none, n, m, out, mg) /\ SG0 st st' /\ MH L a.toList b.toList out.toList.reverse n m /\ 0 < n /\ 1 < m /\ n <= a.size /\ m <= b.size /\ t + n + m + 1 <= a.size + b.size)
    (Q := fun c st' => ∃ r n m out mg, c = (some r, n, m, out, mg) /\ SG0 st st' /\ Mg L a.toList b.toList r.toList) ?step ?fin ⟨_, _, _, _, rfl, .refl _, m0, e1', e2', by lia, by lia, by lia⟩) ?post)
  case fin =>
    rintro c st' ⟨n, m, out, mg, rfl, g, mh, l1, l2, l3, l4, l5⟩
    lia
  case post =>
    rintro c st' ⟨r, n, m, out, mg, rfl, g, mh⟩
    exact wpS_pure (q _ _ g mh)
  case step =>
    rintro t c st1 _ ht ⟨n, m, out, mg, rfl, g1, m1, l1, l2, l3, l4, l5⟩
    have hk1 : kindOf st1 = κ := g1.1.trans hk
    dsimp only
    refine wpS_bind (wpS_mono (wpS_forRange (I := fun u c st' => ∃ n m out ac bc, c = (none, n, m, out, ac, bc) /\ st' = st1 /\ MH L a.toList b.toList out.toList.reverse n m /\ 0 < n /\ 1 < m /\ n <= a.size /\ m <= b.size /\ t + n + m + 1 <= a.size + b.size /\ (1 <= u -> t + n + m + 2 <= a.size + b.size))
      (Q := fun c st' => st' = st1 /\ ((∃ r n m out ac bc, c = (some r, n, m, out, ac, bc) /\ Mg L a.toList b.toList r.toList) \/ ∃ n m out ac bc, c = (none, n, m, out, ac, bc) /\ MH L a.toList b.toList out.toList.reverse n m /\ 0 < n /\ 1 < m /\ n <= a.size /\ m <= b.size /\ t + n + m + 2 <= a.size + b.size)) ?istep ?ifin ⟨_, _, _, _, _, rfl, rfl, m1, l1, l2, l3, l4, l5, by lia⟩) ?ipost)
    case ifin =>
      rintro c st' ⟨n, m, out, ac, bc, rfl, rfl, mh, k1, k2, k3, k4, k5, k6⟩
      exact ⟨rfl, .inr ⟨_, _, _, _, _, rfl, mh, k1, k2, k3, k4, k6 (by lia)⟩⟩
    case istep =>
      rintro u c st' _ hu ⟨n, m, out, ac, bc, rfl, rfl, mh, k1, k2, k3, k4, k5, k6⟩
      dsimp only
      have zb : m - 1 < b.size := by lia
      have za : n - 1 < a.size := by lia
      have em : m = m - 1 + 1 := by lia
      have en : n = n - 1 + 1 := by lia
      refine wpS_bind (wp_elem zb ?_)
      refine wpS_bind (wp_elem za ?_)
      refine wpS_bind (C _ _ _ _ hk1 (hSb _ zb) (hSa _ za) ?_)
      dsimp only
      cases eL : L b[m - 1] a[n - 1] with
      | true =>
        rw [if_pos rfl]
        refine wpS_bind (wp_elem za ?_)
        have m' := pushA out n m za k1 mh (by rw [em]; exact leB (m - 1) zb _ (hSa _ za) (O.asym _ _ (hSb _ zb) (hSa _ za) eL))
        by_cases z : (n - 1 == 0) = true
        · rw [if_pos z]
          exact wpS_pure ⟨rfl, .inl ⟨_, _, _, _, _, _, rfl, endA _ _ _ m' (by simpa using z)⟩⟩
        · rw [if_neg z]
          have z' : 0 < n - 1 := by have : n - 1 ≠ 0 := by simpa using z
                                    lia
          split
          · exact wpS_pure ⟨rfl, .inr ⟨_, _, _, _, _, rfl, m', z', k2, by lia, k4, by lia⟩⟩
          · exact wpS_pure ⟨_, _, _, _, _, rfl, rfl, m', z', k2, by lia, k4, by lia, fun _ => by lia⟩
      | false =>
        rw [if_neg (by decide)]
        refine wpS_bind (wp_elem zb ?_)
        have m' := pushB out n m zb (by lia) mh (by rw [en]; exact leA (n - 1) za _ (hSb _ zb) eL)
        by_cases z : (m - 1 == 1) = true
        · rw [if_pos z]
          exact wpS_pure ⟨rfl, .inl ⟨_, _, _, _, _, _, rfl, firstB _ _ _ m' (by simpa using z)⟩⟩
        · rw [if_neg z]
          have z' : 1 < m - 1 := by have : m - 1 ≠ 1 := by simpa using z
                                    lia
          split
          · exact wpS_pure ⟨rfl, .inr ⟨_, _, _, _, _, rfl, m', k1, z', k3, by lia, by lia⟩⟩
          · exact wpS_pure ⟨_, _, _, _, _, rfl, rfl, m', k1, z', k3, by lia, by lia, fun _ => by lia⟩
    case ipost =>
      rintro c st' ⟨rfl, ⟨r, n, m, out, ac, bc, rfl, mh⟩ | ⟨n, m, out, ac, bc, rfl, mh, k1, k2, k3, k4, k5⟩⟩
      · exact wpS_pure ⟨_, _, _, _, _, rfl, g1, mh⟩
      dsimp only
      refine wpS_bind (wpS_lift (wpAny_rule ⟨rfl, ?_⟩))
      refine wpS_bind (wpS_mono (wpS_forRange (I := fun u c st'' => ∃ n m out mg ac bc, c = (none, n, m, out, mg, ac, bc) /\ SG0 st st'' /\ MH L a.toList b.toList out.toList.reverse n m /\ 0 < n /\ 1 < m /\ n <= a.size /\ m <= b.size /\ t + n + m + 2 <= a.size + b.size)
        (Q := fun c st'' => SG0 st st'' /\ ((∃ r n m out mg ac bc, c = (some r, n, m, out, mg, ac, bc) /\ Mg L a.toList b.toList r.toList) \/ ∃ n m out mg ac bc, c = (none, n, m, out, mg, ac, bc) /\ MH L a.toList b.toList out.toList.reverse n m /\ 0 < n /\ 1 < m /\ n <= a.size /\ m <= b.size /\ t + n + m + 2 <= a.size + b.size)) ?gstep ?gfin ⟨_, _, _, _, _, _, rfl, g1, mh, k1, k2, k3, k4, k5⟩) ?gpost)
      case gfin =>
        rintro c st'' ⟨n, m, out, mg, ac, bc, rfl, g, mh, k⟩
        exact ⟨g, .inr ⟨_, _, _, _, _, _, rfl, mh, k⟩⟩
      case gpost =>
        rintro c st'' ⟨g, ⟨r, n, m, out, mg, ac, bc, rfl, mh⟩ | ⟨n, m, out, mg, ac, bc, rfl, mh, k1, k2, k3, k4, k5⟩⟩
        · exact wpS_pure ⟨_, _, _, _, _, rfl, g, mh⟩
        dsimp only
        refine wpS_bind (wpS_modify ?_)
        exact wpS_pure ⟨_, _, _, _, rfl, g.trans ⟨rfl, rfl, rfl, rfl⟩, mh, k1, k2, k3, k4, by lia⟩
      case gstep =>
        rintro u c st2 _ hu ⟨n, m, out, mg, ac, bc, rfl, g2, mh, k1, k2, k3, k4, k5⟩
        dsimp only
        have zb : m - 1 < b.size := by lia
        have em : m = m - 1 + 1 := by lia
        by_cases c1 : mg > 1
        case' pos => rw [if_pos c1]
        case' neg => rw [if_neg c1]
        all_goals
          refine wpS_bind (wpS_modify ?_)
          have g3 : SG0 st (SortSt.mk' (kindOf st2) (arrOf st2) (pendingOf st2) _ (failedOf st2)) := g2.trans ⟨rfl, rfl, rfl, rfl⟩
          refine wpS_bind (wp_elem zb ?_)
          refine wpS_bind (wp_gal (left := false) C O (g2.1.trans hk) (hSb _ zb) (by lia) hSa (by lia) (fun i j hi hj hij hjn => srtA _ _ hi hj (by lia)) fun k kn kt kf => ?_)
          dsimp only
          have stA : ∀ x ∈ a.toList.take k, L b[m - 1] x = false := fun x hx => by
            obtain ⟨i, hi, rfl⟩ := List.getElem_of_mem hx
            rw [List.length_take] at hi
            rw [List.getElem_take, Array.getElem_toList]
            have := key _ _ (kt i (by lia) (by lia))
            simpa using this
          by_cases c2 : n - k > 0
          case' neg =>
            rw [if_neg c2]
            have ek : k = n := by lia
            have mX := mh
            have kX := k1
            have kX3 := k3
            have leX := stA
            rw [ek] at leX
            have zX : n <= n := Nat.le_refl _
          case' pos =>
            rw [if_pos c2]
            have mX := MH.as (na := k) (lo := out.toList.reverse) ha (n - k) (by rw [show k + (n - k) = n by lia]; exact mh) (by lia) fun i hi hik => by
              rw [Array.getElem_toList, em]
              have h9 := key' _ _ (kf (k + i) (by lia) (by lia) (by lia))
              refine leB (m - 1) zb _ (hSa _ (by lia)) (O.asym _ _ (hSb _ zb) (hSa _ (by lia)) ?_)
              simpa using h9
            have eX : (out ++ (a.extract k n).reverse).toList.reverse = (a.toList.drop k).take (n - k) ++ out.toList.reverse := by
              rw [Array.toList_append, Array.toList_reverse, List.reverse_append, List.reverse_reverse, ext3 a (by lia)]
            rw [<- eX] at mX
            by_cases z1 : (k == 0) = true
            · rw [if_pos z1]
              exact wpS_pure ⟨g3, .inl ⟨_, _, _, _, _, _, _, rfl, endA _ _ _ mX (by simpa using z1)⟩⟩
            rw [if_neg z1]
            have kX : 0 < k := by have : k ≠ 0 := by simpa using z1
                                  lia
            have kX3 : k <= a.size := by lia
            have leX := stA
            have zX : k <= n := kn
          all_goals
            refine wpS_bind (wp_elem zb ?_)
            have m2 := pushB _ _ m zb (by lia) mX leX
            by_cases z : (m - 1 == 1) = true
            · rw [if_pos z]
              exact wpS_pure ⟨g3, .inl ⟨_, _, _, _, _, _, _, rfl, firstB _ _ _ m2 (by simpa using z)⟩⟩
            rw [if_neg z]
            have z' : 1 < m - 1 := by have : m - 1 ≠ 1 := by simpa using z
                                      lia
            have za := Nat.lt_of_lt_of_le (Nat.sub_lt kX Nat.one_pos) kX3
            refine wpS_bind (wp_elem za ?_)
            refine wpS_bind (wp_gal (left := true) C O (g2.1.trans hk) (hSa _ za) (by lia) hSb (by lia) (fun i j hi hj hij hjn => srtB _ _ hi hj (by lia)) fun k' kn' kt' kf' => ?_)
            dsimp only
            have leA' := leA _ za
            rw [Nat.sub_add_cancel kX] at leA'
            have stB := stBg _ (hSa _ za) k' (by lia) kt'
            by_cases c3 : m - 1 - k' > 0
            case' neg =>
              rw [if_neg c3]
              have ek' : k' = m - 1 := by lia
              have mY := m2
              have kY := z'
              have leY := stB
              rw [ek'] at leY
              have yY : m - 1 <= m - 1 := Nat.le_refl _
            case' pos =>
              rw [if_pos c3]
              have mY := MH.bs hb (m - 1 - k') (m2.cast (show k' + (m - 1 - k') = m - 1 by lia)) (by lia) fun i hi hik => by
                rw [Array.getElem_toList]
                have h9 := keyF _ _ (kf' (k' + i) (by lia) (by lia) (by lia))
                refine leA' _ (hSb _ (by lia)) ?_
                simpa using h9
              rw [<- ext3 b (show k' <= m - 1 by lia), <- cat_rev] at mY
              split
              · rename_i z5
                exact wpS_pure ⟨g3, .inl ⟨_, _, _, _, _, _, _, rfl, firstB _ _ _ mY (by simpa using z5)⟩⟩
              split
              · rename_i z5
                exact wpS_pure ⟨g3, .inl ⟨_, _, _, _, _, _, _, rfl, endB _ _ _ mY (by simpa using z5)⟩⟩
              rename_i z5 z6
              simp only [beq_iff_eq] at z5 z6
              have kY : 1 < k' := by lia
              have leY := stB
              have yY : k' <= m - 1 := by lia
            all_goals
              refine wpS_bind (wp_elem za ?_)
              have m3 := pushA _ _ _ za kX mY leY
              split
              · rename_i z4
                exact wpS_pure ⟨g3, .inl ⟨_, _, _, _, _, _, _, rfl, endA _ _ _ m3 (by simpa using z4)⟩⟩
              · rename_i z4
                simp only [beq_iff_eq] at z4
                split
                · exact wpS_pure ⟨g3, .inr ⟨_, _, _, _, _, _, rfl, m3, by lia, kY, by lia, by lia, by lia⟩⟩
                · exact wpS_pure ⟨_, _, _, _, _, _, rfl, g3, m3, by lia, kY, by lia, by lia, by lia⟩
end
end Tm
end
section
namespace Tm
open PySem PySem.W PyProof.Rows
theorem wb_list:∀ (l:List Keyed) (n o:Nat) (arr:Array Keyed),o+n+l.length<=arr.size->((l.zipIdx n).foldl (fun a (p:Keyed×Nat)=>a.setIfInBounds (o+p.2) p.1) arr).toList=arr.toList.take (o+n)++l++arr.toList.drop (o+n+l.length)
 | [],n,o,arr,_=>by simp
 | x::l,n,o,arr,h=>by
  have hl:(x::l).length=l.length+1:=rfl
  have hz:o+n<arr.size:=by lia
  rw[List.zipIdx_cons,List.foldl_cons]
  have ih:=wb_list l (n+1) o (arr.setIfInBounds (o+n) x) (by rw[Array.size_setIfInBounds];lia)
  rw[ih,Array.toList_setIfInBounds,hl]
  have e1:(arr.toList.set (o+n) x).take (o+(n+1))=arr.toList.take (o+n)++[x]:=by
   rw[show o+(n+1)=o+n+1 by lia,List.take_add_one,List.take_set_of_le (Nat.le_refl _),List.getElem?_set_self (by simpa using hz)]
   rfl
  have e2:(arr.toList.set (o+n) x).drop (o+(n+1)+l.length)=arr.toList.drop (o+n+(l.length+1)):=by
   rw[List.drop_set_of_lt (by lia)]
   congr 1;lia
  rw[e1,e2]
  simp
section
variable {S:Keyed->Prop}{L:Keyed->Keyed->Bool}
theorem at_pure {X1 X2 Y1 Y2 Z:List Keyed} (hX:Srt L (X1++X2)) (hY:Srt L (Y1++Y2)) (hXY:∀ x∈X1,∀ y∈Y1++Y2,L y x=false) (hYX:∀ y∈Y2,∀ x∈X2,L y x=false) (hZ:Mg L X2 Y1 Z) :
  Srt L (X1++Z++Y2)/\(X1++Z++Y2).Perm (X1++X2++(Y1++Y2)):=by
 obtain⟨z1,z2⟩:=hZ
 obtain⟨a1,a2,a3⟩:=List.pairwise_append.mp hX
 obtain⟨b1,b2,b3⟩:=List.pairwise_append.mp hY
 refine⟨?_,?_⟩
 ·rw[List.append_assoc]
  refine List.pairwise_append.mpr ⟨a1,List.pairwise_append.mpr ⟨z2,b2,fun x hx y hy=>?_⟩,fun x hx y hy=>?_⟩
  ·rcases List.mem_append.mp (z1.mem_iff.mp hx) with w | w
   ·exact hYX y hy x w
   ·exact b3 x w y hy
  ·rcases List.mem_append.mp hy with w | w
   ·rcases List.mem_append.mp (z1.mem_iff.mp w) with w | w
    ·exact a3 x hx y w
    ·exact hXY x hx y (List.mem_append_left _ w)
   ·exact hXY x hx y (List.mem_append_right _ w)
 ·rw[List.append_assoc,List.append_assoc]
  refine List.Perm.append_left _ ?_
  refine (z1.append_right _).trans ?_
  rw[List.append_assoc]
def SI (L:Keyed->Keyed->Bool) (arr:Array Keyed) (p q:Nat):Prop:=∀ i j (hi:i<arr.size) (hj:j<arr.size),p<=i->i<j->j<q->L arr[j] arr[i]=false
theorem ext_get {arr:Array Keyed}{p q i:Nat} (h:i<(arr.extract p q).toList.length):∃ (z:p+i<arr.size),p+i<q/\(arr.extract p q).toList[i]=arr[p+i]:=by
 have h':i<(arr.extract p q).size:=by rw[<- Array.length_toList];exact h
 rw[Array.size_extract]at h'
 refine⟨by lia,by lia,?_⟩
 rw[Array.getElem_toList,Array.getElem_extract]
theorem srt_ext {arr:Array Keyed}{p q:Nat} (h:SI L arr p q):Srt L (arr.extract p q).toList:=by
 refine List.pairwise_iff_getElem.mpr fun i j hi hj hij=>?_
 obtain⟨z1,z2,e1⟩:=ext_get hi
 obtain⟨z3,z4,e2⟩:=ext_get hj
 rw[e1,e2]
 exact h _ _ z1 z3 (by lia) (by lia) z4
theorem mem_ext {arr:Array Keyed}{p q:Nat}{x:Keyed} (h:x∈(arr.extract p q).toList):∃ (i:Nat) (z:i<arr.size),p<=i/\i<q/\x=arr[i]:=by
 obtain⟨i,hi,e⟩:=List.getElem_of_mem h
 obtain⟨z1,z2,e1⟩:=ext_get hi
 exact⟨p+i,z1,by lia,z2,by rw[<- e,e1]⟩
theorem ext_split {arr:Array Keyed}{p q r:Nat} (h1:p<=q) (h2:q<=r) (h3:r<=arr.size):(arr.extract p r).toList=(arr.extract p q).toList++(arr.extract q r).toList:=by
 rw[ext3 arr (by lia),ext3 arr h1,ext3 arr h2]
 rw[show r-p=(q-p)+(r-q) by lia,List.take_add,List.drop_drop]
 rw[show p+(q-p)=q by lia]
end
section
variable {M:Model}{A:Around}{E:Value->Shared->Prop}{s:Shared} {κ:SortKind} {S:Keyed->Prop}{L:Keyed->Keyed->Bool}
def At (L:Keyed->Keyed->Bool) (arr arr':Array Keyed) (sa n:Nat):Prop:=∃ seg:List Keyed,arr'.toList=arr.toList.take sa++seg++arr.toList.drop (sa+n)/\Srt L seg/\seg.Perm (arr.extract sa (sa+n)).toList
theorem wp_set {st st1:SortSt}{Q:PUnit->SortSt->Prop} (h:Q ⟨⟩ st1):wpS M A E s (set st1:StateT SortSt Sem PUnit) Q st:=by
 unfold wpS;rw[StateT.run_set];exact wpAny_pure ⟨rfl,h⟩
theorem wp_at {i sa na sb nb pa pb : Nat} {st : SortSt} {Q : Bool -> SortSt -> Prop} (C : Cmp M A E s κ S L) (O : Ord S L) (hk : kindOf st = κ) (hf : failedOf st = none) (hS : ∀ i (h : i < (arrOf st).size), S (arrOf st)[i])
    (e1 : (pendingOf st)[i]? = some (sa, na, pa)) (e2 : (pendingOf st)[i + 1]? = some (sb, nb, pb)) (eb : sb = sa + na) (za : 0 < na) (zb : 0 < nb) (hz : sb + nb <= (arrOf st).size) (sA : SI L (arrOf st) sa sb) (sB : SI L (arrOf st) sb (sb + nb))
    (q : ∀ st' : SortSt, kindOf st' = κ -> failedOf st' = none -> pendingOf st' = ((pendingOf st).setIfInBounds i (sa, na + nb, pa)).eraseIdxIfInBounds (i + 1) -> At L (arrOf st) (arrOf st') sa (na + nb) -> Q true st') : wpS M A E s (mergeAt' i) Q st := by
  unfold mergeAt'
  refine wpS_bind (wpS_get ?_)
  dsimp only
  rw [e1, e2]
  dsimp only
  refine wpS_bind (wp_set ?_)
  generalize harr : arrOf st = arr at hS hz sA sB q
  have hb0 : sb < arr.size := by lia
  have harr' : (PyProof.Rows.arrOf st) = arr := harr
  rw [show ((sortPriv% PySem.Builtin.SortState.a) st : Array Keyed) = arr from harr]
  refine wpS_bind (wp_elem hb0 ?_)
  refine wpS_bind (wp_gal (left := false) C O hk (hS _ hb0) (by lia) hS za (fun i j hi hj hij hjn => sA _ _ hi hj (by lia) (by lia) (by lia)) fun k kn kt kf => ?_)
  dsimp only
  have key : ∀ (x y : Keyed), bey L false x y = true -> L x y = false := fun x y h => by simpa [bey] using h
  have key' : ∀ (x y : Keyed), bey L false x y = false -> L x y = true := fun x y h => by simpa [bey] using h
  have keyT : ∀ (x y : Keyed), bey L true x y = true -> L y x = true := fun x y h => by simpa [bey] using h
  have keyF : ∀ (x y : Keyed), bey L true x y = false -> L y x = false := fun x y h => by simpa [bey] using h
  have wS : (arr.extract sa (sa + (na + nb))).toList = (arr.extract sa sb).toList ++ (arr.extract sb (sb + nb)).toList := by
    rw [show sa + (na + nb) = sb + nb by lia]; exact ext_split (by lia) (by lia) hz
  -- nothing moves where the two stand in order
  have stay : (∀ i j (hi : i < arr.size) (hj : j < arr.size), sa <= i -> i < sb -> sb <= j -> j < sb + nb -> L arr[j] arr[i] = false) -> At L arr arr sa (na + nb) := fun h => by
    refine ⟨(arr.extract sa (sa + (na + nb))).toList, ?_, ?_, .refl _⟩
    · rw [ext3 arr (by lia), show sa + (na + nb) - sa = na + nb by lia, List.append_assoc, <- List.drop_drop, List.take_append_drop, List.take_append_drop]
    · rw [wS]
      refine List.pairwise_append.mpr ⟨srt_ext sA, srt_ext sB, fun x hx y hy => ?_⟩
      obtain ⟨i, zi, a1, a2, rfl⟩ := mem_ext hx
      obtain ⟨j, zj, b1, b2, rfl⟩ := mem_ext hy
      exact h i j zi zj a1 a2 b1 b2
  -- what is not above the first of the second run
  have lowX : ∀ i (hi : i < arr.size), sa <= i -> i < sa + k -> ∀ j (hj : j < arr.size), sb <= j -> j < sb + nb -> L arr[j] arr[i] = false := fun i hi a1 a2 j hj b1 b2 => by
    have h1 := key _ _ (kt (i - sa) (by lia) (by lia))
    have h2 : L arr[sb] arr[i] = false := by
      have e : sa + (i - sa) = i := by lia
      simpa [e] using h1
    by_cases ej : j = sb
    · subst ej; exact h2
    · exact O.trans _ _ _ (hS _ hi) (hS _ hb0) (hS _ hj) h2 (sB sb j hb0 hj (by lia) (by lia) b2)
  by_cases c1 : (na - k == 0) = true
  · rw [if_pos c1]
    have ek : k = na := by have : na - k = 0 := by simpa using c1
                           lia
    exact wpS_pure (q _ hk hf rfl (stay fun i j hi hj a1 a2 b1 b2 => lowX i hi a1 (by lia) j hj b1 b2))
  rw [if_neg c1]
  have ek : k < na := by have : na - k ≠ 0 := by simpa using c1
                         lia
  have hl0 : sa + k + (na - k) - 1 < arr.size := by lia
  refine wpS_bind (wp_elem hl0 ?_)
  refine wpS_bind (wp_gal (left := true) C O hk (hS _ hl0) (by lia) hS (by lia) (fun i j hi hj hij hjn => sB _ _ hi hj (by lia) (by lia) (by lia)) fun k2 kn2 kt2 kf2 => ?_)
  dsimp only
  have lastE : sa + k + (na - k) - 1 = sb - 1 := by lia
  have hlast : sb - 1 < arr.size := by lia
  have hiY : ∀ j (hj : j < arr.size), sb + k2 <= j -> j < sb + nb -> ∀ i (hi : i < arr.size), sa <= i -> i < sb -> L arr[j] arr[i] = false := fun j hj b1 b2 i hi a1 a2 => by
    have h1 := keyF _ _ (kf2 (j - sb) (by lia) (by lia) (by lia))
    have h2 : L arr[j] arr[sb - 1] = false := by
      have e : sb + (j - sb) = j := by lia
      simpa [e, lastE] using h1
    by_cases ei : i = sb - 1
    · subst ei; exact h2
    · exact O.trans _ _ _ (hS _ hi) (hS _ hlast) (hS _ hj) (sA i (sb - 1) hi hlast a1 (by lia) (by lia)) h2
  by_cases c2 : (k2 == 0) = true
  · rw [if_pos c2]
    have e0 : k2 = 0 := by simpa using c2
    exact wpS_pure (q _ hk hf rfl (stay fun i j hi hj a1 a2 b1 b2 => hiY j hj (by lia) b2 i hi a1 a2))
  rw [if_neg c2]
  have z2 : 0 < k2 := by have : k2 ≠ 0 := by simpa using c2
                         lia
  have xs : (arr.extract (sa + k) sb).size = na - k := by rw [Array.size_extract]; lia
  have ys : (arr.extract sb (sb + k2)).size = k2 := by rw [Array.size_extract]; lia
  have SX : ∀ i (h : i < (arr.extract (sa + k) sb).size), S (arr.extract (sa + k) sb)[i] := fun i h => by rw [Array.getElem_extract]; exact hS _ (by lia)
  have SY : ∀ i (h : i < (arr.extract sb (sb + k2)).size), S (arr.extract sb (sb + k2))[i] := fun i h => by rw [Array.getElem_extract]; exact hS _ (by lia)
  have sX : Srt L (arr.extract (sa + k) sb).toList := srt_ext fun i j hi hj a1 a2 a3 => sA i j hi hj (by lia) a2 a3
  have sY : Srt L (arr.extract sb (sb + k2)).toList := srt_ext fun i j hi hj a1 a2 a3 => sB i j hi hj a1 a2 (by lia)
  have y0 : 0 < (arr.extract sb (sb + k2)).size := by lia
  have x0 : 0 < (arr.extract (sa + k) sb).size := by lia
  have h0 : ∀ v ∈ (arr.extract (sa + k) sb).toList, L (arr.extract sb (sb + k2))[0] v = true := fun v hv => by
    obtain ⟨i, zi, a1, a2, rfl⟩ := mem_ext hv
    rw [Array.getElem_extract]
    have h9 := key' _ _ (kf (i - sa) (by lia) (by lia) (by lia))
    have e : sa + (i - sa) = i := by lia
    simpa [e] using h9
  have h1 : ∀ v ∈ (arr.extract sb (sb + k2)).toList, L v ((arr.extract (sa + k) sb)[(arr.extract (sa + k) sb).size - 1]'(by lia)) = true := fun v hv => by
    obtain ⟨j, zj, b1, b2, rfl⟩ := mem_ext hv
    rw [Array.getElem_extract]
    have h9 := keyT _ _ (kt2 (j - sb) (by lia) (by lia))
    have e : sb + (j - sb) = j := by lia
    have e' : sa + k + ((arr.extract (sa + k) sb).size - 1) = sa + k + (na - k) - 1 := by rw [xs]; lia
    have e3 : arr[sa + k + ((arr.extract (sa + k) sb).size - 1)]'(by lia) = arr[sa + k + (na - k) - 1] := by congr 1
    have e4 : arr[sb + (j - sb)]'(by lia) = arr[j] := by congr 1
    rw [e3, <- e4]; exact h9
  have fine : ∀ (r : Array Keyed), Mg L (arr.extract (sa + k) sb).toList (arr.extract sb (sb + k2)).toList r.toList -> ∀ arr' : Array Keyed, arr' = r.toList.zipIdx.foldl (fun a (p : Keyed × Nat) => a.setIfInBounds (sa + k + p.2) p.1) arr -> At L arr arr' sa (na + nb) := fun r m arr' ea => by
    have rl : r.toList.length = (na - k) + k2 := by rw [m.1.length_eq, List.length_append, Array.length_toList, Array.length_toList, xs, ys]
    have w := wb_list r.toList 0 (sa + k) arr (by lia)
    have sp1 : (arr.extract sa sb).toList = (arr.extract sa (sa + k)).toList ++ (arr.extract (sa + k) sb).toList := ext_split (by lia) (by lia) (by lia)
    have sp2 : (arr.extract sb (sb + nb)).toList = (arr.extract sb (sb + k2)).toList ++ (arr.extract (sb + k2) (sb + nb)).toList := ext_split (by lia) (by lia) (by lia)
    obtain ⟨p1, p2⟩ := at_pure (X1 := (arr.extract sa (sa + k)).toList) (Y2 := (arr.extract (sb + k2) (sb + nb)).toList) (by rw [<- sp1]; exact srt_ext sA) (by rw [<- sp2]; exact srt_ext sB) (fun x hx y hy => by
      obtain ⟨i, zi, a1, a2, rfl⟩ := mem_ext hx
      rw [<- sp2] at hy
      obtain ⟨j, zj, b1, b2, rfl⟩ := mem_ext hy
      exact lowX i zi a1 a2 j zj b1 b2) (fun y hy x hx => by
      obtain ⟨i, zi, a1, a2, rfl⟩ := mem_ext hx
      obtain ⟨j, zj, b1, b2, rfl⟩ := mem_ext hy
      exact hiY j zj b1 b2 i zi (by lia) a2) m
    refine ⟨_, ?_, p1, ?_⟩
    · rw [ea, w, rl]
      have t1 : arr.toList.take (sa + k + 0) = arr.toList.take sa ++ (arr.extract sa (sa + k)).toList := by
        rw [ext2, Nat.add_zero, List.take_add]
      have t2 : arr.toList.drop (sa + k + 0 + (na - k + k2)) = (arr.extract (sb + k2) (sb + nb)).toList ++ arr.toList.drop (sa + (na + nb)) := by
        rw [ext3 arr (by lia), show sa + k + 0 + (na - k + k2) = sb + k2 by lia, show sa + (na + nb) = sb + k2 + (sb + nb - (sb + k2)) by lia, <- List.drop_drop (i := sb + nb - (sb + k2)) (j := sb + k2), List.take_append_drop]
      rw [t1, t2]
      simp
    · rw [wS, sp1, sp2]; exact p2
  by_cases c3 : na - k <= k2
  · rw [if_pos c3]
    refine wpS_bind (wp_lo C O hk SX SY sX sY x0 y0 h0 h1 fun r st' g m => ?_)
    refine wpS_bind (wpS_modify ?_)
    refine wpS_bind (wpS_get ?_)
    have ef : failedOf st' = none := g.2.2.2.trans hf
    have ep := g.2.2.1
    have ea : arrOf st' = arr := g.2.1
    have e9 : (failedOf (SortSt.mk' (kindOf st') (r.toList.zipIdx.foldl (fun a (p : Keyed × Nat) => a.setIfInBounds (sa + k + p.2) p.1) (arrOf st')) (pendingOf st') (gallopOf st') (failedOf st'))).isNone = true := by
      show (failedOf st').isNone = true
      rw [ef]; rfl
    have fin := q (SortSt.mk' (kindOf st') (r.toList.zipIdx.foldl (fun a (p : Keyed × Nat) => a.setIfInBounds (sa + k + p.2) p.1) (arrOf st')) (pendingOf st') (gallopOf st') (failedOf st')) (g.1.trans hk) ef ep (fine r m _ (by rw [ea]))
    rw [<- e9] at fin
    exact wpS_pure fin
  · rw [if_neg c3]
    refine wpS_bind (wp_hi C O hk SX SY sX sY x0 y0 h0 h1 fun r st' g m => ?_)
    refine wpS_bind (wpS_modify ?_)
    refine wpS_bind (wpS_get ?_)
    have ef : failedOf st' = none := g.2.2.2.trans hf
    have ep := g.2.2.1
    have ea : arrOf st' = arr := g.2.1
    have e9 : (failedOf (SortSt.mk' (kindOf st') (r.toList.zipIdx.foldl (fun a (p : Keyed × Nat) => a.setIfInBounds (sa + k + p.2) p.1) (arrOf st')) (pendingOf st') (gallopOf st') (failedOf st'))).isNone = true := by
      show (failedOf st').isNone = true
      rw [ef]; rfl
    have fin := q (SortSt.mk' (kindOf st') (r.toList.zipIdx.foldl (fun a (p : Keyed × Nat) => a.setIfInBounds (sa + k + p.2) p.1) (arrOf st')) (pendingOf st') (gallopOf st') (failedOf st')) (g.1.trans hk) ef ep (fine r m _ (by rw [ea]))
    rw [<- e9] at fin
    exact wpS_pure fin
end
end Tm
end
section
namespace Tm
open PySem PySem.W PyProof.Rows
def Up (arr arr':Array Keyed) (lo hi:Nat):Prop:=arr'.Perm arr/\∀ i,(i<lo\/hi<=i)->arr'[i]?=arr[i]?
theorem Up.refl (arr:Array Keyed) (lo hi:Nat):Up arr arr lo hi:=⟨.refl _,fun _ _=>rfl⟩
theorem Up.trans {a b c:Array Keyed}{lo hi:Nat} (h:Up a b lo hi) (k:Up b c lo hi):Up a c lo hi:=⟨k.1.trans h.1,fun i hi=>(k.2 i hi).trans (h.2 i hi)⟩
theorem Up.size {a b:Array Keyed}{lo hi:Nat} (h:Up a b lo hi):b.size=a.size:=h.1.size_eq
theorem Up.wide {a b:Array Keyed}{lo hi lo' hi':Nat} (h:Up a b lo hi) (h1:lo'<=lo) (h2:hi<=hi'):Up a b lo' hi':=⟨h.1,fun i hi=>h.2 i (by lia)⟩
theorem Up.S {S:Keyed->Prop}{a b:Array Keyed}{lo hi:Nat} (h:Up a b lo hi) (hS:∀ i (h:i<a.size),S a[i]):∀ i (h:i<b.size),S b[i]:=fun i hi=>by
 have:b[i]∈a:=h.1.mem_iff.mp (Array.getElem_mem hi)
 obtain⟨j,hj,e⟩:=Array.getElem_of_mem this
 rw[<- e];exact hS j hj
theorem Up.get {a b:Array Keyed}{lo hi i:Nat} (h:Up a b lo hi) (o:i<lo\/hi<=i) (hb:i<b.size) (ha:i<a.size):b[i]=a[i]:=by
 have:=h.2 i o
 rw[Array.getElem?_eq_getElem hb,Array.getElem?_eq_getElem ha]at this
 injection this
section
variable {L:Keyed->Keyed->Bool}
theorem SI.keep {a b:Array Keyed}{lo hi p q:Nat} (s:SI L a p q) (h:Up a b lo hi) (o:q<=lo\/hi<=p):SI L b p q:=fun i j hi hj h1 h2 h3=>by
 have hz:=h.size
 rw[h.get (i:=i) (by lia) hi (by lia),h.get (i:=j) (by lia) hj (by lia)]
 exact s i j (by lia) (by lia) h1 h2 h3
end
section
variable {M:Model}{A:Around}{E:Value->Shared->Prop}{s:Shared} {κ:SortKind} {S:Keyed->Prop}{L:Keyed->Keyed->Bool}
theorem wp_ltAt {i j:Nat}{st:SortSt}{Q:Option Bool->SortSt->Prop} (C:Cmp M A E s κ S L) (hk:kindOf st=κ) (hS:∀ i (h:i<(arrOf st).size),S (arrOf st)[i]) (hi:i<(arrOf st).size) (hj:j<(arrOf st).size) (q:Q (some (L (arrOf st)[i] (arrOf st)[j])) st):wpS M A E s (ltAt' i j) Q st:=by
 rw[ltAt'_eq]
 refine wpS_bind (wpS_get ?_)
 refine wpS_bind (wp_elem hi ?_)
 refine wpS_bind (wp_elem hj ?_)
 exact C _ _ _ _ hk (hS _ hi) (hS _ hj) q
def SA0 (st st':SortSt):Prop:=kindOf st'=kindOf st/\pendingOf st'=pendingOf st/\failedOf st'=failedOf st
theorem bub_up {arr:Array Keyed}{lo k l n:Nat} (hl:l<=k) (hk:k<n) (hz:lo+n<=arr.size):Up arr (bubble arr (lo+k) (lo+k-(lo+l))) lo (lo+n):=by
 refine⟨bubble_perm _ _ _,fun i hi=>?_⟩
 rw[getElem?_bubble (by lia) _ (by lia),if_neg (by lia),if_neg (by lia)]
theorem bub_srt {arr:Array Keyed}{lo k l n:Nat} (hl:l<=k) (hk:k<n) (hz:lo+n<=arr.size) (hs:SI L arr lo (lo+k)) (hkz:lo+k<arr.size) (h1:∀ i (h:lo+i<arr.size),i<l->L arr[lo+k] arr[lo+i]=false) (h2:∀ i (h:lo+i<arr.size),l<=i->i<k->L arr[lo+i] arr[lo+k]=false) :
  SI L (bubble arr (lo+k) (lo+k-(lo+l))) lo (lo+(k+1)):=by
 have get:∀ i (hi:i<(bubble arr (lo+k) (lo+k-(lo+l))).size),lo<=i->i<lo+(k+1)->∃ (j:Nat) (hj:j<arr.size),(bubble arr (lo+k) (lo+k-(lo+l)))[i]=arr[j]/\((i<lo+l/\j=i)\/(i=lo+l/\j=lo+k)\/(lo+l<i/\j=i-1)):=fun i hi a1 a2=>by
  have hz':(bubble arr (lo+k) (lo+k-(lo+l))).size=arr.size:=bubble_size _ _ _
  have e:=getElem?_bubble (xs:=arr) (src:=lo+k) (by lia) (lo+k-(lo+l)) (by lia) i
  rw[Array.getElem?_eq_getElem hi]at e
  by_cases c1:i=lo+k-(lo+k-(lo+l))
  ·rw[if_pos c1,Array.getElem?_eq_getElem hkz]at e
   exact⟨lo+k,hkz,by injection e,.inr (.inl ⟨by lia,rfl⟩)⟩
  rw[if_neg c1]at e
  by_cases c2:lo+k-(lo+k-(lo+l))<i/\i<=lo+k
  ·rw[if_pos c2,Array.getElem?_eq_getElem (show i-1<arr.size by lia)]at e
   exact⟨i-1,by lia,by injection e,.inr (.inr ⟨by lia,rfl⟩)⟩
  ·rw[if_neg c2,Array.getElem?_eq_getElem (show i<arr.size by lia)]at e
   exact⟨i,by lia,by injection e,.inl ⟨by lia,rfl⟩⟩
 intro i j hi hj a1 a2 a3
 obtain⟨i',hi',e1,w1⟩:=get i hi (by lia) (by lia)
 obtain⟨j',hj',e2,w2⟩:=get j hj (by lia) a3
 rw[e1,e2]
 have H1:∀ p (hp:p<arr.size),lo<=p->p<lo+l->L arr[lo+k] arr[p]=false:=fun p hp b1 b2=>by
  have:=h1 (p-lo) (by lia) (by lia)
  simpa [show lo+(p-lo)=p by lia] using this
 have H2:∀ p (hp:p<arr.size),lo+l<=p->p<lo+k->L arr[p] arr[lo+k]=false:=fun p hp b1 b2=>by
  have:=h2 (p-lo) (by lia) (by lia) (by lia)
  simpa [show lo+(p-lo)=p by lia] using this
 rcases w1 with ⟨b1,rfl⟩ | ⟨b1,rfl⟩ | ⟨b1,rfl⟩ <;> rcases w2 with ⟨b2,rfl⟩ | ⟨b2,rfl⟩ | ⟨b2,rfl⟩
 ·exact hs _ _ hi' hj' (by lia) (by lia) (by lia)
 ·exact H1 _ hi' (by lia) (by lia)
 ·exact hs _ _ hi' hj' (by lia) (by lia) (by lia)
 ·lia
 ·lia
 ·exact H2 _ hj' (by lia) (by lia)
 ·lia
 ·lia
 ·exact hs _ _ hi' hj' (by lia) (by lia) (by lia)
theorem wp_bin {lo n ok:Nat}{st:SortSt}{Q:Bool->SortSt->Prop} (C:Cmp M A E s κ S L) (O:Ord S L) (hk:kindOf st=κ) (hS:∀ i (h:i<(arrOf st).size),S (arrOf st)[i]) (hz:lo+n<=(arrOf st).size) (hs:SI L (arrOf st) lo (lo+max ok 1))
  (q:∀ st':SortSt,SA0 st st'->Up (arrOf st) (arrOf st') lo (lo+n)->SI L (arrOf st') lo (lo+n)->Q true st'):wpS M A E s (binarySort' lo n ok) Q st:=by
 unfold binarySort'
 refine wpS_bind (wpS_mono (wpS_forRange (I:=fun k c st'=>c=(none,())/\SA0 st st'/\Up (arrOf st) (arrOf st') lo (lo+n)/\SI L (arrOf st') lo (lo+k)) (Q:=fun c st'=>c=(none,())/\SA0 st st'/\Up (arrOf st) (arrOf st') lo (lo+n)/\SI L (arrOf st') lo (lo+n)) ?step ?fin ⟨rfl,⟨rfl,rfl,rfl⟩,.refl _ _ _,hs⟩) ?post)
 case fin=>
  rintro c st' ⟨rfl,a1,a2,a3⟩
  exact⟨rfl,a1,a2,fun i j hi hj b1 b2 b3=>a3 i j hi hj b1 b2 (by lia)⟩
 case post=>
  rintro c st' ⟨rfl,a1,a2,a3⟩
  exact wpS_pure (q st' a1 a2 a3)
 case step=>
  rintro k c st1 hk1 hk2 ⟨rfl,a1,a2,a3⟩
  dsimp only
  have hk':kindOf st1=κ:=a1.1.trans hk
  have hz1:(arrOf st1).size=(arrOf st).size:=a2.size
  have hS1:=a2.S hS
  have kz:lo+k<(arrOf st1).size:=by lia
  have up:∀ p q' (hp:lo+p<(arrOf st1).size) (hq:lo+q'<(arrOf st1).size),p<=q'->q'<k->L (arrOf st1)[lo+k] (arrOf st1)[lo+p]=true->L (arrOf st1)[lo+k] (arrOf st1)[lo+q']=true:=fun p q' hp hq h1 h2 e=>by
   by_cases ep:p=q'
   ·subst ep;exact e
   cases z:L (arrOf st1)[lo+k] (arrOf st1)[lo+q'] with
   | true=>rfl
   | false=>rw[O.trans _ _ _ (hS1 _ hp) (hS1 _ hq) (hS1 _ kz) (a3 _ _ hp hq (by lia) (by lia) (by lia)) z]at e;cases e
  refine wpS_bind (wpS_mono (wpS_forRange (I:=fun t c st'=>∃ l r,c=(none,l,r)/\st'=st1/\l<=r/\r<=k/\r-l<=k-t/\(∀ i (h:lo+i<(arrOf st1).size),i<l->L (arrOf st1)[lo+k] (arrOf st1)[lo+i]=false)/\(∀ i (h:lo+i<(arrOf st1).size),r<=i->i<k->L (arrOf st1)[lo+k] (arrOf st1)[lo+i]=true))
   (Q:=fun c st'=>∃ l,c=(none,l,l)/\st'=st1/\l<=k/\(∀ i (h:lo+i<(arrOf st1).size),i<l->L (arrOf st1)[lo+k] (arrOf st1)[lo+i]=false)/\(∀ i (h:lo+i<(arrOf st1).size),l<=i->i<k->L (arrOf st1)[lo+k] (arrOf st1)[lo+i]=true)) ?istep ?ifin ⟨0,k,rfl,rfl,by lia,by lia,by lia,fun i h hi=>by lia,fun i h h1 h2=>by lia⟩) ?ipost)
  case ifin=>
   rintro c st' ⟨l,r,rfl,rfl,b1,b2,b3,b4,b5⟩
   have:l=r:=by lia
   subst this
   exact⟨l,rfl,rfl,b2,b4,b5⟩
  case istep=>
   rintro t c st' _ ht ⟨l,r,rfl,rfl,b1,b2,b3,b4,b5⟩
   dsimp only
   by_cases hge:l ≥ r
   ·rw[if_pos hge]
    have:l=r:=by lia
    subst this
    exact wpS_pure ⟨l,rfl,rfl,b2,b4,b5⟩
   rw[if_neg hge]
   have mz:lo+(l+r) / 2<(arrOf st').size:=by lia
   refine wpS_bind (wp_ltAt C hk' hS1 kz mz ?_)
   dsimp only
   cases e:L (arrOf st')[lo+k] (arrOf st')[lo+(l+r) / 2] with
   | true=>exact wpS_pure ⟨_,_,rfl,rfl,by lia,by lia,by lia,b4,fun i h h1 h2=>up _ i mz h h1 h2 e⟩
   | false=>
    refine wpS_pure ⟨_,_,rfl,rfl,by lia,by lia,by lia,fun i h hi=>?_,b5⟩
    cases z:L (arrOf st')[lo+k] (arrOf st')[lo+i] with
    | false=>rfl
    | true=>rw[up i _ h mz (by lia) (by lia) z]at e;cases e
  case ipost=>
   rintro c st' ⟨l,rfl,rfl,b1,b2,b3⟩
   dsimp only
   have mv:wpS M A E s (moveDown' (lo+k) (lo+l)) (fun _ st2=>st2=setArr st' (bubble (arrOf st') (lo+k) (lo+k-(lo+l)))) st':=by
    rw[moveDown'_eq];exact wpS_modify rfl
   refine wpS_bind (wpS_mono mv fun _ st2 e2=>?_)
   subst e2
   refine wpS_pure ⟨rfl,a1,a2.trans (bub_up b1 hk2 (by lia)),?_⟩
   exact bub_srt b1 hk2 (by lia) a3 kz b2 fun i h h1 h2=>O.asym _ _ (hS1 _ kz) (hS1 _ h) (b3 i h h1 h2)
end
end Tm
end
section
namespace Tm
open PySem PySem.W PyProof.Rows
section
variable {S:Keyed->Prop}{L:Keyed->Keyed->Bool}
def DI (L:Keyed->Keyed->Bool) (arr:Array Keyed) (p q:Nat):Prop:=∀ i j (hi:i<arr.size) (hj:j<arr.size),p<=i->i<j->j<q->L arr[i] arr[j]=false
def EQ (L:Keyed->Keyed->Bool) (arr:Array Keyed) (p q:Nat):Prop:=∀ i j (hi:i<arr.size) (hj:j<arr.size),p<=i->i<q->p<=j->j<q->L arr[i] arr[j]=false
theorem Ord.irr (O:Ord S L) {x:Keyed} (sx:S x):L x x=false:=by
 cases e:L x x with
 | false=>rfl
 | true=>rw[O.asym x x sx sx e]at e;cases e
theorem mir_get {arr:Array Keyed}{p q i:Nat} (hq:q<=arr.size) (hi:i<(mirror arr p q ((q-p) / 2)).size):∃ (j:Nat) (hj:j<arr.size),(mirror arr p q ((q-p) / 2))[i]=arr[j]/\((p<=i/\i<q/\j=p+q-1-i)\/(¬(p<=i/\i<q)/\j=i)):=by
 have hz:(mirror arr p q ((q-p) / 2)).size=arr.size:=mirror_size _ _ _ _
 have e:=getElem?_mirror_all (xs:=arr) (i:=p) hq i
 rw[Array.getElem?_eq_getElem hi]at e
 by_cases c:p<=i/\i<q
 ·rw[if_pos c,Array.getElem?_eq_getElem (show p+q-1-i<arr.size by lia)]at e
  exact⟨_,by lia,by injection e,.inl ⟨c.1,c.2,rfl⟩⟩
 ·rw[if_neg c,Array.getElem?_eq_getElem (show i<arr.size by lia)]at e
  exact⟨_,by lia,by injection e,.inr ⟨c,rfl⟩⟩
theorem mir_up {arr:Array Keyed}{p q:Nat} (hq:q<=arr.size):Up arr (mirror arr p q ((q-p) / 2)) p q:=
 ⟨mirror_perm _ _ _ _,fun i hi=>by rw[getElem?_mirror_all hq,if_neg (by lia)]⟩
theorem DI.rev {arr:Array Keyed}{lo hi p q:Nat} (h:DI L arr lo hi) (e:EQ L arr p q) (h1:lo<=p) (h2:q<=hi) (hq:q<=arr.size):DI L (mirror arr p q ((q-p) / 2)) lo hi:=fun i j zi zj a1 a2 a3=>by
 obtain⟨i',hi',e1,w1⟩:=mir_get hq zi
 obtain⟨j',hj',e2,w2⟩:=mir_get hq zj
 rw[e1,e2]
 rcases w1 with ⟨b1,b2,b3⟩ | ⟨b1,b3⟩ <;> rcases w2 with ⟨c1,c2,c3⟩ | ⟨c1,c3⟩
 ·exact e _ _ hi' hj' (by lia) (by lia) (by lia) (by lia)
 ·exact h _ _ hi' hj' (by lia) (by lia) (by lia)
 ·exact h _ _ hi' hj' (by lia) (by lia) (by lia)
 ·exact h _ _ hi' hj' (by lia) (by lia) (by lia)
theorem DI.turn {arr:Array Keyed}{lo hi:Nat} (h:DI L arr lo hi) (hq:hi<=arr.size):SI L (mirror arr lo hi ((hi-lo) / 2)) lo hi:=fun i j zi zj a1 a2 a3=>by
 obtain⟨i',hi',e1,w1⟩:=mir_get hq zi
 obtain⟨j',hj',e2,w2⟩:=mir_get hq zj
 rw[e1,e2]
 rcases w1 with ⟨b1,b2,b3⟩ | ⟨b1,b3⟩ <;> rcases w2 with ⟨c1,c2,c3⟩ | ⟨c1,c3⟩
 ·exact h _ _ hj' hi' (by lia) (by lia) (by lia)
 ·lia
 ·lia
 ·lia
theorem DI.ext (O:Ord S L) {arr:Array Keyed}{lo n:Nat} (hS:∀ i (h:i<arr.size),S arr[i]) (h:DI L arr lo n) (h1:n-1<arr.size) (h2:n<arr.size) (hn:lo<n) (e:L arr[n-1] arr[n]=false):DI L arr lo (n+1):=fun i j zi zj a1 a2 a3=>by
 by_cases ej:j=n
 ·subst ej
  by_cases ei:i=j-1
  ·subst ei;exact e
  ·exact O.trans _ _ _ (hS _ h2) (hS _ h1) (hS _ zi) e (h i (j-1) zi h1 a1 (by lia) (by lia))
 ·exact h i j zi zj a1 a2 (by lia)
theorem SI.ext (O:Ord S L) {arr:Array Keyed}{lo n:Nat} (hS:∀ i (h:i<arr.size),S arr[i]) (h:SI L arr lo n) (h1:n-1<arr.size) (h2:n<arr.size) (hn:lo<n) (e:L arr[n] arr[n-1]=false):SI L arr lo (n+1):=fun i j zi zj a1 a2 a3=>by
 by_cases ej:j=n
 ·subst ej
  by_cases ei:i=j-1
  ·subst ei;exact e
  ·exact O.trans _ _ _ (hS _ zi) (hS _ h1) (hS _ h2) (h i (j-1) zi h1 a1 (by lia) (by lia)) e
 ·exact h i j zi zj a1 a2 (by lia)
end
section
variable {M:Model}{A:Around}{E:Value->Shared->Prop}{s:Shared} {κ:SortKind} {S:Keyed->Prop}{L:Keyed->Keyed->Bool}
theorem wp_rev {i j:Nat}{st:SortSt}{Q:Unit->SortSt->Prop} (h:Q () (setArr st (mirror (arrOf st) i j ((j-i) / 2)))):wpS M A E s (reverseSlice' i j) Q st:=by
 rw[reverseSlice'_eq];exact wpS_modify h
theorem wp_run {lo nrem : Nat} {st : SortSt} {Q : Option Nat -> SortSt -> Prop} (C : Cmp M A E s κ S L) (O : Ord S L) (hk : kindOf st = κ) (hS : ∀ i (h : i < (arrOf st).size), S (arrOf st)[i]) (hz : lo + nrem <= (arrOf st).size) (h1 : 1 <= nrem)
    (q : ∀ n (st' : SortSt), 1 <= n -> n <= nrem -> SA0 st st' -> Up (arrOf st) (arrOf st') lo (lo + nrem) -> SI L (arrOf st') lo (lo + n) -> Q (some n) st') : wpS M A E s (countRun' lo nrem) Q st := by
  unfold countRun'
  refine wpS_bind (wpS_mono (wpS_forRange (I := fun t c st' => ∃ n, c = (none, n) /\ st' = st /\ n = t /\ 1 <= n /\ n <= nrem /\ SI L (arrOf st) lo (lo + n)) (Q := fun c st' => ∃ n, c = (none, n) /\ st' = st /\ 1 <= n /\ n <= nrem /\ SI L (arrOf st) lo (lo + n) /\ (n < nrem -> ∀ (za : lo + n < (arrOf st).size) (zb : lo + n - 1 < (arrOf st).size), L (arrOf st)[lo + n] (arrOf st)[lo + n - 1] = true)) ?step ?fin ⟨1, rfl, rfl, rfl, Nat.le_refl _, h1, fun i j zi zj a1 a2 a3 => by lia⟩) ?post)
  case fin =>
    rintro c st' ⟨n, rfl, rfl, e, a1, a2, a3⟩
    exact ⟨n, rfl, rfl, a1, a2, a3, fun h => by lia⟩
  case step =>
    rintro t c st' ht1 ht ⟨n, rfl, rfl, rfl, a1, a2, a3⟩
    dsimp only
    have za : lo + n < (arrOf st').size := by lia
    have zb : lo + n - 1 < (arrOf st').size := by lia
    refine wpS_bind (wp_ltAt C hk hS za zb ?_)
    dsimp only
    cases e : L (arrOf st')[lo + n] (arrOf st')[lo + n - 1] with
    | true => exact wpS_pure ⟨n, rfl, rfl, a1, a2, a3, fun _ _ _ => e⟩
    | false => exact wpS_pure ⟨n + 1, rfl, rfl, rfl, by lia, by lia, a3.ext (n := lo + n) O hS zb za (by lia) e⟩
  case post =>
    rintro c st' ⟨n, rfl, rfl, a1, a2, a3, a4⟩
    dsimp only
    by_cases e1 : (n == nrem) = true
    · rw [if_pos e1]
      exact wpS_pure (q n st' a1 a2 ⟨rfl, rfl, rfl⟩ (.refl _ _ _) a3)
    rw [if_neg e1]
    have hn : n < nrem := by have : n ≠ nrem := by simpa using e1
                             lia
    have za : lo + n < (arrOf st').size := by lia
    have zb : lo + n - 1 < (arrOf st').size := by lia
    have zl : lo < (arrOf st').size := by lia
    have sm := a4 hn za zb
    have lt1 : L (arrOf st')[lo + n - 1] (arrOf st')[lo + n] = false := O.asym _ _ (hS _ za) (hS _ zb) sm
    by_cases c1 : n > 1
    case' pos =>
      rw [if_pos c1]
      refine wpS_bind (wp_ltAt C hk hS zl zb ?_)
      dsimp only
      by_cases rose : L (arrOf st')[lo] (arrOf st')[lo + n - 1] = true
      · rw [if_pos rose]
        exact wpS_pure (q n st' a1 a2 ⟨rfl, rfl, rfl⟩ (.refl _ _ _) a3)
      rw [if_neg rose]
      have rose' : L (arrOf st')[lo] (arrOf st')[lo + n - 1] = false := by simpa using rose
      have eq0 : EQ L (arrOf st') lo (lo + n) := fun i j zi zj b1 b2 b3 b4 => by
        have l1 : L (arrOf st')[lo + n - 1] (arrOf st')[j] = false := by
          by_cases ej : j = lo + n - 1
          · subst ej; exact O.irr (hS _ zj)
          · exact a3 j (lo + n - 1) zj zb b3 (by lia) (by lia)
        have l2 : L (arrOf st')[i] (arrOf st')[lo] = false := by
          by_cases ei : i = lo
          · subst ei; exact O.irr (hS _ zi)
          · exact a3 lo i zl zi (by lia) (by lia) b2
        exact O.trans _ _ _ (hS _ zj) (hS _ zl) (hS _ zi) (O.trans _ _ _ (hS _ zj) (hS _ zb) (hS _ zl) l1 rose') l2
      have d0 : DI L (arrOf st') lo (lo + n) := fun i j zi zj b1 b2 b3 => eq0 i j zi zj b1 (by lia) (by lia) b3
      refine wpS_bind (wp_rev ?_)
      have x1 : SA0 st' (setArr st' (mirror (arrOf st') lo (lo + n) ((lo + n - lo) / 2))) := ⟨rfl, rfl, rfl⟩
      have x2 : Up (arrOf st') (mirror (arrOf st') lo (lo + n) ((lo + n - lo) / 2)) lo (lo + nrem) := (mir_up (by lia)).wide (Nat.le_refl _) (by lia)
      have x3 : DI L (mirror (arrOf st') lo (lo + n) ((lo + n - lo) / 2)) lo (lo + n + 1) := (d0.ext (n := lo + n) O hS zb za (by lia) lt1).rev eq0 (Nat.le_refl _) (by lia) (by lia)
    case' neg =>
      rw [if_neg c1]
      have x1 : SA0 st' st' := ⟨rfl, rfl, rfl⟩
      have x2 : Up (arrOf st') (arrOf st') lo (lo + nrem) := .refl _ _ _
      have x3 : DI L (arrOf st') lo (lo + n + 1) := DI.ext (n := lo + n) O hS (fun i j zi zj b1 b2 b3 => by lia) zb za (by lia) lt1
    all_goals
      refine wpS_bind (wpS_lift (wpAny_rule ⟨rfl, ?_⟩))
      have hS2 := x2.S hS
      have hz2 := x2.size
      refine wpS_bind (wpS_mono (wpS_forRange (I := fun t c st2 => ∃ m neq, c = (none, m, neq) /\ m = t /\ SA0 st' st2 /\ Up (arrOf st') (arrOf st2) lo (lo + nrem) /\ DI L (arrOf st2) lo (lo + m) /\ EQ L (arrOf st2) (lo + m - (neq + 1)) (lo + m) /\ neq + 1 <= m /\ 1 <= m /\ m <= nrem)
        (Q := fun c st2 => ∃ m neq, c = (none, m, neq) /\ SA0 st' st2 /\ Up (arrOf st') (arrOf st2) lo (lo + nrem) /\ DI L (arrOf st2) lo (lo + m) /\ EQ L (arrOf st2) (lo + m - (neq + 1)) (lo + m) /\ neq + 1 <= m /\ 1 <= m /\ m <= nrem) ?dstep ?dfin ⟨n + 1, 0, rfl, rfl, x1, x2, x3, fun i j zi zj b1 b2 b3 b4 => by
          have e : i = j := by lia
          subst e; exact O.irr (hS2 _ zi), by lia, by lia, by lia⟩) ?dpost)
      case dfin =>
        rintro c st2 ⟨m, neq, rfl, rfl, y⟩
        exact ⟨_, neq, rfl, y⟩
      case dstep =>
        rintro t c st2 ht1 ht2 ⟨m, neq, rfl, rfl, y1, y2, y3, y4, y5, y6, y7⟩
        dsimp only
        have hk2 : kindOf st2 = κ := y1.1.trans hk
        have hS3 := y2.S hS
        have hz3 := y2.size
        have wa : lo + m < (arrOf st2).size := by lia
        have wb : lo + m - 1 < (arrOf st2).size := by lia
        refine wpS_bind (wp_ltAt C hk2 hS3 wa wb ?_)
        dsimp only
        cases e : L (arrOf st2)[lo + m] (arrOf st2)[lo + m - 1] with
        | true =>
          rw [if_pos rfl]
          have dm := y3.ext (n := lo + m) O hS3 wb wa (by lia) (O.asym _ _ (hS3 _ wa) (hS3 _ wb) e)
          by_cases c2 : neq > 0
          · rw [if_pos c2]
            refine wpS_bind (wp_rev ?_)
            have u2 : Up (arrOf st2) (mirror (arrOf st2) (lo + m - (neq + 1)) (lo + m) ((lo + m - (lo + m - (neq + 1))) / 2)) lo (lo + nrem) := (mir_up (by lia)).wide (by lia) (by lia)
            have u3 := y2.trans u2
            refine wpS_pure ⟨m + 1, 0, rfl, rfl, y1, u3, dm.rev y4 (by lia) (by lia) (by lia), fun i j zi zj b1 b2 b3 b4 => ?_, by lia, by lia, by lia⟩
            have e3 : i = j := by lia
            subst e3; exact O.irr (u3.S hS _ zi)
          · rw [if_neg c2]
            refine wpS_pure ⟨m + 1, 0, rfl, rfl, y1, y2, dm, fun i j zi zj b1 b2 b3 b4 => ?_, by lia, by lia, by lia⟩
            have e3 : i = j := by lia
            subst e3; exact O.irr (hS3 _ zi)
        | false =>
          rw [if_neg (by decide)]
          refine wpS_bind (wp_ltAt C hk2 hS3 wb wa ?_)
          dsimp only
          cases e2 : L (arrOf st2)[lo + m - 1] (arrOf st2)[lo + m] with
          | true => exact wpS_pure ⟨m, neq, rfl, y1, y2, y3, y4, y5, y6, y7⟩
          | false =>
            refine wpS_pure ⟨m + 1, neq + 1, rfl, rfl, y1, y2, y3.ext (n := lo + m) O hS3 wb wa (by lia) e2, fun i j zi zj b1 b2 b3 b4 => ?_, by lia, by lia, by lia⟩
            by_cases ei : i = lo + m <;> by_cases ej : j = lo + m
            · have e3 : i = j := by lia
              subst e3; exact O.irr (hS3 _ zi)
            · subst ei
              exact O.trans _ _ _ (hS3 _ zj) (hS3 _ wb) (hS3 _ wa) (y4 (lo + m - 1) j wb zj (by lia) (by lia) (by lia) (by lia)) e
            · subst ej
              exact O.trans _ _ _ (hS3 _ wa) (hS3 _ wb) (hS3 _ zi) e2 (y4 i (lo + m - 1) zi wb (by lia) (by lia) (by lia) (by lia))
            · exact y4 i j zi zj (by lia) (by lia) (by lia) (by lia)
      case dpost =>
        rintro c st2 ⟨m, neq, rfl, y1, y2, y3, y4, y5, y6, y7⟩
        dsimp only
        have hz3 := y2.size
        by_cases c2 : neq > 0
        case' pos =>
          rw [if_pos c2]
          refine wpS_bind (wp_rev ?_)
          have u2 : Up (arrOf st2) (mirror (arrOf st2) (lo + m - (neq + 1)) (lo + m) ((lo + m - (lo + m - (neq + 1))) / 2)) lo (lo + nrem) := (mir_up (by lia)).wide (by lia) (by lia)
          have v2 := y2.trans u2
          have v3 := y3.rev y4 (by lia) (by lia) (by lia)
          have v1 : SA0 st' (setArr st2 (mirror (arrOf st2) (lo + m - (neq + 1)) (lo + m) ((lo + m - (lo + m - (neq + 1))) / 2))) := y1
        case' neg =>
          rw [if_neg c2]
          have v2 := y2
          have v3 := y3
          have v1 := y1
        all_goals
          have hz4 := v2.size
          refine wpS_bind (wp_rev ?_)
          have w2 := v2.trans ((mir_up (p := lo) (q := lo + m) (by rw [hz4]; lia)).wide (Nat.le_refl _) (by lia))
          have w3 := v3.turn (by rw [hz4]; lia)
          have hS5 := w2.S hS
          have hz5 := w2.size
          refine wpS_bind (wpS_mono (wpS_forRange (I := fun t c st3 => ∃ n', c = (none, n') /\ n' = t /\ SA0 st' st3 /\ Up (arrOf st') (arrOf st3) lo (lo + nrem) /\ SI L (arrOf st3) lo (lo + n') /\ 1 <= n' /\ n' <= nrem) (Q := fun c st3 => ∃ n', c = (none, n') /\ SA0 st' st3 /\ Up (arrOf st') (arrOf st3) lo (lo + nrem) /\ SI L (arrOf st3) lo (lo + n') /\ 1 <= n' /\ n' <= nrem) ?astep ?afin ⟨m, rfl, rfl, v1, w2, w3, by lia, by lia⟩) ?apost)
          case afin =>
            rintro c st3 ⟨n', rfl, rfl, y⟩
            exact ⟨_, rfl, y⟩
          case apost =>
            rintro c st3 ⟨n', rfl, g1, g2, g3, g4, g5⟩
            exact wpS_pure (q n' st3 g4 g5 g1 g2 g3)
          case astep =>
            rintro t c st3 ht1 ht2 ⟨n', rfl, rfl, g1, g2, g3, g4, g5⟩
            dsimp only
            have hk3 : kindOf st3 = κ := g1.1.trans hk
            have hS6 := g2.S hS
            have hz6 := g2.size
            have wa : lo + n' < (arrOf st3).size := by lia
            have wb : lo + n' - 1 < (arrOf st3).size := by lia
            refine wpS_bind (wp_ltAt C hk3 hS6 wa wb ?_)
            dsimp only
            cases e : L (arrOf st3)[lo + n'] (arrOf st3)[lo + n' - 1] with
            | true => exact wpS_pure ⟨n', rfl, g1, g2, g3, g4, g5⟩
            | false => exact wpS_pure ⟨n' + 1, rfl, rfl, g1, g2, g3.ext (n := lo + n') O hS6 wb wa (by lia) e, by lia, by lia⟩
end
end Tm
end
section
namespace Tm
open PySem PySem.W PyProof.Rows
section
variable {L:Keyed->Keyed->Bool}
theorem at_up {arr arr':Array Keyed}{sa n:Nat} (h:At L arr arr' sa n) (hz:sa+n<=arr.size):Up arr arr' sa (sa+n)/\SI L arr' sa (sa+n):=by
 obtain⟨seg,e,s,p⟩:=h
 have lx:(arr.extract sa (sa+n)).toList.length=n:=by rw[Array.length_toList,Array.size_extract];lia
 have ls:seg.length=n:=by rw[p.length_eq,lx]
 have la:arr.toList.length=arr.size:=Array.length_toList
 have lt:(arr.toList.take sa).length=sa:=by rw[List.length_take];lia
 have ea:arr.toList=arr.toList.take sa++(arr.extract sa (sa+n)).toList++arr.toList.drop (sa+n):=by
  rw[ext2,List.append_assoc,<- List.drop_drop,List.take_append_drop,List.take_append_drop]
 have pm:arr'.Perm arr:=by
  rw[Array.perm_iff_toList_perm,e]
  refine List.Perm.trans ?_ (List.Perm.of_eq ea.symm)
  exact List.Perm.append_right _ (List.Perm.append_left _ p)
 have get:∀ i,arr'[i]?=(arr.toList.take sa++seg++arr.toList.drop (sa+n))[i]?:=fun i=>by rw[<- e,Array.getElem?_toList]
 refine⟨⟨pm,fun i hi=>?_⟩,fun i j zi zj a1 a2 a3=>?_⟩
 ·rw[get,<- Array.getElem?_toList]
  rcases hi with hi | hi
  ·rw[List.append_assoc,List.getElem?_append_left (by lia),List.getElem?_take_of_lt hi]
  ·rw[List.getElem?_append_right (by rw[List.length_append];lia),List.getElem?_drop,List.length_append,lt,ls]
   congr 1;lia
 ·have gi:∀ k (zk:k<arr'.size),sa<=k->k<sa+n->∃ h:k-sa<seg.length,arr'[k]=seg[k-sa]:=fun k zk b1 b2=>by
   have:=get k
   rw[Array.getElem?_eq_getElem zk,List.append_assoc,List.getElem?_append_right (by lia),lt,List.getElem?_append_left (by lia),List.getElem?_eq_getElem (by lia)]at this
   exact⟨by lia,by injection this⟩
  obtain⟨h1,e1⟩:=gi i zi a1 (by lia)
  obtain⟨h2,e2⟩:=gi j zj (by lia) a3
  rw[e1,e2]
  exact List.pairwise_iff_getElem.mp s _ _ h1 h2 (by lia)
def Runs (L:Keyed->Keyed->Bool) (arr:Array Keyed):List (Nat×Nat×Nat)->Nat->Nat->Prop
 | [],a,b=>a=b
 | x::r,a,b=>x.1=a/\0<x.2.1/\SI L arr a (a+x.2.1)/\Runs L arr r (a+x.2.1) b
theorem Runs.le {arr:Array Keyed}:∀ {r:List (Nat×Nat×Nat)}{a b:Nat},Runs L arr r a b->a+r.length<=b
 | [],a,b,h=>by have:a=b:=h;simp;lia
 | x::r,a,b,⟨h1,h2,h3,h4⟩=>by have:=h4.le;rw[List.length_cons];lia
theorem Runs.app {arr:Array Keyed}:∀ {r q:List (Nat×Nat×Nat)}{a b:Nat},Runs L arr (r++q) a b ↔ ∃ c,Runs L arr r a c/\Runs L arr q c b
 | [],q,a,b=>⟨fun h=>⟨a,rfl,h⟩,fun⟨c,h1,h2⟩=>by have e:a=c:=h1;subst e;exact h2⟩
 | x::r,q,a,b=>by
  constructor
  ·rintro⟨h1,h2,h3,h4⟩
   obtain⟨c,h5,h6⟩:=Runs.app.mp h4
   exact⟨c,⟨h1,h2,h3,h5⟩,h6⟩
  ·rintro⟨c,⟨h1,h2,h3,h5⟩,h6⟩
   exact⟨h1,h2,h3,Runs.app.mpr ⟨c,h5,h6⟩⟩
theorem Runs.keep {arr arr':Array Keyed}{lo hi:Nat} (u:Up arr arr' lo hi):∀ {r:List (Nat×Nat×Nat)}{a b:Nat},Runs L arr r a b->(b<=lo\/hi<=a)->Runs L arr' r a b
 | [],a,b,h,_=>h
 | x::r,a,b,⟨h1,h2,h3,h4⟩,o=>by
  have:=h4.le
  exact⟨h1,h2,h3.keep u (by lia),h4.keep u (by lia)⟩
theorem Runs.mod {arr:Array Keyed}{f:Nat×Nat×Nat->Nat×Nat×Nat} (hf:∀ x,(f x).1=x.1/\(f x).2.1=x.2.1):∀ {r:List (Nat×Nat×Nat)}{i a b:Nat},Runs L arr r a b->Runs L arr (r.modify i f) a b
 | [],i,a,b,h=>by simpa using h
 | x::r,0,a,b,⟨h1,h2,h3,h4⟩=>by
  rw[List.modify_zero_cons]
  have:=hf x
  exact⟨this.1.trans h1,by rw[this.2];exact h2,by rw[this.2];exact h3,by rw[this.2];exact h4⟩
 | x::r,i+1,a,b,⟨h1,h2,h3,h4⟩=>by
  rw[List.modify_succ_cons]
  exact⟨h1,h2,h3,Runs.mod hf h4⟩
theorem split2 {α:Type} {l:List α}{i:Nat} (h:i+1<l.length):∃ p x y r,l=p++x::y::r/\p.length=i:=by
 refine⟨l.take i,l[i],l[i+1],l.drop (i+2),?_,by rw[List.length_take];lia⟩
 rw[<- List.drop_eq_getElem_cons h,<- List.drop_eq_getElem_cons (by lia),List.take_append_drop]
end
section
variable {M:Model}{A:Around}{E:Value->Shared->Prop}{s:Shared} {κ:SortKind} {S:Keyed->Prop}{L:Keyed->Keyed->Bool}
structure Sw (κ:SortKind) (S:Keyed->Prop) (L:Keyed->Keyed->Bool) (a0:Array Keyed) (st:SortSt) (lo:Nat):Prop where
 kind:kindOf st=κ
 failed:failedOf st=none
 perm:(arrOf st).Perm a0
 runs:Runs L (arrOf st) (pendingOf st).toList 0 lo
theorem Sw.all {a0:Array Keyed}{st:SortSt}{lo:Nat} (h:Sw κ S L a0 st lo) (hS:∀ i (h:i<a0.size),S a0[i]):∀ i (h:i<(arrOf st).size),S (arrOf st)[i]:=
 Up.S (lo:=0) (hi:=a0.size) (a:=a0) ⟨h.perm,fun i hi=>by
  have z:=h.perm.size_eq
  rcases hi with hi | hi
  ·lia
  ·rw[Array.getElem?_eq_none (by lia),Array.getElem?_eq_none hi]⟩ hS
theorem wp_merge {a0:Array Keyed}{st:SortSt}{lo i:Nat}{Q:Bool->SortSt->Prop} (C:Cmp M A E s κ S L) (O:Ord S L) (hS:∀ i (h:i<a0.size),S a0[i]) (w:Sw κ S L a0 st lo) (hl:lo<=a0.size) (hi:i+1<(pendingOf st).size)
  (q:∀ st':SortSt,Sw κ S L a0 st' lo->Up (arrOf st) (arrOf st') 0 lo->(pendingOf st').size+1=(pendingOf st).size->Q true st'):wpS M A E s (mergeAt' i) Q st:=by
 have sz:=w.perm.size_eq
 obtain⟨p,x,y,r,ep,lp⟩:=split2 (l:=(pendingOf st).toList) (i:=i) (by rw[Array.length_toList];exact hi)
 have rn:=w.runs
 rw[ep]at rn
 obtain⟨c,r1,hx1,hx2,hx3,hy1,hy2,hy3,r2⟩:=Runs.app.mp rn
 have le1:=r1.le
 have le2:=r2.le
 obtain⟨xs,xn,xp⟩:=x
 obtain⟨ys,yn,yp⟩:=y
 dsimp only at hx1 hx2 hx3 hy1 hy2 hy3 r2 le2
 subst hx1
 subst hy1
 have g1:(pendingOf st)[i]?=some (xs,xn,xp):=by
  rw[<- Array.getElem?_toList,ep,List.getElem?_append_right (by lia),show i-p.length=0 by lia];rfl
 have g2:(pendingOf st)[i+1]?=some (xs+xn,yn,yp):=by
  rw[<- Array.getElem?_toList,ep,List.getElem?_append_right (by lia),show i+1-p.length=1 by lia];rfl
 refine wp_at C O w.kind w.failed (w.all hS) g1 g2 rfl hx2 hy2 (by lia) hx3 hy3 fun st' k1 k2 k3 k4=>?_
 obtain⟨u1,u2⟩:=at_up k4 (by lia)
 have ep':(pendingOf st').toList=p++(xs,xn+yn,xp)::r:=by
  rw[k3]
  simp only[Array.toList_eraseIdxIfInBounds,Array.toList_setIfInBounds,ep]
  rw[List.set_append_right _ _ (by lia),show i-p.length=0 by lia]
  rw[List.eraseIdx_append_of_length_le (by lia),show i+1-p.length=1 by lia]
  rfl
 refine q st' ⟨k1,k2,u1.1.trans w.perm,?_⟩ (u1.wide (by lia) (by lia)) ?_
 ·rw[ep']
  refine Runs.app.mpr ⟨xs,r1.keep u1 (by lia),rfl,?_,u2,?_⟩
  ·show 0<xn+yn;lia
  ·have:=r2.keep u1 (by lia)
   rwa [show xs+xn+yn=xs+(xn+yn) by lia]at this
 ·rw[<- Array.length_toList,<- Array.length_toList,ep',ep]
  simp only[List.length_append,List.length_cons]
  lia
theorem wp_sort {a0:Array Keyed}{st:SortSt}{Q:Unit->SortSt->Prop} (C:Cmp M A E s κ S L) (O:Ord S L) (hS:∀ i (h:i<a0.size),S a0[i]) (hk:kindOf st=κ) (hf:failedOf st=none) (ha:arrOf st=a0) (hp:pendingOf st=#[]) (hn:1<=a0.size)
  (q:∀ st':SortSt,(arrOf st').Perm a0->failedOf st'=none->SI L (arrOf st') 0 a0.size->Q () st'):wpS M A E s sortRuns' Q st:=by
 unfold sortRuns'
 refine wpS_bind (wpS_get ?_)
 dsimp only
 rw[show ((sortPriv% PySem.Builtin.SortState.a) st:Array Keyed)=a0 from ha]
 refine wpS_bind (wpS_mono (wpS_forRange (I:=fun t c st'=>∃ lo,c=(none,lo)/\Sw κ S L a0 st' lo/\lo<=a0.size/\t<=lo) (Q:=fun c st'=>c=(none,a0.size)/\Sw κ S L a0 st' a0.size) ?step ?fin ⟨0,rfl,⟨hk,hf,by rw[ha],by rw[hp];rfl⟩,by lia,by lia⟩) ?post)
 case fin=>
  rintro c st' ⟨lo,rfl,w,l1,l2⟩
  have:lo=a0.size:=by lia
  subst this
  exact⟨rfl,w⟩
 case step=>
  rintro t c st1 ht1 ht2 ⟨lo,rfl,w,l1,l2⟩
  dsimp only
  have sz:=w.perm.size_eq
  by_cases hge:lo ≥ a0.size
  ·rw[if_pos hge]
   have:lo=a0.size:=by lia
   subst this
   exact wpS_pure ⟨rfl,w⟩
  rw[if_neg hge]
  refine wpS_bind (wp_run C O w.kind (w.all hS) (by lia) (by lia) fun n st2 n1 n2 s2 u2 i2=>?_)
  dsimp only
  have wU:∀ (st3:SortSt) (N:Nat),SA0 st1 st3->Up (arrOf st1) (arrOf st3) lo (lo+(a0.size-lo))->Sw κ S L a0 st3 lo:=fun st3 N x1 x2=>⟨x1.1.trans w.kind,x1.2.2.trans w.failed,x2.1.trans w.perm,by rw[x1.2.1];exact w.runs.keep x2 (.inl (Nat.le_refl _))⟩
  generalize ((sortPriv% PySem.Builtin.minRun) a0.size a0.size 0:Nat)=mr
  by_cases c1:n<mr
  case' pos=>
   rw[if_pos c1]
   refine wpS_bind (wpS_lift (wpAny_rule ⟨rfl,?_⟩))
   have sz2:=u2.size
   refine wpS_bind (wp_bin C O (s2.1.trans w.kind) (u2.S (w.all hS)) (by lia) (by rw[show max n 1=n by lia];exact i2) fun st3 s3 u3 i3=>?_)
   rw[if_neg (by decide)]
   have m1:1<=min (a0.size-lo) (mr):=by lia
   have m2:min (a0.size-lo) (mr)<=a0.size-lo:=by lia
   have wN:=wU st3 0 ⟨s3.1.trans s2.1,s3.2.1.trans s2.2.1,s3.2.2.trans s2.2.2⟩ (u2.trans (u3.wide (Nat.le_refl _) (by lia)))
   have iN:=i3
   generalize min (a0.size-lo) mr=N at m1 m2 iN ⊢
  case' neg=>
   rw[if_neg c1]
   have m1:=n1
   have m2:=n2
   have wN:=wU st2 0 s2 u2
   have iN:=i2
   clear c1 i2 n1 n2
   generalize n=N at m1 m2 iN ⊢
  all_goals
   refine wpS_bind (wpS_get ?_)
   split
   ·refine wpS_bind (wpS_mono (wpS_forRange (I:=fun u c st'=>c=(none,())/\Sw κ S L a0 st' lo/\SI L (arrOf st') lo (lo+N)) (Q:=fun c st'=>c=(none,())/\Sw κ S L a0 st' lo/\SI L (arrOf st') lo (lo+N)) ?mstep ?mfin ⟨rfl,wN,iN⟩) ?mpost)
    case mfin=>exact fun c st' h=>h
    case mstep=>
     rintro u c st' hu1 hu2 ⟨rfl,w',i'⟩
     refine wpS_bind (wpS_get ?_)
     by_cases hp1:(pendingOf st').size > 1
     ·rw[if_pos hp1,Array.getElem?_eq_getElem (show (pendingOf st').size-2<(pendingOf st').size by lia)]
      generalize (pendingOf st')[(pendingOf st').size-2]=x
      obtain⟨x1,x2,x3⟩:=x
      dsimp only
      split
      ·exact wpS_pure ⟨rfl,w',i'⟩
      ·refine wpS_bind (wp_merge C O hS w' l1 (show (pendingOf st').size-2+1<(pendingOf st').size by lia) fun st'' w'' u'' _=>?_)
       rw[if_neg (by decide)]
       exact wpS_pure ⟨rfl,w'',i'.keep u'' (by lia)⟩
     ·rw[if_neg hp1]
      exact wpS_pure ⟨rfl,w',i'⟩
    case mpost=>
     rintro c st' ⟨rfl,w',i'⟩
     dsimp only
     refine wpS_bind (wpS_modify ?_)
     refine wpS_bind (wpS_modify ?_)
     refine wpS_pure ⟨_,rfl,⟨w'.kind,w'.failed,w'.perm,?_⟩,by lia,by lia⟩
     rw[Array.toList_push,Array.toList_modify]
     refine Runs.app.mpr ⟨lo,?_,rfl,m1,i',rfl⟩
     refine Runs.mod ?_ w'.runs
     exact fun x=>⟨rfl,rfl⟩
   ·refine wpS_bind (wpS_modify ?_)
    refine wpS_pure ⟨_,rfl,⟨wN.kind,wN.failed,wN.perm,?_⟩,by lia,by lia⟩
    rw[Array.toList_push]
    exact Runs.app.mpr ⟨lo,wN.runs,rfl,m1,iN,rfl⟩
 case post=>
  rintro c st1 ⟨rfl,w⟩
  dsimp only
  have le0:=w.runs.le
  rw[Array.length_toList]at le0
  refine wpS_bind (wpS_mono (wpS_forRange (I:=fun t c st'=>c=(none,())/\Sw κ S L a0 st' a0.size/\(pendingOf st').size+t<=a0.size+1) (Q:=fun c st'=>c=(none,())/\Sw κ S L a0 st' a0.size/\(pendingOf st').size<=1) ?cstep ?cfin ⟨rfl,w,by lia⟩) ?cpost)
  case cfin=>
   rintro c st' ⟨rfl,w',l⟩
   exact⟨rfl,w',by lia⟩
  case cstep=>
   rintro t c st' ht1 ht2 ⟨rfl,w',l⟩
   refine wpS_bind (wpS_get ?_)
   by_cases hp1:(pendingOf st').size<=1
   ·rw[if_pos hp1]
    exact wpS_pure ⟨rfl,w',hp1⟩
   rw[if_neg hp1]
   refine wpS_bind (wp_merge C O hS w' (Nat.le_refl _) ?_ fun st'' w'' u'' e''=>?_)
   ·have e9:∀ (b:Bool) (k:Nat),(if b=true then k-1 else k)<=k:=fun b k=>by split <;> lia
    exact Nat.lt_of_le_of_lt (Nat.add_le_add_right (e9 _ _) 1) (show (pendingOf st').size-2+1<(pendingOf st').size by lia)
   ·rw[if_neg (by decide)]
    exact wpS_pure ⟨rfl,w'',by lia⟩
  case cpost=>
   rintro c st' ⟨rfl,w',l⟩
   refine wpS_pure (q st' w'.perm w'.failed ?_)
   have rn:=w'.runs
   have ll:(pendingOf st').toList.length<=1:=by rw[Array.length_toList];exact l
   generalize (pendingOf st').toList=pl at rn ll
   match pl,rn,ll with
   | [],rn,_=>have:0=a0.size:=rn;lia
   | [x],⟨r1,r2,r3,r4⟩,_=>
    have e:0+x.2.1=a0.size:=r4
    rw[e]at r3
    exact r3
   | _::_::_,_,ll=>simp at ll
end
end Tm
end
section
namespace L2
open PySem PySem.Spec PyProof.Rows PySem.W Kn
theorem s1 (x y:Str) (h:sLt x y=true):sLt y x=false:=by
 by_cases e:x=y
 ·subst e;exact sLt_irrefl x
 ·rw[sLt_total e,h];rfl
theorem s2 (x y:Str) (h:sLt x y=false):x=y\/sLt y x=true:=by
 by_cases e:x=y
 ·exact .inl e
 ·exact .inr (by rw[sLt_total e,h];rfl)
mutual
theorem triD:∀ (d e:Dt) (r:Bool),ltD d e=some r->(r=true->ltD e d=some false)/\(r=false->d=e\/ltD e d=some true)
 | .int i,e,r,h=>by
  cases e with
  | int j=>
   rw[ltD]at h
   simp only[Option.some.injEq]at h
   subst h
   simp only[ltD,decide_eq_true_eq,decide_eq_false_iff_not,Option.some.injEq,Dt.int.injEq]
   lia
  | str y=>simp [ltD]at h
  | tup y=>simp [ltD]at h
 | .str x,e,r,h=>by
  cases e with
  | int j=>simp [ltD]at h
  | str y=>
   rw[ltD]at h
   simp only[Option.some.injEq]at h
   subst h
   simp only[ltD,Option.some.injEq,Dt.str.injEq]
   exact⟨s1 x y,s2 x y⟩
  | tup y=>simp [ltD]at h
 | .tup ds,e,r,h=>by
  cases e with
  | int j=>simp [ltD]at h
  | str y=>simp [ltD]at h
  | tup es=>
   rw[ltD]at h
   have:=triDs ds es r h
   simp only[ltD,Dt.tup.injEq]
   exact this
theorem triDs:∀ (ds es:List Dt) (r:Bool),ltDs ds es=some r->(r=true->ltDs es ds=some false)/\(r=false->ds=es\/ltDs es ds=some true)
 | [],[],r,h=>by rw[ltDs]at h;simp at h;subst h;exact⟨fun z=>(nomatch z),fun _=>.inl rfl⟩
 | [],e::es,r,h=>by rw[ltDs]at h;simp at h;subst h;exact⟨fun _=>by rw[ltDs],fun z=>(nomatch z)⟩
 | d::ds,[],r,h=>by rw[ltDs]at h;simp at h;subst h;exact⟨fun z=>(nomatch z),fun _=>.inr (by rw[ltDs];simp)⟩
 | d::ds,e::es,r,h=>by
  rw[ltDs]at h
  rw[ltDs]
  by_cases c:d=e
  ·rw[if_pos c]at h
   rw[if_pos c.symm]
   have:=triDs ds es r h
   refine⟨this.1,fun z=>?_⟩
   rcases this.2 z with w | w
   ·exact .inl (by rw[c,w])
   ·exact .inr w
  ·rw[if_neg c]at h
   rw[if_neg (Ne.symm c)]
   have:=triD d e r h
   refine⟨this.1,fun z=>?_⟩
   rcases this.2 z with w | w
   ·exact absurd w c
   ·exact .inr w
end
mutual
theorem trnD:∀ (d e f:Dt),ltD d e=some true->ltD e f=some true->ltD d f=some true
 | .int i,e,f,h,k=>by
  cases e with
  | int j=>
   cases f with
   | int l=>simp only[ltD,Option.some.injEq,decide_eq_true_eq]at h k ⊢;lia
   | str y=>simp [ltD]at k
   | tup y=>simp [ltD]at k
  | str y=>simp [ltD]at h
  | tup y=>simp [ltD]at h
 | .str x,e,f,h,k=>by
  cases e with
  | int j=>simp [ltD]at h
  | str y=>
   cases f with
   | int l=>simp [ltD]at k
   | str z=>simp only[ltD,Option.some.injEq]at h k ⊢;exact sLt_trans h k
   | tup y=>simp [ltD]at k
  | tup y=>simp [ltD]at h
 | .tup ds,e,f,h,k=>by
  cases e with
  | int j=>simp [ltD]at h
  | str y=>simp [ltD]at h
  | tup es=>
   cases f with
   | int l=>simp [ltD]at k
   | str z=>simp [ltD]at k
   | tup fs=>simp only[ltD]at h k ⊢;exact trnDs ds es fs h k
theorem trnDs:∀ (ds es fs:List Dt),ltDs ds es=some true->ltDs es fs=some true->ltDs ds fs=some true
 | [],es,[],h,k=>by
  cases es with
  | nil=>exact h
  | cons e es=>rw[ltDs]at k;simp at k
 | [],es,f::fs,h,k=>by rw[ltDs];simp
 | d::ds,[],fs,h,k=>by rw[ltDs]at h;simp at h
 | d::ds,e::es,[],h,k=>by rw[ltDs]at k;simp at k
 | d::ds,e::es,f::fs,h,k=>by
  rw[ltDs]at h k ⊢
  by_cases c1:d=e
  ·rw[if_pos c1]at h
   subst c1
   by_cases c2:d=f
   ·rw[if_pos c2]at k ⊢
    exact trnDs ds es fs h k
   ·rw[if_neg c2]at k ⊢
    exact k
  ·rw[if_neg c1]at h
   by_cases c2:e=f
   ·subst c2
    rw[if_neg c1];exact h
   ·rw[if_neg c2]at k
    have c3:d≠f:=fun z=>by
     subst z
     have:=(triD d e true h).1 rfl
     rw[this]at k;cases k
    rw[if_neg c3]
    exact trnD d e f h k
end
theorem ltDs_le {a b c:List Dt}{q:Bool} (h:ltDs b a=some false) (k:ltDs c b=some false) (z:ltDs c a=some q):q=false:=by
 cases q with
 | false=>rfl
 | true=>
  exfalso
  rcases (triDs b a false h).2 rfl with e | e
  ·subst e;rw[z]at k;cases k
  ·rcases (triDs c b false k).2 rfl with e' | e'
   ·subst e';rw[z]at h;cases h
   ·have:=trnDs a b c e e'
    have t:=(triDs a c true this).1 rfl
    rw[z]at t;cases t
theorem ord_D {S:Keyed->Prop}{D:Keyed->List Dt} (tot:∀ x y,S x->S y->(ltDs (D x) (D y)).isSome=true):Tm.Ord S fun x y=>(ltDs (D x) (D y)).getD false:=by
 have get:∀ x y,S x->S y->ltDs (D x) (D y)=some ((ltDs (D x) (D y)).getD false):=fun x y sx sy=>by
  obtain⟨r,hr⟩:=Option.isSome_iff_exists.mp (tot x y sx sy)
  rw[hr];rfl
 refine⟨fun x y sx sy h=>?_,fun x y z sx sy sz h k=>?_⟩
 ·have e:=get x y sx sy
  rw[h]at e
  have:=(triDs _ _ true e).1 rfl
  show (ltDs (D y) (D x)).getD false=false
  rw[this];rfl
 ·have e1:=get y x sy sx
  have e2:=get z y sz sy
  have e3:=get z x sz sx
  change (ltDs (D y) (D x)).getD false=false at h
  change (ltDs (D z) (D y)).getD false=false at k
  rw[h]at e1
  rw[k]at e2
  exact ltDs_le e1 e2 e3
mutual
theorem isDt_inj {H:Hp}:∀ (d e:Dt) (v:V),IsDt H d v->IsDt H e v->d=e
 | .int i,e,v,h,k=>by
  rw[IsDt]at h;subst h
  cases e with
  | int j=>rw[IsDt]at k;cases k;rfl
  | str y=>rw[IsDt]at k;cases k
  | tup y=>rw[IsDt]at k;obtain⟨_,_,k,_⟩:=k;cases k
 | .str x,e,v,h,k=>by
  rw[IsDt]at h;subst h
  cases e with
  | int j=>rw[IsDt]at k;cases k
  | str y=>rw[IsDt]at k;cases k;rfl
  | tup y=>rw[IsDt]at k;obtain⟨_,_,k,_⟩:=k;cases k
 | .tup ds,e,v,h,k=>by
  rw[IsDt]at h
  obtain⟨a,xs,rfl,h1,h2⟩:=h
  cases e with
  | int j=>rw[IsDt]at k;cases k
  | str y=>rw[IsDt]at k;cases k
  | tup es=>
   rw[IsDt]at k
   obtain⟨b,ys,e,k1,k2⟩:=k
   cases e
   rw[h1]at k1
   cases k1
   rw[isDts_inj ds es xs h2 k2]
theorem isDts_inj {H:Hp}:∀ (ds es:List Dt) (vs:List V),IsDts H ds vs->IsDts H es vs->ds=es
 | [],[],vs,h,k=>rfl
 | [],e::es,vs,h,k=>by
  rw[IsDts]at h
  rw[IsDts]at k
  subst h
  obtain⟨_,_,k,_⟩:=k;cases k
 | d::ds,[],vs,h,k=>by
  rw[IsDts]at h
  rw[IsDts]at k
  subst k
  obtain⟨_,_,h,_⟩:=h;cases h
 | d::ds,e::es,vs,h,k=>by
  rw[IsDts]at h
  rw[IsDts]at k
  obtain⟨y,r,rfl,h1,h2⟩:=h
  obtain⟨y',r',e',k1,k2⟩:=k
  cases e'
  rw[isDt_inj d e y h1 k1,isDts_inj ds es r h2 k2]
end
end L2
end
section
namespace L2
open PySem PySem.Spec PyProof.Rows PySem.W Kn
theorem perm_map_inv {α β:Type} [DecidableEq α] (f:α->β):∀ (q:List β) (l:List α),q.Perm (l.map f)->∃ p:List α,p.Perm l/\q=p.map f
 | [],l,h=>by
  have:l=[]:=by have:=h.length_eq;rw[List.length_map]at this;exact List.length_eq_zero_iff.mp this.symm
  subst this
  exact⟨[],.refl _,rfl⟩
 | x::q,l,h=>by
  obtain⟨i,hi,e⟩:=List.mem_map.mp (h.mem_iff.mp List.mem_cons_self)
  have pe:=List.perm_cons_erase hi
  have h2:(x::q).Perm (x::(l.erase i).map f):=by
   refine h.trans ?_
   rw[<- e]
   exact pe.map f
  obtain⟨p,p1,p2⟩:=perm_map_inv f q (l.erase i) (List.Perm.cons_inv h2)
  exact⟨i::p,(p1.cons i).trans pe.symm,by rw[p2,<- e];rfl⟩
section
variable {prog:Program}{w:World}{A:Around}{E:Value->Shared->Prop}{s:Shared}{H:Hp}
noncomputable def datOf (vs:List Value) (ds:List (List Dt)) (x:Keyed):List Dt:=(ds[vs.idxOf x.1]?).getD []
theorem datOf_at {vs:List Value}{ds:List (List Dt)} (hT:DTs H vs ds) {i:Nat} (hi:i<vs.length):∃ h:i<ds.length,datOf vs ds (vs[i],vs[i])=ds[i]:=by
 have hl:=hT.1
 have h0:i<ds.length:=by lia
 refine⟨h0,?_⟩
 have hm:vs[i]∈vs:=List.getElem_mem hi
 have hj:vs.idxOf vs[i]<vs.length:=List.idxOf_lt_length_iff.mpr hm
 have ej:vs[vs.idxOf vs[i]]=vs[i]:=List.getElem_idxOf hj
 have hj':vs.idxOf vs[i]<ds.length:=by lia
 unfold datOf
 rw[List.getElem?_eq_getElem hj']
 show ds[vs.idxOf vs[i]]=ds[i]
 obtain⟨b,xs,a1,a2,a3⟩:=hT.2 _ _ (List.getElem?_eq_getElem hj')
 obtain⟨b',xs',c1,c2,c3⟩:=hT.2 _ _ (List.getElem?_eq_getElem h0)
 rw[List.getElem?_eq_getElem hj,ej]at a1
 rw[List.getElem?_eq_getElem hi]at c1
 rw[a1]at c1
 cases c1
 rw[a2]at c2
 cases c2
 exact isDts_inj _ _ _ a3 c3
theorem dt_list_sortL {a:Addr}{vs:List Value}{ds:List (List Dt)}{n:Nat}{T:String}{P:Fin->Shared->Prop} (hu:A.units+60<cLine) (ok:HOk prog w H s.heap) (ha:H a=none) (ho:s.heap.get? a=some (seqObj "list" vs.toArray n)) (hT:DTs H vs ds) (so:Sortable T ds) (hL:vs.length<=100000)
  (h:∀ (p:List Nat),p.Perm (List.range vs.length)->(∀ i j,i<j->j<vs.length->ltDs (ds.getD (p.getD j 0) []) (ds.getD (p.getD i 0) [])=some false)->P (.done (.ret .none)) { s with heap:=sortedHeap s.heap a vs (p.map fun i=>vs.getD i Value.none).toArray }) :
  wpAny (model prog w) A (Builtin.«list.sort» ⟨[.ref a],[]⟩) P E s:=by
 have hL':vs.length<=sizeLine:=by rw[sizeLine_eq];lia
 obtain⟨e1,g1⟩:∃ e1,(s.heap.update a (Obj.mapSeq fun _=>(#[]:Array Value))).get? a=some (seqObj "list" #[] e1):=⟨_,get?_update_seq ho fun _=>#[]⟩
 have g6:(((s.heap.update a (Obj.mapSeq fun _=>(#[]:Array Value))).push (seqObj "tuple" vs.toArray 0)).push (seqObj "list" #[] 0)).get? a=some (seqObj "list" #[] e1):=Heap.get?_push_of_some _ (Heap.get?_push_of_some _ g1)
 have sb:=Heap.SameBut.update s.heap a (Obj.mapSeq fun _=>(#[]:Array Value))
 have ok6:HOk prog w H (((s.heap.update a (Obj.mapSeq fun _=>(#[]:Array Value))).push (seqObj "tuple" vs.toArray 0)).push (seqObj "list" #[] 0)):=ok.but ha fun b o nb e=>Heap.get?_push_of_some _ (Heap.get?_push_of_some _ (sb.extBut b o nb e))
 by_cases h64:vs.length<2
 ·refine dt_list_sort hu ok ha ho hT so (by lia) fun p p1 _ p3=>h p p1 fun i j hij hj=>by lia
 rw[list_sort_plain]
 refine wpAny_bind (listItems_at ho rfl (wpAny_bind (listUpdate_at ho rfl ?_ (by rw[List.size_toArray];exact hL') (Nat.zero_le _))))
 refine wpAny_bind (seqEpoch_at g1 rfl (wpAny_bind (wpAny_newTuple ?_ (by show vs.length<=_;exact hL'))))
 refine wpAny_bind (wpAny_newList (wpAny_holding ?_) (Nat.zero_le _))
 show wpAny (model prog w) A _ P E { s with heap:=((s.heap.update a (Obj.mapSeq fun _=>(#[]:Array Value))).push (seqObj "tuple" vs.toArray 0)).push (seqObj "list" #[] 0) }
 dsimp only
 have h2:¬vs.toArray.size<2:=by rw[List.size_toArray];exact h64
 rw[if_neg h2,if_neg h2]
 obtain⟨fs,f1,f2,f3⟩:=hT.firsts (s:={ s with heap:=((s.heap.update a (Obj.mapSeq fun _=>(#[]:Array Value))).push (seqObj "tuple" vs.toArray 0)).push (seqObj "list" #[] 0) }) ok6 so.first
 refine wpAny_bind (kat_kind (T:=.type T) f1 (by rw[f2];lia) f3 (by simp) ?_)
 have zl:(vs.toArray.zip vs.toArray).size=vs.length:=by simp
 have zg:∀ i (hi:i<(vs.toArray.zip vs.toArray).size),∃ h:i<vs.length,(vs.toArray.zip vs.toArray)[i]=(vs[i],vs[i]):=fun i hi=>⟨by rw[zl]at hi;exact hi,by simp⟩
 refine wpAny_bind (wpAny_mono (Tm.wp_sort (S:=fun x=>∃ (i:Nat) (hi:i<vs.length),x=(vs[i],vs[i])) (L:=fun x y=>(ltDs (datOf vs ds x) (datOf vs ds y)).getD false) (a0:=vs.toArray.zip vs.toArray)
  (Q:=fun _ st'=>(arrOf st').Perm (vs.toArray.zip vs.toArray)/\failedOf st'=none/\Tm.SI (fun x y=>(ltDs (datOf vs ds x) (datOf vs ds y)).getD false) (arrOf st') 0 (vs.toArray.zip vs.toArray).size) ?cmp ?ord (fun i hi=>?all) rfl rfl rfl rfl (by rw[zl];lia) fun st' q1 q2 q3=>⟨q1,q2,q3⟩) ?_ fun _ _ e=>e)
 case all=>obtain⟨hi',e⟩:=zg i hi;exact⟨i,hi',e⟩
 case ord=>
  refine ord_D fun x y ⟨i,hi,e⟩ ⟨j,hj,e'⟩=>?_
  subst e;subst e'
  obtain⟨di,ei⟩:=datOf_at hT hi
  obtain⟨dj,ej⟩:=datOf_at hT hj
  rw[ei,ej]
  exact so.tot _ (List.getElem_mem _) _ (List.getElem_mem _)
 case cmp=>
  rintro x y st Q hk ⟨i,hi,rfl⟩ ⟨j,hj,rfl⟩ q
  obtain⟨hi',ei⟩:=datOf_at hT hi
  obtain⟨hj',ej⟩:=datOf_at hT hj
  have q':Q (some ((ltDs (datOf vs ds (vs[i],vs[i])) (datOf vs ds (vs[j],vs[j]))).getD false)) st:=q
  rw[ei,ej]at q'
  have di:ds[i]?=some ds[i]:=List.getElem?_eq_getElem hi'
  have dj:ds[j]?=some ds[j]:=List.getElem?_eq_getElem hj'
  obtain⟨bi,xi,a1,a2,a3⟩:=hT.2 i _ di
  obtain⟨bj,xj,c1,c2,c3⟩:=hT.2 j _ dj
  obtain⟨_,ti,ri,oi,a4,a5,ni,a6⟩:=ok6 bi _ a2
  obtain⟨_,tj,rj,oj,c4,c5,nj,c6⟩:=ok6 bj _ c2
  rw[List.getElem?_eq_getElem hi]at a1
  rw[List.getElem?_eq_getElem hj]at c1
  injection a1 with a1
  injection c1 with c1
  rw[a1,c1]at *
  have mi:ds[i]∈ds:=List.getElem_mem _
  have mj:ds[j]∈ds:=List.getElem_mem _
  obtain⟨r,hr⟩:=Option.isSome_iff_exists.mp (so.tot _ mi _ mj)
  rw[hr]at q'
  rw[lt'_eq]
  refine wpS_bind (wpS_get ?_)
  rw[hk]
  refine wpS_bind (wpS_lift (wpAny_attempt (wpAny_mono (kat_lt a4 a6 c4 c6 ?_) (fun b s' hb=>hb) fun _ _ e=>e)))
  refine katLex_D (n:=50) ok6 (by lia) ds[i] ds[j] _ _ 0 r (by simpa using drow_of a3 ri) (by simpa using drow_of c3 rj) (so.dep _ mi) hr ?_ (fun hb d e hd he=>?_) ⟨rfl,wpS_pure q'⟩
  ·have l1:=(drow_of a3 ri).length
   have l2:=(drow_of c3 rj).length
   simp [l1,l2]
  ·obtain⟨d',r',q1,q2⟩:=so.first _ mi
   obtain⟨e',r'',q3,q4⟩:=so.first _ mj
   rw[q1]at hd;rw[q3]at he
   cases hd;cases he
   refine⟨q2.trans q4.symm,fun z=>?_⟩
   rw[q2]at z
   subst z
   simp at hb
 rintro⟨⟨⟩,st'⟩ s' ⟨rfl,hp,hf,hs⟩
 dsimp only
 have hz:(vs.toArray.zip vs.toArray).toList=(List.range vs.length).map fun i=>(vs.getD i Value.none,vs.getD i Value.none):=by
  refine List.ext_getElem (by simp) fun i h1 h2=>?_
  have hi:i<vs.length:=by simpa using h1
  simp [List.getD_eq_getElem?_getD,List.getElem?_eq_getElem hi]
 have hp':=Array.perm_iff_toList_perm.mp hp
 rw[hz]at hp'
 obtain⟨p,p1,p2⟩:=perm_map_inv _ _ _ hp'
 have lp:p.length=vs.length:=by rw[p1.length_eq,List.length_range]
 have hout:(arrOf st').map (·.2)=List.toArray (p.map fun i=>vs.getD i Value.none):=by
  apply Array.toList_inj.mp
  rw[Array.toList_map,p2,List.map_map]
  rfl
 rw[hout]
 refine wpAny_bind (seqEpoch_at g6 rfl (wpAny_bind (listUpdate_at g6 rfl ?_ (Nat.zero_le _) (by rw[List.size_toArray,List.length_map,lp];exact Nat.le_succ_of_le hL'))))
 rw[hf]
 simp only[bne_self_eq_false,Bool.false_eq_true,if_false]
 refine wpAny_pure (h p p1 fun i j hij hj=>?_)
 have la:(arrOf st').size=vs.length:=by rw[<- Array.length_toList,p2,List.length_map,lp]
 have pl:∀ k,k<vs.length->∃ h:p.getD k 0<vs.length,∀ hk:k<(arrOf st').size,(arrOf st')[k]=(vs[p.getD k 0],vs[p.getD k 0]):=fun k hk=>by
  have hk':k<p.length:=by lia
  have e0:p.getD k 0=p[k]:=by rw[List.getD_eq_getElem?_getD,List.getElem?_eq_getElem hk'];rfl
  have hm:p[k]<vs.length:=List.mem_range.mp (p1.mem_iff.mp (List.getElem_mem hk'))
  refine⟨by rw[e0];exact hm,fun hk2=>?_⟩
  have e1:(arrOf st')[k]=(arrOf st').toList[k]'(by rw[Array.length_toList];exact hk2):=by rw[Array.getElem_toList]
  have e2:vs.getD p[k] Value.none=vs[p.getD k 0]'(by rw[e0];exact hm):=by
   rw[List.getD_eq_getElem?_getD,List.getElem?_eq_getElem hm]
   show vs[p[k]]=_
   congr 1
   exact e0.symm
  rw[e1,List.getElem_of_eq p2,List.getElem_map,e2]
 obtain⟨hi',ei⟩:=pl i (by lia)
 obtain⟨hj',ej⟩:=pl j hj
 have zi:i<(arrOf st').size:=by rw[la];lia
 have zj:j<(arrOf st').size:=by rw[la];lia
 have sij:=hs i j zi zj (Nat.zero_le _) hij (by rw[zl];exact hj)
 rw[ei zi,ej zj]at sij
 obtain⟨di,xi⟩:=datOf_at hT hi'
 obtain⟨dj,xj⟩:=datOf_at hT hj'
 have sij':(ltDs (datOf vs ds (vs[p.getD j 0],vs[p.getD j 0])) (datOf vs ds (vs[p.getD i 0],vs[p.getD i 0]))).getD false=false:=sij
 rw[xi,xj]at sij'
 obtain⟨r,hr⟩:=Option.isSome_iff_exists.mp (so.tot _ (List.getElem_mem dj) _ (List.getElem_mem di))
 rw[hr]at sij'
 have er:r=false:=sij'
 rw[List.getD_eq_getElem?_getD,List.getD_eq_getElem?_getD (l:=ds),List.getElem?_eq_getElem dj,List.getElem?_eq_getElem di]
 show ltDs ds[p.getD j 0] ds[p.getD i 0]=some false
 rw[hr,er]
end
section
variable {X:Cx}
def Rsn (ds:List (List Dt)) (p:List Nat):Prop:=∀ i j,i<j->j<ds.length->ltDs (ds.getD (p.getD j 0) []) (ds.getD (p.getD i 0) [])=some false
theorem sortD_tailL {pins:List (Addr×Obj)}{s:Shared} {σ:St} {H:Hp}{A:Around}{E:Value->Shared->Prop}{T:String}{bs:List V}{us:List Value}{ds:List (List Dt)}{Q:VK} (hu:A.units+70<cLine) (I:Inv X pins σ H s) (r:Vals bs us) (hD:IsDts H (ds.map Dt.tup) bs) (so:Sortable T ds) (hL:ds.length<=100000)
  (q:∀ (a:Addr) (p:List Nat),H a=none->p.Perm (List.range ds.length)->Rsn ds p->Q (.ref a) (upd H a (.lst (p.map fun i=>bs.getD i V.non)))) :
  wpAny (model X.prog X.w) A (newList us >>= fun l=>holding [l] (call (.builtin "list.sort") [l] []) >>= fun _=>ret l) (fun fin s'=>∃ v,fin=.done (.ret v)/\EP X pins σ Q v s') E s:=by
 have hT:=dts_of r hD
 have hl:us.length=ds.length:=hT.1
 refine wpAny_bind (wpAny_newList ?_ (by rw[hl,sizeLine_eq];lia))
 have hoL:(s.heap.push { cls:=.type "list",data:=.seq us.toArray }).get? s.heap.objs.size=some (seqObj "list" us.toArray 0):=Heap.get?_push_size _ rfl
 have ok1:HOk X.prog X.w H (s.heap.push { cls:=.type "list",data:=.seq us.toArray }):=I.hok.kept fun b o e=>Heap.get?_push_of_some _ e
 refine wpAny_bind (wpAny_holding (wpAny_call_entry slot_list_sort ⟨_,hoL,rfl⟩ entry_list_sort (dt_list_sortL (by show A.units+1+60<cLine;lia) ok1 (I.hok.fresh (Nat.le_refl _)) hoL hT so (by lia) fun p b1 b2=>⟨_,rfl,?_⟩) (args_list_sort _)))
 refine wpAny_pure ⟨_,rfl,?_⟩
 obtain⟨e,hat⟩:=sortedHeap_at (out:=(p.map fun i=>us.getD i Value.none).toArray) hoL
 have lp:p.length=ds.length:=by rw[b1.length_eq,List.length_range,hl]
 rw[hl]at b1 b2
 refine⟨.ref s.heap.objs.size,upd H s.heap.objs.size (.lst (p.map fun i=>bs.getD i V.non)),?_,rfl,q _ p (I.hok.fresh (Nat.le_refl _)) b1 b2⟩
 refine I.laid (t':=s.toks) (fun b o hb=>?_) (Nat.le_refl _) ⟨by rw[List.length_map,lp,sizeLine_eq];lia,_,e,vals_map r p (fun i hi=>by rw[hl];have:=b1.mem_iff.mp hi;simpa using this),?_⟩
 ·have hlt:b<s.heap.objs.size:=Heap.lt_size hb
  rw[sortedHeap_old (Nat.ne_of_lt hlt) (by rw[Heap.size_push];exact Nat.lt_succ_of_lt hlt)]
  exact Heap.get?_push_of_some _ hb
 ·rw[hat]
def rSortLL:List V->Hp->VK->Prop:=fun ws H Q=>∃ (l:Addr) (bs:List V) (ds:List (List Dt)) (T:String),ws=[.ref l]/\H l=some (.lst bs)/\IsDts H (ds.map Dt.tup) bs/\Sortable T ds/\ds.length<=100000 /\
 ∀ (a:Addr) (p:List Nat),H a=none->p.Perm (List.range ds.length)->Rsn ds p->Q (.ref a) (upd H a (.lst (p.map fun i=>bs.getD i V.non)))
theorem call_sortLL (hu:X.A.units+110<cLine):CallR X (.builtin "sorted") rSortLL:=by
 intro pins s σ H ws us Q I r h
 obtain⟨l,bs,ds,T,rfl,hl,hD,so,hL,q⟩:=h
 obtain⟨u,rfl,ru⟩:=r.one
 cases ru
 obtain⟨z,its,n,rv,ho⟩:=(show ObjOk X.prog X.w H s.heap l (.lst bs) from I.hok l _ hl)
 refine Calls.call_function_entry kind_sorted plain_sorted entry_sorted (args_sorted1 _) ?_
 unfold Builtin.«sorted»
 refine wpAny_bind (m:=checkCount "sorted" 1 1 _) (wpAny_pure ?_)
 refine wpAny_bind (collect_list (vs:=its) ⟨_,ho,rfl,n,rfl⟩ ?_ (by rw[<- rv.length];exact z))
 have I1:Inv X pins σ H { s with heap:=(s.heap.push (seqObj "list" #[] 0)).update s.heap.objs.size (Obj.mapSeq (·++its.toArray)) }:=I.kept (t':=s.toks) fun b o e=>by
  have hlt:b<s.heap.objs.size:=Heap.lt_size e
  exact (Heap.SameBut.update (s.heap.push (seqObj "list" #[] 0)) s.heap.objs.size (Obj.mapSeq (·++its.toArray))).extBut b o (Nat.ne_of_lt hlt) (Heap.get?_push_of_some _ e)
 exact sortD_tailL (A:=X.A.in1) (by show X.A.units+1+70<cLine;lia) I1 rv hD so hL q
end
end L2
end
section
namespace L2
open PySem PySem.Spec PyProof.Rows PySem.W
section
variable {prog:Program}{w:World}{A:Around}{E:Value->Shared->Prop}{s:Shared}
end
section
variable {X:Cx}
end
end L2
end
section
namespace L2
open PySem PySem.Spec PyProof.Rows PySem.W
def IsTy (t T:String) (b:Bool):Prop:=∀ K:PySem.W.Frag,PySem.W.kitOne K (.type t) (.type T)=some b
theorem ist_self (t:String):IsTy t t true:=fun K=>by unfold PySem.W.kitOne;rw[if_pos (by simp)]
theorem ist_int_bool:IsTy "int" "bool" false:=fun K=>by kernel_rfl
theorem ist_int_str:IsTy "int" "str" false:=fun K=>by kernel_rfl
section
variable {X:Cx}
def rIsT (K:PySem.W.Frag):List V->Hp->VK->Prop:=fun xs H Q=>∃ x T t b,xs=[x,.ty T]/\TyOf K H x (.type t)/\IsTy t T b/\Q (.bl b) H
theorem call_isT:CallR X (.builtin "isinstance") (rIsT X.K):=by
 intro pins s σ H xs us Q I r h
 obtain⟨x,T,t,b,rfl,ty,e,q⟩:=h
 obtain⟨u,v,rfl,ru,rv⟩:=r.two
 cases rv
 exact isinst_ok I ru ty (e X.K) fun tk=>⟨.bl b,H,I.tok _,rfl,q⟩
def rIsSI:List V->Hp->VK->Prop:=fun xs H Q=>∃ x tp,xs=[x,.ref tp]/\H tp=some (.tup [.ty "str",.ty "int"])/\((∃ i,x=.int i)\/∃ z,x=.str z)/\Q (.bl true) H
theorem call_isSI:CallR X (.builtin "isinstance") rIsSI:=by
 intro pins s σ H xs us Q I r h
 obtain⟨x,tp,rfl,ht,hx,q⟩:=h
 obtain⟨u,v,rfl,ru,rv⟩:=r.two
 cases rv
 obtain⟨_,its,r2,o,h1,h2,n,h3⟩:=(show ObjOk X.prog X.w H s.heap tp (.tup [.ty "str",.ty "int"]) from I.hok tp _ ht)
 obtain⟨u1,u2,rfl,q1,q2⟩:=r2.two
 cases q1
 cases q2
 obtain⟨cls,dd,data,sl⟩:=o
 simp only at h2 h3
 subst h2 h3
 rcases hx with ⟨i,rfl⟩ | ⟨z,rfl⟩
 ·obtain⟨t,rfl⟩:=ru
  refine PySem.W.kia_tup (its:=[.type "str",.type "int"]) PySem.W.kitx_int I.kIn True.intro h1 ?_ (fun z=>nomatch z) fun tk=>⟨.bl true,H,I.tok _,rfl,q⟩
  unfold PySem.W.kitAny
  rw[ist_int_str X.K]
  show PySem.W.kitAny X.K (.type "int") [.type "int"]=_
  unfold PySem.W.kitAny
  rw[ist_self "int" X.K]
 ·obtain⟨t,rfl⟩:=ru
  refine PySem.W.kia_tup (its:=[.type "str",.type "int"]) PySem.W.kitx_str I.kIn True.intro h1 ?_ (fun z=>nomatch z) fun tk=>⟨.bl true,H,I.tok _,rfl,q⟩
  unfold PySem.W.kitAny
  rw[ist_self "str" X.K]
theorem call_isA:CallR X (.builtin "isinstance") (fun xs H Q=>rIsT X.K xs H Q\/rIsSI xs H Q):=call_isT.or call_isSI
section
open PySem.AutoSeq1 (wpAny_loadPart')
open PySem.MeetsSeq PySem.MeetsSeq2 PySem.MeetsSeq3 PySem.SeqAt
end
end
end L2
end
section
namespace L2
open PySem PySem.Spec PyProof.Rows PySem.W
theorem owner_rev:Manifest.owners.lookup (String.ofList ['d','e','s','r','e','v','e','r'].reverse)=some Manifest.sig_reversed:=by kernel_rfl
theorem slot_rev_next:Slot "reversed" "__next__" "reversed.__next__":=
 .of (owner:="reversed") (n:="__next__") (by rw[typeLookup_type,builtinLookup_eq_fast];kernel_rfl) (by decide +kernel) (by decide +kernel) (by decide +kernel)
  (by first | exact .inl (by decide +kernel) | exact .inr (by decide +kernel)) (by rw[isSubtype_type];kernel_rfl)
theorem entry_rev_next:entryFor table "reversed.__next__"=some Builtin.«reversed.__next__»:=entryFor_of_tree (by kernel_rfl)
theorem args_rev_next_1 (a:Value):argsOk "reversed.__next__" ⟨[a],[]⟩:=by
 unfold argsOk;rw[signature?_of (id:="reversed.__next__") (n:=['_','_','t','x','e','n','_','_']) (o:=['d','e','s','r','e','v','e','r']) (by kernel_rfl) owner_rev];kernel_rfl
theorem slot_rev_iter:Slot "reversed" "__iter__" "reversed.__iter__":=
 .of (owner:="reversed") (n:="__iter__") (by rw[typeLookup_type,builtinLookup_eq_fast];kernel_rfl) (by decide +kernel) (by decide +kernel) (by decide +kernel)
  (by first | exact .inl (by decide +kernel) | exact .inr (by decide +kernel)) (by rw[isSubtype_type];kernel_rfl)
theorem args_rev_iter_1 (a:Value):argsOk "reversed.__iter__" ⟨[a],[]⟩:=by
 unfold argsOk;rw[signature?_of (id:="reversed.__iter__") (n:=['_','_','r','e','t','i','_','_']) (o:=['d','e','s','r','e','v','e','r']) (by kernel_rfl) owner_rev];kernel_rfl
theorem entry_rev_iter:entryFor table "reversed.__iter__"=some Builtin.«dict_keyiterator.__iter__»:=
 entryFor_alias (id':="dict_keyiterator.__iter__") (by kernel_rfl) (by first | rfl | decide +kernel | (unfold String.splitOn;simp +decide [String.splitOnAux])) (by decide +kernel) (by kernel_rfl)
theorem slot_rev_init:Slot "reversed" "__init__" "object.__init__":=
 .of (owner:="object") (n:="__init__") (by rw[typeLookup_type,builtinLookup_eq_fast];kernel_rfl) (by decide +kernel) (by decide +kernel) (by decide +kernel)
  (by first | exact .inl (by decide +kernel) | exact .inr (by decide +kernel)) (by rw[isSubtype_type];kernel_rfl)
theorem called_rev:TypeCalled "reversed" "reversed.__new__" "object.__init__":=
 ⟨by decide +kernel,by decide +kernel,⟨_,_,F.mro_reversed⟩,F.made_reversed,by decide +kernel,by rw[isSubtype_type];kernel_rfl,slot_rev_init⟩
theorem tup_no_rev:typeLookup (.type "tuple") "__reversed__"=pure none:=by rw[typeLookup_type,builtinLookup_eq_fast];kernel_rfl
theorem sub_tuple_dict:isSubtype (.type "tuple") (.type "dict")=pure false:=by rw[isSubtype_type];kernel_rfl
section
open AutoSeq1 (wpAny_loadPart')
theorem meets_reversed_newT (l:Addr) (items:Array Value) (n:Nat) (dct:Option Addr) (sl:Array (Option Value)) (hz:items.size<=sizeLine) :
  Meets (Builtin.«reversed.__new__» ⟨[.type "reversed",.ref l],[]⟩) (fun _ R s=>s.heap.get? l=some { cls:=.type "tuple",dict:=dct,data:=.seq items n,slots:=sl } /\
   ∀ tk,R (.ok (.ret (.ref s.heap.objs.size))) { s with heap:=s.heap.push { cls:=.type "reversed",data:=.fields #[.ref l,rawInt ((items.size:Int)-1)] },toks:=tk }):=
 .of_wp fun prog w A R s h=>by
  obtain⟨hp,g,d,tk,os⟩:=s;obtain⟨hl,h⟩:=h
  have hsub:=F.sub_reversed_self
  have hL:Heap.IsTuple (Shared.heap ⟨hp,g,d,tk,os⟩) l items:=⟨_,hl,rfl,n,rfl⟩
  have f1:=tup_no_rev
  have f2:=sub_tuple_dict
  have f3:=F.slot_tuple_getitem.lookup
  have hfit:(items.size:Int)<2 ^ 63:=by have:items.size<=16777216:=hz;lia
  unfold Builtin.«reversed.__new__»
  refine wpAny_bind (wpAny_of_eq (newClass_reversed _) ?_)
  refine wpAny_bind (wpAny_of_eq (a:=()) (by kernel_rfl) (wpAny_bind (wpAny_of_eq (a:=()) (by kernel_rfl) ?_)))
  dsimp only
  refine wpAny_bind (wpAny_specialOf hL.typeIs f1 ?_)
  dsimp only
  refine wpAny_bind (wpAny_mono (Q:=fun b s'=>b=true/\s'=(⟨hp,g,d,tk,os⟩:Shared)) ?slot (fun b s' hb=>?rest) fun _ _ x=>x)
  case slot=>
   wp_walk using wpAny_loadPart' hl
   exact⟨rfl,rfl⟩
  obtain⟨rfl,rfl⟩:=hb
  rw[if_neg (by decide)]
  refine wpAny_bind (PyProof.Rows.len_tuple hL hfit ?_)
  wp_walk using wpAny_loadPart' hl
  exact⟨_,rfl,h _⟩
end
section
variable {prog:Program}{w:World}{A:Around}{E:Value->Shared->Prop}{s:Shared}
def RevAt (h:Heap) (a l:Addr) (i:Int):Prop:=∃ o,h.get? a=some o/\o.cls=.type "reversed"/\o.data=.fields #[.ref l,rawInt i]
theorem RevAt.typeIs {a l:Addr}{i:Int} (x:RevAt s.heap a l i):s.TypeIs (.ref a) "reversed":=let ⟨o,ho,hc,_⟩:=x;⟨o,ho,hc⟩
theorem RevAt.at {h h':Heap}{a l:Addr}{i:Int} (x:RevAt h a l i) (e:∀ o,h.get? a=some o->h'.get? a=some o):RevAt h' a l i:=let ⟨o,ho,r⟩:=x;⟨o,e _ ho,r⟩
theorem call_reversed_tuple {l:Addr}{items:Array Value}{Q:Value->Shared->Prop} (hL:IsTup s.heap l items) (hz:items.size<=sizeLine)
  (h:∀ h' tk,RevAt h' s.heap.objs.size l ((items.size:Int)-1)->h'.objs.size=s.heap.objs.size+1->(∀ b o,s.heap.get? b=some o->h'.get? b=some o)->Q (.ref s.heap.objs.size) { s with heap:=h',toks:=tk }) :
  wpAny (model prog w) A (call (.type "reversed") [.ref l]) Q E s:=by
 obtain⟨⟨c,dct,dt,sl⟩,hl,hc,n,hd⟩:=hL
 replace hc:c=.type "tuple":=hc
 replace hd:dt=.seq items n:=hd
 subst hc hd
 refine callType_new called_rev (by decide) (F.typeCall_reversed_1 _) (F.newCall_reversed_1 _) (fun obj=>F.args_object_init_2 obj _) F.entry_reversed_new
  (meets_reversed_newT l items n dct sl hz) ⟨hl,fun tk=>?_⟩
 have he:(s.heap.push { cls:=.type "reversed",data:=.fields #[.ref l,rawInt ((items.size:Int)-1)] }).get? s.heap.objs.size=some { cls:=.type "reversed",data:=.fields #[.ref l,rawInt ((items.size:Int)-1)] }:=Heap.get?_push_size _ rfl
 exact⟨⟨_,he,rfl⟩,h _ tk ⟨_,he,rfl,rfl⟩ (Heap.size_push ..) fun b o x=>Heap.get?_push_of_some _ x⟩
theorem next_revT_item {it l:Addr}{i:Nat}{items:Array Value}{x:Value}{Q:Option Value->Shared->Prop} (hit:RevAt s.heap it l (i:Int)) (hl:IsTup s.heap l items) (hz:items.size<=sizeLine) (hx:items[i]?=some x)
  (q:∀ h' tk,RevAt h' it l ((i:Int)-1)->Heap.SameBut it s.heap h'->Q (some x) { s with heap:=h',toks:=tk }):wpAny (model prog w) A (pyNext (.ref it)) Q E s:=by
 have ty:=hit.typeIs
 have hi:i<items.size:=(Array.getElem?_eq_some_iff.mp hx).1
 have hz':items.size<=16777216:=hz
 obtain⟨ob,h1,h2,h3⟩:=hit
 have si:seqIndex? (i:Int) items.size=some i:=by
  unfold seqIndex?
  rw[if_neg (show ¬(i:Int)<0 by lia),if_pos (by rw[Bool.and_eq_true];exact⟨decide_eq_true (by lia),decide_eq_true (by lia)⟩)];rfl
 unfold pyNext
 refine wpAny_bind (wpAny_attempt (wpAny_callSpecial?_slot (name:=Str.ofString "__next__") ty slot_rev_next (wpAny_call_entry slot_rev_next ty entry_rev_next ?_ (args_rev_next_1 _))))
 unfold Builtin.«reversed.__next__»
 refine wpAny_bind (wpAny_of_eq (a:=(Value.ref it,[])) rfl (wpAny_bind (wpAny_field h1 h3 (x:=.ref l) rfl (wpAny_bind (wpAny_field h1 h3 (x:=rawInt (i:Int)) rfl ?_)))))
 refine (show wpAny _ _ (if (i:Int)<0 then _ else specialOf (.ref l) "__getitem__" >>= _) _ _ s from ?_)
 rw[if_neg (by lia)]
 refine wpAny_bind (wpAny_specialOf hl.typeIs F.slot_tuple_getitem.lookup (show wpAny _ _ (mkInt (i:Int) >>= _) _ _ s from wpAny_bind (wpAny_mkInt (wpAny_bind (wpAny_attempt (getItem_tuple (j:=i) (x:=x) (show IsTup s.heap l items from hl) (by lia) (by lia) si hx ?_))))))
 refine (show wpAny _ _ (field (.ref it) 1 >>= _) _ _ _ from wpAny_bind (wpAny_field (show s.heap.get? it=some ob from h1) h3 (x:=rawInt (i:Int)) rfl (show wpAny _ _ (setField (.ref it) 1 (rawInt ((i:Int)-1)) >>= _) _ _ _ from wpAny_bind (wpAny_setField (show s.heap.get? it=some ob from h1) h3 (by simp) (wpAny_pure ⟨x,rfl,wpAny_pure (q _ _ ?_ (Heap.SameBut.update ..))⟩)))))
 refine⟨_,Heap.get?_update_self _ h1 (Obj.isFreed_of_fields (Obj.data_mapFields h3 _)),Eq.trans (Obj.cls_mapFields ..) h2,?_⟩
 rw[Obj.data_mapFields h3] <;> simp
theorem next_revT_end {it l:Addr}{Q:Option Value->Shared->Prop} (hh:A.handled=none) (hit:RevAt s.heap it l (-1))
  (q:∀ h' tk,Heap.ExtBut it s.heap h'->Q none { s with heap:=h',toks:=tk }):wpAny (model prog w) A (pyNext (.ref it)) Q E s:=by
 have ty:=hit.typeIs
 obtain⟨⟨c,dd,data,sl⟩,h1,h2,h3⟩:=hit
 simp only at h2 h3
 subst h2 h3
 unfold pyNext
 refine wpAny_bind (wpAny_attempt (wpAny_callSpecial?_slot (name:=Str.ofString "__next__") ty slot_rev_next (wpAny_call_entry slot_rev_next ty entry_rev_next ?_ (args_rev_next_1 _))))
 obtain⟨hp,g,d,tk,os⟩:=s
 wp_walk using AutoSeq1.wpAny_loadPart' h1
 unfold raiseNew
 refine wpAny_bind (wpAny_handled ?_)
 rw[show A.in1.handled=none from hh]
 refine wpAny_bind (wpAny_pure (wpAny_throw ?_))
 refine wpAny_bind (wpAny_isInstance (T:="StopIteration") (b:=true) ⟨_,Heap.get?_push_size _ rfl,rfl⟩ isSubtype_stop (wpAny_pure (q _ _ ?_)))
 exact fun b u nb e=>Heap.get?_push_of_some _ (Heap.get?_push_of_some _ ((Heap.SameBut.update ..).extBut b u nb ((Heap.SameBut.update ..).extBut b u nb e)))
theorem iter_revT {it l:Addr}{i:Int}{Q:Value->Shared->Prop} (hit:RevAt s.heap it l i) (h:Q (.ref it) s):wpAny (model prog w) A (pyIter (.ref it)) Q E s:=by
 refine wpAny_pyIter_slot hit.typeIs slot_rev_iter (wpAny_call_entry slot_rev_iter hit.typeIs entry_rev_iter ?_ (args_rev_iter_1 _))
 show wpAny _ _ (ret (.ref it)) _ _ s
 exact wpAny_pure ⟨_,rfl,"reversed",_,hit.typeIs,slot_rev_next.lookup,h⟩
end
def Itv (K:PySem.W.Frag) (a:Addr) (n:Nat):It:=
 ⟨fun i H=>i<n/\∃ xs,SqT K H a xs/\xs.length=n,fun i H x H'=>H'=H/\∀ xs,SqT K H a xs->xs[n-1-i]?=some x,fun i H=>n<=i⟩
theorem turn_revT {P:Program}{w:World}{K:PySem.W.Frag}{tg:Expr} (a it:Addr) (n:Nat):Turn P w K tg (Itv K a n) [it] it (fun i h=>i<=n/\RevAt h it a ((n:Int)-1-(i:Int))) where
 mem:=by simp
 obj:=fun i h st b hb=>by
  have e:b=it:=by simpa using hb
  subst e
  obtain⟨_,o,e,c,d⟩:=st
  exact⟨o,e,fun v z=>by rw[d]at z;cases z⟩
 keep:=fun i h h' st k=>⟨st.1,st.2.at fun o e=>k it (by simp) o e⟩
 item:=by
  intro X hP hw hK hc i pins s σ H E I hf st hg
  subst hP hw hK
  obtain⟨hi,xs,hq,hn⟩:=hg
  obtain⟨its,rv,p,hz⟩:=I.tuple hq
  have hx:xs[n-1-i]?=some (xs[n-1-i]'(by lia)):=List.getElem?_eq_getElem (by lia)
  obtain⟨u,hu,ru⟩:=rv.get hx
  obtain⟨f0,f1,f2,f3,f4,f5⟩:=hf it (by simp)
  have st2:=st.2
  rw[show (n:Int)-1-(i:Int)=((n-1-i:Nat):Int) by lia]at st2
  have hzz:its.toArray.size<=sizeLine:=by have:=rv.length;rw[List.size_toArray];lia
  refine next_revT_item st2 p hzz (x:=u) (by simpa using hu) fun h' tk st' sb=>?_
  have I1:Inv X pins σ H { s with heap:=h',toks:=tk }:=I.turned (t':=tk) (fun b o hb e=>(sb.2 b hb).trans e) f0 f1 f3 f4 f5
  have st'':RevAt h' it a ((n:Int)-1-((i+1:Nat):Int)):=by rw[show (n:Int)-1-((i+1:Nat):Int)=((n-1-i:Nat):Int)-1 by lia];exact st'
  obtain⟨o,e,c,d⟩:=id st'
  exact⟨u,rfl,go_of (s:={ s with heap:=h',toks:=tk }) e c d (by decide) ⟨_,H,I1,ru,⟨rfl,fun ys hy=>by rw[I.tuple_inj hy hq];exact hx⟩,⟨hi,st''⟩,fun b hb=>(hf b hb).1⟩⟩
 done:=by
  intro X hP hw hK hc i pins s σ H E I hf st hg
  subst hP hw hK
  have hi:i=n:=Nat.le_antisymm st.1 hg
  obtain⟨f0,f1,f2,f3,f4,f5⟩:=hf it (by simp)
  have st2:=st.2
  rw[show (n:Int)-1-(i:Int)=-1 by lia]at st2
  exact next_revT_end (I.ok.hd hc) st2 fun h' tk eb=>⟨rfl,I.turned (t':=tk) (fun b o hb e=>eb b o hb e) f0 f1 f3 f4 f5⟩
 self:=fun _ _ _ _ _ st h=>iter_revT st.2 h
section
variable {X:Cx}
def iRevT (K:PySem.W.Frag) (ta:TA):TI:=fun σ H R=>ta σ H fun vs H1=>∃ a xs,vs=[.ref a]/\SqT K H1 a xs/\R (Itv K a xs.length) H1
theorem boot_reversed:bootBuiltins "reversed"=some (.type "reversed"):=by first | rfl | decide +kernel | kernel_rfl
theorem pi_revT {a tg:Expr}{ta:TA}{p pos:Pos} (hg:Gl X "reversed") (hm:X.mg "reversed"=none) (ha:PA X [a] ta) (hs:starEach [a] X.env=[(false,eval a X.env)]:=by rfl) :
  PI X tg (.Call (.Name "reversed" p) [a] [] pos) (iRevT X.K ta):=by
 intro pins s σ H R I h
 refine Call_ (ld_blt I hg hm boot_reversed (PyProof.Rows.callWith_type1 (thn (ha pos pins s σ H _ I h) fun us s1 ⟨vs,H1,I1,r1,q1⟩=>?_) (by rw[hs];rfl) (by rfl)))
 obtain⟨x,xs,e,hx,q⟩:=q1
 subst e
 cases r1 with
 | cons r rr=>
  cases rr
  cases r
  obtain⟨its,v1,p1,hz1⟩:=I1.tuple hx
  have hl1:=v1.length
  have hzz:its.toArray.size<=sizeLine:=by rw[List.size_toArray];lia
  refine call_reversed_tuple p1 hzz fun h' tk Z n2 keep=>iter_revT Z ?_
  have I2:Inv X pins σ H1 { s1 with heap:=h',toks:=tk }:=I1.kept (t':=tk) keep
  refine⟨_,[s1.heap.objs.size],_,_,H1,rfl,I2,turn_revT x s1.heap.objs.size xs.length,⟨Nat.zero_le _,?_⟩,fun c hc=>?_,q⟩
  ·have e0:((its.toArray.size:Nat):Int)-1=(xs.length:Int)-1-((0:Nat):Int):=by rw[List.size_toArray,<- hl1];simp
   rw[<- e0];exact Z
  ·have hc':s1.heap.objs.size<=c:=by rw[List.mem_singleton.mp hc];exact Nat.le_refl _
   exact I1.fpOk hc' (I1.hok.fresh hc')
theorem wi_revT {a tg:Expr}{ta:TA}{p pos:Pos} (hg:Gl X "reversed") (hm:X.mg "reversed"=none) (ha:Hd (PA X [a] ta)) (hs:notStar a=true:=by rfl) :
  Hd (PI X tg (.Call (.Name "reversed" p) [a] [] pos) (iRevT X.K ta)):=⟨pi_revT hg hm ha.out (by rw[star_cons hs];rfl)⟩
end
end L2
end
section
namespace L2
open PySem PySem.Spec PyProof.Rows PySem.W
section
variable {X:Cx}
structure TopD (K:PySem.W.Frag) (w:World) (a:Addr):Prop where
 ex:∃ (es:Array DictEntry) (n:Nat),K.lookup a=some ⟨.type "dict",none,.dict es n,#[]⟩/\PySem.W.KeysLit w.params es.toList
 lo:(a == sysModules)=false
def rNs (K:PySem.W.Frag) (a:Addr):R2:=fun x y H Q=>∃ z v u,x=.ref a/\y=.str z/\PySem.W.nsIn K a z=some (some u)/\RelV v u/\Q v H
theorem ix_ns {a:Addr} (d:TopD X.K X.w a) (hu:X.A.units+1<cLine):IxR X (rNs X.K a):=by
 intro value slice pins s σ H x y v u Q I rx ry h hs
 obtain⟨z,v',u',rfl,rfl,e,r,q⟩:=h
 cases rx
 obtain⟨t,rfl⟩:=ry
 obtain⟨es,n,l,k⟩:=d.ex
 obtain⟨m,F⟩:=I.fr
 exact PySem.W.topItem_K F I.mod.kin l k e ⟨v',H,I.tok _,r,q⟩ hs
def rInNs (K:PySem.W.Frag) (a:Addr):R2:=fun x y H Q=>∃ z r,y=.ref a/\x=.str z/\PySem.W.nsIn K a z=some r/\Q (.bl r.isSome) H
theorem op_inNs {a:Addr} (d:TopD X.K X.w a) (hu:X.A.units+1<cLine):OpR X (compareOp .In) (rInNs X.K a):=by
 intro pins s σ H x y v u Q I rx ry h
 obtain⟨z,r,rfl,rfl,e,q⟩:=h
 cases ry
 obtain⟨t,rfl⟩:=rx
 obtain⟨es,n,l,k⟩:=d.ex
 obtain⟨m,F⟩:=I.fr
 refine PySem.W.topIn_K F I.mod.kin l k e d.lo ?_
 exact⟨.bl r.isSome,H,I.tok _,rfl,q⟩
def Held (X:Cx) (CX:CXT) (k:Nat) (f:Addr) (sp:Sp):Prop:=∃ (fd:FuncData) (ps:List Str),FnOk X.prog X.w X.K X.mg X.base CX k f fd ps sp/\PySem.W.keepIn X.K (.ref f)=true/\Binds X.K fd ps []
def tCallA (C:Addr->Sp->Prop) (E:XK) (te:TE) (t:TA):TE:=fun σ H Q=>te σ H fun x H1=>∃ f sp,x=.ref f/\C f sp/\t σ H1 fun vs H2=>sp vs H2 Q E
theorem pe_callA {CX:CXT}{k:Nat}{C:Addr->Sp->Prop}{E:XK}{fe:Expr}{te:TE}{pos:Pos}{e:Expr}{es:List Expr}{t:TA}
  (hC:∀ f sp,C f sp->Held X CX k f sp) (hr:Room k X.A) (hx:Passes CX X E) (hf:PE X fe te) (ha:PA X (e::es) t) (hs:noStars (e::es)=true:=by rfl)
  (hcall:eval (.Call fe (e::es) [] pos) X.env=(do callWith pos (<- eval fe X.env) [] (backTo pos (starEach (e::es) X.env)) (backToKw pos (keywordEach [] X.env))):=by rfl) :
  PE X (.Call fe (e::es) [] pos) (tCallA C E te t):=by
 have h':(notStar e && noStars es)=true:=hs
 rw[Bool.and_eq_true]at h'
 intro pins s σ H Q I h
 refine Call_ (thn (hf pins s σ H _ I h) fun v s1 ⟨y,H1,I1,r1,f,sp,e1,hc,q1⟩=>?_) hcall
 subst e1
 cases r1
 obtain⟨fd,ps,F,hk,hb⟩:=hC f sp hc
 refine PySem.W.callWith_K (h₀:=X.base) I1.ok.mod.kin hk (thn (ha pos pins s1 σ H1 _ I1 q1) fun us s2 ⟨vs,H2,I2,r,q⟩=>⟨I2.kIn,?_⟩) (star_cons h'.1) (stars_any h'.2)
 exact run_fn F hr hb .nil hx I2 r (by rw[List.append_nil];exact q)
theorem we_callA {CX:CXT}{k:Nat}{C:Addr->Sp->Prop}{E:XK}{fe:Expr}{te:TE}{pos:Pos}{e:Expr}{es:List Expr}{t:TA}
  (hC:∀ f sp,C f sp->Held X CX k f sp) (hr:Room k X.A) (hx:Passes CX X E) (hf:Hd (PE X fe te)) (ha:Hd (PA X (e::es) t)) (hs:noStars (e::es)=true:=by rfl)
  (hcall:eval (.Call fe (e::es) [] pos) X.env=(do callWith pos (<- eval fe X.env) [] (backTo pos (starEach (e::es) X.env)) (backToKw pos (keywordEach [] X.env))):=by rfl) :
  Hd (PE X (.Call fe (e::es) [] pos) (tCallA C E te t)):=⟨pe_callA hC hr hx hf.out ha.out hs hcall⟩
end
end L2
end
section
namespace L2
open PySem PySem.Spec PyProof.Rows
section
variable {prog:Program}{w:World}{A:Around}{E:Value->Shared->Prop}{s:Shared}
end
section
variable {prog:Program}{w:World}{A:Around}{E:Value->Shared->Prop}{s:Shared}
end
section
variable {X:Cx}
end
end L2
end
section
namespace L2
open PySem PySem.Spec PyProof.Rows PySem.W
section
variable {prog:Program}{w:World}{A:Around}{E:Value->Shared->Prop}{s:Shared}
theorem miss_keys_tuple:typeLookup (.type "tuple") "keys"=pure none:=by rw[typeLookup_type,builtinLookup_eq_fast];kernel_rfl
theorem miss_keys_list:typeLookup (.type "list") "keys"=pure none:=by rw[typeLookup_type,builtinLookup_eq_fast];kernel_rfl
theorem noKeys_tuple {a:Addr}{o:Obj}{xs:Array Value}{k:Nat}{Q:Option Value->Shared->Prop} (hx:s.heap.get? a=some o) (hc:o.cls=.type "tuple") (hdat:o.data=.seq xs k) (hd:o.dict=none) (hA:A.handled=none)
  (h:∀ h' tk,(∀ b o,s.heap.get? b=some o->h'.get? b=some o)->Q none { s with heap:=h',toks:=tk }):wpAny (model prog w) A (getAttr? (.ref a) "keys") Q E s:=by
 obtain⟨c,dct,dat,sl⟩:=o
 simp only at hc hdat hd
 subst hc hdat hd
 obtain⟨hp,g,d,tk,os⟩:=s
 have hT:∀ tk',(⟨hp,g,d,tk',os⟩:Shared).TypeIs (.ref a) "tuple":=fun _=>⟨_,hx,rfl⟩
 have f1:=sub_AttributeError
 have f3:=F.slot_tuple_getattribute.lookup
 have f4:=F.slot_tuple_getattribute.bind (.ref a)
 have f5:=am_tuple_getattr_none
 have hname:(["__module__","__name__","__qualname__","__doc__","__annotations__"]:List Str).contains "keys"=false:=by decide
 unfold getAttr? getAttrBy? getAttrBy
 repeat (any_goals (first | assumption | exact hT _ | ((with_reducible show wpAny _ _ (call (Value.builtin "tuple.__getattribute__") _ _) _ _ _);refine call_meets F.slot_tuple_getattribute (hT _) am_entry_tuple_getattribute (F.args_tuple_getattribute_2 _ _) (meets_getattribute_miss_tuple a xs k sl "keys" _ miss_keys_tuple hname) ⟨hx,hA,fun h' tk' e hx'=>?_⟩) | wp_step))
 obtain⟨t',u',he⟩:=hx'.there
 show wpAny _ _ (getattributeRaised _ _ _ _ _ _ _) _ _ _
 unfold getattributeRaised
 repeat (any_goals (first | assumption | wp_step))
 exact h _ _ hx'.keeps
theorem noKeys_list {a:Addr}{o:Obj}{xs:Array Value}{k:Nat}{Q:Option Value->Shared->Prop} (hx:s.heap.get? a=some o) (hc:o.cls=.type "list") (hdat:o.data=.seq xs k) (hd:o.dict=none) (hA:A.handled=none)
  (h:∀ h' tk,(∀ b o,s.heap.get? b=some o->h'.get? b=some o)->Q none { s with heap:=h',toks:=tk }):wpAny (model prog w) A (getAttr? (.ref a) "keys") Q E s:=by
 obtain⟨c,dct,dat,sl⟩:=o
 simp only at hc hdat hd
 subst hc hdat hd
 obtain⟨hp,g,d,tk,os⟩:=s
 have hT:∀ tk',(⟨hp,g,d,tk',os⟩:Shared).TypeIs (.ref a) "list":=fun _=>⟨_,hx,rfl⟩
 have f1:=sub_AttributeError
 have f3:=F.slot_list_getattribute.lookup
 have f4:=F.slot_list_getattribute.bind (.ref a)
 have f5:=am_list_getattr_none
 have hname:(["__module__","__name__","__qualname__","__doc__","__annotations__"]:List Str).contains "keys"=false:=by decide
 unfold getAttr? getAttrBy? getAttrBy
 repeat (any_goals (first | assumption | exact hT _ | ((with_reducible show wpAny _ _ (call (Value.builtin "list.__getattribute__") _ _) _ _ _);refine call_meets F.slot_list_getattribute (hT _) am_entry_list_getattribute (F.args_list_getattribute_2 _ _) (meets_getattribute_miss_list a xs k sl "keys" _ miss_keys_list hname) ⟨hx,hA,fun h' tk' e hx'=>?_⟩) | wp_step))
 obtain⟨t',u',he⟩:=hx'.there
 show wpAny _ _ (getattributeRaised _ _ _ _ _ _ _) _ _ _
 unfold getattributeRaised
 repeat (any_goals (first | assumption | wp_step))
 exact h _ _ hx'.keeps
theorem entry_update_loop:entryFor table "dict.update.loop"=some Builtin.«dict.update.loop»:=entryFor_of_tree (by kernel_rfl)
theorem plain_update_loop:plainId "dict.update.loop"=true:=by decide +kernel
variable {I:Addr}{fp wr:List Addr}{n:Nat}{P:Nat->Value->Prop}{St:Nat->Heap->Prop}
def PutsAt (prog:Program) (w:World) (A:Around) (d:Addr) (n:Nat) (P:Nat->Value->Prop) (DK:Nat->Heap->Prop):Prop:=
 ∀ (i:Nat) (v:Value) (s:Shared),i<n->P i v->DK i s.heap->∃ (a:Addr) (o:Obj) (xs:Array Value) (m:Nat) (k x:Value),v=.ref a/\s.heap.get? a=some o/\o.cls=.type "tuple"/\o.data=.seq xs m/\xs.toList=[k,x] /\
  ∀ (Q:Unit->Shared->Prop) (E:Value->Shared->Prop),(∀ h' tk,DK (i+1) h'->Heap.SameBut d s.heap h'->Q () { s with heap:=h',toks:=tk })->wpAny (model prog w) A (dictSet d k x) Q E s
theorem codeAny_update_loop {R:Result->Shared->Prop}{DK:Nat->Heap->Prop} (W:Walks prog w A.in1 I fp wr n P St) (d:Addr) (hdf:d ∉ fp) (hfr:∀ i h h',DK i h->(∀ b o,b ∉ wr->h.get? b=some o->h'.get? b=some o)->DK i h') (put:PutsAt prog w A.in1 d n P DK) (res:Value) :
  ∀ (k i:Nat) (t:Tok) (s:Shared),n-i=k->i<=n->St i s.heap->DK i s.heap ->
  (∀ h' tk,DK n h'->(∀ b o,b ∉ d::wr->s.heap.get? b=some o->h'.get? b=some o)->R (.ok (.ret res)) { s with heap:=h',toks:=tk }) ->
  codeAny (model prog w) A (.builtin "dict.update.loop" ⟨[.ref d,.ref I,.int i t,res],[]⟩) R s:=by
 have hdw:d ∉ wr:=fun h=>hdf (W.sub _ h)
 intro k
 induction k with
 | zero=>
  intro i t s hk hi hst hD hR
  have hin:i=n:=by lia
  subst hin
  refine codeAny_builtin entry_update_loop ?_
  rw[Around.under_plainId plain_update_loop _]
  show wpAny _ A.in1 (pyNext (.ref I) >>= _) _ _ s
  refine wpAny_bind (W.done s _ _ hst fun h' tk hm=>?_)
  dsimp only
  unfold Builtin.Dict.addKeywords
  refine wpAny_bind (wpAny_pure ?_)
  exact wpAny_pure (hR h' tk (hfr _ _ _ hD hm) fun b o hb e=>hm b o (fun z=>hb (List.mem_cons_of_mem _ z)) e)
 | succ k ih=>
  intro i t s hk hi hst hD hR
  have hlt:i<n:=by lia
  refine codeAny_builtin entry_update_loop ?_
  rw[Around.under_plainId plain_update_loop _]
  show wpAny _ A.in1 (pyNext (.ref I) >>= _) _ _ s
  refine wpAny_bind (W.item i s _ _ hlt hst fun v h' tk hP hst' hm=>?_)
  dsimp only
  obtain⟨a,o,xs,m,ky,x,rfl,ho,hc,hdat,hxs,hput⟩:=put i v { s with heap:=h',toks:=tk } hlt hP (hfr _ _ _ hD hm)
  refine wpAny_bind (wpAny_holding (wpAny_bind (wpAny_tryCatch ?_)))
  unfold Builtin.Dict.pairItems
  refine wpAny_bind (wpAny_typeOf (T:="tuple") ⟨o,ho,hc⟩ ?_)
  rw[if_pos (by decide)]
  refine wpAny_bind (wpAny_seqItems ho hdat (wpAny_pure ?_))
  dsimp only[Option.getD_some]
  rw[hxs]
  dsimp only
  refine wpAny_holding (hput _ _ fun h'' tk' hD' hs=>?_)
  refine wpAny_pure ⟨plainId_quiet plain_update_loop _,?_⟩
  have:=ih (i+1) 0 { s with heap:=h'',toks:=tk' } (by lia) hlt (W.frame _ _ _ hst' fun b hb o e=>(hs.2 b (fun z=>hdf (z ▸ hb))).trans e) hD' (fun h3 tk3 hD3 hk3=>hR h3 tk3 hD3 fun b o hb e=>hk3 b o hb ((hs.2 b (fun z=>hb (by simp [z]))).trans (hm b o (fun z=>hb (List.mem_cons_of_mem _ z)) e)))
  exact this
end
end L2
end
section
namespace L2
open PySem PySem.Spec PyProof.Rows PySem.W
open Classical in
section
variable {P:Program}{w:World}{H:Hp}
theorem depL_le {n:Nat}:∀ {ds:List Dt},depL ds<=n->∀ d∈ds,d.dep<=n:=fun h d hd=>Nat.le_trans (dep_mem hd) h
end
end L2
end
section
namespace L2
open PySem PySem.Spec PyProof.Rows PySem.W
structure PSrc (prog:Program) (w:World) (T:String) (r:Addr) (n:Nat) (P:Nat->Value->Prop) (OK:Heap->Prop):Prop where
 type:∀ s:Shared,OK s.heap->s.TypeIs (.ref r) T
 there:∀ h:Heap,OK h->r<h.objs.size
 keep:∀ h h':Heap,OK h->(∀ o,h.get? r=some o->h'.get? r=some o)->OK h'
 notDict:(Value.type T != Value.type "dict")=true
 noKeys:∀ (A:Around) (E:Value->Shared->Prop) (s:Shared) (Q:Option Value->Shared->Prop),A.handled=none->OK s.heap->(∀ h' tk,(∀ b o,s.heap.get? b=some o->h'.get? b=some o)->Q none { s with heap:=h',toks:=tk })->wpAny (model prog w) A (getAttr? (.ref r) "keys") Q E s
 iter:∀ (A:Around) (s:Shared),A.handled=none->OK s.heap->∃ (oI:Obj) (St:Nat->Heap->Prop),
  (∀ (E:Value->Shared->Prop) (Q:Value->Shared->Prop),Q (.ref s.heap.objs.size) { s with heap:=s.heap.push oI }->wpAny (model prog w) A (pyIter (.ref r)) Q E s) /\
  Walks prog w A s.heap.objs.size [s.heap.objs.size,r] [s.heap.objs.size] n P St/\St 0 (s.heap.push oI)
section
variable {prog:Program}{w:World}{A:Around}{E:Value->Shared->Prop}{s:Shared}{T:String}{r:Addr}{n:Nat}{P:Nat->Value->Prop}{OK:Heap->Prop}
theorem psrc_list {k:Nat}{its:Array Value}:PSrc prog w "list" r its.size (fun i v=>its[i]?=some v) (fun h=>h.get? r=some { cls:=.type "list",data:=.seq its k }) where
 type:=fun s h=>⟨_,h,rfl⟩
 there:=fun h e=>Heap.lt_size e
 keep:=fun h h' e k=>k _ e
 notDict:=by decide
 noKeys:=fun A E s Q hA e q=>noKeys_list e rfl rfl rfl hA q
 iter:=fun A s hA e=>by
  have hl:s.heap.IsList r its:=⟨_,e,rfl,k,rfl⟩
  have ne:r≠s.heap.objs.size:=Nat.ne_of_lt (Heap.lt_size e)
  exact⟨_,_,fun _ _ q=>wpAny_pyIter_list hl q,Walks.list hA s.heap.objs.size r ne its,⟨⟨_,Heap.get?_push_size _ rfl,rfl,rfl⟩,hl.push _⟩⟩
theorem psrc_tup {its:Array Value}:PSrc prog w "tuple" r its.size (fun i v=>its[i]?=some v) (fun h=>∃ o k,h.get? r=some o/\o.cls=.type "tuple"/\o.data=.seq its k/\o.dict=none) where
 type:=fun s ⟨o,k,h,c,_⟩=>⟨_,h,c⟩
 there:=fun h ⟨o,k,e,_⟩=>Heap.lt_size e
 keep:=fun h h' ⟨o,k,e,c⟩ q=>⟨o,k,q _ e,c⟩
 notDict:=by decide
 noKeys:=fun A E s Q hA ⟨o,k,e,c,d,z⟩ q=>noKeys_tuple e c d z hA q
 iter:=fun A s hA ⟨o,k,e,c,d,z⟩=>by
  have hl:s.heap.IsTuple r its:=⟨o,e,c,k,d⟩
  have ne:r≠s.heap.objs.size:=Nat.ne_of_lt (Heap.lt_size e)
  exact⟨_,_,fun _ _ q=>wpAny_pyIter_tuple hl q,Walks.tuple hA s.heap.objs.size r ne its,⟨⟨_,Heap.get?_push_size _ rfl,rfl,rfl⟩,hl.push _⟩⟩
theorem call_dictP {DK:Nat->Heap->Prop}{Q:Value->Shared->Prop} (K:PSrc prog w T r n P OK) (hA:A.handled=none) (hok:OK s.heap) (d0:DK 0 (s.heap.push { cls:=.type "dict",data:=.dict #[] }))
  (hfr:∀ i h h' (it:Addr),s.heap.objs.size<it->DK i h->(∀ b o,b≠it->h.get? b=some o->h'.get? b=some o)->DK i h') (put:∀ A':Around,A'.units<=A.units+5->PutsAt prog w A' s.heap.objs.size n P DK)
  (h:∀ h' tk,DK n h'->(∀ b o,s.heap.get? b=some o->h'.get? b=some o)->Q (.ref s.heap.objs.size) { s with heap:=h',toks:=tk }):wpAny (model prog w) A (call (.type "dict") [.ref r]) Q E s:=by
 refine callType_codes (Q₁:=fun obj s₁=>obj=.ref s.heap.objs.size/\s₁={ s with heap:=s.heap.push { cls:=.type "dict",data:=.dict #[] } }) F.kt_called_dict (F.kt_typeCall_dict_1 _) F.entry_dict_init (kt_code_dict_new _ ⟨rfl,rfl⟩) ?_
 rintro obj s₁ ⟨rfl,rfl⟩
 have k1:∀ b o,s.heap.get? b=some o->(s.heap.push { cls:=.type "dict",data:=.dict #[] }).get? b=some o:=fun b o e=>Heap.get?_push_of_some _ e
 have ok1:OK (s.heap.push { cls:=.type "dict",data:=.dict #[] }):=K.keep _ _ hok fun o e=>k1 _ o e
 have hT0:(Shared.TypeIs { s with heap:=s.heap.push { cls:=.type "dict",data:=.dict #[] } } (.ref s.heap.objs.size) "dict"):=⟨_,Heap.get?_push_size _ rfl,rfl⟩
 refine⟨hT0,F.args_dict_init_2 _ _,?_⟩
 unfold Builtin.«dict.__init__»
 refine wpAny_bind ?_
 unfold Builtin.Dict.selfAndRest
 refine wpAny_bind (wpAny_notOrdered_dict hT0 ?_)
 show wpAny _ _ (pure (s.heap.objs.size,[Value.ref r])) _ _ _
 refine wpAny_pure ?_
 show wpAny _ _ (Builtin.Dict.updateFrom "dict.__init__" s.heap.objs.size (.ref r) [] .none) _ _ _
 unfold Builtin.Dict.updateFrom
 refine wpAny_bind (wpAny_typeOf (K.type _ ok1) ?_)
 rw[if_pos K.notDict]
 refine wpAny_bind (K.noKeys A.in1.in1 _ { s with heap:=s.heap.push { cls:=.type "dict",data:=.dict #[] } } _ hA ok1 fun h2 tk2 k2=>?_)
 simp only[Option.isNone_none,if_true]
 refine wpAny_bind (wpAny_rule ?_)
 have ok2:OK h2:=K.keep _ _ ok1 fun o e=>k2 _ o e
 obtain⟨oI,St,hit,W,st⟩:=K.iter A.in1.in1 { s with heap:=h2,toks:=tk2 } hA ok2
 have lt2:s.heap.objs.size<h2.objs.size:=Heap.lt_size (k2 _ _ (Heap.get?_push_size _ rfl))
 refine wpAny_bind (hit _ _ ?_)
 have hr:r<s.heap.objs.size:=K.there _ hok
 have loop:=codeAny_update_loop (A:=A.in1) (R:=wants (fun r' s₂=>r'=.none/\Q (.ref s.heap.objs.size) s₂) E) (DK:=DK) W s.heap.objs.size (by
   simp only[List.mem_cons,List.not_mem_nil,or_false,not_or]
   exact⟨Nat.ne_of_lt lt2,Nat.ne_of_gt hr⟩)
  (fun i h h' x k=>hfr i h h' h2.objs.size lt2 x fun b o hb e=>k b o (by simpa using hb) e) (put _ (by show A.units+1+1<=_;lia)) .none n 0 0 { s with heap:=h2.push oI,toks:=tk2 } rfl (Nat.zero_le _) st
  (hfr 0 _ _ h2.objs.size lt2 d0 fun b o _ e=>Heap.get?_push_of_some _ (k2 b o e)) (fun h' tk hD hk=>⟨rfl,h h' tk hD fun b o e=>hk b o (by
   have hb:=Heap.lt_size e
   simp only[List.mem_cons,List.not_mem_nil,or_false,not_or]
   exact⟨Nat.ne_of_lt hb,Nat.ne_of_lt (Nat.lt_trans hb lt2)⟩) (Heap.get?_push_of_some _ (k2 b o (k1 b o e)))⟩)
 first
  | exact wpAny_pure ⟨plainId_quiet plain_update_loop _,loop⟩
  | exact wpAny_pure (wpAny_pure ⟨plainId_quiet plain_update_loop _,loop⟩)
  | exact wpAny_bind (wpAny_pure (wpAny_pure ⟨plainId_quiet plain_update_loop _,loop⟩))
end
end L2
end
section
namespace L2
open PySem PySem.Spec PyProof.Rows PySem.W
def mergeG {κ:Type} [DecidableEq κ] (kvs more:List (κ×V)):List (κ×V):=more.foldl (fun acc kv=>putK acc kv.1 kv.2) kvs
theorem mergeG_len {κ:Type} [DecidableEq κ]:∀ (more kvs:List (κ×V)),(mergeG kvs more).length<=kvs.length+more.length
 | [],kvs=>by simp [mergeG]
 | p::more,kvs=>by
  have h1:=mergeG_len more (putK kvs p.1 p.2)
  have h2:=length_putK kvs p.1 p.2
  have e:mergeG kvs (p::more)=mergeG (putK kvs p.1 p.2) more:=rfl
  rw[e,List.length_cons]
  lia
theorem mergeG_take {κ:Type} [DecidableEq κ] {kvs:List (κ×V)}{i:Nat}{p:κ×V} (h:kvs[i]?=some p):mergeG [] (kvs.take (i+1))=putK (mergeG [] (kvs.take i)) p.1 p.2:=by
 rw[List.take_add_one,h]
 unfold mergeG
 rw[List.foldl_append]
 rfl
def PairsK (H:Hp):List (Key×V)->List V->Prop:=Paired fun kv x=>∃ a,x=.ref a/\H a=some (.tup [kV kv.1,kv.2])
theorem paired_get {α β:Type} {F:α->β->Prop}:∀ {l:List α}{m:List β}{i:Nat}{b:β},Paired F l m->m[i]?=some b->∃ a,l[i]?=some a/\F a b
 | _,_,_,_,.nil,e=>by simp at e
 | _,_,0,_,.cons r _,e=>by simp at e;subst e;exact⟨_,rfl,r⟩
 | _,_,i+1,_,.cons _ t,e=>by
  obtain⟨a,h1,h2⟩:=paired_get (i:=i) t (by simpa using e)
  exact⟨a,by simpa using h1,h2⟩
section
variable {X:Cx}
def SqA (H:Hp) (r:Addr) (xs:List V):Prop:=H r=some (.lst xs)\/H r=some (.tup xs)
theorem sqA_src {pins:List (Addr×Obj)}{s:Shared} {σ:St} {H:Hp}{r:Addr}{xs:List V} (I:Inv X pins σ H s) (h:SqA H r xs):∃ (T:String) (its:List Value) (OK:Heap->Prop),Vals xs its/\xs.length<=sizeLine/\OK s.heap/\PSrc X.prog X.w T r its.toArray.size (fun i v=>its.toArray[i]?=some v) OK:=by
 rcases h with h | h
 ·obtain⟨z,its,n,rv,ho⟩:=I.hok r _ h
  exact⟨_,its,_,rv,z,ho,psrc_list (k:=n)⟩
 ·obtain⟨z,its,rv,o,ho,hc,n,hd⟩:=I.hok r _ h
  exact⟨_,its,_,rv,z.1,⟨o,n,ho,hc,hd,z.2 o ho⟩,psrc_tup⟩
def rDictK:List V->Hp->VK->Prop:=fun ws H Q=>∃ (r:Addr) (xs:List V) (kvs:List (Key×V)),ws=[.ref r]/\SqA H r xs/\PairsK H kvs xs/\∀ p,H p=none->Q (.ref p) (upd H p (.dK (mergeG [] kvs)))
theorem call_dictK (hc:X.calm=true):CallR X (.type "dict") rDictK:=by
 intro pins s σ H ws us Q I r h
 obtain⟨a,xs,kvs,rfl,ha,hp,q⟩:=h
 obtain⟨u,rfl,ru⟩:=r.one
 cases ru
 have hh:=I.ok.hd hc
 obtain⟨T,its,OK,rv,hz,hok,S⟩:=sqA_src I ha
 have fr:H s.heap.objs.size=none:=I.hok.fresh (Nat.le_refl _)
 have lk:kvs.length=xs.length:=Paired.length hp
 refine call_dictP (DK:=fun i h=>HOk X.prog X.w H h/\∃ vs,KV (mergeG [] (kvs.take i)) vs/\h.DictOf (mixKind X.prog X.w) s.heap.objs.size vs) S hh hok ⟨I.hok.kept fun b o e=>Heap.get?_push_of_some _ e,[],.nil,Heap.DictOf.new _⟩ (fun i h h' it hit x k=>?_) (fun A' hA' i v s' hi hP hD=>?_) fun h' tk hD keep=>?_
 ·obtain⟨ok,vs,rel,o,es,ep,e,rest⟩:=x
  exact⟨ok.but (I.hok.fresh (Nat.le_of_lt hit)) k,vs,rel,o,es,ep,k _ _ (Nat.ne_of_lt hit) e,rest⟩
 ·obtain⟨ok,vs,rel,dd⟩:=hD
  have e1:its[i]?=some v:=by simpa using hP
  obtain⟨x,x1,x2⟩:=vals_get rv e1
  obtain⟨kv,k1,b,rfl,k3⟩:=paired_get hp x1
  cases x2
  obtain⟨_,its2,r2,o,ho,hcl,n,hd⟩:=ok b _ k3
  cases r2 with
  | @cons _ uk _ _ rk r3=>
  cases r3 with
  | @cons _ ux _ _ rx r4=>
  cases r4
  refine⟨b,o,_,n,uk,ux,rfl,ho,hcl,hd,rfl,fun Q E hq=>?_⟩
  have hv:vs.length<=sizeLine:=by
   rw[<- rel.length]
   have:=mergeG_len (kvs.take i) ([]:List (Key×V))
   rw[List.length_take,List.length_nil]at this
   lia
  refine wpAny_dictSet_pairs (hsz:=hv) (kV_is rk) dd fun h2 dd2 sb=>hq _ _ ⟨ok.but fr fun b o hb e=>sb.extBut b o hb e,_,?_,dd2⟩ sb
  rw[mergeG_take k1]
  exact rel.put kv.1 rx
 ·obtain⟨ok,vs,rel,dd⟩:=hD
  have ls:its.toArray.size=kvs.length:=by rw[List.size_toArray,<- rv.length,lk]
  rw[ls,List.take_length]at rel
  have big:(s.heap.objs.size == sysModules)=false:=by
   have:=I.big
   simp only[beq_eq_false_iff_ne]
   exact Nat.ne_of_gt this
  have hl:(mergeG [] kvs).length<=sizeLine:=by
   have:=mergeG_len kvs ([]:List (Key×V))
   rw[List.length_nil]at this
   lia
  exact⟨.ref s.heap.objs.size,_,I.laid (t':=tk) (o:=.dK (mergeG [] kvs)) keep (Nat.le_refl _) ⟨hl,big,vs,rel,dd⟩,rfl,q _ fr⟩
end
end L2
end
section
namespace L2
open PySem PySem.Spec PyProof.Rows PySem.W
open Kn (krun)
section
variable {X:Cx}
theorem isDts_perm {H:Hp}{ds:List (List Dt)}{bs:List V} (h:IsDts H (ds.map Dt.tup) bs):∀ (p:List Nat),(∀ i∈p,i<ds.length)->IsDts H ((p.map fun i=>ds.getD i []).map Dt.tup) (p.map fun i=>bs.getD i V.non)
 | [],_=>.nil
 | i::p,hp=>by
  have hi:i<ds.length:=hp i List.mem_cons_self
  refine .cons ?_ (isDts_perm h p fun j hj=>hp j (List.mem_cons_of_mem _ hj))
  obtain⟨y,e1,e2⟩:=h.get (i:=i) (d:=.tup ds[i]) (by rw[List.getElem?_map,List.getElem?_eq_getElem hi];rfl)
  show IsDt H (Dt.tup (ds.getD i [])) (bs.getD i V.non)
  rw[List.getD_eq_getElem?_getD,List.getElem?_eq_getElem hi,List.getD_eq_getElem?_getD,e1]
  exact e2
end
end L2
end
section
namespace L2
open PySem PySem.Spec PyProof.Rows PySem.W
section
variable {X:Cx}
end
end L2
end
section
namespace L2
open PySem PySem.Spec PyProof.Rows
section
open AutoSeq1 (wpAny_loadPart')
end
section
variable {prog:Program}{w:World}{A:Around}{E:Value->Shared->Prop}{s:Shared}
end
section
variable {X:Cx}
end
end L2
end
section
namespace L2
open PySem PySem.Spec PyProof.Rows PySem.W
section
variable {X:Cx}
end
end L2
end
section
namespace L2
open PySem PySem.Spec PyProof.Rows PySem.W
section
variable {prog:Program}{w:World}{A:Around}{E:Value->Shared->Prop}{s:Shared}
end
section
variable {X:Cx}
end
end L2
end
section
namespace L2
open PySem PySem.Spec PyProof.Rows PySem.W
section
variable {X:Cx}{e o:Expr}{te to:TE}
end
end L2
end
section
namespace Kn
open PySem
def isNum (c:Nat):Bool:=c == 45 || (decide (48<=c) && decide (c<=57))
def isLet (c:Nat):Bool:=decide (97<=c) && decide (c<=122)
def stop (r:List Nat):Prop:=∀ c t,r=c::t->isNum c=false/\isLet c=false
def lets (s:Str):Prop:=∀ c∈s.cps.toList,isLet c=true
end Kn
end
section
namespace Kn
open PySem L2
mutual
def dat:Val->Dt
 | .num i=>.tup [.str "num",.int i]
 | .word s=>.tup [.str "word",.str s]
 | .row ps=>.tup [.str "row",.tup (datR ps)]
 | .bag ps=>.tup [.str "bag",.tup (datB ps)]
def datR:List (Str×Val)->List Dt
 | []=>[]
 | p::ps=>.tup [.str p.1,dat p.2]::datR ps
def datB:List (Val×Int)->List Dt
 | []=>[]
 | p::ps=>.tup [dat p.1,.int p.2]::datB ps
end
theorem datR_map (ps:List (Str×Val)):datR ps=ps.map fun p=>.tup [.str p.1,dat p.2]:=by
 induction ps with
 | nil=>rw[datR];rfl
 | cons p ps ih=>rw[datR,ih];rfl
theorem datB_map (ps:List (Val×Int)):datB ps=ps.map fun p=>.tup [dat p.1,.int p.2]:=by
 induction ps with
 | nil=>rw[datB];rfl
 | cons p ps ih=>rw[datB,ih];rfl
mutual
theorem dat_inj:∀ {x y:Val},dat x=dat y->x=y
 | .num i,.num j,h=>by simp only[dat]at h;injection h with h;injection h with _ h;injection h with h;injection h with h;rw[h]
 | .word i,.word j,h=>by simp only[dat]at h;injection h with h;injection h with _ h;injection h with h;injection h with h;rw[h]
 | .row ps,.row qs,h=>by simp only[dat]at h;injection h with h;injection h with _ h;injection h with h;injection h with h;rw[datR_inj h]
 | .bag ps,.bag qs,h=>by simp only[dat]at h;injection h with h;injection h with _ h;injection h with h;injection h with h;rw[datB_inj h]
 | .num _,.word _,h=>by simp only[dat]at h;injection h with h;injection h with h _;injection h with h;exact absurd h (by decide +kernel)
 | .num _,.row _,h=>by simp only[dat]at h;injection h with h;injection h with h _;injection h with h;exact absurd h (by decide +kernel)
 | .num _,.bag _,h=>by simp only[dat]at h;injection h with h;injection h with h _;injection h with h;exact absurd h (by decide +kernel)
 | .word _,.num _,h=>by simp only[dat]at h;injection h with h;injection h with h _;injection h with h;exact absurd h (by decide +kernel)
 | .word _,.row _,h=>by simp only[dat]at h;injection h with h;injection h with h _;injection h with h;exact absurd h (by decide +kernel)
 | .word _,.bag _,h=>by simp only[dat]at h;injection h with h;injection h with h _;injection h with h;exact absurd h (by decide +kernel)
 | .row _,.num _,h=>by simp only[dat]at h;injection h with h;injection h with h _;injection h with h;exact absurd h (by decide +kernel)
 | .row _,.word _,h=>by simp only[dat]at h;injection h with h;injection h with h _;injection h with h;exact absurd h (by decide +kernel)
 | .row _,.bag _,h=>by simp only[dat]at h;injection h with h;injection h with h _;injection h with h;exact absurd h (by decide +kernel)
 | .bag _,.num _,h=>by simp only[dat]at h;injection h with h;injection h with h _;injection h with h;exact absurd h (by decide +kernel)
 | .bag _,.word _,h=>by simp only[dat]at h;injection h with h;injection h with h _;injection h with h;exact absurd h (by decide +kernel)
 | .bag _,.row _,h=>by simp only[dat]at h;injection h with h;injection h with h _;injection h with h;exact absurd h (by decide +kernel)
theorem datR_inj:∀ {ps qs:List (Str×Val)},datR ps=datR qs->ps=qs
 | [],[],_=>rfl
 | [],q::qs,h=>by simp only[datR]at h;cases h
 | p::ps,[],h=>by simp only[datR]at h;cases h
 | p::ps,q::qs,h=>by
  simp only[datR]at h
  injection h with h1 h2
  injection h1 with h1
  injection h1 with h3 h4
  injection h3 with h3
  injection h4 with h4 _
  rw[datR_inj h2,Prod.ext h3 (dat_inj h4)]
theorem datB_inj:∀ {ps qs:List (Val×Int)},datB ps=datB qs->ps=qs
 | [],[],_=>rfl
 | [],q::qs,h=>by simp only[datB]at h;cases h
 | p::ps,[],h=>by simp only[datB]at h;cases h
 | p::ps,q::qs,h=>by
  simp only[datB]at h
  injection h with h1 h2
  injection h1 with h1
  injection h1 with h3 h4
  injection h4 with h4 _
  injection h4 with h4
  rw[datB_inj h2,Prod.ext (dat_inj h3) h4]
end
theorem depL_le {ds:List Dt}{n:Nat} (h:∀ d∈ds,d.dep<=n):depL ds<=n:=by
 induction ds with
 | nil=>rw[depL];exact Nat.zero_le _
 | cons d ds ih=>
  rw[depL]
  have h1:=h d List.mem_cons_self
  have h2:=ih fun e he=>h e (List.mem_cons_of_mem _ he)
  lia
theorem dep_two (a b:Dt):(Dt.tup [a,b]).dep=max a.dep b.dep+1:=by simp only[Dt.dep,depL];lia
theorem keyB_len {ps:List (Val×Int)}{n:Nat} (h:∀ p∈ps,(key p.1).length<=n):(keyB ps).length<=1+ps.length * (n+2):=by
 induction ps with
 | nil=>simp [keyB]
 | cons p ps ih=>
  have h1:=h p List.mem_cons_self
  have h2:=ih fun e he=>h e (List.mem_cons_of_mem _ he)
  rw[keyB]
  simp only[List.length_cons,List.length_append]
  rw[Nat.succ_mul]
  lia
def IsVal (H:Hp) (x:Val) (v:V):Prop:=IsDt H (dat x) v
end Kn
end
section
namespace Kn
open PySem L2
inductive Kd where
 | num
 | word
 | row (ps:List (Str×Kd))
 | bag (k:Kd)
def KB:Nat->Kd->Prop
 | _,.num=>True
 | _,.word=>True
 | 0,.row ps=>ps=[]
 | 0,.bag _=>False
 | d+1,.row ps=>∀ p∈ps,lets p.1/\p.1.length<=9/\KB d p.2
 | d+1,.bag k=>KB d k
def KOk (x:Kd):Prop:=∃ d,KB d x
end Kn
end
section
namespace Kn
open PySem L2
inductive Pt where
 | k (e:KE)
 | v (x:Val)
def Pt.key:Pt->List KE
 | .k e=>[e]
 | .v x=>Kn.key x
def flatK (ps:List Pt):List KE:=ps.flatMap Pt.key
def ptsR:List (Str×Val)->List Pt
 | []=>[.k (.i 0)]
 | p::ps=>.k (.i 1)::.k (.s p.1)::.v p.2::ptsR ps
def ptsB:List (Val×Int)->List Pt
 | []=>[.k (.i 0)]
 | p::ps=>.k (.i 1)::.v p.1::.k (.i p.2)::ptsB ps
def pts:Val->List Pt
 | .num i=>[.k (.i 0),.k (.i i)]
 | .word s=>[.k (.i 1),.k (.s s)]
 | .row ps=>.k (.i 2)::ptsR ps
 | .bag ps=>.k (.i 3)::ptsB ps
theorem flat_R (ps:List (Str×Val)):flatK (ptsR ps)=keyR ps:=by
 induction ps with
 | nil=>rw[ptsR,keyR];rfl
 | cons p ps ih=>rw[ptsR,keyR,<- ih];simp [flatK,Pt.key]
theorem flat_B (ps:List (Val×Int)):flatK (ptsB ps)=keyB ps:=by
 induction ps with
 | nil=>rw[ptsB,keyB];rfl
 | cons p ps ih=>rw[ptsB,keyB,<- ih];simp [flatK,Pt.key]
theorem flat_pts (x:Val):flatK (pts x)=key x:=by
 cases x with
 | num i=>rw[pts,key];rfl
 | word s=>rw[pts,key];rfl
 | row ps=>rw[pts,key,<- flat_R];rfl
 | bag ps=>rw[pts,key,<- flat_B];rfl
theorem key_pos (x:Val):1<=(key x).length:=by cases x <;> rw[key] <;> simp
def Pt.ms:Pt->Nat
 | .k _=>1
 | .v x=>2 * (Kn.key x).length
def msL (ps:List Pt):Nat:=(ps.map Pt.ms).sum
theorem msL_app (a b:List Pt):msL (a++b)=msL a+msL b:=by simp [msL]
theorem msL_rev (a:List Pt):msL a.reverse=msL a:=by simp [msL]
theorem msL_le (ps:List Pt):msL ps<=2 * (flatK ps).length:=by
 induction ps with
 | nil=>simp [msL,flatK]
 | cons p ps ih=>
  have e1:msL (p::ps)=p.ms+msL ps:=by simp [msL]
  have e2:(flatK (p::ps)).length=p.key.length+(flatK ps).length:=by simp [flatK]
  have e3:p.ms<=2 * p.key.length:=by cases p <;> simp [Pt.ms,Pt.key]
  lia
theorem ms_pts (x:Val):msL (pts x)<2 * (key x).length:=by
 have h:∀ (e:KE) (r:List Pt),pts x=.k e::r->msL (pts x)<2 * (key x).length:=fun e r q=>by
  have e0:=flat_pts x
  rw[q]at e0 ⊢
  have e1:msL (.k e::r)=1+msL r:=by simp [msL,Pt.ms]
  have e2:(flatK (.k e::r)).length=1+(flatK r).length:=by simp [flatK,Pt.key];lia
  have e3:=msL_le r
  rw[<- e0,e1,e2]
  lia
 cases x with
 | num i=>exact h _ _ (by rw[pts])
 | word s=>exact h _ _ (by rw[pts])
 | row ps=>exact h _ _ (by rw[pts])
 | bag ps=>exact h _ _ (by rw[pts])
theorem pts_len (ps:List Pt):ps.length<=(flatK ps).length:=by
 induction ps with
 | nil=>simp [flatK]
 | cons p ps ih=>
  have e2:(flatK (p::ps)).length=p.key.length+(flatK ps).length:=by simp [flatK]
  have e3:1<=p.key.length:=by cases p with | k e=>simp [Pt.key] | v x=>exact key_pos x
  rw[List.length_cons]
  lia
def IsPt (H:Hp):Pt->V->Prop
 | .k e,v=>v=kv e
 | .v x,v=>IsVal H x v
def IsPts (H:Hp):List Pt->List V->Prop
 | [],us=>us=[]
 | p::ps,us=>∃ y ys,us=y::ys/\IsPt H p y/\IsPts H ps ys
theorem IsPt.mono {H H':Hp} (t:Tups H H') {p:Pt}{v:V} (h:IsPt H p v):IsPt H' p v:=by
 cases p with
 | k e=>exact h
 | v x=>exact IsDt.mono t h
theorem IsPts.mono {H H':Hp} (t:Tups H H'):∀ {ps:List Pt}{us:List V},IsPts H ps us->IsPts H' ps us
 | [],us,h=>h
 | p::ps,us,h=>let ⟨y,ys,e,h1,h2⟩:=h;⟨y,ys,e,h1.mono t,h2.mono t⟩
theorem IsPts.append {H:Hp}:∀ {ps qs:List Pt}{us vs:List V},IsPts H ps us->IsPts H qs vs->IsPts H (ps++qs) (us++vs)
 | [],qs,us,vs,h,h'=>by rw[show us=[] from h];exact h'
 | p::ps,qs,us,vs,h,h'=>by
  obtain⟨y,ys,rfl,h1,h2⟩:=h
  exact⟨y,ys++vs,rfl,h1,h2.append h'⟩
theorem IsPts.reverse {H:Hp}:∀ {ps:List Pt}{us:List V},IsPts H ps us->IsPts H ps.reverse us.reverse
 | [],us,h=>by rw[show us=[] from h];rfl
 | p::ps,us,h=>by
  obtain⟨y,ys,rfl,h1,h2⟩:=h
  rw[List.reverse_cons,List.reverse_cons]
  exact h2.reverse.append ⟨y,[],rfl,h1,rfl⟩
theorem IsPts.length {H:Hp}:∀ {ps:List Pt}{us:List V},IsPts H ps us->us.length=ps.length
 | [],us,h=>by rw[show us=[] from h];rfl
 | p::ps,us,h=>by
  obtain⟨y,ys,rfl,h1,h2⟩:=h
  simp [h2.length]
theorem IsPts.last {H:Hp}{ps:List Pt}{p:Pt}{us:List V} (h:IsPts H (ps++[p]) us):∃ ys y,us=ys++[y]/\IsPts H ps ys/\IsPt H p y:=by
 induction ps generalizing us with
 | nil=>
  obtain⟨y,ys,rfl,h1,h2⟩:=h
  rw[show ys=[] from h2]
  exact⟨[],y,rfl,rfl,h1⟩
 | cons q ps ih=>
  obtain⟨y,ys,rfl,h1,h2⟩:=h
  obtain⟨zs,z,rfl,a,b⟩:=ih h2
  exact⟨y::zs,z,rfl,⟨y,zs,rfl,h1,a⟩,b⟩
def rankS (s:Str):Option Int:=if s="num" then some 0 else if s="word" then some 1 else if s="row" then some 2 else if s="bag" then some 3 else none
def rRank (a:Addr):R2:=fun x y H Q=>∃ s i,x=.ref a/\y=.str s/\rankS s=some i/\Q (.int i) H
def tagS:Val->Str
 | .num _=>"num"
 | .word _=>"word"
 | .row _=>"row"
 | .bag _=>"bag"
def restD:Val->Dt
 | .num i=>.int i
 | .word s=>.str s
 | .row ps=>.tup (datR ps)
 | .bag ps=>.tup (datB ps)
theorem dat_two (x:Val):dat x=.tup [.str (tagS x),restD x]:=by cases x <;> rw[dat] <;> rfl
theorem IsVal.two {H:Hp}{x:Val}{v:V} (h:IsVal H x v):∃ a w,v=.ref a/\H a=some (.tup [.str (tagS x),w])/\IsDt H (restD x) w:=by
 unfold IsVal at h
 rw[dat_two,IsDt]at h
 obtain⟨a,xs,e,h1,h2⟩:=h
 rw[IsDts]at h2
 obtain⟨y,ys,rfl,h3,h4⟩:=h2
 rw[IsDts]at h4
 obtain⟨w,zs,rfl,h5,h6⟩:=h4
 rw[IsDts]at h6
 subst h6
 rw[IsDt]at h3
 subst h3
 exact⟨a,w,e,h1,h5⟩
theorem rank_tag (x:Val):rankS (tagS x)=some (rank x):=by
 cases x with
 | num i=>show rankS "num"=some 0;decide +kernel
 | word i=>show rankS "word"=some 1;decide +kernel
 | row i=>show rankS "row"=some 2;decide +kernel
 | bag i=>show rankS "bag"=some 3;decide +kernel
end Kn
end
section
namespace Kn
open PySem L2
theorem pick (b:Bool):atI [V.int 1,V.int (-1)] (if b=true then 1 else 0)=some (.int (if b=true then -1 else 1)):=by cases b <;> rfl
end Kn
end
section
namespace Kn
open PySem L2
end Kn
end
section
namespace Kn
open PySem L2
inductive At where
 | int (i:Int)
 | txt (s:Str)
inductive Tr where
 | row (ps:List (Str×Tr))
 | node (w:Str) (as:List At) (ps:List Tr)
def atD:At->Dt
 | .int i=>.int i
 | .txt s=>.str s
mutual
def tdat:Tr->Dt
 | .row ps=>.tup [.str "row",.tup (tdatR ps)]
 | .node w as ps=>.tup (.str w::(as.map atD++tdatL ps))
def tdatR:List (Str×Tr)->List Dt
 | []=>[]
 | p::ps=>.tup [.str p.1,tdat p.2]::tdatR ps
def tdatL:List Tr->List Dt
 | []=>[]
 | p::ps=>tdat p::tdatL ps
end
theorem tdatL_map (ps:List Tr):tdatL ps=ps.map tdat:=by
 induction ps with
 | nil=>rw[tdatL];rfl
 | cons p ps ih=>rw[tdatL,ih];rfl
inductive KG:Nat->Tr->Prop where
 | num {d:Nat}:KG d (.node (Str.ofString "num") [] [])
 | word {d:Nat}:KG d (.node (Str.ofString "word") [] [])
 | bag {d:Nat}{k:Tr} (h:KG d k):KG (d+1) (.node (Str.ofString "bag") [] [k])
 | row {d:Nat}{ps:List (Str×Tr)} (hl:ps.length<=14) (hn:∀ p∈ps,p.1.length<=10) (h:∀ p∈ps,KG d p.2):KG (d+1) (.row ps)
end Kn
end
section
namespace Kn
open PySem L2
def HM:List Str:=[Str.ofString "num",Str.ofString "word",Str.ofString "var",Str.ofString "table",Str.ofString "none",Str.ofString "at",Str.ofString "times",Str.ofString "for",Str.ofString "let"]
inductive TH:Nat->Tr->Prop where
 | num {d:Nat}{i:Int}:TH d (.node (Str.ofString "num") [.int i] [])
 | atom {d:Nat}{w s:Str} (hw:w∈[Str.ofString "word",Str.ofString "var",Str.ofString "table"]):TH d (.node w [.txt s] [])
 | none {d:Nat}{k:Tr} (h:KG 2 k):TH d (.node (Str.ofString "none") [] [k])
 | row {d:Nat}{ps:List (Str×Tr)} (hl:ps.length<=14) (h:∀ p∈ps,TH d p.2):TH (d+1) (.row ps)
 | times {d:Nat}{i:Int}{q:Tr} (h:TH d q):TH (d+1) (.node (Str.ofString "times") [.int i] [q])
 | at {d:Nat}{s:Str}{q:Tr} (h:TH d q):TH (d+1) (.node (Str.ofString "at") [.txt s] [q])
 | bind {d:Nat}{w s:Str}{q r:Tr} (hw:w=Str.ofString "for"\/w=Str.ofString "let") (hq:TH d q) (hr:TH d r):TH (d+1) (.node w [.txt s] [q,r])
 | plain {d:Nat}{w:Str}{ps:List Tr} (hw:w ∉ HM) (hr:w≠Str.ofString "row") (hl:ps.length<=2) (h:∀ q∈ps,TH d q):TH (d+1) (.node w [] ps)
def kids:Tr->List Tr
 | .row ps=>ps.map (·.2)
 | .node w _ ps=>if w=Str.ofString "none" then [] else ps
theorem kids_node (w:Str) (as:List At) (ps:List Tr):kids (.node w as ps)=if w=Str.ofString "none" then [] else ps:=rfl
theorem kids_ne {w:Str} (as:List At) (ps:List Tr) (h:w≠Str.ofString "none"):kids (.node w as ps)=ps:=if_neg h
mutual
def nq:Tr->Nat
 | .row ps=>1+nqR ps
 | .node w _ ps=>1+if w=Str.ofString "none" then 0 else nqL ps
def nqR:List (Str×Tr)->Nat
 | []=>0
 | p::ps=>nq p.2+nqR ps
def nqL:List Tr->Nat
 | []=>0
 | p::ps=>nq p+nqL ps
end
end Kn
end
section
namespace K21
open PySem L2
def top (i:Nat):Stmt:=PySem.Challenge.pw_keptnest_k21_bags_added.main.body.getD i (.Pass ⟨0,0,0,0⟩)
def clsBody (s:Stmt):List Stmt:=match s with
 | .ClassDef _ _ _ b _ _ _ _ _ _ _=>b
 | _=>[]
def mtop (i j:Nat):Stmt:=(clsBody (top i)).getD j (.Pass ⟨0,0,0,0⟩)
structure Mf (K:PySem.W.Frag) (C:Addr) (m qual:Str) (st:Stmt) (f:Addr) (fd:FuncData) (ps:List Str):Prop where
 fn:Fun K m qual st f fd
 b:Binds K fd ps []
 mt:Meth K C m f
structure Tx (mg:Str->Option Value):Prop where
 z_len:mg "len"=none
 z_int:mg "int"=none
 z_tuple:mg "tuple"=none
 z_range:mg "range"=none
 z_sorted:mg "sorted"=none
 z_zip:mg "zip"=none
 z_dict:mg "dict"=none
 z_reversed:mg "reversed"=none
 z_isinstance:mg "isinstance"=none
theorem u110 {k:Nat}{A:Around} (hr:Room k A):A.units+110<cLine:=by have:=hr.un;lia
theorem u0 {k:Nat}{A:Around} (hr:Room k A):A.units<cLine:=by have:=hr.un;lia
theorem same_new {H:Hp}{p:Addr} (h:H p=none) (o:HO):Same H (upd H p o):=fun b u q=>by rw[upd_ne (ne_of_none q h)];exact q
theorem line1 {n:Nat} (h:n<=15000000):n<sizeLine:=Nat.lt_of_le_of_lt h (by decide)
theorem gall {i:Nat}{v:V} {σ:St} {H:Hp}{A:St->Hp->Prop}{B:Hp->Prop} (h:A (σ.set i (some v)) H):gName i v σ H fun σ2 H2=>tAll σ2 H2 fun b H3=>if b=true then A σ2 H3 else B H3:=by
 show (if true=true then A _ H else B H)
 rw[if_pos rfl];exact h
theorem last_cat (l:List V) (y:V):(l++[y])[(l++[y]).length-1]?=some y:=by simp
theorem iteP {c A B:Prop} [Decidable c] (h:c) (x:A):if c then A else B:=by rw[if_pos h];exact x
theorem iteN {c A B:Prop} [Decidable c] (h:¬c) (x:B):if c then A else B:=by rw[if_neg h];exact x
theorem wh_hideD {Nx:St->Hp->Prop}{tb:TS}{D:Ends} {σ:St} {H:Hp} (b:∀ E:Ends,(∀ σ H,Nx σ H->E.nx σ H)->(∀ v H,D.rt v H->E.rt v H)->tb E σ H):∃ N:St->Hp->Prop,(∀ σ' H',N σ' H'->Nx σ' H')/\tb { D with nx:=N,ct:=N,bk:=D.nx } σ H:=⟨Nx,fun _ _ h=>h,b _ (fun _ _ h=>h) (fun _ _ h=>h)⟩
theorem for_hide {go:Prop}{Nx:St->Hp->Prop}{J:It}{i:Nat} {σ:St} {H:Hp}{g:TG}{tb:TS}{D:Ends} (g0:go) (M:St->Hp->Prop) (hM:∀ σ H,M σ H->Nx σ H) (b:∀ E:Ends,(∀ σ H,M σ H->E.nx σ H)->(∀ v H,D.rt v H->E.rt v H)->∀ x H',J.yld i H x H'->g x σ H' fun σ2 H2=>tb E σ2 H2) :
  go/\∃ N:St->Hp->Prop,(∀ σ' H',N σ' H'->Nx σ' H')/\∀ x H',J.yld i H x H'->g x σ H' fun σ2 H2=>tb { D with nx:=N,ct:=N,bk:=D.nx } σ2 H2:=⟨g0,M,hM,b _ (fun _ _ h=>h) (fun _ _ h=>h)⟩
abbrev fW (l f:Addr):List (Str×V):=[(Str.ofString "waiting",.ref l),(Str.ofString "found",.ref f)]
structure Wk (C:Addr) (H:Hp) (x dx l r:Addr) (ws fs:List V):Prop where
 at_:H x=some (.ins C dx (fW l r))
 wt:H l=some (.lst ws)
 fd:H r=some (.lst fs)
 lf:l≠r
theorem Wk.keep {C:Addr}{H H':Hp}{x dx l r:Addr}{ws fs:List V} (h:Wk C H x dx l r ws fs) (s:Same H H'):Wk C H' x dx l r ws fs:=⟨s _ _ h.at_,s _ _ h.wt,s _ _ h.fd,h.lf⟩
theorem Wk.setW {C:Addr}{H:Hp}{x dx l r:Addr}{ws fs:List V} (h:Wk C H x dx l r ws fs) (zs:List V):Wk C (upd H l (.lst zs)) x dx l r zs fs:=
 ⟨by rw[upd_ne fun z=>by have:=h.at_;rw[z,h.wt]at this;cases this];exact h.at_,upd_same,by rw[upd_ne (Ne.symm h.lf)];exact h.fd,h.lf⟩
theorem Wk.setF {C:Addr}{H:Hp}{x dx l r:Addr}{ws fs:List V} (h:Wk C H x dx l r ws fs) (zs:List V):Wk C (upd H r (.lst zs)) x dx l r ws zs:=
 ⟨by rw[upd_ne fun z=>by have:=h.at_;rw[z,h.fd]at this;cases this];exact h.at_,by rw[upd_ne h.lf];exact h.wt,upd_same,h.lf⟩
abbrev ExW (l r:Addr) (H H':Hp):Prop:=∀ b o,b≠l->b≠r->H b=some o->H' b=some o
theorem lkw (l f:Addr):(fW l f).lookup (Str.ofString "waiting")=some (.ref l):=rfl
theorem lkf (l f:Addr):(fW l f).lookup (Str.ofString "found")=some (.ref f):=rfl
section
variable {P:Program}{w:World}{K:PySem.W.Frag}{mg:Str->Option Value}{base:Heap}{f:Addr}{fd:FuncData}{C:Addr}
structure NA (K:PySem.W.Frag) (C:Addr):Prop where
 waiting:NoAttr K C (Str.ofString "waiting")
 found:NoAttr K C (Str.ofString "found")
theorem Zbp:FnScope ["self"] ["self"] (defScope (mtop 14 0)):=⟨rfl,rfl,rfl,by decide +kernel,rfl,by decide +kernel,by decide +kernel⟩
def spInit (C:Addr):Sp:=fun vs H Q _=>∃ (x dx:Addr),vs=[.ref x]/\H x=some (.ins C dx []) /\
 ∀ (l f:Addr) (H':Hp),(∀ b o,b≠x->H b=some o->H' b=some o)->Wk C H' x dx l f [] []->H l=none->H f=none->Q .non H'
theorem ok_init (T:Tx mg) (Zad:Cls K C) (N:NA K C) (D:Mf K C "__init__" "Walk.__init__" (mtop 14 0) f fd ["self"]):FnOk P w K mg base CX0 1 f fd ["self"] (spInit C):=by
 refine D.fn.okH Zbp (fun vs H Q E h=>?_) (fun cdv A outer s H vs Q E hr h=>?_)
 ·obtain⟨x,dx,rfl,_⟩:=h;rfl
 obtain⟨x,dx,rfl,hx,fin⟩:=h
 have hu:=u110 hr
 have hu0:=u0 hr
 have hu1:=hu_of hr
 refine⟨_,(wss_cons (ws_fld (wv 0) (we_lst wa_nil))
   (wss_one (ws_fld (wv 0) (we_lst wa_nil)))),?_⟩
 refine⟨(by show 0<=sizeLine;decide),fun l hl=>⟨_,rfl,x,C,dx,[],rfl,same_new hl _ _ _ hx,Zad,N.waiting,by decide,?_⟩⟩
 have nx:l≠x:=fun z=>by rw[z,hx]at hl;cases hl
 obtain⟨H1,e1⟩:∃ H1,H1=upd (upd H l (.lst [])) x (.ins C dx [(Str.ofString "waiting",.ref l)]):=⟨_,rfl⟩
 have k1:∀ b o,b≠x->H b=some o->H1 b=some o:=fun b o n e=>by rw[e1,upd_ne n];exact same_new hl _ _ _ e
 have x1:H1 x=some (.ins C dx [(Str.ofString "waiting",.ref l)]):=by rw[e1];exact upd_same
 have l1:H1 l=some (.lst []):=by rw[e1,upd_ne nx];exact upd_same
 rw[show putF (Str.ofString "waiting") (V.ref l) []=[(Str.ofString "waiting",.ref l)] from by rw[putF],<- e1]
 clear e1
 refine⟨(by show 0<=sizeLine;decide),fun r hr1=>⟨_,rfl,x,C,dx,_,rfl,same_new hr1 _ _ _ x1,Zad,N.found,by simp,?_⟩⟩
 have nr:r≠x:=fun z=>by rw[z,x1]at hr1;cases hr1
 have nl:l≠r:=fun z=>by rw[<- z,l1]at hr1;cases hr1
 rw[show putF (Str.ofString "found") (V.ref r) [(Str.ofString "waiting",.ref l)]=fW l r from by rw[putF,if_neg (by decide +kernel),putF]]
 refine fin l r _ (fun b o n e=>by rw[upd_ne n];exact same_new hr1 _ _ _ (k1 b o n e)) ⟨upd_same,by rw[upd_ne nx];exact same_new hr1 _ _ _ l1,by rw[upd_ne nr];exact upd_same,nl⟩ hl ?_
 cases e:H r with
 | none=>rfl
 | some u=>rw[k1 r u nr e]at hr1;cases hr1
theorem Zbq:FnScope ["self","step","question","around"] ["self","step","question","around"] (defScope (mtop 14 1)):=⟨rfl,rfl,rfl,by decide +kernel,rfl,by decide +kernel,by decide +kernel⟩
def spLater (C:Addr):Sp:=fun vs H Q _=>∃ (x dx l r:Addr) (ws fs:List V) (a b c:V),vs=[.ref x,a,b,c]/\Wk C H x dx l r ws fs/\ws.length<=10000000 /\
 ∀ (t:Addr) (H':Hp),ExW l r H H'->H t=none->H' t=some (.tup [a,b,c])->Wk C H' x dx l r (ws++[.ref t]) fs->Q .non H'
theorem ok_later (T:Tx mg) (Zad:Cls K C) (N:NA K C) (D:Mf K C "later" "Walk.later" (mtop 14 1) f fd ["self","step","question","around"]):FnOk P w K mg base CX0 1 f fd ["self","step","question","around"] (spLater C):=by
 refine D.fn.okH Zbq (fun vs H Q E h=>?_) (fun cdv A outer s H vs Q E hr h=>?_)
 ·obtain⟨x,dx,l,r,ws,fs,a,b,c,rfl,_⟩:=h;rfl
 obtain⟨x,dx,l,r,ws,fs,a,b,c,rfl,wk,lw,fin⟩:=h
 have hu:=u110 hr
 have hu0:=u0 hr
 have hu1:=hu_of hr
 refine⟨_,(wss_one (ws_expr (we_bm PySem.F.plainAttrs_list PySem.F.slot_list_append PySem.F.type_list_append mt_append (we_fld (wv 0)) (wa_cons (we_tup (wa_cons (wv 1) (wa_cons (wv 2) (wa_cons (wv 3) wa_nil)))) wa_nil)))),?_⟩
 refine⟨_,rfl,x,C,dx,_,_,rfl,wk.at_,Zad,N.waiting,lkw l r,.inl ⟨rfl,_,SqL.of wk.wt⟩,?_⟩
 refine⟨_,rfl,_,rfl,_,rfl,(by show 3<=sizeLine;decide),fun t ht=>?_⟩
 have wk1:=wk.keep (same_new ht (.tup [a,b,c]))
 have nt:t≠l:=fun z=>by rw[z,wk.wt]at ht;cases ht
 refine⟨l,ws,_,rfl,rfl,wk1.wt,line1 (by lia),?_⟩
 exact fin t _ (fun b o n _ e=>by rw[upd_ne n];exact same_new ht _ _ _ e) ht (by rw[upd_ne nt];exact upd_same) (wk1.setW _)
theorem Zbr:FnScope ["self","result"] ["self","result"] (defScope (mtop 14 2)):=⟨rfl,rfl,rfl,by decide +kernel,rfl,by decide +kernel,by decide +kernel⟩
def spTell (C:Addr):Sp:=fun vs H Q _=>∃ (x dx l r:Addr) (ws fs:List V) (a:V),vs=[.ref x,a]/\Wk C H x dx l r ws fs/\fs.length<=10000000 /\
 ∀ (H':Hp),ExW l r H H'->Wk C H' x dx l r ws (fs++[a])->Q .non H'
theorem ok_tell (T:Tx mg) (Zad:Cls K C) (N:NA K C) (D:Mf K C "tell" "Walk.tell" (mtop 14 2) f fd ["self","result"]):FnOk P w K mg base CX0 1 f fd ["self","result"] (spTell C):=by
 refine D.fn.okH Zbr (fun vs H Q E h=>?_) (fun cdv A outer s H vs Q E hr h=>?_)
 ·obtain⟨x,dx,l,r,ws,fs,a,rfl,_⟩:=h;rfl
 obtain⟨x,dx,l,r,ws,fs,a,rfl,wk,lw,fin⟩:=h
 have hu:=u110 hr
 have hu0:=u0 hr
 have hu1:=hu_of hr
 refine⟨_,(wss_one (ws_expr (we_bm PySem.F.plainAttrs_list PySem.F.slot_list_append PySem.F.type_list_append mt_append (we_fld (wv 0)) (wa_cons (wv 1) wa_nil)))),?_⟩
 refine⟨_,rfl,x,C,dx,_,_,rfl,wk.at_,Zad,N.found,lkf l r,.inl ⟨rfl,_,SqL.of wk.fd⟩,?_⟩
 refine⟨_,rfl,r,fs,_,rfl,rfl,wk.fd,line1 (by lia),?_⟩
 exact fin _ (fun b o _ n e=>by rw[upd_ne n];exact e) (wk.setF _)
theorem Za8:FnScope ["self","many","taken"] ["self","many"] (defScope (mtop 14 3)):=⟨rfl,rfl,rfl,by decide +kernel,rfl,by decide +kernel,by decide +kernel⟩
def spTake (C:Addr):Sp:=fun vs H Q _=>∃ (x dx l r:Addr) (ws fs gs:List V),vs=[.ref x,.int gs.length]/\Wk C H x dx l r ws (fs++gs)/\gs.length<=1000000 /\
 ∀ (t:Addr) (H':Hp),ExW l r H H'->H t=none->H' t=some (.lst gs)->Wk C H' x dx l r ws fs->Q (.ref t) H'
theorem ok_take (T:Tx mg) (Zad:Cls K C) (N:NA K C) (D:Mf K C "take" "Walk.take" (mtop 14 3) f fd ["self","many"]):FnOk P w K mg base CX0 1 f fd ["self","many"] (spTake C):=by
 refine D.fn.okH Za8 (fun vs H Q E h=>?_) (fun cdv A outer s H vs Q E hr h=>?_)
 ·obtain⟨x,dx,l,r,ws,fs,gs,rfl,_⟩:=h;rfl
 obtain⟨x,dx,l,r,ws,fs,gs,rfl,wk,lg,fin⟩:=h
 have hu:=u110 hr
 have hu0:=u0 hr
 have hu1:=hu_of hr
 refine⟨_,(wss_cons (ws_lc (j:=2) (hN:=Za8.nd) (hj:=rfl) (hy:=(Or.inl rfl)) (Nt:=["turn"]) (fr:=[("self",0)]) (LcOk.of (sc:=defScope (mtop 14 3)) (N:=["self","many","taken"]) rfl rfl (by decide +kernel)) rfl (wi_range1 rfl T.z_range (wa_cons (wv 1) wa_nil)) (fun z=>wg_name (i:=0) (by show (["turn","self"]:List Str).Nodup;decide +kernel) rfl (Or.inl rfl) (.inr rfl)) (fun z=>tgt_name (by decide)) (fun z=>wif_nil) (fun z=>(we_bm0 PySem.F.plainAttrs_list PySem.F.slot_list_pop PySem.F.type_list_pop mt_pop (we_fld (wv 1)))))
   (wss_one (ws_ret (we_rev (wv 2))))),?_⟩
 refine⟨_,rfl,(gs.length:Int),rfl,by lia,by lia,?_⟩
 refine⟨fun i m zs H'=>m+i=gs.length/\zs=gs.reverse.take i/\ExW l r H H'/\Wk C H' x dx l r ws (fs++gs.take (gs.length-i)),⟨gs.length,by lia,rfl,fun _ _ _ _ e=>e,by rw[Nat.sub_zero,List.take_length];exact wk⟩,?_⟩
 rintro i m zs H' ⟨hm,rfl,ex,wk'⟩
 refine⟨line1 (by rw[List.length_take];lia),?_⟩
 by_cases hi:i<gs.length
 ·refine .inr ⟨(by show i<((gs.length:Int)).toNat;lia),fun z y H5 hy=>?_⟩
  obtain⟨rfl,rfl⟩:=hy
  refine gall ?_
  have e1:gs.take (gs.length-i)=gs.take (gs.length-(i+1))++[gs[gs.length-(i+1)]'(by lia)]:=by
   conv=>lhs;rw[show gs.length-i=gs.length-(i+1)+1 by lia]
   rw[List.take_add_one,List.getElem?_eq_getElem (by lia)];rfl
  rw[e1,<- List.append_assoc]at wk'
  refine⟨_,rfl,x,C,dx,_,_,rfl,wk'.at_,Zad,N.found,lkf l r,.inl ⟨rfl,_,SqL.of wk'.fd⟩,r,_,gs[gs.length-(i+1)]'(by lia),rfl,rfl,wk'.fd,last_cat _ _,?_⟩
  rw[List.dropLast_concat]
  refine⟨m-1,by lia,by lia,?_,fun b o n1 n2 e=>by rw[upd_ne n2];exact ex b o n1 n2 e,wk'.setF _⟩
  rw[List.take_add_one,List.getElem?_reverse (by lia),List.getElem?_eq_getElem (by lia)]
  show _=_++[gs[gs.length-1-i]'(by lia)]
  congr 3
  lia
 ·refine .inl ⟨(by show ((gs.length:Int)).toNat<=i;lia),fun t ht=>?_⟩
  obtain rfl:i=gs.length:=by lia
  rw[Nat.sub_self,List.take_zero,List.append_nil]at wk'
  rw[List.take_of_length_le (by rw[List.length_reverse];exact Nat.le_refl _)]
  refine⟨_,rfl,t,_,rfl,SqL.of upd_same,fun q hq=>?_⟩
  rw[List.reverse_reverse]
  have s1:=(same_new ht (.lst gs.reverse)).trans (same_new hq (.lst gs))
  have nq:q≠l/\q≠r:=⟨fun z=>(by rw[z,(wk'.keep (same_new ht _)).wt]at hq;cases hq),fun z=>(by rw[z,(wk'.keep (same_new ht _)).fd]at hq;cases hq)⟩
  refine fin q _ (fun b o n1 n2 e=>s1 _ _ (ex b o n1 n2 e)) ?_ upd_same (wk'.keep s1)
  cases e:H q with
  | none=>rfl
  | some u=>rw[same_new ht _ _ _ (ex q u nq.1 nq.2 e)]at hq;cases hq
end
end K21
end
section
namespace Kn
open PySem
theorem cnt_filter (v:Val) (l:List (Val×Int)):cnt v (l.filter fun q=>decide (q.2≠0))=cnt v l:=by
 induction l with
 | nil=>rfl
 | cons p l ih=>
  rw[List.filter_cons,cnt]
  by_cases c:p.2=0
  ·rw[if_neg (by simp [c]),ih]
   split <;> lia
  ·rw[if_pos (by simp [c]),cnt,ih]
theorem rise_zip {ys:List Val}{cs:List Int} (h:RiseV ys):Rise (ys.zip cs):=by
 induction ys generalizing cs with
 | nil=>exact .nil
 | cons y ys ih=>
  cases cs with
  | nil=>exact .nil
  | cons c cs=>
   have h':=List.pairwise_cons.mp h
   refine List.pairwise_cons.mpr ⟨fun q hq=>h'.1 q.1 (List.of_mem_zip hq).1,ih h'.2⟩
theorem bag_of_zip {xs:List (Val×Int)}{ys:List Val}{cs:List Int} (h:RiseV ys) (hc:∀ v,cnt v (ys.zip cs)=cnt v xs):IsBag xs ((ys.zip cs).filter fun q=>decide (q.2≠0)):=
 ⟨(rise_zip h).sublist List.filter_sublist,fun q hq=>by have:=(List.mem_filter.mp hq).2;simpa using this,fun v=>by rw[cnt_filter,hc]⟩
theorem bag_of_perm {xs:List (Val×Int)}{vs ys:List Val} (f:Val->Int) (hp:ys.Perm vs) (hr:RiseV ys) (hf:∀ v∈vs,f v=cnt v xs) (hn:∀ v,v ∉ vs->cnt v xs=0):IsBag xs ((ys.map fun y=>(y,f y)).filter fun q=>decide (q.2≠0)):=by
 have e:(ys.map fun y=>(y,f y))=ys.zip (ys.map f):=by
  clear hp hr
  induction ys with
  | nil=>rfl
  | cons y ys ih=>simp [ih]
 rw[e]
 refine bag_of_zip hr fun v=>?_
 rw[<- e]
 by_cases c:v∈vs
 ·have hy:v∈ys:=hp.mem_iff.mpr c
  have rs:Rise (ys.map fun y=>(y,f y)):=by rw[e];exact rise_zip hr
  have:=rs.cnt (p:=(v,f v)) (List.mem_map.mpr ⟨v,hy,rfl⟩)
  rw[this]
  exact hf v c
 ·rw[hn v c]
  refine cnt_none fun p hp' e'=>?_
  obtain⟨y,hy,rfl⟩:=List.mem_map.mp hp'
  exact c (e' ▸ hp.mem_iff.mp hy)
end Kn
end
section
namespace Kn
open PySem L2
mutual
def lk:Val->List Dt
 | .num i=>[.int 0,.int i]
 | .word s=>[.int 1,.str s]
 | .row ps=>[.int 2,.tup (lkR ps)]
 | .bag ps=>[.int 3,.tup (lkB ps)]
def lkR:List (Str×Val)->List Dt
 | []=>[]
 | p::ps=>.tup [.str p.1,.tup (lk p.2)]::lkR ps
def lkB:List (Val×Int)->List Dt
 | []=>[]
 | p::ps=>.tup [.tup (lk p.1),.int p.2]::lkB ps
end
theorem lkR_map (ps:List (Str×Val)):lkR ps=ps.map fun p=>.tup [.str p.1,.tup (lk p.2)]:=by
 induction ps with
 | nil=>rw[lkR];rfl
 | cons p ps ih=>rw[lkR,ih];rfl
theorem lkB_map (ps:List (Val×Int)):lkB ps=ps.map fun p=>.tup [.tup (lk p.1),.int p.2]:=by
 induction ps with
 | nil=>rw[lkB];rfl
 | cons p ps ih=>rw[lkB,ih];rfl
mutual
theorem lk_inj:∀ (x y:Val),lk x=lk y->x=y
 | .num i,y,h=>by cases y <;> simp [lk]at h;rw[h]
 | .word i,y,h=>by cases y <;> simp [lk]at h;rw[h]
 | .row ps,y,h=>by
  cases y <;> simp [lk]at h
  rw[lkR_inj ps _ h]
 | .bag ps,y,h=>by
  cases y <;> simp [lk]at h
  rw[lkB_inj ps _ h]
theorem lkR_inj:∀ (ps qs:List (Str×Val)),lkR ps=lkR qs->ps=qs
 | [],qs,h=>by
  cases qs with
  | nil=>rfl
  | cons q qs=>simp [lkR]at h
 | p::ps,qs,h=>by
  cases qs with
  | nil=>simp [lkR]at h
  | cons q qs=>
   simp only[lkR,List.cons.injEq,Dt.tup.injEq,Dt.str.injEq,and_true]at h
   rw[lkR_inj ps qs h.2,Prod.ext h.1.1 (lk_inj p.2 q.2 h.1.2)]
theorem lkB_inj:∀ (ps qs:List (Val×Int)),lkB ps=lkB qs->ps=qs
 | [],qs,h=>by
  cases qs with
  | nil=>rfl
  | cons q qs=>simp [lkB]at h
 | p::ps,qs,h=>by
  cases qs with
  | nil=>simp [lkB]at h
  | cons q qs=>
   simp only[lkB,List.cons.injEq,Dt.tup.injEq,Dt.int.injEq,and_true]at h
   rw[lkB_inj ps qs h.2,Prod.ext (lk_inj p.1 q.1 h.1.1) h.1.2]
end
theorem lt_same (d:Dt) (as bs:List Dt):ltDs (d::as) (d::bs)=ltDs as bs:=by rw[ltDs];rw[if_pos rfl]
theorem lt_ne {d e:Dt} (h:d≠e) (as bs:List Dt):ltDs (d::as) (e::bs)=ltD d e:=by rw[ltDs];rw[if_neg h]
theorem lt_nil:ltDs [] []=some false:=by rw[ltDs];simp
theorem lt_one (as bs:List Dt):ltDs [.tup as] [.tup bs]=if as=bs then some false else ltDs as bs:=by
 by_cases h:as=bs
 ·subst h;rw[lt_same,if_pos rfl,lt_nil]
 ·rw[lt_ne (fun z=>h (by injection z)),if_neg h,ltD]
theorem lt_rank {i j:Int} (h:i≠j) (as bs:List Dt):ltDs (.int i::as) (.int j::bs)=some (decide (i<j)):=by rw[lt_ne (fun z=>h (by injection z)),ltD]
mutual
theorem lt_lk:∀ (x y:Val),ltDs (lk x) (lk y)=some (if x=y then false else ltV x y)
 | .num i,y=>by
  cases y with
  | num j=>
   rw[lk,lk,lt_same]
   by_cases h:i=j
   ·subst h;rw[lt_same,if_pos rfl,lt_nil]
   ·rw[lt_rank h,if_neg (fun z=>h (by injection z)),ltV]
  | word j=>rw[lk,lk,lt_rank (by decide),if_neg (by intro z;cases z)];simp [ltV,rank]
  | row j=>rw[lk,lk,lt_rank (by decide),if_neg (by intro z;cases z)];simp [ltV,rank]
  | bag j=>rw[lk,lk,lt_rank (by decide),if_neg (by intro z;cases z)];simp [ltV,rank]
 | .word i,y=>by
  cases y with
  | num j=>rw[lk,lk,lt_rank (by decide),if_neg (by intro z;cases z)];simp [ltV,rank]
  | word j=>
   rw[lk,lk,lt_same]
   by_cases h:i=j
   ·subst h;rw[lt_same,if_pos rfl,lt_nil]
   ·rw[lt_ne (fun z=>h (by injection z)),ltD,if_neg (fun z=>h (by injection z)),ltV]
  | row j=>rw[lk,lk,lt_rank (by decide),if_neg (by intro z;cases z)];simp [ltV,rank]
  | bag j=>rw[lk,lk,lt_rank (by decide),if_neg (by intro z;cases z)];simp [ltV,rank]
 | .row ps,y=>by
  cases y with
  | num j=>rw[lk,lk,lt_rank (by decide),if_neg (by intro z;cases z)];simp [ltV,rank]
  | word j=>rw[lk,lk,lt_rank (by decide),if_neg (by intro z;cases z)];simp [ltV,rank]
  | row qs=>
   rw[lk,lk,lt_same,lt_one]
   by_cases h:ps=qs
   ·rw[if_pos (by rw[h]),if_pos (by rw[h])]
   ·rw[if_neg (fun z=>h (lkR_inj _ _ z)),if_neg (fun z=>h (by injection z)),lt_lkR ps qs,if_neg h,ltV]
  | bag j=>rw[lk,lk,lt_rank (by decide),if_neg (by intro z;cases z)];simp [ltV,rank]
 | .bag ps,y=>by
  cases y with
  | num j=>rw[lk,lk,lt_rank (by decide),if_neg (by intro z;cases z)];simp [ltV,rank]
  | word j=>rw[lk,lk,lt_rank (by decide),if_neg (by intro z;cases z)];simp [ltV,rank]
  | row j=>rw[lk,lk,lt_rank (by decide),if_neg (by intro z;cases z)];simp [ltV,rank]
  | bag qs=>
   rw[lk,lk,lt_same,lt_one]
   by_cases h:ps=qs
   ·rw[if_pos (by rw[h]),if_pos (by rw[h])]
   ·rw[if_neg (fun z=>h (lkB_inj _ _ z)),if_neg (fun z=>h (by injection z)),lt_lkB ps qs,if_neg h,ltV]
theorem lt_lkR:∀ (ps qs:List (Str×Val)),ltDs (lkR ps) (lkR qs)=some (if ps=qs then false else ltR ps qs)
 | [],qs=>by
  cases qs with
  | nil=>rw[lkR,lt_nil,if_pos rfl]
  | cons q qs=>rw[lkR,lkR,ltDs,if_neg (by intro z;cases z),ltR];simp
 | p::ps,qs=>by
  cases qs with
  | nil=>rw[lkR,lkR,ltDs,if_neg (by intro z;cases z),ltR]
  | cons q qs=>
   rw[lkR,lkR]
   by_cases h:p=q
   ·subst h
    rw[lt_same,lt_lkR ps qs,ltR,if_pos (rfl:p=p)]
    by_cases h2:ps=qs
    ·rw[if_pos h2,if_pos (by rw[h2])]
    ·rw[if_neg h2,if_neg (fun z=>h2 (by injection z))]
   ·have hh:Dt.tup [.str p.1,.tup (lk p.2)]≠Dt.tup [.str q.1,.tup (lk q.2)]:=fun z=>h (by
     simp only[Dt.tup.injEq,List.cons.injEq,Dt.str.injEq,and_true]at z
     exact Prod.ext z.1 (lk_inj _ _ z.2))
    rw[lt_ne hh,ltD,if_neg (fun z=>h (by injection z)),ltR,if_neg h]
    skip
    by_cases h1:p.1=q.1
    ·rw[h1,lt_same,lt_one,if_pos rfl]
     have h2:p.2≠q.2:=fun z=>h (Prod.ext h1 z)
     rw[if_neg (fun z=>h2 (lk_inj _ _ z)),lt_lk p.2 q.2,if_neg h2]
    ·rw[lt_ne (fun z=>h1 (by injection z)),ltD,if_neg h1]
theorem lt_lkB:∀ (ps qs:List (Val×Int)),ltDs (lkB ps) (lkB qs)=some (if ps=qs then false else ltB ps qs)
 | [],qs=>by
  cases qs with
  | nil=>rw[lkB,lt_nil,if_pos rfl]
  | cons q qs=>rw[lkB,lkB,ltDs,if_neg (by intro z;cases z),ltB];simp
 | p::ps,qs=>by
  cases qs with
  | nil=>rw[lkB,lkB,ltDs,if_neg (by intro z;cases z),ltB]
  | cons q qs=>
   rw[lkB,lkB]
   by_cases h:p=q
   ·subst h
    rw[lt_same,lt_lkB ps qs,ltB,if_pos (rfl:p=p)]
    by_cases h2:ps=qs
    ·rw[if_pos h2,if_pos (by rw[h2])]
    ·rw[if_neg h2,if_neg (fun z=>h2 (by injection z))]
   ·have hh:Dt.tup [.tup (lk p.1),.int p.2]≠Dt.tup [.tup (lk q.1),.int q.2]:=fun z=>h (by
     simp only[Dt.tup.injEq,List.cons.injEq,Dt.int.injEq,and_true]at z
     exact Prod.ext (lk_inj _ _ z.1) z.2)
    rw[lt_ne hh,ltD,if_neg (fun z=>h (by injection z)),ltB,if_neg h]
    skip
    by_cases h1:p.1=q.1
    ·rw[h1,lt_same,if_pos rfl,lt_rank (fun z=>h (Prod.ext h1 z))]
    ·rw[lt_ne (fun z=>h1 (lk_inj _ _ (by injection z))),ltD,lt_lk p.1 q.1,if_neg h1,if_neg h1]
end
theorem lt_lkA (x y:Val):ltDs (lk x) (lk y)=some (aheadB x y):=lt_lk x y
def tri (p:Val×Int):List Dt:=[.tup (lk p.1),dat p.1,.int p.2]
theorem lt_tri (p q:Val×Int):ltDs (tri p) (tri q)=some (if p.1=q.1 then decide (p.2<q.2) else aheadB p.1 q.1):=by
 unfold tri
 by_cases h:p.1=q.1
 ·rw[h,lt_same,lt_same,if_pos rfl]
  by_cases h2:p.2=q.2
  ·rw[h2,lt_same,lt_nil];simp
  ·rw[lt_rank h2]
 ·rw[lt_ne (fun z=>h (lk_inj _ _ (by injection z))),ltD,lt_lkA,if_neg h]
mutual
theorem dep_lk:∀ (x:Val),depL (lk x)<=(key x).length/\(dat x).dep<=(key x).length
 | .num i=>by simp [lk,dat,key,depL,Dt.dep]
 | .word i=>by simp [lk,dat,key,depL,Dt.dep]
 | .row ps=>by have:=dep_lkR ps;simp only[lk,dat,key,depL,Dt.dep,List.length_cons];lia
 | .bag ps=>by have:=dep_lkB ps;simp only[lk,dat,key,depL,Dt.dep,List.length_cons];lia
theorem dep_lkR:∀ (ps:List (Str×Val)),depL (lkR ps)<=(keyR ps).length/\depL (datR ps)+1<=(keyR ps).length
 | []=>by simp [lkR,datR,keyR,depL]
 | p::ps=>by
  have h1:=dep_lk p.2
  have h2:=dep_lkR ps
  simp only[lkR,datR,keyR,depL,Dt.dep,List.length_cons,List.length_append]
  lia
theorem dep_lkB:∀ (ps:List (Val×Int)),depL (lkB ps)<=(keyB ps).length/\depL (datB ps)+1<=(keyB ps).length
 | []=>by simp [lkB,datB,keyB,depL]
 | p::ps=>by
  have h1:=dep_lk p.1
  have h2:=dep_lkB ps
  simp only[lkB,datB,keyB,depL,Dt.dep,List.length_cons,List.length_append]
  lia
end
def Weak (zs:List (Val×Int)):Prop:=zs.Pairwise fun p q=>aheadB q.1 p.1=false
structure Mg (zs fs:List (Val×Int)):Prop where
 rise:Rise fs
 cnt:∀ v,cnt v fs=Kn.cnt v zs
 last:(fs.getLast?).map (·.1)=(zs.getLast?).map (·.1)
 src:∀ q∈fs,∃ r∈zs,q.1=r.1
theorem mg_nil:Mg [] []:=⟨.nil,fun _=>rfl,rfl,fun _ h=>nomatch h⟩
theorem Mg.new {zs fs:List (Val×Int)}{z:Val×Int} (h:Mg zs fs) (w:Weak (zs++[z])) (n:∀ q,fs.getLast?=some q->q.1≠z.1):Mg (zs++[z]) (fs++[z]):=by
 refine⟨?_,fun v=>by rw[cnt_append,cnt_append,h.cnt],by simp,fun q hq=>?_⟩
 ·refine List.pairwise_append.mpr ⟨h.rise,List.pairwise_singleton _ _,fun a ha b hb=>?_⟩
  rw[List.mem_singleton.mp hb]
  cases e:fs.getLast? with
  | none=>rw[List.getLast?_eq_none_iff.mp e]at ha;cases ha
  | some l=>
   have el:=h.last
   rw[e]at el
   cases e2:zs.getLast? with
   | none=>rw[e2]at el;cases el
   | some y=>
    rw[e2]at el
    have ly:l.1=y.1:=by injection el
    have hy:y∈zs:=List.mem_of_getLast? e2
    have wz:=(List.pairwise_append.mp w).2.2 y hy z (List.mem_singleton.mpr rfl)
    have ne:=n l e
    have al:aheadB l.1 z.1=true:=by
     rw[ly]at ne ⊢
     have:=ahead_total (x:=z.1) (y:=y.1) (Ne.symm ne)
     rw[this,wz];rfl
    obtain⟨gs,rfl⟩:∃ gs,fs=gs++[l]:=List.getLast?_eq_some_iff.mp e
    rcases List.mem_append.mp ha with ha | ha
    ·exact ahead_trans ((List.pairwise_append.mp h.rise).2.2 a ha l (List.mem_singleton.mpr rfl)) al
    ·rw[List.mem_singleton.mp ha];exact al
 ·rcases List.mem_append.mp hq with hq | hq
  ·obtain⟨r,hr,e⟩:=h.src q hq
   exact⟨r,List.mem_append_left _ hr,e⟩
  ·exact⟨z,List.mem_append_right _ (List.mem_singleton.mpr rfl),by rw[List.mem_singleton.mp hq]⟩
theorem Mg.add {zs gs:List (Val×Int)}{l z:Val×Int} (h:Mg zs (gs++[l])) (e:l.1=z.1):Mg (zs++[z]) (gs++[(z.1,z.2+l.2)]):=by
 refine⟨?_,fun v=>?_,by simp,fun q hq=>?_⟩
 ·obtain⟨h1,_,h3⟩:=List.pairwise_append.mp h.rise
  refine List.pairwise_append.mpr ⟨h1,List.pairwise_singleton _ _,fun a ha b hb=>?_⟩
  rw[List.mem_singleton.mp hb]
  have:=h3 a ha l (List.mem_singleton.mpr rfl)
  rw[e]at this
  exact this
 ·have:=h.cnt v
  rw[cnt_append]at this
  rw[cnt_append,cnt_append,<- this]
  simp only[Kn.cnt,e]
  split <;> lia
 ·rcases List.mem_append.mp hq with hq | hq
  ·obtain⟨r,hr,e⟩:=h.src q (List.mem_append_left _ hq)
   exact⟨r,List.mem_append_left _ hr,e⟩
  ·exact⟨z,List.mem_append_right _ (List.mem_singleton.mpr rfl),by rw[List.mem_singleton.mp hq]⟩
theorem Mg.bag {xs zs fs:List (Val×Int)} (h:Mg zs fs) (p:zs.Perm xs):IsBag xs (fs.filter fun q=>decide (q.2≠0)):=
 ⟨h.rise.sublist List.filter_sublist,fun q hq=>by have:=(List.mem_filter.mp hq).2;simpa using this,fun v=>by rw[cnt_filter,h.cnt,cnt_perm v p]⟩
def srt (xs:List (Val×Int)) (p:List Nat):List (Val×Int):=p.map fun i=>xs.getD i (.num 0,0)
theorem srt_perm {xs:List (Val×Int)}{p:List Nat} (h:p.Perm (List.range xs.length)):(srt xs p).Perm xs:=by
 have:=h.map fun i=>xs.getD i (.num 0,0)
 have e:(List.range xs.length).map (fun i=>xs.getD i (.num 0,0))=xs:=by
  refine List.ext_getElem (by simp) fun i h1 h2=>?_
  rw[List.getElem_map,List.getElem_range,List.getD_eq_getElem?_getD,List.getElem?_eq_getElem h2];rfl
 rw[e]at this
 exact this
theorem srt_weak {xs:List (Val×Int)}{p:List Nat} (h:p.Perm (List.range xs.length)) (r:Rsn (xs.map tri) p):Weak (srt xs p):=by
 have lp:p.length=xs.length:=by rw[h.length_eq,List.length_range]
 unfold Weak srt
 rw[List.pairwise_iff_getElem]
 intro i j hi hj hij
 rw[List.length_map]at hi hj
 rw[List.getElem_map,List.getElem_map]
 have q:=r i j hij (by rw[List.length_map];lia)
 have e:∀ (k:Nat) (hk:k<p.length),(xs.map tri).getD (p.getD k 0) []=tri (xs.getD p[k] (.num 0,0)):=fun k hk=>by
  have hm:p[k]<xs.length:=List.mem_range.mp (h.mem_iff.mp (List.getElem_mem hk))
  rw[List.getD_eq_getElem?_getD (l:=p),List.getElem?_eq_getElem hk]
  show (xs.map tri).getD p[k] []=_
  rw[List.getD_eq_getElem?_getD,List.getElem?_map,List.getElem?_eq_getElem hm,List.getD_eq_getElem?_getD,List.getElem?_eq_getElem hm]
  rfl
 rw[e i hi,e j hj,lt_tri]at q
 injection q with q
 by_cases c:(xs.getD p[j] (.num 0,0)).1=(xs.getD p[i] (.num 0,0)).1
 ·rw[c];exact ahead_irrefl _
 ·rw[if_neg c]at q;exact q
end Kn
end
section
namespace Kn
open PySem L2
abbrev Ev0:=Str->Option Val
def EMP:Val:=.bag []
def own (w:Str):Prop:=w=Str.ofString "num"\/w=Str.ofString "word"\/w=Str.ofString "var"\/w=Str.ofString "table"\/w=Str.ofString "for"\/w=Str.ofString "let"\/w=Str.ofString "when"
def wOf:Tr->Str
 | .row _=>Str.ofString "row"
 | .node w _ _=>w
noncomputable def theBag (xs:List (Val×Int)):List (Val×Int):=@dite _ (∃ qs,IsBag xs qs) (Classical.propDecidable _) (fun h=>Classical.choose h) fun _=>[]
theorem theBag_of {xs ys qs:List (Val×Int)} (h:IsBag ys qs) (e:∀ v,cnt v ys=cnt v xs):qs=theBag xs:=by
 have h':IsBag xs qs:=⟨h.1,h.2.1,fun v=>by rw[h.2.2,e]⟩
 have he:∃ q,IsBag xs q:=⟨qs,h'⟩
 unfold theBag
 rw[dif_pos he]
 exact bag_unique h' (Classical.choose_spec he) fun _=>rfl
theorem rise_ex:∀ vs:List Val,∃ ys,RiseV ys/\(∀ v,v∈ys ↔ v∈vs)/\ys.length<=vs.length
 | []=>⟨[],.nil,fun _=>Iff.rfl,Nat.le_refl _⟩
 | v::vs=>by
  obtain⟨ys,h1,h2,h3⟩:=rise_ex vs
  by_cases hv:v∈ys
  ·exact⟨ys,h1,fun u=>⟨fun h=>List.mem_cons_of_mem _ ((h2 u).mp h),fun h=>(List.mem_cons.mp h).elim (fun e=>e ▸ hv) (h2 u).mpr⟩,Nat.le_succ_of_le h3⟩
  ·refine⟨_,rise_put h1 hv,fun u=>?_,?_⟩
   ·rw[List.mem_append,List.mem_cons,List.mem_cons,<- h2 u]
    conv=>rhs;rw[<- List.take_append_drop (nAhead v ys) ys,List.mem_append]
    exact⟨fun h=>h.elim (fun h=>.inr (.inl h)) fun h=>h.elim .inl fun h=>.inr (.inr h),fun h=>h.elim (fun h=>.inr (.inl h)) fun h=>h.elim .inl fun h=>.inr (.inr h)⟩
   ·have:(ys.take (nAhead v ys)).length+(ys.drop (nAhead v ys)).length=ys.length:=by rw[<- List.length_append,List.take_append_drop]
    rw[List.length_append,List.length_cons,List.length_cons]
    lia
theorem theBag_ok (xs:List (Val×Int)):IsBag xs (theBag xs)/\(theBag xs).length<=xs.length/\∀ q∈theBag xs,∃ r∈xs,q.1=r.1:=by
 obtain⟨ys,h1,h2,h3⟩:=rise_ex (xs.map (·.1))
 have hb:IsBag xs ((ys.map fun y=>(y,cnt y xs)).filter fun q=>decide (q.2≠0)):=bag_of_perm (fun v=>cnt v xs) (List.Perm.refl ys) h1 (fun _ _=>rfl) fun v hv=>cnt_none fun p hp e=>hv ((h2 v).mpr (List.mem_map.mpr ⟨p,hp,e⟩))
 have e:=theBag_of hb fun _=>rfl
 rw[<- e]
 refine⟨hb,Nat.le_trans (List.length_filter_le _ _) (by rw[List.length_map];exact Nat.le_trans h3 (by rw[List.length_map];exact Nat.le_refl _)),fun q hq=>?_⟩
 obtain⟨y,hy,rfl⟩:=List.mem_map.mp (List.mem_filter.mp hq).1
 obtain⟨r,hr,e⟩:=List.mem_map.mp ((h2 y).mp hy)
 exact⟨r,hr,e.symm⟩
theorem cnt_cons (v:Val) (p:Val×Int) (l:List (Val×Int)):cnt v (p::l)=(if p.1=v then p.2 else 0)+cnt v l:=by
 have:=cnt_append v [p] l
 simp only[List.cons_append,List.nil_append]at this
 rw[this]
 simp [cnt]
theorem cnt_mul (v:Val) (c:Int):∀ l:List (Val×Int),cnt v (l.map fun r=>(r.1,c * r.2))=c * cnt v l
 | []=>by simp [cnt]
 | p::l=>by
  rw[List.map_cons,cnt_cons,cnt_cons,cnt_mul v c l,Int.mul_add]
  congr 1
  show (if p.1=v then c * p.2 else 0)=_
  split
  ·rfl
  ·rw[Int.mul_zero]
theorem cnt_mulR (v:Val) (c:Int) (l:List (Val×Int)):cnt v (l.map fun r=>(r.1,r.2 * c))=cnt v l * c:=by
 rw[Int.mul_comm,<- cnt_mul]
 congr 1
 exact List.map_congr_left fun r _=>by rw[Int.mul_comm]
theorem cnt_le (v:Val) {M:Nat}:∀ l:List (Val×Int),(∀ p∈l,p.2.natAbs<=M)->(cnt v l).natAbs<=l.length * M
 | [],_=>by simp [cnt]
 | p::l,h=>by
  have h1:=cnt_le v l fun q hq=>h q (List.mem_cons_of_mem _ hq)
  have h2:=h p List.mem_cons_self
  rw[cnt_cons,List.length_cons,Nat.add_mul,Nat.one_mul]
  split <;> lia
theorem bag_cnt {xs qs:List (Val×Int)} (h:IsBag xs qs) {q:Val×Int} (hq:q∈qs):q.2=cnt q.1 xs:=((bag_mem h q).mp hq).2.symm
end Kn
end
section
namespace L2
open PySem PySem.Spec PyProof.Rows PySem.W Kn
def keD:KE->Dt
 | .i n=>.int n
 | .s x=>.str x
theorem keD_inj {a b:KE} (h:keD a=keD b):a=b:=by
 cases a <;> cases b <;> first | (injection h with h;rw[h]) | cases h
theorem ltDs_K:∀ (a c:List KE) (r:Bool),cmpK a c=some r->ltDs (a.map keD) (c.map keD)=some r
 | [],[],r,h=>by rw[cmpK]at h;cases h;simp [ltDs]
 | [],c::cs,r,h=>by rw[cmpK]at h;cases h;simp [ltDs]
 | a::as,[],r,h=>by rw[cmpK]at h;cases h;simp [ltDs]
 | a::as,c::cs,r,h=>by
  rw[List.map_cons,List.map_cons,ltDs]
  rw[cmpK]at h
  by_cases e:a=c
  ·rw[if_pos e]at h
   rw[if_pos (by rw[e])]
   exact ltDs_K as cs r h
  ·rw[if_neg e]at h
   rw[if_neg fun z=>e (keD_inj z)]
   cases a with
   | i m=>
    cases c with
    | i n=>cases h;rw[keD,keD,ltD]
    | s y=>cases h
   | s x=>
    cases c with
    | i n=>cases h
    | s y=>cases h;rw[keD,keD,ltD]
theorem isDts_K {H:Hp}:∀ (l:List KE),IsDts H (l.map keD) (l.map kv)
 | []=>.nil
 | .i n::l=>.cons (isDt_int _) (isDts_K l)
 | .s x::l=>.cons (isDt_str _) (isDts_K l)
theorem depL_K:∀ (l:List KE),depL (l.map keD)<=1
 | []=>by simp [depL]
 | .i n::l=>by have:=depL_K l;simp [depL,keD,Dt.dep];lia
 | .s x::l=>by have:=depL_K l;simp [depL,keD,Dt.dep];lia
def kds (xs:List Val):List (List Dt):=xs.map fun x=>(key x).map keD
theorem sortable_K (xs:List Val):Sortable "int" (kds xs):=by
 refine⟨fun d hd=>?_,fun d hd e he=>?_,fun d hd=>?_⟩
 ·obtain⟨x,_,rfl⟩:=List.mem_map.mp hd
  have hk:∃ m ks,key x=.i m::ks:=by cases x <;> exact⟨_,_,by rw[key]⟩
  obtain⟨m,ks,ek⟩:=hk
  rw[ek]
  exact⟨_,_,rfl,rfl⟩
 ·obtain⟨x,_,rfl⟩:=List.mem_map.mp hd
  obtain⟨y,_,rfl⟩:=List.mem_map.mp he
  rw[ltDs_K _ _ _ (cmp_keys x y)];rfl
 ·obtain⟨x,_,rfl⟩:=List.mem_map.mp hd
  exact Nat.le_trans (depL_K _) (by decide)
theorem rise_K {xs:List Val}{p:List Nat} (nd:xs.Nodup) (h:p.Perm (List.range xs.length)) (r:Rsn (kds xs) p):RiseV (p.map (vAt xs)):=by
 have lp:p.length=xs.length:=by rw[h.length_eq,List.length_range]
 have nd':p.Nodup:=h.nodup_iff.mpr List.nodup_range
 rw[RiseV,List.pairwise_iff_getElem]
 intro i j hi hj hij
 rw[List.length_map]at hi hj
 rw[List.getElem_map,List.getElem_map]
 have mi:p[i]<xs.length:=List.mem_range.mp (h.mem_iff.mp (List.getElem_mem hi))
 have mj:p[j]<xs.length:=List.mem_range.mp (h.mem_iff.mp (List.getElem_mem hj))
 have q:=r i j hij (by unfold kds;rw[List.length_map];lia)
 have e:∀ (k:Nat) (hk:k<p.length),p[k]<xs.length->(kds xs).getD (p.getD k 0) []=(key (vAt xs p[k])).map keD:=fun k hk hm=>by
  rw[List.getD_eq_getElem?_getD (l:=p),List.getElem?_eq_getElem hk]
  show (kds xs).getD p[k] []=_
  rw[List.getD_eq_getElem?_getD,kds,List.getElem?_map,List.getElem?_eq_getElem hm,vAt_eq hm]
  rfl
 rw[e i hi mi,e j hj mj,ltDs_K _ _ _ (cmp_keys _ _)]at q
 have ne:vAt xs p[i]≠vAt xs p[j]:=by
  rw[vAt_eq mi,vAt_eq mj]
  intro z
  have:=(List.getElem_inj nd).mp z
  have:=(List.getElem_inj nd').mp this
  lia
 have:=ahead_total (x:=vAt xs p[j]) (y:=vAt xs p[i]) (Ne.symm ne)
 injection q with q
 rw[this,q];rfl
theorem perm_K {xs:List Val}{p:List Nat} (h:p.Perm (List.range xs.length)):(p.map (vAt xs)).Perm xs:=by
 have:=h.map (vAt xs)
 have e:(List.range xs.length).map (vAt xs)=xs:=by
  refine List.ext_getElem (by simp) fun i h1 h2=>?_
  rw[List.getElem_map,List.getElem_range,vAt_eq h2]
 rwa [e]at this
section
variable {X:Cx}
def rSortTL:List V->Hp->VK->Prop:=fun ws H Q=>∃ (a:Addr) (kvs:List (List Key×V)) (xs:List Kn.Val),ws=[.ref a]/\H a=some (.dT kvs)/\kvs.map (·.1)=xs.map (fun x=>(key x).map kk)/\xs.Nodup/\xs.length<=100000 /\
 ∀ (p:Addr) (bs:List V) (ys:List Kn.Val),H p=none->ys.Perm xs->RiseV ys->bs.length=ys.length->(∀ (i:Nat) (y:Kn.Val),ys[i]?=some y->∃ b:Addr,bs[i]?=some (V.ref b)/\H b=some (.tup ((key y).map kv)))->Q (.ref p) (upd H p (.lst bs))
theorem call_sortTL (hc:X.calm=true) (hu:X.A.units+110<cLine):CallR X (.builtin "sorted") rSortTL:=by
 intro pins s σ H ws us Q I r h
 obtain⟨a,kvs,xs,rfl,ha,hk,nd,hL,q⟩:=h
 obtain⟨u,rfl,ru⟩:=r.one
 cases ru
 have hh:=I.ok.hd hc
 obtain⟨z,hd,ts,rel,ob,es,ep,o1,o2,o3,o4,_⟩:=dt_of I.hok ha
 have raw:DRaw s.heap a es ep:=⟨ob,o1,o2,o3⟩
 have lk:kvs.length=xs.length:=by have:=congrArg List.length hk;simpa using this
 have lt:kvs.length=ts.length:=Paired.length rel
 have le:es.size=ts.length:=by rw[<- Array.length_toList,o4,List.length_map]
 refine Calls.call_function_entry kind_sorted plain_sorted entry_sorted (args_sorted1 _) ?_
 unfold Builtin.«sorted»
 refine wpAny_bind (m:=checkCount "sorted" 1 1 _) (wpAny_pure ?_)
 refine wpAny_bind (kdu_collect (A:=X.A.in1) (kdl_raw hd) hh raw (by rw[le,<- lt];exact z) fun h' tk acc keep items=>?_)
 have hl:acc.toList.length=es.size:=by rw[Array.length_toList];exact items.1
 have I1:Inv X pins σ H { s with heap:=h',toks:=tk }:=I.kept keep
 have ref:∀ (i:Nat) (x:Kn.Val),xs[i]?=some x->∃ b:Addr,acc.toList[i]?=some (Value.ref b)/\H b=some (.tup ((key x).map kv)):=fun i x hx=>by
  have hi:i<xs.length:=(List.getElem?_eq_some_iff.mp hx).1
  have hi2:i<acc.toList.length:=by rw[hl,le,<- lt,lk];exact hi
  obtain⟨e,he,hv⟩:=items.2 i acc.toList[i] (by rw[<- Array.getElem?_toList,List.getElem?_eq_getElem hi2])
  have he':ts[i]?.map (entryOfKey (tupleKind (mixKind X.prog X.w)))=some e:=by rw[<- he,<- Array.getElem?_toList,o4,List.getElem?_map]
  obtain⟨t,ht,et⟩:=Option.map_eq_some_iff.mp he'
  obtain⟨p,hp,ep',hH⟩:=kt_get rel ht
  have kx:p.1=(key x).map kk:=by
   have:=congrArg (fun l=>l[i]?) hk
   simp only[List.getElem?_map,hp,hx,Option.map_some]at this
   injection this
  refine⟨t.2.1,by rw[List.getElem?_eq_getElem hi2,hv,<- et];rfl,?_⟩
  rw[<- map_kk,<- kx];exact hH
 have hal:acc.toList.length=xs.length:=by rw[hl,le,<- lt,lk]
 -- the keys as they are held
 obtain⟨bs,rv,hD⟩:∃ bs:List V,Vals bs acc.toList/\∀ (i:Nat) (x:Kn.Val),xs[i]?=some x->∃ b:Addr,bs[i]?=some (V.ref b)/\H b=some (.tup ((key x).map kv)):=by
  have key':∀ (k:Nat),k<=xs.length->∃ bs:List V,Vals bs (acc.toList.take k)/\∀ (i:Nat) (y:Kn.Val),i<k->xs[i]?=some y->∃ b:Addr,bs[i]?=some (V.ref b)/\H b=some (.tup ((key y).map kv)):=by
   intro k
   induction k with
   | zero=>intro _;exact⟨[],.nil,fun i y hi=>by lia⟩
   | succ k ih=>
    intro hk'
    obtain⟨bs,r1,r2⟩:=ih (by lia)
    have hy:xs[k]?=some xs[k]:=List.getElem?_eq_getElem (by lia)
    obtain⟨b,c1,c2⟩:=ref k _ hy
    have lb:bs.length=k:=by have:=r1.length;rw[List.length_take]at this;lia
    refine⟨bs++[.ref b],by rw[List.take_add_one,c1];exact r1.append (.cons rfl .nil),fun i y hi hy'=>?_⟩
    by_cases e:i=k
    ·subst e
     rw[hy]at hy'
     cases hy'
     exact⟨b,by rw[List.getElem?_append_right (by lia),lb];simp,c2⟩
    ·obtain⟨b',d1,d2⟩:=r2 i y (by lia) hy'
     exact⟨b',by rw[List.getElem?_append_left (by lia)];exact d1,d2⟩
  obtain⟨bs,r1,r2⟩:=key' xs.length (Nat.le_refl _)
  rw[List.take_of_length_le (by lia)]at r1
  exact⟨bs,r1,fun i y hy=>r2 i y (List.getElem?_eq_some_iff.mp hy).1 hy⟩
 have lb:bs.length=xs.length:=by rw[rv.length,hal]
 have hDs:IsDts H ((kds xs).map Dt.tup) bs:=by
  have gen:∀ (ys:List Val) (cs:List V),cs.length=ys.length->(∀ (i:Nat) (x:Kn.Val),ys[i]?=some x->∃ b:Addr,cs[i]?=some (V.ref b)/\H b=some (.tup ((key x).map kv)))->IsDts H ((kds ys).map Dt.tup) cs:=by
   intro ys
   induction ys with
   | nil=>intro cs hc _;have:=List.length_eq_zero_iff.mp hc;subst this;exact .nil
   | cons y ys ih=>
    intro cs hc hg
    cases cs with
    | nil=>simp at hc
    | cons c cs=>
     obtain⟨b,h1,h2⟩:=hg 0 y rfl
     have:c=.ref b:=by simpa using h1
     subst this
     exact .cons (isDt_tup h2 (isDts_K _)) (ih cs (by simpa using hc) fun i x hx=>hg (i+1) x (by simpa using hx))
  exact gen xs bs lb hD
 have lkd:(kds xs).length=xs.length:=by unfold kds;rw[List.length_map]
 refine sortD_tailL (A:=X.A.in1) (by show X.A.units+1+70<cLine;lia) I1 rv hDs (sortable_K xs) (by rw[lkd];exact hL) fun a p h1 h2 h3=>?_
 rw[lkd]at h2
 refine q a _ (p.map (vAt xs)) h1 (perm_K h2) (rise_K nd h2 h3) (by rw[List.length_map,List.length_map]) fun i y hy=>?_
 rw[List.getElem?_map]at hy
 obtain⟨k,hk1,hk2⟩:=Option.map_eq_some_iff.mp hy
 have hm:k<xs.length:=List.mem_range.mp (h2.mem_iff.mp (List.mem_of_getElem? hk1))
 obtain⟨b,e1,e2⟩:=hD k y (by rw[<- hk2,vAt_eq hm];exact List.getElem?_eq_getElem hm)
 refine⟨b,?_,e2⟩
 rw[List.getElem?_map,hk1]
 show some (bs.getD k V.non)=_
 rw[List.getD_eq_getElem?_getD,e1]
 rfl
end
end L2
end
section
namespace L2
open PySem PySem.Spec PyProof.Rows PySem.W Kn
def DSame (H:Hp) (a b:Addr):Prop:=∃ ka kb:List (Key×V),Rd H a (.dK ka)/\Rd H b (.dK kb)/\ka.length=kb.length/\∀ p∈ka,∃ y d,valV kb p.1=some y/\IsDt H d p.2/\IsDt H d y/\d.dep<=60
theorem kv_val {kvs:List (Key×V)}{vs:List (Key×Value)} (r:KV kvs vs) {k:Key}{y:V} (h:valV kvs k=some y):∃ u,valueAt vs k=some u/\RelV y u:=by
 induction r with
 | nil=>cases h
 | @cons p q l m hpq t ih=>
  by_cases e:p.1=k
  ·rw[valV_pos e]at h
   cases h
   exact⟨q.2,by simp [valueAt,List.find?_cons,<- hpq.1,e],hpq.2⟩
  ·rw[valV_neg e]at h
   obtain⟨u,h1,h2⟩:=ih h
   refine⟨u,?_,h2⟩
   have e':¬q.1=k:=by rw[<- hpq.1];exact e
   rw[<- h1]
   simp [valueAt,List.find?_cons,e']
theorem hits_of {P:Program}{w:World}{H:Hp}{s:Shared}{A:Around} (ok:HOk P w H s.heap) (hu:A.units+60<cLine) {kb:List (Key×V)}{vb:List (Key×Value)} (rb:KV kb vb) :
  ∀ {ka:List (Key×V)}{va:List (Key×Value)},KV ka va->(∀ p∈ka,∃ y d,valV kb p.1=some y/\IsDt H d p.2/\IsDt H d y/\d.dep<=60)->KeqHits A s vb va true
 | _,_,.nil,_=>.nil
 | p::ka,q::va,.cons hpq t,h=>by
  obtain⟨y,d,h1,h2,h3,h4⟩:=h p List.mem_cons_self
  obtain⟨u,e1,e2⟩:=kv_val rb h1
  have he:=eqAt_D 60 A s d d p.2 y q.2 u ok h4 hu h2 h3 hpq.2 e2
  rw[decide_eq_true rfl]at he
  have:=KeqHits.hit (k:=q.1) (by rw[<- hpq.1];exact e1) he (hits_of ok hu rb t fun p' hp'=>h p' (List.mem_cons_of_mem _ hp'))
  exact this
def EqIn (P:Program) (w:World) (A:Around) (s:Shared) (x y:Value):Prop:=∀ (E:Value->Shared->Prop) (Q:Bool->Shared->Prop),Q true s->wpAny (model P w) A (eqBool x y) Q E s
theorem eqIn_DS {P:Program}{w:World}{H:Hp}{s:Shared}{A:Around} (ok:HOk P w H s.heap) (hu:A.units+62<cLine) {a b:Addr} (h:DSame H a b):EqIn P w A s (.ref a) (.ref b):=by
 obtain⟨ka,kb,ha,hb,hl,hp⟩:=h
 obtain⟨z1,lo1,va,ra,da⟩:=dk_rd ok ha
 obtain⟨z2,lo2,vb,rb,db⟩:=dk_rd ok hb
 intro E Q q
 unfold eqBool
 refine wpAny_holding ?_
 refine wpAny_ite_split (fun _=>?_) (fun _=>?_)
 ·exact wpAny_pure (M:=model P w) (E:=E) q
 have hlv:va.length=vb.length:=by rw[<- ra.length,<- rb.length];exact hl
 refine wpAny_bind (keq_eq (knd:=mixKind P w) lo1 lo2 da db (by lia) (r:=true) (fun _=>hits_of ok (by show A.units+1+60<cLine;lia) rb ra hp) ?_)
 rw[hlv]
 refine wpAny_truthy_bool ?_
 simpa using q
section
open PySem.AutoSeq1 (wpAny_loadPart')
open PySem.MeetsSeq PySem.MeetsSeq2 PySem.MeetsSeq3 PySem.SeqAt
variable {P:Program}{w:World}{a b:Addr}{xs ys:Array Value}{ea eb:Nat}{da db:Option Addr}{sa sb:Array (Option Value)}
def SpLL (P:Program) (w:World) (a b:Addr) (xs ys:Array Value) (ea eb:Nat) (da db:Option Addr) (sa sb:Array (Option Value)):PySem.Spec:=fun A R s=>
 s.heap.get? a=some { cls:=.type "list",dict:=da,data:=.seq xs ea,slots:=sa }/\s.heap.get? b=some { cls:=.type "list",dict:=db,data:=.seq ys eb,slots:=sb }/\(∀ j (h1:j<xs.size) (h2:j<ys.size),EqIn P w A.in1 s xs[j] ys[j])/\R (.ok (.ret (.bool false))) s
theorem loopLL (hz:xs.size=ys.size):∀ (k i:Nat),xs.size-i=k->MeetsIn P w (Builtin.«list.__eq__.loop» ⟨[.ref a,.ref b,rawInt i,rawInt 3],[]⟩) (SpLL P w a b xs ys ea eb da db sa sb):=by
 intro k
 induction k with
 | zero=>
  intro i hk A R s ⟨h1,h2,h3,h4⟩
  obtain⟨hp,g,d,tk,os⟩:=s
  wp_walk using wpAny_loadPart' h1,wpAny_loadPart' h2
  have x1:xs[((i:Nat):Int).toNat]?=none:=by simp;lia
  have x2:ys[((i:Nat):Int).toNat]?=none:=by simp;lia
  rw[x1,x2]
  wp_walk using wpAny_loadPart' h1,wpAny_loadPart' h2
  show R (.ok (.ret (.bool (xs.size != ys.size)))) _
  rw[hz]
  simpa using h4
 | succ k ih=>
  intro i hk A R s ⟨h1,h2,h3,h4⟩
  obtain⟨hp,g,d,tk,os⟩:=s
  wp_walk using wpAny_loadPart' h1,wpAny_loadPart' h2
  have l1:i<xs.size:=by lia
  have l2:i<ys.size:=by lia
  have x1:xs[((i:Nat):Int).toNat]?=some xs[i]:=by simp [l1]
  have x2:ys[((i:Nat):Int).toNat]?=some ys[i]:=by simp [l2]
  have x3:((i:Int)+1)=((i+1:Nat):Int):=by lia
  rw[x1,x2]
  refine wpAny_bind (h3 i l1 l2 _ _ ?_)
  wp_walk
  rw[x3]
  exact⟨plainId_quiet plain_eq_loop _,codeAny_builtin entry_eq_loop (by
   rw[Around.under_plainId plain_eq_loop _];exact ih (i+1) (by lia) A R _ ⟨h1,h2,h3,h4⟩)⟩
theorem neLL (hz:xs.size=ys.size):MeetsIn P w (Builtin.«list.__ne__» ⟨[.ref a,.ref b],[]⟩) (SpLL P w a b xs ys ea eb da db sa sb):=by
 intro A R s ⟨h1,h2,h3,h4⟩
 obtain⟨hp,g,d,tk,os⟩:=s
 have f3:=AutoSeq1.sub_list_list
 have hne:¬(xs.size != ys.size)=true:=by simp [hz]
 wp_walk using wpAny_loadPart' h1,wpAny_loadPart' h2
 exact⟨plainId_quiet plain_eq_loop _,codeAny_builtin entry_eq_loop (by
  rw[Around.under_plainId plain_eq_loop _];exact loopLL hz _ 0 rfl A R _ ⟨h1,h2,h3,h4⟩)⟩
end
section
variable {X:Cx}
def rNeDD:R2:=fun x y H Q=>∃ a b,x=.ref a/\y=.ref b/\DSame H a b/\Q (.bl false) H
theorem op_neDD (hu:X.A.units+110<cLine):OpR X (compareOp .NotEq) rNeDD:=by
 intro pins s σ H x y v u Q I rx ry h
 obtain⟨a,b,rfl,rfl,⟨ka,kb,ha,hb,hl,hp⟩,q⟩:=h
 cases rx
 cases ry
 obtain⟨z1,lo1,va,ra,da⟩:=dk_rd I.hok ha
 obtain⟨z2,lo2,vb,rb,db⟩:=dk_rd I.hok hb
 have hlv:va.length=vb.length:=by rw[<- ra.length,<- rb.length];exact hl
 refine keq_ne (knd:=mixKind X.prog X.w) lo1 lo2 da db (by lia) (r:=true) (fun _=>hits_of I.hok (by show X.A.units+1+60<cLine;lia) rb ra hp) ⟨.bl false,H,I,?_,q⟩
 rw[hlv]
 simp [RelV]
def rNeLD:R2:=fun x y H Q=>∃ a b xs ys,x=.ref a/\y=.ref b/\H a=some (.lst xs)/\H b=some (.lst ys)/\xs.length=ys.length/\(∀ i:Nat,i<xs.length->∃ c d,xs[i]?=some (.ref c)/\ys[i]?=some (.ref d)/\DSame H c d)/\Q (.bl false) H
theorem op_neLD (hu:X.A.units+110<cLine):OpR X (compareOp .NotEq) rNeLD:=by
 intro pins s σ H x y v u Q I rx ry h
 obtain⟨a,b,xs,ys,rfl,rfl,ha,hb,hl,hs,q⟩:=h
 cases rx
 cases ry
 obtain⟨its,r,p,_⟩:=I.list (SqL.of ha)
 obtain⟨its2,r2,p2,_⟩:=I.list (SqL.of hb)
 have l1:its.toArray.size=xs.length:=by rw[List.size_toArray,<- r.length]
 have l2:its2.toArray.size=ys.length:=by rw[List.size_toArray,<- r2.length]
 obtain⟨⟨cls,dd,data,sl⟩,ho,hc,n,hd⟩:=id p.isList
 obtain⟨⟨cls2,dd2,data2,sl2⟩,ho2,hc2,n2,hd2⟩:=id p2.isList
 simp only at hc hd hc2 hd2
 subst hc hd hc2 hd2
 refine wpAny_richCompare_same_room (op:=.NotEq) ⟨_,ho,rfl⟩ ⟨_,ho2,rfl⟩ F.slot_list_ne (call_meetsIn F.slot_list_ne ⟨_,ho,rfl⟩ F.entry_list_ne (F.args_list_ne_2 _ _) (neLL (P:=X.prog) (w:=X.w) (by rw[l1,l2,hl])) ⟨ho,ho2,fun j h1 h2=>?_,?_⟩) (by lia)
 ·obtain⟨c,d,e1,e2,e3⟩:=hs j (by rw[<- l1];exact h1)
  obtain⟨u1,f1,q1⟩:=r.get e1
  obtain⟨u2,f2,q2⟩:=r2.get e2
  cases q1
  cases q2
  have w1:its.toArray[j]=.ref c:=by have:=(List.getElem?_eq_some_iff.mp f1).2;simpa using this
  have w2:its2.toArray[j]=.ref d:=by have:=(List.getElem?_eq_some_iff.mp f2).2;simpa using this
  rw[w1,w2]
  exact eqIn_DS I.hok (by show X.A.units+1+62<cLine;lia) e3
 ·exact⟨fun z=>(nomatch z),.bl false,H,I,rfl,q⟩
theorem op_neX (hu:X.A.units+110<cLine):OpR X (compareOp .NotEq) (fun x y H Q=>rNe x y H Q\/((∃ ds es,IsDt H (.tup ds) x/\IsDt H (.tup es) y/\depL ds<=depMax/\Q (.bl (!decide (ds=es))) H)\/(rNeL x y H Q\/(rNeDD x y H Q\/rNeLD x y H Q)))):=op_ne.or ((op_neD hu).or ((op_neL (by lia)).or ((op_neDD hu).or (op_neLD hu))))
end
end L2
end
section
namespace L2
open PySem PySem.Spec PyProof.Rows PySem.W Kn
section
variable {X:Cx}
def rDictF:List V->Hp->VK->Prop:=fun xs H Q=>∃ (a:Addr) (kvs:List (Key×V)),xs=[.ref a]/\Rd H a (.dK kvs)/\∀ p,H p=none->Q (.ref p) (upd H p (.dK kvs))
theorem call_dictF:CallR X (.type "dict") rDictF:=by
 intro pins s σ H xs us Q I r h
 obtain⟨a,kvs,rfl,ha,q⟩:=h
 obtain⟨u,rfl,ru⟩:=r.one
 cases ru
 obtain⟨z,lo,vs,rel,dd⟩:=dk_rd I.hok ha
 have hlen:kvs.length=vs.length:=rel.length
 refine kt_call_dict lo dd (by rw[<- hlen];exact z) fun h' hm hs=>?_
 have keep:∀ b o,s.heap.get? b=some o->h'.get? b=some o:=fun b o e=>hs.extBut b o (Nat.ne_of_lt (Heap.lt_size e)) (Heap.get?_push_of_some _ e)
 have big:(s.heap.objs.size == sysModules)=false:=by
  have:=I.big
  simp only[beq_eq_false_iff_ne]
  exact Nat.ne_of_gt this
 exact⟨.ref s.heap.objs.size,upd H s.heap.objs.size (.dK kvs),I.laid (t':=s.toks) keep (Nat.le_refl _) ⟨z,big,vs,rel,hm⟩,rfl,q _ I.fresh⟩
end
end L2
end
section
namespace K21
open PySem L2 Kn
inductive Res where
 | v (x:Val)
 | d (x:Val)
inductive Task where
 | begin (q:Tr)
 | fin (q:Tr) (n:Nat)
section
variable (F:Tr->List Res->Res->Prop) (E S:Ev0)
inductive Stp:Task->List Res->List Task->List Res->Prop
 | var {s:Str}{x:Val}{fs:List Res} (e:E s=some x):Stp (.begin (.node (Str.ofString "var") [.txt s] [])) fs [] (fs++[.d x])
 | table {s:Str}{x:Val}{fs:List Res} (e:S s=some x):Stp (.begin (.node (Str.ofString "table") [.txt s] [])) fs [] (fs++[.d x])
 | partB {q:Tr}{fs:List Res} (h:¬own (wOf q)):Stp (.begin q) fs (.fin q (kids q).length::(kids q).reverse.map .begin) fs
 | fin {q:Tr}{rs:List Res}{x:Res}{fs:List Res} (e:F q rs x):Stp (.fin q rs.length) (fs++rs) [] (fs++[x])
inductive Pend:List Task->List Res->Res->Nat->Prop
 | done {x:Res}:Pend [] [x] x 0
 | step {ts us:List Task}{t:Task}{fs gs:List Res}{x:Res}{m:Nat} (s:Stp F E S t fs us gs) (h:Pend (ts++us) gs x m):Pend (ts++[t]) fs x (m+1)
inductive Ev:Tr->Res->Nat->Prop
 | var {s:Str}{x:Val} (e:E s=some x):Ev (.node (Str.ofString "var") [.txt s] []) (.d x) 1
 | table {s:Str}{x:Val} (e:S s=some x):Ev (.node (Str.ofString "table") [.txt s] []) (.d x) 1
 | p0 {q:Tr}{x:Res} (h:¬own (wOf q)) (k:kids q=[]) (e:F q [] x):Ev q x 2
 | p1 {q a:Tr}{r x:Res}{c:Nat} (h:¬own (wOf q)) (k:kids q=[a]) (ha:Ev a r c) (e:F q [r] x):Ev q x (c+2)
 | p2 {q a b:Tr}{r s x:Res}{c d:Nat} (h:¬own (wOf q)) (k:kids q=[a,b]) (ha:Ev a r c) (hb:Ev b s d) (e:F q [r,s] x):Ev q x (c+d+2)
end
section
variable {F:Tr->List Res->Res->Prop}{E S:Ev0}
theorem Pend.cast {ts:List Task}{fs:List Res}{x:Res}{m n:Nat} (h:Pend F E S ts fs x m) (e:m=n):Pend F E S ts fs x n:=e ▸ h
theorem Ev.pend {q:Tr}{y x:Res}{c:Nat} (h:Ev F E S q y c):∀ (ts:List Task) (fs:List Res) (m:Nat),Pend F E S ts (fs++[y]) x m->Pend F E S (ts++[.begin q]) fs x (m+c):=by
 induction h with
 | var e=>exact fun ts fs m p=>.step (.var e) (by rw[List.append_nil];exact p)
 | table e=>exact fun ts fs m p=>.step (.table e) (by rw[List.append_nil];exact p)
 | @p0 q y hw k e=>
  intro ts fs m p
  have p1:Pend F E S (ts++[.fin q 0]) fs x (m+1):=.step (by have:=Stp.fin (E:=E) (S:=S) (fs:=fs) e;rwa [List.append_nil]at this) (by rw[List.append_nil];exact p)
  exact (Pend.step (.partB hw) (by rw[k];exact p1)).cast (by lia)
 | @p1 q a r y c hw k ha e ih=>
  intro ts fs m p
  have p1:Pend F E S (ts++[.fin q 1]) (fs++[r]) x (m+1):=.step (.fin e) (by rw[List.append_nil];exact p)
  have p2:=ih _ _ _ p1
  exact (Pend.step (.partB hw) (by rw[k];rw[List.append_assoc]at p2;exact p2)).cast (by lia)
 | @p2 q a b r s y c d hw k ha hb e ih jh=>
  intro ts fs m p
  have p1:Pend F E S (ts++[.fin q 2]) (fs++[r]++[s]) x (m+1):=.step (by have:=Stp.fin (E:=E) (S:=S) (fs:=fs) e;rwa [show fs++[r,s]=fs++[r]++[s] by simp]at this) (by rw[List.append_nil];exact p)
  have p2:=ih _ _ _ (jh _ _ _ p1)
  exact (Pend.step (.partB hw) (by rw[k];rw[List.append_assoc,List.append_assoc]at p2;exact p2)).cast (by lia)
theorem Ev.all {q:Tr}{x:Res}{c:Nat} (h:Ev F E S q x c):Pend F E S [.begin q] [] x c:=(h.pend [] [] 0 .done).cast (by lia)
theorem Pend.len {ts:List Task}{fs:List Res}{x:Res}{m:Nat} (h:Pend F E S ts fs x m):ts.length<=m:=by
 induction h with
 | done=>exact Nat.le_refl _
 | step s h ih=>rw[List.length_append]at ih ⊢;show _+1<=_;lia
theorem Stp.len {t:Task}{fs gs:List Res}{us:List Task} (s:Stp F E S t fs us gs):gs.length<=fs.length+1:=by
 cases s <;> (try simp only[List.length_append,List.length_cons,List.length_nil]) <;> lia
end
def VA (aE:Addr) (H:Hp) (x:Val) (v:V):Prop:=IsDt H (dat x) v\/(x=EMP/\v=.ref aE)
def RV (aE:Addr) (H:Hp):Res->V->Prop
 | .v x,v=>VA aE H x v
 | .d x,v=>IsDt H (dat x) v
inductive Six where
 | bg | fi
abbrev Fns:=Six->Addr
def kd:Task->Six
 | .begin _=>.bg
 | .fin _ _=>.fi
def EnvAt (H:Hp) (E:Ev0) (d:Addr):Prop:=∃ kvs:List (Key×V),Rd H d (.dK kvs)/\∀ n x,E n=some x->∃ v,valV kvs (Sum.inr n:Key)=some v/\IsDt H (dat x) v
def ArAt (H:Hp) (E S:Ev0) (v:V):Prop:=∃ a d e,v=.ref a/\H a=some (.tup [.ref d,.ref e])/\EnvAt H E d/\EnvAt H S e
inductive TQ:Tr->Prop
 | atom {w s:Str} (hw:w∈[Str.ofString "word",Str.ofString "var",Str.ofString "table"]):TQ (.node w [.txt s] [])
 | none {k:Tr}:TQ (.node (Str.ofString "none") [] [k])
 | times {i:Int}{q:Tr} (h:TQ q):TQ (.node (Str.ofString "times") [.int i] [q])
 | plain {w:Str}{ps:List Tr} (hw:w ∉ HM) (hrw:w≠Str.ofString "row") (h:∀ q∈ps,TQ q):TQ (.node w [] ps)
theorem TQ.sub {t:Tr} (h:TQ t):∀ q∈kids t,TQ q:=by
 cases h with
 | atom hw=>intro q hq;rw[kids_node]at hq;split at hq <;> cases hq
 | none=>intro q hq;rw[kids_node,if_pos rfl]at hq;cases hq
 | times h=>intro q hq;rw[kids_ne _ _ (by decide +kernel)]at hq;rw[List.mem_singleton.mp hq];exact h
 | plain hw hrw h=>intro q hq;rw[kids_node]at hq;split at hq;cases hq;exact h q hq
def Qn (H:Hp) (q:Tr) (u:V):Prop:=TQ q/\IsDt H (tdat q) u
theorem Qn.mono {H H':Hp} (s:Tups H H') {q:Tr}{u:V} (h:Qn H q u):Qn H' q u:=⟨h.1,IsDt.mono s h.2⟩
def TP (E S:Ev0) (H:Hp):Task->V->V->Prop
 | .begin q,u,ar=>Qn H q u/\ArAt H E S ar
 | .fin q n,u,ar=>Qn H q u/\ar=.int n
def TV (Fn:Fns) (E S:Ev0) (H:Hp) (t:Task) (v:V):Prop:=∃ a u ar,v=.ref a/\H a=some (.tup [.ref (Fn (kd t)),u,ar])/\TP E S H t u ar
structure Stay (H H':Hp):Prop where
 tp:Tups H H'
 dk:∀ d kvs,Rd H d (.dK kvs)->Rd H' d (.dK kvs)
theorem Stay.of {C:Addr}{H H':Hp}{x dx l r:Addr}{ws fs:List V} (w:Wk C H x dx l r ws fs) (e:ExW l r H H'):Stay H H':=
 ⟨fun a zs h=>e a _ (fun z=>by rw[z,w.wt]at h;cases h) (fun z=>by rw[z,w.fd]at h;cases h) h,fun d kvs h=>by
  rcases h with h | ⟨o,h⟩
  ·exact .inl (e d _ (fun z=>by rw[z,w.wt]at h;cases h) (fun z=>by rw[z,w.fd]at h;cases h) h)
  ·exact .inr ⟨o,e d _ (fun z=>by rw[z,w.wt]at h;cases h) (fun z=>by rw[z,w.fd]at h;cases h) h⟩⟩
theorem VA.mono {aE:Addr}{H H':Hp} (s:Stay H H') {x:Val}{v:V} (h:VA aE H x v):VA aE H' x v:=h.imp (IsDt.mono s.tp) id
theorem RV.mono {aE:Addr}{H H':Hp} (s:Stay H H') {r:Res}{v:V} (h:RV aE H r v):RV aE H' r v:=by
 cases r with
 | v x=>exact VA.mono s h
 | d x=>exact IsDt.mono s.tp h
theorem EnvAt.mono {H H':Hp} (s:Stay H H') {E:Ev0}{d:Addr} (h:EnvAt H E d):EnvAt H' E d:=by
 obtain⟨kvs,h1,h3⟩:=h
 refine⟨kvs,s.dk _ _ h1,fun n x e=>?_⟩
 obtain⟨v,e1,e2⟩:=h3 n x e
 exact⟨v,e1,IsDt.mono s.tp e2⟩
theorem ArAt.mono {H H':Hp} (s:Stay H H') {E S:Ev0}{v:V} (h:ArAt H E S v):ArAt H' E S v:=by
 obtain⟨a,d,e,h1,h2,h3,h4⟩:=h
 exact⟨a,d,e,h1,s.tp _ _ h2,h3.mono s,h4.mono s⟩
theorem TP.mono {E S:Ev0}{H H':Hp} (s:Stay H H') {t:Task}{u ar:V} (h:TP E S H t u ar):TP E S H' t u ar:=by
 cases t with
 | begin q=>exact⟨Qn.mono s.tp h.1,h.2.mono s⟩
 | fin q n=>exact⟨Qn.mono s.tp h.1,h.2⟩
theorem TV.mono {Fn:Fns}{E S:Ev0}{H H':Hp} (s:Stay H H') {t:Task}{v:V} (h:TV Fn E S H t v):TV Fn E S H' t v:=by
 obtain⟨a,u,ar,h1,h2,h3⟩:=h
 exact⟨a,u,ar,h1,s.tp _ _ h2,h3.mono s⟩
inductive All2 {α:Type} (R:α->V->Prop):List α->List V->Prop
 | nil:All2 R [] []
 | cons {a:α}{v:V}{as:List α}{vs:List V} (h:R a v) (t:All2 R as vs):All2 R (a::as) (v::vs)
theorem All2.mono {α:Type} {R R':α->V->Prop} (f:∀ a v,R a v->R' a v) {as:List α}{vs:List V} (h:All2 R as vs):All2 R' as vs:=by
 induction h with
 | nil=>exact .nil
 | cons h _ ih=>exact .cons (f _ _ h) ih
theorem All2.length {α:Type} {R:α->V->Prop}{as:List α}{vs:List V} (h:All2 R as vs):as.length=vs.length:=by
 induction h with
 | nil=>rfl
 | cons _ _ ih=>rw[List.length_cons,List.length_cons,ih]
theorem All2.append {α:Type} {R:α->V->Prop}{as bs:List α}{vs us:List V} (h:All2 R as vs) (k:All2 R bs us):All2 R (as++bs) (vs++us):=by
 induction h with
 | nil=>exact k
 | cons h _ ih=>exact .cons h ih
theorem All2.split {α:Type} {R:α->V->Prop}:∀ {as bs:List α}{vs:List V},All2 R (as++bs) vs->∃ us ws,vs=us++ws/\All2 R as us/\All2 R bs ws
 | [],bs,vs,h=>⟨[],vs,rfl,.nil,h⟩
 | a::as,bs,_,.cons h t=>by
  obtain⟨us,ws,rfl,h1,h2⟩:=All2.split t
  exact⟨_::us,ws,rfl,.cons h h1,h2⟩
section
variable {P:Program}{w:World}{K:PySem.W.Frag}{mg:Str->Option Value}{base:Heap}{f:Addr}{fd:FuncData}{C:Addr}
variable (aE:Addr) (Fn:Fns) (F:Tr->List Res->Res->Prop) (E0 S:Ev0)
def spS (C:Addr) (i:Six):Sp:=fun vs H Q _=>∃ (x dx l r:Addr) (ws fv:List V) (t:Task) (fs gs:List Res) (us:List Task) (u ar:V),vs=[.ref x,u,ar]/\kd t=i/\Wk C H x dx l r ws fv/\TP E0 S H t u ar/\All2 (RV aE H) fs fv/\Stp F E0 S t fs us gs /\
 ws.length+us.length<=1000000/\fs.length<=1000000/\∀ (H':Hp) (tv gv:List V),ExW l r H H'->Wk C H' x dx l r (ws++tv) gv->All2 (TV Fn E0 S H') us tv->All2 (RV aE H') gs gv->Q .non H'
def CF (C:Addr):Addr->Sp->Prop:=fun f sp=>∃ i,f=Fn i/\sp=spS aE Fn F E0 S C i
theorem ZaM:FnScope ["self","step","question","around"] ["self"] (defScope (mtop 14 4)):=⟨rfl,rfl,rfl,by decide +kernel,rfl,by decide +kernel,by decide +kernel⟩
def spRun (C:Addr):Sp:=fun vs H Q _=>∃ (x dx l r:Addr) (ws fv:List V) (ts:List Task) (fs:List Res) (y:Res) (m:Nat),vs=[.ref x]/\Wk C H x dx l r ws fv/\All2 (TV Fn E0 S H) ts ws/\All2 (RV aE H) fs fv/\Pend F E0 S ts fs y m/\fs.length+m<=1000000 /\
 ∀ (v:V) (H':Hp),ExW l r H H'->RV aE H' y v->Q v H'
theorem ok_run {k:Nat} (hk:1<=k) (T:Tx mg) (Zad:Cls K C) (N:NA K C) (D:Mf K C "run" "Walk.run" (mtop 14 4) f fd ["self"])
  (hC:∀ f sp,CF aE Fn F E0 S C f sp->∃ (fd:FuncData) (ps:List Str),FnOk P w K mg base CX0 k f fd ps sp/\PySem.W.keepIn K (.ref f)=true/\Binds K fd ps []):FnOk P w K mg base CX0 (k+1) f fd ["self"] (spRun aE Fn F E0 S C):=by
 refine D.fn.okH ZaM (fun vs H Q E h=>?_) (fun cdv A outer s H vs Q E hr h=>?_)
 ·obtain⟨x,dx,l,r,ws,fv,ts,fs,y,m,rfl,_⟩:=h;rfl
 obtain⟨x,dx,l,r,ws,fv,ts,fs,y,m,rfl,wk,tv,rv,pd,lm,fin⟩:=h
 have hu:=u110 hr
 have hu0:=u0 hr
 have hu1:=hu_of hr
 refine⟨_,(wss_cons (ws_while PassesOwn.never (wt_truth (we_fld (wv 0)) (fun _=>rfl)) (wss_cons (ws_asg (we_bm0 PySem.F.plainAttrs_list PySem.F.slot_list_pop PySem.F.type_list_pop mt_pop (we_fld (wv 0))) (wg_tup rfl (wgs_cons (wg_name (i:=1) ZaM.nd rfl (Or.inl rfl)) (wgs_cons (wg_name (i:=2) ZaM.nd rfl (Or.inl rfl)) (wgs_cons (wg_name (i:=3) ZaM.nd rfl (Or.inl rfl)) wgs_nil)))))
   (wss_one (ws_expr (we_callA hC (hr.mono (by lia)) pass0 (wv 1) (wa_cons (wv 0) (wa_cons (wv 2) (wa_cons (wv 3) wa_nil))))))))
   (wss_one (ws_ret (we_bm0 PySem.F.plainAttrs_list PySem.F.slot_list_pop PySem.F.type_list_pop mt_pop (we_fld (wv 0)))))),?_⟩
 refine⟨fun m' σ H'=>∃ (ws' fv':List V) (ts':List Task) (fs':List Res) (o1 o2 o3:Option V),σ=[some (.ref x),o1,o2,o3]/\ExW l r H H'/\Wk C H' x dx l r ws' fv'/\All2 (TV Fn E0 S H') ts' ws'/\All2 (RV aE H') fs' fv'/\Pend F E0 S ts' fs' y m'/\fs'.length+m'<=1000000,
  ⟨m,ws,fv,ts,fs,none,none,none,rfl,fun _ _ _ _ e=>e,wk,tv,rv,pd,lm⟩,?_⟩
 rintro m' σ H1 ⟨ws',fv',ts',fs',o1,o2,o3,rfl,ex1,wk1,tv1,rv1,pd1,lm1⟩
 refine⟨_,rfl,x,C,dx,_,_,rfl,wk1.at_,Zad,N.waiting,lkw l r,_,.inl ⟨ws',SqL.of wk1.wt,rfl⟩,?_⟩
 cases pd1 with
 | done=>
  cases tv1
  cases rv1 with
  | @cons _ v _ _ hv ht=>
  cases ht
  refine iteF ?_
  refine⟨_,rfl,x,C,dx,_,_,rfl,wk1.at_,Zad,N.found,lkf l r,.inl ⟨rfl,_,SqL.of wk1.fd⟩,r,[v],v,rfl,rfl,wk1.fd,rfl,?_⟩
  have ex2:ExW l r H1 (upd H1 r (.lst [v].dropLast)):=fun b o _ n2 e=>by rw[upd_ne n2];exact e
  exact fin v _ (fun b o n1 n2 e=>ex2 b o n1 n2 (ex1 b o n1 n2 e)) (hv.mono (Stay.of wk1 ex2))
 | @step ts0 us t _ gs _ m0 st pd0=>
  obtain⟨wv,w1,rfl,tv2,tv3⟩:=tv1.split
  cases tv3 with
  | @cons _ tvv _ _ ht hn=>
  cases hn
  refine iteP (by simp) ?_
  refine wh_hideD fun E' toN _=>?_
  obtain⟨a,u,ar,rfl,ha,tp⟩:=ht
  refine⟨_,rfl,x,C,dx,_,_,rfl,wk1.at_,Zad,N.waiting,lkw l r,.inl ⟨rfl,_,SqL.of wk1.wt⟩,l,wv++[.ref a],.ref a,rfl,rfl,wk1.wt,last_cat _ _,?_⟩
  rw[List.dropLast_concat]
  have ex2:ExW l r H1 (upd H1 l (.lst wv)):=fun b o n1 _ e=>by rw[upd_ne n1];exact e
  have sy:=Stay.of wk1 ex2
  have wk2:=wk1.setW wv
  obtain⟨H2,e2⟩:∃ H2,H2=upd H1 l (.lst wv):=⟨_,rfl⟩
  rw[<- e2]at ex2 sy wk2 ⊢
  clear e2
  refine⟨a,_,rfl,SqT.of (sy.tp _ _ ha),rfl,_,_,rfl,_,_,rfl,_,_,rfl,rfl,?_⟩
  have lt:=pd0.len
  have lw:wv.length=ts0.length:=(tv2.length).symm
  rw[List.length_append]at lt
  refine⟨_,rfl,_,_,rfl,⟨kd t,rfl,rfl⟩,_,rfl,_,rfl,_,rfl,x,dx,l,r,wv,fv',t,fs',gs,us,u,ar,rfl,rfl,wk2,tp.mono sy,rv1.mono fun _ _=>RV.mono sy,st,by lia,by lia,fun H3 tv4 gv ex3 wk3 h1 h2=>?_⟩
  have sy3:=Stay.of wk2 ex3
  have lg:=st.len
  exact toN _ _ ⟨m0,Nat.lt_succ_self _,wv++tv4,gv,ts0++us,gs,_,_,_,rfl,fun b o n1 n2 e=>ex3 b o n1 n2 (ex2 b o n1 n2 (ex1 b o n1 n2 e)),wk3,(tv2.mono fun _ _ h=>(h.mono sy).mono sy3).append h1,h2,pd0,by lia⟩
end
end K21
end
section
namespace K21
open PySem L2 Kn
theorem tall {σ:St} {H:Hp}{A B:Hp->Prop} (h:A H):tAll σ H fun b H3=>if b=true then A H3 else B H3:=by
 show (if true=true then A H else B H)
 rw[if_pos rfl];exact h
theorem veq {a:V}:decide (a=a)=true:=decide_eq_true rfl
theorem vne {a b:Str} (h:a≠b):¬(decide (V.str a=V.str b)=true):=fun z=>h (by have:=of_decide_eq_true z;injection this)
theorem tr_row {H:Hp}{ps:List (Str×Tr)}{v:V} (h:IsDt H (tdat (.row ps)) v):∃ a b ys,v=.ref a/\H a=some (.tup [.str "row",.ref b])/\H b=some (.tup ys)/\IsDts H (tdatR ps) ys:=by
 rw[tdat,IsDt]at h
 obtain⟨a,xs,rfl,h1,h2⟩:=h
 rw[IsDts]at h2
 obtain⟨y1,r1,rfl,h3,h4⟩:=h2
 rw[IsDts]at h4
 obtain⟨y2,r2,rfl,h5,h6⟩:=h4
 rw[IsDts]at h6
 subst h6
 rw[IsDt]at h3
 subst h3
 rw[IsDt]at h5
 obtain⟨b,ys,rfl,h7,h8⟩:=h5
 exact⟨a,b,ys,rfl,h1,h7,h8⟩
def atV:At->V
 | .int i=>.int i
 | .txt s=>.str s
theorem isDt_at {H:Hp}{a:At}{u:V} (h:IsDt H (atD a) u):u=atV a:=by
 cases a with
 | int i=>rw[atD,IsDt]at h;exact h
 | txt s=>rw[atD,IsDt]at h;exact h
theorem isDts_ats {H:Hp}:∀ (as:List At) (ds:List Dt) (xs:List V),IsDts H (as.map atD++ds) xs->∃ zs,xs=as.map atV++zs/\IsDts H ds zs
 | [],ds,xs,h=>⟨xs,rfl,h⟩
 | a::as,ds,xs,h=>by
  rw[List.map_cons,List.cons_append,IsDts]at h
  obtain⟨y,r,rfl,h1,h2⟩:=h
  obtain⟨zs,e,h3⟩:=isDts_ats as ds r h2
  exact⟨zs,by rw[isDt_at h1,e];rfl,h3⟩
theorem tr_node {H:Hp}{w:Str}{as:List At}{ps:List Tr}{v:V} (h:IsDt H (tdat (.node w as ps)) v):∃ a zs,v=.ref a/\H a=some (.tup (.str w::(as.map atV++zs)))/\IsDts H (ps.map tdat) zs:=by
 rw[tdat,IsDt]at h
 obtain⟨a,xs,rfl,h1,h2⟩:=h
 rw[IsDts]at h2
 obtain⟨y1,r1,rfl,h3,h4⟩:=h2
 rw[IsDt]at h3
 subst h3
 obtain⟨zs,rfl,h5⟩:=isDts_ats as _ r1 h4
 rw[tdatL_map]at h5
 exact⟨a,zs,rfl,h1,h5⟩
theorem isDts_one {H:Hp}{d:Dt}{zs:List V} (h:IsDts H [d] zs):∃ u,zs=[u]/\IsDt H d u:=by
 rw[IsDts]at h
 obtain⟨y,r,rfl,h1,h2⟩:=h
 rw[IsDts]at h2
 subst h2
 exact⟨y,rfl,h1⟩
theorem isDts_nil' {H:Hp}{zs:List V} (h:IsDts H [] zs):zs=[]:=by rw[IsDts]at h;exact h
theorem inV_str (w:Str):∀ l:List Str,inV (.str w) (l.map V.str)=true ↔ w∈l
 | []=>by simp [inV]
 | x::l=>by
  have ih:=inV_str w l
  unfold inV at ih ⊢
  rw[List.map_cons,List.any_cons,Bool.or_eq_true,ih,List.mem_cons]
  show (x == w)=true\/_ ↔ _
  rw[beq_iff_eq]
  exact⟨fun h=>h.elim (fun e=>.inl e.symm) .inr,fun h=>h.elim (fun e=>.inl e.symm) .inr⟩
theorem flat_strs (l:List Str):(l.map V.str).all flatV=true:=by rw[List.all_map];exact List.all_eq_true.mpr fun _ _=>rfl
theorem cutN {xs:List V}{k:Nat}:cutV xs (some (k:Int)) none=xs.drop k:=by
 unfold cutV
 rw[HT.sIx_nat,show HT.sIx xs.length xs.length none=xs.length from rfl]
 rw[List.take_of_length_le (by rw[List.length_drop];lia)]
 by_cases h:k<=xs.length
 ·rw[Nat.min_eq_left h]
 ·rw[List.drop_of_length_le (by lia),List.drop_of_length_le (by lia)]
theorem ncutN {xs:List V}{k:Nat} (h:0<k) (h2:0<xs.length):¬(HT.sIx xs.length 0 (some (k:Int))=0/\HT.sIx xs.length xs.length none=xs.length):=fun z=>by
 rw[HT.sIx_nat]at z;lia
section
variable {P:Program}{w:World}{K:PySem.W.Frag}{mg:Str->Option Value}{base:Heap}{f:Addr}{fd:FuncData}{aH:Addr}
theorem Zbs:FnScope ["question"] ["question"] (defScope (top 12)):=⟨rfl,rfl,rfl,by decide +kernel,rfl,by decide +kernel,by decide +kernel⟩
def spUnder:Sp:=fun vs H Q _=>∃ (v:V) (t:Tr),vs=[v]/\IsDt H (tdat t) v/\TQ t /\
 ∀ (a:Addr) (us:List V) (H':Hp),Same H H'->H' a=some (.tup us)->IsDts H' ((kids t).map tdat) us->Q (.ref a) H'
theorem ok_under (T:Tx mg) (Zbt:mg "HAVE_MORE"=some (.ref aH)) (hHM:∀ H,SqT K H aH (HM.map V.str)) (D:Df K mg "under" (top 12) f fd ["question"]):FnOk P w K mg base CX0 1 f fd ["question"] spUnder:=by
 refine D.fn.okH Zbs (fun vs H Q E h=>?_) (fun cdv A outer s H vs Q E hr h=>?_)
 ·obtain⟨v,t,rfl,_⟩:=h;rfl
 obtain⟨v,t,rfl,hx,th,fin⟩:=h
 have hu:=u110 hr
 have hu0:=u0 hr
 have hu1:=hu_of hr
 refine⟨_,(wss_cons (ws_if (wt_cmpR (op_eqU hu) (we_ix (ix_U hu1) (wv 0) we_int (fun _ _=>rfl)) we_str (nomark _)) (wss_one (ws_ret (we_callTy call_tuple_of rfl T.z_tuple bt_tuple (wa_cons (we_lc (Nt:=["field","part"]) (fr:=[]) (LcOk.of (sc:=defScope (top 12)) (N:=["question"]) rfl rfl (by decide +kernel)) rfl (wi_U (we_ix (ix_U hu1) (wv 0) we_int (fun _ _=>rfl))) (fun z=>wg_tup rfl (wgs_cons (wg_name (i:=0) (by show (["field","part"]:List Str).Nodup;decide +kernel) rfl (Or.inl rfl) (.inr rfl)) (wgs_cons (wg_name (i:=1) (by show (["field","part"]:List Str).Nodup;decide +kernel) rfl (Or.inl rfl) (.inr rfl)) wgs_nil))) (fun z=>tgt_two (by decide) (by decide)) (fun z=>wif_nil) (fun z=>(wv 1))) wa_nil)))) wss_nil)
   (wss_one (ws_ret (we_ifExp (wt_cmpR (op_inU hu) (we_ix (ix_U hu1) (wv 0) we_int (fun _ _=>rfl)) (we_glob rfl Zbt (relv_ref _)) (by with_unfolding_all rfl)) (we_slice sl_U (wv 0) (wo_some we_int) wo_none) (we_slice sl_U (wv 0) (wo_some we_int) wo_none))))),?_⟩
 cases t with
 | row ps=>cases th
 | node wd as ps=>
  obtain⟨a,zs,rfl,ha,hzs⟩:=tr_node hx
  have hw:wd≠Str.ofString "row":=by
   cases th with
   | atom hw=>rintro rfl;revert hw;decide +kernel
   | none=>decide +kernel
   | times h=>decide +kernel
   | plain hw hrw h=>exact hrw
  refine⟨_,rfl,.inr (.inl ⟨a,_,0,.str wd,rfl,rfl,SqT.of ha,(show atI (V.str wd::(as.map atV++zs)) ((0:Nat):Int)=_ from atI_nat rfl),.inl ⟨rfl,_,rfl,iteN (vne hw) ?_⟩⟩)⟩
  refine⟨_,rfl,.inr (.inl ⟨a,_,0,.str wd,rfl,rfl,SqT.of ha,(show atI (V.str wd::(as.map atV++zs)) ((0:Nat):Int)=_ from atI_nat rfl),.inl ⟨aH,_,rfl,.inr (hHM H),rfl,flat_strs HM,_,rfl,?_⟩⟩)⟩
  have key:∀ k:Nat,(k=1\/k=2)->IsDts H ((kids (.node wd as ps)).map tdat) ((V.str wd::(as.map atV++zs)).drop k)->∀ q,H q=none->Q (.ref q) (upd H q (.tup (cutV (V.str wd::(as.map atV++zs)) (some (k:Int)) none))):=fun k _ hk q hq=>by
   rw[cutN]
   exact fin q _ _ (same_new hq _) upd_same (IsDts.mono (same_new hq _).tups hk)
  refine ite2 (fun e=>?_) (fun e=>?_)
  ·have hm:wd∈HM:=(inV_str wd HM).mp e
   refine⟨_,rfl,_,rfl,.inr (.inl ⟨a,_,rfl,SqT.of ha,ncutN (k:=2) (by decide) (by simp),fun q hq=>key 2 (.inr rfl) ?_ q hq⟩)⟩
   cases th with
   | atom hw=>
    have e0:=isDts_nil' hzs
    subst e0
    rw[kids_node];split <;> exact .nil
   | none=>rw[kids_node,if_pos rfl];obtain⟨u,rfl,_⟩:=isDts_one hzs;exact .nil
   | times h=>rw[kids_ne _ _ (by decide +kernel)];exact hzs
   | plain hw2 hrw h=>exact absurd hm hw2
  ·have hm:wd ∉ HM:=fun z=>e ((inV_str wd HM).mpr z)
   refine⟨_,rfl,_,rfl,.inr (.inl ⟨a,_,rfl,SqT.of ha,ncutN (k:=1) (by decide) (by simp),fun q hq=>key 1 (.inl rfl) ?_ q hq⟩)⟩
   cases th with
   | atom hw=>exfalso;apply hm;revert hw;simp only[List.mem_cons,List.not_mem_nil,or_false,HM];rintro (h | h | h) <;> simp [h]
   | none=>exact absurd (by decide +kernel) hm
   | times h=>exact absurd (by decide +kernel) hm
   | plain hw2 hrw h=>
    have n0:¬wd=Str.ofString "none":=by rintro rfl;exact hm (by decide +kernel)
    rw[kids_node,if_neg n0];exact hzs
end
end K21
end
section
namespace L2
open PySem
theorem seqH {t u:TS}{D:Ends} {σ:St} {H:Hp} (h:∀ N:St->Hp->Prop,(∀ σ H,u D σ H->N σ H)->t ⟨N,D.rt,D.bk,D.ct⟩ σ H):tSeq t u D σ H:=h (u D) fun _ _ k=>k
theorem ixt {K:PySem.W.Frag}{a:Addr}{xs:List V}{i:Int}{v:V}{H:Hp}{Q:VK} (h:SqT K H a xs) (e:atI xs i=some v) (k:Q v H):rIxL K (.ref a) (.int i) H Q\/(rIxT K (.ref a) (.int i) H Q\/(rIxS (.ref a) (.int i) H Q\/rIxD (.ref a) (.int i) H Q)):=.inr (.inl ⟨a,xs,i,v,rfl,rfl,h,e,k⟩)
theorem ixl {K:PySem.W.Frag}{a:Addr}{xs:List V}{i:Int}{v:V}{H:Hp}{Q:VK} (h:SqL K H a xs) (e:atI xs i=some v) (k:Q v H):rIxL K (.ref a) (.int i) H Q\/(rIxT K (.ref a) (.int i) H Q\/(rIxS (.ref a) (.int i) H Q\/rIxD (.ref a) (.int i) H Q)):=.inl ⟨a,xs,i,v,rfl,rfl,h,e,k⟩
theorem ixd {K:PySem.W.Frag}{a:Addr}{y v:V}{H:Hp}{Q:VK} (g:DGet H a y (some v)) (k:Q v H):rIxL K (.ref a) y H Q\/(rIxT K (.ref a) y H Q\/(rIxS (.ref a) y H Q\/rIxD (.ref a) y H Q)):=.inr (.inr (.inr ⟨a,v,rfl,g,k⟩))
theorem vr {σ:St} {i:Nat}{v:V}{H:Hp}{Q:VK} (k:Q v H) (e:σ[i]?=some (some v):=by rfl):tVar i σ H Q:=⟨v,e,k⟩
theorem ix_top {K:PySem.W.Frag}{w:World}{a:Addr} (d:TopD K w a):∀ X:Cx,X.K=K->X.w=w->X.A.units+1<cLine->IxR X (rNs K a):=by
 rintro X rfl rfl hu;exact ix_ns d hu
theorem in_top {K:PySem.W.Frag}{w:World}{a:Addr} (d:TopD K w a):∀ X:Cx,X.K=K->X.w=w->X.A.units+1<cLine->OpR X (compareOp .In) (rInNs K a):=by
 rintro X rfl rfl hu;exact op_inNs d hu
theorem we_make0 {X:Cx}{pos:Pos}{CX:CXT}{k:Nat}{C fa:Addr}{fd:FuncData}{ps:List Str}{sp:Sp}{dvs:List V}{ds:List Value}{E:XK}{x:Str}{p:Pos} (M:Mk X.K C fa) (F:FnOk X.prog X.w X.K X.mg X.base CX k fa fd ps sp) (hr:Room (k+1) X.A) (hg:Gl X x) (hm:X.mg x=some (.ref C)) (hb:Binds X.K fd ps ds) (hd:Vals dvs ds) (hx:Passes CX X E)
  (hdb:(x == ("__debug__" : Str))=false:=by decide):Hd (PE X (.Call (.Name x p) [] [] pos) (tMake C sp dvs E tNil)):=⟨pe_make0 M F hr hg hm hb hd hx hdb⟩
end L2
end
section
namespace K21
open PySem L2 Kn
theorem word_at {H:Hp}{q:Tr}{u:V} (h:IsDt H (tdat q) u):∃ b xs,u=.ref b/\H b=some (.tup (.str (wOf q)::xs)):=by
 cases q with
 | row ps=>obtain⟨a,b,ys,rfl,h1,_⟩:=tr_row h;exact⟨a,_,rfl,h1⟩
 | node w as ps=>obtain⟨a,zs,rfl,h1,_⟩:=tr_node h;exact⟨a,_,rfl,h1⟩
theorem txt_at {H:Hp}{w s:Str}{ps:List Tr}{u:V} (h:IsDt H (tdat (.node w [.txt s] ps)) u):∃ b xs,u=.ref b/\H b=some (.tup (.str w::.str s::xs)):=by
 obtain⟨a,zs,rfl,h1,_⟩:=tr_node h;exact⟨a,_,rfl,h1⟩
theorem inNW {w:Str}:inV (.str w) [.str "num",.str "word"]=true ↔ w=Str.ofString "num"\/w=Str.ofString "word":=by
 rw[show ([.str "num",.str "word"]:List V)=[Str.ofString "num",Str.ofString "word"].map V.str from rfl,inV_str]
 simp
theorem Stay.trans {H H1 H2:Hp} (a:Stay H H1) (b:Stay H1 H2):Stay H H2:=⟨fun _ _ h=>b.tp _ _ (a.tp _ _ h),fun _ _ h=>b.dk _ _ (a.dk _ _ h)⟩
theorem Stay.same {H H':Hp} (s:Same H H'):Stay H H':=⟨s.tups,fun _ _ h=>h.imp (s _ _) fun⟨o,e⟩=>⟨o,s _ _ e⟩⟩
theorem at0 {x:V}{xs:List V}:atI (x::xs) 0=some x:=(show atI (x::xs) ((0:Nat):Int)=_ from atI_nat rfl)
theorem at1 {x y:V}{xs:List V}:atI (x::y::xs) 1=some y:=(show atI (x::y::xs) ((1:Nat):Int)=_ from atI_nat rfl)
theorem at2 {a b c:V}{xs:List V}:atI (a::b::c::xs) 2=some c:=(show atI (a::b::c::xs) ((2:Nat):Int)=_ from atI_nat rfl)
theorem stp_bg {F:Tr->List Res->Res->Prop}{E S:Ev0}{t:Task}{fs gs:List Res}{us:List Task} (h:Stp F E S t fs us gs) (k:kd t=.bg):∃ q,t=.begin q/\((∃ s x,q=.node (Str.ofString "var") [.txt s] []/\E s=some x/\us=[]/\gs=fs++[.d x])\/(∃ s x,q=.node (Str.ofString "table") [.txt s] []/\S s=some x/\us=[]/\gs=fs++[.d x])\/(¬own (wOf q)/\us=.fin q (kids q).length::(kids q).reverse.map .begin/\gs=fs)):=by
 cases h with
 | var e=>exact⟨_,rfl,.inl ⟨_,_,rfl,e,rfl,rfl⟩⟩
 | table e=>exact⟨_,rfl,.inr (.inl ⟨_,_,rfl,e,rfl,rfl⟩)⟩
 | partB h=>exact⟨_,rfl,.inr (.inr ⟨h,rfl,rfl⟩)⟩
 | fin e=>cases k
theorem stp_fi {F:Tr->List Res->Res->Prop}{E S:Ev0}{t:Task}{fs gs:List Res}{us:List Task} (h:Stp F E S t fs us gs) (k:kd t=.fi):∃ q rs x fs0,t=.fin q rs.length/\fs=fs0++rs/\us=[]/\gs=fs0++[x]/\F q rs x:=by
 cases h with
 | fin e=>exact⟨_,_,_,_,rfl,rfl,rfl,rfl,e⟩
 | _=>cases k
theorem tell_len {aE:Addr}{H:Hp}{fs:List Res}{fv:List V} (rv:All2 (RV aE H) fs fv) (lf:fs.length<=1000000):fv.length<=10000000:=by have:=rv.length;lia
section
variable {P:Program}{w:World}{K:PySem.W.Frag}{mg:Str->Option Value}{base:Heap}{f ZaW f_later f_take f_tell aG:Addr}{fd ZaX fd_later fd_take fd_tell:FuncData}{C:Addr}
variable (aE:Addr) (Fn:Fns) (F:Tr->List Res->Res->Prop) (E0 S:Ev0)
theorem ZaN:FnScope ["walk","question","around","word","parts","part"] ["walk","question","around"] (defScope (top 19)):=⟨rfl,rfl,rfl,by decide +kernel,rfl,by decide +kernel,by decide +kernel⟩
theorem ok_begin (T:Tx mg) (Zad:Cls K C) (dG:TopD K w aG) (Za9:mg "GOES_ON_answers"=some (.ref aG)) (hN:∀ z,¬own z->PySem.W.nsIn K aG z=some none)
  (D:Df K mg "begin" (top 19) (Fn .bg) fd ["walk","question","around"]) {Zba:FuncData} (ZaF:Df K mg "finish" (top 25) (Fn .fi) Zba ["walk","question","many"])
  (Zam:Df K mg "under" (top 12) ZaW ZaX ["question"]) (Zbb:FnOk P w K mg base CX0 1 ZaW ZaX ["question"] spUnder)
  (Zan:Mf K C "tell" "Walk.tell" (mtop 14 2) f_tell fd_tell ["self","result"]) (ZaG:FnOk P w K mg base CX0 1 f_tell fd_tell ["self","result"] (spTell C))
  (Zal:Mf K C "later" "Walk.later" (mtop 14 1) f_later fd_later ["self","step","question","around"]) (Zaq:FnOk P w K mg base CX0 1 f_later fd_later ["self","step","question","around"] (spLater C)) :
  FnOk P w K mg base CX0 2 (Fn .bg) fd ["walk","question","around"] (spS aE Fn F E0 S C .bg):=by
 have Zao:=D
 have Zbu:=ix_top dG
 have Zbv:=in_top dG
 refine D.fn.okH (k:=1) ZaN (fun vs H Q E h=>?_) (fun cdv A outer s H vs Q E hr h=>?_)
 ·obtain⟨x,dx,l,r,ws,fv,t,fs,gs,us,u,ar,rfl,_⟩:=h;rfl
 obtain⟨x,dx,l,r,ws,fv,t,fs,gs,us,u,ar,rfl,ht,wk,tp,rv,st,lw,lf,fin⟩:=h
 have hu:=u110 hr
 have hu0:=u0 hr
 have hu1:=hu_of hr
 refine⟨_,(wss_cons (ws_set (i:=3) ZaN.nd rfl (Or.inl rfl) (we_ix (ix_U hu1) (wv 1) we_int (fun _ _=>rfl)))
   (wss_one (ws_if (wt_cmpR (op_inU hu) (wv 3) (we_tup (wa_consts rfl)) (by with_unfolding_all rfl)) (wss_one (ws_expr (we_meth (wv 0) Zad Zan.mt ZaG (hr.mono (by lia)) Zan.b .nil pass0 (wa_cons (wv 1) wa_nil)))) (wss_one (ws_if (wt_cmpR (op_eqU hu) (wv 3) we_str (nomark _)) (wss_one (ws_expr (we_meth (wv 0) Zad Zan.mt ZaG (hr.mono (by lia)) Zan.b .nil pass0 (wa_cons (we_ix (ix_U hu1) (we_ix (ix_U hu1) (wv 2) we_int (fun _ _=>rfl)) (we_ix (ix_U hu1) (wv 1) we_int (fun _ _=>rfl)) (fun _ _=>rfl)) wa_nil)))) (wss_one (ws_if (wt_cmpR (op_eqU hu) (wv 3) we_str (nomark _)) (wss_one (ws_expr (we_meth (wv 0) Zad Zan.mt ZaG (hr.mono (by lia)) Zan.b .nil pass0 (wa_cons (we_ix (ix_U hu1) (we_ix (ix_U hu1) (wv 2) we_int (fun _ _=>rfl)) (we_ix (ix_U hu1) (wv 1) we_int (fun _ _=>rfl)) (fun _ _=>rfl)) wa_nil)))) (wss_one (ws_if (wt_cmpR (Zbv _ rfl rfl hu1) (wv 3) (we_glob rfl Za9 (relv_ref _)) (by with_unfolding_all rfl)) (wss_cons (ws_expr (we_meth (wv 0) Zad Zal.mt Zaq (hr.mono (by lia)) Zal.b .nil pass0 (wa_cons (we_ix (Zbu _ rfl rfl hu1) (we_glob rfl Za9 (relv_ref _)) (wv 3) (fun _ _=>rfl)) (wa_cons (wv 1) (wa_cons (wv 2) wa_nil)))))
   (wss_one (ws_expr (we_meth (wv 0) Zad Zal.mt Zaq (hr.mono (by lia)) Zal.b .nil pass0 (wa_cons (we_glob rfl Zao.mg (relv_ref _)) (wa_cons (we_ix (ix_U hu1) (we_call Zbb (hr.mono (by lia)) rfl Zam.mg Zam.kp Zam.b .nil pass0 (wa_cons (wv 1) wa_nil)) we_int (fun _ _=>rfl)) (wa_cons (wv 2) wa_nil))))))) (wss_cons (ws_set (i:=4) ZaN.nd rfl (Or.inl rfl) (we_call Zbb (hr.mono (by lia)) rfl Zam.mg Zam.kp Zam.b .nil pass0 (wa_cons (wv 1) wa_nil)))
   (wss_cons (ws_expr (we_meth (wv 0) Zad Zal.mt Zaq (hr.mono (by lia)) Zal.b .nil pass0 (wa_cons (we_glob rfl ZaF.mg (relv_ref _)) (wa_cons (wv 1) (wa_cons (we_callB call_lenU rfl T.z_len bt_len (wa_cons (wv 4) wa_nil)) wa_nil)))))
   (wss_one (ws_for PassesOwn.never rfl (wi_revT rfl T.z_reversed (wa_cons (wv 4) wa_nil)) (wg_name (i:=5) ZaN.nd rfl (Or.inl rfl)) (wss_one (ws_expr (we_meth (wv 0) Zad Zal.mt Zaq (hr.mono (by lia)) Zal.b .nil pass0 (wa_cons (we_glob rfl Zao.mg (relv_ref _)) (wa_cons (wv 5) (wa_cons (wv 2) wa_nil))))))))))))))))))),?_⟩
 obtain⟨q,rfl,bg⟩:=stp_bg st ht
 obtain⟨hq,har⟩:=tp
 obtain⟨b,zs,rfl,hb⟩:=word_at hq.2
 refine seqH fun N toN=>⟨_,rfl,ixt (SqT.of hb) at0 (toN _ _ ?_)⟩
 refine⟨_,rfl,(by show 2<=sizeLine;decide),fun c hc=>?_⟩
 have s1:Same H (upd H c (.tup [.str "num",.str "word"])):=same_new hc _
 refine .inl ⟨c,[.str "num",.str "word"],rfl,.inr (SqT.of upd_same),rfl,rfl,_,rfl,?_⟩
 obtain⟨H1,e1⟩:∃ H1,H1=upd H c (.tup [.str "num",.str "word"]):=⟨_,rfl⟩
 rw[<- e1]at s1 ⊢
 clear e1
 have wk1:=wk.keep s1
 have sy:=Stay.same s1
 have rv1:=rv.mono fun _ _ h=>RV.mono sy h
 have hb1:=s1 _ _ hb
 have har1:=har.mono sy
 have hq1:=hq.mono sy.tp
 have lt:=tell_len rv lf
 rcases bg with ⟨n,y,rfl,e,rfl,rfl⟩ | ⟨n,y,rfl,e,rfl,rfl⟩ | ⟨hw,rfl,rfl⟩
 ·obtain⟨b',zs',eb,hb'⟩:=txt_at hq1.2
  cases eb
  obtain⟨a,d,e0,rfl,ha,⟨kvs,hd,hv⟩,hS⟩:=har1
  obtain⟨v,ev,iv⟩:=hv _ _ e
  refine iteN (fun z=>absurd (inNW.mp z) (by show ¬(Str.ofString "var"=Str.ofString "num"\/Str.ofString "var"=Str.ofString "word");decide +kernel)) (⟨_,rfl,.inl ⟨rfl,_,rfl,iteP veq ?_⟩⟩)
  refine⟨_,rfl,x,dx,_,rfl,wk1.at_,rfl,⟨_,rfl,ixt (SqT.of ha) at0 (⟨_,rfl,ixt (SqT.of hb') at1 (ixd (.inl ⟨kvs,_,hd,rfl,ev.symm⟩) ?_)⟩)⟩⟩
  refine⟨x,dx,l,r,ws,fv,_,rfl,wk1,lt,fun H4 ex4 wk4=>?_⟩
  have sy4:=Stay.of wk1 ex4
  exact fin H4 [] _ (fun b o n1 n2 e=>ex4 b o n1 n2 (s1 _ _ e)) (by rw[List.append_nil];exact wk4) .nil ((rv1.mono fun _ _ h=>h.mono sy4).append (.cons (IsDt.mono sy4.tp iv) .nil))
 ·obtain⟨b',zs',eb,hb'⟩:=txt_at hq1.2
  cases eb
  obtain⟨a,d,e0,rfl,ha,hE,⟨kvs,hd,hv⟩⟩:=har1
  obtain⟨v,ev,iv⟩:=hv _ _ e
  refine iteN (fun z=>absurd (inNW.mp z) (by show ¬(Str.ofString "table"=Str.ofString "num"\/Str.ofString "table"=Str.ofString "word");decide +kernel)) (⟨_,rfl,.inl ⟨rfl,_,rfl,iteN (vne (by show Str.ofString "table"≠Str.ofString "var";decide +kernel)) (⟨_,rfl,.inl ⟨rfl,_,rfl,iteP veq ?_⟩⟩)⟩⟩)
  refine⟨_,rfl,x,dx,_,rfl,wk1.at_,rfl,⟨_,rfl,ixt (SqT.of ha) at1 (⟨_,rfl,ixt (SqT.of hb') at1 (ixd (.inl ⟨kvs,_,hd,rfl,ev.symm⟩) ?_)⟩)⟩⟩
  refine⟨x,dx,l,r,ws,fv,_,rfl,wk1,lt,fun H4 ex4 wk4=>?_⟩
  have sy4:=Stay.of wk1 ex4
  exact fin H4 [] _ (fun b o n1 n2 e=>ex4 b o n1 n2 (s1 _ _ e)) (by rw[List.append_nil];exact wk4) .nil ((rv1.mono fun _ _ h=>h.mono sy4).append (.cons (IsDt.mono sy4.tp iv) .nil))
 ·have n0:wOf q≠Str.ofString "num"/\wOf q≠Str.ofString "word"/\wOf q≠Str.ofString "var"/\wOf q≠Str.ofString "table":=⟨fun z=>hw (.inl z),fun z=>hw (.inr (.inl z)),fun z=>hw (.inr (.inr (.inl z))),fun z=>hw (.inr (.inr (.inr (.inl z))))⟩
  refine iteN (fun z=>(inNW.mp z).elim n0.1 n0.2.1) (⟨_,rfl,.inl ⟨rfl,_,rfl,iteN (vne n0.2.2.1) (⟨_,rfl,.inl ⟨rfl,_,rfl,iteN (vne n0.2.2.2) ?_⟩⟩)⟩⟩)
  refine⟨_,rfl,_,_,rfl,rfl,hN _ hw,_,rfl,iteF ?_⟩
  have th:=hq1.1
  refine seqH fun N' toN'=>⟨_,rfl,_,_,rfl,hq1.2,th,fun a us H2 s2 ha iu=>toN' _ _ ?_⟩
  have wk2:=wk1.keep s2
  have sy2:=Stay.same s2
  have lus:us.length=(kids q).length:=by rw[iu.length,List.length_map]
  have lw1:ws.length+((kids q).length+1)<=1000000:=by simpa using lw
  refine seqH fun N3 toN3=>⟨_,rfl,x,dx,_,rfl,wk2.at_,rfl,⟨_,rfl,⟨_,rfl,.inl ⟨a,us,rfl,.inr (SqT.of ha),?_⟩⟩⟩⟩
  refine⟨x,dx,l,r,ws,fv,_,_,_,rfl,wk2,by lia,fun t3 H3 ex3 ht3 hl3 wk3=>toN3 _ _ ?_⟩
  have sy3:=Stay.of wk2 ex3
  have ha3:=sy3.tp _ _ ha
  have sy13:=sy2.trans sy3
  have iu3:=IsDts.mono sy3.tp iu
  refine⟨_,rfl,a,us,rfl,SqT.of ha3,?_⟩
  refine⟨fun i m σ H'=>m+i=us.length/\(∃ o5,σ=[some (.ref x),some (.ref b),some ar,some (.str (wOf q)),some (.ref a),o5])/\∃ tv,ExW l r H3 H'/\Wk C H' x dx l r (ws++[.ref t3]++tv) fv/\All2 (TV Fn E0 S H') (((kids q).reverse.take i).map fun p=>Task.begin p) tv,
   ⟨us.length,rfl,⟨none,rfl⟩,[],fun _ _ _ _ h=>h,by rw[List.append_nil];exact wk3,.nil⟩,?_⟩
  rintro i m σ H4 ⟨hm,⟨o5,rfl⟩,tv,ex4,wk4,at4⟩
  have sy4:=Stay.of wk3 ex4
  have ltv:tv.length<=us.length:=by rw[<- at4.length,List.length_map,List.length_take,List.length_reverse];lia
  by_cases hi:i<us.length
  ·refine .inr (for_hide ⟨hi,us,SqT.of (sy4.tp _ _ ha3),rfl⟩ (fun σ' H'=>(∃ o5,σ'=[some (.ref x),some (.ref b),some ar,some (.str (wOf q)),some (.ref a),o5])/\∃ tv,ExW l r H3 H'/\Wk C H' x dx l r (ws++[.ref t3]++tv) fv/\All2 (TV Fn E0 S H') (((kids q).reverse.take (i+1)).map fun p=>Task.begin p) tv) (fun σ' H' hW=>⟨m-1,by lia,by lia,hW⟩) fun E2 toN4 _=>?_)
   intro z H5 hz
   obtain⟨eH,hz⟩:=hz
   rw[eH]
   clear eH
   have e2:=hz _ (SqT.of (sy4.tp _ _ ha3))
   have hk:us.length-1-i<(kids q).length:=by lia
   obtain⟨y,e3,d3⟩:=iu3.get (i:=us.length-1-i) (d:=tdat (kids q)[us.length-1-i]) (by rw[List.getElem?_map,List.getElem?_eq_getElem hk];rfl)
   rw[e3]at e2
   cases e2
   refine⟨_,rfl,x,dx,_,rfl,wk4.at_,rfl,⟨_,rfl,⟨_,rfl,x,dx,l,r,_,fv,_,_,_,rfl,wk4,by rw[List.length_append,List.length_append];show ws.length+1+_<=_;lia,fun t7 H7 ex7 ht7 hl7 wk7=>?_⟩⟩⟩
   have sy7:=Stay.of wk4 ex7
   have sy17:=(sy13.trans sy4).trans sy7
   refine toN4 _ _ ⟨⟨_,rfl⟩,tv++[.ref t7],fun b o n1 n2 h=>ex7 b o n1 n2 (ex4 b o n1 n2 h),by rw[<- List.append_assoc];exact wk7,?_⟩
   have hi':i<(kids q).length:=by lia
   rw[List.take_add_one,List.getElem?_reverse hi',List.getElem?_eq_getElem (by lia),List.map_append]
   have th5:=th.sub _ (List.getElem_mem hk)
   refine (at4.mono fun _ _ h=>h.mono sy7).append (.cons ⟨t7,_,ar,rfl,hl7,⟨by simpa [lus] using th5,by simpa [lus] using IsDt.mono (sy4.trans sy7).tp d3⟩,har1.mono sy17⟩ .nil)
  ·refine .inl ⟨by show us.length<=i;lia,?_⟩
   obtain rfl:i=us.length:=by lia
   rw[List.take_of_length_le (by rw[List.length_reverse];lia)]at at4
   refine fin H4 (.ref t3::tv) fv (fun b o n1 n2 h=>ex4 b o n1 n2 (ex3 b o n1 n2 (s2 _ _ (s1 _ _ h)))) (by rw[show ws++V.ref t3::tv=ws++[.ref t3]++tv by simp];exact wk4) (.cons ⟨t3,_,_,rfl,sy4.tp _ _ hl3,hq1.mono (sy13.trans sy4).tp,by rw[lus]⟩ at4) (rv1.mono fun _ _ h=>h.mono (sy13.trans sy4))
end
end K21
end
section
namespace K21
open PySem L2 Kn
section
variable {P:Program}{w:World}{K:PySem.W.Frag}{mg:Str->Option Value}{base:Heap}{f f_parts f_unf f_key aR:Addr}{fd fd_parts fd_unf fd_key:FuncData}{tG tE:Tok}
theorem ZaY:FnScope ["value","parts","pair"] ["value"] (defScope (top 5)):=⟨rfl,rfl,rfl,by decide +kernel,rfl,by decide +kernel,by decide +kernel⟩
def spParts:Sp:=fun vs H Q _=>∃ (v:V) (x:Val),vs=[v]/\IsVal H x v/\(pts x).length<=10000000 /\
 ∀ (p:Addr) (us:List V) (H':Hp),Same H H'->H p=none->H' p=some (.lst us)->IsPts H' (pts x) us->Q (.ref p) H'
theorem isPts_R {H:Hp}:∀ {ps:List (Str×Val)}{ys:List V}{i:Nat}{y:V},IsDts H (datR ps) ys->ys[i]?=some y->∃ f x c w,ps[i]?=some (f,x)/\y=.ref c/\H c=some (.tup [.str f,w])/\IsVal H x w:=fun {ps ys i y} h e=>by
 have hl:=h.length
 have hi:i<ys.length:=(List.getElem?_eq_some_iff.mp e).1
 have hp:i<ps.length:=by rw[datR_map,List.length_map]at hl;lia
 obtain⟨z,e1,d1⟩:=h.get (i:=i) (d:=.tup [.str ps[i].1,dat ps[i].2]) (by rw[datR_map,List.getElem?_map,List.getElem?_eq_getElem hp];rfl)
 rw[e]at e1
 cases e1
 rw[IsDt]at d1
 obtain⟨c,xs,rfl,h1,h2⟩:=d1
 rw[IsDts]at h2
 obtain⟨y1,r1,rfl,h3,h4⟩:=h2
 rw[IsDts]at h4
 obtain⟨y2,r2,rfl,h5,h6⟩:=h4
 rw[IsDts]at h6
 subst h6
 rw[IsDt]at h3
 subst h3
 exact⟨ps[i].1,ps[i].2,c,y2,List.getElem?_eq_getElem hp,rfl,h1,h5⟩
theorem isPts_B {H:Hp}:∀ {ps:List (Val×Int)}{ys:List V}{i:Nat}{y:V},IsDts H (datB ps) ys->ys[i]?=some y->∃ x n c w,ps[i]?=some (x,n)/\y=.ref c/\H c=some (.tup [w,.int n])/\IsVal H x w:=fun {ps ys i y} h e=>by
 have hl:=h.length
 have hi:i<ys.length:=(List.getElem?_eq_some_iff.mp e).1
 have hp:i<ps.length:=by rw[datB_map,List.length_map]at hl;lia
 obtain⟨z,e1,d1⟩:=h.get (i:=i) (d:=.tup [dat ps[i].1,.int ps[i].2]) (by rw[datB_map,List.getElem?_map,List.getElem?_eq_getElem hp];rfl)
 rw[e]at e1
 cases e1
 rw[IsDt]at d1
 obtain⟨c,xs,rfl,h1,h2⟩:=d1
 rw[IsDts]at h2
 obtain⟨y1,r1,rfl,h3,h4⟩:=h2
 rw[IsDts]at h4
 obtain⟨y2,r2,rfl,h5,h6⟩:=h4
 rw[IsDts]at h6
 subst h6
 rw[IsDt]at h5
 subst h5
 exact⟨ps[i].1,ps[i].2,c,y1,List.getElem?_eq_getElem hp,rfl,h1,h3⟩
def ptsR0 (ps:List (Str×Val)):List Pt:=ps.flatMap fun p=>[.k (.i 1),.k (.s p.1),.v p.2]
def ptsB0 (ps:List (Val×Int)):List Pt:=ps.flatMap fun p=>[.k (.i 1),.v p.1,.k (.i p.2)]
theorem ptsR_eq (ps:List (Str×Val)):ptsR ps=ptsR0 ps++[.k (.i 0)]:=by
 induction ps with
 | nil=>rw[ptsR];rfl
 | cons p ps ih=>rw[ptsR,ih];rfl
theorem ptsB_eq (ps:List (Val×Int)):ptsB ps=ptsB0 ps++[.k (.i 0)]:=by
 induction ps with
 | nil=>rw[ptsB];rfl
 | cons p ps ih=>rw[ptsB,ih];rfl
theorem flat_range {α:Type} (h:α->List Pt) (ps:List α):ps.flatMap h=(List.range ps.length).flatMap fun i=>((ps[i]?).map h).getD []:=by
 have key:∀ n,n<=ps.length->(ps.take n).flatMap h=(List.range n).flatMap fun i=>((ps[i]?).map h).getD []:=by
  intro n
  induction n with
  | zero=>intro _;rfl
  | succ n ih=>
   intro hn
   rw[List.take_add_one,List.flatMap_append,ih (by lia),List.range_succ,List.flatMap_append,List.getElem?_eq_getElem (by lia:n<ps.length)]
   simp [List.getElem?_eq_getElem (by lia:n<ps.length)]
 have:=key ps.length (Nat.le_refl _)
 rw[List.take_length]at this
 exact this
theorem ok_parts (T:Tx mg) (D:Df K mg "order_parts" (top 5) f fd ["value"]) (Zbw:mg "RANKS"=some (.ref aR)) (Zbx:mg "GOES_ON_values"=some (.int 1 tG)) (Zby:mg "ENDS"=some (.int 0 tE))
  (Zbz:∀ X:Cx,X.K=K->X.w=w->X.A.units+1<cLine->IxR X (rRank aR)):FnOk P w K mg base CX0 1 f fd ["value"] spParts:=by
 refine D.fn.okH ZaY (fun vs H Q E h=>?_) (fun cdv A outer s H vs Q E hr h=>?_)
 ·obtain⟨v,x,rfl,_⟩:=h;rfl
 obtain⟨v,x,rfl,hx,hlen,q⟩:=h
 have hu:=u110 hr
 have hu0:=u0 hr
 have hu1:=hu_of hr
 refine⟨_,(wss_cons (ws_set (i:=1) ZaY.nd rfl (Or.inl rfl) (we_lst (wa_cons (we_ix (Zbz _ rfl rfl hu1) (we_glob rfl Zbw (relv_ref _)) (we_ix (ix_U hu1) (wv 0) we_int (fun _ _=>rfl)) (fun _ _=>rfl)) wa_nil)))
   (wss_cons (ws_if (wt_cmpR (op_inU hu) (we_ix (ix_U hu1) (wv 0) we_int (fun _ _=>rfl)) (we_tup (wa_consts rfl)) (by with_unfolding_all rfl)) (wss_one (ws_ret (we_op op_plus (wv 1) (we_lst (wa_cons (we_ix (ix_U hu1) (wv 0) we_int (fun _ _=>rfl)) wa_nil))))) wss_nil)
   (wss_cons (ws_for PassesOwn.never rfl (wi_U (we_ix (ix_U hu1) (wv 0) we_int (fun _ _=>rfl))) (wg_name (i:=2) ZaY.nd rfl (Or.inl rfl)) (wss_one (ws_expr (we_bm PySem.F.plainAttrs_list PySem.F.slot_list_extend PySem.F.type_list_extend mt_extend (wv 1) (wa_cons (we_lst (wa_cons (we_glob rfl Zbx (relv_int _ _)) (wa_cons (we_ix (ix_U hu1) (wv 2) we_int (fun _ _=>rfl)) (wa_cons (we_ix (ix_U hu1) (wv 2) we_int (fun _ _=>rfl)) wa_nil)))) wa_nil)))))
   (wss_one (ws_ret (we_op op_plus (wv 1) (we_lst (wa_cons (we_glob rfl Zby (relv_int _ _)) wa_nil)))))))),?_⟩
 obtain⟨a,y,rfl,ha,hy⟩:=hx.two
 refine⟨_,rfl,.inr (.inl ⟨a,_,0,_,rfl,rfl,SqT.of ha,rfl,_,_,rfl,rfl,rank_tag x,(by show 1<=sizeLine;decide),fun p hp=>?_⟩)⟩
 have s1:Same H (upd H p (.lst [.int (rank x)])):=same_new hp _
 have ha1:=s1 _ _ ha
 refine⟨_,rfl,.inr (.inl ⟨a,_,0,_,rfl,rfl,SqT.of ha1,rfl,(by show 2<=sizeLine;decide),fun c hc=>?_⟩)⟩
 have s2:Same H (upd (upd H p (.lst [.int (rank x)])) c (.tup [.str "num",.str "word"])):=s1.trans (same_new hc _)
 have ha2:=s2 _ _ ha
 have hpc:p≠c:=fun z=>by subst z;rw[upd_same]at hc;cases hc
 have hp2:(upd (upd H p (.lst [.int (rank x)])) c (.tup [.str "num",.str "word"])) p=some (.lst [.int (rank x)]):=by rw[upd_ne hpc];exact upd_same
 generalize hH2:upd (upd H p (.lst [.int (rank x)])) c (.tup [.str "num",.str "word"])=H2 at s2 ha2 hp2 ⊢
 refine .inl ⟨c,[.str "num",.str "word"],rfl,.inr (SqT.of (by rw[<- hH2];exact upd_same)),rfl,rfl,_,rfl,?_⟩
 have t2:Tups H H2:=s2.tups
 -- a number,a word
 refine ite2 (fun hin0=>?_) (fun hin0=>?_)
 ·have hin:inV (V.str (tagS x)) [.str "num",.str "word"]=true:=hin0
  obtain⟨z,e1,e2⟩:∃ z:KE,pts x=[.k (.i (rank x)),.k z]/\y=kv z:=by
   cases x with
   | num i=>exact⟨.i i,by rw[pts];rfl,by rw[restD,IsDt]at hy;exact hy⟩
   | word i=>exact⟨.s i,by rw[pts];rfl,by rw[restD,IsDt]at hy;exact hy⟩
   | row ps=>exact absurd (show inV (V.str "row") [.str "num",.str "word"]=true from hin) (by decide +kernel)
   | bag ps=>exact absurd (show inV (V.str "bag") [.str "num",.str "word"]=true from hin) (by decide +kernel)
  refine⟨_,rfl,_,rfl,.inr (.inl ⟨a,_,1,_,rfl,rfl,SqT.of ha2,rfl,(by show 1<=sizeLine;decide),fun l hl=>?_⟩)⟩
  have hl2:(upd H2 l (.lst [y])) p=some (.lst [.int (rank x)]):=by rw[upd_ne (ne_of_none hp2 hl)];exact hp2
  refine .inr (.inr (.inl ⟨p,l,_,_,rfl,rfl,hl2,upd_same,(by show 1+1<=sizeLine;decide),fun o ho=>?_⟩))
  have s4:=(s2.trans (same_new hl _)).trans (same_new ho (.lst ([V.int (rank x)]++[y])))
  refine q o _ _ s4 ((s2.trans (same_new hl _)).free ho) upd_same ?_
  rw[e1,e2]
  exact⟨_,_,rfl,rfl,_,_,rfl,rfl,rfl⟩
 -- a row,a bag
 ·have hin:¬inV (V.str (tagS x)) [.str "num",.str "word"]=true:=hin0
  obtain⟨b,ys,g,e1,hb,hg,e2⟩:∃ (b:Addr) (ys:List V) (g:Nat->List Pt),y=.ref b/\H b=some (.tup ys)/\(∀ i z,ys[i]?=some z->∃ c u1 u2,z=.ref c/\H c=some (.tup [u1,u2])/\(g i).length=3/\IsPts H (g i) [.int 1,u1,u2]) /\
    pts x=.k (.i (rank x))::(List.range ys.length).flatMap g++[.k (.i 0)]:=by
   cases x with
   | num i=>exact absurd (show inV (V.str "num") [.str "num",.str "word"]=true by decide +kernel) hin
   | word i=>exact absurd (show inV (V.str "word") [.str "num",.str "word"]=true by decide +kernel) hin
   | row ps=>
    rw[restD,IsDt]at hy
    obtain⟨b,ys,e,hb,hd⟩:=hy
    have hl:ys.length=ps.length:=by rw[hd.length,datR_map,List.length_map]
    refine⟨b,ys,(fun i=>((ps[i]?).map fun q=>[Pt.k (.i 1),.k (.s q.1),.v q.2]).getD []),e,hb,fun i z hz=>?_,?_⟩
    ·obtain⟨f1,x1,c1,w1,h1,h2,h3,h4⟩:=isPts_R hd hz
     refine⟨c1,_,_,h2,h3,by show (((ps[i]?).map _).getD []).length=3;rw[h1];rfl,?_⟩
     show IsPts H (((ps[i]?).map _).getD []) _
     rw[h1]
     exact⟨_,_,rfl,rfl,_,_,rfl,rfl,_,_,rfl,h4,rfl⟩
    ·rw[pts,ptsR_eq,hl]
     show _=Pt.k (.i 2)::_
     congr 1
     congr 1
     show ps.flatMap _=_
     exact flat_range _ ps
   | bag ps=>
    rw[restD,IsDt]at hy
    obtain⟨b,ys,e,hb,hd⟩:=hy
    have hl:ys.length=ps.length:=by rw[hd.length,datB_map,List.length_map]
    refine⟨b,ys,(fun i=>((ps[i]?).map fun q=>[Pt.k (.i 1),.v q.1,.k (.i q.2)]).getD []),e,hb,fun i z hz=>?_,?_⟩
    ·obtain⟨x1,n1,c1,w1,h1,h2,h3,h4⟩:=isPts_B hd hz
     refine⟨c1,_,_,h2,h3,by show (((ps[i]?).map _).getD []).length=3;rw[h1];rfl,?_⟩
     show IsPts H (((ps[i]?).map _).getD []) _
     rw[h1]
     exact⟨_,_,rfl,rfl,_,_,rfl,h4,_,_,rfl,rfl,rfl⟩
    ·rw[pts,ptsB_eq,hl]
     show _=Pt.k (.i 3)::_
     congr 1
     congr 1
     show ps.flatMap _=_
     exact flat_range _ ps
  subst e1
  have hlen3:∀ i,i<=ys.length->((List.range i).flatMap g).length=3 * i:=fun i=>by
   induction i with
   | zero=>intro _;rfl
   | succ i ih=>
    intro hi
    obtain⟨_,_,_,_,_,h3,_⟩:=hg i ys[i] (List.getElem?_eq_getElem hi)
    rw[List.range_succ,List.flatMap_append,List.length_append,ih (by lia)]
    simp [h3]
    lia
  have hys:3 * ys.length+2<=10000000:=by
   rw[e2]at hlen
   simp only[List.length_cons,List.length_append,hlen3 ys.length (Nat.le_refl _),List.length_nil]at hlen
   lia
  refine .inr ⟨_,rfl,.inr (.inl ⟨a,_,1,_,rfl,rfl,SqT.of ha2,rfl,b,rfl,⟨ys,SqT.of (s2 _ _ hb)⟩,for_tup (K:=K) (a:=b) (xs:=ys) (fun i σ H'=>∃ (us:List V) (vp:Option V),σ=[some (.ref a),some (.ref p),vp]/\Ex p H2 H'/\H' p=some (.lst us)/\IsPts H' (.k (.i (rank x))::(List.range i).flatMap g) us)
   ⟨[.int (rank x)],none,rfl,.refl _ _,hp2,⟨_,_,rfl,rfl,rfl⟩⟩ (fun i σ H' _ ⟨us,vp,_,ex,_,_⟩=>SqT.of (ex _ _ (ne_of (s2 _ _ hb) hp2 (by intro z;cases z)) (s2 _ _ hb))) ?_ ?_⟩)⟩
  ·rintro i z σ H' hz ⟨us,vp,rfl,ex,hus,hpt⟩
   have hi:i<ys.length:=(List.getElem?_eq_some_iff.mp hz).1
   obtain⟨c',u1,u2,rfl,hc',h3,hg3⟩:=hg i z hz
   have hc2:H' c'=some (.tup [u1,u2]):=ex _ _ (ne_of (s2 _ _ hc') hp2 (by intro z;cases z)) (s2 _ _ hc')
   have tH:Tups H H':=fun d xs e=>ex _ _ (ne_of (s2 _ _ e) hp2 (by intro z;cases z)) (s2 _ _ e)
   have hul:us.length=1+3 * i:=by rw[hpt.length,List.length_cons,hlen3 i (by lia)];lia
   refine⟨_,rfl,.inl ⟨rfl,us,SqL.of hus⟩,_,rfl,.inr (.inl ⟨c',_,0,_,rfl,rfl,SqT.of hc2,rfl,_,rfl,.inr (.inl ⟨c',_,1,_,rfl,rfl,SqT.of hc2,rfl,(by show 3<=sizeLine;decide),fun l hl=>?_⟩)⟩)⟩
   have hl2:(upd H' l (.lst [.int 1,u1,u2])) p=some (.lst us):=by rw[upd_ne (ne_of_none hus hl)];exact hus
   refine⟨p,l,us,_,rfl,rfl,hl2,upd_same,by rw[hul];exact Nat.le_trans (show 1+3 * i+3<=10000000 by lia) (by decide),?_⟩
   have tN:Tups H' (upd (upd H' l (.lst [.int 1,u1,u2])) p (.lst (us++[.int 1,u1,u2]))):=(Tups.new hl _).trans (Tups.lst hl2)
   refine⟨us++[.int 1,u1,u2],_,rfl,ex.trans ((ex_new hl).trans ex_upd),upd_same,?_⟩
   rw[List.range_succ,List.flatMap_append,<- List.cons_append]
   refine (hpt.mono tN).append ?_
   simpa using hg3.mono (tH.trans tN)
  ·rintro σ H' ⟨us,vp,rfl,ex,hus,hpt⟩
   have hul:us.length=1+3 * ys.length:=by rw[hpt.length,List.length_cons,hlen3 ys.length (Nat.le_refl _)];lia
   refine⟨_,rfl,(by show 1<=sizeLine;decide),fun l hl=>?_⟩
   have hl2:(upd H' l (.lst [.int 0])) p=some (.lst us):=by rw[upd_ne (ne_of_none hus hl)];exact hus
   refine .inr (.inr (.inl ⟨p,l,us,_,rfl,rfl,hl2,upd_same,by rw[hul];exact Nat.le_trans (show 1+3 * ys.length+1<=10000000 by lia) (by decide),fun o ho=>?_⟩))
   have sH:Same H H':=fun d od e=>ex d od (fun z=>by subst z;rw[hp]at e;cases e) (s2 d od e)
   have s4:=(sH.trans (same_new hl _)).trans (same_new ho (.lst (us++[V.int 0])))
   refine q o _ _ s4 ((sH.trans (same_new hl _)).free ho) upd_same ?_
   rw[e2]
   refine IsPts.append (IsPts.mono ((Tups.new hl _).trans (Tups.new ho _)) hpt) ⟨_,_,rfl,rfl,rfl⟩
theorem ZaO:FnScope ["whole","parts_of","found","waiting","part"] ["whole","parts_of"] (defScope (top 4)):=⟨rfl,rfl,rfl,by decide +kernel,rfl,by decide +kernel,by decide +kernel⟩
def spUnf (fP:Addr):Sp:=fun vs H Q _=>∃ (v:V) (x:Val),vs=[v,.ref fP]/\IsVal H x v/\(key x).length<=5000000 /\
 ∀ (p:Addr) (H':Hp),Same H H'->H p=none->H' p=some (.lst ((key x).map kv))->Q (.ref p) H'
theorem dat_tup {H:Hp}{x:Val}{v:V} (h:IsVal H x v):∃ a xs,v=.ref a/\H a=some (.tup xs):=by
 obtain⟨a,w,e,h1,_⟩:=h.two;exact⟨a,_,e,h1⟩
theorem ok_unf (T:Tx mg) (D:Df K mg "unfolded" (top 4) f fd ["whole","parts_of"]) (D_parts:Df K mg "order_parts" (top 5) f_parts fd_parts ["value"]) (GV:FnOk P w K mg base CX0 1 f_parts fd_parts ["value"] spParts) :
  FnOk P w K mg base CX0 2 f fd ["whole","parts_of"] (spUnf f_parts):=by
 refine D.fn.okH ZaO (fun vs H Q E h=>?_) (fun cdv A outer s H vs Q E hr h=>?_)
 ·obtain⟨v,x,rfl,_⟩:=h;rfl
 obtain⟨v,x,rfl,hx,hlen,q⟩:=h
 have hu:=u110 hr
 have hu0:=u0 hr
 have hu1:=hu_of hr
 have kV:=D_parts.kp
 have bV:=D_parts.b
 have hrV:=hr
 refine⟨_,(wss_cons (ws_set (i:=2) ZaO.nd rfl (Or.inl rfl) (we_lst wa_nil))
   (wss_cons (ws_set (i:=3) ZaO.nd rfl (Or.inl rfl) (we_lst (wa_cons (wv 0) wa_nil)))
   (wss_cons (ws_while PassesOwn.never (wt_truth (wv 3) (fun _=>rfl)) (wss_cons (ws_set (i:=4) ZaO.nd rfl (Or.inl rfl) (we_bm0 PySem.F.plainAttrs_list PySem.F.slot_list_pop PySem.F.type_list_pop mt_pop (wv 3)))
   (wss_one (ws_if (wt_val (we_callB call_isi rfl T.z_isinstance bt_isinstance (wa_cons (wv 4) (wa_cons (we_bltn rfl T.z_tuple bt_tuple (relv_ty _)) wa_nil)))) (wss_one (ws_expr (we_bm PySem.F.plainAttrs_list PySem.F.slot_list_extend PySem.F.type_list_extend mt_extend (wv 3) (wa_cons (we_rev (we_callV (i:=1) GV hrV rfl (Or.inl rfl) kV bV .nil pass0 (wa_cons (wv 4) wa_nil))) wa_nil)))) (wss_one (ws_expr (we_bm PySem.F.plainAttrs_list PySem.F.slot_list_append PySem.F.type_list_append mt_append (wv 2) (wa_cons (wv 4) wa_nil))))))))
   (wss_one (ws_ret (wv 2)))))),?_⟩
 refine⟨(by show 0<=sizeLine;decide),fun p hp=>?_⟩
 refine⟨_,rfl,(by show 1<=sizeLine;decide),fun l hl=>?_⟩
 have s1:Same H (upd H p (.lst [])):=same_new hp _
 have s2:Same H (upd (upd H p (.lst [])) l (.lst [v])):=s1.trans (same_new hl _)
 have hpl:p≠l:=fun z=>by subst z;rw[upd_same]at hl;cases hl
 have hl0:H l=none:=s1.free hl
 refine⟨fun m σ H'=>∃ (ks:List KE) (pend:List Pt) (us:List V) (vp:Option V),σ=[some v,some (.ref f_parts),some (.ref p),some (.ref l),vp]/\Same H H'/\H' p=some (.lst (ks.map kv))/\H' l=some (.lst us)/\IsPts H' pend us/\key x=ks++flatK pend.reverse/\m=msL pend,
  ⟨_,[],[.v x],[v],none,rfl,s2,by rw[upd_ne hpl];exact upd_same,upd_same,⟨v,[],rfl,IsDt.mono s2.tups hx,rfl⟩,by simp [flatK,Pt.key],rfl⟩,?_⟩
 rintro m σ H' ⟨ks,pend,us,vp,rfl,sH,hP,hL,hpt,hkey,rfl⟩
 refine⟨_,rfl,_,.inl ⟨us,SqL.of hL,rfl⟩,?_⟩
 have hklen:ks.length+(flatK pend).length=(key x).length:=by
  rw[hkey,List.length_append]
  congr 1
  unfold flatK
  simp [List.length_flatMap]
 have hpend:=pts_len pend
 cases hpe:pend.reverse with
 | nil=>
  have e:pend=[]:=by simpa using congrArg List.reverse hpe
  subst e
  rw[show us=[] from hpt]
  refine iteF ?_
  refine⟨_,rfl,q p H' sH hp ?_⟩
  rw[hP,hkey]
  simp [flatK]
 | cons top rest=>
  have e:pend=rest.reverse++[top]:=by simpa using congrArg List.reverse hpe
  subst e
  obtain⟨ys,y,rfl,hys,hy⟩:=hpt.last
  have ne:(!(ys++[y]).isEmpty)=true:=by simp
  refine iteP ne ?_
  refine⟨fun σ' H''=>∃ m',m'<msL (rest.reverse++[top])/\∃ (ks:List KE) (pend:List Pt) (us:List V) (vp:Option V),σ'=[some v,some (.ref f_parts),some (.ref p),some (.ref l),vp]/\Same H H''/\H'' p=some (.lst (ks.map kv))/\H'' l=some (.lst us)/\IsPts H'' pend us/\key x=ks++flatK pend.reverse/\m'=msL pend,
   fun σ' H'' z=>z,?_⟩
  have hylen:ys.length=rest.length:=by rw[hys.length,List.length_reverse]
  refine⟨_,rfl,.inl ⟨rfl,_,SqL.of hL⟩,l,ys++[y],y,rfl,rfl,hL,by simp,?_⟩
  rw[List.dropLast_concat]
  have sH3:Same H (upd H' l (.lst ys)):=fun b o e=>by rw[upd_ne (ne_of_none e hl0)];exact sH b o e
  have t3:Tups H' (upd H' l (.lst ys)):=Tups.lst hL
  have hP3:(upd H' l (.lst ys)) p=some (.lst (ks.map kv)):=by rw[upd_ne hpl];exact hP
  have hL3:(upd H' l (.lst ys)) l=some (.lst ys):=upd_same
  have hys3:=hys.mono t3
  have hy3:=hy.mono t3
  generalize upd H' l (.lst ys)=H3 at sH3 t3 hP3 hL3 hys3 hy3 ⊢
  cases top with
  | k e=>
   have hfalse:isiV H3 y "tuple" false:=by
    rw[show y=kv e from hy3]
    cases e with
    | i n=>exact .inl ⟨rfl,.inl ⟨⟨n,rfl⟩,rfl⟩⟩
    | s z=>exact .inl ⟨rfl,.inr (.inl ⟨⟨z,rfl⟩,rfl⟩)⟩
   refine⟨_,rfl,_,_,_,rfl,hfalse,_,rfl,?_⟩
   refine iteF ?_
   refine⟨_,rfl,.inl ⟨rfl,_,SqL.of hP3⟩,_,rfl,p,_,y,rfl,rfl,hP3,?_,?_⟩
   ·rw[List.length_map]
    exact Nat.lt_of_le_of_lt (show ks.length<=5000000 by lia) (by decide)
   ·refine⟨msL rest.reverse,?_,ks++[e],rest.reverse,ys,_,rfl,fun b o z=>by rw[upd_ne (ne_of_none z hp)];exact sH3 b o z,?_,by rw[upd_ne hpl.symm];exact hL3,hys3.mono (Tups.lst hP3),?_,rfl⟩
    ·rw[msL_app];show _<_+msL [.k e];simp [msL,Pt.ms]
    ·rw[upd_same,show y=kv e from hy3];simp
    ·rw[hkey];simp [flatK,Pt.key]
  | v x'=>
   obtain⟨a',xs',rfl,ha'⟩:=dat_tup hy3
   refine⟨_,rfl,_,_,_,rfl,.inl ⟨rfl,.inr (.inr ⟨⟨a',xs',rfl,ha'⟩,rfl⟩)⟩,_,rfl,?_⟩
   refine iteT ?_
   have hk':(key x').length<=(key x).length:=by
    rw[hkey];simp [flatK,Pt.key];lia
   have hpl':(pts x').length<=(key x').length:=by rw[<- flat_pts];exact pts_len _
   refine⟨_,rfl,.inl ⟨rfl,_,SqL.of hL3⟩,rfl,_,rfl,_,x',rfl,hy3,by lia,fun p' us' H4 s4 hp' hus hpt'=>?_⟩
   refine⟨p',us',rfl,SqL.of hus,fun r hr'=>?_⟩
   have hL5:(upd H4 r (.lst us'.reverse)) l=some (.lst ys):=by rw[upd_ne (ne_of_none (s4 _ _ hL3) hr')];exact s4 _ _ hL3
   have hP5:(upd H4 r (.lst us'.reverse)) p=some (.lst (ks.map kv)):=by rw[upd_ne (ne_of_none (s4 _ _ hP3) hr')];exact s4 _ _ hP3
   have t5:Tups H3 (upd H4 r (.lst us'.reverse)):=s4.tups.trans (Tups.new hr' _)
   have hul:us'.length=(pts x').length:=hpt'.length
   have hrest:ks.length+rest.length+(key x').length<=(key x).length:=by
    have:=pts_len rest
    rw[hkey];simp [flatK,Pt.key]at *;lia
   refine⟨l,r,ys,_,rfl,rfl,hL5,upd_same,?_,?_⟩
   ·rw[List.length_reverse,hul,hylen]
    exact Nat.le_trans (show rest.length+(pts x').length<=5000000 by lia) (by decide)
   ·refine⟨msL (rest.reverse++(pts x').reverse),?_,ks,rest.reverse++(pts x').reverse,_,_,rfl,fun b o z=>?_,by rw[upd_ne hpl];exact hP5,upd_same,?_,?_,rfl⟩
    ·rw[msL_app,msL_app,msL_rev (pts x')]
     have:=ms_pts x'
     show _<_+msL [.v x']
     simp only[msL,List.map_cons,List.map_nil,List.sum_cons,List.sum_nil,Pt.ms]at *
     lia
    ·rw[upd_ne (ne_of_none z hl0),upd_ne (ne_of_none (s4 _ _ (sH3 b o z)) hr')];exact s4 _ _ (sH3 b o z)
    ·exact IsPts.append (hys3.mono (t5.trans (Tups.lst hL5))) (hpt'.reverse.mono ((Tups.new hr' _).trans (Tups.lst hL5)))
    ·rw[hkey]
     simp only[List.reverse_append,List.reverse_reverse,List.reverse_cons,List.reverse_nil,List.nil_append]
     unfold flatK
     rw[List.flatMap_append,List.flatMap_append]
     have:=flat_pts x'
     unfold flatK at this
     rw[this]
     simp [Pt.key]
theorem ZbA:FnScope ["value"] ["value"] (defScope (top 6)):=⟨rfl,rfl,rfl,by decide +kernel,rfl,by decide +kernel,by decide +kernel⟩
def spKey:Sp:=fun vs H Q _=>∃ (v:V) (x:Val),vs=[v]/\IsVal H x v/\(key x).length<=5000000 /\
 ∀ (p:Addr) (H':Hp),Same H H'->H' p=some (.tup ((key x).map kv))->Q (.ref p) H'
theorem ok_key (T:Tx mg) (D:Df K mg "order_key" (top 6) f fd ["value"]) (ZaH:Df K mg "order_parts" (top 5) f_parts fd_parts ["value"]) (Zar:Df K mg "unfolded" (top 4) f_unf fd_unf ["whole","parts_of"])
  (ZbB:FnOk P w K mg base CX0 2 f_unf fd_unf ["whole","parts_of"] (spUnf f_parts)):FnOk P w K mg base CX0 3 f fd ["value"] spKey:=by
 refine D.fn.okH ZbA (fun vs H Q E h=>?_) (fun cdv A outer s H vs Q E hr h=>?_)
 ·obtain⟨v,x,rfl,_⟩:=h;rfl
 obtain⟨v,x,rfl,hx,hlen,q⟩:=h
 refine⟨_,(wss_one (ws_ret (we_callTy call_tuple_of rfl T.z_tuple bt_tuple (wa_cons (we_call ZbB (hr.mono (by lia)) rfl Zar.mg Zar.kp Zar.b .nil pass0 (wa_cons (wv 0) (wa_cons (we_glob rfl ZaH.mg (relv_ref _)) wa_nil))) wa_nil)))),?_⟩
 refine⟨_,rfl,v,x,rfl,hx,hlen,fun p H' s1 hp hP=>⟨p,_,rfl,.inl ⟨SqL.of hP,fun t ht=>?_⟩⟩⟩
 exact q t _ (s1.trans (same_new ht _)) upd_same
end
end K21
end
section
namespace K21
open PySem L2 Kn
section
variable {K:PySem.W.Frag}
theorem dt_two {H:Hp}{a b:Dt}{v:V} (h:IsDt H (.tup [a,b]) v):∃ c y z,v=.ref c/\H c=some (.tup [y,z])/\IsDt H a y/\IsDt H b z:=by
 rw[IsDt]at h
 obtain⟨c,xs,e,h1,h2⟩:=h
 rw[IsDts]at h2
 obtain⟨y,ys,rfl,h3,h4⟩:=h2
 rw[IsDts]at h4
 obtain⟨z,zs,rfl,h5,h6⟩:=h4
 rw[IsDts]at h6
 subst h6
 exact⟨c,y,z,e,h1,h3,h5⟩
structure GoodIt (J:It) (p:Addr) (o:HO) (us:List V):Prop where
 go:∀ i H',H' p=some o->i<us.length->J.go i H'
 yl:∀ i H' x H'',H' p=some o->J.yld i H' x H''->H''=H'/\us[i]?=some x
 st:∀ i H',H' p=some o->us.length<=i->J.stop i H'
theorem iU {σ:St} {H:Hp}{i:Nat}{p:Addr}{o:HO}{us:List V}{R:It->Hp->Prop} (e:σ[i]?=some (some (.ref p))) (ho:o=.lst us\/o=.tup us) (h:H p=some o) (key:∀ J,GoodIt J p o us->R J H) :
  iList K (tVar i) σ H R\/iTup K (tVar i) σ H R:=by
 rcases ho with rfl | rfl
 ·exact .inl ⟨_,e,p,rfl,⟨us,SqL.of h⟩,key _ ⟨fun i H' h l=>⟨us,_,SqL.of h,List.getElem?_eq_getElem l⟩,fun i H' x H'' h y=>⟨y.1,y.2 us (SqL.of h)⟩,fun i H' h l=>⟨us,SqL.of h,l⟩⟩⟩
 ·exact .inr ⟨_,e,p,rfl,⟨us,SqT.of h⟩,key _ ⟨fun i H' h l=>⟨us,_,SqT.of h,List.getElem?_eq_getElem l⟩,fun i H' x H'' h y=>⟨y.1,y.2 us (SqT.of h)⟩,fun i H' h l=>⟨us,SqT.of h,l⟩⟩⟩
end
def kx (x:Val):List Key:=(key x).map kk
theorem kx_inj {x y:Val} (h:kx x=kx y):x=y:=key_inj (List.map_inj_right (fun a b e=>kk_inj e) |>.mp h)
theorem kx_kv (x:Val):(kx x).map kV=(key x).map kv:=map_kk _
theorem put_keys {κ:Type} [DecidableEq κ] {kvs:List (κ×V)}{k:κ}{v w:V} (h:valV kvs k=some w):(putK kvs k v).map (·.1)=kvs.map (·.1):=by
 unfold putK
 rw[valV_any,h]
 simp only[Option.isSome_some,if_true,List.map_map]
 refine List.map_congr_left fun p hp=>?_
 show (if p.1=k then (p.1,v) else p).1=p.1
 split <;> rfl
structure Met (H:Hp) (a1 a2:Addr) (xs:List (Val×Int)) (ms:List Val):Prop where
 dv:∃ kvs,H a1=some (.dT kvs)/\kvs.map (·.1)=ms.map kx/\∀ x∈ms,∃ v,valV kvs (kx x)=some v/\IsVal H x v
 dc:∃ kvs,H a2=some (.dT kvs)/\kvs.map (·.1)=ms.map kx/\∀ x∈ms,valV kvs (kx x)=some (.int (cnt x xs))
 nd:ms.Nodup
 from':∀ x∈ms,∃ q∈xs,x=q.1
 all:∀ q∈xs,q.1∈ms
theorem val_none {kvs:List (List Key×V)}{ms:List Val} (h:kvs.map (·.1)=ms.map kx) {x:Val} (hx:x ∉ ms):valV kvs (kx x)=none:=by
 cases e:valV kvs (kx x) with
 | none=>rfl
 | some v=>
  exfalso
  have:=valV_in e
  rw[h]at this
  obtain⟨y,hy,ey⟩:=List.mem_map.mp this
  exact hx (kx_inj ey ▸ hy)
section
variable {P:Program}{w:World}{K:PySem.W.Frag}{mg:Str->Option Value}{base:Heap}{f f_key:Addr}{fd fd_key:FuncData}
theorem Zas:FnScope ["pairs","values","counts","value","count","key"] ["pairs"] (defScope (top 7)):=⟨rfl,rfl,rfl,by decide +kernel,rfl,by decide +kernel,by decide +kernel⟩
def spBagOf:Sp:=fun vs H Q _=>∃ (p:Addr) (us:List V) (xs:List (Val×Int)),vs=[.ref p]/\(∃ o:HO,H p=some o/\(o=.lst us\/o=.tup us))/\IsDts H (datB xs) us/\xs.length<=900/\(∀ q∈xs,(key q.1).length<=5000000) /\
 ∀ (v:V) (H':Hp) (qs:List (Val×Int)),Same H H'->IsVal H' (.bag qs) v->IsBag xs qs->(∀ q∈qs,∃ r∈xs,q.1=r.1)->Q v H'
theorem ok_bagOf (T:Tx mg) (D:Df K mg "bag_of" (top 7) f fd ["pairs"]) (Zat:Df K mg "order_key" (top 6) f_key fd_key ["value"]) (ZbC:FnOk P w K mg base CX0 3 f_key fd_key ["value"] spKey) :
  FnOk P w K mg base CX0 4 f fd ["pairs"] spBagOf:=by
 refine D.fn.okH Zas (fun vs H Q E h=>?_) (fun cdv A outer s H vs Q E hr h=>?_)
 ·obtain⟨p,us,xs,rfl,_⟩:=h;rfl
 obtain⟨p,us,xs,rfl,⟨o,hp,ho⟩,hus,lx,kl,fin⟩:=h
 have hu:=u110 hr
 have hu0:=u0 hr
 have hu1:=hu_of hr
 refine⟨_,(wss_cons (ws_set (i:=1) Zas.nd rfl (Or.inr rfl) we_dnewT)
   (wss_cons (ws_set (i:=2) Zas.nd rfl (Or.inr rfl) we_dnewT)
   (wss_cons (ws_for PassesOwn.never rfl (wi_U (wv 0)) (wg_tup rfl (wgs_cons (wg_name (i:=3) Zas.nd rfl (Or.inl rfl)) (wgs_cons (wg_name (i:=4) Zas.nd rfl (Or.inl rfl)) wgs_nil))) (wss_cons (ws_set (i:=5) Zas.nd rfl (Or.inl rfl) (we_call ZbC (hr.mono (by lia)) rfl Zat.mg Zat.kp Zat.b .nil pass0 (wa_cons (wv 3) wa_nil)))
   (wss_cons (ws_asg (wv 3) (wg_sub (wv 1) (wv 5) (set_U hu1)))
   (wss_one (ws_asg (we_op op_plus (we_dget2 hu1 (wv 2) (wv 5) we_int) (wv 4)) (wg_sub (wv 2) (wv 5) (set_U hu1)))))))
   (wss_one (ws_ret (we_tup (wa_cons we_str (wa_cons (we_callTy call_tuple_of rfl T.z_tuple bt_tuple (wa_cons (we_lc (Nt:=["key"]) (fr:=[("values",1),("counts",2)]) (LcOk.of (sc:=defScope (top 7)) (N:=["pairs","values","counts","value","count","key"]) rfl rfl (by decide +kernel)) rfl (wi_U (we_callB (call_sortTL rfl hu) rfl T.z_sorted bt_sorted (wa_cons (wv 2) wa_nil))) (fun z=>wg_name (i:=0) (by show (["key","values","counts"]:List Str).Nodup;decide +kernel) rfl (Or.inl rfl) (.inr rfl)) (fun z=>tgt_name (by decide)) (fun z=>wif_one (wt_cmpR (op_neU hu) (we_ix (ix_U hu1) (wv 2) (wv 0) (fun _ _=>rfl)) we_int (nomark _))) (fun z=>(we_tup (wa_cons (we_ix (ix_U hu1) (wv 1) (wv 0) (fun _ _=>rfl)) (wa_cons (we_ix (ix_U hu1) (wv 2) (wv 0) (fun _ _=>rfl)) wa_nil))))) wa_nil)) wa_nil)))))))),?_⟩
 intro a1 h1
 intro a2 h2
 have n12:a1≠a2:=fun z=>by rw[z,upd_same]at h2;cases h2
 have h20:H a2=none:=by rw[upd_ne (fun z=>n12 z.symm)]at h2;exact h2
 have s0:=(same_new h1 (.dT [])).trans (same_new h2 (.dT []))
 have nus:us.length=xs.length:=by rw[hus.length,datB_map,List.length_map]
 have line:∀ n:Nat,n<=1000->n<sizeLine:=fun n h=>Nat.lt_of_le_of_lt h (by decide)
 refine iU rfl ho (s0 _ _ hp) fun J hJ=>?_
 refine⟨fun i m σ H'=>Same H H'/\m+i=xs.length/\(∃ o3 o4 o5,σ=[some (.ref p),some (.ref a1),some (.ref a2),o3,o4,o5])/\∃ ms:List Val,Met H' a1 a2 (xs.take i) ms/\ms.length<=i,
  ⟨xs.length,s0,rfl,⟨none,none,none,rfl⟩,[],⟨⟨[],by rw[upd_ne n12];exact upd_same,rfl,fun x hx=>(nomatch hx)⟩,⟨[],upd_same,rfl,fun x hx=>(nomatch hx)⟩,.nil,fun x hx=>(nomatch hx),fun q hq=>by simp at hq⟩,Nat.le_refl _⟩,?_⟩
 rintro i m σ H' ⟨sH,hm,⟨o3,o4,o5,rfl⟩,ms,M,lm⟩
 by_cases hi:i<xs.length
 ·refine .inr ⟨hJ.go i H' (sH _ _ hp) (by lia),fun σ' H''=>Same H H''/\(m-1)+(i+1)=xs.length/\(∃ o3 o4 o5,σ'=[some (.ref p),some (.ref a1),some (.ref a2),o3,o4,o5])/\∃ ms:List Val,Met H'' a1 a2 (xs.take (i+1)) ms/\ms.length<=i+1,fun σ' H'' hW=>⟨m-1,by lia,hW⟩,?_⟩
  intro x H'' hy
  obtain⟨e0,hx⟩:=hJ.yl i H' x _ (sH _ _ hp) hy
  rw[e0]
  obtain⟨u,hu',du⟩:=hus.get (i:=i) (d:=.tup [dat xs[i].1,.int xs[i].2]) (by rw[datB_map,List.getElem?_map,List.getElem?_eq_getElem hi];rfl)
  obtain rfl:u=x:=by rw[hu']at hx;injection hx
  obtain⟨c,v,z,rfl,hc1,dv,dz⟩:=dt_two du
  rw[IsDt]at dz
  subst dz
  have hxm:xs[i]∈xs:=List.getElem_mem hi
  have htk:xs.take (i+1)=xs.take i++[xs[i]]:=by rw[List.take_add_one,List.getElem?_eq_getElem hi];rfl
  generalize xs[i]=xi at hxm dv hc1 du htk
  have dv':IsVal H' xi.1 v:=IsDt.mono sH.tups dv
  refine⟨c,_,rfl,SqT.of (sH _ _ hc1),rfl,_,_,rfl,_,_,rfl,rfl,?_⟩
  refine⟨_,rfl,v,xi.1,rfl,dv',kl _ hxm,fun b H1 s1 hb=>?_⟩
  obtain⟨⟨kvV,hV,kV1,kV2⟩,⟨kvC,hC,kC1,kC2⟩,nd,frm,alls⟩:=M
  have hV1:=s1 _ _ hV
  have hC1:=s1 _ _ hC
  rw[<- kx_kv]at hb
  have lV:kvV.length<sizeLine:=line _ (by have:=congrArg List.length kV1;simp at this;lia)
  have lC:kvC.length<sizeLine:=line _ (by have:=congrArg List.length kC1;simp at this;lia)
  -- values[key]=value
  refine⟨_,rfl,_,rfl,_,rfl,.inr ⟨a1,_,rfl,DPut.t hV1 hb lV,?_⟩⟩
  have t2:Tups H1 (upd H1 a1 (.dT (putK kvV (kx xi.1) v))):=fun d ys e=>by rw[upd_ne (fun q=>by rw[q,hV1]at e;cases e)];exact e
  have hV2:(upd H1 a1 (.dT (putK kvV (kx xi.1) v))) a1=some (.dT (putK kvV (kx xi.1) v)):=upd_same
  have hC2:(upd H1 a1 (.dT (putK kvV (kx xi.1) v))) a2=some (.dT kvC):=by rw[upd_ne (fun q=>n12 q.symm)];exact hC1
  have hb2:=t2 _ _ hb
  have s2:Same H (upd H1 a1 (.dT (putK kvV (kx xi.1) v))):=fun d od e=>by rw[upd_ne (ne_of_none e h1)];exact s1 _ _ (sH _ _ e)
  generalize upd H1 a1 (.dT (putK kvV (kx xi.1) v))=H2 at t2 hV2 hC2 hb2 s2 ⊢
  -- counts[key]=counts.get(key,0)+count
  have hg:((valV kvC (kx xi.1)).getD (.int 0))=V.int (cnt xi.1 (xs.take i)):=by
   by_cases mm:xi.1∈ms
   ·rw[kC2 _ mm];rfl
   ·rw[val_none kC1 mm]
    show V.int 0=_
    rw[cnt_none (v:=xi.1) fun q hq e=>mm (e ▸ alls q hq)]
  refine⟨_,rfl,a2,rfl,.inr ⟨_,.inl hC2⟩,_,rfl,_,DGet.t hC2 hb2,_,rfl,.inl ⟨_,_,hg,rfl,?_⟩⟩
  refine⟨_,rfl,_,rfl,.inr ⟨a2,_,rfl,DPut.t hC2 hb2 lC,?_⟩⟩
  have t3:Tups H2 (upd H2 a2 (.dT (putK kvC (kx xi.1) (.int (cnt xi.1 (xs.take i)+xi.2))))):=fun d ys e=>by rw[upd_ne (fun q=>by rw[q,hC2]at e;cases e)];exact e
  have hcx:∀ y,cnt y (xs.take (i+1))=cnt y (xs.take i)+(if xi.1=y then xi.2 else 0):=fun y=>by rw[htk,cnt_append];simp only[cnt];lia
  refine⟨fun d od e=>by rw[upd_ne (ne_of_none e h20)];exact s2 _ _ e,by lia,⟨_,_,_,rfl⟩,?_⟩
  have old:∀ y,y≠xi.1->kx y≠kx xi.1:=fun y ne e=>ne (kx_inj e)
  have tA:Tups H' (upd H2 a2 (.dT (putK kvC (kx xi.1) (.int (cnt xi.1 (xs.take i)+xi.2))))):=fun d ys e=>t3 _ _ (t2 _ _ (s1 _ _ e))
  have fromOld:∀ x∈ms,∃ q∈xs.take (i+1),x=q.1:=fun x hx=>by
   obtain⟨q,hq,e⟩:=frm x hx
   exact⟨q,by rw[htk];exact List.mem_append_left _ hq,e⟩
  by_cases mm:xi.1∈ms
  ·refine⟨ms,⟨⟨_,by rw[upd_ne n12];exact hV2,?_,fun x hx=>?_⟩,⟨_,upd_same,?_,fun x hx=>?_⟩,nd,fromOld,fun q hq=>?_⟩,by lia⟩
   ·obtain⟨v0,e1,_⟩:=kV2 _ mm
    rw[put_keys e1];exact kV1
   ·by_cases ex:x=xi.1
    ·subst ex
     exact⟨v,by rw[valV_put,if_pos rfl],IsDt.mono tA dv'⟩
    ·obtain⟨v0,e1,e2⟩:=kV2 x hx
     exact⟨v0,by rw[valV_put,if_neg (old x ex)];exact e1,IsDt.mono tA e2⟩
   ·rw[put_keys (kC2 _ mm)];exact kC1
   ·rw[valV_put,hcx]
    by_cases ex:x=xi.1
    ·subst ex;rw[if_pos rfl,if_pos rfl]
    ·rw[if_neg (old x ex),if_neg (fun e=>ex e.symm),kC2 x hx];simp
   ·rw[htk]at hq
    rcases List.mem_append.mp hq with h | h
    ·exact alls q h
    ·rw[List.mem_singleton.mp h];exact mm
  ·have nV:=val_none kV1 mm
   have nC:=val_none kC1 mm
   refine⟨ms++[xi.1],⟨⟨_,by rw[upd_ne n12];exact hV2,?_,fun x hx=>?_⟩,⟨_,upd_same,?_,fun x hx=>?_⟩,?_,fun x hx=>?_,fun q hq=>?_⟩,by rw[List.length_append];show ms.length+1<=_;lia⟩
   ·rw[putK_new _ nV,List.map_append,List.map_append,kV1];rfl
   ·by_cases ex:x=xi.1
    ·subst ex
     exact⟨v,by rw[valV_put,if_pos rfl],IsDt.mono tA dv'⟩
    ·have hx':x∈ms:=(List.mem_append.mp hx).resolve_right fun h=>ex (List.mem_singleton.mp h)
     obtain⟨v0,e1,e2⟩:=kV2 x hx'
     exact⟨v0,by rw[valV_put,if_neg (old x ex)];exact e1,IsDt.mono tA e2⟩
   ·rw[putK_new _ nC,List.map_append,List.map_append,kC1];rfl
   ·rw[valV_put,hcx]
    by_cases ex:x=xi.1
    ·subst ex;rw[if_pos rfl,if_pos rfl]
    ·have hx':x∈ms:=(List.mem_append.mp hx).resolve_right fun h=>ex (List.mem_singleton.mp h)
     rw[if_neg (old x ex),if_neg (fun e=>ex e.symm),kC2 x hx'];simp
   ·refine List.nodup_append.mpr ⟨nd,by simp,fun a ha b hb e=>?_⟩
    rw[List.mem_singleton.mp hb]at e
    exact mm (e ▸ ha)
   ·rcases List.mem_append.mp hx with h | h
    ·exact fromOld x h
    ·exact⟨xi,by rw[htk];exact List.mem_append_right _ (List.mem_singleton.mpr rfl),List.mem_singleton.mp h⟩
   ·rw[htk]at hq
    rcases List.mem_append.mp hq with h | h
    ·exact List.mem_append_left _ (alls q h)
    ·rw[List.mem_singleton.mp h];exact List.mem_append_right _ (List.mem_singleton.mpr rfl)
 -- the bag
 ·refine .inl ⟨hJ.st i H' (sH _ _ hp) (by lia),?_⟩
  rw[List.take_of_length_le (by lia)]at M
  obtain⟨⟨kvV,hV,kV1,kV2⟩,⟨kvC,hC,kC1,kC2⟩,nd,frm,alls⟩:=M
  refine .inl ⟨_,rfl,a2,kvC,ms,rfl,hC,kC1,nd,by lia,fun l bs ys hl perm rise lb get=>⟨l,rfl,⟨_,SqL.of upd_same⟩,?_⟩⟩
  have sA:=same_new hl (.lst bs)
  have hA:(upd H' l (.lst bs)) l=some (.lst bs):=upd_same
  generalize upd H' l (.lst bs)=HA at sA hA ⊢
  have ly:ys.length=ms.length:=perm.length_eq
  refine⟨fun i2 m2 zs H2=>Same HA H2/\m2+i2=ys.length/\∃ qs:List (Val×Int),IsDts H2 (datB qs) zs/\qs.length<=i2/\qs=((ys.map fun y=>(y,cnt y xs)).take i2).filter fun q=>decide (q.2≠0),⟨ys.length,.refl _,rfl,[],.nil,Nat.le_refl _,rfl⟩,?_⟩
  rintro i2 m2 zs H2 ⟨s2,hm2,qs,iq,lq,eqs⟩
  have nz:zs.length=qs.length:=by rw[iq.length,datB_map,List.length_map]
  refine⟨line _ (by lia),?_⟩
  have hA2:=s2 _ _ hA
  have sT:=sA.trans s2
  by_cases hi2:i2<ys.length
  ·obtain⟨b,hbs,hb⟩:=get i2 ys[i2] (List.getElem?_eq_getElem hi2)
   refine .inr ⟨⟨_,_,SqL.of hA2,hbs⟩,fun z x H5 hy2=>?_⟩
   obtain⟨rfl,hx⟩:=hy2
   obtain rfl:V.ref b=x:=by have:=hx _ (SqL.of hA2);rw[hbs]at this;injection this
   have hym:ys[i2]∈ms:=perm.mem_iff.mp (List.getElem_mem hi2)
   obtain⟨v2,ev,iv2⟩:=kV2 _ hym
   have ec:=kC2 _ hym
   have tkq:(ys.map fun y=>(y,cnt y xs)).take (i2+1)=(ys.map fun y=>(y,cnt y xs)).take i2++[(ys[i2],cnt ys[i2] xs)]:=by
    rw[List.take_add_one,List.getElem?_map,List.getElem?_eq_getElem hi2];rfl
   rw[<- kx_kv]at hb
   have gC:DGet H5 a2 (.ref b) (some (.int (cnt ys[i2] xs))):=by rw[<- ec];exact DGet.t (sT _ _ hC) (sT _ _ hb)
   have gV:DGet H5 a1 (.ref b) (some v2):=by rw[<- ev];exact DGet.t (sT _ _ hV) (sT _ _ hb)
   generalize ys[i2]=y at hym ev iv2 ec tkq gC gV
   refine⟨_,rfl,_,rfl,.inr (.inr (.inr ⟨a2,_,rfl,gC,.inl ⟨rfl,_,rfl,?_⟩⟩))⟩
   refine ite2 (fun e=>?_) (fun e=>?_)
   ·have e0:cnt y xs≠0:=fun z=>by rw[z]at e;revert e;decide
    refine⟨_,rfl,_,rfl,.inr (.inr (.inr ⟨a1,_,rfl,gV,_,rfl,_,rfl,.inr (.inr (.inr ⟨a2,_,rfl,gC,(by show 2<=sizeLine;decide),fun t ht=>?_⟩))⟩))⟩
    refine⟨m2-1,by lia,s2.trans (same_new ht _),by lia,qs++[(y,cnt y xs)],?_,by rw[List.length_append];show qs.length+1<=_;lia,by rw[tkq,List.filter_append,<- eqs];simp [e0]⟩
    rw[datB_map,List.map_append,<- datB_map]
    exact (IsDts.mono (same_new ht _).tups iq).append (.one (isDt_new ht (.cons (IsDt.mono sT.tups iv2) (.one (by rw[IsDt])))))
   ·have e0:cnt y xs=0:=Classical.byContradiction fun z=>e (by rw[decide_eq_false (fun w=>z (by injection w))];rfl)
    exact⟨m2-1,by lia,s2,by lia,qs,iq,by lia,by rw[tkq,List.filter_append,<- eqs];simp [e0]⟩
  ·refine .inl ⟨⟨_,SqL.of hA2,by rw[lb];lia⟩,fun l2 hl2=>⟨l2,zs,rfl,.inl ⟨SqL.of upd_same,fun t ht=>⟨(by show 2<=sizeLine;decide),fun b hb=>?_⟩⟩⟩⟩
   have bag:IsBag xs qs:=by
    rw[eqs,List.take_of_length_le (by rw[List.length_map];lia)]
    exact bag_of_perm (fun y=>cnt y xs) perm rise (fun v _=>rfl) fun v hv=>cnt_none fun q hq e=>hv (e ▸ alls q hq)
   refine fin _ _ qs ((sH.trans sT).trans ((same_new hl2 _).trans ((same_new ht _).trans (same_new hb _)))) ?_ bag fun q hq=>?_
   ·show IsDt _ (dat (.bag qs)) _
    rw[dat_two]
    exact isDt_new hb (.cons (by rw[IsDt];rfl) (.one (isDt_tup upd_same (IsDts.mono ((same_new hl2 _).trans (same_new ht _)).tups iq))))
   ·have hq':=hq
    rw[eqs]at hq'
    obtain⟨y,hy,e⟩:=List.mem_map.mp (List.mem_of_mem_take (List.mem_filter.mp hq').1)
    obtain⟨r,hr',e2⟩:=frm y (perm.mem_iff.mp hy)
    exact⟨r,hr',by rw[<- e,<- e2]⟩
end
end K21
end
section
namespace L2
open PySem PySem.Spec PyProof.Rows
section
variable {X:Cx}
def rCatE (K:PySem.W.Frag):R2:=fun x y H Q=>∃ a b ys,x=.ref a/\y=.ref b/\SqT K H a []/\H b=some (.tup ys)/\Q (.ref b) H
theorem op_catE:OpR X (binaryOp .Add) (rCatE X.K):=by
 intro pins s σ H x y v u Q I rx ry h
 obtain⟨a,b,ys,rfl,rfl,ha,hb0,q⟩:=h
 have hb:SqT X.K H b ys:=SqT.of hb0
 cases rx
 cases ry
 obtain⟨its,r1,p1,_⟩:=I.tuple ha
 obtain⟨its2,r2,p2,_⟩:=I.tuple hb
 cases r1
 obtain⟨⟨cls,dd,data,sl⟩,ho,hc,n,hd⟩:=id p1
 obtain⟨⟨cls2,dd2,data2,sl2⟩,ho2,hc2,n2,hd2⟩:=id p2
 simp only at hc hd hc2 hd2
 subst hc hd hc2 hd2
 exact concat_meets ⟨_,ho,rfl⟩ ⟨_,ho2,rfl⟩ noFill_tuple_add seq_tuple_add PySem.F.slot_tuple_add PySem.F.entry_tuple_add (PySem.F.args_tuple_add_2 _ _)
  (tuple_addW0 a b _ its2.toArray n n2 dd dd2 sl sl2 (by simp)) ⟨ho,ho2,⟨.ref b,H,I,rfl,q⟩⟩
theorem op_plusE:OpR X (binaryOp .Add) (fun x y H Q=>rCatE X.K x y H Q\/rCatT' X.K x y H Q):=op_catE.or op_catT'
end
end L2
end
section
namespace K21
open PySem L2 Kn
theorem bag_at {H:Hp}{ps:List (Val×Int)}{u:V} (h:IsDt H (dat (.bag ps)) u):∃ a b xs,u=.ref a/\H a=some (.tup [.str "bag",.ref b])/\H b=some (.tup xs)/\IsDts H (datB ps) xs:=by
 rw[dat,IsDt]at h
 obtain⟨a,xs,rfl,h1,h2⟩:=h
 simp only[IsDts,IsDt]at h2
 obtain⟨_,_,rfl,rfl,_,_,rfl,⟨b,ys,rfl,h3,h4⟩,rfl⟩:=h2
 exact⟨a,b,ys,rfl,h1,h3,h4⟩
theorem pair_at {H:Hp}{ps:List (Val×Int)}{xs:List V}{i:Nat} (h:IsDts H (datB ps) xs) (hi:i<ps.length):∃ c v,xs[i]?=some (.ref c)/\H c=some (.tup [v,.int (ps[i]).2])/\IsDt H (dat (ps[i]).1) v:=by
 rw[datB_map]at h
 obtain⟨y,e1,e2⟩:=h.get (i:=i) (d:=.tup [dat (ps[i]).1,.int (ps[i]).2]) (by rw[List.getElem?_map,List.getElem?_eq_getElem hi];rfl)
 rw[IsDt]at e2
 obtain⟨c,zs,rfl,h1,h2⟩:=e2
 simp only[IsDts,IsDt]at h2
 obtain⟨v,_,rfl,h3,_,_,rfl,rfl,rfl⟩:=h2
 exact⟨c,v,e1,h1,h3⟩
def EmpAt (K:PySem.W.Frag) (aE:Addr):Prop:=∃ bE:Addr,(∀ H,SqT K H aE [.str "bag",.ref bE])/\∀ H,SqT K H bE []
theorem va_bag {K:PySem.W.Frag}{aE:Addr} (hE:EmpAt K aE) {H:Hp}{ps:List (Val×Int)}{u:V} (h:VA aE H (.bag ps) u):∃ a b xs,u=.ref a/\(∀ H',Stay H H'->SqT K H' a [.str "bag",.ref b])/\(∀ H',Stay H H'->SqT K H' b xs)/\IsDts H (datB ps) xs:=by
 rcases h with h | ⟨e,rfl⟩
 ·obtain⟨a,b,xs,rfl,h1,h2,h3⟩:=bag_at h
  exact⟨a,b,xs,rfl,fun _ s=>SqT.of (s.tp _ _ h1),fun _ s=>SqT.of (s.tp _ _ h2),h3⟩
 ·obtain⟨b,h1,h2⟩:=hE
  cases e
  exact⟨aE,b,[],rfl,fun _ _=>h1 _,fun _ _=>h2 _,by rw[datB];exact .nil⟩
section
variable {P:Program}{w:World}{K:PySem.W.Frag}{mg:Str->Option Value}{base:Heap}{f f_of f_take f_tell aF:Addr}{fd fd_of fd_take fd_tell:FuncData}{C:Addr}
variable (aE:Addr) (Fn:Fns) (F:Tr->List Res->Res->Prop) (E0 S:Ev0)
def spF (w:Str):Sp:=fun vs H Q _=>∃ (q:Tr) (u:V) (t:Addr) (gv:List V) (rs:List Res) (x:Res),vs=[u,.ref t]/\wOf q=w/\Qn H q u/\H t=some (.lst gv)/\All2 (RV aE H) rs gv/\F q rs x/\∀ v H',Same H H'->RV aE H' x v->Q v H'
def CFi (LW:List Str) (Fw:Str->Addr):Addr->Sp->Prop:=fun f sp=>∃ w,w∈LW/\f=Fw w/\sp=spF aE F w
theorem ZbD:FnScope ["walk","question","many"] ["walk","question","many"] (defScope (top 25)):=⟨rfl,rfl,rfl,by decide +kernel,rfl,by decide +kernel,by decide +kernel⟩
theorem ok_finish {k:Nat} (hk:1<=k) {LW:List Str}{Fw:Str->Addr} (T:Tx mg) (Zad:Cls K C) (dF:TopD K w aF) (ZbE:mg "FINISHED"=some (.ref aF)) (hns:∀ z∈LW,PySem.W.nsIn K aF z=some (some (.ref (Fw z)))) (hF:∀ q rs x,F q rs x->wOf q∈LW)
  (hC:∀ f sp,CFi aE F LW Fw f sp->∃ (fd:FuncData) (ps:List Str),FnOk P w K mg base CX0 k f fd ps sp/\PySem.W.keepIn K (.ref f)=true/\Binds K fd ps [])
  (D:Df K mg "finish" (top 25) f fd ["walk","question","many"])
  (Zan:Mf K C "tell" "Walk.tell" (mtop 14 2) f_tell fd_tell ["self","result"]) (ZaG:FnOk P w K mg base CX0 1 f_tell fd_tell ["self","result"] (spTell C))
  (Zbc:Mf K C "take" "Walk.take" (mtop 14 3) f_take fd_take ["self","many"]) (ZbF:FnOk P w K mg base CX0 1 f_take fd_take ["self","many"] (spTake C)) :
  FnOk P w K mg base CX0 (k+1) f fd ["walk","question","many"] (spS aE Fn F E0 S C .fi):=by
 have ZbG:=ix_top dF
 refine D.fn.okH ZbD (fun vs H Q E h=>?_) (fun cdv A outer s H vs Q E hr h=>?_)
 ·obtain⟨x,dx,l,r,ws,fv,t,fs,gs,us,u,ar,rfl,_⟩:=h;rfl
 obtain⟨x,dx,l,r,ws,fv,t,fs,gs,us,u,ar,rfl,ht,wk,tp,rv,st,lw,lf,fin⟩:=h
 have hu:=u110 hr
 have hu0:=u0 hr
 have hu1:=hu_of hr
 refine⟨_,(wss_one (ws_expr (we_meth (wv 0) Zad Zan.mt ZaG (hr.mono (by lia)) Zan.b .nil pass0 (wa_cons (we_callA hC (hr.mono (by lia)) pass0 (we_ix (ZbG _ rfl rfl hu1) (we_glob rfl ZbE (relv_ref _)) (we_ix (ix_U hu1) (wv 1) we_int (fun _ _=>rfl)) (fun _ _=>rfl)) (wa_cons (wv 1) (wa_cons (we_meth (wv 0) Zad Zbc.mt ZbF (hr.mono (by lia)) Zbc.b .nil pass0 (wa_cons (wv 2) wa_nil)) wa_nil))) wa_nil)))),?_⟩
 obtain⟨q,rs,y,fs0,rfl,rfl,rfl,rfl,e⟩:=stp_fi st ht
 obtain⟨hq,har⟩:=tp
 subst har
 obtain⟨fv1,gv,rfl,rv1,rv2⟩:=rv.split
 obtain⟨b,zs,rfl,hb⟩:=word_at hq.2
 have lg:=rv2.length
 have l1:=rv1.length
 have lf1:fs0.length+rs.length<=1000000:=by simpa using lf
 have hw:=hF _ _ _ e
 refine⟨_,rfl,x,dx,_,rfl,wk.at_,rfl,⟨_,rfl,ixt (SqT.of hb) at0 ⟨wOf q,.ref (Fw (wOf q)),_,rfl,rfl,hns _ hw,rfl,_,_,rfl,⟨_,hw,rfl,rfl⟩,?_⟩⟩⟩
 refine⟨_,rfl,_,rfl,x,dx,_,rfl,wk.at_,rfl,_,rfl,x,dx,l,r,ws,fv1,gv,by rw[lg];rfl,wk,by lia,fun t2 H2 ex2 ht2 hl2 wk2=>?_⟩
 have sy2:=Stay.of wk ex2
 refine⟨q,_,t2,gv,rs,y,rfl,rfl,hq.mono sy2.tp,hl2,rv2.mono fun _ _ h=>h.mono sy2,e,fun v H3 s3 iv=>?_⟩
 have wk3:=wk2.keep s3
 refine⟨x,dx,l,r,ws,fv1,_,rfl,wk3,by lia,fun H4 ex4 wk4=>?_⟩
 have sy4:=Stay.of wk3 ex4
 exact fin H4 [] _ (fun b o n1 n2 e=>ex4 b o n1 n2 (s3 _ _ (ex2 b o n1 n2 e))) (by rw[List.append_nil];exact wk4) .nil ((rv1.mono fun _ _ h=>((h.mono sy2).mono (Stay.same s3)).mono sy4).append (.cons (iv.mono sy4) .nil))
end
noncomputable def timesQ (k:Int) (qs:List (Val×Int)):List (Val×Int):=if k=0 then [] else qs.map fun q=>(q.1,q.2 * k)
def Lk (r:Res) (x:Val):Prop:=r=.v x\/r=.d x
def Sml (xs:List (Val×Int)):Prop:=xs.length<=900/\∀ q∈xs,(key q.1).length<=5000000
inductive Fr:Tr->List Res->Res->Prop
 | none {k:Tr}:Fr (.node (Str.ofString "none") [] [k]) [] (.v EMP)
 | one {q:Tr}{x:Val}:Fr (.node (Str.ofString "one") [] [q]) [.d x] (.d (.bag [(x,1)]))
 | both {q r:Tr}{a:Res}{xs ys:List (Val×Int)} (ha:Lk a (.bag xs)) (sm:Sml (xs++ys)):Fr (.node (Str.ofString "both") [] [q,r]) [a,.d (.bag ys)] (.d (.bag (theBag (xs++ys))))
 | times {k:Int}{q:Tr}{ps:List (Val×Int)} (hl:ps.length<=900) (hp:∀ p∈ps,p.2.natAbs<2 ^ 600) (hk:k.natAbs<2 ^ 600):Fr (.node (Str.ofString "times") [.int k] [q]) [.d (.bag ps)] (.d (.bag (timesQ k ps)))
def LW:List Str:=[Str.ofString "none",Str.ofString "one",Str.ofString "both",Str.ofString "times"]
theorem fr_word {q:Tr}{rs:List Res}{x:Res} (h:Fr q rs x):wOf q∈LW:=by
 cases h <;> (unfold LW;simp [wOf])
theorem fr_none {q:Tr}{rs:List Res}{x:Res} (h:Fr q rs x) (k:wOf q=Str.ofString "none"):x=.v EMP:=by
 cases h with
 | none=>rfl
 | _=>exact absurd (show _=Str.ofString "none" from k) (by simp only[wOf];decide +kernel)
theorem fr_one {q:Tr}{rs:List Res}{x:Res} (h:Fr q rs x) (k:wOf q=Str.ofString "one"):∃ y,rs=[.d y]/\x=.d (.bag [(y,1)]):=by
 cases h with
 | one=>exact⟨_,rfl,rfl⟩
 | _=>exact absurd (show _=Str.ofString "one" from k) (by simp only[wOf];decide +kernel)
theorem fr_both {q:Tr}{rs:List Res}{x:Res} (h:Fr q rs x) (k:wOf q=Str.ofString "both"):∃ a xs ys,rs=[a,.d (.bag ys)]/\x=.d (.bag (theBag (xs++ys)))/\Lk a (.bag xs)/\Sml (xs++ys):=by
 cases h with
 | both ha sm=>exact⟨_,_,_,rfl,rfl,ha,sm⟩
 | _=>exact absurd (show _=Str.ofString "both" from k) (by simp only[wOf];decide +kernel)
theorem fr_times {q:Tr}{rs:List Res}{x:Res} (h:Fr q rs x) (k:wOf q=Str.ofString "times"):∃ i q0 ps,q=.node (Str.ofString "times") [.int i] [q0]/\rs=[.d (.bag ps)]/\x=.d (.bag (timesQ i ps))/\ps.length<=900/\(∀ p∈ps,p.2.natAbs<2 ^ 600)/\i.natAbs<2 ^ 600:=by
 cases h with
 | times hl hp hk=>exact⟨_,_,_,rfl,rfl,rfl,hl,hp,hk⟩
 | _=>exact absurd (show _=Str.ofString "times" from k) (by simp only[wOf];decide +kernel)
theorem all2_1 {α:Type} {R:α->V->Prop}{a:α}{vs:List V} (h:All2 R [a] vs):∃ v,vs=[v]/\R a v:=by
 cases h with | cons h t=>cases t;exact⟨_,rfl,h⟩
theorem all2_2 {α:Type} {R:α->V->Prop}{a b:α}{vs:List V} (h:All2 R [a,b] vs):∃ u v,vs=[u,v]/\R a u/\R b v:=by
 cases h with | cons h t=>obtain⟨v,rfl,h2⟩:=all2_1 t;exact⟨_,_,rfl,h,h2⟩
theorem Lk.va {aE:Addr}{H:Hp}{r:Res}{x:Val}{v:V} (h:Lk r x) (k:RV aE H r v):VA aE H x v:=by
 rcases h with rfl | rfl
 ·exact k
 ·exact .inl k
end K21
end
section
namespace K21
open PySem L2 Kn
section
variable {P:Program}{w:World}{K:PySem.W.Frag}{mg:Str->Option Value}{base:Heap}{f ZaZ f_of Za0:Addr}{fd Za1 fd_of Za2:FuncData}
variable (aE:Addr)
theorem ZbH:FnScope ["question","below"] ["question","below"] (defScope (top 31)):=⟨rfl,rfl,rfl,by decide +kernel,rfl,by decide +kernel,by decide +kernel⟩
theorem ok_one (T:Tx mg) (D:Df K mg "one_answer" (top 31) f fd ["question","below"]):FnOk P w K mg base CX0 1 f fd ["question","below"] (spF aE Fr "one"):=by
 refine D.fn.okH ZbH (fun vs H Q E h=>?_) (fun cdv A outer s H vs Q E hr h=>?_)
 ·obtain⟨q,u,t,gv,rs,x,rfl,_⟩:=h;rfl
 obtain⟨q,u,t,gv,rs,x,rfl,hw,hq,hl,rv,e,fin⟩:=h
 have hu:=u110 hr
 have hu0:=u0 hr
 have hu1:=hu_of hr
 refine⟨_,(wss_one (ws_ret (we_tup (wa_cons we_str (wa_cons (we_tup (wa_cons (we_tup (wa_cons (we_ix (ix_U hu1) (wv 1) we_int (fun _ _=>rfl)) (wa_cons we_int wa_nil))) wa_nil)) wa_nil))))),?_⟩
 obtain⟨y,rfl,rfl⟩:=fr_one e hw
 obtain⟨u,rfl,h1⟩:=all2_1 rv
 refine⟨_,rfl,ixl (SqL.of hl) at0 ⟨(by show 2<=sizeLine;decide),fun t1 g1=>⟨(by show 1<=sizeLine;decide),fun t2 g2=>⟨(by show 2<=sizeLine;decide),fun t3 g3=>?_⟩⟩⟩⟩
 refine fin _ _ ((same_new g1 _).trans ((same_new g2 _).trans (same_new g3 _))) ?_
 show IsDt _ (dat (.bag [(y,1)])) _
 rw[dat,datB,datB]
 exact isDt_new g3 (.cons (by rw[IsDt]) (.one (isDt_new g2 (.one (isDt_new g1 (.cons h1 (.one (by rw[IsDt]))))))))
theorem ZbI:FnScope ["bag","k"] ["bag","k"] (defScope (top 9)):=⟨rfl,rfl,rfl,by decide +kernel,rfl,by decide +kernel,by decide +kernel⟩
def spTimes:Sp:=fun vs H Q _=>∃ (v:V) (k:Int) (qs:List (Val×Int)),vs=[v,.int k]/\IsDt H (dat (.bag qs)) v/\qs.length<=900/\(∀ q∈qs,q.2.natAbs<2 ^ 600)/\k.natAbs<2 ^ 600 /\
 ∀ (w:V) (H':Hp),Same H H'->IsVal H' (.bag (timesQ k qs)) w->Q w H'
theorem ok_times (T:Tx mg) (hEm:EmpAt K aE) (D:Df K mg "times" (top 9) f fd ["bag","k"]):FnOk P w K mg base CX0 1 f fd ["bag","k"] spTimes:=by
 refine D.fn.okH (k:=0) ZbI (fun vs H Q E h=>?_) (fun cdv A outer s H vs Q E hr h=>?_)
 ·obtain⟨v,k,qs,rfl,_⟩:=h;rfl
 obtain⟨v,k,qs,rfl,iv,ln,bq,bk,fin⟩:=h
 have hu:=u110 hr
 have hu0:=u0 hr
 have hu1:=hu_of hr
 refine⟨_,(wss_cons (ws_if (wt_cmpR (op_eqU hu) (wv 1) we_int (nomark _)) (wss_one (ws_ret (we_tup (wa_cons we_str (wa_cons (we_tup wa_nil) wa_nil))))) wss_nil)
   (wss_one (ws_ret (we_tup (wa_cons we_str (wa_cons (we_callTy call_tuple_of rfl T.z_tuple bt_tuple (wa_cons (we_lc (Nt:=["value","count"]) (fr:=[("k",1)]) (LcOk.of (sc:=defScope (top 9)) (N:=["bag","k"]) rfl rfl (by decide +kernel)) rfl (wi_U (we_ix (ix_U hu1) (wv 0) we_int (fun _ _=>rfl))) (fun z=>wg_tup rfl (wgs_cons (wg_name (i:=0) (by show (["value","count","k"]:List Str).Nodup;decide +kernel) rfl (Or.inl rfl) (.inr rfl)) (wgs_cons (wg_name (i:=1) (by show (["value","count","k"]:List Str).Nodup;decide +kernel) rfl (Or.inl rfl) (.inr rfl)) wgs_nil))) (fun z=>tgt_two (by decide) (by decide)) (fun z=>wif_nil) (fun z=>(we_tup (wa_cons (wv 0) (wa_cons (we_op op_mulB (wv 1) (wv 2)) wa_nil))))) wa_nil)) wa_nil)))))),?_⟩
 refine⟨_,rfl,.inl ⟨rfl,_,rfl,?_⟩⟩
 refine ite2 (fun e=>?_) (fun e=>?_)
 ·have k0:k=0:=by have:=of_decide_eq_true e;injection this
  refine⟨(by show 0<=sizeLine;decide),fun t0 h0=>⟨(by show 2<=sizeLine;decide),fun t1 h1=>?_⟩⟩
  refine fin _ _ ((same_new h0 _).trans (same_new h1 _)) ?_
  unfold timesQ
  rw[if_pos k0]
  show IsDt _ (dat (.bag [])) _
  rw[dat_two]
  exact isDt_new h1 (.cons (by rw[IsDt];rfl) (.one (by rw[restD,datB];exact isDt_new h0 .nil)))
 have k0:k≠0:=fun z=>e (by rw[z];exact decide_eq_true rfl)
 obtain⟨a,b,us,rfl,ha,hb,ib⟩:=va_bag hEm (.inl iv)
 have nus:us.length=qs.length:=by rw[ib.length,datB_map,List.length_map]
 refine .inr ⟨_,rfl,ixt (ha _ (Stay.same (.refl _))) at1 ⟨b,rfl,⟨us,hb _ (Stay.same (.refl _))⟩,?_⟩⟩
 refine⟨fun i2 m2 zs H6=>Same H H6/\m2+i2=qs.length/\i2<=qs.length/\IsDts H6 (datB ((qs.take i2).map fun q=>(q.1,q.2 * k))) zs,⟨qs.length,.refl _,rfl,Nat.zero_le _,.nil⟩,?_⟩
 rintro i2 m2 zs H6 ⟨s6,hm2,li2,iz⟩
 have nz:zs.length=i2:=by rw[iz.length,datB_map,List.length_map,List.length_map,List.length_take];lia
 have sy6:=Stay.same s6
 refine⟨line1 (by lia),?_⟩
 by_cases hi2:i2<qs.length
 ·obtain⟨cc,vv,e6,hcc,ivv⟩:=pair_at ib hi2
  refine .inr ⟨⟨_,_,hb _ sy6,e6⟩,fun zc x1 H7 hy=>?_⟩
  obtain⟨rfl,hy⟩:=hy
  have e7:=hy _ (hb _ sy6)
  rw[e6]at e7
  cases e7
  refine⟨cc,_,rfl,SqT.of (s6 _ _ hcc),rfl,_,_,rfl,_,_,rfl,rfl,?_⟩
  refine tall ?_
  refine⟨_,rfl,_,rfl,_,rfl,_,_,rfl,rfl,⟨bq _ (List.getElem_mem hi2),bk⟩,(by show 2<=sizeLine;decide),fun t ht=>?_⟩
  refine⟨m2-1,by lia,s6.trans (same_new ht _),by lia,by lia,?_⟩
  have tk:((qs.take (i2+1)).map fun q=>(q.1,q.2 * k))=((qs.take i2).map fun q=>(q.1,q.2 * k))++[(qs[i2].1,qs[i2].2 * k)]:=by rw[List.take_add_one,List.getElem?_eq_getElem hi2,List.map_append];rfl
  rw[tk,datB_map,List.map_append,<- datB_map]
  exact (IsDts.mono (same_new ht _).tups iz).append (.one (isDt_new ht (.cons (IsDt.mono s6.tups ivv) (.one (by rw[IsDt])))))
 ·rw[List.take_of_length_le (by lia)]at iz
  refine .inl ⟨⟨_,hb _ sy6,by lia⟩,fun l2 hl2=>⟨l2,zs,rfl,.inl ⟨SqL.of upd_same,fun t ht=>⟨(by show 2<=sizeLine;decide),fun t1 h1=>?_⟩⟩⟩⟩
  refine fin _ _ (s6.trans ((same_new hl2 _).trans ((same_new ht _).trans (same_new h1 _)))) ?_
  unfold timesQ
  rw[if_neg k0]
  show IsDt _ (dat (.bag _)) _
  rw[dat_two]
  exact isDt_new h1 (.cons (by rw[IsDt];rfl) (.one (isDt_tup upd_same (IsDts.mono ((same_new hl2 _).trans (same_new ht _)).tups iz))))
theorem ZbJ:FnScope ["question","below"] ["question","below"] (defScope (top 33)):=⟨rfl,rfl,rfl,by decide +kernel,rfl,by decide +kernel,by decide +kernel⟩
theorem ok_timesA (T:Tx mg) (D:Df K mg "times_answer" (top 33) f fd ["question","below"]) (Zau:Df K mg "times" (top 9) ZaZ Za1 ["bag","k"]) (ZbK:FnOk P w K mg base CX0 1 ZaZ Za1 ["bag","k"] spTimes) :
  FnOk P w K mg base CX0 2 f fd ["question","below"] (spF aE Fr "times"):=by
 refine D.fn.okH (k:=1) ZbJ (fun vs H Q E h=>?_) (fun cdv A outer s H vs Q E hr h=>?_)
 ·obtain⟨q,u,t,gv,rs,x,rfl,_⟩:=h;rfl
 obtain⟨q,u,t,gv,rs,x,rfl,hw,hq,hl,rv,e,fin⟩:=h
 have hu:=u110 hr
 have hu0:=u0 hr
 have hu1:=hu_of hr
 refine⟨_,(wss_one (ws_ret (we_call ZbK (hr.mono (by lia)) rfl Zau.mg Zau.kp Zau.b .nil pass0 (wa_cons (we_ix (ix_U hu1) (wv 1) we_int (fun _ _=>rfl)) (wa_cons (we_ix (ix_U hu1) (wv 0) we_int (fun _ _=>rfl)) wa_nil))))),?_⟩
 obtain⟨i,q0,ps,rfl,rfl,rfl,b1,b2,b3⟩:=fr_times e hw
 obtain⟨v,rfl,h1⟩:=all2_1 rv
 obtain⟨b,zs,rfl,hb,_⟩:=tr_node hq.2
 exact⟨_,rfl,ixl (SqL.of hl) at0 ⟨_,rfl,ixt (SqT.of hb) at1 ⟨v,i,ps,rfl,h1,b1,b2,b3,fun w' H' s' iv=>fin _ _ s' iv⟩⟩⟩
theorem ZbL:FnScope ["question","below"] ["question","below"] (defScope (top 30)):=⟨rfl,rfl,rfl,by decide +kernel,rfl,by decide +kernel,by decide +kernel⟩
theorem ok_noneA (T:Tx mg) (ZbM:mg "EMPTY"=some (.ref aE)) (D:Df K mg "none_answer" (top 30) f fd ["question","below"]):FnOk P w K mg base CX0 1 f fd ["question","below"] (spF aE Fr "none"):=by
 refine D.fn.okH ZbL (fun vs H Q E h=>?_) (fun cdv A outer s H vs Q E hr h=>?_)
 ·obtain⟨q,u,t,gv,rs,x,rfl,_⟩:=h;rfl
 obtain⟨q,u,t,gv,rs,x,rfl,hw,hq,hl,rv,e,fin⟩:=h
 refine⟨_,(wss_one (ws_ret (we_glob rfl ZbM (relv_ref _)))),?_⟩
 obtain rfl:=fr_none e hw
 exact fin _ _ (.refl _) (.inr ⟨rfl,rfl⟩)
theorem ZbN:FnScope ["one","other"] ["one","other"] (defScope (top 8)):=⟨rfl,rfl,rfl,by decide +kernel,rfl,by decide +kernel,by decide +kernel⟩
def spAdded:Sp:=fun vs H Q _=>∃ (v u:V) (qs rs:List (Val×Int)),vs=[v,u]/\VA aE H (.bag qs) v/\IsDt H (dat (.bag rs)) u/\Sml (qs++rs) /\
 ∀ (w:V) (H':Hp),Same H H'->IsDt H' (dat (.bag (theBag (qs++rs)))) w->Q w H'
theorem ok_added (T:Tx mg) (hEm:EmpAt K aE) (D:Df K mg "added" (top 8) f fd ["one","other"]) (Zav:Df K mg "bag_of" (top 7) f_of fd_of ["pairs"]) (ZbO:FnOk P w K mg base CX0 4 f_of fd_of ["pairs"] spBagOf) :
  FnOk P w K mg base CX0 5 f fd ["one","other"] (spAdded aE):=by
 refine D.fn.okH (k:=4) ZbN (fun vs H Q E h=>?_) (fun cdv A outer s H vs Q E hr h=>?_)
 ·obtain⟨v,u,qs,rs,rfl,_⟩:=h;rfl
 obtain⟨v,u,qs,rs,rfl,iv,iu,sm,fin⟩:=h
 have hu:=u110 hr
 have hu0:=u0 hr
 have hu1:=hu_of hr
 refine⟨_,(wss_one (ws_ret (we_call ZbO (hr.mono (by lia)) rfl Zav.mg Zav.kp Zav.b .nil pass0 (wa_cons (we_op op_plusE (we_ix (ix_U hu1) (wv 0) we_int (fun _ _=>rfl)) (we_ix (ix_U hu1) (wv 1) we_int (fun _ _=>rfl))) wa_nil)))),?_⟩
 obtain⟨a',b',us',rfl,ha',hb',ib'⟩:=bag_at iu
 have done:∀ (q:Addr) (us:List V) (H6:Hp),Same H H6->H6 q=some (.tup us)->IsDts H6 (datB (qs++rs)) us->∀ E',spBagOf [.ref q] H6 Q E':=fun q us H6 s6 hq iq _=>
  ⟨q,us,qs++rs,rfl,⟨_,hq,.inr rfl⟩,iq,sm.1,sm.2,fun w H7 ts s7 iw bag frm=>fin w H7 (s6.trans s7) (by rw[<- theBag_of bag fun _=>rfl];exact iw)⟩
 rcases iv with iv | ⟨e,rfl⟩
 ·obtain⟨a,b,us,rfl,ha,hb,ib⟩:=bag_at iv
  have n1:us.length=qs.length:=by rw[ib.length,datB_map,List.length_map]
  have n2:us'.length=rs.length:=by rw[ib'.length,datB_map,List.length_map]
  have ln:=sm.1
  rw[List.length_append]at ln
  refine⟨_,rfl,ixt (SqT.of ha) at1 ⟨_,rfl,ixt (SqT.of ha') at1 (.inr ⟨b,b',us,us',rfl,rfl,hb,hb',Nat.le_of_lt (line1 (by lia)),fun q H6 s6 hq=>done q _ H6 s6 hq ?_ E⟩)⟩⟩
  have s6:Same H H6:=s6
  rw[datB_map,List.map_append,<- datB_map,<- datB_map]
  exact (IsDts.mono s6.tups ib).append (IsDts.mono s6.tups ib')
 ·obtain⟨bE,h1,h2⟩:=hEm
  cases e
  exact⟨_,rfl,ixt (h1 _) at1 ⟨_,rfl,ixt (SqT.of ha') at1 (.inl ⟨bE,b',us',rfl,rfl,h2 _,hb',done b' us' H (.refl _) hb' ib' E⟩)⟩⟩
theorem ZbP:FnScope ["question","below"] ["question","below"] (defScope (top 32)):=⟨rfl,rfl,rfl,by decide +kernel,rfl,by decide +kernel,by decide +kernel⟩
theorem ok_bothA (T:Tx mg) (D:Df K mg "both_answer" (top 32) f fd ["question","below"]) (Zaw:Df K mg "added" (top 8) Za0 Za2 ["one","other"]) (ZbQ:FnOk P w K mg base CX0 5 Za0 Za2 ["one","other"] (spAdded aE)) :
  FnOk P w K mg base CX0 6 f fd ["question","below"] (spF aE Fr "both"):=by
 refine D.fn.okH (k:=5) ZbP (fun vs H Q E h=>?_) (fun cdv A outer s H vs Q E hr h=>?_)
 ·obtain⟨q,u,t,gv,rs,x,rfl,_⟩:=h;rfl
 obtain⟨q,u,t,gv,rs,x,rfl,hw,hq,hl,rv,e,fin⟩:=h
 have hu:=u110 hr
 have hu0:=u0 hr
 have hu1:=hu_of hr
 refine⟨_,(wss_one (ws_ret (we_call ZbQ (hr.mono (by lia)) rfl Zaw.mg Zaw.kp Zaw.b .nil pass0 (wa_cons (we_ix (ix_U hu1) (wv 1) we_int (fun _ _=>rfl)) (wa_cons (we_ix (ix_U hu1) (wv 1) we_int (fun _ _=>rfl)) wa_nil))))),?_⟩
 obtain⟨a,xs,ys,rfl,rfl,ha,sm⟩:=fr_both e hw
 obtain⟨v1,v2,rfl,h1,h2⟩:=all2_2 rv
 exact⟨_,rfl,ixl (SqL.of hl) at0 ⟨_,rfl,ixl (SqL.of hl) at1 ⟨v1,v2,xs,ys,rfl,ha.va h1,h2,sm,fun w' H' s' iv=>fin _ _ s' iv⟩⟩⟩
end
end K21
end
section
namespace K21
open PySem L2 Kn
section
variable {P:Program}{w:World}{K:PySem.W.Frag}{mg:Str->Option Value}{base:Heap}{f f_init f_later f_run Zax:Addr}{fd fd_init fd_later fd_run Zbd:FuncData}{C:Addr}
variable (aE:Addr) (Fn:Fns) (F:Tr->List Res->Res->Prop)
def spAns:Sp:=fun vs H Q _=>∃ (u:V) (d e:Addr) (q:Tr) (E S:Ev0) (y:Res) (c:Nat),vs=[u,.ref d,.ref e]/\Qn H q u/\EnvAt H E d/\EnvAt H S e/\Ev F E S q y c/\c<=1000000/\∀ v H',Same H H'->RV aE H' y v->Q v H'
theorem Zbe:FnScope ["question","values","store","walk"] ["question","values","store"] (defScope (top 18)):=⟨rfl,rfl,rfl,by decide +kernel,rfl,by decide +kernel,by decide +kernel⟩
theorem ok_answer {k:Nat} (hk:2<=k) (T:Tx mg) (Zad:Cls K C) (ZbR:Mk K C f_init) (ZbS:mg "Walk"=some (.ref C)) (D:Df K mg "answer" (top 18) f fd ["question","values","store"]) (Zao:Df K mg "begin" (top 19) (Fn .bg) Zbd ["walk","question","around"])
  (ZbT:Mf K C "__init__" "Walk.__init__" (mtop 14 0) f_init fd_init ["self"]) (ZbU:FnOk P w K mg base CX0 1 f_init fd_init ["self"] (spInit C))
  (Zal:Mf K C "later" "Walk.later" (mtop 14 1) f_later fd_later ["self","step","question","around"]) (Zaq:FnOk P w K mg base CX0 1 f_later fd_later ["self","step","question","around"] (spLater C))
  (Zbf:Mf K C "run" "Walk.run" (mtop 14 4) f_run fd_run ["self"]) (Za3:∀ E S,FnOk P w K mg base CX0 k f_run fd_run ["self"] (spRun aE Fn F E S C)) :
  FnOk P w K mg base CX0 (k+1) f fd ["question","values","store"] (spAns aE F):=by
 refine D.fn.okH Zbe (fun vs H Q E h=>?_) (fun cdv A outer s H vs Q E hr h=>?_)
 ·obtain⟨u,d,e,q,E0,S,y,c,rfl,_⟩:=h;rfl
 obtain⟨u,d,e,q,E0,S,y,c,rfl,hq,hE,hS,ev,lc,fin⟩:=h
 have hu:=u110 hr
 have hu0:=u0 hr
 have hu1:=hu_of hr
 replace Za3:=Za3 E0 S
 refine⟨_,(wss_cons (ws_set (i:=3) Zbe.nd rfl (Or.inl rfl) (we_make0 ZbR ZbU (hr.mono (by lia)) rfl ZbS ZbT.b .nil pass0))
   (wss_cons (ws_expr (we_meth (wv 3) Zad Zal.mt Zaq (hr.mono (by lia)) Zal.b .nil pass0 (wa_cons (we_glob rfl Zao.mg (relv_ref _)) (wa_cons (wv 0) (wa_cons (we_tup (wa_cons (wv 1) (wa_cons (wv 2) wa_nil))) wa_nil)))))
   (wss_one (ws_ret (we_meth0 (wv 3) Zad Zbf.mt Za3 (hr.mono (by lia)) Zbf.b .nil pass0))))),?_⟩
 refine seqH fun N toN=>fun x dx hx hdx nd=>⟨x,dx,rfl,upd_same,fun l r H1 ex1 wk1 hl hr1=>⟨rfl,toN _ _ ?_⟩⟩
 have s0:Same H (upd (upd H dx (.own x)) x (.ins C dx [])):=fun b o e=>by rw[upd_ne (ne_of_none e hx),upd_ne (ne_of_none e hdx)];exact e
 have s1:Same H H1:=fun b o e=>ex1 b o (ne_of_none e hx) (s0 b o e)
 have nl:∀ b o,H b=some o->b≠l/\b≠r:=fun b o e=>⟨fun z=>(by rw[<- z,s0 b o e]at hl;cases hl),fun z=>(by rw[<- z,s0 b o e]at hr1;cases hr1)⟩
 refine seqH fun N2 toN2=>⟨_,rfl,x,dx,_,rfl,wk1.at_,rfl,_,rfl,_,rfl,_,rfl,(by show 2<=sizeLine;decide),fun t ht=>?_⟩
 have s2:=s1.trans (same_new ht (.tup [.ref d,.ref e]))
 have wk2:=wk1.keep (same_new ht (.tup [.ref d,.ref e]))
 have h2:(upd H1 t (.tup [.ref d,.ref e])) t=some (.tup [.ref d,.ref e]):=upd_same
 obtain⟨H2,e2⟩:∃ H2,H2=upd H1 t (.tup [.ref d,.ref e]):=⟨_,rfl⟩
 rw[<- e2]at s2 wk2 h2 ⊢
 clear e2
 refine⟨x,dx,l,r,[],[],_,_,_,rfl,wk2,Nat.zero_le _,fun t3 H3 ex3 ht3 hl3 wk3=>toN2 _ _ ?_⟩
 have sy3:=(Stay.same s2).trans (Stay.of wk2 ex3)
 refine⟨_,rfl,x,dx,_,rfl,wk3.at_,rfl,x,dx,l,r,_,[],[.begin q],[],y,c,rfl,wk3,.cons ⟨t3,_,_,rfl,hl3,hq.mono sy3.tp,t,d,e,rfl,(Stay.of wk2 ex3).tp _ _ h2,hE.mono sy3,hS.mono sy3⟩ .nil,.nil,ev.all,by simpa using lc,fun v H4 ex4 iv=>?_⟩
 refine fin v H4 (fun b o eb=>?_) iv
 obtain⟨n1,n2⟩:=nl b o eb
 exact ex4 b o n1 n2 (ex3 b o n1 n2 (s2 b o eb))
end
end K21
end
section
namespace K21
open PySem L2 Kn
theorem bm (a k:Int) (h:0<k) (h2:k<2 ^ 64):-(2 ^ 64)<a % k/\a % k<2 ^ 64:=by
 have:=Int.emod_nonneg a (show k≠0 by lia)
 have:=Int.emod_lt_of_pos a h
 lia
theorem atI_mem {α:Type} {xs:List α}{r:Int} (h0:0<=r) (h1:r<xs.length):∃ v,atI xs r=some v/\v∈xs:=by
 have hk:r.toNat<xs.length:=by lia
 have e:((r.toNat:Nat):Int)=r:=by lia
 have z:atI xs ((r.toNat:Nat):Int)=some xs[r.toNat]:=atI_nat (List.getElem?_eq_getElem hk)
 rw[e]at z
 exact⟨_,z,List.getElem_mem hk⟩
theorem cut63 {xs:List V} (h:xs.length<=63):cutV xs none (some 63)=xs:=by
 have e0:HT.sIx xs.length 0 none=0:=rfl
 have e1:HT.sIx xs.length xs.length (some 63)=xs.length:=by
  unfold HT.sIx
  simp only[]
  split <;> (try split) <;> lia
 unfold cutV
 rw[e0,e1,List.drop_zero,Nat.sub_zero,List.take_length]
def Dk (H:Hp) (p:Addr) (cs:List Addr):Prop:=∃ (s:Addr) (rs:List Addr) (n b:Int),cs=s::rs/\H p=some (.lst [.ref s,.int n,.int b,.int 3,.int 4])/\H s=some (.lst (rs.map V.ref))/\s ∉ p::rs/\p ∉ rs/\0<rs.length/\rs.length<=63 /\
 ∀ r∈rs,∃ a st fl:Int,H r=some (.lst [.int a,.int st,.int fl])
def ExD (p:Addr) (rs:List Addr) (H H':Hp):Prop:=∀ b o,b ∉ p::rs->H b=some o->H' b=some o
theorem ExD.trans {p:Addr}{rs:List Addr}{H H1 H2:Hp} (a:ExD p rs H H1) (b:ExD p rs H1 H2):ExD p rs H H2:=fun c o n e=>b c o n (a c o n e)
theorem ExD.same {p:Addr}{rs:List Addr}{H H':Hp} (s:Same H H'):ExD p rs H H':=fun c o _ e=>s c o e
theorem Dk.ex {H H':Hp}{p:Addr}{cs:List Addr} (d:Dk H p cs) (s:∀ b o,b∈p::cs->H b=some o->H' b=some o):Dk H' p cs:=by
 obtain⟨a,rs,n,b,rfl,h1,h2,h3,np,l0,l1,c⟩:=d
 exact⟨a,rs,n,b,rfl,s _ _ List.mem_cons_self h1,s _ _ (List.mem_cons_of_mem _ List.mem_cons_self) h2,h3,np,l0,l1,fun r hr=>by obtain⟨x,y,z,e⟩:=c r hr;exact⟨x,y,z,s _ _ (List.mem_cons_of_mem _ (List.mem_cons_of_mem _ hr)) e⟩⟩
theorem Dk.keep {H H':Hp}{p:Addr}{rs:List Addr} (d:Dk H p rs) (s:Same H H'):Dk H' p rs:=d.ex fun b o _ e=>s b o e
theorem Dk.updL {H:Hp}{p l:Addr}{rs:List Addr}{o:HO} (d:Dk H p rs) (n:l ∉ p::rs):Dk (upd H l o) p rs:=d.ex fun b o hb e=>by rw[upd_ne (show b≠l from fun z=>n (by rw[<- z];exact hb))];exact e
theorem Dk.lst {H:Hp}{p l:Addr}{rs:List Addr} (d:Dk H p rs) (z:l∈p::rs):∃ xs,H l=some (.lst xs):=by
 obtain⟨a,rs,n,b,rfl,h1,h2,h3,np,l0,l1,c⟩:=d
 rcases List.mem_cons.mp z with rfl | z
 ·exact⟨_,h1⟩
 rcases List.mem_cons.mp z with rfl | z
 ·exact⟨_,h2⟩
 ·obtain⟨x,y,z,e⟩:=c _ z;exact⟨_,e⟩
theorem Dk.fresh {H:Hp}{p l:Addr}{rs:List Addr} (d:Dk H p rs) (h:H l=none):l ∉ p::rs:=fun z=>by
 obtain⟨xs,e⟩:=d.lst z;rw[h]at e;cases e
theorem Dk.nlst {H:Hp}{p l:Addr}{rs:List Addr}{o:HO} (d:Dk H p rs) (h:H l=some o) (n:∀ xs,o≠.lst xs):l ∉ p::rs:=fun z=>by
 obtain⟨xs,e⟩:=d.lst z;rw[h]at e;cases e;exact n _ rfl
theorem ExD.stay {H H':Hp}{p:Addr}{rs:List Addr} (d:Dk H p rs) (e:ExD p rs H H'):Stay H H':=
 ⟨fun a zs h=>e a _ (d.nlst h (by intro _ z;cases z)) h,fun a kvs h=>h.imp (fun h=>e a _ (d.nlst h (by intro _ z;cases z)) h) fun⟨o,h⟩=>⟨o,e a _ (d.nlst h (by intro _ z;cases z)) h⟩⟩
section
variable {P:Program}{w:World}{K:PySem.W.Frag}{mg:Str->Option Value}{base:Heap}{f f_draw:Addr}{fd fd_draw:FuncData}
theorem ZaP:FnScope ["decks","limit","deck","found","number"] ["decks","limit"] (defScope (top 42)):=⟨rfl,rfl,rfl,by decide +kernel,rfl,by decide +kernel,by decide +kernel⟩
def spDraw:Sp:=fun vs H Q _=>∃ (p:Addr) (rs:List Addr) (m:Int),vs=[.ref p,.int m]/\Dk H p rs/\0<m/\m<1073741824 /\
 ∀ (r:Int) (H':Hp),ExD p rs H H'->Dk H' p rs->0<=r->r<m->Q (.int r) H'
theorem ok_draw (T:Tx mg) (D:Df K mg "_law_draw" (top 42) f fd ["decks","limit"]):FnOk P w K mg base CX0 1 f fd ["decks","limit"] spDraw:=by
 refine D.fn.okH ZaP (fun vs H Q E h=>?_) (fun cdv A outer s H vs Q E hr h=>?_)
 ·obtain⟨p,rs,m,rfl,_⟩:=h;rfl
 obtain⟨p,cs,m,rfl,⟨ss,rs,n,bu,rfl,hp,hs,ns,np,l0,l1,hc⟩,m0,m1,q⟩:=h
 have hu:=u110 hr
 have hu0:=u0 hr
 have hu1:=hu_of hr
 refine⟨_,(wss_cons (ws_set (i:=2) ZaP.nd rfl (Or.inl rfl) (we_ix (ix_U hu1) (we_ix (ix_U hu1) (wv 0) we_int (fun _ _=>rfl)) (we_op op_mod (we_ix (ix_U hu1) (wv 0) we_int (fun _ _=>rfl)) (we_callB call_lenU rfl T.z_len bt_len (wa_cons (we_ix (ix_U hu1) (wv 0) we_int (fun _ _=>rfl)) wa_nil))) (fun _ _=>rfl)))
   (wss_cons (ws_asg (we_op op_plus (we_ix (ix_U hu1) (wv 0) we_int (fun _ _=>rfl)) we_int) (wg_sub (wv 0) we_int (set_U hu1)))
   (wss_cons (ws_if (wt_pw (ww_and (wt_cmpR (op_eqU hu) (we_ix (ix_U hu1) (wv 2) we_int (fun _ _=>rfl)) we_int (nomark _)) (ww_and1 (wt_cmpR op_gt (we_ix (ix_U hu1) (wv 2) we_int (fun _ _=>rfl)) we_int (nomark _))))) (wss_cons (ws_set (i:=3) ZaP.nd rfl (Or.inl rfl) (we_op op_mod (we_ix (ix_U hu1) (wv 2) we_int (fun _ _=>rfl)) (wv 1)))
   (wss_cons (ws_asg (we_op op_fdiv (we_ix (ix_U hu1) (wv 2) we_int (fun _ _=>rfl)) (wv 1)) (wg_sub (wv 2) we_int (set_U hu1)))
   (wss_one (ws_ret (wv 3))))) wss_nil)
   (wss_cons (ws_asg (we_op op_mod (we_op op_plus (we_op op_plus (we_op op_mul (we_ix (ix_U hu1) (wv 2) we_int (fun _ _=>rfl)) we_int) (we_op op_mul we_int (we_ix (ix_U hu1) (wv 0) we_int (fun _ _=>rfl)))) we_int) we_int) (wg_sub (wv 2) we_int (set_U hu1)))
   (wss_cons (ws_set (i:=4) ZaP.nd rfl (Or.inl rfl) (we_op op_mod (we_op op_mul (we_ix (ix_U hu1) (wv 2) we_int (fun _ _=>rfl)) (we_ix (ix_U hu1) (wv 2) we_int (fun _ _=>rfl))) we_int))
   (wss_one (ws_ret (we_op op_mod (we_op op_fdiv (we_op op_mod (we_op op_mul (wv 4) (wv 4)) we_int) we_int) (wv 1))))))))),?_⟩
 have lr:(rs.map V.ref).length=rs.length:=List.length_map ..
 have r0:0<=n % ((rs.map V.ref).length:Int):=Int.emod_nonneg _ (by lia)
 have r1:n % ((rs.map V.ref).length:Int)<(rs.map V.ref).length:=Int.emod_lt_of_pos _ (by lia)
 obtain⟨dv,edv,mdv⟩:=atI_mem r0 r1
 obtain⟨d,hd,rfl⟩:=List.mem_map.mp mdv
 refine seqH fun N toN=>⟨_,rfl,ixl (SqL.of hp) rfl ⟨_,rfl,ixl (SqL.of hp) rfl ⟨_,rfl,ixl (SqL.of hp) rfl (.inl ⟨ss,_,rfl,.inl (SqL.of hs),n,_,rfl,rfl,(by show (0:Int)<((rs.map V.ref).length:Int);lia),ixl (SqL.of hs) edv (toN _ _ ?_)⟩)⟩⟩⟩
 refine seqH fun N2 toN2=>⟨_,rfl,ixl (SqL.of hp) rfl (.inl ⟨_,_,rfl,rfl,_,rfl,.inl ⟨p,_,_,1,rfl,rfl,hp,rfl,toN2 _ _ ?_⟩⟩)⟩
 have hp1:(upd H p (.lst ([V.ref ss,.int n,.int bu,.int 3,.int 4].set 1 (.int (n+1))))) p=some (.lst [V.ref ss,.int (n+1),.int bu,.int 3,.int 4]):=upd_same
 have ex1:∀ b o,b≠p->H b=some o->(upd H p (.lst ([V.ref ss,.int n,.int bu,.int 3,.int 4].set 1 (.int (n+1))))) b=some o:=fun b o nb e=>by rw[upd_ne nb];exact e
 obtain⟨H1,e1⟩:∃ H1,H1=upd H p (.lst ([V.ref ss,.int n,.int bu,.int 3,.int 4].set 1 (.int (n+1)))):=⟨_,rfl⟩
 rw[<- e1]at hp1 ex1 ⊢
 clear e1
 obtain⟨a,st,fl,hdd⟩:=hc d hd
 have nd:d≠p:=fun z=>np (z ▸ hd)
 have nsp:ss≠p:=fun z=>ns (z ▸ List.mem_cons_self)
 have hd1:=ex1 _ _ nd hdd
 have done:∀ (H':Hp) (a' st':Int),(∀ b o,b≠d->H1 b=some o->H' b=some o)->H' d=some (.lst [.int a',.int st',.int fl])->∀ r,0<=r->r<m->Q (.int r) H':=fun H' a' st' ex' hd' r r0 r1=>
  q r H' (fun b o nb e=>ex' b o (fun z=>nb (z ▸ List.mem_cons_of_mem _ (List.mem_cons_of_mem _ hd))) (ex1 b o (fun z=>nb (z ▸ List.mem_cons_self)) e))
   ⟨ss,rs,n+1,bu,rfl,ex' _ _ (Ne.symm nd) hp1,ex' _ _ (fun z=>ns (z ▸ List.mem_cons_of_mem _ hd)) (ex1 _ _ nsp hs),ns,np,l0,l1,fun r hr=>by
    by_cases z:r=d
    ·exact⟨_,_,_,z ▸ hd'⟩
    ·obtain⟨x,y,u,e⟩:=hc r hr
     exact⟨x,y,u,ex' _ _ z (ex1 _ _ (fun z=>np (z ▸ hr)) e)⟩⟩ r0 r1
 refine seqH fun N3 toN3=>?_
 have rest:∀ σ,σ=[some (.ref p),some (.int m),some (.ref d),none,none]->N3 σ H1:=fun σ hσ=>by
  subst hσ
  refine toN3 _ _ (seqH fun N4 toN4=>⟨_,rfl,ixl (SqL.of hd1) rfl ⟨_,_,rfl,rfl,.inr ⟨by decide,by decide⟩,⟨_,rfl,ixl (SqL.of hp1) rfl ⟨_,_,rfl,rfl,.inl ⟨by decide,by decide⟩,.inl ⟨_,_,rfl,rfl,.inl ⟨_,_,rfl,rfl,_,_,rfl,rfl,(by show (0:Int)<1999999943;decide),_,rfl,.inl ⟨d,_,_,1,rfl,rfl,hd1,rfl,toN4 _ _ ?_⟩⟩⟩⟩⟩⟩⟩)
  have hd2:∀ v,(upd H1 d (.lst ([V.int a,.int st,.int fl].set 1 v))) d=some (.lst [V.int a,v,.int fl]):=fun v=>upd_same
  refine seqH fun N5 toN5=>⟨_,rfl,ixl (SqL.of (hd2 _)) rfl ⟨_,rfl,ixl (SqL.of (hd2 _)) rfl ⟨_,_,rfl,rfl,.inl (bm _ _ (by decide) (by decide)),_,_,rfl,rfl,(by show (0:Int)<1999999927;decide),toN5 _ _ ?_⟩⟩⟩
  exact⟨_,rfl,_,rfl,_,_,rfl,rfl,.inl (bm _ _ (by decide) (by decide)),_,_,rfl,rfl,(by show (0:Int)<1999999913;decide),_,_,rfl,rfl,⟨by decide,by decide⟩,_,rfl,_,_,rfl,rfl,m0,done _ _ _ (fun b o nb e=>by rw[upd_ne nb];exact e) (hd2 _) _ (Int.emod_nonneg _ (by lia)) (Int.emod_lt_of_pos _ m0)⟩
 refine⟨_,rfl,ixl (SqL.of hd1) rfl (.inl ⟨rfl,_,rfl,?_⟩)⟩
 refine ite2 (fun e1=>?a) (fun e1=>rest _ rfl)
 refine⟨_,rfl,ixl (SqL.of hd1) rfl ⟨_,_,rfl,rfl,_,rfl,?_⟩⟩
 refine ite2 (fun e2=>?b) (fun e2=>rest _ rfl)
 refine⟨_,rfl,ixl (SqL.of hd1) rfl ⟨_,rfl,_,_,rfl,rfl,m0,?_⟩⟩
 refine⟨_,rfl,ixl (SqL.of hd1) rfl ⟨_,rfl,_,_,rfl,rfl,⟨m0,m1⟩,_,rfl,.inl ⟨d,_,_,0,rfl,rfl,hd1,rfl,?_⟩⟩⟩
 exact⟨_,rfl,done _ _ _ (fun b o nb e=>by rw[upd_ne nb];exact e) upd_same _ (Int.emod_nonneg _ (by lia)) (Int.emod_lt_of_pos _ m0)⟩
theorem ZaQ:FnScope ["decks","style","number"] ["decks"] (defScope (top 47)):=⟨rfl,rfl,rfl,by decide +kernel,rfl,by decide +kernel,by decide +kernel⟩
def spNum:Sp:=fun vs H Q _=>∃ (p:Addr) (rs:List Addr),vs=[.ref p]/\Dk H p rs/\∀ (i:Int) (H':Hp),ExD p rs H H'->Dk H' p rs->i.natAbs<10 ^ 30->Q (.int i) H'
theorem ok_number (T:Tx mg) (D:Df K mg "_law_number" (top 47) f fd ["decks"]) (Zaa:Df K mg "_law_draw" (top 42) f_draw fd_draw ["decks","limit"]) (Zab:FnOk P w K mg base CX0 1 f_draw fd_draw ["decks","limit"] spDraw) :
  FnOk P w K mg base CX0 2 f fd ["decks"] spNum:=by
 refine D.fn.okH (k:=1) ZaQ (fun vs H Q E h=>?_) (fun cdv A outer s H vs Q E hr h=>?_)
 ·obtain⟨p,rs,rfl,_⟩:=h;rfl
 obtain⟨p,rs,rfl,dk,fin⟩:=h
 have hu:=u110 hr
 have hu0:=u0 hr
 have hu1:=hu_of hr
 refine⟨_,(wss_cons (ws_set (i:=1) ZaQ.nd rfl (Or.inl rfl) (we_call Zab (hr.mono (by lia)) rfl Zaa.mg Zaa.kp Zaa.b .nil pass0 (wa_cons (wv 0) (wa_cons we_int wa_nil))))
   (wss_cons (ws_set (i:=2) ZaQ.nd rfl (Or.inl rfl) (we_call Zab (hr.mono (by lia)) rfl Zaa.mg Zaa.kp Zaa.b .nil pass0 (wa_cons (wv 0) (wa_cons (we_ix (ix_U hu1) (we_lst (wa_cons we_int (wa_cons we_int (wa_cons (we_op op_pow we_int we_int) (wa_cons (we_op op_pow we_int we_int) wa_nil))))) (wv 1) (fun _ _=>rfl)) wa_nil))))
   (wss_cons (ws_if (wt_cmpR (op_eqU hu) (wv 1) we_int (nomark _)) (wss_one (ws_set (i:=2) ZaQ.nd rfl (Or.inl rfl) (we_op op_plus (we_op op_mulB (wv 2) (we_op op_pow we_int we_int)) (we_call Zab (hr.mono (by lia)) rfl Zaa.mg Zaa.kp Zaa.b .nil pass0 (wa_cons (wv 0) (wa_cons (we_op op_pow we_int we_int) wa_nil)))))) wss_nil)
   (wss_one (ws_ret (we_op op_mulB (wv 2) (we_ix (ix_U hu1) (we_lst (wa_cons we_int (wa_cons we_int (wa_cons (we_un un_neg we_int) wa_nil)))) (we_call Zab (hr.mono (by lia)) rfl Zaa.mg Zaa.kp Zaa.b .nil pass0 (wa_cons (wv 0) (wa_cons we_int wa_nil))) (fun _ _=>rfl)))))))),?_⟩
 refine seqH fun N toN=>⟨_,rfl,p,rs,4,rfl,dk,by decide,by decide,fun st H1 ex1 dk1 s0 s1=>toN _ _ ?_⟩
 refine seqH fun N2 toN2=>⟨_,rfl,_,_,rfl,rfl,⟨by decide,by decide,by decide⟩,_,_,rfl,rfl,⟨by decide,by decide,by decide⟩,(by show 4<=sizeLine;decide),fun l hl=>?_⟩
 obtain⟨mv,emv,mmv⟩:=atI_mem (xs:=[V.int 3,.int 10,.int (10 ^ 9),.int (10 ^ 9)]) s0 s1
 obtain⟨m,rfl,m0,m1⟩:∃ m:Int,mv=.int m/\0<m/\m<1073741824:=by
  simp only[List.mem_cons,List.not_mem_nil,or_false]at mmv
  rcases mmv with rfl | rfl | rfl | rfl <;> exact⟨_,rfl,by decide,by decide⟩
 have s2:=same_new hl (.lst [V.int 3,.int 10,.int (10 ^ 9),.int (10 ^ 9)])
 refine⟨_,rfl,ixl (SqL.of upd_same) emv ⟨p,rs,m,rfl,dk1.keep s2,m0,m1,fun n H2 ex2 dk2 n0 n1=>toN2 _ _ ?_⟩⟩
 have ex02:=(ex1.trans (ExD.same s2)).trans ex2
 refine seqH fun N3 toN3=>?_
 have rest:∀ (i:Int) (H3:Hp),ExD p rs H H3->Dk H3 p rs->i.natAbs<10 ^ 30->N3 [some (.ref p),some (.int st),some (.int i)] H3:=fun i H3 ex3 dk3 b=>by
  refine toN3 _ _ ⟨_,rfl,_,rfl,(by show 3<=sizeLine;decide),fun l3 hl3=>⟨_,rfl,p,rs,3,rfl,dk3.keep (same_new hl3 _),by decide,by decide,fun r H4 ex4 dk4 r0 r1=>?_⟩⟩
  obtain⟨v,ev,mv⟩:=atI_mem (xs:=[V.int 1,.int 1,.int (-1)]) r0 r1
  obtain⟨j,rfl,bj⟩:∃ j:Int,v=.int j/\(j=1\/j=-1):=by
   simp only[List.mem_cons,List.not_mem_nil,or_false]at mv
   rcases mv with rfl | rfl | rfl
   ·exact⟨_,rfl,.inl rfl⟩
   ·exact⟨_,rfl,.inl rfl⟩
   ·exact⟨_,rfl,.inr rfl⟩
  have b6:i.natAbs<2 ^ 600:=Nat.lt_trans b (by decide +kernel)
  refine ixl (SqL.of (ex4 _ _ (dk3.fresh hl3) upd_same)) ev ⟨_,_,rfl,rfl,⟨b6,by rcases bj with rfl | rfl <;> decide +kernel⟩,fin _ _ (ex3.trans ((ExD.same (same_new hl3 _)).trans ex4)) dk4 ?_⟩
  rcases bj with rfl | rfl <;> rw[Int.natAbs_mul] <;> simpa using b
 have nb:n.natAbs<1073741824:=by lia
 refine⟨_,rfl,.inl ⟨rfl,_,rfl,ite2 (fun e=>?_) (fun e=>?_)⟩⟩
 ·refine⟨_,rfl,_,_,rfl,rfl,⟨by decide,by decide,by decide⟩,_,_,rfl,rfl,⟨Nat.lt_trans nb (by decide +kernel),by decide +kernel⟩,_,rfl,_,_,rfl,rfl,⟨by decide,by decide,by decide⟩,p,rs,10 ^ 9,rfl,dk2,by decide,by decide,fun r H3 ex3 dk3 r0 r1=>.inl ⟨_,_,rfl,rfl,rest _ H3 (ex02.trans ex3) dk3 ?_⟩⟩
  have h1:n<1073741824:=by lia
  show (n * 10 ^ 20+r).natAbs<10 ^ 30
  lia
 ·exact rest n H2 ex02 dk2 (Nat.lt_trans nb (by decide))
end
end K21
end
section
namespace K21
open PySem L2 Kn
theorem for_rangeH {lo:Int}{n:Nat}{g:TG}{tb:TS}{D:Ends} {σ:St} {H:Hp} (Pv:Nat->St->Hp->Prop) (h0:Pv 0 σ H)
  (hs:∀ (E:Ends) i σ H,i<n->Pv i σ H->(∀ σ H,Pv (i+1) σ H->E.nx σ H)->(∀ v H,D.rt v H->E.rt v H)->g (.int (lo+i)) σ H fun σ2 H2=>tb E σ2 H2) (hd:∀ σ H,Pv n σ H->D.nx σ H) :
  ∃ W:Nat->Nat->St->Hp->Prop,(∃ m,W 0 m σ H)/\∀ i m σ H,W i m σ H ->
   ((Itr lo n).stop i H/\D.nx σ H)\/((Itr lo n).go i H/\∃ N:St->Hp->Prop,(∀ σ' H',N σ' H'->∃ m',m'<m/\W (i+1) m' σ' H')/\∀ x H',(Itr lo n).yld i H x H'->g x σ H' fun σ2 H2=>tb { D with nx:=N,ct:=N,bk:=D.nx } σ2 H2):=
 for_range Pv h0 (fun i σ H hi q=>hs _ i σ H hi q (fun _ _ h=>h) fun _ _ h=>h) hd
theorem same_back {H H':Hp} (s:Same H H') {l:Addr} (h:H' l=none):H l=none:=by
 cases e:H l with
 | none=>rfl
 | some o=>rw[s _ _ e]at h;cases h
section
variable {P:Program}{w:World}{K:PySem.W.Frag}{mg:Str->Option Value}{base:Heap}{f:Addr}{fd:FuncData}
theorem Zay:FnScope ["script","budget","cells","some","k","start"] ["script","budget"] (defScope (top 41)):=⟨rfl,rfl,rfl,by decide +kernel,rfl,by decide +kernel,by decide +kernel⟩
def spDecks (K:PySem.W.Frag):Sp:=fun vs H Q _=>∃ (a:Addr) (ns:List Int),vs=[.ref a,.int 0]/\SqL K H a (ns.map V.int)/\ns.length<=63 /\
 ∀ (p:Addr) (rs:List Addr) (H':Hp),Same H H'->Dk H' p rs->Q (.ref p) H'
theorem ok_decks (T:Tx mg) (D:Df K mg "_law_decks" (top 41) f fd ["script","budget"]):FnOk P w K mg base CX0 1 f fd ["script","budget"] (spDecks K):=by
 refine D.fn.okH Zay (fun vs H Q E h=>?_) (fun cdv A outer s H vs Q E hr h=>?_)
 ·obtain⟨a,ns,rfl,_⟩:=h;rfl
 obtain⟨a,ns,rfl,hS,h63,fin⟩:=h
 have hu:=u110 hr
 have hu0:=u0 hr
 have hu1:=hu_of hr
 have hl':(ns.map V.int).length<=63:=by rw[List.length_map];exact h63
 refine⟨_,(wss_cons (ws_set (i:=2) Zay.nd rfl (Or.inl rfl) (we_slice sl_U (wv 0) wo_none (wo_some we_int)))
   (wss_cons (ws_if (wt_cmpR (op_eqLK hu0) (wv 2) (we_lst wa_nil) (nomark _)) (wss_one (ws_set (i:=2) Zay.nd rfl (Or.inl rfl) (we_lst (wa_cons we_int wa_nil)))) wss_nil)
   (wss_cons (ws_set (i:=3) Zay.nd rfl (Or.inl rfl) (we_lst wa_nil))
   (wss_cons (ws_for PassesOwn.never rfl (wi_range1 rfl T.z_range (wa_cons (we_callB call_lenU rfl T.z_len bt_len (wa_cons (wv 2) wa_nil)) wa_nil)) (wg_name (i:=4) Zay.nd rfl (Or.inl rfl)) (wss_cons (ws_set (i:=5) Zay.nd rfl (Or.inl rfl) (we_op op_mod (we_op op_mul (we_op op_plus (we_op op_plus (we_op op_plus (we_op op_mod (we_ix (ix_U hu1) (wv 2) (wv 4) (fun _ _=>rfl)) we_int) (we_op op_mul (we_op op_mul we_int (wv 4)) (wv 4))) (we_op op_mul we_int (wv 4))) we_int) we_int) we_int))
   (wss_one (ws_expr (we_bm PySem.F.plainAttrs_list PySem.F.slot_list_append PySem.F.type_list_append mt_append (wv 3) (wa_cons (we_lst (wa_cons (we_ix (ix_U hu1) (wv 2) (wv 4) (fun _ _=>rfl)) (wa_cons (wv 5) (wa_cons (we_callTy call_int1 rfl T.z_int bt_int (wa_cons (we_cmpR op_ge (we_ix (ix_U hu1) (wv 2) (wv 4) (fun _ _=>rfl)) (we_op op_pow we_int we_int) (nomark _)) wa_nil)) wa_nil)))) wa_nil))))))
   (wss_one (ws_ret (we_lst (wa_cons (wv 3) (wa_cons we_int (wa_cons (wv 1) (wa_cons we_int (wa_cons we_int wa_nil)))))))))))),?_⟩
 refine seqH fun N toN=>⟨_,rfl,_,rfl,.inl ⟨a,_,rfl,hS,fun q hq=>toN _ _ ?_⟩⟩
 rw[cut63 hl']
 have s1:=same_new hq (.lst (ns.map V.int))
 refine seqH fun N2 toN2=>?_
 have rest:∀ (c:Addr) (cs:List Int) (H2:Hp),Same H H2->H2 c=some (.lst (cs.map V.int))->1<=cs.length->cs.length<=63->N2 [some (.ref a),some (.int 0),some (.ref c),none,none,none] H2:=fun c cs H2 s2 hc lc1 lc2=>by
  refine toN2 _ _ (seqH fun N3 toN3=>⟨(by show 0<=sizeLine;decide),fun sm hsm=>toN3 _ _ ?_⟩)
  have s3:=same_new hsm (.lst [])
  have hsm3:(upd H2 sm (.lst [])) sm=some (.lst []):=upd_same
  obtain⟨H3,e3⟩:∃ H3,H3=upd H2 sm (.lst []):=⟨_,rfl⟩
  rw[<- e3]at s3 hsm3 ⊢
  clear e3
  have hc3:=s3 _ _ hc
  have ncs:c≠sm:=ne_of_none hc hsm
  have lcm:(cs.map V.int).length=cs.length:=List.length_map ..
  refine seqH fun N4 toN4=>⟨_,rfl,.inl ⟨c,_,rfl,.inl (SqL.of hc3),_,rfl,by lia,by lia,?_⟩⟩
  refine for_rangeH (n:=(((cs.map V.int).length:Nat):Int).toNat) (fun i σ H4=>∃ (rs:List Addr) (o4 o5:Option V),σ=[some (.ref a),some (.int 0),some (.ref c),some (.ref sm),o4,o5]/\(∀ b o,b≠sm->H3 b=some o->H4 b=some o)/\H4 sm=some (.lst (rs.map V.ref))/\rs.length=i/\∀ r∈rs,H3 r=none/\∃ x y z:Int,H4 r=some (.lst [.int x,.int y,.int z]))
   ⟨[],none,none,rfl,fun _ _ _ h=>h,hsm3,rfl,fun _ h=>(nomatch h)⟩ ?turn ?done
  case done=>
   rintro σ H4 ⟨rs,o4,o5,rfl,ex4,h4,l4,hr4⟩
   refine toN4 _ _ ⟨_,rfl,_,rfl,(by show 5<=sizeLine;decide),fun p hp=>?_⟩
   have s4:Same H H4:=fun b o e=>ex4 b o (ne_of_none (s2 _ _ e) hsm) (s3 _ _ (s2 _ _ e))
   have s5:=same_new hp (.lst [.ref sm,.int 0,.int 0,.int 3,.int 4])
   have np:p ∉ rs:=fun z=>by obtain⟨_,x,y,u,e⟩:=hr4 p z;rw[hp]at e;cases e
   refine fin p (sm::rs) _ (s4.trans s5) ⟨sm,rs,0,0,rfl,upd_same,s5 _ _ h4,fun z=>?_,np,by lia,by lia,fun r hr=>by obtain⟨_,x,y,u,e⟩:=hr4 r hr;exact⟨x,y,u,s5 _ _ e⟩⟩
   rcases List.mem_cons.mp z with rfl | z
   ·rw[h4]at hp;cases hp
   ·have:=(hr4 sm z).1;rw[hsm3]at this;cases this
  case turn=>
   rintro E4 i σ H4 hi ⟨rs,o4,o5,rfl,ex4,h4,l4,hr4⟩ toE _
   have hi':i<cs.length:=by lia
   obtain⟨v,hv,hvm⟩:=atI_mem (xs:=cs.map V.int) (r:=0+(i:Int)) (by lia) (by lia)
   obtain⟨cell,_,rfl⟩:=List.mem_map.mp hvm
   have hc4:=ex4 _ _ ncs hc3
   dsimp only[gName,List.set]
   refine seqH fun N5 toN5=>⟨_,rfl,_,rfl,ixl (SqL.of hc4) hv ⟨_,_,rfl,rfl,(by show (0:Int)<1999999973;decide),_,rfl,_,_,rfl,rfl,.inl ⟨by decide,by decide⟩,_,rfl,_,_,rfl,rfl,.inr ⟨by lia,by lia⟩,.inl ⟨_,_,rfl,rfl,_,rfl,_,_,rfl,rfl,.inl ⟨by decide,by decide⟩,.inl ⟨_,_,rfl,rfl,.inl ⟨_,_,rfl,rfl,_,_,rfl,rfl,.inr ⟨by decide,by decide⟩,_,_,rfl,rfl,(by show (0:Int)<1999999973;decide),toN5 _ _ ?_⟩⟩⟩⟩⟩
   refine⟨_,rfl,.inl ⟨rfl,_,SqL.of h4⟩,_,rfl,_,rfl,ixl (SqL.of hc4) hv ⟨_,rfl,_,rfl,_,rfl,ixl (SqL.of hc4) hv ⟨_,_,rfl,rfl,⟨by decide,by decide,by decide⟩,_,_,rfl,rfl,.inr ⟨_,rfl,(by show 3<=sizeLine;decide),fun r hr=>?_⟩⟩⟩⟩
   have nr:sm≠r:=ne_of_none h4 hr
   refine⟨sm,rs.map V.ref,_,rfl,rfl,by rw[upd_ne nr];exact h4,line1 (by rw[List.length_map];lia),toE _ _ ⟨rs++[r],_,_,rfl,fun b o nb e=>?_,by rw[upd_same,List.map_append];rfl,by rw[List.length_append];show _+1=_;lia,fun r' hr'=>?_⟩⟩
   ·rw[upd_ne nb,upd_ne (ne_of_none (ex4 b o nb e) hr)];exact ex4 b o nb e
   ·have hn:H3 r=none:=by
     cases e:H3 r with
     | none=>rfl
     | some o=>rw[ex4 r o (Ne.symm nr) e]at hr;cases hr
    rcases List.mem_append.mp hr' with h | h
    ·obtain⟨h1,x,y,z,h2⟩:=hr4 r' h
     have n1:r'≠sm:=fun z=>by rw[z,hsm3]at h1;cases h1
     exact⟨h1,x,y,z,by rw[upd_ne n1,upd_ne (ne_of_none h2 hr)];exact h2⟩
    ·rw[List.mem_singleton.mp h]
     exact⟨hn,_,_,_,by rw[upd_ne (Ne.symm nr)];exact upd_same⟩
 refine⟨_,rfl,(by show 0<=sizeLine;decide),fun e he=>⟨q,e,_,rfl,rfl,SqL.of (same_new he _ _ _ upd_same),upd_same,_,rfl,?_⟩⟩
 have s2:=s1.trans (same_new he (.lst []))
 refine ite2 (fun e1=>?_) (fun e1=>?_)
 ·exact⟨(by show 1<=sizeLine;decide),fun c hc=>rest c [0] _ (s2.trans (same_new hc _)) upd_same (by decide) (by decide)⟩
 ·refine rest q ns _ s2 (same_new he _ _ _ upd_same) ?_ h63
  cases ns with
  | nil=>exact absurd (decide_eq_true rfl) e1
  | cons x l=>exact Nat.succ_le_succ (Nat.zero_le _)
theorem Zaz:FnScope ["value","word","what"] ["value"] (defScope (top 45)):=⟨rfl,rfl,rfl,by decide +kernel,rfl,by decide +kernel,by decide +kernel⟩
def spKeyL (n:Nat):Sp:=fun vs H Q _=>∃ (v:V) (x:Val),vs=[v]/\IsVal H x v/\(key x).length<=n/\∀ (u:V) (H':Hp),Same H H'->IsDt H' (.tup (lk x)) u->Q u H'
theorem key_mem {q:Val×Int}:∀ {qs:List (Val×Int)},q∈qs->(key q.1).length+2<=(keyB qs).length
 | p::qs,h=>by
  rw[keyB,List.length_cons,List.length_append,List.length_cons]
  rcases List.mem_cons.mp h with rfl | h
  ·lia
  ·have:=key_mem h;lia
theorem key_memR {q:Str×Val}:∀ {qs:List (Str×Val)},q∈qs->(key q.2).length+2<=(keyR qs).length
 | p::qs,h=>by
  rw[keyR,List.length_cons,List.length_cons,List.length_append]
  rcases List.mem_cons.mp h with rfl | h
  ·lia
  ·have:=key_memR h;lia
theorem len_keyB:∀ (qs:List (Val×Int)),qs.length<=(keyB qs).length
 | []=>Nat.zero_le _
 | p::qs=>by have:=len_keyB qs;rw[keyB,List.length_cons,List.length_cons,List.length_append];simp only[List.length_cons];lia
theorem len_keyR:∀ (qs:List (Str×Val)),qs.length<=(keyR qs).length
 | []=>Nat.zero_le _
 | p::qs=>by have:=len_keyR qs;rw[keyR,List.length_cons,List.length_cons,List.length_cons,List.length_append];lia
def rkV:List (Key×V):=[(Sum.inr (Str.ofString "num"),.int 0),(Sum.inr (Str.ofString "word"),.int 1),(Sum.inr (Str.ofString "row"),.int 2),(Sum.inr (Str.ofString "bag"),.int 3)]
def whatD:Val->Dt
 | .num i=>.int i
 | .word s=>.str s
 | .row ps=>.tup (lkR ps)
 | .bag ps=>.tup (lkB ps)
theorem lk_two (x:Val):lk x=[.int (rank x),whatD x]:=by cases x <;> rw[lk] <;> rfl
theorem rk_at (x:Val):valV (mergeK [] rkV) (Sum.inr (tagS x):Key)=some (.int (rank x)):=by cases x <;> rfl
theorem ok_key0 (D:Df K mg "_law_key" (top 45) f fd ["value"]):FnOk P w K mg base CX0 1 f fd ["value"] (spKeyL 0):=by
 refine D.fn.okH Zaz (fun vs H Q E h=>?_) (fun cdv A outer s H vs Q E hr h=>?_)
 ·obtain⟨v,x,rfl,_⟩:=h;rfl
 obtain⟨v,x,rfl,_,hz,_⟩:=h
 exfalso
 cases x <;> simp [key]at hz
theorem ok_keyS {n:Nat} (n4:n<=60) (T:Tx mg) (Zaj:Df K mg "_law_key" (top 45) f fd ["value"]) (ZaR:FnOk P w K mg base CX0 (n+1) f fd ["value"] (spKeyL n)) :
  FnOk P w K mg base CX0 (n+2) f fd ["value"] (spKeyL (n+1)):=by
 refine Zaj.fn.okH (k:=n+1) Zaz (fun vs H Q E h=>?_) (fun cdv A outer s H vs Q E hr h=>?_)
 ·obtain⟨v,x,rfl,_⟩:=h;rfl
 obtain⟨v,x,rfl,iv,hz,fin⟩:=h
 have hu:=u110 hr
 have hu0:=u0 hr
 have hu1:=hu_of hr
 refine⟨_,(wss_cons (ws_asg (wv 0) (wg_tup rfl (wgs_cons (wg_name (i:=1) Zaz.nd rfl (Or.inl rfl)) (wgs_cons (wg_name (i:=2) Zaz.nd rfl (Or.inl rfl)) wgs_nil))))
   (wss_cons (ws_if (wt_cmpR (op_eqU hu) (wv 1) we_str (nomark _)) (wss_one (ws_set (i:=2) Zaz.nd rfl (Or.inl rfl) (we_callTy call_tuple_of rfl T.z_tuple bt_tuple (wa_cons (we_lc (Nt:=["field","part"]) (fr:=[]) (LcOk.of (sc:=defScope (top 45)) (N:=["value","word","what"]) rfl rfl (by decide +kernel)) rfl (wi_U (wv 2)) (fun z=>wg_tup rfl (wgs_cons (wg_name (i:=0) (by show (["field","part"]:List Str).Nodup;decide +kernel) rfl (Or.inl rfl) (.inr rfl)) (wgs_cons (wg_name (i:=1) (by show (["field","part"]:List Str).Nodup;decide +kernel) rfl (Or.inl rfl) (.inr rfl)) wgs_nil))) (fun z=>tgt_two (by decide) (by decide)) (fun z=>wif_nil) (fun z=>(we_tup (wa_cons (wv 0) (wa_cons (we_call ZaR (hr.mono (by lia)) rfl Zaj.mg Zaj.kp Zaj.b .nil pass0 (wa_cons (wv 1) wa_nil)) wa_nil))))) wa_nil)))) wss_nil)
   (wss_cons (ws_if (wt_cmpR (op_eqU hu) (wv 1) we_str (nomark _)) (wss_one (ws_set (i:=2) Zaz.nd rfl (Or.inl rfl) (we_callTy call_tuple_of rfl T.z_tuple bt_tuple (wa_cons (we_lc (Nt:=["row","count"]) (fr:=[]) (LcOk.of (sc:=defScope (top 45)) (N:=["value","word","what"]) rfl rfl (by decide +kernel)) rfl (wi_U (wv 2)) (fun z=>wg_tup rfl (wgs_cons (wg_name (i:=0) (by show (["row","count"]:List Str).Nodup;decide +kernel) rfl (Or.inl rfl) (.inr rfl)) (wgs_cons (wg_name (i:=1) (by show (["row","count"]:List Str).Nodup;decide +kernel) rfl (Or.inl rfl) (.inr rfl)) wgs_nil))) (fun z=>tgt_two (by decide) (by decide)) (fun z=>wif_nil) (fun z=>(we_tup (wa_cons (we_call ZaR (hr.mono (by lia)) rfl Zaj.mg Zaj.kp Zaj.b .nil pass0 (wa_cons (wv 0) wa_nil)) (wa_cons (wv 1) wa_nil))))) wa_nil)))) wss_nil)
   (wss_one (ws_ret (we_tup (wa_cons (we_ix (ix_U hu1) (we_disp (wps_cons we_str we_int (wps_cons we_str we_int (wps_cons we_str we_int (wps_cons we_str we_int wps_nil)))) rfl rfl (by simp) (by decide)) (wv 1) (fun _ _=>rfl)) (wa_cons (wv 2) wa_nil)))))))),?_⟩
 obtain⟨X',gX'⟩:∃ X',X'=(cxOf CX0 P w K mg base ["value","word","what"] "_law_key" (defScope (top 45)) f cdv A outer s H E).nox:=⟨_,rfl⟩
 try rw[<- gX']
 clear gX'
 obtain⟨a,y,rfl,ha,hy⟩:=iv.two
 refine seqH fun N toN=>⟨_,rfl,a,_,rfl,SqT.of ha,rfl,_,_,rfl,_,_,rfl,rfl,toN _ _ ?_⟩
 refine seqH fun N2 toN2=>?_
 have after:∀ (u:V) (H':Hp),Same H H'->((tagS x=Str.ofString "bag"/\u=y)\/(tagS x≠Str.ofString "bag"/\IsDt H' (whatD x) u))->N2 [some (.ref a),some (.str (tagS x)),some u] H':=fun u H1 s1 hc=>by
  refine toN2 _ _ (seqH fun N3 toN3=>?_)
  have ret:∀ (u:V) (H':Hp),Same H H'->IsDt H' (whatD x) u->N3 [some (.ref a),some (.str (tagS x)),some u] H':=fun u H2 s2 iu=>by
   refine toN3 _ _ (fun d hd=>⟨upd_same,rkV,rfl,by decide,⟨_,rfl,ixd (.inl ⟨_,Sum.inr (tagS x),.inl upd_same,rfl,(rk_at x).symm⟩) ⟨_,rfl,(by show 2<=sizeLine;decide),fun t ht=>?_⟩⟩⟩)
   have s3:Same H2 (upd (upd H2 d (.dK [])) d (.dK (mergeK [] rkV))):=fun b o e=>by rw[upd_ne (ne_of_none e hd),upd_ne (ne_of_none e hd)];exact e
   refine fin _ _ ((s2.trans s3).trans (same_new ht _)) ?_
   rw[lk_two]
   exact isDt_new ht (.cons (isDt_int _) (.one (IsDt.mono s3.tups iu)))
  rcases hc with ⟨hb,rfl⟩ | ⟨nb,iu⟩
  ·obtain⟨ps,rfl⟩:∃ ps,x=.bag ps:=by cases x <;> first | exact⟨_,rfl⟩ | exact absurd hb (by simp only[tagS];decide +kernel)
   rw[restD,IsDt]at hy
   obtain⟨b,ws,rfl,hb,ib⟩:=hy
   have nws:ws.length=ps.length:=by rw[ib.length,datB_map,List.length_map]
   have lps:ps.length<=61:=by have:=len_keyB ps;rw[key,List.length_cons]at hz;lia
   refine⟨_,rfl,.inl ⟨rfl,_,rfl,iteP veq ?_⟩⟩
   refine .inr ⟨_,rfl,b,rfl,⟨_,SqT.of (s1 _ _ hb)⟩,?_⟩
   refine⟨fun i m zs H'=>Same H H'/\m+i=ps.length/\IsDts H' (lkB (ps.take i)) zs,⟨ps.length,s1,rfl,by rw[List.take_zero,lkB];exact .nil⟩,?_⟩
   rintro i m zs H2 ⟨s2,hm,iz⟩
   have nz:zs.length<=61:=by rw[iz.length,lkB_map,List.length_map,List.length_take];lia
   refine⟨line1 (by lia),?_⟩
   by_cases hi:i<ps.length
   ·obtain⟨c,v,e1,hc,iv⟩:=pair_at ib hi
    refine .inr ⟨⟨_,_,SqT.of (s2 _ _ hb),e1⟩,fun zc x H9 hy=>?_⟩
    obtain⟨rfl,hx⟩:=hy
    have e2:=hx _ (SqT.of (s2 _ _ hb))
    rw[e1]at e2
    cases e2
    have kz:(key ps[i].1).length<=n:=by have:=key_mem (List.getElem_mem hi);rw[key,List.length_cons]at hz;lia
    refine⟨c,_,rfl,SqT.of (s2 _ _ hc),rfl,_,_,rfl,_,_,rfl,rfl,tall ?_⟩
    refine⟨_,rfl,v,ps[i].1,rfl,IsDt.mono s2.tups iv,kz,fun u H3 s3 iu=>⟨_,rfl,(by show 2<=sizeLine;decide),fun t ht=>⟨m-1,by lia,(s2.trans s3).trans (same_new ht _),by lia,?_⟩⟩⟩
    have tk:ps.take (i+1)=ps.take i++[ps[i]]:=by rw[List.take_add_one,List.getElem?_eq_getElem hi];rfl
    rw[tk,lkB_map,List.map_append,<- lkB_map]
    exact (IsDts.mono (s3.trans (same_new ht _)).tups iz).append (.one (isDt_tup upd_same (.cons (IsDt.mono (same_new ht _).tups iu) (.one (isDt_int _)))))
   ·refine .inl ⟨⟨_,SqT.of (s2 _ _ hb),by lia⟩,fun l2 hl2=>⟨l2,zs,rfl,.inl ⟨SqL.of upd_same,fun t ht=>ret _ _ ((s2.trans (same_new hl2 _)).trans (same_new ht _)) ?_⟩⟩⟩
    rw[List.take_of_length_le (by lia)]at iz
    exact isDt_tup upd_same (IsDts.mono ((same_new hl2 _).trans (same_new ht _)).tups iz)
  ·exact⟨_,rfl,.inl ⟨rfl,_,rfl,iteN (vne nb) (ret _ _ s1 iu)⟩⟩
 by_cases hrow:tagS x=Str.ofString "row"
 ·obtain⟨ps,rfl⟩:∃ ps,x=.row ps:=by cases x <;> first | exact⟨_,rfl⟩ | exact absurd hrow (by simp only[tagS];decide +kernel)
  rw[restD,IsDt]at hy
  obtain⟨b,ws,rfl,hb,ib⟩:=hy
  have nws:ws.length=ps.length:=by rw[ib.length,datR_map,List.length_map]
  have lps:ps.length<=61:=by have:=len_keyR ps;rw[key,List.length_cons]at hz;lia
  refine⟨_,rfl,.inl ⟨rfl,_,rfl,iteP veq ?_⟩⟩
  refine .inr ⟨_,rfl,b,rfl,⟨_,SqT.of hb⟩,?_⟩
  refine⟨fun i m zs H'=>Same H H'/\m+i=ps.length/\IsDts H' (lkR (ps.take i)) zs,⟨ps.length,.refl _,rfl,by rw[List.take_zero,lkR];exact .nil⟩,?_⟩
  rintro i m zs H2 ⟨s2,hm,iz⟩
  have nz:zs.length<=61:=by rw[iz.length,lkR_map,List.length_map,List.length_take];lia
  refine⟨line1 (by lia),?_⟩
  by_cases hi:i<ps.length
  ·obtain⟨u,hu2,du⟩:=ib.get (i:=i) (d:=.tup [.str ps[i].1,dat ps[i].2]) (by rw[datR_map,List.getElem?_map,List.getElem?_eq_getElem hi];rfl)
   refine .inr ⟨⟨_,_,SqT.of (s2 _ _ hb),hu2⟩,fun zc x H9 hy=>?_⟩
   obtain⟨rfl,hx⟩:=hy
   obtain rfl:u=x:=by have:=hx _ (SqT.of (s2 _ _ hb));rw[hu2]at this;injection this
   obtain⟨cc,y1,z1,rfl,hc1,iy1,iz1⟩:=dt_two du
   have kz:(key ps[i].2).length<=n:=by have:=key_memR (List.getElem_mem hi);rw[key,List.length_cons]at hz;lia
   rw[IsDt]at iy1
   subst iy1
   refine⟨cc,_,rfl,SqT.of (s2 _ _ hc1),rfl,_,_,rfl,_,_,rfl,rfl,tall ?_⟩
   refine⟨_,rfl,_,rfl,z1,ps[i].2,rfl,IsDt.mono s2.tups iz1,kz,fun u H3 s3 iu=>⟨(by show 2<=sizeLine;decide),fun t ht=>⟨m-1,by lia,(s2.trans s3).trans (same_new ht _),by lia,?_⟩⟩⟩
   have tk:ps.take (i+1)=ps.take i++[ps[i]]:=by rw[List.take_add_one,List.getElem?_eq_getElem hi];rfl
   rw[tk,lkR_map,List.map_append,<- lkR_map]
   exact (IsDts.mono (s3.trans (same_new ht _)).tups iz).append (.one (isDt_tup upd_same (.cons (isDt_str _) (.one (IsDt.mono (same_new ht _).tups iu)))))
  ·refine .inl ⟨⟨_,SqT.of (s2 _ _ hb),by lia⟩,fun l2 hl2=>⟨l2,zs,rfl,.inl ⟨SqL.of upd_same,fun t ht=>after _ _ ((s2.trans (same_new hl2 _)).trans (same_new ht _)) (.inr ⟨by show Str.ofString "row"≠Str.ofString "bag";decide +kernel,?_⟩)⟩⟩⟩
   rw[List.take_of_length_le (by lia)]at iz
   exact isDt_tup upd_same (IsDts.mono ((same_new hl2 _).trans (same_new ht _)).tups iz)
 ·refine⟨_,rfl,.inl ⟨rfl,_,rfl,iteN (vne hrow) (after y H (.refl _) ?_)⟩⟩
  cases x with
  | num i=>exact .inr ⟨by show Str.ofString "num"≠Str.ofString "bag";decide +kernel,hy⟩
  | word i=>exact .inr ⟨by show Str.ofString "word"≠Str.ofString "bag";decide +kernel,hy⟩
  | row ps=>exact absurd rfl hrow
  | bag ps=>exact .inl ⟨rfl,rfl⟩
theorem key_all (T:Tx mg) (D:Df K mg "_law_key" (top 45) f fd ["value"]):∀ n:Nat,n<=60->FnOk P w K mg base CX0 (n+1) f fd ["value"] (spKeyL n)
 | 0,_=>ok_key0 D
 | n+1,h=>ok_keyS (by lia) T D (key_all T D n (by lia))
end
end K21
end
section
namespace K21
open PySem L2 Kn
def Ex (p:Addr) (H H':Hp):Prop:=∀ b o,b≠p->H b=some o->H' b=some o
theorem Ex.refl (p:Addr) (H:Hp):Ex p H H:=fun _ _ _ h=>h
theorem Ex.trans {p:Addr}{H H1 H2:Hp} (a:Ex p H H1) (b:Ex p H1 H2):Ex p H H2:=fun c o n h=>b c o n (a c o n h)
theorem ex_upd {p:Addr}{H:Hp}{o:HO}:Ex p H (upd H p o):=fun b u n h=>by rw[upd_ne n];exact h
theorem Same.ex {p:Addr}{H H':Hp} (s:Same H H'):Ex p H H':=fun b o _ h=>s b o h
theorem ex_tups {H H':Hp}{l:Addr}{xs:List V} (h:H l=some (.lst xs)) (x:Ex l H H'):Tups H H':=fun b ys e=>x b _ (ne_of e h (by intro z;cases z)) e
theorem sortable50 {xs:List (Val×Int)} (h:∀ q∈xs,(key q.1).length<=48):Sortable "tuple" (xs.map tri):=by
 refine⟨fun d hd=>?_,fun d hd e he=>?_,fun d hd=>?_⟩
 ·obtain⟨x,_,rfl⟩:=List.mem_map.mp hd;exact⟨_,_,rfl,rfl⟩
 ·obtain⟨x,_,rfl⟩:=List.mem_map.mp hd
  obtain⟨y,_,rfl⟩:=List.mem_map.mp he
  rw[lt_tri];rfl
 ·obtain⟨x,hx,rfl⟩:=List.mem_map.mp hd
  have:=dep_lk x.1
  have:=h x hx
  simp only[tri,depL,Dt.dep]
  lia
theorem goodL {K:PySem.W.Frag}{p:Addr}{us:List V}:GoodIt (Itl K p) p (.lst us) us:=
 ⟨fun i H' h l=>⟨us,_,SqL.of h,List.getElem?_eq_getElem l⟩,fun i H' x H'' h y=>⟨y.1,y.2 us (SqL.of h)⟩,fun i H' h l=>⟨us,SqL.of h,l⟩⟩
theorem join_seq {tt:TT}{a b u:TS}{D:Ends} {σ:St} {H:Hp} (I:St->Hp->Prop) (tail:∀ σ H,I σ H->u D σ H) (main:∀ Kt:St->Hp->Prop,(∀ σ H,I σ H->Kt σ H)->tIfS tt a b { nx:=Kt,rt:=D.rt,bk:=D.bk,ct:=D.ct } σ H):tSeq (tIfS tt a b) u D σ H:=main _ tail
theorem isDts_snoc {H:Hp}:∀ {ds:List Dt}{d:Dt}{xs:List V},IsDts H (ds++[d]) xs->∃ ys y,xs=ys++[y]/\IsDts H ds ys/\IsDt H d y
 | [],d,xs,h=>by
  rw[List.nil_append,IsDts]at h
  obtain⟨y,r,rfl,h1,h2⟩:=h
  rw[IsDts]at h2
  subst h2
  exact⟨[],y,rfl,.nil,h1⟩
 | e::ds,d,xs,h=>by
  rw[List.cons_append,IsDts]at h
  obtain⟨y,r,rfl,h1,h2⟩:=h
  obtain⟨ys,z,rfl,h3,h4⟩:=isDts_snoc h2
  exact⟨y::ys,z,rfl,.cons h1 h3,h4⟩
theorem dt_three {H:Hp}{a b c:Dt}{v:V} (h:IsDt H (.tup [a,b,c]) v):∃ p x y z,v=.ref p/\H p=some (.tup [x,y,z])/\IsDt H a x/\IsDt H b y/\IsDt H c z:=by
 rw[IsDt]at h
 obtain⟨p,xs,e,h1,h2⟩:=h
 rw[IsDts]at h2
 obtain⟨x,r,rfl,h3,h4⟩:=h2
 rw[IsDts]at h4
 obtain⟨y,r,rfl,h5,h6⟩:=h4
 rw[IsDts]at h6
 obtain⟨z,r,rfl,h7,h8⟩:=h6
 rw[IsDts]at h8
 subst h8
 exact⟨p,x,y,z,e,h1,h3,h5,h7⟩
theorem srt_tri {xs:List (Val×Int)}{p:List Nat} (h:p.Perm (List.range xs.length)):(p.map fun i=>(xs.map tri).getD i [])=(srt xs p).map tri:=by
 unfold srt
 rw[List.map_map]
 refine List.map_congr_left fun i hi=>?_
 have hl:i<xs.length:=List.mem_range.mp (h.mem_iff.mp hi)
 show (xs.map tri).getD i []=tri (xs.getD i _)
 rw[List.getD_eq_getElem?_getD,List.getD_eq_getElem?_getD,List.getElem?_map,List.getElem?_eq_getElem hl]
 rfl
section
variable {P:Program}{w:World}{K:PySem.W.Frag}{mg:Str->Option Value}{base:Heap}{f f_key:Addr}{fd fd_key:FuncData}
theorem ZaA:FnScope ["counts","found","key","row","many"] ["counts"] (defScope (top 46)):=⟨rfl,rfl,rfl,by decide +kernel,rfl,by decide +kernel,by decide +kernel⟩
def spBagL:Sp:=fun vs H Q _=>∃ (l:Addr) (us:List V) (xs:List (Val×Int)),vs=[.ref l]/\H l=some (.lst us)/\IsDts H (datB xs) us/\xs.length<=1500/\(∀ q∈xs,(key q.1).length<=48) /\
 ∀ (v:V) (H':Hp),Same H H'->IsVal H' (.bag (theBag xs)) v->IsBag xs (theBag xs)->Q v H'
theorem ok_bagL (T:Tx mg) (D:Df K mg "_law_sorted" (top 46) f fd ["counts"]) (Zaj:Df K mg "_law_key" (top 45) f_key fd_key ["value"]) (ZaR:FnOk P w K mg base CX0 49 f_key fd_key ["value"] (spKeyL 48)) :
  FnOk P w K mg base CX0 50 f fd ["counts"] spBagL:=by
 refine D.fn.okH (k:=49) ZaA (fun vs H Q E h=>?_) (fun cdv A outer s H vs Q E hr h=>?_)
 ·obtain⟨l,us,xs,rfl,_⟩:=h;rfl
 obtain⟨l,us,xs,rfl,hl,iu,ln,kl,fin⟩:=h
 have hu:=u110 hr
 have hu0:=u0 hr
 have hu1:=hu_of hr
 refine⟨_,(wss_cons (ws_set (i:=1) ZaA.nd rfl (Or.inl rfl) (we_lst wa_nil))
   (wss_cons (ws_for PassesOwn.never rfl (wi_U (we_callB (call_sortLL hu) rfl T.z_sorted bt_sorted (wa_cons (we_lc (Nt:=["pair"]) (fr:=[]) (LcOk.of (sc:=defScope (top 46)) (N:=["counts","found","key","row","many"]) rfl rfl (by decide +kernel)) rfl (wi_U (wv 0)) (fun z=>wg_name (i:=0) (by show (["pair"]:List Str).Nodup;decide +kernel) rfl (Or.inl rfl) (.inr rfl)) (fun z=>tgt_name (by decide)) (fun z=>wif_nil) (fun z=>(we_op op_plus (we_tup (wa_cons (we_call ZaR (hr.mono (by lia)) rfl Zaj.mg Zaj.kp Zaj.b .nil pass0 (wa_cons (we_ix (ix_U hu1) (wv 0) we_int (fun _ _=>rfl)) wa_nil)) wa_nil)) (wv 0)))) wa_nil))) (wg_tup rfl (wgs_cons (wg_name (i:=2) ZaA.nd rfl (Or.inl rfl)) (wgs_cons (wg_name (i:=3) ZaA.nd rfl (Or.inl rfl)) (wgs_cons (wg_name (i:=4) ZaA.nd rfl (Or.inl rfl)) wgs_nil)))) (wss_cons (ws_if (wt_pw (ww_and (wt_cmpR (op_neU hu) (wv 1) (we_lst wa_nil) (nomark _)) (ww_and1 (wt_cmpR (op_eqU hu) (we_ix (ix_U hu1) (we_ix (ix_U hu1) (wv 1) (we_un un_neg we_int) (fun _ _=>rfl)) we_int (fun _ _=>rfl)) (wv 3) (nomark _))))) (wss_one (ws_set (i:=4) ZaA.nd rfl (Or.inl rfl) (we_op op_plus (wv 4) (we_ix (ix_U hu1) (we_bm0 PySem.F.plainAttrs_list PySem.F.slot_list_pop PySem.F.type_list_pop mt_pop (wv 1)) we_int (fun _ _=>rfl))))) wss_nil)
   (wss_one (ws_expr (we_bm PySem.F.plainAttrs_list PySem.F.slot_list_append PySem.F.type_list_append mt_append (wv 1) (wa_cons (we_tup (wa_cons (wv 3) (wa_cons (wv 4) wa_nil))) wa_nil))))))
   (wss_one (ws_ret (we_tup (wa_cons we_str (wa_cons (we_callTy call_tuple_of rfl T.z_tuple bt_tuple (wa_cons (we_lc (Nt:=["pair"]) (fr:=[]) (LcOk.of (sc:=defScope (top 46)) (N:=["counts","found","key","row","many"]) rfl rfl (by decide +kernel)) rfl (wi_U (wv 1)) (fun z=>wg_name (i:=0) (by show (["pair"]:List Str).Nodup;decide +kernel) rfl (Or.inl rfl) (.inr rfl)) (fun z=>tgt_name (by decide)) (fun z=>wif_one (wt_cmpR (op_neU hu) (we_ix (ix_U hu1) (wv 0) we_int (fun _ _=>rfl)) we_int (nomark _))) (fun z=>(wv 0))) wa_nil)) wa_nil))))))),?_⟩
 obtain⟨X',gX'⟩:∃ X',X'=(cxOf CX0 P w K mg base ["counts","found","key","row","many"] "_law_sorted" (defScope (top 46)) f cdv A outer s H E).nox:=⟨_,rfl⟩
 try rw[<- gX']
 clear gX'
 have nus:us.length=xs.length:=by rw[iu.length,datB_map,List.length_map]
 refine⟨(by show 0<=sizeLine;decide),fun fo hfo=>?_⟩
 have s1:=same_new hfo (.lst [])
 have hf1:(upd H fo (.lst [])) fo=some (.lst []):=upd_same
 generalize upd H fo (.lst [])=H1 at s1 hf1 ⊢
 refine .inl (.inl ⟨_,rfl,l,rfl,⟨us,SqL.of (s1 _ _ hl)⟩,?_⟩)
 refine⟨fun i m zs H'=>Same H1 H'/\m+i=xs.length/\IsDts H' (((xs.take i).map tri).map Dt.tup) zs,⟨xs.length,.refl _,rfl,.nil⟩,?_⟩
 rintro i m zs H2 ⟨s2,hm,iz⟩
 have nz:zs.length<=1500:=by rw[iz.length,List.length_map,List.length_map,List.length_take];lia
 have hl2:=s2 _ _ (s1 _ _ hl)
 refine⟨line1 (by lia),?_⟩
 by_cases hi:i<xs.length
 ·obtain⟨u,hu2,du⟩:=iu.get (i:=i) (d:=.tup [dat xs[i].1,.int xs[i].2]) (by rw[datB_map,List.getElem?_map,List.getElem?_eq_getElem hi];rfl)
  refine .inr ⟨⟨_,_,SqL.of hl2,hu2⟩,fun zc x H9 hy=>?_⟩
  obtain⟨rfl,hx⟩:=hy
  obtain rfl:u=x:=by have:=hx _ (SqL.of hl2);rw[hu2]at this;injection this
  obtain⟨cc,y1,z1,rfl,hc1,iy1,iz1⟩:=dt_two du
  rw[IsDt]at iz1
  subst iz1
  have tk:xs.take (i+1)=xs.take i++[xs[i]]:=by rw[List.take_add_one,List.getElem?_eq_getElem hi];rfl
  have kz:=kl _ (List.getElem_mem hi)
  generalize xs[i]=xi at *
  have s02:=s1.trans s2
  have hc2:=s02 _ _ hc1
  refine gall ?_
  refine⟨_,rfl,ixt (SqT.of hc2) rfl ⟨y1,xi.1,rfl,IsDt.mono s02.tups iy1,kz,fun u H3 s3 iu3=>⟨(by show 1<=sizeLine;decide),fun t ht=>⟨_,rfl,.inr (.inr (.inr ⟨t,cc,[u],_,rfl,rfl,upd_same,same_new ht _ _ _ (s3 _ _ hc2),(by show 1+2<=sizeLine;decide),fun q H6 s6 hq=>?_⟩))⟩⟩⟩⟩
  have s36:=(same_new ht (.tup [u])).trans s6
  refine⟨m-1,by lia,(s2.trans s3).trans s36,by lia,?_⟩
  rw[tk,List.map_append,List.map_append]
  refine (IsDts.mono (s3.trans s36).tups iz).append (.one (isDt_tup hq ?_))
  exact .cons (IsDt.mono s36.tups iu3) (.cons (IsDt.mono (s02.trans (s3.trans s36)).tups iy1) (.one (isDt_int _)))
 refine .inl ⟨⟨_,SqL.of hl2,by lia⟩,fun l2 hl3=>?_⟩
 rw[List.take_of_length_le (by lia)]at iz
 have nl:(xs.map tri).length=xs.length:=List.length_map _
 refine⟨l2,zs,xs.map tri,"tuple",rfl,upd_same,IsDts.mono (same_new hl3 _).tups iz,sortable50 kl,by rw[nl];lia,fun a p ha pm rs=>⟨a,rfl,⟨_,SqL.of upd_same⟩,?_⟩⟩
 have s4:=(same_new hl3 (.lst zs)).trans (same_new ha (.lst (p.map fun i=>zs.getD i V.non)))
 have ha4:(upd (upd H2 l2 (.lst zs)) a (.lst (p.map fun i=>zs.getD i V.non))) a=some (.lst (p.map fun i=>zs.getD i V.non)):=upd_same
 have hf4:=s4 _ _ (s2 _ _ hf1)
 have s04:=(s1.trans s2).trans s4
 rw[nl]at pm
 have ib:=isDts_perm iz p fun i hi=>by rw[nl];exact List.mem_range.mp (pm.mem_iff.mp hi)
 rw[srt_tri pm]at ib
 have ib4:=IsDts.mono s4.tups ib
 have wk:=srt_weak pm rs
 have pr:=srt_perm pm
 have nfa:fo≠a:=ne_of_none (same_new hl3 (.lst zs) _ _ (s2 _ _ hf1)) ha
 have nfl:fo≠l:=fun z=>by rw[z,hl]at hfo;cases hfo
 clear ib
 generalize (p.map fun i=>zs.getD i V.non)=bs at s4 ha4 hf4 s04 ib4 ⊢
 generalize upd (upd H2 l2 (.lst zs)) a (.lst bs)=H4 at s4 ha4 hf4 s04 ib4 ⊢
 generalize srt xs p=ys at *
 clear rs pm ha iz s4 hl2 s2 hm hi hl3 nz
 have ly:ys.length=xs.length:=pr.length_eq
 have nbs:bs.length=ys.length:=by rw[ib4.length,List.length_map,List.length_map]
 refine⟨fun i m σ H'=>Ex fo H4 H'/\m+i=ys.length/\(∃ o2 o3 o4,σ=[some (.ref l),some (.ref fo),o2,o3,o4])/\∃ fus fs,H' fo=some (.lst fus)/\IsDts H' (datB fs) fus/\Mg (ys.take i) fs/\fs.length<=i,
  ⟨ys.length,.refl _ _,rfl,⟨none,none,none,rfl⟩,[],[],hf4,.nil,mg_nil,Nat.le_refl _⟩,?_⟩
 rintro i m σ H5 ⟨ex,hm,⟨o2,o3,o4,rfl⟩,fus,fs,hf5,if5,mg,lf⟩
 have ha5:=ex _ _ (Ne.symm nfa) ha4
 have t45:=ex_tups hf4 ex
 have nfus:fus.length=fs.length:=by rw[if5.length,datB_map,List.length_map]
 by_cases hi:i<ys.length
 ·refine .inr ⟨goodL.go i H5 ha5 (by lia),fun σ' H''=>Ex fo H4 H''/\(m-1)+(i+1)=ys.length/\(∃ o2 o3 o4,σ'=[some (.ref l),some (.ref fo),o2,o3,o4])/\∃ fus fs,H'' fo=some (.lst fus)/\IsDts H'' (datB fs) fus/\Mg (ys.take (i+1)) fs/\fs.length<=i+1,fun σ' H'' hW=>⟨m-1,by lia,hW⟩,?_⟩
  intro x H'' hy
  obtain⟨e0,hx⟩:=goodL.yl i H5 x _ ha5 hy
  rw[e0]
  obtain⟨u,hu',du⟩:=ib4.get (i:=i) (d:=.tup (tri ys[i])) (by rw[List.map_map,List.getElem?_map,List.getElem?_eq_getElem hi];rfl)
  obtain rfl:u=x:=by rw[hu']at hx;injection hx
  obtain⟨c,y1,y2,y3,rfl,hc4,_,i2,i3⟩:=dt_three du
  rw[IsDt]at i3
  subst i3
  have tk:ys.take (i+1)=ys.take i++[ys[i]]:=by rw[List.take_add_one,List.getElem?_eq_getElem hi];rfl
  have kz:=kl _ (pr.mem_iff.mp (List.getElem_mem hi))
  have wk':Weak (ys.take (i+1)):=List.Pairwise.sublist (List.take_sublist _ _) wk
  rw[tk]at wk' ⊢
  have hc5:=t45 _ _ hc4
  have i25:=IsDt.mono t45 i2
  generalize ys[i]=z at *
  refine⟨c,_,rfl,SqT.of hc5,rfl,_,_,rfl,_,_,rfl,_,_,rfl,rfl,?_⟩
  dsimp only
  refine join_seq (fun σ' H'=>∃ k fus' gs,σ'=[some (.ref l),some (.ref fo),some y1,some y2,some (.int k)]/\Ex fo H5 H'/\H' fo=some (.lst fus')/\IsDts H' (datB gs) fus'/\Mg (ys.take i++[z]) (gs++[(z.1,k)])/\gs.length<=i) ?tl fun Kt tail=>?mn
  case tl=>
   rintro σ' H6 ⟨k,fus',gs,rfl,ex6,hf6,if6,mg6,lg⟩
   have t56:=ex_tups hf5 ex6
   refine⟨_,rfl,.inl ⟨rfl,_,SqL.of hf6⟩,_,rfl,_,rfl,(by show 2<=sizeLine;decide),fun t ht=>?_⟩
   have nfu:fus'.length<=1500:=by rw[if6.length,datB_map,List.length_map];lia
   refine⟨fo,_,_,rfl,rfl,same_new ht _ _ _ hf6,line1 (by lia),?_⟩
   have s7:=same_new ht (.tup [y2,V.int k])
   have ht7:(upd H6 t (.tup [y2,V.int k])) t=some (.tup [y2,V.int k]):=upd_same
   generalize upd H6 t (.tup [y2,V.int k])=H7 at s7 ht7 ⊢
   have t8:Tups H7 (upd H7 fo (.lst (fus'++[V.ref t]))):=Tups.lst (s7 _ _ hf6)
   refine⟨fun e oe ne he=>by rw[upd_ne ne];exact s7 _ _ (ex6 _ _ ne (ex _ _ ne he)),by lia,⟨_,_,_,rfl⟩,_,gs++[(z.1,k)],upd_same,?_,mg6,by rw[List.length_append];show gs.length+1<=_;lia⟩
   rw[datB_map,List.map_append,<- datB_map]
   exact (IsDts.mono t8 (IsDts.mono s7.tups if6)).append (.one (isDt_tup (t8 _ _ ht7) (.cons (IsDt.mono t8 (IsDt.mono s7.tups (IsDt.mono t56 i25))) (.one (isDt_int _)))))
  case mn=>
   refine⟨_,rfl,(by show 0<=sizeLine;decide),fun e he=>.inr (.inr ⟨fo,e,fus,rfl,rfl,same_new he _ _ _ hf5,upd_same,_,rfl,?_⟩)⟩
   have s6:=same_new he (.lst [])
   have hf6:=s6 _ _ hf5
   have if6:=IsDts.mono s6.tups if5
   have ne6:fo≠e:=ne_of_none hf5 he
   generalize upd H5 e (.lst [])=H6 at s6 hf6 if6 ⊢
   have no:(∀ q,fs.getLast?=some q->q.1≠z.1)->Kt [some (.ref l),some (.ref fo),some y1,some y2,some (.int z.2)] H6:=fun n=>tail _ _ ⟨z.2,fus,fs,rfl,Same.ex s6,hf6,if6,mg.new wk' n,lf⟩
   refine ite2 (fun e1=>?_) (fun e1=>?_)
   ·rcases List.eq_nil_or_concat fs with rfl | ⟨gs,g,rfl⟩
    ·exfalso
     have:fus=[]:=List.length_eq_zero_iff.mp (by rw[nfus];rfl)
     exact absurd this (of_decide_eq_true e1)
    ·rw[List.concat_eq_append]at *
     rw[datB_map,List.map_append,<- datB_map]at if6
     obtain⟨gus,gu,rfl,ig,iq⟩:=isDts_snoc if6
     obtain⟨cg,g1,g2,rfl,hcg,ig1,ig2⟩:=dt_two iq
     rw[IsDt]at ig2
     subst ig2
     have kg:(dat g.1).dep<=depMax:=by
      obtain⟨r,hr',eg⟩:=mg.src g (List.mem_append_right _ (List.mem_singleton.mpr rfl))
      have h1:=kl _ (pr.mem_iff.mp (List.mem_of_mem_take hr'))
      have h2:=(dep_lk g.1).2
      rw[eg]at h2 ⊢
      unfold depMax
      lia
     refine⟨_,rfl,_,rfl,ixl (SqL.of hf6) (atI_last _ _) (ixt (SqT.of hcg) rfl ⟨_,rfl,.inr ⟨dat g.1,dat z.1,ig1,IsDt.mono s6.tups i25,kg,_,rfl,?_⟩⟩)⟩
     refine ite2 (fun e2=>?_) (fun e2=>no fun q hq=>?_)
     ·have eg:g.1=z.1:=dat_inj (of_decide_eq_true e2)
      refine⟨_,rfl,_,rfl,.inl ⟨rfl,_,SqL.of hf6⟩,fo,_,.ref cg,rfl,rfl,hf6,by simp,?_⟩
      rw[List.dropLast_concat]
      have t7:Tups H6 (upd H6 fo (.lst gus)):=Tups.lst hf6
      refine ixt (SqT.of (t7 _ _ hcg)) rfl (.inl ⟨_,_,rfl,rfl,tail _ _ ⟨z.2+g.2,gus,gs,rfl,(Same.ex s6).trans ex_upd,upd_same,IsDts.mono t7 ig,mg.add eg,by rw[List.length_append]at lf;have:[g].length=1:=rfl;lia⟩⟩)
     ·have:g=q:=by simpa using hq
      subst this
      intro eg
      exact e2 (decide_eq_true (by rw[eg]))
   ·refine no fun q hq=>?_
    have:fus=[]:=Classical.byContradiction fun h=>e1 (decide_eq_true h)
    have:fs=[]:=List.length_eq_zero_iff.mp (by rw[<- nfus,this];rfl)
    rw[this]at hq
    cases hq
 ·refine .inl ⟨goodL.st i H5 ha5 (by lia),?_⟩
  rw[List.take_of_length_le (by lia)]at mg
  have s05:Same H H5:=fun b o e=>ex _ _ (ne_of_none e hfo) (s04 _ _ e)
  have bag:=mg.bag pr
  have et:=theBag_of bag fun _=>rfl
  refine .inl ⟨_,rfl,fo,rfl,⟨fus,SqL.of hf5⟩,?_⟩
  refine⟨fun i2 m2 zs H'=>Same H5 H'/\m2+i2=fs.length/\∃ qs:List (Val×Int),IsDts H' (datB qs) zs/\qs.length<=i2/\qs=(fs.take i2).filter fun q=>decide (q.2≠0),⟨fs.length,.refl _,rfl,[],.nil,Nat.le_refl _,rfl⟩,?_⟩
  rintro i2 m2 zs2 H6 ⟨s6,hm2,qs,iq,lq,eqs⟩
  have nz2:zs2.length=qs.length:=by rw[iq.length,datB_map,List.length_map]
  have hf6:=s6 _ _ hf5
  refine⟨line1 (by lia),?_⟩
  by_cases hi2:i2<fs.length
  ·obtain⟨u,hu2,du⟩:=if5.get (i:=i2) (d:=.tup [dat fs[i2].1,.int fs[i2].2]) (by rw[datB_map,List.getElem?_map,List.getElem?_eq_getElem hi2];rfl)
   refine .inr ⟨⟨_,_,SqL.of hf6,hu2⟩,fun zc x H9 hy=>?_⟩
   obtain⟨rfl,hx⟩:=hy
   obtain rfl:u=x:=by have:=hx _ (SqL.of hf6);rw[hu2]at this;injection this
   have tkq:fs.take (i2+1)=fs.take i2++[fs[i2]]:=by rw[List.take_add_one,List.getElem?_eq_getElem hi2];rfl
   have du6:=IsDt.mono s6.tups du
   obtain⟨cc,y1,z1,rfl,hc1,iy1,iz1⟩:=dt_two du6
   rw[IsDt]at iz1
   subst iz1
   generalize fs[i2]=q at *
   refine⟨_,rfl,ixt (SqT.of hc1) rfl (.inl ⟨rfl,_,rfl,?_⟩)⟩
   refine ite2 (fun e=>?_) (fun e=>?_)
   ·have e0:q.2≠0:=fun z=>by rw[z]at e;revert e;decide
    refine⟨_,rfl,m2-1,by lia,s6,by lia,qs++[q],?_,by rw[List.length_append];show qs.length+1<=_;lia,by rw[tkq,List.filter_append,<- eqs];simp [e0]⟩
    rw[datB_map,List.map_append,<- datB_map]
    exact iq.append (.one du6)
   ·have e0:q.2=0:=Classical.byContradiction fun z=>e (by rw[decide_eq_false (fun w=>z (by injection w))];rfl)
    exact⟨m2-1,by lia,s6,by lia,qs,iq,by lia,by rw[tkq,List.filter_append,<- eqs];simp [e0]⟩
  ·refine .inl ⟨⟨_,SqL.of hf6,by lia⟩,fun l3 hl3=>⟨l3,zs2,rfl,.inl ⟨SqL.of upd_same,fun t ht=>⟨(by show 2<=sizeLine;decide),fun b hb=>?_⟩⟩⟩⟩
   rw[List.take_of_length_le (by lia)]at eqs
   rw[<- eqs]at et bag
   refine fin _ _ ((s05.trans s6).trans ((same_new hl3 _).trans ((same_new ht _).trans (same_new hb _)))) ?_ (by rw[<- et];exact bag)
   rw[<- et]
   show IsDt _ (dat (.bag qs)) _
   rw[dat_two]
   exact isDt_new hb (.cons (by rw[IsDt];rfl) (.one (isDt_tup upd_same (IsDts.mono ((same_new hl3 _).trans (same_new ht _)).tups iq))))
end
end K21
end
section
namespace K21
open PySem L2 Kn
theorem Stay.lst {H H':Hp}{p:Addr}{zs:List V} (hp:H p=some (.lst zs)) (ex:∀ b o,b≠p->H b=some o->H' b=some o):Stay H H':=
 ⟨fun a _ h=>ex a _ (fun z=>by rw[z,hp]at h;cases h) h,fun d _ h=>h.imp (fun h=>ex d _ (fun z=>by rw[z,hp]at h;cases h) h) fun⟨o,h⟩=>⟨o,ex d _ (fun z=>by rw[z,hp]at h;cases h) h⟩⟩
theorem strs_mem {l:List Str}{v:V} (h:v∈l.map V.str):∃ s∈l,v=.str s:=by
 obtain⟨i,hi,e⟩:=List.mem_map.mp h
 exact⟨i,hi,e.symm⟩
theorem pick {K:PySem.W.Frag}{p:Addr}{rs:List Addr}{ta:TA} {σ:St} {H:Hp}{Q:VK}{E:XK}{m:Int}{n j:Nat}{G:V->Prop} (hσ:σ[j]?=some (some (.ref p))) (hta:∀ R:List V->Hp->Prop,(∀ vs H',vs.length=n->(∀ v∈vs,G v)->ExD p rs H H'->Dk H' p rs->R vs H')->ta σ H R) (l:Nat.ble n 10=true) (hm:m=n) (h0:Nat.ble 1 n=true)
  (k:∀ v,G v->∀ H',ExD p rs H H'->Dk H' p rs->Q v H') :
  tOp (fun x y H Q=>rIxL K x y H Q\/(rIxT K x y H Q\/(rIxS x y H Q\/rIxD x y H Q))) (tLst ta) (tCall spDraw [] E (tCons (tVar j) (tCons (tC (.int m)) tNil))) σ H Q:=by
 have l1:=Nat.le_of_ble_eq_true l
 have l0:=Nat.le_of_ble_eq_true h0
 refine hta _ fun vs H1 ln hG ex1 dk1=>⟨Nat.le_of_lt (line1 (by lia)),fun t ht=>⟨_,hσ,p,rs,m,rfl,dk1.keep (same_new ht _),by lia,by lia,fun r H2 ex2 dk2 r0 r1=>?_⟩⟩
 rw[hm,<- ln]at r1
 obtain⟨v,ev,mv⟩:=atI_mem r0 r1
 exact ixl (SqL.of (ex2 _ _ (dk1.fresh ht) upd_same)) ev (k v (hG v mv) _ (ex1.trans ((ExD.same (same_new ht _)).trans ex2)) dk2)
theorem pk_vs {p:Addr}{rs:List Addr}{vs:List V} {σ:St} {H:Hp} (dk:Dk H p rs):∀ R:List V->Hp->Prop,(∀ us H',us.length=vs.length->(∀ v∈us,v∈vs)->ExD p rs H H'->Dk H' p rs->R us H')->tVs vs σ H R:=fun R k=>k _ _ rfl (fun _ h=>h) (fun _ _ _ e=>e) dk
inductive Kd where
 | num | word
 | row (fs:List (Str×Kd))
 | bag (k:Kd)
mutual
def kdD:Kd->Dt
 | .num=>.tup [.str "num"]
 | .word=>.tup [.str "word"]
 | .row fs=>.tup [.str "row",.tup (kdR fs)]
 | .bag k=>.tup [.str "bag",kdD k]
def kdR:List (Str×Kd)->List Dt
 | []=>[]
 | p::ps=>.tup [.str p.1,kdD p.2]::kdR ps
end
mutual
def kh:Kd->Nat
 | .num=>0
 | .word=>0
 | .row fs=>khR fs+1
 | .bag k=>kh k+1
def khR:List (Str×Kd)->Nat
 | []=>0
 | p::ps=>max (kh p.2) (khR ps)
end
mutual
def kz:Kd->Nat
 | .num=>2
 | .word=>2
 | .row fs=>1+kzR fs
 | .bag k=>2+3 * (2+kz k)
def kzR:List (Str×Kd)->Nat
 | []=>1
 | p::ps=>2+kz p.2+kzR ps
end
theorem kdR_map (ps:List (Str×Kd)):kdR ps=ps.map fun p=>.tup [.str p.1,kdD p.2]:=by
 induction ps with
 | nil=>rw[kdR];rfl
 | cons p ps ih=>rw[kdR,ih];rfl
theorem kh_mem {q:Str×Kd}:∀ {ps:List (Str×Kd)},q∈ps->kh q.2<=khR ps
 | p::ps,h=>by
  rw[khR]
  rcases List.mem_cons.mp h with rfl | h
  ·lia
  ·have:=kh_mem h;lia
theorem kz_mem {q:Str×Kd}:∀ {ps:List (Str×Kd)},q∈ps->kz q.2<=kzR ps
 | p::ps,h=>by
  rw[kzR]
  rcases List.mem_cons.mp h with rfl | h
  ·lia
  ·have:=kz_mem h;lia
theorem kzR_len:∀ (ps:List (Str×Kd)),ps.length<=kzR ps
 | []=>Nat.zero_le _
 | p::ps=>by have:=kzR_len ps;rw[kzR,List.length_cons];lia
theorem kzR_snoc (q:Str×Kd):∀ (ps:List (Str×Kd)),kzR (ps++[q])=kzR ps+(2+kz q.2)
 | []=>by simp [kzR];lia
 | p::ps=>by rw[List.cons_append,kzR,kzR,kzR_snoc q ps];lia
theorem keyR_snoc (q:Str×Val):∀ (ps:List (Str×Val)),(keyR (ps++[q])).length=(keyR ps).length+(2+(key q.2).length)
 | []=>by simp [keyR];lia
 | p::ps=>by rw[List.cons_append,keyR,keyR];simp only[List.length_cons,List.length_append,keyR_snoc q ps];lia
theorem keyB_len {m:Nat}:∀ {qs:List (Val×Int)},(∀ q∈qs,(key q.1).length<=m)->(keyB qs).length<=1+qs.length * (2+m)
 | [],_=>by simp [keyB]
 | q::qs,h=>by
  have h1:=h q List.mem_cons_self
  have h2:=keyB_len (qs:=qs) fun r hr=>h r (List.mem_cons_of_mem _ hr)
  rw[keyB]
  simp only[List.length_cons,List.length_append]
  rw[Nat.add_mul,Nat.one_mul]
  lia
def Bok (n m:Nat) (qs:List (Val×Int)):Prop:=qs.length<=n/\IsBag qs qs/\∀ q∈qs,(key q.1).length<=m/\q.2.natAbs<10 ^ 33
def Vof (k:Kd) (x:Val):Prop:=(key x).length<=kz k/\∀ k',k=.bag k'->∃ qs,x=.bag qs/\Bok 3 (kz k') qs
theorem own_bag (xs:List (Val×Int)):IsBag (theBag xs) (theBag xs):=⟨(theBag_ok xs).1.1,(theBag_ok xs).1.2.1,fun _=>rfl⟩
theorem bok_of {n m:Nat}{xs:List (Val×Int)} (hn:n<=40) (l:xs.length<=n) (h:∀ q∈xs,(key q.1).length<=m/\q.2.natAbs<10 ^ 30):Bok n m (theBag xs):=by
 obtain⟨h1,h2,h3⟩:=theBag_ok xs
 refine⟨by lia,own_bag xs,fun q hq=>?_⟩
 obtain⟨r,hr,e⟩:=h3 q hq
 refine⟨e ▸ (h r hr).1,?_⟩
 rw[bag_cnt h1 hq]
 have:=cnt_le q.1 (M:=10 ^ 30) xs fun p hp=>Nat.le_of_lt (h p hp).2
 have:xs.length * 10 ^ 30<=40 * 10 ^ 30:=Nat.mul_le_mul_right _ (by lia)
 lia
theorem kd_num {H:Hp}{v:V}{w:Str} (h:IsDt H (.tup [.str w]) v):∃ a,v=.ref a/\H a=some (.tup [.str w]):=by
 rw[IsDt]at h
 obtain⟨a,xs,rfl,h1,h2⟩:=h
 simp only[IsDts,IsDt]at h2
 obtain⟨_,_,rfl,rfl,rfl⟩:=h2
 exact⟨a,rfl,h1⟩
theorem fnOk_lt {P:Program}{w:World}{K:PySem.W.Frag}{mg:Str->Option Value}{base:Heap}{k:Nat}{f:Addr}{fd:FuncData}{ps:List Str}{sp:Nat->Sp}{d:Nat} (F:∀ e,e<d->FnOk P w K mg base CX0 k f fd ps (sp e)) :
  FnOk P w K mg base CX0 k f fd ps (fun vs H Q E=>∃ e,e<d/\sp e vs H Q E):=
 ⟨fun vs H Q E ⟨e,he,h⟩=>(F e he).len vs H Q E h,fun A outer s H args us vs Q E hr h0 hb hv ⟨e,he,h⟩=>(F e he).run A outer s H args us vs Q E hr h0 hb hv h⟩
section
variable {P:Program}{w:World}{K:PySem.W.Frag}{mg:Str->Option Value}{base:Heap}{f f_draw f_number f_sorted:Addr}{fd fd_draw fd_number fd_sorted:FuncData}
theorem ZaS:FnScope ["decks","kind","counts","k","row"] ["decks","kind"] (defScope (top 48)):=⟨rfl,rfl,rfl,by decide +kernel,rfl,by decide +kernel,by decide +kernel⟩
def spValue (d:Nat):Sp:=fun vs H Q _=>∃ (v:V) (k:Kd) (p:Addr) (rs:List Addr),vs=[.ref p,v]/\IsDt H (kdD k) v/\kh k<=d/\kz k<=140/\(∀ k',k=.bag k'->kz k'<=48)/\(∀ fs,k=.row fs->kz k<=48)/\Dk H p rs /\
 ∀ (x:Val) (u:V) (H':Hp),ExD p rs H H'->Dk H' p rs->IsVal H' x u->Vof k x->Q u H'
theorem ok_valueS {j d:Nat} (hj:50<=j) (T:Tx mg) (Zaf:Df K mg "_law_value" (top 48) f fd ["decks","kind"]) (ZaI:FnOk P w K mg base CX0 j f fd ["decks","kind"] (fun vs H Q E=>∃ e,e<d/\spValue e vs H Q E))
  (Zaa:Df K mg "_law_draw" (top 42) f_draw fd_draw ["decks","limit"]) (Zab:FnOk P w K mg base CX0 1 f_draw fd_draw ["decks","limit"] spDraw)
  (Zac:Df K mg "_law_number" (top 47) f_number fd_number ["decks"]) (Zak:FnOk P w K mg base CX0 2 f_number fd_number ["decks"] spNum)
  (Zag:Df K mg "_law_sorted" (top 46) f_sorted fd_sorted ["counts"]) (Zap:FnOk P w K mg base CX0 50 f_sorted fd_sorted ["counts"] spBagL) :
  FnOk P w K mg base CX0 (j+1) f fd ["decks","kind"] (spValue d):=by
 refine Zaf.fn.okH (k:=j) ZaS (fun vs H Q E h=>?_) (fun cdv A outer s H vs Q E hr h=>?_)
 ·obtain⟨v,k,p,rs,rfl,_⟩:=h;rfl
 obtain⟨v,k,p,rs,rfl,iv,hk,hz,hzb,hzr,dk,fin⟩:=h
 have hu:=u110 hr
 have hu0:=u0 hr
 have hu1:=hu_of hr
 refine⟨_,(wss_cons (ws_if (wt_cmpR (op_eqU hu) (we_ix (ix_U hu1) (wv 1) we_int (fun _ _=>rfl)) we_str (nomark _)) (wss_one (ws_ret (we_tup (wa_cons we_str (wa_cons (we_call Zak (hr.mono (by lia)) rfl Zac.mg Zac.kp Zac.b .nil pass0 (wa_cons (wv 0) wa_nil)) wa_nil))))) wss_nil)
   (wss_cons (ws_if (wt_cmpR (op_eqU hu) (we_ix (ix_U hu1) (wv 1) we_int (fun _ _=>rfl)) we_str (nomark _)) (wss_one (ws_ret (we_tup (wa_cons we_str (wa_cons (we_ix (ix_U hu1) (we_lst (wa_consts rfl)) (we_call Zab (hr.mono (by lia)) rfl Zaa.mg Zaa.kp Zaa.b .nil pass0 (wa_cons (wv 0) (wa_cons we_int wa_nil))) (fun _ _=>rfl)) wa_nil))))) wss_nil)
   (wss_cons (ws_if (wt_cmpR (op_eqU hu) (we_ix (ix_U hu1) (wv 1) we_int (fun _ _=>rfl)) we_str (nomark _)) (wss_one (ws_ret (we_tup (wa_cons we_str (wa_cons (we_callTy call_tuple_of rfl T.z_tuple bt_tuple (wa_cons (we_lc (Nt:=["field","part"]) (fr:=[("decks",0)]) (LcOk.of (sc:=defScope (top 48)) (N:=["decks","kind","counts","k","row"]) rfl rfl (by decide +kernel)) rfl (wi_U (we_ix (ix_U hu1) (wv 1) we_int (fun _ _=>rfl))) (fun z=>wg_tup rfl (wgs_cons (wg_name (i:=0) (by show (["field","part","decks"]:List Str).Nodup;decide +kernel) rfl (Or.inl rfl) (.inr rfl)) (wgs_cons (wg_name (i:=1) (by show (["field","part","decks"]:List Str).Nodup;decide +kernel) rfl (Or.inl rfl) (.inr rfl)) wgs_nil))) (fun z=>tgt_two (by decide) (by decide)) (fun z=>wif_nil) (fun z=>(we_tup (wa_cons (wv 0) (wa_cons (we_call ZaI (hr.mono (by lia)) rfl Zaf.mg Zaf.kp Zaf.b .nil pass0 (wa_cons (wv 2) (wa_cons (wv 1) wa_nil))) wa_nil))))) wa_nil)) wa_nil))))) wss_nil)
   (wss_cons (ws_set (i:=2) ZaS.nd rfl (Or.inl rfl) (we_lst wa_nil))
   (wss_cons (ws_for PassesOwn.never rfl (wi_range1 rfl T.z_range (wa_cons (we_call Zab (hr.mono (by lia)) rfl Zaa.mg Zaa.kp Zaa.b .nil pass0 (wa_cons (wv 0) (wa_cons we_int wa_nil))) wa_nil)) (wg_name (i:=3) ZaS.nd rfl (Or.inl rfl)) (wss_cons (ws_set (i:=4) ZaS.nd rfl (Or.inl rfl) (we_call ZaI (hr.mono (by lia)) rfl Zaf.mg Zaf.kp Zaf.b .nil pass0 (wa_cons (wv 0) (wa_cons (we_ix (ix_U hu1) (wv 1) we_int (fun _ _=>rfl)) wa_nil))))
   (wss_one (ws_expr (we_bm PySem.F.plainAttrs_list PySem.F.slot_list_append PySem.F.type_list_append mt_append (wv 2) (wa_cons (we_tup (wa_cons (wv 4) (wa_cons (we_ix (ix_U hu1) (we_lst (wa_cons we_int (wa_cons we_int (wa_cons (we_un un_neg we_int) (wa_cons we_int (wa_cons (we_call Zak (hr.mono (by lia)) rfl Zac.mg Zac.kp Zac.b .nil pass0 (wa_cons (wv 0) wa_nil)) wa_nil)))))) (we_call Zab (hr.mono (by lia)) rfl Zaa.mg Zaa.kp Zaa.b .nil pass0 (wa_cons (wv 0) (wa_cons we_int wa_nil))) (fun _ _=>rfl)) wa_nil))) wa_nil))))))
   (wss_one (ws_ret (we_call Zap (hr.mono (by lia)) rfl Zag.mg Zag.kp Zag.b .nil pass0 (wa_cons (wv 2) wa_nil))))))))),?_⟩
 obtain⟨X',gX'⟩:∃ X',X'=(cxOf CX0 P w K mg base ["decks","kind","counts","k","row"] "_law_value" (defScope (top 48)) f cdv A outer s H E).nox:=⟨_,rfl⟩
 try rw[<- gX']
 clear gX'
 cases k with
 | num=>
  rw[kdD]at iv
  obtain⟨a,rfl,ha⟩:=kd_num iv
  refine⟨_,rfl,ixt (SqT.of ha) rfl (.inl ⟨rfl,_,rfl,iteP rfl ⟨_,rfl,p,rs,rfl,dk,fun i H1 ex1 dk1 bi=>⟨(by show 2<=sizeLine;decide),fun t ht=>?_⟩⟩⟩)⟩
  refine fin (.num i) _ _ (ex1.trans (ExD.same (same_new ht _))) (dk1.keep (same_new ht _)) ?_ ⟨by rw[key,kz];exact Nat.le_refl 2,fun k' e=>(nomatch e)⟩
  show IsDt _ (dat (.num i)) _
  rw[dat]
  exact isDt_new ht (.cons (isDt_str _) (.one (isDt_int _)))
 | word=>
  rw[kdD]at iv
  obtain⟨a,rfl,ha⟩:=kd_num iv
  refine⟨_,rfl,ixt (SqT.of ha) rfl (.inl ⟨rfl,_,rfl,iteN (by show ¬decide (V.str "word"=V.str "num")=true;decide) ?_⟩)⟩
  refine⟨_,rfl,ixt (SqT.of ha) rfl (.inl ⟨rfl,_,rfl,iteP rfl (pick (j:=0) rfl (pk_vs dk) rfl rfl rfl fun v hv H1 ex1 dk1=>?_)⟩)⟩
  obtain⟨z,_,rfl⟩:∃ z∈[Str.ofString "x",Str.ofString "xa",Str.ofString "a",Str.ofString "no",Str.ofString "yes",Str.ofString "zzzzzzzz"],v=.str z:=strs_mem hv
  refine⟨(by show 2<=sizeLine;decide),fun t ht=>fin (.word z) _ _ (ex1.trans (ExD.same (same_new ht _))) (dk1.keep (same_new ht _)) ?_ ⟨by rw[key,kz];exact Nat.le_refl 2,fun k' e=>(nomatch e)⟩⟩
  show IsDt _ (dat (.word z)) _
  rw[dat]
  exact isDt_new ht (.cons (isDt_str _) (.one (isDt_str _)))
 | row fs=>
  rw[kdD]at iv
  obtain⟨a,w0,w1,rfl,ha,i0,i1⟩:=dt_two iv
  rw[IsDt]at i0
  subst i0
  refine⟨_,rfl,ixt (SqT.of ha) rfl (.inl ⟨rfl,_,rfl,iteN (by show ¬decide (V.str "row"=V.str "num")=true;decide) ?_⟩)⟩
  refine⟨_,rfl,ixt (SqT.of ha) rfl (.inl ⟨rfl,_,rfl,iteN (by show ¬decide (V.str "row"=V.str "word")=true;decide) ?_⟩)⟩
  refine⟨_,rfl,ixt (SqT.of ha) rfl (.inl ⟨rfl,_,rfl,iteP rfl ?_⟩)⟩
  rw[IsDt]at i1
  obtain⟨b,ws,rfl,hb,ib⟩:=i1
  have nws:ws.length=fs.length:=by rw[ib.length,kdR_map,List.length_map]
  have hz5:=hzr fs rfl
  have lfs:fs.length<=50:=by have:=kzR_len fs;rw[kz]at hz5;lia
  refine .inr ⟨_,rfl,ixt (SqT.of ha) rfl ⟨b,rfl,⟨_,SqT.of hb⟩,?_⟩⟩
  refine⟨fun i m zs H'=>ExD p rs H H'/\Dk H' p rs/\m+i=fs.length/\∃ xs:List (Str×Val),IsDts H' (datR xs) zs/\xs.length=i/\(keyR xs).length<=kzR (fs.take i),⟨fs.length,fun _ _ _ e=>e,dk,rfl,[],.nil,rfl,by simp [keyR,kzR]⟩,?_⟩
  rintro i m zs H2 ⟨ex2,dk2,hm,xs,iz,lx,kx'⟩
  have nz:zs.length=xs.length:=by rw[iz.length,datR_map,List.length_map]
  have t2:=(ExD.stay dk ex2).tp
  have hb2:=t2 _ _ hb
  refine⟨line1 (by lia),?_⟩
  by_cases hi:i<fs.length
  ·obtain⟨u,hu2,du⟩:=ib.get (i:=i) (d:=.tup [.str fs[i].1,kdD fs[i].2]) (by rw[kdR_map,List.getElem?_map,List.getElem?_eq_getElem hi];rfl)
   refine .inr ⟨⟨_,_,SqT.of hb2,hu2⟩,fun zc x H9 hy=>?_⟩
   obtain⟨rfl,hx⟩:=hy
   obtain rfl:u=x:=by have:=hx _ (SqT.of hb2);rw[hu2]at this;injection this
   obtain⟨cc,y1,z1,rfl,hc1,iy1,iz1⟩:=dt_two du
   rw[IsDt]at iy1
   subst iy1
   have tk:fs.take (i+1)=fs.take i++[fs[i]]:=by rw[List.take_add_one,List.getElem?_eq_getElem hi];rfl
   have h1:=kh_mem (List.getElem_mem hi)
   have h2:=kz_mem (List.getElem_mem hi)
   rw[kh]at hk
   rw[kz]at hz5
   generalize fs[i]=fi at *
   refine⟨cc,_,rfl,SqT.of (t2 _ _ hc1),rfl,_,_,rfl,_,_,rfl,rfl,tall ?_⟩
   refine⟨_,rfl,_,rfl,_,rfl,kh fi.2,by lia,z1,fi.2,p,rs,rfl,IsDt.mono t2 iz1,Nat.le_refl _,by lia,fun k' e=>by rw[e,kz]at h2;lia,fun f' e=>by lia,dk2,fun x u H3 ex3 dk3 ix vx=>⟨(by show 2<=sizeLine;decide),fun t ht=>⟨m-1,by lia,ex2.trans (ex3.trans (ExD.same (same_new ht _))),dk3.keep (same_new ht _),by lia,xs++[(fi.1,x)],?_,by rw[List.length_append];show xs.length+1=_;lia,?_⟩⟩⟩
   ·have t3:=(ExD.stay dk2 ex3).tp
    rw[datR_map,List.map_append,<- datR_map]
    exact (IsDts.mono (same_new ht _).tups (IsDts.mono t3 iz)).append (.one (isDt_tup upd_same (.cons (isDt_str _) (.one (IsDt.mono (same_new ht _).tups ix)))))
   ·rw[tk,kzR_snoc,keyR_snoc]
    have:=vx.1
    show _+(2+(key x).length)<=_
    lia
  ·refine .inl ⟨⟨_,SqT.of hb2,by lia⟩,fun l2 hl2=>⟨l2,zs,rfl,.inl ⟨SqL.of upd_same,fun t ht=>⟨(by show 2<=sizeLine;decide),fun r hr'=>?_⟩⟩⟩⟩
   rw[List.take_of_length_le (by lia)]at kx'
   have s3:=(same_new hl2 (.lst zs)).trans ((same_new ht (.tup zs)).trans (same_new hr' (.tup [.str "row",.ref t])))
   refine fin (.row xs) _ _ (ex2.trans (ExD.same s3)) (dk2.keep s3) ?_ ⟨by rw[key,kz,List.length_cons];lia,fun k' e=>(nomatch e)⟩
   show IsDt _ (dat (.row xs)) _
   rw[dat]
   exact isDt_tup upd_same (.cons (isDt_str _) (.one (isDt_tup (same_new hr' _ _ _ upd_same) (IsDts.mono s3.tups iz))))
 | bag k=>
  rw[kdD]at iv
  obtain⟨a,w0,w1,rfl,ha,i0,i1⟩:=dt_two iv
  rw[IsDt]at i0
  subst i0
  have hzk:=hzb k rfl
  refine⟨_,rfl,ixt (SqT.of ha) rfl (.inl ⟨rfl,_,rfl,iteN (by show ¬decide (V.str "bag"=V.str "num")=true;decide) ?_⟩)⟩
  refine⟨_,rfl,ixt (SqT.of ha) rfl (.inl ⟨rfl,_,rfl,iteN (by show ¬decide (V.str "bag"=V.str "word")=true;decide) ?_⟩)⟩
  refine⟨_,rfl,ixt (SqT.of ha) rfl (.inl ⟨rfl,_,rfl,iteN (by show ¬decide (V.str "bag"=V.str "row")=true;decide) ?_⟩)⟩
  dsimp only[tNext]
  refine seqH fun N toN=>⟨(by show 0<=sizeLine;decide),fun l hl=>toN _ _ ?_⟩
  have s1:=same_new hl (.lst [])
  have nl:=dk.fresh hl
  have hl1:(upd H l (.lst [])) l=some (.lst []):=upd_same
  obtain⟨H1,e1⟩:∃ H1,H1=upd H l (.lst []):=⟨_,rfl⟩
  rw[<- e1]at s1 hl1 ⊢
  clear e1
  refine seqH fun N2 toN2=>⟨_,rfl,p,rs,4,rfl,dk.keep s1,by decide,by decide,fun n H2 ex2 dk2 n0 n1=>⟨_,rfl,by lia,by lia,?_⟩⟩
  rw[kh]at hk
  refine for_rangeH (n:=n.toNat) (fun i σ H3=>∃ (us:List V) (xs:List (Val×Int)) (o3 o4:Option V),σ=[some (.ref p),some (.ref a),some (.ref l),o3,o4]/\(∀ b o,b ∉ p::rs->b≠l->H1 b=some o->H3 b=some o)/\Dk H3 p rs/\H3 l=some (.lst us)/\IsDts H3 (datB xs) us/\xs.length=i/\∀ q∈xs,(key q.1).length<=kz k/\q.2.natAbs<10 ^ 30)
   ⟨[],[],none,none,rfl,fun b o nb _ e=>ex2 b o nb e,dk2,ex2 _ _ nl hl1,.nil,rfl,fun _ h=>(nomatch h)⟩ ?turn ?done
  case done=>
   rintro σ H3 ⟨us,xs,o3,o4,rfl,ex3,dk3,hl3,ix,lx,hx⟩
   refine toN2 _ _ ⟨_,rfl,l,us,xs,rfl,hl3,ix,by lia,fun q hq=>Nat.le_trans (hx q hq).1 hzk,fun v H4 s4 iv _=>fin (.bag (theBag xs)) v H4 (fun b o nb e=>s4 _ _ (ex3 b o nb (ne_of_none e hl) (s1 _ _ e))) (dk3.keep s4) iv ?_⟩
   have bk:Bok 3 (kz k) (theBag xs):=bok_of (by decide) (by lia) hx
   refine⟨?_,fun k' e=>by cases e;exact⟨_,rfl,bk⟩⟩
   rw[key,kz,List.length_cons]
   have:=keyB_len (m:=kz k) fun q hq=>(bk.2.2 q hq).1
   have:(theBag xs).length * (2+kz k)<=3 * (2+kz k):=Nat.mul_le_mul_right _ bk.1
   lia
  case turn=>
   rintro E3 i σ H3 hi ⟨us,xs,o3,o4,rfl,ex3,dk3,hl3,ix,lx,hx⟩ toE _
   dsimp only[gName,List.set]
   have ex03:∀ b o,b ∉ p::rs->b≠l->H b=some o->H3 b=some o:=fun b o nb nbl e=>ex3 b o nb nbl (s1 _ _ e)
   have ha3:=ex03 _ _ (dk.nlst ha (by intro _ z;cases z)) (ne_of_none ha hl) ha
   have t03:Tups H H3:=fun b ys e=>ex03 _ _ (dk.nlst e (by intro _ z;cases z)) (ne_of_none e hl) e
   refine seqH fun N3 toN3=>⟨_,rfl,_,rfl,ixt (SqT.of ha3) rfl ⟨kh k,by lia,w1,k,p,rs,rfl,IsDt.mono t03 i1,Nat.le_refl _,by lia,fun k' e=>by rw[e,kz]at hzk;lia,fun f' e=>hzk,dk3,fun x u H4 ex4 dk4 ixu vx=>toN3 _ _ ?_⟩⟩
   have hl4:=ex4 _ _ nl hl3
   have t34:=(ExD.stay dk3 ex4).tp
   refine⟨_,rfl,.inl ⟨rfl,_,SqL.of hl4⟩,_,rfl,pick (j:=0) (n:=5) (G:=fun v=>∃ k:Int,v=.int k/\k.natAbs<10 ^ 30) rfl (fun R kk=>⟨_,rfl,_,rfl,p,rs,rfl,dk4,fun kn H5 ex5 dk5 bk=>kk _ _ rfl (fun v hv=>?_) ex5 dk5⟩) rfl rfl rfl fun v hv H6 ex6 dk6=>?_⟩
   ·simp only[List.mem_cons,List.not_mem_nil,or_false]at hv
    rcases hv with rfl | rfl | rfl | rfl | rfl
    ·exact⟨_,rfl,by decide⟩
    ·exact⟨_,rfl,by decide⟩
    ·exact⟨_,rfl,by decide⟩
    ·exact⟨_,rfl,by decide⟩
    ·exact⟨_,rfl,bk⟩
   obtain⟨c,rfl,bc⟩:=hv
   refine⟨(by show 2<=sizeLine;decide),fun t ht=>?_⟩
   have s7:=same_new ht (.tup [u,.int c])
   have hl7:=s7 _ _ (ex6 _ _ nl hl4)
   have t46:=(ExD.stay dk4 ex6).tp
   refine⟨l,us,_,rfl,rfl,hl7,line1 (by rw[ix.length,datB_map,List.length_map];lia),toE _ _ ⟨us++[.ref t],xs++[(x,c)],_,_,rfl,fun b o nb nbl e=>?_,(dk6.keep s7).updL nl,upd_same,?_,by rw[List.length_append,lx];rfl,fun q hq=>?_⟩⟩
   ·rw[upd_ne nbl];exact s7 _ _ (ex6 _ _ nb (ex4 _ _ nb (ex3 _ _ nb nbl e)))
   ·have t8:Tups (upd H6 t (.tup [u,.int c])) (upd (upd H6 t (.tup [u,.int c])) l (.lst (us++[.ref t]))):=(Stay.lst hl7 fun b o nb e=>by rw[upd_ne nb];exact e).tp
    rw[datB_map,List.map_append,<- datB_map]
    exact (IsDts.mono t8 (IsDts.mono s7.tups (IsDts.mono t46 (IsDts.mono t34 ix)))).append (.one (isDt_tup (t8 _ _ upd_same) (.cons (IsDt.mono t8 (IsDt.mono s7.tups (IsDt.mono t46 ixu))) (.one (isDt_int _)))))
   ·rcases List.mem_append.mp hq with h | h
    ·exact hx q h
    ·rw[List.mem_singleton.mp h];exact⟨vx.1,bc⟩
theorem value_all (T:Tx mg) (Zaf:Df K mg "_law_value" (top 48) f fd ["decks","kind"])
  (Zaa:Df K mg "_law_draw" (top 42) f_draw fd_draw ["decks","limit"]) (Zab:FnOk P w K mg base CX0 1 f_draw fd_draw ["decks","limit"] spDraw)
  (Zac:Df K mg "_law_number" (top 47) f_number fd_number ["decks"]) (Zak:FnOk P w K mg base CX0 2 f_number fd_number ["decks"] spNum)
  (Zag:Df K mg "_law_sorted" (top 46) f_sorted fd_sorted ["counts"]) (Zap:FnOk P w K mg base CX0 50 f_sorted fd_sorted ["counts"] spBagL) :
  ∀ d:Nat,FnOk P w K mg base CX0 (51+d) f fd ["decks","kind"] (spValue d):=by
 intro d
 induction d using Nat.strongRecOn with
 | _ d ih=>
  have:=ok_valueS (j:=50+d) (d:=d) (by lia) T Zaf (fnOk_lt fun e he=>(ih e he).mono (by lia)) Zaa Zab Zac Zak Zag Zap
  rw[show 50+d+1=51+d by lia]at this
  exact this
end
end K21
end
section
namespace K21
open PySem L2 Kn
def ME (σ:St) (H:Hp) (te:TE) (d:Dt):Prop:=∀ H1,Same H H1->∀ Q:VK,(∀ v H',Same H1 H'->IsDt H' d v->Q v H')->te σ H1 Q
def MA (σ:St) (H:Hp) (ta:TA) (ds:List Dt):Prop:=∀ H1,Same H H1->∀ R:List V->Hp->Prop,(∀ xs H',Same H1 H'->IsDts H' ds xs->R xs H')->ta σ H1 R
def ML (σ:St) (H:Hp) (te:TE) (ds:List Dt):Prop:=∀ H1,Same H H1->∀ Q:VK,(∀ l xs H',Same H1 H'->H1 l=none->H' l=some (.lst xs)->IsDts H' ds xs->Q (.ref l) H')->te σ H1 Q
section
variable {σ:St} {H:Hp}
theorem me_str (s:Str):ME σ H (tC (.str s)) (.str s):=fun H1 _ Q k=>k _ _ (.refl _) (isDt_str _)
theorem me_var {i:Nat}{v:V}{d:Dt} (e:σ[i]?=some (some v)) (h:IsDt H d v):ME σ H (tVar i) d:=fun H1 s Q k=>⟨v,e,k _ _ (.refl _) (IsDt.mono s.tups h)⟩
theorem ma_nil:MA σ H tNil []:=fun H1 _ R k=>k [] _ (.refl _) .nil
theorem ma_cons {te:TE}{ta:TA}{d:Dt}{ds:List Dt} (a:ME σ H te d) (b:MA σ H ta ds):MA σ H (tCons te ta) (d::ds):=fun H1 s R k=>
 a H1 s _ fun v H2 s2 h=>b H2 (s.trans s2) _ fun xs H3 s3 hs=>k _ _ (s2.trans s3) (.cons (IsDt.mono s3.tups h) hs)
theorem me_tup {ta:TA}{ds:List Dt} (l:Nat.ble ds.length 10=true) (a:MA σ H ta ds):ME σ H (tTup ta) (.tup ds):=fun H1 s Q k=>
 a H1 s _ fun xs H2 s2 hs=>⟨Nat.le_of_lt (line1 (by rw[hs.length];have:=Nat.le_of_ble_eq_true l;lia)),fun p hp=>k _ _ (s2.trans (same_new hp _)) (isDt_new hp hs)⟩
theorem ml_lst {ta:TA}{ds:List Dt} (l:Nat.ble ds.length 10=true) (a:MA σ H ta ds):ML σ H (tLst ta) ds:=fun H1 s Q k=>
 a H1 s _ fun xs H2 s2 hs=>⟨Nat.le_of_lt (line1 (by rw[hs.length];have:=Nat.le_of_ble_eq_true l;lia)),fun p hp=>k _ _ _ (s2.trans (same_new hp _)) (same_back s2 hp) upd_same (IsDts.mono (same_new hp _).tups hs)⟩
theorem ml_cat {A B:R2}{C:R2}{i:Nat}{l:Addr}{xs:List V}{es ds:List Dt}{te:TE} (e:σ[i]?=some (some (.ref l))) (hl:H l=some (.lst xs)) (hs:IsDts H es xs) (n:Nat.ble (es.length+ds.length) 20=true) (b:ML σ H te ds) :
  ML σ H (tOp (fun x y H Q=>A x y H Q\/(B x y H Q\/(rCat x y H Q\/C x y H Q))) (tVar i) te) (es++ds):=fun H1 s Q k=>
 ⟨_,e,b H1 s _ fun l2 ys H2 s2 _ h2 i2=>.inr (.inr (.inl ⟨l,l2,xs,ys,rfl,rfl,s2 _ _ (s _ _ hl),h2,Nat.le_of_lt (line1 (by rw[hs.length,i2.length];have:=Nat.le_of_ble_eq_true n;lia)),fun p hp=>k _ _ _ (s2.trans (same_new hp _)) (same_back s2 hp) upd_same ((IsDts.mono (s.trans (s2.trans (same_new hp _))).tups hs).append (IsDts.mono (same_new hp _).tups i2))⟩))⟩
end
theorem asg_me {te:TE}{i:Nat}{u:TS}{D:Ends} {σ:St} {H:Hp}{d:Dt} (m:ME σ H te d) (k:∀ v H',Same H H'->IsDt H' d v->u D (σ.set i (some v)) H'):tSeq (tAsg te (gName i)) u D σ H:=m H (.refl _) _ k
theorem asg1_me {te:TE}{i:Nat}{D:Ends} {σ:St} {H:Hp}{d:Dt} (m:ME σ H te d) (k:∀ v H',Same H H'->IsDt H' d v->D.nx (σ.set i (some v)) H'):tAsg te (gName i) D σ H:=m H (.refl _) _ k
theorem asg_ml {te:TE}{i:Nat}{u:TS}{D:Ends} {σ:St} {H:Hp}{ds:List Dt} (m:ML σ H te ds) (k:∀ l xs H',Same H H'->H l=none->H' l=some (.lst xs)->IsDts H' ds xs->u D (σ.set i (some (.ref l))) H'):tSeq (tAsg te (gName i)) u D σ H:=m H (.refl _) _ k
theorem ret_ix {te tb:TE}{r:R2}{D:Ends} {σ:St} {H:Hp}{ds:List Dt} (m:ML σ H te ds) (k:∀ l xs H',Same H H'->H l=none->H' l=some (.lst xs)->IsDts H' ds xs->tb σ H' fun y H2=>r (.ref l) y H2 D.rt):tRet (tOp r te tb) D σ H:=m H (.refl _) _ k
theorem app_me {K:PySem.W.Frag}{j:Nat}{ta:TE}{u:TS}{D:Ends} {σ:St} {H:Hp}{l:Addr}{us:List V}{ds:List Dt}{d:Dt} (e:σ[j]?=some (some (.ref l))) (hl:H l=some (.lst us)) (hs:IsDts H ds us) (n:Nat.ble ds.length 20=true) (m:ME σ H ta d)
  (k:∀ H' us',(∀ b o,b≠l->H b=some o->H' b=some o)->H' l=some (.lst us')->IsDts H' (ds++[d]) us'->u D σ H'):tSeq (tDrop (tBM K "list" rAppend (tVar j) (tCons ta tNil))) u D σ H:=by
 refine⟨_,e,.inl ⟨rfl,_,SqL.of hl⟩,m H (.refl _) _ fun v H1 s1 iv=>⟨l,us,v,rfl,rfl,s1 _ _ hl,line1 (by rw[hs.length];have:=Nat.le_of_ble_eq_true n;lia),k _ (us++[v]) (fun b o nb eb=>by rw[upd_ne nb];exact s1 _ _ eb) upd_same ?_⟩⟩
 have t:Tups H1 (upd H1 l (.lst (us++[v]))):=(Stay.lst (s1 _ _ hl) fun b o nb e=>by rw[upd_ne nb];exact e).tp
 exact (IsDts.mono t (IsDts.mono s1.tups hs)).append (.one (IsDt.mono t iv))
def fA:Str×Kd:=(Str.ofString "a",.num)
def fB:Str×Kd:=(Str.ofString "b",.word)
def k10:List Kd:=[.num,.word,.row [fA,fB],.row [fA]]++[.row [fB,(Str.ofString "n",.bag .num)]]++[.row [fA,(Str.ofString "g",.bag (.row [fA]))]]++[.row [fA,(Str.ofString "c",.row [fA,fB])]]++[.row [fA,fB,(Str.ofString "n",.bag .num),(Str.ofString "z",.bag .num)]]++[.row [],.bag .num]
def KOk (k:Kd):Prop:=kh k<=4/\kz k<=44
theorem k10_ok:∀ k∈k10,KOk k:=by
 intro k hk
 simp only[k10,List.mem_append,List.mem_cons,List.not_mem_nil,or_false]at hk
 unfold KOk
 rcases hk with (((((rfl | rfl | rfl | rfl) | rfl) | rfl) | rfl) | rfl) | (rfl | rfl) <;> simp [kh,khR,kz,kzR,fA,fB]
section
variable {P:Program}{w:World}{K:PySem.W.Frag}{mg:Str->Option Value}{base:Heap}{f f_draw f_number f_sorted:Addr}{fd fd_draw fd_number fd_sorted:FuncData}
theorem ZaT:FnScope ["k","number","word","some"] ["k"] (defScope (top 43)):=⟨rfl,rfl,rfl,by decide +kernel,rfl,by decide +kernel,by decide +kernel⟩
def spKind:Sp:=fun vs H Q _=>∃ k:Int,vs=[.int k]/\∀ (v:V) (H':Hp) (kd:Kd),Same H H'->IsDt H' (kdD kd) v->KOk kd->Q v H'
theorem ok_kind (T:Tx mg) (D:Df K mg "_law_kind" (top 43) f fd ["k"]):FnOk P w K mg base CX0 1 f fd ["k"] spKind:=by
 refine D.fn.okH ZaT (fun vs H Q E h=>?_) (fun cdv A outer s H vs Q E hr h=>?_)
 ·obtain⟨k,rfl,_⟩:=h;rfl
 obtain⟨k,rfl,fin⟩:=h
 have hu:=u110 hr
 have hu0:=u0 hr
 have hu1:=hu_of hr
 refine⟨_,(wss_cons (ws_set (i:=1) ZaT.nd rfl (Or.inl rfl) (we_tup (wa_cons we_str (wa_cons (we_tup (wa_cons we_str wa_nil)) wa_nil))))
   (wss_cons (ws_set (i:=2) ZaT.nd rfl (Or.inl rfl) (we_tup (wa_cons we_str (wa_cons (we_tup (wa_cons we_str wa_nil)) wa_nil))))
   (wss_cons (ws_set (i:=3) ZaT.nd rfl (Or.inl rfl) (we_lst (wa_cons (we_tup (wa_cons we_str wa_nil)) (wa_cons (we_tup (wa_cons we_str wa_nil)) (wa_cons (we_tup (wa_cons we_str (wa_cons (we_tup (wa_cons (wv 1) (wa_cons (wv 2) wa_nil))) wa_nil))) (wa_cons (we_tup (wa_cons we_str (wa_cons (we_tup (wa_cons (wv 1) wa_nil)) wa_nil))) wa_nil))))))
   (wss_cons (ws_expr (we_bm PySem.F.plainAttrs_list PySem.F.slot_list_append PySem.F.type_list_append mt_append (wv 3) (wa_cons (we_tup (wa_cons we_str (wa_cons (we_tup (wa_cons (wv 2) (wa_cons (we_tup (wa_cons we_str (wa_cons (we_tup (wa_cons we_str (wa_cons (we_tup (wa_cons we_str wa_nil)) wa_nil))) wa_nil))) wa_nil))) wa_nil))) wa_nil)))
   (wss_cons (ws_expr (we_bm PySem.F.plainAttrs_list PySem.F.slot_list_append PySem.F.type_list_append mt_append (wv 3) (wa_cons (we_tup (wa_cons we_str (wa_cons (we_tup (wa_cons (wv 1) (wa_cons (we_tup (wa_cons we_str (wa_cons (we_tup (wa_cons we_str (wa_cons (we_tup (wa_cons we_str (wa_cons (we_tup (wa_cons (wv 1) wa_nil)) wa_nil))) wa_nil))) wa_nil))) wa_nil))) wa_nil))) wa_nil)))
   (wss_cons (ws_expr (we_bm PySem.F.plainAttrs_list PySem.F.slot_list_append PySem.F.type_list_append mt_append (wv 3) (wa_cons (we_tup (wa_cons we_str (wa_cons (we_tup (wa_cons (wv 1) (wa_cons (we_tup (wa_cons we_str (wa_cons (we_tup (wa_cons we_str (wa_cons (we_tup (wa_cons (wv 1) (wa_cons (wv 2) wa_nil))) wa_nil))) wa_nil))) wa_nil))) wa_nil))) wa_nil)))
   (wss_cons (ws_expr (we_bm PySem.F.plainAttrs_list PySem.F.slot_list_append PySem.F.type_list_append mt_append (wv 3) (wa_cons (we_tup (wa_cons we_str (wa_cons (we_tup (wa_cons (wv 1) (wa_cons (wv 2) (wa_cons (we_tup (wa_cons we_str (wa_cons (we_tup (wa_cons we_str (wa_cons (we_tup (wa_cons we_str wa_nil)) wa_nil))) wa_nil))) (wa_cons (we_tup (wa_cons we_str (wa_cons (we_tup (wa_cons we_str (wa_cons (we_tup (wa_cons we_str wa_nil)) wa_nil))) wa_nil))) wa_nil))))) wa_nil))) wa_nil)))
   (wss_one (ws_ret (we_ix (ix_U hu1) (we_op op_plus (wv 3) (we_lst (wa_cons (we_tup (wa_cons we_str (wa_cons (we_tup wa_nil) wa_nil))) (wa_cons (we_tup (wa_cons we_str (wa_cons (we_tup (wa_cons we_str wa_nil)) wa_nil))) wa_nil)))) (we_op op_mod (wv 0) we_int) (fun _ _=>rfl))))))))))),?_⟩
 have nm:∀ {σ:St} {H:Hp},ME σ H (tTup (tCons (tC (.str "num")) tNil)) (kdD .num):=by
  intro σ H;rw[kdD];exact me_tup rfl (ma_cons (me_str _) ma_nil)
 have wm:∀ {σ:St} {H:Hp},ME σ H (tTup (tCons (tC (.str "word")) tNil)) (kdD .word):=by
  intro σ H;rw[kdD];exact me_tup rfl (ma_cons (me_str _) ma_nil)
 refine asg_me (d:=.tup [.str (Str.ofString "a"),kdD .num]) (me_tup rfl (ma_cons (me_str _) (ma_cons nm ma_nil))) fun v1 H1 s1 i1=>?_
 refine asg_me (d:=.tup [.str (Str.ofString "b"),kdD .word]) (me_tup rfl (ma_cons (me_str _) (ma_cons wm ma_nil))) fun v2 H2 s2 i2=>?_
 replace i1:=IsDt.mono s2.tups i1
 have s02:=s1.trans s2
 clear s1 s2
 have row:∀ {fs:List (Str×Kd)} {σ:St} {H:Hp}{ta:TA},Nat.ble (kdR fs).length 10=true->MA σ H ta (kdR fs)->ME σ H (tTup (tCons (tC (.str "row")) (tCons (tTup ta) tNil))) (kdD (.row fs)):=by
  intro fs σ H ta l m;rw[kdD];exact me_tup rfl (ma_cons (me_str _) (ma_cons (me_tup l m) ma_nil))
 have bagm:∀ {k:Kd} {σ:St} {H:Hp}{te:TE},ME σ H te (kdD k)->ME σ H (tTup (tCons (tC (.str "bag")) (tCons te tNil))) (kdD (.bag k)):=by
  intro k σ H te m;rw[kdD];exact me_tup rfl (ma_cons (me_str _) (ma_cons m ma_nil))
 refine asg_ml (ds:=[Kd.num,.word,.row [fA,fB],.row [fA]].map kdD) (ml_lst rfl (ma_cons nm (ma_cons wm (ma_cons (row (by simp only[kdR];rfl) (by simp only[kdR];exact ma_cons (me_var rfl i1) (ma_cons (me_var rfl i2) ma_nil))) (ma_cons (row (by simp only[kdR];rfl) (by simp only[kdR];exact ma_cons (me_var rfl i1) ma_nil)) ma_nil))))) fun l us H3 s3 hl3 hl ius=>?_
 replace i1:=IsDt.mono s3.tups i1
 replace i2:=IsDt.mono s3.tups i2
 have h0l:H l=none:=same_back s02 hl3
 have k3:∀ b o,b≠l->H b=some o->H3 b=some o:=fun b o _ e=>s3 _ _ (s02 _ _ e)
 clear s02 s3 hl3
 refine app_me (d:=kdD (.row [fB,(Str.ofString "n",.bag .num)])) rfl hl ius rfl (row (by simp only[kdR];rfl) (by simp only[kdR];exact ma_cons (me_var rfl i2) (ma_cons (me_tup rfl (ma_cons (me_str _) (ma_cons (bagm nm) ma_nil))) ma_nil))) fun H4 us4 k4 hl4 ius4=>?_
 replace i1:=IsDt.mono (Stay.lst hl k4).tp i1
 replace i2:=IsDt.mono (Stay.lst hl k4).tp i2
 replace k3:∀ b o,b≠l->H b=some o->H4 b=some o:=fun b o nb e=>k4 _ _ nb (k3 _ _ nb e)
 clear k4 hl ius
 have hl:=hl4
 have ius:=ius4
 clear hl4 ius4
 refine app_me (d:=kdD (.row [fA,(Str.ofString "g",.bag (.row [fA]))])) rfl hl ius rfl (row (by simp only[kdR];rfl) (by simp only[kdR];exact ma_cons (me_var rfl i1) (ma_cons (me_tup rfl (ma_cons (me_str _) (ma_cons (bagm (row (by simp only[kdR];rfl) (by simp only[kdR];exact ma_cons (me_var rfl i1) ma_nil))) ma_nil))) ma_nil))) fun H4 us4 k4 hl4 ius4=>?_
 replace i1:=IsDt.mono (Stay.lst hl k4).tp i1
 replace i2:=IsDt.mono (Stay.lst hl k4).tp i2
 replace k3:∀ b o,b≠l->H b=some o->H4 b=some o:=fun b o nb e=>k4 _ _ nb (k3 _ _ nb e)
 clear k4 hl ius
 have hl:=hl4
 have ius:=ius4
 clear hl4 ius4
 refine app_me (d:=kdD (.row [fA,(Str.ofString "c",.row [fA,fB])])) rfl hl ius rfl (row (by simp only[kdR];rfl) (by simp only[kdR];exact ma_cons (me_var rfl i1) (ma_cons (me_tup rfl (ma_cons (me_str _) (ma_cons (row (by simp only[kdR];rfl) (by simp only[kdR];exact ma_cons (me_var rfl i1) (ma_cons (me_var rfl i2) ma_nil))) ma_nil))) ma_nil))) fun H4 us4 k4 hl4 ius4=>?_
 replace i1:=IsDt.mono (Stay.lst hl k4).tp i1
 replace i2:=IsDt.mono (Stay.lst hl k4).tp i2
 replace k3:∀ b o,b≠l->H b=some o->H4 b=some o:=fun b o nb e=>k4 _ _ nb (k3 _ _ nb e)
 clear k4 hl ius
 have hl:=hl4
 have ius:=ius4
 clear hl4 ius4
 refine app_me (d:=kdD (.row [fA,fB,(Str.ofString "n",.bag .num),(Str.ofString "z",.bag .num)])) rfl hl ius rfl (row (by simp only[kdR];rfl) (by simp only[kdR];exact ma_cons (me_var rfl i1) (ma_cons (me_var rfl i2) (ma_cons (me_tup rfl (ma_cons (me_str _) (ma_cons (bagm nm) ma_nil))) (ma_cons (me_tup rfl (ma_cons (me_str _) (ma_cons (bagm nm) ma_nil))) ma_nil))))) fun H4 us4 k4 hl4 ius4=>?_
 replace i1:=IsDt.mono (Stay.lst hl k4).tp i1
 replace i2:=IsDt.mono (Stay.lst hl k4).tp i2
 replace k3:∀ b o,b≠l->H b=some o->H4 b=some o:=fun b o nb e=>k4 _ _ nb (k3 _ _ nb e)
 clear k4 hl ius
 have hl:=hl4
 have ius:=ius4
 clear hl4 ius4
 refine' ret_ix (ds:=_++[kdD (.row []),kdD (.bag .num)]) (ml_cat (i:=3) rfl hl ius rfl (ml_lst rfl (ma_cons (row (by simp only[kdR];rfl) (by simp only[kdR];exact ma_nil)) (ma_cons (bagm nm) ma_nil)))) fun l2 ys H5 s5 _ hl2 iy=>?_
 have r0:0<=k % 10:=Int.emod_nonneg _ (by decide)
 have r1:k % 10<10:=Int.emod_lt_of_pos _ (by decide)
 have ly:ys.length=10:=by rw[iy.length];rfl
 obtain⟨v,ev,mv⟩:=atI_mem (xs:=ys) r0 (by lia)
 obtain⟨j,hj,ej⟩:=List.getElem_of_mem mv
 have lk:j<k10.length:=by rw[ly]at hj;exact hj
 obtain⟨y,e1,d1⟩:=iy.get (i:=j) (d:=kdD k10[j]) (by
  show (k10.map kdD)[j]?=_
  rw[List.getElem?_map,List.getElem?_eq_getElem lk];rfl)
 rw[List.getElem?_eq_getElem hj]at e1
 cases e1
 refine⟨_,rfl,_,_,rfl,rfl,(by show (0:Int)<10;decide),ixl (SqL.of hl2) ev (fin v _ k10[j] (fun b o e=>s5 _ _ (k3 _ _ (ne_of_none e h0l) e)) (by rw[<- ej];exact d1) (k10_ok _ (List.getElem_mem lk)))⟩
end
end K21
end
section
namespace K21
open PySem L2 Kn
inductive Pq where
 | tab (n:Str)
 | one (v:Str)
 | times (k:Int) (q:Pq)
 | both (a b:Pq)
 | nn (t:Tr)
def toT:Pq->Tr
 | .tab n=>.node (Str.ofString "table") [.txt n] []
 | .one v=>.node (Str.ofString "one") [] [.node (Str.ofString "var") [.txt v] []]
 | .times k q=>.node (Str.ofString "times") [.int k] [toT q]
 | .both a b=>.node (Str.ofString "both") [] [toT a,toT b]
 | .nn t=>.node (Str.ofString "none") [] [t]
theorem td_node (w:Str) (as:List At) (ps:List Tr):tdat (.node w as ps)=.tup (.str w::(as.map atD++ps.map tdat)):=by rw[tdat,tdatL_map]
theorem tt_tab (n:Str):tdat (toT (.tab n))=.tup [.str (Str.ofString "table"),.str n]:=by rw[toT];exact td_node _ _ _
theorem tt_one (v:Str):tdat (toT (.one v))=.tup [.str (Str.ofString "one"),.tup [.str (Str.ofString "var"),.str v]]:=by rw[toT,td_node,List.map_cons,td_node];rfl
theorem tt_times (k:Int) (q:Pq):tdat (toT (.times k q))=.tup [.str (Str.ofString "times"),.int k,tdat (toT q)]:=by rw[toT];exact td_node _ _ _
theorem tt_both (a b:Pq):tdat (toT (.both a b))=.tup [.str (Str.ofString "both"),tdat (toT a),tdat (toT b)]:=by rw[toT];exact td_node _ _ _
theorem tt_nn (t:Tr):tdat (toT (.nn t))=.tup [.str (Str.ofString "none"),tdat t]:=by rw[toT];exact td_node _ _ _
inductive Pl (N:List Str):Nat->Pq->Prop
 | tab {d:Nat}{n:Str} (h:n∈N):Pl N d (.tab n)
 | one {d:Nat}{v:Str} (h:v∈[Str.ofString "x",Str.ofString "y"]):Pl N d (.one v)
 | times {d:Nat}{k:Int}{q:Pq} (hk:k.natAbs<10 ^ 30) (h:Pl N d q):Pl N (d+1) (.times k q)
 | five {d:Nat}{q:Pq} (h:Pl N d q):Pl N (d+1) (.both (.times (-1) q) q)
 | both {d:Nat}{a b:Pq} (ha:Pl N d a) (hb:Pl N d b):Pl N (d+1) (.both a b)
theorem tq_both {a b:Tr} (ha:TQ a) (hb:TQ b):TQ (.node (Str.ofString "both") [] [a,b]):=.plain (by decide +kernel) (by decide +kernel) fun q hq=>by
 simp only[List.mem_cons,List.not_mem_nil,or_false]at hq
 rcases hq with rfl | rfl
 ·exact ha
 ·exact hb
theorem tq_of (q:Pq):TQ (toT q):=by
 induction q with
 | tab n=>exact .atom (by simp)
 | one v=>exact .plain (by decide +kernel) (by decide +kernel) fun q hq=>by rw[List.mem_singleton.mp hq];exact .atom (by simp)
 | times k q ih=>exact .times ih
 | both a b ha hb=>exact tq_both ha hb
 | nn t=>exact .none
def Lq (S:Str->List (Val×Int)) (E:Str->Val):Pq->Int->List (Val×Int)
 | .tab n,f=>(S n).map fun p=>(p.1,p.2 * f)
 | .one v,f=>[(E v,f)]
 | .times k q,f=>Lq S E q (f * k)
 | .both a b,f=>Lq S E a f++Lq S E b f
 | .nn _,_=>[]
theorem cnt_Lq (v:Val) (S:Str->List (Val×Int)) (E:Str->Val):∀ (q:Pq) (f:Int),cnt v (Lq S E q f)=cnt v (Lq S E q 1) * f
 | .tab n,f=>by
  rw[Lq,Lq,cnt_mulR,cnt_mulR,Int.mul_one]
 | .one u,f=>by
  rw[Lq,Lq,cnt_cons,cnt_cons]
  split <;> simp [cnt]
 | .times k q,f=>by
  rw[Lq,Lq,cnt_Lq v S E q (f * k),cnt_Lq v S E q (1 * k),Int.one_mul,Int.mul_assoc,Int.mul_comm k f]
 | .both a b,f=>by
  rw[Lq,Lq,cnt_append,cnt_append,cnt_Lq v S E a f,cnt_Lq v S E b f,Int.add_mul]
 | .nn _,f=>by rw[Lq,Lq];exact (Int.zero_mul f).symm
structure Env0 (N:List Str) (S:Str->List (Val×Int)) (E:Str->Val):Prop where
 s:∀ n∈N,Bok 40 48 (S n)
 e:∀ v∈[Str.ofString "x",Str.ofString "y"],(key (E v)).length<=48
theorem Lq_len {N:List Str}{S:Str->List (Val×Int)}{E:Str->Val} (h:Env0 N S E) {d:Nat}{q:Pq} (p:Pl N d q):∀ f,(Lq S E q f).length<=40 * 2 ^ d:=by
 induction p with
 | @tab d n hn=>intro f;rw[Lq,List.length_map];exact Nat.le_trans (h.s _ hn).1 (Nat.le_mul_of_pos_right _ (Nat.two_pow_pos d))
 | @one d v hv=>intro f;rw[Lq];exact Nat.le_trans (show 1<=40 by decide) (Nat.le_mul_of_pos_right _ (Nat.two_pow_pos d))
 | @times d k q hk p ih=>intro f;rw[Lq];exact Nat.le_trans (ih _) (Nat.mul_le_mul_left _ (Nat.pow_le_pow_right (by decide) (Nat.le_succ d)))
 | @five d q p ih=>
  intro f
  have h1:=ih (f * -1)
  have h2:=ih f
  rw[Lq,Lq,List.length_append,Nat.pow_succ]
  lia
 | @both d a b pa pb ia ib=>
  intro f
  have h1:=ia f
  have h2:=ib f
  rw[Lq,List.length_append,Nat.pow_succ]
  lia
theorem Lq_mem {N:List Str}{S:Str->List (Val×Int)}{E:Str->Val} (h:Env0 N S E) {d:Nat}{q:Pq} (p:Pl N d q):∀ f,∀ r∈Lq S E q f,(key r.1).length<=48/\r.2.natAbs<=10 ^ 33 * (10 ^ 30) ^ d * f.natAbs:=by
 have one:∀ d:Nat,1<=(10 ^ 30) ^ d:=fun d=>Nat.one_le_pow _ _ (by decide)
 induction p with
 | @tab d n hn=>
  intro f r hr
  rw[Lq]at hr
  obtain⟨u,hu,rfl⟩:=List.mem_map.mp hr
  obtain⟨h1,h2⟩:=(h.s _ hn).2.2 u hu
  refine⟨h1,?_⟩
  show (u.2 * f).natAbs<=_
  rw[Int.natAbs_mul]
  exact Nat.mul_le_mul_right _ (Nat.le_trans (Nat.le_of_lt h2) (Nat.le_mul_of_pos_right _ (one d)))
 | @one d v hv=>
  intro f r hr
  rw[Lq]at hr
  rw[List.mem_singleton.mp hr]
  exact⟨h.e _ hv,Nat.le_mul_of_pos_left _ (Nat.mul_pos (by decide) (one d))⟩
 | @times d k q hk p ih=>
  intro f r hr
  rw[Lq]at hr
  obtain⟨h1,h2⟩:=ih _ r hr
  refine⟨h1,Nat.le_trans h2 ?_⟩
  have e:(10 ^ 30) ^ (d+1)=(10 ^ 30) ^ d * 10 ^ 30:=Nat.pow_succ _ _
  rw[e,Int.natAbs_mul,<- Nat.mul_assoc (10 ^ 33),Nat.mul_comm f.natAbs k.natAbs,<- Nat.mul_assoc]
  exact Nat.mul_le_mul_right _ (Nat.mul_le_mul_left _ (Nat.le_of_lt hk))
 | @five d q p ih=>
  intro f r hr
  rw[Lq,Lq]at hr
  have up:10 ^ 33 * (10 ^ 30) ^ d * f.natAbs<=10 ^ 33 * (10 ^ 30) ^ (d+1) * f.natAbs:=Nat.mul_le_mul_right _ (Nat.mul_le_mul_left _ (Nat.pow_le_pow_right (by decide) (Nat.le_succ d)))
  rcases List.mem_append.mp hr with hr | hr
  ·obtain⟨h1,h2⟩:=ih _ r hr
   rw[Int.natAbs_mul,show (-1:Int).natAbs=1 from rfl,Nat.mul_one]at h2
   exact⟨h1,Nat.le_trans h2 up⟩
  ·obtain⟨h1,h2⟩:=ih _ r hr
   exact⟨h1,Nat.le_trans h2 up⟩
 | @both d a b pa pb ia ib=>
  intro f r hr
  rw[Lq]at hr
  have up:10 ^ 33 * (10 ^ 30) ^ d * f.natAbs<=10 ^ 33 * (10 ^ 30) ^ (d+1) * f.natAbs:=Nat.mul_le_mul_right _ (Nat.mul_le_mul_left _ (Nat.pow_le_pow_right (by decide) (Nat.le_succ d)))
  rcases List.mem_append.mp hr with hr | hr
  ·obtain⟨h1,h2⟩:=ia _ r hr
   exact⟨h1,Nat.le_trans h2 up⟩
  ·obtain⟨h1,h2⟩:=ib _ r hr
   exact⟨h1,Nat.le_trans h2 up⟩
noncomputable def bq (S:Str->List (Val×Int)) (E:Str->Val) (q:Pq):List (Val×Int):=theBag (Lq S E q 1)
theorem bq_len {N:List Str}{S:Str->List (Val×Int)}{E:Str->Val} (h:Env0 N S E) {d:Nat}{q:Pq} (p:Pl N d q) (hd:d<=4):(bq S E q).length<=640:=by
 have h1:=Lq_len h p 1
 have h2:2 ^ d<=2 ^ 4:=Nat.pow_le_pow_right (by decide) hd
 have:=(theBag_ok (Lq S E q 1)).2.1
 unfold bq
 lia
theorem bq_mem {N:List Str}{S:Str->List (Val×Int)}{E:Str->Val} (h:Env0 N S E) {d:Nat}{q:Pq} (p:Pl N d q) (hd:d<=4):∀ r∈bq S E q,(key r.1).length<=48/\r.2.natAbs<2 ^ 600:=by
 intro r hr
 obtain⟨h1,h2,h3⟩:=theBag_ok (Lq S E q 1)
 obtain⟨u,hu,e⟩:=h3 r hr
 refine⟨e ▸ (Lq_mem h p 1 u hu).1,?_⟩
 rw[bag_cnt h1 hr]
 have b:=cnt_le r.1 (M:=10 ^ 33 * (10 ^ 30) ^ 4) (Lq S E q 1) fun p' hp=>by
  refine Nat.le_trans (Lq_mem h p 1 p' hp).2 ?_
  rw[show (1:Int).natAbs=1 from rfl,Nat.mul_one]
  exact Nat.mul_le_mul_left _ (Nat.pow_le_pow_right (by decide) hd)
 have l:=Lq_len h p 1
 have h2:2 ^ d<=2 ^ 4:=Nat.pow_le_pow_right (by decide) hd
 refine Nat.lt_of_le_of_lt b (Nat.lt_of_le_of_lt (Nat.mul_le_mul_right _ (show _<=640 by lia)) (by decide +kernel))
theorem isBag_times {xs qs:List (Val×Int)} (h:IsBag xs qs) (k:Int):IsBag (xs.map fun r=>(r.1,r.2 * k)) (timesQ k qs):=by
 unfold timesQ
 split
 ·rename_i e
  exact⟨.nil,fun _ h=>(nomatch h),fun v=>by rw[cnt_mulR,e,Int.mul_zero];rfl⟩
 ·rename_i e
  refine⟨List.Pairwise.map _ (fun _ _ h=>h) h.1,fun q hq=>?_,fun v=>by rw[cnt_mulR,cnt_mulR,h.2.2]⟩
  obtain⟨r,hr,rfl⟩:=List.mem_map.mp hq
  exact Int.mul_ne_zero (h.2.1 r hr) e
theorem bq_times (S:Str->List (Val×Int)) (E:Str->Val) (k:Int) (q:Pq):timesQ k (bq S E q)=bq S E (.times k q):=
 theBag_of (isBag_times (theBag_ok (Lq S E q 1)).1 k) fun v=>by rw[cnt_mulR,Lq,cnt_Lq v S E q (1 * k),Int.one_mul]
theorem bq_both (S:Str->List (Val×Int)) (E:Str->Val) (a b:Pq):theBag (bq S E a++bq S E b)=bq S E (.both a b):=
 theBag_of (theBag_ok _).1 fun v=>by rw[cnt_append,Lq,cnt_append];unfold bq;rw[(theBag_ok _).1.2.2,(theBag_ok _).1.2.2]
theorem bq_one (S:Str->List (Val×Int)) (E:Str->Val) (v:Str):[(E v,1)]=bq S E (.one v):=
 theBag_of (xs:=Lq S E (.one v) 1) (ys:=[(E v,1)]) ⟨List.pairwise_singleton _ _,fun q hq=>by rw[List.mem_singleton.mp hq];show (1:Int)≠0;decide,fun _=>rfl⟩ fun u=>by rw[Lq]
theorem bq_tab {S:Str->List (Val×Int)} (E:Str->Val) {n:Str} (h:IsBag (S n) (S n)):S n=bq S E (.tab n):=
 theBag_of h fun u=>by rw[Lq,cnt_mulR,Int.mul_one]
def toE (N:List Str) (S:Str->List (Val×Int)):Ev0:=fun n=>if n∈N then some (.bag (S n)) else none
def toV (E:Str->Val):Ev0:=fun n=>if n∈[Str.ofString "x",Str.ofString "y"] then some (E n) else none
theorem no_one:¬own (Str.ofString "one"):=by unfold own;decide +kernel
theorem no_times:¬own (Str.ofString "times"):=by unfold own;decide +kernel
theorem no_both:¬own (Str.ofString "both"):=by unfold own;decide +kernel
theorem no_none:¬own (Str.ofString "none"):=by unfold own;decide +kernel
theorem ev_times {S E:Ev0}{k:Int}{q:Tr}{ps:List (Val×Int)}{c:Nat} (h:Ev Fr E S q (.d (.bag ps)) c) (hl:ps.length<=900) (hp:∀ p∈ps,p.2.natAbs<2 ^ 600) (hk:k.natAbs<2 ^ 600):Ev Fr E S (.node (Str.ofString "times") [.int k] [q]) (.d (.bag (timesQ k ps))) (c+2):=
 .p1 no_times (kids_ne _ _ (by decide +kernel)) h (.times hl hp hk)
theorem ev_both {S E:Ev0}{a b:Tr}{xs ys:List (Val×Int)}{c d:Nat} (h1:Ev Fr E S a (.d (.bag xs)) c) (h2:Ev Fr E S b (.d (.bag ys)) d) (sm:Sml (xs++ys)):Ev Fr E S (.node (Str.ofString "both") [] [a,b]) (.d (.bag (theBag (xs++ys)))) (c+d+2):=
 .p2 no_both (kids_ne _ _ (by decide +kernel)) h1 h2 (.both (.inr rfl) sm)
theorem Sm6 {i:Int} (h:i.natAbs<10 ^ 30):i.natAbs<2 ^ 600:=Nat.lt_trans h (by decide +kernel)
theorem ev_of {N:List Str}{S:Str->List (Val×Int)}{E:Str->Val} (h:Env0 N S E) {d:Nat}{q:Pq} (p:Pl N d q):d<=4->∃ c,c<=8 * 3 ^ d/\Ev Fr (toV E) (toE N S) (toT q) (.d (.bag (bq S E q))) c:=by
 have one:∀ d:Nat,1<=3 ^ d:=fun d=>Nat.one_le_pow _ _ (by decide)
 have sml:∀ {d a b},d<=4->Pl N d a->Pl N d b->(bq S E a).length+(bq S E b).length<=900->Sml (bq S E a++bq S E b):=fun hd pa pb l=>⟨by rw[List.length_append];exact l,fun q hq=>by
  rcases List.mem_append.mp hq with hq | hq
  ·exact Nat.le_trans (bq_mem h pa hd q hq).1 (by decide)
  ·exact Nat.le_trans (bq_mem h pb hd q hq).1 (by decide)⟩
 have len:∀ {d a},d<=3->Pl N d a->(bq S E a).length<=320:=fun {d a} hd pa=>by
  have h1:=Lq_len h pa 1
  have h2:2 ^ d<=2 ^ 3:=Nat.pow_le_pow_right (by decide) hd
  have:=(theBag_ok (Lq S E a 1)).2.1
  unfold bq
  lia
 induction p with
 | @tab d n hn=>intro _;rw[<- bq_tab E (h.s _ hn).2.1,toT];exact⟨1,by have:=one d;lia,.table (by unfold toE;rw[if_pos hn])⟩
 | @one d v hv=>intro _;rw[<- bq_one,toT];exact⟨3,by have:=one d;lia,.p1 no_one (kids_ne _ _ (by decide +kernel)) (.var (by unfold toV;rw[if_pos hv])) .one⟩
 | @times d k q hk p ih=>
  intro hd
  obtain⟨c,lc,e⟩:=ih (by lia)
  rw[<- bq_times,toT]
  refine⟨c+2,by rw[Nat.pow_succ];have:=one d;lia,ev_times e (Nat.le_trans (bq_len h p (by lia)) (by decide)) (fun r hr=>(bq_mem h p (by lia) r hr).2) (Sm6 hk)⟩
 | @five d q p ih=>
  intro hd
  obtain⟨c,lc,e⟩:=ih (by lia)
  have e1:=ev_times (k:=-1) e (Nat.le_trans (bq_len h p (by lia)) (by decide)) (fun r hr=>(bq_mem h p (by lia) r hr).2) (by decide +kernel)
  rw[bq_times]at e1
  rw[<- bq_both,toT,toT]
  refine⟨c+2+c+2,by rw[Nat.pow_succ];have:=one d;lia,ev_both e1 e ⟨?_,fun r hr=>?_⟩⟩
  ·rw[List.length_append]
   have h1:=len (by lia) p
   have h2:(bq S E (.times (-1) q)).length<=(bq S E q).length:=by
    rw[<- bq_times];unfold timesQ;split
    ·exact Nat.zero_le _
    ·rw[List.length_map];exact Nat.le_refl _
   lia
  ·rcases List.mem_append.mp hr with hr | hr
   ·rw[<- bq_times]at hr
    unfold timesQ at hr
    split at hr
    ·cases hr
    ·obtain⟨u,hu,rfl⟩:=List.mem_map.mp hr
     exact Nat.le_trans (bq_mem h p (by lia) u hu).1 (by decide)
   ·exact Nat.le_trans (bq_mem h p (by lia) r hr).1 (by decide)
 | @both d a b pa pb ia ib=>
  intro hd
  obtain⟨c,lc,e⟩:=ia (by lia)
  obtain⟨c',lc',e'⟩:=ib (by lia)
  rw[<- bq_both,toT]
  refine⟨c+c'+2,by rw[Nat.pow_succ];have:=one d;lia,ev_both e e' (sml (by lia) pa pb ?_)⟩
  have h1:=len (by lia) pa
  have h2:=len (by lia) pb
  lia
end K21
end
section
namespace K21
open PySem L2 Kn
theorem iv_eq {i j:Int} (h:i=j):decide (V.int i=V.int j)=true:=decide_eq_true (by rw[h])
section
variable {P:Program}{w:World}{K:PySem.W.Frag}{mg:Str->Option Value}{base:Heap}{f f_draw f_number f_sorted:Addr}{fd fd_draw fd_number fd_sorted:FuncData}
theorem Za4:FnScope ["decks","names","deep","style","one"] ["decks","names","deep"] (defScope (top 50)):=⟨rfl,rfl,rfl,by decide +kernel,rfl,by decide +kernel,by decide +kernel⟩
def spPlain (d:Nat):Sp:=fun vs H Q _=>∃ (p l:Addr) (rs:List Addr) (n1 n2:Str),vs=[.ref p,.ref l,.int d]/\Dk H p rs/\H l=some (.lst [.str n1,.str n2])/\l ∉ p::rs /\
 ∀ (q:Pq) (u:V) (H':Hp),ExD p rs H H'->Dk H' p rs->IsDt H' (tdat (toT q)) u->Pl [n1,n2] d q->Q u H'
def spPlain' (d:Nat):Sp:=fun vs H Q E=>∃ e,e+1=d/\spPlain e vs H Q E
theorem ok_plainS {j d:Nat} (hj:2<=j) (T:Tx mg) (Zae:Df K mg "_law_plain" (top 50) f fd ["decks","names","deep"]) (ZaJ:FnOk P w K mg base CX0 j f fd ["decks","names","deep"] (spPlain' d))
  (Zaa:Df K mg "_law_draw" (top 42) f_draw fd_draw ["decks","limit"]) (Zab:FnOk P w K mg base CX0 1 f_draw fd_draw ["decks","limit"] spDraw)
  (Zac:Df K mg "_law_number" (top 47) f_number fd_number ["decks"]) (Zak:FnOk P w K mg base CX0 2 f_number fd_number ["decks"] spNum) :
  FnOk P w K mg base CX0 (j+1) f fd ["decks","names","deep"] (spPlain d):=by
 refine Zae.fn.okH (k:=j) Za4 (fun vs H Q E h=>?_) (fun cdv A outer s H vs Q E hr h=>?_)
 ·obtain⟨p,l,rs,n1,n2,rfl,_⟩:=h;rfl
 obtain⟨p,l,rs,n1,n2,rfl,dk,hl,nl,fin⟩:=h
 have hu:=u110 hr
 have hu0:=u0 hr
 have hu1:=hu_of hr
 refine⟨_,(wss_cons (ws_set (i:=3) Za4.nd rfl (Or.inl rfl) (we_call Zab (hr.mono (by lia)) rfl Zaa.mg Zaa.kp Zaa.b .nil pass0 (wa_cons (wv 0) (wa_cons we_int wa_nil))))
   (wss_cons (ws_if (wt_pw (ww_or (wt_cmpR (op_eqU hu) (wv 2) we_int (nomark _)) (ww_or1 (wt_cmpR (op_ltU hu0) (wv 3) we_int (nomark _))))) (wss_one (ws_ret (we_tup (wa_cons we_str (wa_cons (we_ix (ix_U hu1) (wv 1) (we_call Zab (hr.mono (by lia)) rfl Zaa.mg Zaa.kp Zaa.b .nil pass0 (wa_cons (wv 0) (wa_cons we_int wa_nil))) (fun _ _=>rfl)) wa_nil))))) wss_nil)
   (wss_cons (ws_if (wt_cmpR (op_eqU hu) (wv 3) we_int (nomark _)) (wss_one (ws_ret (we_tup (wa_cons we_str (wa_cons (we_tup (wa_cons we_str (wa_cons (we_ix (ix_U hu1) (we_lst (wa_consts rfl)) (we_call Zab (hr.mono (by lia)) rfl Zaa.mg Zaa.kp Zaa.b .nil pass0 (wa_cons (wv 0) (wa_cons we_int wa_nil))) (fun _ _=>rfl)) wa_nil))) wa_nil))))) wss_nil)
   (wss_cons (ws_if (wt_cmpR (op_eqU hu) (wv 3) we_int (nomark _)) (wss_one (ws_ret (we_tup (wa_cons we_str (wa_cons (we_ix (ix_U hu1) (we_lst (wa_cons we_int (wa_cons we_int (wa_cons (we_un un_neg we_int) (wa_cons (we_call Zak (hr.mono (by lia)) rfl Zac.mg Zac.kp Zac.b .nil pass0 (wa_cons (wv 0) wa_nil)) wa_nil))))) (we_call Zab (hr.mono (by lia)) rfl Zaa.mg Zaa.kp Zaa.b .nil pass0 (wa_cons (wv 0) (wa_cons we_int wa_nil))) (fun _ _=>rfl)) (wa_cons (we_call ZaJ (hr.mono (by lia)) rfl Zae.mg Zae.kp Zae.b .nil pass0 (wa_cons (wv 0) (wa_cons (wv 1) (wa_cons (we_op op_sub (wv 2) we_int) wa_nil)))) wa_nil)))))) wss_nil)
   (wss_cons (ws_set (i:=4) Za4.nd rfl (Or.inl rfl) (we_call ZaJ (hr.mono (by lia)) rfl Zae.mg Zae.kp Zae.b .nil pass0 (wa_cons (wv 0) (wa_cons (wv 1) (wa_cons (we_op op_sub (wv 2) we_int) wa_nil)))))
   (wss_cons (ws_if (wt_cmpR (op_eqU hu) (wv 3) we_int (nomark _)) (wss_one (ws_ret (we_tup (wa_cons we_str (wa_cons (we_tup (wa_cons we_str (wa_cons (we_un un_neg we_int) (wa_cons (wv 4) wa_nil)))) (wa_cons (wv 4) wa_nil)))))) wss_nil)
   (wss_one (ws_ret (we_tup (wa_cons we_str (wa_cons (wv 4) (wa_cons (we_call ZaJ (hr.mono (by lia)) rfl Zae.mg Zae.kp Zae.b .nil pass0 (wa_cons (wv 0) (wa_cons (wv 1) (wa_cons (we_op op_sub (wv 2) we_int) wa_nil)))) wa_nil)))))))))))),?_⟩
 refine seqH fun N1 to1=>⟨_,rfl,p,rs,8,rfl,dk,by decide,by decide,fun st H1 ex1 dk1 s0 s1=>to1 _ _ ?_⟩
 have hl1:=ex1 _ _ nl hl
 have table:∀ {D:Ends},D.rt=Q->tRet (tTup (tCons (tC (.str "table")) (tCons (tOp (fun x y H Q=>rIxL K x y H Q\/(rIxT K x y H Q\/(rIxS x y H Q\/rIxD x y H Q))) (tVar 1) (tCall spDraw [] E (tCons (tVar 0) (tCons (tC (.int 2)) tNil)))) tNil))) D [some (.ref p),some (.ref l),some (.int d),some (.int st),none] H1:=fun {D} eD=>by
  refine⟨_,rfl,_,rfl,p,rs,2,rfl,dk1,by decide,by decide,fun r H2 ex2 dk2 r0 r1=>?_⟩
  obtain⟨v,ev,mv⟩:=atI_mem (xs:=[n1,n2].map V.str) r0 r1
  obtain⟨n,hn,rfl⟩:=strs_mem mv
  refine ixl (SqL.of (ex2 _ _ nl hl1)) ev ⟨(by show 2<=sizeLine;decide),fun t ht=>?_⟩
  rw[eD]
  refine fin (.tab n) _ _ (ex1.trans (ex2.trans (ExD.same (same_new ht _)))) (dk2.keep (same_new ht _)) ?_ (.tab hn)
  rw[tt_tab]
  exact isDt_new ht (.cons (isDt_str _) (.one (isDt_str _)))
 refine seqH fun N2 to2=>⟨_,rfl,.inl ⟨rfl,_,rfl,ite2 (fun _=>table rfl) (fun e1=>⟨_,rfl,.inl ⟨_,_,rfl,rfl,_,rfl,ite2 (fun _=>table rfl) (fun _=>to2 _ _ ?_)⟩⟩)⟩⟩
 have d0:d≠0:=fun z=>e1 (iv_eq (by rw[z];rfl))
 obtain⟨d',rfl⟩:∃ d',d=d'+1:=⟨d-1,by lia⟩
 have ed:((d'+1:Nat):Int)-1=(d':Int):=by lia
 refine seqH fun N3 to3=>⟨_,rfl,.inl ⟨rfl,_,rfl,ite2 (fun e=>?_) (fun e=>to3 _ _ ?_)⟩⟩
 ·refine pick (j:=0) rfl (pk_vs dk1) rfl rfl rfl fun v hv H2 ex2 dk2=>?_
  obtain⟨z,hz,rfl⟩:∃ z∈[Str.ofString "x",Str.ofString "y"],v=.str z:=strs_mem hv
  refine⟨(by show 2<=sizeLine;decide),fun t ht=>⟨(by show 2<=sizeLine;decide),fun t2 ht2=>?_⟩⟩
  have s3:=(same_new ht (.tup [.str "var",.str z])).trans (same_new ht2 (.tup [.str "one",.ref t]))
  refine fin (.one z) _ _ (ex1.trans (ex2.trans (ExD.same s3))) (dk2.keep s3) ?_ (.one hz)
  rw[tt_one]
  exact isDt_new ht2 (.cons (isDt_str _) (.one (isDt_new ht (.cons (isDt_str _) (.one (isDt_str _))))))
 refine seqH fun N4 to4=>⟨_,rfl,.inl ⟨rfl,_,rfl,ite2 (fun e=>?_) (fun e=>to4 _ _ ?_)⟩⟩
 ·refine pick (j:=0) (n:=4) (G:=fun v=>∃ k:Int,v=.int k/\k.natAbs<10 ^ 30) rfl (fun R kk=>⟨_,rfl,_,rfl,p,rs,rfl,dk1,fun kn H5 ex5 dk5 bk=>kk _ _ rfl (fun v hv=>?_) ex5 dk5⟩) rfl rfl rfl fun v hv H6 ex6 dk6=>?_
  ·simp only[List.mem_cons,List.not_mem_nil,or_false]at hv
   rcases hv with rfl | rfl | rfl | rfl
   ·exact⟨_,rfl,by decide⟩
   ·exact⟨_,rfl,by decide⟩
   ·exact⟨_,rfl,by decide⟩
   ·exact⟨_,rfl,bk⟩
  obtain⟨k,rfl,bk⟩:=hv
  refine⟨_,rfl,_,rfl,_,rfl,_,_,rfl,rfl,d',rfl,p,l,rs,n1,n2,(show [V.ref p,V.ref l,V.int (((d'+1:Nat):Int)-1)]=_ by rw[ed]),dk6,ex6 _ _ nl hl1,nl,fun q u H7 ex7 dk7 iu pq=>⟨(by show 3<=sizeLine;decide),fun t ht=>?_⟩⟩
  refine fin (.times k q) _ _ (ex1.trans (ex6.trans (ex7.trans (ExD.same (same_new ht _))))) (dk7.keep (same_new ht _)) ?_ (.times bk pq)
  rw[tt_times]
  exact isDt_new ht (.cons (isDt_str _) (.cons (isDt_int _) (.one iu)))
 refine seqH fun N5 to5=>⟨_,rfl,_,rfl,_,rfl,_,_,rfl,rfl,d',rfl,p,l,rs,n1,n2,(show [V.ref p,V.ref l,V.int (((d'+1:Nat):Int)-1)]=_ by rw[ed]),dk1,hl1,nl,fun q u H7 ex7 dk7 iu pq=>to5 _ _ ?_⟩
 have ex17:=ex1.trans ex7
 refine seqH fun N6 to6=>⟨_,rfl,.inl ⟨rfl,_,rfl,ite2 (fun e=>?_) (fun e=>to6 _ _ ?_)⟩⟩
 ·refine⟨_,rfl,_,rfl,(by show 3<=sizeLine;decide),fun t ht=>⟨_,rfl,(by show 3<=sizeLine;decide),fun t2 ht2=>?_⟩⟩
  have s3:=(same_new ht (.tup [.str "times",.int (-1),u])).trans (same_new ht2 (.tup [.str "both",.ref t,u]))
  refine fin (.both (.times (-1) q) q) _ _ (ex17.trans (ExD.same s3)) (dk7.keep s3) ?_ (.five pq)
  rw[tt_both,tt_times]
  exact isDt_new ht2 (.cons (isDt_str _) (.cons (isDt_new ht (.cons (isDt_str _) (.cons (isDt_int _) (.one iu)))) (.one (IsDt.mono (same_new ht _).tups iu))))
 refine⟨_,rfl,_,rfl,_,rfl,_,rfl,_,_,rfl,rfl,d',rfl,p,l,rs,n1,n2,(show [V.ref p,V.ref l,V.int (((d'+1:Nat):Int)-1)]=_ by rw[ed]),dk7,ex7 _ _ nl hl1,nl,fun q2 u2 H8 ex8 dk8 iu2 pq2=>⟨(by show 3<=sizeLine;decide),fun t ht=>?_⟩⟩
 refine fin (.both q q2) _ _ (ex17.trans (ex8.trans (ExD.same (same_new ht _)))) (dk8.keep (same_new ht _)) ?_ (.both pq pq2)
 rw[tt_both]
 exact isDt_new ht (.cons (isDt_str _) (.cons (IsDt.mono (ExD.stay dk7 ex8).tp iu) (.one iu2)))
theorem plain_all (T:Tx mg) (Zae:Df K mg "_law_plain" (top 50) f fd ["decks","names","deep"])
  (Zaa:Df K mg "_law_draw" (top 42) f_draw fd_draw ["decks","limit"]) (Zab:FnOk P w K mg base CX0 1 f_draw fd_draw ["decks","limit"] spDraw)
  (Zac:Df K mg "_law_number" (top 47) f_number fd_number ["decks"]) (Zak:FnOk P w K mg base CX0 2 f_number fd_number ["decks"] spNum) :
  ∀ d:Nat,FnOk P w K mg base CX0 (d+3) f fd ["decks","names","deep"] (spPlain d)
 | 0=>ok_plainS (by decide) T Zae ⟨fun vs H Q E h=>(by obtain⟨e,he,_⟩:=h;lia),fun A outer s H args us vs Q E hr h0 hb hv h=>(by obtain⟨e,he,_⟩:=h;lia)⟩ Zaa Zab Zac Zak
 | d+1=>by
  have F:=plain_all T Zae Zaa Zab Zac Zak d
  exact ok_plainS (by lia) T Zae ⟨fun vs H Q E h=>(by obtain⟨e,he,h⟩:=h;obtain rfl:e=d:=(by lia);exact F.len vs H Q E h),fun A outer s H args us vs Q E hr h0 hb hv h=>(by obtain⟨e,he,h⟩:=h;obtain rfl:e=d:=(by lia);exact F.run A outer s H args us vs Q E hr h0 hb hv h)⟩ Zaa Zab Zac Zak
end
end K21
end
section
namespace K21
open PySem L2 Kn
def dp:Pq->Nat
 | .tab _=>0
 | .one _=>0
 | .times _ q=>dp q+1
 | .both a b=>max (dp a) (dp b)+1
 | .nn _=>0
def Fo (N:List Str):Pq->Int->Prop
 | .tab n,f=>n∈N/\f.natAbs<2 ^ 600
 | .one v,_=>v∈[Str.ofString "x",Str.ofString "y"]
 | .times k q,f=>f.natAbs<2 ^ 600/\k.natAbs<2 ^ 600/\Fo N q (f * k)
 | .both a b,f=>Fo N a f/\Fo N b f
 | .nn _,_=>True
theorem fo_of {N:List Str}{d:Nat}{q:Pq} (p:Pl N d q):∀ (f:Int),f.natAbs * (10 ^ 30) ^ d<2 ^ 600->Fo N q f:=by
 have one:∀ d:Nat,1<=(10 ^ 30) ^ d:=fun d=>Nat.one_le_pow _ _ (by decide)
 have sm:∀ (d:Nat) (f:Int),f.natAbs * (10 ^ 30) ^ d<2 ^ 600->f.natAbs<2 ^ 600:=fun d f h=>Nat.lt_of_le_of_lt (Nat.le_mul_of_pos_right _ (one d)) h
 have dn:∀ (d:Nat) (f:Int),f.natAbs * (10 ^ 30) ^ (d+1)<2 ^ 600->f.natAbs * (10 ^ 30) ^ d<2 ^ 600:=fun d f h=>Nat.lt_of_le_of_lt (Nat.mul_le_mul_left _ (Nat.pow_le_pow_right (by decide) (Nat.le_succ d))) h
 induction p with
 | @tab d n hn=>intro f h;exact⟨hn,sm d f h⟩
 | one hv=>intro f h;exact hv
 | @times d k q hk p ih=>
  intro f h
  refine⟨sm _ f h,Sm6 hk,ih _ ?_⟩
  rw[Int.natAbs_mul]
  refine Nat.lt_of_le_of_lt ?_ h
  have e:(10 ^ 30) ^ (d+1)=(10 ^ 30) ^ d * 10 ^ 30:=Nat.pow_succ _ _
  rw[e,Nat.mul_assoc,Nat.mul_comm k.natAbs]
  exact Nat.mul_le_mul_left _ (Nat.mul_le_mul_left _ (Nat.le_of_lt hk))
 | @five d q p ih=>
  intro f h
  refine⟨⟨sm _ f h,by decide +kernel,ih _ ?_⟩,ih _ (dn d f h)⟩
  rw[Int.natAbs_mul,show (-1:Int).natAbs=1 from rfl,Nat.mul_one]
  exact dn d f h
 | @both d a b pa pb ia ib=>intro f h;exact⟨ia f (dn d f h),ib f (dn d f h)⟩
theorem dp_of {N:List Str}{d:Nat}{q:Pq} (p:Pl N d q):dp q<=2 * d:=by
 induction p with
 | tab _=>exact Nat.zero_le _
 | one _=>exact Nat.zero_le _
 | times _ _ ih=>rw[dp];lia
 | five _ ih=>rw[dp,dp];lia
 | both _ _ ia ib=>rw[dp];lia
theorem tx_tab {H:Hp}{n:Str}{u:V} (h:IsDt H (tdat (toT (.tab n))) u):∃ b,u=.ref b/\H b=some (.tup [.str "table",.str n]):=by
 rw[tt_tab,IsDt]at h
 obtain⟨a,xs,rfl,h1,h2⟩:=h
 simp only[IsDts,IsDt]at h2
 obtain⟨_,_,rfl,rfl,_,_,rfl,rfl,rfl⟩:=h2
 exact⟨a,rfl,h1⟩
theorem tx_one {H:Hp}{n:Str}{u:V} (h:IsDt H (tdat (toT (.one n))) u):∃ b c,u=.ref b/\H b=some (.tup [.str "one",.ref c])/\H c=some (.tup [.str "var",.str n]):=by
 rw[tt_one,IsDt]at h
 obtain⟨a,xs,rfl,h1,h2⟩:=h
 simp only[IsDts,IsDt]at h2
 obtain⟨_,_,rfl,rfl,_,_,rfl,⟨c,ys,rfl,h3,_,_,rfl,rfl,_,_,rfl,rfl,rfl⟩,rfl⟩:=h2
 exact⟨a,c,rfl,h1,h3⟩
theorem tx_times {H:Hp}{k:Int}{q:Pq}{u:V} (h:IsDt H (tdat (toT (.times k q))) u):∃ b v,u=.ref b/\H b=some (.tup [.str "times",.int k,v])/\IsDt H (tdat (toT q)) v:=by
 rw[tt_times,IsDt]at h
 obtain⟨a,xs,rfl,h1,h2⟩:=h
 rw[IsDts]at h2
 obtain⟨y1,r1,rfl,h3,h4⟩:=h2
 rw[IsDts]at h4
 obtain⟨y2,r2,rfl,h5,h6⟩:=h4
 rw[IsDts]at h6
 obtain⟨y3,r3,rfl,h7,h8⟩:=h6
 rw[IsDts]at h8
 rw[IsDt]at h3
 rw[IsDt]at h5
 subst h3 h5 h8
 exact⟨a,y3,rfl,h1,h7⟩
theorem tx_both {H:Hp}{x y:Dt}{u:V} (h:IsDt H (.tup [.str (Str.ofString "both"),x,y]) u):∃ b v1 v2,u=.ref b/\H b=some (.tup [.str "both",v1,v2])/\IsDt H x v1/\IsDt H y v2:=by
 rw[IsDt]at h
 obtain⟨a,xs,rfl,h1,h2⟩:=h
 rw[IsDts]at h2
 obtain⟨y1,r1,rfl,h3,h4⟩:=h2
 rw[IsDts]at h4
 obtain⟨y2,r2,rfl,h5,h6⟩:=h4
 rw[IsDts]at h6
 obtain⟨y3,r3,rfl,h7,h8⟩:=h6
 rw[IsDts]at h8
 rw[IsDt]at h3
 subst h3 h8
 exact⟨a,y2,y3,rfl,h1,h5,h7⟩
section
variable {P:Program}{w:World}{K:PySem.W.Frag}{mg:Str->Option Value}{base:Heap}{f f_draw f_number f_sorted:Addr}{fd fd_draw fd_number fd_sorted:FuncData}
theorem ZaU:FnScope ["counts","question","factor","values","store","row","count"] ["counts","question","factor","values","store"] (defScope (top 51)):=⟨rfl,rfl,rfl,by decide +kernel,rfl,by decide +kernel,by decide +kernel⟩
theorem tx_nn {H:Hp}{t:Tr}{u:V} (h:IsDt H (tdat (toT (.nn t))) u):∃ b v,u=.ref b/\H b=some (.tup [.str "none",v]):=by
 rw[tt_nn,IsDt]at h
 obtain⟨a,xs,rfl,h1,h2⟩:=h
 rw[IsDts]at h2
 obtain⟨y1,r1,rfl,h3,h4⟩:=h2
 rw[IsDts]at h4
 obtain⟨y2,r2,rfl,h5,h6⟩:=h4
 rw[IsDts]at h6
 rw[IsDt]at h3
 subst h3 h6
 exact⟨a,y2,rfl,h1⟩
def spPut (n:Nat):Sp:=fun vs H Q _=>∃ (l vd sd:Addr) (u:V) (k:Int) (us:List V) (xs:List (Val×Int)) (q:Pq) (N:List Str) (S:Str->List (Val×Int)) (E:Str->Val),vs=[.ref l,u,.int k,.ref vd,.ref sd]/\H l=some (.lst us)/\IsDts H (datB xs) us/\IsDt H (tdat (toT q)) u/\dp q<=n/\Fo N q k /\
 Env0 N S E/\EnvAt H (toV E) vd/\EnvAt H (toE N S) sd/\xs.length+(Lq S E q k).length<=2000/\∀ (H':Hp) (us':List V),Ex l H H'->H' l=some (.lst us')->IsDts H' (datB (xs++Lq S E q k)) us'->Q .non H'
def spPut' (n:Nat):Sp:=fun vs H Q E=>∃ e,e+1=n/\spPut e vs H Q E
theorem ok_putS {j n:Nat} (T:Tx mg) (Zah:Df K mg "_law_put" (top 51) f fd ["counts","question","factor","values","store"]) (ZaK:FnOk P w K mg base CX0 j f fd ["counts","question","factor","values","store"] (spPut' n)) :
  FnOk P w K mg base CX0 (j+1) f fd ["counts","question","factor","values","store"] (spPut n):=by
 refine Zah.fn.okH (k:=j) ZaU (fun vs H Q E h=>?_) (fun cdv A outer s H vs Q E hr h=>?_)
 ·obtain⟨l,vd,sd,u,k,us,xs,q,N,S,E,rfl,_⟩:=h;rfl
 obtain⟨l,vd,sd,u,k,us,xs,q,N,S,Ev,rfl,hl,ix,iq,hn,fo,env,eV,eS,ln,fin⟩:=h
 have hu:=u110 hr
 have hu0:=u0 hr
 have hu1:=hu_of hr
 refine⟨_,(wss_cons (ws_if (wt_cmpR (op_eqU hu) (we_ix (ix_U hu1) (wv 1) we_int (fun _ _=>rfl)) we_str (nomark _)) (wss_one (ws_for PassesOwn.never rfl (wi_U (we_ix (ix_U hu1) (we_ix (ix_U hu1) (wv 4) (we_ix (ix_U hu1) (wv 1) we_int (fun _ _=>rfl)) (fun _ _=>rfl)) we_int (fun _ _=>rfl))) (wg_tup rfl (wgs_cons (wg_name (i:=5) ZaU.nd rfl (Or.inl rfl)) (wgs_cons (wg_name (i:=6) ZaU.nd rfl (Or.inl rfl)) wgs_nil))) (wss_one (ws_expr (we_bm PySem.F.plainAttrs_list PySem.F.slot_list_append PySem.F.type_list_append mt_append (wv 0) (wa_cons (we_tup (wa_cons (wv 5) (wa_cons (we_op op_mulB (wv 6) (wv 2)) wa_nil))) wa_nil)))))) wss_nil)
   (wss_cons (ws_if (wt_cmpR (op_eqU hu) (we_ix (ix_U hu1) (wv 1) we_int (fun _ _=>rfl)) we_str (nomark _)) (wss_cons (ws_set (i:=5) ZaU.nd rfl (Or.inl rfl) (we_ix (ix_U hu1) (wv 3) (we_ix (ix_U hu1) (we_ix (ix_U hu1) (wv 1) we_int (fun _ _=>rfl)) we_int (fun _ _=>rfl)) (fun _ _=>rfl)))
   (wss_one (ws_expr (we_bm PySem.F.plainAttrs_list PySem.F.slot_list_append PySem.F.type_list_append mt_append (wv 0) (wa_cons (we_tup (wa_cons (wv 5) (wa_cons (wv 2) wa_nil))) wa_nil))))) wss_nil)
   (wss_cons (ws_if (wt_cmpR (op_eqU hu) (we_ix (ix_U hu1) (wv 1) we_int (fun _ _=>rfl)) we_str (nomark _)) (wss_one (ws_expr (we_call ZaK (hr.mono (by lia)) rfl Zah.mg Zah.kp Zah.b .nil pass0 (wa_cons (wv 0) (wa_cons (we_ix (ix_U hu1) (wv 1) we_int (fun _ _=>rfl)) (wa_cons (we_op op_mulB (wv 2) (we_ix (ix_U hu1) (wv 1) we_int (fun _ _=>rfl))) (wa_cons (wv 3) (wa_cons (wv 4) wa_nil)))))))) wss_nil)
   (wss_one (ws_if (wt_cmpR (op_eqU hu) (we_ix (ix_U hu1) (wv 1) we_int (fun _ _=>rfl)) we_str (nomark _)) (wss_cons (ws_expr (we_call ZaK (hr.mono (by lia)) rfl Zah.mg Zah.kp Zah.b .nil pass0 (wa_cons (wv 0) (wa_cons (we_ix (ix_U hu1) (wv 1) we_int (fun _ _=>rfl)) (wa_cons (wv 2) (wa_cons (wv 3) (wa_cons (wv 4) wa_nil)))))))
   (wss_one (ws_expr (we_call ZaK (hr.mono (by lia)) rfl Zah.mg Zah.kp Zah.b .nil pass0 (wa_cons (wv 0) (wa_cons (we_ix (ix_U hu1) (wv 1) we_int (fun _ _=>rfl)) (wa_cons (wv 2) (wa_cons (wv 3) (wa_cons (wv 4) wa_nil))))))))) wss_nil))))),?_⟩
 cases q with
 | tab nm=>
  obtain⟨b,rfl,hb⟩:=tx_tab iq
  obtain⟨hN,bk⟩:=fo
  obtain⟨kvs,hsd,hS⟩:=eS
  obtain⟨v,ev,iv⟩:=hS nm (.bag (S nm)) (by unfold toE;rw[if_pos hN])
  obtain⟨a1,a2,bx,rfl,ha1,ha2,ibx⟩:=bag_at iv
  have lbx:bx.length=(S nm).length:=by rw[ibx.length,datB_map,List.length_map]
  rw[Lq,List.length_map]at ln
  refine seqH fun N1 to1=>⟨_,rfl,ixt (SqT.of hb) at0 (.inl ⟨rfl,_,rfl,iteP veq ?_⟩)⟩
  refine .inr ⟨_,rfl,_,rfl,ixt (SqT.of hb) at1 (ixd (.inl ⟨kvs,_,hsd,rfl,ev.symm⟩) (ixt (SqT.of ha1) at1 ⟨a2,rfl,⟨bx,SqT.of ha2⟩,?_⟩))⟩
  refine⟨fun i m σ H'=>m+i=(S nm).length/\(∃ o5 o6:Option V,σ=[some (.ref l),some (.ref b),some (.int k),some (.ref vd),some (.ref sd),o5,o6])/\Ex l H H'/\∃ us',H' l=some (.lst us')/\IsDts H' (datB (xs++((S nm).take i).map fun p=>(p.1,p.2 * k))) us',
   ⟨(S nm).length,rfl,⟨none,none,rfl⟩,.refl _ _,us,hl,by rw[List.take_zero,List.map_nil,List.append_nil];exact ix⟩,?_⟩
  rintro i m σ H1 ⟨hm,⟨o5,o6,rfl⟩,ex1,us1,hl1,ix1⟩
  have sy:=Stay.lst hl ex1
  by_cases hi:i<(S nm).length
  ·obtain⟨c,v,e1,hc,ivv⟩:=pair_at ibx hi
   refine .inr (for_hide ⟨bx,_,SqT.of (sy.tp _ _ ha2),e1⟩ (fun σ' H'=>(∃ o5 o6:Option V,σ'=[some (.ref l),some (.ref b),some (.int k),some (.ref vd),some (.ref sd),o5,o6])/\Ex l H H'/\∃ us',H' l=some (.lst us')/\IsDts H' (datB (xs++((S nm).take (i+1)).map fun p=>(p.1,p.2 * k))) us') (fun σ' H' hW=>⟨m-1,by lia,by lia,hW⟩) fun E2 toN _=>?_)
   intro x H2 hy
   obtain⟨eH,hx⟩:=hy
   rw[eH]
   clear eH H2
   have e2:=hx _ (SqT.of (sy.tp _ _ ha2))
   rw[e1]at e2
   cases e2
   refine⟨c,_,rfl,SqT.of (sy.tp _ _ hc),rfl,_,_,rfl,_,_,rfl,rfl,?_⟩
   have bS:=((env.s nm hN).2.2 _ (List.getElem_mem hi)).2
   refine⟨_,rfl,.inl ⟨rfl,_,SqL.of hl1⟩,_,rfl,_,rfl,_,rfl,_,_,rfl,rfl,⟨Nat.lt_trans bS (by decide +kernel),bk⟩,(by show 2<=sizeLine;decide),fun t ht=>?_⟩
   have hl2:=same_new ht (.tup [v,.int ((S nm)[i].2 * k)]) _ _ hl1
   have t2:Tups (upd H1 t (.tup [v,.int ((S nm)[i].2 * k)])) (upd (upd H1 t (.tup [v,.int ((S nm)[i].2 * k)])) l (.lst (us1++[.ref t]))):=(Stay.lst hl2 fun b o nb e=>by rw[upd_ne nb];exact e).tp
   refine⟨l,us1,_,rfl,rfl,hl2,line1 (by rw[ix1.length,datB_map,List.length_map,List.length_append,List.length_map,List.length_take];lia),toN _ _ ⟨⟨_,_,rfl⟩,fun b o nb e=>by rw[upd_ne nb];exact same_new ht _ _ _ (ex1 _ _ nb e),_,upd_same,?_⟩⟩
   have tk:((S nm).take (i+1)).map (fun p=>(p.1,p.2 * k))=((S nm).take i).map (fun p=>(p.1,p.2 * k))++[((S nm)[i].1,(S nm)[i].2 * k)]:=by rw[List.take_add_one,List.getElem?_eq_getElem hi,List.map_append];rfl
   rw[tk,<- List.append_assoc,datB_map,List.map_append,<- datB_map]
   exact (IsDts.mono t2 (IsDts.mono (same_new ht _).tups ix1)).append (.one (isDt_tup (t2 _ _ upd_same) (.cons (IsDt.mono t2 (IsDt.mono (same_new ht _).tups (IsDt.mono sy.tp ivv))) (.one (isDt_int _)))))
  ·refine .inl ⟨⟨_,SqT.of (sy.tp _ _ ha2),by lia⟩,to1 _ _ ?_⟩
   have hb1:=sy.tp _ _ hb
   rw[List.take_of_length_le (show (S nm).length<=i by lia)]at ix1
   refine seqH fun N2 to2=>⟨_,rfl,ixt (SqT.of hb1) at0 (.inl ⟨rfl,_,rfl,iteN (vne (by decide +kernel)) (to2 _ _ ?_)⟩)⟩
   refine seqH fun N3 to3=>⟨_,rfl,ixt (SqT.of hb1) at0 (.inl ⟨rfl,_,rfl,iteN (vne (by decide +kernel)) (to3 _ _ ?_)⟩)⟩
   exact⟨_,rfl,ixt (SqT.of hb1) at0 (.inl ⟨rfl,_,rfl,iteN (vne (by decide +kernel)) (fin H1 us1 ex1 hl1 (by rw[Lq];exact ix1))⟩)⟩
 | one vn=>
  obtain⟨b,c,rfl,hb,hc⟩:=tx_one iq
  obtain⟨kvs,hvd,hV⟩:=eV
  obtain⟨v,ev,iv⟩:=hV vn (Ev vn) (by unfold toV;exact if_pos fo)
  rw[Lq]at ln
  have ln:xs.length+1<=2000:=ln
  refine seqH fun N1 to1=>⟨_,rfl,ixt (SqT.of hb) at0 (.inl ⟨rfl,_,rfl,iteN (vne (by decide +kernel)) (to1 _ _ ?_)⟩)⟩
  refine seqH fun N2 to2=>⟨_,rfl,ixt (SqT.of hb) at0 (.inl ⟨rfl,_,rfl,iteP veq ?_⟩)⟩
  refine seqH fun M1 m1=>⟨_,rfl,_,rfl,ixt (SqT.of hb) at1 (ixt (SqT.of hc) at1 (ixd (.inl ⟨kvs,_,hvd,rfl,ev.symm⟩) (m1 _ _ ?_)))⟩
  refine⟨_,rfl,.inl ⟨rfl,_,SqL.of hl⟩,_,rfl,_,rfl,(by show 2<=sizeLine;decide),fun t ht=>?_⟩
  have hl2:=same_new ht (.tup [v,.int k]) _ _ hl
  have t2:Tups (upd H t (.tup [v,.int k])) (upd (upd H t (.tup [v,.int k])) l (.lst (us++[.ref t]))):=(Stay.lst hl2 fun b o nb e=>by rw[upd_ne nb];exact e).tp
  refine⟨l,us,_,rfl,rfl,hl2,line1 (by rw[ix.length,datB_map,List.length_map];lia),to2 _ _ ?_⟩
  have hb1:=t2 _ _ (same_new ht _ _ _ hb)
  refine seqH fun N3 to3=>⟨_,rfl,ixt (SqT.of hb1) at0 (.inl ⟨rfl,_,rfl,iteN (vne (by decide +kernel)) (to3 _ _ ?_)⟩)⟩
  refine⟨_,rfl,ixt (SqT.of hb1) at0 (.inl ⟨rfl,_,rfl,iteN (vne (by decide +kernel)) (fin _ _ (fun b o nb e=>by rw[upd_ne nb];exact same_new ht _ _ _ e) upd_same ?_)⟩)⟩
  rw[Lq,datB_map,List.map_append,<- datB_map]
  exact (IsDts.mono t2 (IsDts.mono (same_new ht _).tups ix)).append (.one (isDt_tup (t2 _ _ upd_same) (.cons (IsDt.mono t2 (IsDt.mono (same_new ht _).tups iv)) (.one (isDt_int _)))))
 | times c q=>
  obtain⟨b,v,rfl,hb,iv⟩:=tx_times iq
  obtain⟨b1,b2,fo⟩:=fo
  rw[dp]at hn
  obtain⟨n',rfl⟩:∃ n',n=n'+1:=⟨n-1,by lia⟩
  rw[Lq]at ln
  refine seqH fun N1 to1=>⟨_,rfl,ixt (SqT.of hb) at0 (.inl ⟨rfl,_,rfl,iteN (vne (by decide +kernel)) (to1 _ _ ?_)⟩)⟩
  refine seqH fun N2 to2=>⟨_,rfl,ixt (SqT.of hb) at0 (.inl ⟨rfl,_,rfl,iteN (vne (by decide +kernel)) (to2 _ _ ?_)⟩)⟩
  refine seqH fun N3 to3=>⟨_,rfl,ixt (SqT.of hb) at0 (.inl ⟨rfl,_,rfl,iteP veq ?_⟩)⟩
  refine⟨_,rfl,_,rfl,ixt (SqT.of hb) at2 ⟨_,rfl,_,rfl,ixt (SqT.of hb) at1 ⟨_,_,rfl,rfl,⟨b1,b2⟩,_,rfl,_,rfl,n',rfl,l,vd,sd,v,k * c,us,xs,q,N,S,Ev,rfl,hl,ix,iv,by lia,fo,env,eV,eS,ln,fun H1 us1 ex1 hl1 ix1=>to3 _ _ ?_⟩⟩⟩
  have hb1:=(Stay.lst hl ex1).tp _ _ hb
  exact⟨_,rfl,ixt (SqT.of hb1) at0 (.inl ⟨rfl,_,rfl,iteN (vne (by decide +kernel)) (fin H1 us1 ex1 hl1 (by rw[Lq];exact ix1))⟩)⟩
 | both q1 q2=>
  rw[tt_both]at iq
  obtain⟨b,v1,v2,rfl,hb,i1,i2⟩:=tx_both iq
  obtain⟨fo1,fo2⟩:=fo
  rw[dp]at hn
  obtain⟨n',rfl⟩:∃ n',n=n'+1:=⟨n-1,by lia⟩
  rw[Lq,List.length_append]at ln
  refine seqH fun N1 to1=>⟨_,rfl,ixt (SqT.of hb) at0 (.inl ⟨rfl,_,rfl,iteN (vne (by decide +kernel)) (to1 _ _ ?_)⟩)⟩
  refine seqH fun N2 to2=>⟨_,rfl,ixt (SqT.of hb) at0 (.inl ⟨rfl,_,rfl,iteN (vne (by decide +kernel)) (to2 _ _ ?_)⟩)⟩
  refine seqH fun N3 to3=>⟨_,rfl,ixt (SqT.of hb) at0 (.inl ⟨rfl,_,rfl,iteN (vne (by decide +kernel)) (to3 _ _ ?_)⟩)⟩
  refine⟨_,rfl,ixt (SqT.of hb) at0 (.inl ⟨rfl,_,rfl,iteP veq ?_⟩)⟩
  refine seqH fun M1 m1=>⟨_,rfl,_,rfl,ixt (SqT.of hb) at1 ⟨_,rfl,_,rfl,_,rfl,n',rfl,l,vd,sd,v1,k,us,xs,q1,N,S,Ev,rfl,hl,ix,i1,by lia,fo1,env,eV,eS,by lia,fun H1 us1 ex1 hl1 ix1=>m1 _ _ ?_⟩⟩
  have sy:=Stay.lst hl ex1
  refine⟨_,rfl,_,rfl,ixt (SqT.of (sy.tp _ _ hb)) at2 ⟨_,rfl,_,rfl,_,rfl,n',rfl,l,vd,sd,v2,k,us1,_,q2,N,S,Ev,rfl,hl1,ix1,IsDt.mono sy.tp i2,by lia,fo2,env,eV.mono sy,eS.mono sy,by rw[List.length_append];lia,fun H2 us2 ex2 hl2 ix2=>fin H2 us2 (ex1.trans ex2) hl2 ?_⟩⟩
  rw[Lq,<- List.append_assoc]
  exact ix2
 | nn t=>
  obtain⟨b,v,rfl,hb⟩:=tx_nn iq
  refine seqH fun N1 to1=>⟨_,rfl,ixt (SqT.of hb) at0 (.inl ⟨rfl,_,rfl,iteN (vne (by decide +kernel)) (to1 _ _ ?_)⟩)⟩
  refine seqH fun N2 to2=>⟨_,rfl,ixt (SqT.of hb) at0 (.inl ⟨rfl,_,rfl,iteN (vne (by decide +kernel)) (to2 _ _ ?_)⟩)⟩
  refine seqH fun N3 to3=>⟨_,rfl,ixt (SqT.of hb) at0 (.inl ⟨rfl,_,rfl,iteN (vne (by decide +kernel)) (to3 _ _ ?_)⟩)⟩
  exact⟨_,rfl,ixt (SqT.of hb) at0 (.inl ⟨rfl,_,rfl,iteN (vne (by decide +kernel)) (fin H us (.refl _ _) hl (by rw[Lq,List.append_nil];exact ix))⟩)⟩
theorem put_all (T:Tx mg) (D:Df K mg "_law_put" (top 51) f fd ["counts","question","factor","values","store"]):∀ n:Nat,FnOk P w K mg base CX0 (n+1) f fd ["counts","question","factor","values","store"] (spPut n)
 | 0=>ok_putS T D ⟨fun vs H Q E h=>(by obtain⟨e,he,_⟩:=h;lia),fun A outer s H args us vs Q E hr h0 hb hv h=>(by obtain⟨e,he,_⟩:=h;lia)⟩
 | n+1=>by
  have F:=put_all T D n
  exact ok_putS T D ⟨fun vs H Q E h=>(by obtain⟨e,he,h⟩:=h;obtain rfl:e=n:=(by lia);exact F.len vs H Q E h),fun A outer s H args us vs Q E hr h0 hb hv h=>(by obtain⟨e,he,h⟩:=h;obtain rfl:e=n:=(by lia);exact F.run A outer s H args us vs Q E hr h0 hb hv h)⟩
theorem ZaV:FnScope ["decks","counts","k","many"] ["decks"] (defScope (top 52)):=⟨rfl,rfl,rfl,by decide +kernel,rfl,by decide +kernel,by decide +kernel⟩
def spMany:Sp:=fun vs H Q _=>∃ (p:Addr) (rs:List Addr),vs=[.ref p]/\Dk H p rs/\∀ (v:V) (H':Hp) (qs:List (Val×Int)),ExD p rs H H'->Dk H' p rs->IsDt H' (dat (.bag qs)) v->Bok 40 48 qs->Q v H'
theorem ok_many (T:Tx mg) (D:Df K mg "_law_many" (top 52) f fd ["decks"]) (Zaa:Df K mg "_law_draw" (top 42) f_draw fd_draw ["decks","limit"]) (Zab:FnOk P w K mg base CX0 1 f_draw fd_draw ["decks","limit"] spDraw)
  (Zac:Df K mg "_law_number" (top 47) f_number fd_number ["decks"]) (Zak:FnOk P w K mg base CX0 2 f_number fd_number ["decks"] spNum)
  (Zag:Df K mg "_law_sorted" (top 46) f_sorted fd_sorted ["counts"]) (Zap:FnOk P w K mg base CX0 50 f_sorted fd_sorted ["counts"] spBagL) :
  FnOk P w K mg base CX0 51 f fd ["decks"] spMany:=by
 refine D.fn.okH (k:=50) ZaV (fun vs H Q E h=>?_) (fun cdv A outer s H vs Q E hr h=>?_)
 ·obtain⟨p,rs,rfl,_⟩:=h;rfl
 obtain⟨p,rs,rfl,dk,fin⟩:=h
 have hu:=u110 hr
 have hu0:=u0 hr
 have hu1:=hu_of hr
 refine⟨_,(wss_cons (ws_set (i:=1) ZaV.nd rfl (Or.inl rfl) (we_lst wa_nil))
   (wss_cons (ws_for PassesOwn.never rfl (wi_range1 rfl T.z_range (wa_cons (we_call Zab (hr.mono (by lia)) rfl Zaa.mg Zaa.kp Zaa.b .nil pass0 (wa_cons (wv 0) (wa_cons we_int wa_nil))) wa_nil)) (wg_name (i:=2) ZaV.nd rfl (Or.inl rfl)) (wss_cons (ws_set (i:=3) ZaV.nd rfl (Or.inl rfl) (we_ix (ix_U hu1) (we_lst (wa_cons we_int (wa_cons (we_un un_neg we_int) (wa_cons we_int (wa_cons (we_call Zak (hr.mono (by lia)) rfl Zac.mg Zac.kp Zac.b .nil pass0 (wa_cons (wv 0) wa_nil)) wa_nil))))) (we_call Zab (hr.mono (by lia)) rfl Zaa.mg Zaa.kp Zaa.b .nil pass0 (wa_cons (wv 0) (wa_cons we_int wa_nil))) (fun _ _=>rfl)))
   (wss_one (ws_expr (we_bm PySem.F.plainAttrs_list PySem.F.slot_list_append PySem.F.type_list_append mt_append (wv 1) (wa_cons (we_tup (wa_cons (we_tup (wa_cons we_str (wa_cons (we_call Zak (hr.mono (by lia)) rfl Zac.mg Zac.kp Zac.b .nil pass0 (wa_cons (wv 0) wa_nil)) wa_nil))) (wa_cons (wv 3) wa_nil))) wa_nil))))))
   (wss_one (ws_ret (we_call Zap (hr.mono (by lia)) rfl Zag.mg Zag.kp Zag.b .nil pass0 (wa_cons (wv 1) wa_nil)))))),?_⟩
 refine seqH fun N toN=>⟨(by show 0<=sizeLine;decide),fun l hl=>toN _ _ ?_⟩
 have s1:=same_new hl (.lst [])
 have nl:=dk.fresh hl
 have hl1:(upd H l (.lst [])) l=some (.lst []):=upd_same
 obtain⟨H1,e1⟩:∃ H1,H1=upd H l (.lst []):=⟨_,rfl⟩
 rw[<- e1]at s1 hl1 ⊢
 clear e1
 refine seqH fun N2 toN2=>⟨_,rfl,p,rs,41,rfl,dk.keep s1,by decide,by decide,fun n H2 ex2 dk2 n0 n1=>⟨_,rfl,by lia,by lia,?_⟩⟩
 refine for_rangeH (n:=n.toNat) (fun i σ H3=>∃ (us:List V) (xs:List (Val×Int)) (o2 o3:Option V),σ=[some (.ref p),some (.ref l),o2,o3]/\(∀ b o,b ∉ p::rs->b≠l->H1 b=some o->H3 b=some o)/\Dk H3 p rs/\H3 l=some (.lst us)/\IsDts H3 (datB xs) us/\xs.length=i/\∀ q∈xs,(key q.1).length<=48/\q.2.natAbs<10 ^ 30)
  ⟨[],[],none,none,rfl,fun b o nb _ e=>ex2 b o nb e,dk2,ex2 _ _ nl hl1,.nil,rfl,fun _ h=>(nomatch h)⟩ ?turn ?done
 case done=>
  rintro σ H3 ⟨us,xs,o2,o3,rfl,ex3,dk3,hl3,ix,lx,hx⟩
  exact toN2 _ _ ⟨_,rfl,l,us,xs,rfl,hl3,ix,by lia,fun q hq=>(hx q hq).1,fun v H4 s4 iv _=>fin v H4 _ (fun b o nb e=>s4 _ _ (ex3 b o nb (ne_of_none e hl) (s1 _ _ e))) (dk3.keep s4) iv (bok_of (by decide) (by lia) hx)⟩
 case turn=>
  rintro E3 i σ H3 hi ⟨us,xs,o2,o3,rfl,ex3,dk3,hl3,ix,lx,hx⟩ toE _
  dsimp only[gName,List.set]
  refine seqH fun N3 toN3=>pick (j:=0) (n:=4) (G:=fun v=>∃ k:Int,v=.int k/\k.natAbs<10 ^ 30) rfl (fun R kk=>⟨_,rfl,_,rfl,p,rs,rfl,dk3,fun kn H5 ex5 dk5 bk=>kk _ _ rfl (fun v hv=>?_) ex5 dk5⟩) rfl rfl rfl fun v hv H6 ex6 dk6=>toN3 _ _ ?_
  ·simp only[List.mem_cons,List.not_mem_nil,or_false]at hv
   rcases hv with rfl | rfl | rfl | rfl
   ·exact⟨_,rfl,by decide⟩
   ·exact⟨_,rfl,by decide⟩
   ·exact⟨_,rfl,by decide⟩
   ·exact⟨_,rfl,bk⟩
  obtain⟨c,rfl,bc⟩:=hv
  have hl6:=ex6 _ _ nl hl3
  refine⟨_,rfl,.inl ⟨rfl,_,SqL.of hl6⟩,_,rfl,p,rs,rfl,dk6,fun num H7 ex7 dk7 bn=>⟨(by show 2<=sizeLine;decide),fun t1 ht1=>⟨_,rfl,(by show 2<=sizeLine;decide),fun t9 ht9=>?_⟩⟩⟩
  have s9:=(same_new ht1 (.tup [.str "num",.int num])).trans (same_new ht9 (.tup [.ref t1,.int c]))
  have hl9:=s9 _ _ (ex7 _ _ nl hl6)
  have h19:=same_new ht9 (.tup [.ref t1,.int c]) _ _ (show (upd H7 t1 (.tup [.str "num",.int num])) t1=some (.tup [.str "num",.int num]) from upd_same)
  have h99:(upd (upd H7 t1 (.tup [.str "num",.int num])) t9 (.tup [.ref t1,.int c])) t9=some (.tup [.ref t1,.int c]):=upd_same
  obtain⟨H9,e9⟩:∃ H9,H9=upd (upd H7 t1 (.tup [.str "num",.int num])) t9 (.tup [.ref t1,.int c]):=⟨_,rfl⟩
  rw[<- e9]at s9 hl9 h19 h99 ⊢
  clear e9
  have t8:Tups H9 (upd H9 l (.lst (us++[.ref t9]))):=(Stay.lst hl9 fun b o nb e=>by rw[upd_ne nb];exact e).tp
  refine⟨l,us,_,rfl,rfl,hl9,line1 (by rw[ix.length,datB_map,List.length_map];lia),toE _ _ ⟨us++[.ref t9],xs++[(.num num,c)],_,_,rfl,fun b o nb nbl e=>?_,(dk7.keep s9).updL nl,upd_same,?_,by rw[List.length_append,lx];rfl,fun q hq=>?_⟩⟩
  ·rw[upd_ne nbl];exact s9 _ _ (ex7 _ _ nb (ex6 _ _ nb (ex3 _ _ nb nbl e)))
  ·rw[datB_map,List.map_append,<- datB_map]
   refine (IsDts.mono t8 (IsDts.mono s9.tups (IsDts.mono (ExD.stay dk6 ex7).tp (IsDts.mono (ExD.stay dk3 ex6).tp ix)))).append (.one (isDt_tup (t8 _ _ h99) (.cons ?_ (.one (isDt_int _)))))
   show IsDt _ (dat (.num num)) _
   rw[dat]
   exact isDt_tup (t8 _ _ h19) (.cons (isDt_str _) (.one (isDt_int _)))
  ·rcases List.mem_append.mp hq with h | h
   ·exact hx q h
   ·rw[List.mem_singleton.mp h];exact⟨by rw[key];show 2<=48;decide,bc⟩
end
end K21
end
section
namespace K21
open PySem L2 Kn
mutual
def kdT:Kd->Tr
 | .num=>.node (Str.ofString "num") [] []
 | .word=>.node (Str.ofString "word") [] []
 | .row fs=>.row (kdTR fs)
 | .bag k=>.node (Str.ofString "bag") [] [kdT k]
def kdTR:List (Str×Kd)->List (Str×Tr)
 | []=>[]
 | p::ps=>(p.1,kdT p.2)::kdTR ps
end
mutual
theorem tdat_kd:∀ k:Kd,tdat (kdT k)=kdD k
 | .num=>by rw[kdT,td_node,kdD];rfl
 | .word=>by rw[kdT,td_node,kdD];rfl
 | .row fs=>by rw[kdT,tdat,kdD,tdat_kdR fs]
 | .bag k=>by rw[kdT,td_node,kdD,List.map_cons,tdat_kd k];rfl
theorem tdat_kdR:∀ fs:List (Str×Kd),tdatR (kdTR fs)=kdR fs
 | []=>by rw[kdTR,tdatR,kdR]
 | p::ps=>by rw[kdTR,tdatR,kdR,tdat_kd p.2,tdat_kdR ps]
end
structure Top (N:List Str) (S:Str->List (Val×Int)) (E:Str->Val) (q:Pq):Prop where
 ev:∃ c,c<=1000000/\Ev Fr (toV E) (toE N S) (toT q) (.d (.bag (bq S E q))) c
 dp:dp q<=9
 fo:Fo N q 1
 len:(Lq S E q 1).length<=640
 ky:∀ r∈Lq S E q 1,(key r.1).length<=48
 kb:∀ r∈bq S E q,(key r.1).length<=48
theorem top_of {N:List Str}{S:Str->List (Val×Int)}{E:Str->Val} (h:Env0 N S E) {d:Nat}{q:Pq} (p:Pl N d q) (hd:d<=4):Top N S E q:=by
 refine⟨?_,Nat.le_trans (dp_of p) (by lia),fo_of p 1 ?_,Nat.le_trans (Lq_len h p 1) ?_,fun r hr=>(Lq_mem h p 1 r hr).1,fun r hr=>(bq_mem h p hd r hr).1⟩
 ·obtain⟨c,hc,e⟩:=ev_of h p hd
  exact⟨c,Nat.le_trans hc (Nat.le_trans (Nat.mul_le_mul_left 8 (Nat.pow_le_pow_right (by decide) hd)) (by decide)),e⟩
 ·show 1 * (10 ^ 30) ^ d<2 ^ 600
  rw[Nat.one_mul]
  exact Nat.lt_of_le_of_lt (Nat.pow_le_pow_right (by decide) hd) (by decide +kernel)
 ·exact Nat.le_trans (Nat.mul_le_mul_left 40 (Nat.pow_le_pow_right (by decide) hd)) (by decide)
theorem top_nn {N:List Str}{S:Str->List (Val×Int)}{E:Str->Val} (h:Env0 N S E) {d:Nat}{q:Pq} (p:Pl N d q) (hd:d<=4) (t:Tr):Top N S E (.both (.nn t) q):=by
 have tp:=top_of h p hd
 have eL:Lq S E (.both (.nn t) q) 1=Lq S E q 1:=by rw[Lq,Lq,List.nil_append]
 have eb:bq S E (.both (.nn t) q)=theBag ([]++bq S E q):=by
  unfold bq
  rw[eL,List.nil_append,<- theBag_of (own_bag (Lq S E q 1)) fun _=>rfl]
 refine⟨?_,?_,⟨trivial,tp.fo⟩,by rw[eL];exact tp.len,by rw[eL];exact tp.ky,by unfold bq;rw[eL];exact tp.kb⟩
 ·obtain⟨c,hc,e⟩:=ev_of h p hd
  refine⟨2+c+2,?_,?_⟩
  ·have:=Nat.le_trans hc (Nat.mul_le_mul_left 8 (Nat.pow_le_pow_right (by decide) hd))
   have:8 * 3 ^ 4=648:=by decide
   lia
  ·rw[eb,toT]
   refine .p2 no_both (kids_ne _ _ (by decide +kernel)) (r:=.v EMP) (.p0 no_none (by rw[toT,kids_node,if_pos rfl]) .none) e (.both (.inl rfl) ⟨?_,fun r hr=>?_⟩)
   ·rw[List.nil_append];exact Nat.le_trans (bq_len h p hd) (by decide)
   ·rw[List.nil_append]at hr;exact Nat.le_trans (bq_mem h p hd r hr).1 (by decide)
 ·have:=dp_of p
  show max 0 (K21.dp q)+1<=9
  lia
theorem PairsK.mono {H H':Hp} (s:Tups H H') {kvs:List (Key×V)}{xs:List V} (h:PairsK H kvs xs):PairsK H' kvs xs:=Paired.mapP h fun _ _ ⟨a,e,h1⟩=>⟨a,e,s _ _ h1⟩
theorem mergeG2 {a b:Key}{u v:V} (h:a≠b):mergeG [] [(a,u),(b,v)]=[(a,u),(b,v)]:=by
 simp [mergeG,putK,h]
theorem two_dict {K:PySem.W.Frag}{wi:TI}{fr:List (Str×Nat)}{te:ZC->TE} {σ:St} {H:Hp}{Q:VK}{p:Addr}{rs:List Addr}{n1 n2:Str} (G:Val->Prop) (hne:n1≠n2)
  (hw:∀ R:It->Hp->Prop,(∀ (l:Addr) (H1:Hp),ExD p rs H H1->Dk H1 p rs->H1 l=some (.lst [.str n1,.str n2])->l ∉ p::rs->R (Itl K l) H1)->wi σ H R)
  (step:∀ (z:ZC) (n:Str) (H1:Hp) (R:VK),ExD p rs H H1->Dk H1 p rs->(∀ (x:Val) (u:V) (H2:Hp),ExD p rs H1 H2->Dk H2 p rs->IsDt H2 (dat x) u->G x->R u H2)->te z (some (.str n)::fr.map fun q=>(σ[q.2]?).join) H1 R)
  (fin:∀ (d:Addr) (H':Hp) (x1 x2:Val) (u1 u2:V),ExD p rs H H'->Dk H' p rs->H' d=some (.dK [(Sum.inr n1,u1),(Sum.inr n2,u2)])->IsDt H' (dat x1) u1->IsDt H' (dat x2) u2->G x1->G x2->Q (.ref d) H') :
  tCB rDictK (tCons (tLC wi 1 fr (fun _=>gName 0) (fun _=>tAll) (fun z=>tTup (tCons (tVar 0) (tCons (te z) tNil)))) tNil) σ H Q:=by
 refine hw _ fun l H1 ex1 dk1 hl nl=>?_
 refine⟨fun i m ys H2=>m+i=2/\ExD p rs H1 H2/\Dk H2 p rs/\∃ kvs:List (Str×V),PairsK H2 (kvs.map fun q=>((Sum.inr q.1:Key),q.2)) ys/\kvs.map (·.1)=[n1,n2].take i/\∀ q∈kvs,∃ x,IsDt H2 (dat x) q.2/\G x,⟨2,rfl,fun _ _ _ e=>e,dk1,[],.nil,rfl,fun _ h=>(nomatch h)⟩,?_⟩
 rintro i m ys H2 ⟨hm,ex2,dk2,kvs,pk,ek,hk⟩
 have hl2:=ex2 _ _ nl hl
 have ly:kvs.length=ys.length:=by have:=Paired.length pk;rw[List.length_map]at this;exact this
 have lk:kvs.length<=2:=by have:=congrArg List.length ek;rw[List.length_map,List.length_take]at this;rw[this];exact Nat.min_le_right _ _
 refine⟨line1 (by lia),?_⟩
 by_cases hi:i<2
 ·obtain⟨n,en,et⟩:∃ n,([V.str n1,.str n2]:List V)[i]?=some (.str n)/\[n1,n2].take (i+1)=[n1,n2].take i++[n]:=by
   match i,hi with
   | 0,_=>exact⟨n1,rfl,rfl⟩
   | 1,_=>exact⟨n2,rfl,rfl⟩
  refine .inr ⟨⟨_,_,SqL.of hl2,en⟩,fun z x H3 hy=>?_⟩
  obtain⟨eH,hx⟩:=hy
  rw[eH]
  clear eH H3
  have e2:=hx _ (SqL.of hl2)
  rw[en]at e2
  cases e2
  refine gall ?_
  refine⟨_,rfl,step z n H2 _ (ex1.trans ex2) dk2 fun x u H4 ex4 dk4 ix g=>⟨(by show 2<=sizeLine;decide),fun t ht=>?_⟩⟩
  have s5:=same_new ht (.tup [.str n,u])
  have t4:=(ExD.stay dk2 ex4).tp
  refine⟨m-1,by lia,by lia,ex2.trans (ex4.trans (ExD.same s5)),dk4.keep s5,kvs++[(n,u)],?_,?_,?_⟩
  ·rw[List.map_append]
   exact Paired.snoc (PairsK.mono s5.tups (PairsK.mono t4 pk)) ⟨t,rfl,upd_same⟩
  ·rw[List.map_append,ek,et];rfl
  ·intro q hq
   rcases List.mem_append.mp hq with h | h
   ·obtain⟨x,a,b⟩:=hk q h
    exact⟨x,IsDt.mono s5.tups (IsDt.mono t4 a),b⟩
   ·rw[List.mem_singleton.mp h]
    exact⟨x,IsDt.mono s5.tups ix,g⟩
 ·refine .inl ⟨⟨_,SqL.of hl2,by show 2<=i;lia⟩,fun l8 hl8=>?_⟩
  rw[List.take_of_length_le (show [n1,n2].length<=i by show 2<=i;lia)]at ek
  match kvs,ek with
  | [(a,u1),(b,u2)],ek=>
   obtain⟨rfl,rfl⟩:a=n1/\b=n2:=by
    simp only[List.map_cons,List.map_nil,List.cons.injEq,and_true]at ek
    exact ek
   refine⟨l8,ys,_,rfl,.inl upd_same,PairsK.mono (same_new hl8 _).tups pk,fun d hd=>?_⟩
   obtain⟨x1,i1,g1⟩:=hk _ List.mem_cons_self
   obtain⟨x2,i2,g2⟩:=hk _ (List.mem_cons_of_mem _ List.mem_cons_self)
   show Q (.ref d) (upd _ d (.dK (mergeG [] [((Sum.inr a:Key),u1),(Sum.inr b,u2)])))
   rw[mergeG2 fun z=>hne (by injection z)]
   have s8:=(same_new hl8 (.lst ys)).trans (same_new hd (.dK [((Sum.inr a:Key),u1),(Sum.inr b,u2)]))
   exact fin d _ x1 x2 u1 u2 (ex1.trans (ex2.trans (ExD.same s8))) (dk2.keep s8) upd_same (IsDt.mono s8.tups i1) (IsDt.mono s8.tups i2) g1 g2
theorem depL_le {n:Nat}:∀ {ds:List Dt},(∀ d∈ds,d.dep<=n)->depL ds<=n
 | [],_=>by rw[depL];exact Nat.zero_le _
 | d::ds,h=>by
  have h1:=h d List.mem_cons_self
  have h2:=depL_le fun e he=>h e (List.mem_cons_of_mem _ he)
  rw[depL];lia
theorem dep_bag {qs:List (Val×Int)} (h:∀ q∈qs,(key q.1).length<=48):depL [.str (Str.ofString "bag"),.tup (datB qs)]<=51:=by
 have h1:depL (datB qs)<=49:=depL_le fun d hd=>by
  rw[datB_map]at hd
  obtain⟨q,hq,rfl⟩:=List.mem_map.mp hd
  rw[dep_two,Dt.dep]
  have:=(dep_lk q.1).2
  have:=h q hq
  lia
 simp only[depL,Dt.dep]
 lia
structure Sto (n1 n2:Str) (S:Str->List (Val×Int)) (E:Str->Val) (kd:Kd) (vk:V) (p:Addr) (rs:List Addr) (l sd vd:Addr) (H:Hp):Prop where
 dk:Dk H p rs
 nm:H l=some (.lst [.str n1,.str n2])
 nl:l ∉ p::rs
 st:∃ u1 u2,H sd=some (.dK [(Sum.inr n1,u1),(Sum.inr n2,u2)])/\IsDt H (dat (.bag (S n1))) u1/\IsDt H (dat (.bag (S n2))) u2
 vl:∃ u1 u2,H vd=some (.dK [(Sum.inr (Str.ofString "x"),u1),(Sum.inr (Str.ofString "y"),u2)])/\IsDt H (dat (E (Str.ofString "x"))) u1/\IsDt H (dat (E (Str.ofString "y"))) u2
 kn:IsDt H (kdD kd) vk
section
variable {n1 n2:Str}{S:Str->List (Val×Int)}{E:Str->Val}{kd:Kd}{vk:V}{p:Addr}{rs:List Addr}{l sd vd:Addr}
theorem Sto.step {H H':Hp} (h:Sto n1 n2 S E kd vk p rs l sd vd H) (tp:Tups H H') (e:∀ b kvs,H b=some (.dK kvs)->H' b=some (.dK kvs)) (d:Dk H' p rs) (nm:H' l=some (.lst [.str n1,.str n2])):Sto n1 n2 S E kd vk p rs l sd vd H':=by
 obtain⟨u1,u2,h1,h2,h3⟩:=h.st
 obtain⟨v1,v2,h4,h5,h6⟩:=h.vl
 exact⟨d,nm,h.nl,⟨u1,u2,e _ _ h1,IsDt.mono tp h2,IsDt.mono tp h3⟩,⟨v1,v2,e _ _ h4,IsDt.mono tp h5,IsDt.mono tp h6⟩,IsDt.mono tp h.kn⟩
theorem Sto.ex {H H':Hp} (h:Sto n1 n2 S E kd vk p rs l sd vd H) (e:ExD p rs H H') (d:Dk H' p rs):Sto n1 n2 S E kd vk p rs l sd vd H':=
 h.step (ExD.stay h.dk e).tp (fun b kvs k=>e _ _ (h.dk.nlst k (by intro _ z;cases z)) k) d (e _ _ h.nl h.nm)
theorem Sto.same {H H':Hp} (h:Sto n1 n2 S E kd vk p rs l sd vd H) (s:Same H H'):Sto n1 n2 S E kd vk p rs l sd vd H':=h.ex (ExD.same s) (h.dk.keep s)
theorem Sto.lst {H H':Hp}{a:Addr}{xs:List V} (h:Sto n1 n2 S E kd vk p rs l sd vd H) (ha:H a=some (.lst xs)) (n:a ∉ p::rs) (na:a≠l) (e:∀ b o,b≠a->H b=some o->H' b=some o):Sto n1 n2 S E kd vk p rs l sd vd H':=
 h.step (Stay.lst ha e).tp (fun b kvs k=>e _ _ (fun z=>by rw[z,ha]at k;cases k) k) (h.dk.ex fun b o hb k=>e b o (fun z=>n (z ▸ hb)) k) (e _ _ na.symm h.nm)
theorem env_two {H:Hp}{d:Addr}{a b:Str}{u1 u2:V}{F:Ev0} (h:H d=some (.dK [(Sum.inr a,u1),(Sum.inr b,u2)])) (hn:a≠b) (hF:∀ n x,F n=some x->(n=a/\IsDt H (dat x) u1)\/(n=b/\IsDt H (dat x) u2)):EnvAt H F d:=by
 refine⟨_,.inl h,fun n x e=>?_⟩
 rcases hF n x e with ⟨rfl,i⟩ | ⟨rfl,i⟩
 ·exact⟨u1,valV_pos rfl,i⟩
 ·exact⟨u2,by rw[valV_neg (fun z=>hn (by injection z)),valV_pos rfl],i⟩
theorem Sto.es {H:Hp} (h:Sto n1 n2 S E kd vk p rs l sd vd H) (hn:n1≠n2):EnvAt H (toE [n1,n2] S) sd:=by
 obtain⟨u1,u2,h1,h2,h3⟩:=h.st
 refine env_two h1 hn fun n x e=>?_
 unfold toE at e
 split at e
 ·rename_i m
  cases e
  simp only[List.mem_cons,List.not_mem_nil,or_false]at m
  rcases m with rfl | rfl
  ·exact .inl ⟨rfl,h2⟩
  ·exact .inr ⟨rfl,h3⟩
 ·cases e
theorem Sto.ev {H:Hp} (h:Sto n1 n2 S E kd vk p rs l sd vd H):EnvAt H (toV E) vd:=by
 obtain⟨u1,u2,h1,h2,h3⟩:=h.vl
 refine env_two h1 (by decide +kernel) fun n x e=>?_
 unfold toV at e
 split at e
 ·rename_i m
  cases e
  simp only[List.mem_cons,List.not_mem_nil,or_false]at m
  rcases m with rfl | rfl
  ·exact .inl ⟨rfl,h2⟩
  ·exact .inr ⟨rfl,h3⟩
 ·cases e
end
end K21
end
section
namespace K21
open PySem L2 Kn
theorem env_S {H:Hp}{d:Addr}{n1 n2:Str}{S:Str->List (Val×Int)}{u1 u2:V} (h1:H d=some (.dK [(Sum.inr n1,u1),(Sum.inr n2,u2)])) (hn:n1≠n2) (h2:IsDt H (dat (.bag (S n1))) u1) (h3:IsDt H (dat (.bag (S n2))) u2):EnvAt H (toE [n1,n2] S) d:=by
 refine env_two h1 hn fun n x e=>?_
 unfold toE at e
 split at e
 ·rename_i m
  cases e
  simp only[List.mem_cons,List.not_mem_nil,or_false]at m
  rcases m with rfl | rfl
  ·exact .inl ⟨rfl,h2⟩
  ·exact .inr ⟨rfl,h3⟩
 ·cases e
theorem dep_dbag {qs:List (Val×Int)} (h:∀ q∈qs,(key q.1).length<=48):(dat (.bag qs)).dep<=60:=by
 have:=dep_bag h
 rw[dat,Dt.dep]
 exact Nat.le_trans (Nat.add_le_add_right this 1) (by decide)
theorem dsame {H:Hp}{a b:Addr}{n1 n2:Str}{S:Str->List (Val×Int)}{u1 u2:V} (ha:H a=some (.dK [(Sum.inr n1,u1),(Sum.inr n2,u2)])) (hb:H b=some (.dK [(Sum.inr n1,u1),(Sum.inr n2,u2)])) (hn:n1≠n2) (h2:IsDt H (dat (.bag (S n1))) u1) (h3:IsDt H (dat (.bag (S n2))) u2)
  (k1:∀ q∈S n1,(key q.1).length<=48) (k2:∀ q∈S n2,(key q.1).length<=48):DSame H a b:=by
 refine⟨_,_,.inl ha,.inl hb,rfl,fun q hq=>?_⟩
 simp only[List.mem_cons,List.not_mem_nil,or_false]at hq
 rcases hq with rfl | rfl
 ·exact⟨u1,_,valV_pos rfl,h2,h2,dep_dbag k1⟩
 ·exact⟨u2,_,by rw[valV_neg (fun z=>hn (by injection z)),valV_pos rfl],h3,h3,dep_dbag k2⟩
section
variable {P:Program}{w:World}{K:PySem.W.Frag}{mg:Str->Option Value}{base:Heap}{f f_decks f_draw f_kind f_value f_many f_plain f_put f_sorted Za5:Addr}{fd fd_decks fd_draw fd_kind fd_value fd_many fd_plain fd_put fd_sorted Za6:FuncData}
theorem Zai:FnScope ["script","decks","names","kind","store","values","turn","question","due","handed","found","row","count"] ["script"] (defScope (top 53)):=⟨rfl,rfl,rfl,by decide +kernel,rfl,by decide +kernel,by decide +kernel⟩
structure Tx2 (mg:Str->Option Value):Prop extends Tx mg where
 z_bool:mg "bool"=none
def spLaw (K:PySem.W.Frag):Sp:=fun vs H Q _=>∃ (a:Addr) (ns:List Int),vs=[.ref a]/\SqL K H a (ns.map V.int)/\ns.length<=63/\∀ H',Q (.bl true) H'
def spPlainA:Sp:=fun vs H Q E=>∃ d,d<=4/\spPlain d vs H Q E
theorem plain_any {ps:List Str} (F:∀ d:Nat,FnOk P w K mg base CX0 (d+3) f fd ps (spPlain d)):FnOk P w K mg base CX0 7 f fd ps spPlainA:=
 ⟨fun vs H Q E h=>(by obtain⟨e,he,h⟩:=h;exact ((F e).mono (show e+3<=7 by lia)).len vs H Q E h),fun A outer s H args us vs Q E hr h0 hb hv h=>(by obtain⟨e,he,h⟩:=h;exact ((F e).mono (show e+3<=7 by lia)).run A outer s H args us vs Q E hr h0 hb hv h)⟩
theorem ok_law {aE:Addr} (T:Tx2 mg) (D:Df K mg "law" (top 53) f fd ["script"])
  (ZaB:Df K mg "_law_decks" (top 41) f_decks fd_decks ["script","budget"]) (ZbV:FnOk P w K mg base CX0 1 f_decks fd_decks ["script","budget"] (spDecks K))
  (Zaa:Df K mg "_law_draw" (top 42) f_draw fd_draw ["decks","limit"]) (Zab:FnOk P w K mg base CX0 1 f_draw fd_draw ["decks","limit"] spDraw)
  (ZaC:Df K mg "_law_kind" (top 43) f_kind fd_kind ["k"]) (ZbW:FnOk P w K mg base CX0 1 f_kind fd_kind ["k"] spKind)
  (Zaf:Df K mg "_law_value" (top 48) f_value fd_value ["decks","kind"]) (ZaI:FnOk P w K mg base CX0 56 f_value fd_value ["decks","kind"] (spValue 5))
  (ZaD:Df K mg "_law_many" (top 52) f_many fd_many ["decks"]) (ZbX:FnOk P w K mg base CX0 51 f_many fd_many ["decks"] spMany)
  (Zae:Df K mg "_law_plain" (top 50) f_plain fd_plain ["decks","names","deep"]) (ZaJ:FnOk P w K mg base CX0 7 f_plain fd_plain ["decks","names","deep"] spPlainA)
  (Zah:Df K mg "_law_put" (top 51) f_put fd_put ["counts","question","factor","values","store"]) (ZaK:FnOk P w K mg base CX0 10 f_put fd_put ["counts","question","factor","values","store"] (spPut 9))
  (Zag:Df K mg "_law_sorted" (top 46) f_sorted fd_sorted ["counts"]) (Zap:FnOk P w K mg base CX0 50 f_sorted fd_sorted ["counts"] spBagL)
  (ZaE:Df K mg "answer" (top 18) Za5 Za6 ["question","values","store"]) (ZbY:FnOk P w K mg base CX0 20 Za5 Za6 ["question","values","store"] (spAns aE Fr)) :
  FnOk P w K mg base CX0 58 f fd ["script"] (spLaw K):=by
 refine D.fn.okH (k:=57) Zai (fun vs H Q E h=>?_) (fun cdv A outer s H vs Q E hr h=>?_)
 ·obtain⟨a,ns,rfl,_⟩:=h;rfl
 obtain⟨a,ns,rfl,hS,h63,fin⟩:=h
 have hu:=u110 hr
 have hu0:=u0 hr
 have hu1:=hu_of hr
 refine⟨_,(wss_cons (ws_set (i:=1) Zai.nd rfl (Or.inr rfl) (we_call ZbV (hr.mono (by lia)) rfl ZaB.mg ZaB.kp ZaB.b .nil pass0 (wa_cons (wv 0) (wa_cons we_int wa_nil))))
   (wss_cons (ws_set (i:=2) Zai.nd rfl (Or.inl rfl) (we_lst (wa_cons (we_ix (ix_U hu1) (we_lst (wa_consts rfl)) (we_call Zab (hr.mono (by lia)) rfl Zaa.mg Zaa.kp Zaa.b .nil pass0 (wa_cons (wv 1) (wa_cons we_int wa_nil))) (fun _ _=>rfl)) (wa_cons we_str wa_nil))))
   (wss_cons (ws_set (i:=3) Zai.nd rfl (Or.inr rfl) (we_call ZbW (hr.mono (by lia)) rfl ZaC.mg ZaC.kp ZaC.b .nil pass0 (wa_cons (we_call Zab (hr.mono (by lia)) rfl Zaa.mg Zaa.kp Zaa.b .nil pass0 (wa_cons (wv 1) (wa_cons we_int wa_nil))) wa_nil)))
   (wss_cons (ws_set (i:=4) Zai.nd rfl (Or.inl rfl) (we_callTy (call_dictK rfl) rfl T.z_dict bt_dict (wa_cons (we_lc (Nt:=["name"]) (fr:=[("decks",1),("kind",3)]) (LcOk.of (sc:=defScope (top 53)) (N:=["script","decks","names","kind","store","values","turn","question","due","handed","found","row","count"]) rfl rfl (by decide +kernel)) rfl (wi_U (wv 2)) (fun z=>wg_name (i:=0) (by show (["name","decks","kind"]:List Str).Nodup;decide +kernel) rfl (Or.inl rfl) (.inr rfl)) (fun z=>tgt_name (by decide)) (fun z=>wif_nil) (fun z=>(we_tup (wa_cons (wv 0) (wa_cons (we_call ZaI (hr.mono (by lia)) rfl Zaf.mg Zaf.kp Zaf.b .nil pass0 (wa_cons (wv 1) (wa_cons (we_tup (wa_cons we_str (wa_cons (wv 2) wa_nil))) wa_nil))) wa_nil))))) wa_nil)))
   (wss_cons (ws_if (wt_cmpR (op_eqU hu) (we_call Zab (hr.mono (by lia)) rfl Zaa.mg Zaa.kp Zaa.b .nil pass0 (wa_cons (wv 1) (wa_cons we_int wa_nil))) we_int (nomark _)) (wss_cons (ws_set (i:=3) Zai.nd rfl (Or.inr rfl) (we_tup (wa_cons we_str wa_nil)))
   (wss_one (ws_set (i:=4) Zai.nd rfl (Or.inl rfl) (we_callTy (call_dictK rfl) rfl T.z_dict bt_dict (wa_cons (we_lc (Nt:=["name"]) (fr:=[("decks",1)]) (LcOk.of (sc:=defScope (top 53)) (N:=["script","decks","names","kind","store","values","turn","question","due","handed","found","row","count"]) rfl rfl (by decide +kernel)) rfl (wi_U (wv 2)) (fun z=>wg_name (i:=0) (by show (["name","decks"]:List Str).Nodup;decide +kernel) rfl (Or.inl rfl) (.inr rfl)) (fun z=>tgt_name (by decide)) (fun z=>wif_nil) (fun z=>(we_tup (wa_cons (wv 0) (wa_cons (we_call ZbX (hr.mono (by lia)) rfl ZaD.mg ZaD.kp ZaD.b .nil pass0 (wa_cons (wv 1) wa_nil)) wa_nil))))) wa_nil))))) wss_nil)
   (wss_cons (ws_set (i:=5) Zai.nd rfl (Or.inl rfl) (we_callTy (call_dictK rfl) rfl T.z_dict bt_dict (wa_cons (we_lc (Nt:=["name"]) (fr:=[("decks",1),("kind",3)]) (LcOk.of (sc:=defScope (top 53)) (N:=["script","decks","names","kind","store","values","turn","question","due","handed","found","row","count"]) rfl rfl (by decide +kernel)) rfl (wi_U (we_lst (wa_consts rfl))) (fun z=>wg_name (i:=0) (by show (["name","decks","kind"]:List Str).Nodup;decide +kernel) rfl (Or.inl rfl) (.inr rfl)) (fun z=>tgt_name (by decide)) (fun z=>wif_nil) (fun z=>(we_tup (wa_cons (wv 0) (wa_cons (we_call ZaI (hr.mono (by lia)) rfl Zaf.mg Zaf.kp Zaf.b .nil pass0 (wa_cons (wv 1) (wa_cons (wv 2) wa_nil))) wa_nil))))) wa_nil)))
   (wss_cons (ws_for PassesOwn.never rfl (wi_range1 rfl T.z_range (wa_cons we_int wa_nil)) (wg_name (i:=6) Zai.nd rfl (Or.inl rfl)) (wss_cons (ws_set (i:=7) Zai.nd rfl (Or.inl rfl) (we_call ZaJ (hr.mono (by lia)) rfl Zae.mg Zae.kp Zae.b .nil pass0 (wa_cons (wv 1) (wa_cons (wv 2) (wa_cons (we_op op_plus we_int (we_call Zab (hr.mono (by lia)) rfl Zaa.mg Zaa.kp Zaa.b .nil pass0 (wa_cons (wv 1) (wa_cons we_int wa_nil)))) wa_nil)))))
   (wss_cons (ws_if (wt_cmpR (op_eqU hu) (we_call Zab (hr.mono (by lia)) rfl Zaa.mg Zaa.kp Zaa.b .nil pass0 (wa_cons (wv 1) (wa_cons we_int wa_nil))) we_int (nomark _)) (wss_one (ws_set (i:=7) Zai.nd rfl (Or.inl rfl) (we_tup (wa_cons we_str (wa_cons (we_tup (wa_cons we_str (wa_cons (wv 3) wa_nil))) (wa_cons (wv 7) wa_nil)))))) wss_nil)
   (wss_cons (ws_set (i:=8) Zai.nd rfl (Or.inl rfl) (we_lst wa_nil))
   (wss_cons (ws_expr (we_call ZaK (hr.mono (by lia)) rfl Zah.mg Zah.kp Zah.b .nil pass0 (wa_cons (wv 8) (wa_cons (wv 7) (wa_cons we_int (wa_cons (wv 5) (wa_cons (wv 4) wa_nil)))))))
   (wss_cons (ws_set (i:=9) Zai.nd rfl (Or.inl rfl) (we_callTy call_dictF rfl T.z_dict bt_dict (wa_cons (wv 4) wa_nil)))
   (wss_cons (ws_set (i:=10) Zai.nd rfl (Or.inl rfl) (we_call ZbY (hr.mono (by lia)) rfl ZaE.mg ZaE.kp ZaE.b .nil pass0 (wa_cons (wv 7) (wa_cons (wv 5) (wa_cons (wv 9) wa_nil)))))
   (wss_cons (ws_if (wt_pw (ww_or (wt_not (wt_val (we_callB call_isA rfl T.z_isinstance bt_isinstance (wa_cons (wv 10) (wa_cons (we_bltn rfl T.z_tuple bt_tuple (relv_ty _)) wa_nil))))) (ww_or (wt_cmpR (op_neX hu) (wv 10) (we_call Zap (hr.mono (by lia)) rfl Zag.mg Zag.kp Zag.b .nil pass0 (wa_cons (wv 8) wa_nil)) (nomark _)) (ww_or1 (wt_cmpR (op_neX hu) (wv 9) (wv 4) (nomark _)))))) (wss_one (ws_ret we_bl)) wss_nil)
   (wss_one (ws_for PassesOwn.never rfl (wi_U (we_ix (ix_U hu1) (wv 10) we_int (fun _ _=>rfl))) (wg_tup rfl (wgs_cons (wg_name (i:=11) Zai.nd rfl (Or.inl rfl)) (wgs_cons (wg_name (i:=12) Zai.nd rfl (Or.inl rfl)) wgs_nil))) (wss_one (ws_if (wt_pw (ww_or (wt_not (wt_val (we_callB call_isA rfl T.z_isinstance bt_isinstance (wa_cons (wv 12) (wa_cons (we_bltn rfl T.z_int bt_int (relv_ty _)) wa_nil))))) (ww_or1 (wt_val (we_callB call_isA rfl T.z_isinstance bt_isinstance (wa_cons (wv 12) (wa_cons (we_bltn rfl T.z_bool bt_bool (relv_ty _)) wa_nil))))))) (wss_one (ws_ret we_bl)) wss_nil))))))))))))
   (wss_one (ws_ret we_bl))))))))),?_⟩
 refine seqH fun N1 to1=>⟨_,rfl,a,ns,rfl,hS,h63,fun p rs H1 s1 dk1=>to1 _ _ ?_⟩
 refine seqH fun N2 to2=>pick rfl (pk_vs dk1) rfl rfl rfl fun v hv H2 ex2 dk2=>⟨(by show 2<=sizeLine;decide),fun l hl=>to2 _ _ ?_⟩
 obtain⟨n1,rfl,hn⟩:∃ n1,v=.str n1/\n1≠Str.ofString "abc":=by
  simp only[List.mem_cons,List.not_mem_nil,or_false]at hv
  rcases hv with rfl | rfl | rfl
  ·exact⟨_,rfl,by decide +kernel⟩
  ·exact⟨_,rfl,by decide +kernel⟩
  ·exact⟨_,rfl,by decide +kernel⟩
 clear hv
 have nl:=dk2.fresh hl
 have dk3:=dk2.keep (same_new hl (.lst [.str n1,.str (Str.ofString "abc")]))
 have nm3:(upd H2 l (.lst [.str n1,.str (Str.ofString "abc")])) l=some (.lst [.str n1,.str (Str.ofString "abc")]):=upd_same
 obtain⟨H3,e3⟩:∃ H3,H3=upd H2 l (.lst [.str n1,.str (Str.ofString "abc")]):=⟨_,rfl⟩
 rw[<- e3]at dk3 nm3 ⊢
 clear e3 hl
 refine seqH fun N3 to3=>⟨_,rfl,p,rs,10,rfl,dk3,by decide,by decide,fun r H4 ex4 dk4 _ _=>⟨r,rfl,fun vk H5 kd s5 ik hk=>to3 _ _ ?_⟩⟩
 have dk5:=dk4.keep s5
 have nm5:=s5 _ _ (ex4 _ _ nl nm3)
 clear s5 ex4 dk4 nm3 dk3
 refine seqH fun N4 to4=>two_dict (K:=K) (n1:=n1) (n2:=Str.ofString "abc") (fun x=>∃ qs,x=.bag qs/\Bok 40 48 qs) hn (fun R kk=>.inl ⟨_,rfl,l,rfl,⟨_,SqL.of nm5⟩,kk l H5 (fun _ _ _ e=>e) dk5 nm5 nl⟩) (fun z n H6 R ex6 dk6 kk=>?va) fun sd H6 x1 x2 u1 u2 ex6 dk6 hsd i1 i2 g1 g2=>to4 _ _ ?_
 case va=>
  have ik6:=IsDt.mono (ExD.stay dk5 ex6).tp ik
  refine⟨_,rfl,_,rfl,(by show 2<=sizeLine;decide),fun t ht=>⟨.ref t,.bag kd,p,rs,rfl,?_,?_,?_,fun k' e=>?_,fun fs e=>(nomatch e),dk6.keep (same_new ht _),fun x u H7 ex7 dk7 ix vo=>kk x u H7 ((ExD.same (same_new ht _)).trans ex7) dk7 ix ?_⟩⟩
  ·rw[kdD];exact isDt_new ht (.cons (isDt_str _) (.one ik6))
  ·rw[kh];exact Nat.succ_le_succ hk.1
  ·rw[kz];have:=hk.2;lia
  ·injection e with e;rw[<- e];exact Nat.le_trans hk.2 (by decide)
  ·obtain⟨qs,e,b1,b2,b3⟩:=vo.2 kd rfl
   exact⟨qs,e,Nat.le_trans b1 (by decide),b2,fun q hq=>⟨Nat.le_trans (b3 q hq).1 (Nat.le_trans hk.2 (by decide)),(b3 q hq).2⟩⟩
 have nm6:=ex6 _ _ nl nm5
 have ik6:=IsDt.mono (ExD.stay dk5 ex6).tp ik
 clear ex6 dk5 nm5 ik
 refine seqH fun N5 to5=>?_
 have rest:∀ (kd:Kd) (vk:V) (sd:Addr) (H6:Hp) (x1 x2:Val) (u1 u2:V),KOk kd->IsDt H6 (kdD kd) vk->Dk H6 p rs->H6 l=some (.lst [.str n1,.str (Str.ofString "abc")])->H6 sd=some (.dK [(Sum.inr n1,u1),(Sum.inr (Str.ofString "abc"),u2)])->IsDt H6 (dat x1) u1->IsDt H6 (dat x2) u2->(∃ qs,x1=.bag qs/\Bok 40 48 qs)->(∃ qs,x2=.bag qs/\Bok 40 48 qs)->N5 [some (.ref a),some (.ref p),some (.ref l),some vk,some (.ref sd),none,none,none,none,none,none,none,none] H6:=by
  clear hk ik6 dk6 hsd i1 i2 g1 g2 nm6
  rintro kd vk sd H6 x1 x2 u1 u2 hk ik6 dk6 nm6 hsd i1 i2 ⟨qs1,rfl,b1⟩ ⟨qs2,rfl,b2⟩
  refine to5 _ _ ?_
  refine seqH fun N6 to6=>two_dict (K:=K) (n1:=Str.ofString "x") (n2:=Str.ofString "y") (fun x=>(key x).length<=48) (by decide +kernel) (fun R kk=>.inl ⟨(by show 2<=sizeLine;decide),fun l2 hl2=>⟨l2,rfl,⟨_,SqL.of upd_same⟩,kk l2 _ (ExD.same (same_new hl2 _)) (dk6.keep (same_new hl2 _)) upd_same (dk6.fresh hl2)⟩⟩) (fun z n H7 R ex7 dk7 kk=>?va) fun vd H8 y1 y2 v1 v2 ex8 dk8 hvd j1 j2 k1 k2=>to6 _ _ ?_
  case va=>
   refine⟨_,rfl,_,rfl,vk,kd,p,rs,rfl,IsDt.mono (ExD.stay dk6 ex7).tp ik6,Nat.le_trans hk.1 (by decide),Nat.le_trans hk.2 (by decide),fun k' e=>?_,fun fs e=>Nat.le_trans hk.2 (by decide),dk7,fun x u H9 ex9 dk9 ix vo=>kk x u H9 ex9 dk9 ix (Nat.le_trans vo.1 (Nat.le_trans hk.2 (by decide)))⟩
   have:=hk.2
   rw[e,kz]at this
   lia
  have t8:=(ExD.stay dk6 ex8).tp
  obtain⟨S,hS1,hS2⟩:∃ S:Str->List (Val×Int),S n1=qs1/\S (Str.ofString "abc")=qs2:=⟨fun n=>if n=n1 then qs1 else qs2,if_pos rfl,if_neg fun z=>hn z.symm⟩
  obtain⟨Ev,hE1,hE2⟩:∃ E:Str->Val,E (Str.ofString "x")=y1/\E (Str.ofString "y")=y2:=⟨fun n=>if n=Str.ofString "x" then y1 else y2,if_pos rfl,if_neg (by decide +kernel)⟩
  have sto:Sto n1 (Str.ofString "abc") S Ev kd vk p rs l sd vd H8:=⟨dk8,ex8 _ _ nl nm6,nl,⟨u1,u2,ex8 _ _ (dk6.nlst hsd (by intro _ z;cases z)) hsd,by rw[hS1];exact IsDt.mono t8 i1,by rw[hS2];exact IsDt.mono t8 i2⟩,⟨v1,v2,hvd,by rw[hE1];exact j1,by rw[hE2];exact j2⟩,IsDt.mono t8 ik6⟩
  have env:Env0 [n1,Str.ofString "abc"] S Ev:=by
   refine⟨fun n m=>?_,fun v m=>?_⟩
   ·simp only[List.mem_cons,List.not_mem_nil,or_false]at m
    rcases m with rfl | rfl
    ·rw[hS1];exact b1
    ·rw[hS2];exact b2
   ·simp only[List.mem_cons,List.not_mem_nil,or_false]at m
    rcases m with rfl | rfl
    ·rw[hE1];exact k1
    ·rw[hE2];exact k2
  clear hS1 hS2 hE1 hE2 t8 ex8 dk8 hvd j1 j2 k1 k2 b1 b2 i1 i2 hsd nm6 dk6 ik6
  refine seqH fun N7 to7=>⟨_,rfl,by decide,by decide,?_⟩
  refine for_rangeH (n:=(8:Int).toNat) (fun i σ H'=>(∃ o6 o7 o8 o9 o10 o11 o12:Option V,σ=[some (.ref a),some (.ref p),some (.ref l),some vk,some (.ref sd),some (.ref vd),o6,o7,o8,o9,o10,o11,o12])/\Sto n1 (Str.ofString "abc") S Ev kd vk p rs l sd vd H')
   ⟨⟨none,none,none,none,none,none,none,rfl⟩,sto⟩ ?turn fun σ H' _=>to7 _ _ (fin _)
  clear sto
  rintro E3 i σ H4 hi ⟨⟨o6,o7,o8,o9,o10,o11,o12,rfl⟩,sto⟩ toX _
  dsimp only[gName,List.set]
  refine seqH fun M1 m1=>⟨_,rfl,_,rfl,_,rfl,p,rs,4,rfl,sto.dk,by decide,by decide,fun r H5 ex5 dk5 r0 r1=>.inl ⟨_,_,rfl,rfl,?_⟩⟩
  obtain⟨d,ed,hd⟩:∃ d:Nat,1+r=(d:Int)/\d<=4:=⟨(1+r).toNat,by lia,by lia⟩
  have sto5:=sto.ex ex5 dk5
  refine⟨d,hd,p,l,rs,n1,Str.ofString "abc",(show [V.ref p,V.ref l,V.int (1+r)]=_ by rw[ed]),dk5,sto5.nm,nl,fun q u H6 ex6 dk6 iq pl=>m1 _ _ ?_⟩
  have sto6:=sto5.ex ex6 dk6
  clear sto5 sto ex5 ex6
  refine seqH fun M2 m2=>?_
  have rest2:∀ (q:Pq) (u:V) (H6:Hp),Top [n1,Str.ofString "abc"] S Ev q->Sto n1 (Str.ofString "abc") S Ev kd vk p rs l sd vd H6->IsDt H6 (tdat (toT q)) u->M2 [some (.ref a),some (.ref p),some (.ref l),some vk,some (.ref sd),some (.ref vd),some (.int (0+(i:Int))),some u,o8,o9,o10,o11,o12] H6:=by
   clear pl iq sto6 dk6 H6
   intro q u H8 tp sto iq
   refine m2 _ _ (seqH fun M3 m3=>⟨(by show 0<=sizeLine;decide),fun l2 hl2=>m3 _ _ ?_⟩)
   have nl2:=sto.dk.fresh hl2
   have l2l:l2≠l:=fun z=>by have:=sto.nm;rw[<- z,hl2]at this;cases this
   have sto9:=sto.same (same_new hl2 (.lst []))
   have iq9:=IsDt.mono (same_new hl2 (.lst [])).tups iq
   have hl9:(upd H8 l2 (.lst [])) l2=some (.lst []):=upd_same
   obtain⟨H9,e9⟩:∃ H9,H9=upd H8 l2 (.lst []):=⟨_,rfl⟩
   rw[<- e9]at sto9 iq9 hl9 ⊢
   clear e9 hl2 sto iq
   refine seqH fun M4 m4=>⟨_,rfl,_,rfl,_,rfl,_,rfl,l2,vd,sd,u,1,[],[],q,[n1,Str.ofString "abc"],S,Ev,rfl,hl9,.nil,iq9,tp.dp,tp.fo,env,sto9.ev,sto9.es hn,by have:=tp.len;rw[List.length_nil];lia,fun H10 us ex10 hl10 ix10=>m4 _ _ ?_⟩
   have sto10:=sto9.lst hl9 nl2 l2l ex10
   have iq10:=IsDt.mono (Stay.lst hl9 ex10).tp iq9
   rw[List.nil_append]at ix10
   clear sto9 iq9 hl9 ex10
   obtain⟨u1,u2,hs1,hs2,hs3⟩:=sto10.st
   refine seqH fun M5 m5=>⟨_,rfl,sd,_,rfl,.inl hs1,fun d2 hd2=>m5 _ _ ?_⟩
   have s11:=same_new hd2 (.dK [((Sum.inr n1:Key),u1),(Sum.inr (Str.ofString "abc"),u2)])
   have sto11:=sto10.same s11
   have hd11:(upd H10 d2 (.dK [((Sum.inr n1:Key),u1),(Sum.inr (Str.ofString "abc"),u2)])) d2=some (.dK [((Sum.inr n1:Key),u1),(Sum.inr (Str.ofString "abc"),u2)]):=upd_same
   obtain⟨H11,e11⟩:∃ H11,H11=upd H10 d2 (.dK [((Sum.inr n1:Key),u1),(Sum.inr (Str.ofString "abc"),u2)]):=⟨_,rfl⟩
   rw[<- e11]at s11 sto11 hd11 ⊢
   clear e11 hd2
   obtain⟨c,hc,ev⟩:=tp.ev
   refine seqH fun M6 m6=>⟨_,rfl,_,rfl,_,rfl,u,vd,d2,toT q,toV Ev,toE [n1,Str.ofString "abc"] S,_,c,rfl,⟨tq_of q,IsDt.mono s11.tups iq10⟩,sto11.ev,env_S hd11 hn (IsDt.mono s11.tups hs2) (IsDt.mono s11.tups hs3),ev,hc,fun v H12 s12 iv=>m6 _ _ ?_⟩
   have iv:IsDt H12 (dat (.bag (bq S Ev q))) v:=iv
   have s02:=s11.trans s12
   have hl12:=s02 _ _ hl10
   have ix12:=IsDts.mono s02.tups ix10
   have sto12:=sto11.same s12
   have hd12:=s12 _ _ hd11
   have hs12:=s02 _ _ hs1
   replace hs2:=IsDt.mono s02.tups hs2
   replace hs3:=IsDt.mono s02.tups hs3
   clear sto10 sto11 s11 s12 s02 hl10 ix10 hs1 hd11 iq10 ev hc
   obtain⟨a1,a2,bx,rfl,ha1,ha2,ibx⟩:=bag_at iv
   have lbx:bx.length=(bq S Ev q).length:=by rw[ibx.length,datB_map,List.length_map]
   refine seqH fun M7 m7=>?_
   refine⟨_,rfl,.inl ⟨_,"tuple","tuple",true,rfl,?ty,ist_self _,_,rfl,iteN (by decide) ?_⟩⟩
   case ty=>exact TyOf.tup ha1
   refine⟨_,rfl,_,rfl,l2,us,_,rfl,hl12,ix12,Nat.le_trans tp.len (by decide),tp.ky,fun v7 H13 s13 iv7 _=>?_⟩
   have iv6':IsDt H13 (dat (.bag (theBag (Lq S Ev q 1)))) (.ref a1):=IsDt.mono s13.tups iv
   have iv7':IsDt H13 (dat (.bag (theBag (Lq S Ev q 1)))) v7:=iv7
   rw[dat]at iv6' iv7'
   have kb:∀ r∈theBag (Lq S Ev q 1),(key r.1).length<=48:=tp.kb
   refine .inr (.inl ⟨_,_,iv6',iv7',Nat.le_trans (dep_bag kb) (by decide),_,rfl,iteN (by rw[decide_eq_true rfl];decide) ?_⟩)
   refine⟨_,rfl,_,rfl,.inr (.inr (.inr (.inl ⟨d2,sd,rfl,rfl,dsame (S:=S) (s13 _ _ hd12) (s13 _ _ hs12) hn (IsDt.mono s13.tups hs2) (IsDt.mono s13.tups hs3) (fun q hq=>((env.s n1 List.mem_cons_self).2.2 q hq).1) (fun q hq=>((env.s _ (List.mem_cons_of_mem _ List.mem_cons_self)).2.2 q hq).1),_,rfl,iteN (by decide) (m7 _ _ ?_)⟩)))⟩
   have sto13:=sto12.same s13
   have ha13:=s13 _ _ ha1
   have hb13:=s13 _ _ ha2
   replace ibx:=IsDts.mono s13.tups ibx
   clear iv6' iv7' iv7 iv sto12 ha1 ha2 hl12 ix12 hs2 hs3 hs12 hd12 s13
   refine .inr ⟨_,rfl,ixt (SqT.of ha13) at1 ⟨a2,rfl,⟨bx,SqT.of hb13⟩,?_⟩⟩
   refine⟨fun i2 m σ H'=>m+i2=(bq S Ev q).length/\(∃ o11 o12:Option V,σ=[some (.ref a),some (.ref p),some (.ref l),some vk,some (.ref sd),some (.ref vd),some (.int (0+(i:Int))),some u,some (.ref l2),some (.ref d2),some (.ref a1),o11,o12])/\H'=H13,
    ⟨(bq S Ev q).length,rfl,⟨o11,o12,rfl⟩,rfl⟩,?_⟩
   rintro i2 m σ H14 ⟨hm,⟨o11,o12,rfl⟩,rfl⟩
   by_cases hi2:i2<(bq S Ev q).length
   ·obtain⟨cb,vb,e1,hcb,ivb⟩:=pair_at ibx hi2
    refine .inr (for_hide ⟨bx,_,SqT.of hb13,e1⟩ (fun σ' H'=>(∃ o11 o12:Option V,σ'=[some (.ref a),some (.ref p),some (.ref l),some vk,some (.ref sd),some (.ref vd),some (.int (0+(i:Int))),some u,some (.ref l2),some (.ref d2),some (.ref a1),o11,o12])/\H'=H14) (fun σ' H' h=>⟨m-1,by lia,by lia,h.1,h.2⟩) fun EN toN _=>?_)
    intro x H15 hy
    obtain⟨eH,hx⟩:=hy
    rw[eH]
    clear eH H15
    have e2:=hx _ (SqT.of hb13)
    rw[e1]at e2
    cases e2
    refine⟨cb,_,rfl,SqT.of hcb,rfl,_,_,rfl,_,_,rfl,rfl,?_⟩
    dsimp only[List.set]
    refine⟨_,rfl,.inl ⟨_,"int","int",true,rfl,?ti,ist_self _,_,rfl,iteN (by decide) ?_⟩⟩
    case ti=>exact TyOf.int _
    refine⟨_,rfl,.inl ⟨_,"bool","int",false,rfl,?ti,ist_int_bool,_,rfl,iteN (by decide) (toN _ _ ⟨⟨_,_,rfl⟩,rfl⟩)⟩⟩
    case ti=>exact TyOf.int _
   ·exact .inl ⟨⟨_,SqT.of hb13,by lia⟩,toX _ _ ⟨⟨_,_,_,_,_,_,_,rfl⟩,sto13⟩⟩
  refine⟨_,rfl,p,rs,4,rfl,sto6.dk,by decide,by decide,fun r H7 ex7 dk7 _ _=>.inl ⟨rfl,_,rfl,ite2 (fun _=>?_) (fun _=>rest2 q u H7 (top_of env pl hd) (sto6.ex ex7 dk7) (IsDt.mono (ExD.stay sto6.dk ex7).tp iq))⟩⟩
  have sto7:=sto6.ex ex7 dk7
  have iq7:=IsDt.mono (ExD.stay sto6.dk ex7).tp iq
  refine asg1_me (d:=tdat (toT (.both (.nn (kdT kd)) q))) ?bo fun v H8 s8 iv=>rest2 _ v H8 (top_nn env pl hd _) (sto7.same s8) iv
  rw[tt_both,tt_nn,tdat_kd]
  exact me_tup rfl (ma_cons (me_str _) (ma_cons (me_tup rfl (ma_cons (me_str _) (ma_cons (me_var rfl sto7.kn) ma_nil))) (ma_cons (me_var rfl iq7) ma_nil)))
 refine⟨_,rfl,p,rs,3,rfl,dk6,by decide,by decide,fun r H7 ex7 dk7 _ _=>.inl ⟨rfl,_,rfl,ite2 (fun _=>?_) (fun _=>rest kd vk sd H7 x1 x2 u1 u2 hk (IsDt.mono (ExD.stay dk6 ex7).tp ik6) dk7 (ex7 _ _ nl nm6) (ex7 _ _ (dk6.nlst hsd (by intro _ z;cases z)) hsd) (IsDt.mono (ExD.stay dk6 ex7).tp i1) (IsDt.mono (ExD.stay dk6 ex7).tp i2) g1 g2)⟩⟩
 have nm7:=ex7 _ _ nl nm6
 refine seqH fun M1 m1=>⟨(by show 1<=sizeLine;decide),fun t ht=>m1 _ _ ?_⟩
 have dk8:=dk7.keep (same_new ht (.tup [.str (Str.ofString "num")]))
 have nm8:=same_new ht (.tup [.str (Str.ofString "num")]) _ _ nm7
 have ik8:IsDt (upd H7 t (.tup [.str (Str.ofString "num")])) (kdD .num) (.ref t):=by rw[kdD];exact isDt_tup upd_same (.one (isDt_str _))
 obtain⟨H8,e8⟩:∃ H8,H8=upd H7 t (.tup [.str (Str.ofString "num")]):=⟨_,rfl⟩
 rw[<- e8]at dk8 nm8 ik8
 have hkn:KOk .num:=k10_ok _ List.mem_cons_self
 show tAsg _ _ _ _ (upd H7 t (.tup [.str (Str.ofString "num")]))
 rw[<- e8]
 refine two_dict (K:=K) (n1:=n1) (n2:=Str.ofString "abc") (fun x=>∃ qs,x=.bag qs/\Bok 40 48 qs) hn (fun R kk=>.inl ⟨_,rfl,l,rfl,⟨_,SqL.of nm8⟩,kk l H8 (fun _ _ _ e=>e) dk8 nm8 nl⟩) (fun z n H9 R ex9 dk9 kk=>?_) fun sd2 H9 z1 z2 w1 w2 ex9 dk9 hsd9 j1 j2 q1 q2=>rest .num (.ref t) sd2 H9 z1 z2 w1 w2 hkn (IsDt.mono (ExD.stay dk8 ex9).tp ik8) dk9 (ex9 _ _ nl nm8) hsd9 j1 j2 q1 q2
 exact⟨_,rfl,p,rs,rfl,dk9,fun v H10 qs ex10 dk10 iv bk=>kk (.bag qs) v H10 ex10 dk10 iv ⟨qs,rfl,bk⟩⟩
end
end K21
end
section
namespace K21
open PySem L2 Kn
/-- a def that stands at the program's top -/
def DefAt (K:PySem.W.Frag) (x:Str) (st:Stmt):Prop:=∃ (f:Addr) (fd:FuncData),PySem.W.nsIn K mainGlobals x=some (some (.ref f))/\Fun K x x st f fd
theorem len_0 {us:List Value} (h:us.length=0):us=[]:=List.length_eq_zero_iff.mp h
theorem len_1 {us:List Value} (h:us.length=1):∃ a,us=[a]:=List.length_eq_one_iff.mp h
theorem len_2 {us:List Value} (h:us.length=2):∃ a b,us=[a,b]:=by
 cases us with
 | nil=>cases h
 | cons a t=>
  obtain⟨b,rfl⟩:=len_1 (us:=t) (by simpa using h)
  exact⟨a,b,rfl⟩
theorem len_3 {us:List Value} (h:us.length=3):∃ a b c,us=[a,b,c]:=by
 cases us with
 | nil=>cases h
 | cons a t=>
  obtain⟨b,c,rfl⟩:=len_2 (us:=t) (by simpa using h)
  exact⟨a,b,c,rfl⟩
theorem len_4 {us:List Value} (h:us.length=4):∃ a b c d,us=[a,b,c,d]:=by
 cases us with
 | nil=>cases h
 | cons a t=>
  obtain⟨b,c,d,rfl⟩:=len_3 (us:=t) (by simpa using h)
  exact⟨a,b,c,d,rfl⟩
theorem len_5 {us:List Value} (h:us.length=5):∃ a b c d e,us=[a,b,c,d,e]:=by
 cases us with
 | nil=>cases h
 | cons a t=>
  obtain⟨b,c,d,e,rfl⟩:=len_4 (us:=t) (by simpa using h)
  exact⟨a,b,c,d,e,rfl⟩
theorem defAt_mk {K:PySem.W.Frag}{x:Str}{st:Stmt}{f:Addr}{oc:Value}{od an:Option Addr}{osl:Array (Option Value)}{kV doc pm cdv ct:Value} (a:PySem.W.nsIn K mainGlobals x=some (some (.ref f)))
  (l:K.lookup f=some ⟨oc,od,.func (PySem.W.fnOf x x (defArgs st) (defBody st) (defScope st) .none kV doc pm an cdv ct),osl⟩) (c:PySem.W.codeIn K cdv x=true) (k:PySem.W.keepIn K (.ref f)=true):DefAt K x st:=⟨f,_,a,fun_mk l c k⟩
/-- the table of ranks at the program's top -/
def RanksAt (K:PySem.W.Frag) (w:World):Prop:=∃ (aR:Addr) (es:Array DictEntry) (n:Nat) (t0 t1 t2 t3:Tok),PySem.W.nsIn K mainGlobals "RANKS"=some (some (.ref aR))/\K.lookup aR=some ⟨.type "dict",none,.dict es n,#[]⟩/\PySem.W.KeysLit w.params es.toList /\
 PySem.W.nsIn K aR "num"=some (some (.int 0 t0))/\PySem.W.nsIn K aR "word"=some (some (.int 1 t1))/\PySem.W.nsIn K aR "row"=some (some (.int 2 t2))/\PySem.W.nsIn K aR "bag"=some (some (.int 3 t3))
theorem ranks_mk {K:PySem.W.Frag}{w:World}{aR:Addr}{es:Array DictEntry}{n:Nat}{t0 t1 t2 t3:Tok} (a:PySem.W.nsIn K mainGlobals "RANKS"=some (some (.ref aR))) (l:K.lookup aR=some ⟨.type "dict",none,.dict es n,#[]⟩) (k:PySem.W.KeysLit w.params es.toList)
  (r0:PySem.W.nsIn K aR "num"=some (some (.int 0 t0))) (r1:PySem.W.nsIn K aR "word"=some (some (.int 1 t1))) (r2:PySem.W.nsIn K aR "row"=some (some (.int 2 t2))) (r3:PySem.W.nsIn K aR "bag"=some (some (.int 3 t3))):RanksAt K w:=
 ⟨aR,es,n,t0,t1,t2,t3,a,l,k,r0,r1,r2,r3⟩
theorem ix_ranks {K:PySem.W.Frag}{w:World}{aR:Addr}{es:Array DictEntry}{n:Nat}{t0 t1 t2 t3:Tok} (l:K.lookup aR=some ⟨.type "dict",none,.dict es n,#[]⟩) (k:PySem.W.KeysLit w.params es.toList)
  (r0:PySem.W.nsIn K aR "num"=some (some (.int 0 t0))) (r1:PySem.W.nsIn K aR "word"=some (some (.int 1 t1))) (r2:PySem.W.nsIn K aR "row"=some (some (.int 2 t2))) (r3:PySem.W.nsIn K aR "bag"=some (some (.int 3 t3))) :
  ∀ X:Cx,X.K=K->X.w=w->X.A.units+1<cLine->IxR X (rRank aR):=by
 intro X eK eW hu value slice pins s σ H x y v u Q I rx ry h hs
 subst eK
 subst eW
 obtain⟨z,i,rfl,rfl,hr,q⟩:=h
 cases rx
 obtain⟨t,rfl⟩:=ry
 have e:∃ t',PySem.W.nsIn X.K aR z=some (some (.int i t')):=by
  unfold rankS at hr
  split at hr
  ·rename_i e;subst e;cases hr;exact⟨_,r0⟩
  split at hr
  ·rename_i e;subst e;cases hr;exact⟨_,r1⟩
  split at hr
  ·rename_i e;subst e;cases hr;exact⟨_,r2⟩
  split at hr
  ·rename_i e;subst e;cases hr;exact⟨_,r3⟩
  ·cases hr
 obtain⟨t',e⟩:=e
 obtain⟨m,F⟩:=I.fr
 exact PySem.W.topItem_K F I.mod.kin l k e ⟨.int i,H,I.tok _,⟨_,rfl⟩,q⟩ hs
/-- a method of a class -/
def MethAt (K:PySem.W.Frag) (C:Addr) (m qual:Str) (st:Stmt):Prop:=∃ (f:Addr) (fd:FuncData),Fun K m qual st f fd/\Meth K C m f
theorem methAt_mk {K:PySem.W.Frag}{C:Addr}{m qual:Str}{st:Stmt}{f:Addr}{oc:Value}{od an:Option Addr}{osl:Array (Option Value)}{kV doc pm cdv ct:Value} (a:PySem.W.findIn K (.ref C) m=some (some (.ref f)))
  (l:K.lookup f=some ⟨oc,od,.func (PySem.W.fnOf m qual (defArgs st) (defBody st) (defScope st) .none kV doc pm an cdv ct),osl⟩) (c:PySem.W.codeIn K cdv qual=true) (k:PySem.W.keepIn K (.ref f)=true) (n:PySem.W.isFn K (.ref f)=true):MethAt K C m qual st:=⟨f,_,fun_mk l c k,a,n,k⟩
/-- the class Walk -/
def WalkAt (K:PySem.W.Frag):Prop:=∃ C:Addr,PySem.W.nsIn K mainGlobals "Walk"=some (some (.ref C))/\Cls K C/\NA K C/\PySem.W.makesIn K C=true/\PySem.W.keepIn K (.ref C)=true /\
 MethAt K C "__init__" "Walk.__init__" (mtop 14 0)/\MethAt K C "later" "Walk.later" (mtop 14 1)/\MethAt K C "tell" "Walk.tell" (mtop 14 2)/\MethAt K C "take" "Walk.take" (mtop 14 3)/\MethAt K C "run" "Walk.run" (mtop 14 4)
theorem walk_mk {K:PySem.W.Frag}{C:Addr} (a:PySem.W.nsIn K mainGlobals "Walk"=some (some (.ref C))) (c1:PySem.W.plainGet K C Str.empty=true) (c2:PySem.W.hasDictIn K C=true) (c3:PySem.W.plainOver K C=true) (c4:PySem.W.findIn K (.ref C) "__setattr__"=some (some (.builtin "object.__setattr__")))
  (n1:PySem.W.findIn K (.ref C) "waiting"=some none) (n2:PySem.W.findIn K (.ref C) "found"=some none) (mk:PySem.W.makesIn K C=true) (kp:PySem.W.keepIn K (.ref C)=true)
  (m1:MethAt K C "__init__" "Walk.__init__" (mtop 14 0)) (m2:MethAt K C "later" "Walk.later" (mtop 14 1)) (m3:MethAt K C "tell" "Walk.tell" (mtop 14 2)) (m4:MethAt K C "take" "Walk.take" (mtop 14 3)) (m5:MethAt K C "run" "Walk.run" (mtop 14 4)):WalkAt K:=
 ⟨C,a,⟨c1,c2,c3,c4⟩,⟨n1,n2⟩,mk,kp,m1,m2,m3,m4,m5⟩
/-- the words with something more than parts -/
def HaveAt (K:PySem.W.Frag):Prop:=∃ a:Addr,PySem.W.nsIn K mainGlobals "HAVE_MORE"=some (some (.ref a))/\∀ H,SqT K H a (HM.map V.str)
theorem have_mk {K:PySem.W.Frag}{a:Addr}{od:Option Addr}{its:Array Value}{n:Nat}{osl:Array (Option Value)} (h:PySem.W.nsIn K mainGlobals "HAVE_MORE"=some (some (.ref a))) (l:K.lookup a=some ⟨.type "tuple",od,.seq its n,osl⟩) (z:its.size<=sizeLine) (v:Vals (HM.map V.str) its.toList):HaveAt K:=
 ⟨a,h,fun H=>.inr ⟨_,its,n,l,rfl,rfl,z,v⟩⟩
/-- the empty bag -/
def EmptyAt (K:PySem.W.Frag):Prop:=∃ a:Addr,PySem.W.nsIn K mainGlobals "EMPTY"=some (some (.ref a))/\EmpAt K a
theorem empty_mk {K:PySem.W.Frag}{a b:Addr}{od od2:Option Addr}{its its2:Array Value}{n n2:Nat}{osl osl2:Array (Option Value)} (h:PySem.W.nsIn K mainGlobals "EMPTY"=some (some (.ref a))) (l:K.lookup a=some ⟨.type "tuple",od,.seq its n,osl⟩) (z:its.size<=sizeLine) (v:Vals [V.str "bag",.ref b] its.toList) (l2:K.lookup b=some ⟨.type "tuple",od2,.seq its2 n2,osl2⟩) (v2:its2.toList=[]):EmptyAt K:=
 ⟨a,h,b,fun H=>.inr ⟨_,its,n,l,rfl,rfl,z,v⟩,fun H=>.inr ⟨_,its2,n2,l2,rfl,rfl,by rw[<- Array.length_toList,v2];exact Nat.zero_le _,by rw[v2];exact .nil⟩⟩
/-- what a table at the top tells of a word is what the name is -/
def Two (K:PySem.W.Frag) (a:Addr) (word name:Str):Prop:=∃ f:Addr,PySem.W.nsIn K a word=some (some (.ref f))/\PySem.W.nsIn K mainGlobals name=some (some (.ref f))
theorem two_mk {K:PySem.W.Frag}{a f:Addr}{word name:Str} (x:PySem.W.nsIn K a word=some (some (.ref f))) (y:PySem.W.nsIn K mainGlobals name=some (some (.ref f))):Two K a word name:=⟨f,x,y⟩
theorem Two.of {K:PySem.W.Frag}{a f:Addr}{word name:Str} (t:Two K a word name) (y:PySem.W.nsIn K mainGlobals name=some (some (.ref f))):PySem.W.nsIn K a word=some (some (.ref f)):=by
 obtain⟨g,h1,h2⟩:=t
 rw[y]at h2
 cases h2
 exact h1
theorem isStr_eq {v:Value}{a b:Str} (h:v.isStr a=true) (k:v.isStr b=true):a=b:=by
 cases v <;> simp [Value.isStr]at h k
 exact h.symm.trans k
def g3 (e:DictEntry):Bool:=!e.refKey && (e.key.isStr "for" || (e.key.isStr "let" || e.key.isStr "when"))
theorem ns_none {K:PySem.W.Frag}{a:Addr}{es:Array DictEntry}{n:Nat} (l:K.lookup a=some ⟨.type "dict",none,.dict es n,#[]⟩) (h:es.toList.all g3=true) (z:Str) (hz:¬own z):PySem.W.nsIn K a z=some none:=by
 unfold PySem.W.nsIn
 rw[l]
 dsimp only
 rw[List.all_eq_true]at h
 have h1:es.toList.find? (·.key.isStr z)=none:=List.find?_eq_none.mpr fun e he k=>by
  have:=h e he
  unfold g3 at this
  rw[Bool.and_eq_true,Bool.or_eq_true,Bool.or_eq_true]at this
  rcases this.2 with q | q | q
  ·exact hz (.inr (.inr (.inr (.inr (.inl (isStr_eq k q))))))
  ·exact hz (.inr (.inr (.inr (.inr (.inr (.inl (isStr_eq k q)))))))
  ·exact hz (.inr (.inr (.inr (.inr (.inr (.inr (isStr_eq k q)))))))
 have h2:es.toList.any (·.refKey)=false:=List.any_eq_false.mpr fun e he k=>by
  have:=h e he
  unfold g3 at this
  rw[Bool.and_eq_true,k]at this
  exact absurd this.1 (by decide)
 rw[h1,h2]
 rfl
def GoesAt (K:PySem.W.Frag) (w:World):Prop:=∃ a:Addr,PySem.W.nsIn K mainGlobals "GOES_ON_answers"=some (some (.ref a))/\TopD K w a/\(∀ z,¬own z->PySem.W.nsIn K a z=some none)
theorem goes_mk {K:PySem.W.Frag}{w:World}{a:Addr}{es:Array DictEntry}{n:Nat} (h:PySem.W.nsIn K mainGlobals "GOES_ON_answers"=some (some (.ref a))) (l:K.lookup a=some ⟨.type "dict",none,.dict es n,#[]⟩) (k:PySem.W.KeysLit w.params es.toList) (lo:(a == sysModules)=false) (g:es.toList.all g3=true):GoesAt K w:=⟨a,h,⟨⟨es,n,l,k⟩,lo⟩,ns_none l g⟩
def FinAt (K:PySem.W.Frag) (w:World):Prop:=∃ a:Addr,PySem.W.nsIn K mainGlobals "FINISHED"=some (some (.ref a))/\TopD K w a/\Two K a "none" "none_answer"/\Two K a "one" "one_answer"/\Two K a "both" "both_answer"/\Two K a "times" "times_answer"
theorem fin_mk {K:PySem.W.Frag}{w:World}{a:Addr}{es:Array DictEntry}{n:Nat} (h:PySem.W.nsIn K mainGlobals "FINISHED"=some (some (.ref a))) (l:K.lookup a=some ⟨.type "dict",none,.dict es n,#[]⟩) (k:PySem.W.KeysLit w.params es.toList) (lo:(a == sysModules)=false)
  (t0:Two K a "none" "none_answer") (t1:Two K a "one" "one_answer") (t2:Two K a "both" "both_answer") (t3:Two K a "times" "times_answer"):FinAt K w:=⟨a,h,⟨⟨es,n,l,k⟩,lo⟩,t0,t1,t2,t3⟩
def FnS (f1 f2:Addr):Fns
 | .bg=>f1
 | .fi=>f2
def FwL (l:List (Str×Addr)) (z:Str):Addr:=(l.lookup z).getD 0
theorem Held.of {P:Program}{w:World}{K:PySem.W.Frag}{mg:Str->Option Value}{base:Heap}{j k:Nat}{f:Addr}{fd:FuncData}{ps:List Str}{sp:Sp}{x:Str}{st:Stmt} (D:Df K mg x st f fd ps) (h:j<=k) (F:FnOk P w K mg base CX0 j f fd ps sp):∃ (fd:FuncData) (ps:List Str),FnOk P w K mg base CX0 k f fd ps sp/\PySem.W.keepIn K (.ref f)=true/\Binds K fd ps []:=⟨fd,ps,F.mono h,D.kp,D.b⟩
theorem DefAt.df {K:PySem.W.Frag}{h:Heap}{mg:Str->Option Value}{x:Str}{st:Stmt} (d:DefAt K x st) (X:K.In h) (G:h.Ns mainGlobals mg) (ps:List Str) (b:∀ (kV doc pm:Value) (an:Option Addr) (cdv ct:Value) (us:List Value),us.length=ps.length->bindArgs (PySem.W.fnOf x x (defArgs st) (defBody st) (defScope st) .none kV doc pm an cdv ct) ⟨us,[]⟩=pure (ps.zip us)) :
  ∃ (f:Addr) (fd:FuncData),PySem.W.nsIn K mainGlobals x=some (some (.ref f))/\Df K mg x st f fd ps:=by
 obtain⟨f,fd,a,F⟩:=d
 exact⟨f,fd,a,F,F.binds b,PySem.W.mg_of X G a⟩
theorem all_mk {l:PySem.W.OpenLaw}{w:World}{K:PySem.W.Frag}{h:Heap}{mg:Str->Option Value}{fa:Addr}{tG tE:Tok} (X:K.In h) (G:h.Ns mainGlobals mg) (hfa:mg "law"=some (.ref fa))
  (ZbZ:DefAt K "unfolded" (top 4)) (Zb0:DefAt K "order_parts" (top 5)) (Zb1:DefAt K "order_key" (top 6)) (Zb2:DefAt K "bag_of" (top 7)) (Zb3:DefAt K "added" (top 8)) (Zb4:DefAt K "times" (top 9)) (Zb5:DefAt K "under" (top 12)) (Zb6:DefAt K "answer" (top 18)) (Zb7:DefAt K "begin" (top 19)) (Zb8:DefAt K "finish" (top 25)) (Zb9:DefAt K "none_answer" (top 30)) (Zca:DefAt K "one_answer" (top 31)) (Zcb:DefAt K "both_answer" (top 32)) (Zcc:DefAt K "times_answer" (top 33)) (Zcd:DefAt K "_law_decks" (top 41)) (Zce:DefAt K "_law_draw" (top 42)) (Zcf:DefAt K "_law_kind" (top 43)) (Zcg:DefAt K "_law_key" (top 45)) (Zch:DefAt K "_law_sorted" (top 46)) (Zci:DefAt K "_law_number" (top 47)) (Zcj:DefAt K "_law_value" (top 48)) (Zck:DefAt K "_law_plain" (top 50)) (Zcl:DefAt K "_law_put" (top 51)) (Zcm:DefAt K "_law_many" (top 52)) (Zcn:DefAt K "law" (top 53)) (hW:WalkAt K) (hH:HaveAt K) (hE:EmptyAt K) (hG:GoesAt K w) (hF:FinAt K w)
  (rk:RanksAt K w) (go:PySem.W.nsIn K mainGlobals "GOES_ON_values"=some (some (.int 1 tG))) (en:PySem.W.nsIn K mainGlobals "ENDS"=some (some (.int 0 tE)))
  (z1:PySem.W.nsIn K mainGlobals "len"=some none) (z2:PySem.W.nsIn K mainGlobals "int"=some none) (z3:PySem.W.nsIn K mainGlobals "tuple"=some none) (z4:PySem.W.nsIn K mainGlobals "range"=some none) (z5:PySem.W.nsIn K mainGlobals "sorted"=some none) (z6:PySem.W.nsIn K mainGlobals "zip"=some none) (z7:PySem.W.nsIn K mainGlobals "dict"=some none) (z8:PySem.W.nsIn K mainGlobals "reversed"=some none) (z9:PySem.W.nsIn K mainGlobals "isinstance"=some none) (z10:PySem.W.nsIn K mainGlobals "bool"=some none) :
  ∃ fd:FuncData,(∀ (s:Shared) (v:Value),BindsTo s fd ⟨[v],[]⟩ [("script",v)])/\∀ base:Heap,K.In base->base.Ns mainGlobals mg->FnOk l.prog w K mg base CX0 58 fa fd ["script"] (spLaw K):=by
 have T:Tx mg:=⟨PySem.W.mg_none_of X G z1,PySem.W.mg_none_of X G z2,PySem.W.mg_none_of X G z3,PySem.W.mg_none_of X G z4,PySem.W.mg_none_of X G z5,PySem.W.mg_none_of X G z6,PySem.W.mg_none_of X G z7,PySem.W.mg_none_of X G z8,PySem.W.mg_none_of X G z9⟩
 obtain⟨Zcy,Zcz,ZcA,Zar⟩:=ZbZ.df X G ["whole","parts_of"] fun _ _ _ _ _ _ us hl=>by obtain⟨_,_,rfl⟩:=len_2 hl;rfl
 obtain⟨ZcB,ZcC,ZcD,ZaH⟩:=Zb0.df X G ["value"] fun _ _ _ _ _ _ us hl=>by obtain⟨_,rfl⟩:=len_1 hl;rfl
 obtain⟨ZcE,ZcF,ZcG,Zat⟩:=Zb1.df X G ["value"] fun _ _ _ _ _ _ us hl=>by obtain⟨_,rfl⟩:=len_1 hl;rfl
 obtain⟨ZcH,ZcI,ZcJ,Zav⟩:=Zb2.df X G ["pairs"] fun _ _ _ _ _ _ us hl=>by obtain⟨_,rfl⟩:=len_1 hl;rfl
 obtain⟨Za0,Za2,ZcK,Zaw⟩:=Zb3.df X G ["one","other"] fun _ _ _ _ _ _ us hl=>by obtain⟨_,_,rfl⟩:=len_2 hl;rfl
 obtain⟨ZaZ,Za1,ZcL,Zau⟩:=Zb4.df X G ["bag","k"] fun _ _ _ _ _ _ us hl=>by obtain⟨_,_,rfl⟩:=len_2 hl;rfl
 obtain⟨ZaW,ZaX,ZcM,Zam⟩:=Zb5.df X G ["question"] fun _ _ _ _ _ _ us hl=>by obtain⟨_,rfl⟩:=len_1 hl;rfl
 obtain⟨Za5,Za6,ZcN,ZaE⟩:=Zb6.df X G ["question","values","store"] fun _ _ _ _ _ _ us hl=>by obtain⟨_,_,_,rfl⟩:=len_3 hl;rfl
 obtain⟨Zax,Zbd,ZcO,Zao⟩:=Zb7.df X G ["walk","question","around"] fun _ _ _ _ _ _ us hl=>by obtain⟨_,_,_,rfl⟩:=len_3 hl;rfl
 obtain⟨ZaL,Zba,ZcP,ZaF⟩:=Zb8.df X G ["walk","question","many"] fun _ _ _ _ _ _ us hl=>by obtain⟨_,_,_,rfl⟩:=len_3 hl;rfl
 obtain⟨Zbg,ZcQ,Zco,Zbh⟩:=Zb9.df X G ["question","below"] fun _ _ _ _ _ _ us hl=>by obtain⟨_,_,rfl⟩:=len_2 hl;rfl
 obtain⟨Zbi,ZcR,Zcp,Zbj⟩:=Zca.df X G ["question","below"] fun _ _ _ _ _ _ us hl=>by obtain⟨_,_,rfl⟩:=len_2 hl;rfl
 obtain⟨Zbk,ZcS,Zcq,Zbl⟩:=Zcb.df X G ["question","below"] fun _ _ _ _ _ _ us hl=>by obtain⟨_,_,rfl⟩:=len_2 hl;rfl
 obtain⟨Zbm,ZcT,Zcr,Zbn⟩:=Zcc.df X G ["question","below"] fun _ _ _ _ _ _ us hl=>by obtain⟨_,_,rfl⟩:=len_2 hl;rfl
 obtain⟨ZcU,ZcV,ZcW,ZaB⟩:=Zcd.df X G ["script","budget"] fun _ _ _ _ _ _ us hl=>by obtain⟨_,_,rfl⟩:=len_2 hl;rfl
 obtain⟨ZcX,ZcY,ZcZ,Zaa⟩:=Zce.df X G ["decks","limit"] fun _ _ _ _ _ _ us hl=>by obtain⟨_,_,rfl⟩:=len_2 hl;rfl
 obtain⟨Zc0,Zc1,Zc2,ZaC⟩:=Zcf.df X G ["k"] fun _ _ _ _ _ _ us hl=>by obtain⟨_,rfl⟩:=len_1 hl;rfl
 obtain⟨Zc3,Zc4,Zc5,Zaj⟩:=Zcg.df X G ["value"] fun _ _ _ _ _ _ us hl=>by obtain⟨_,rfl⟩:=len_1 hl;rfl
 obtain⟨Zc6,Zc7,Zc8,Zag⟩:=Zch.df X G ["counts"] fun _ _ _ _ _ _ us hl=>by obtain⟨_,rfl⟩:=len_1 hl;rfl
 obtain⟨Zc9,Zda,Zdb,Zac⟩:=Zci.df X G ["decks"] fun _ _ _ _ _ _ us hl=>by obtain⟨_,rfl⟩:=len_1 hl;rfl
 obtain⟨Zdc,Zdd,Zde,Zaf⟩:=Zcj.df X G ["decks","kind"] fun _ _ _ _ _ _ us hl=>by obtain⟨_,_,rfl⟩:=len_2 hl;rfl
 obtain⟨Zdf,Zdg,Zdh,Zae⟩:=Zck.df X G ["decks","names","deep"] fun _ _ _ _ _ _ us hl=>by obtain⟨_,_,_,rfl⟩:=len_3 hl;rfl
 obtain⟨Zdi,Zdj,Zdk,Zah⟩:=Zcl.df X G ["counts","question","factor","values","store"] fun _ _ _ _ _ _ us hl=>by obtain⟨_,_,_,_,_,rfl⟩:=len_5 hl;rfl
 obtain⟨Zdl,Zdm,Zdn,ZaD⟩:=Zcm.df X G ["decks"] fun _ _ _ _ _ _ us hl=>by obtain⟨_,rfl⟩:=len_1 hl;rfl
 obtain⟨aR,es,n,t0,t1,t2,t3,aRk,lRk,kRk,r0,r1,r2,r3⟩:=rk
 obtain⟨C,aC,cC,nC,mkC,kpC,⟨f_init,fd_init,F_init,M_init⟩,⟨f_later,fd_later,F_later,M_later⟩,⟨f_tell,fd_tell,F_tell,M_tell⟩,⟨f_take,fd_take,F_take,M_take⟩,⟨f_run,fd_run,F_run,M_run⟩⟩:=hW
 obtain⟨aH,a_HM,hHM⟩:=hH
 obtain⟨aE,a_E,hEm⟩:=hE
 obtain⟨aG,a_G,dG,nG⟩:=hG
 obtain⟨aF,a_F,dF,tf0,tf1,tf2,tf3⟩:=hF
 have D_init:Mf K C "__init__" "Walk.__init__" (mtop 14 0) f_init fd_init ["self"]:=⟨F_init,F_init.binds (ps:=["self"]) fun _ _ _ _ _ _ us hl=>by obtain⟨u0,rfl⟩:=len_1 hl;rfl,M_init⟩
 have D_later:Mf K C "later" "Walk.later" (mtop 14 1) f_later fd_later ["self","step","question","around"]:=⟨F_later,F_later.binds (ps:=["self","step","question","around"]) fun _ _ _ _ _ _ us hl=>by obtain⟨u0,u1,u2,u3,rfl⟩:=len_4 hl;rfl,M_later⟩
 have D_tell:Mf K C "tell" "Walk.tell" (mtop 14 2) f_tell fd_tell ["self","result"]:=⟨F_tell,F_tell.binds (ps:=["self","result"]) fun _ _ _ _ _ _ us hl=>by obtain⟨u0,u1,rfl⟩:=len_2 hl;rfl,M_tell⟩
 have D_take:Mf K C "take" "Walk.take" (mtop 14 3) f_take fd_take ["self","many"]:=⟨F_take,F_take.binds (ps:=["self","many"]) fun _ _ _ _ _ _ us hl=>by obtain⟨u0,u1,rfl⟩:=len_2 hl;rfl,M_take⟩
 have D_run:Mf K C "run" "Walk.run" (mtop 14 4) f_run fd_run ["self"]:=⟨F_run,F_run.binds (ps:=["self"]) fun _ _ _ _ _ _ us hl=>by obtain⟨u0,rfl⟩:=len_1 hl;rfl,M_run⟩
 obtain⟨Zdo,Zbo,Zcs,Za7⟩:=Zcn
 have e:=hfa.symm.trans (PySem.W.mg_of X G Zcs)
 cases e
 have Zct:Df K mg "law" (top 53) fa Zbo ["script"]:=⟨Za7,Za7.binds (ps:=["script"]) fun _ _ _ _ _ _ us hl=>by obtain⟨u0,rfl⟩:=len_1 hl;rfl,hfa⟩
 refine⟨Zbo,?_,fun base _ _=>?_⟩
 ·obtain⟨oc,od,kV,doc,pm,an,cdv,ct,osl,rfl,lk,hcd⟩:=Za7.ex
  exact fun s v=>.of_eq rfl
 have g_draw:=ok_draw (P:=l.prog) (w:=w) (base:=base) T Zaa
 have g_decks:=ok_decks (P:=l.prog) (w:=w) (base:=base) T ZaB
 have g_number:=ok_number T Zac Zaa g_draw
 have g_lkey:=key_all (P:=l.prog) (w:=w) (base:=base) T Zaj 48 (by decide)
 have g_sorted:=ok_bagL T Zag Zaj g_lkey
 have g_kind:=ok_kind (P:=l.prog) (w:=w) (base:=base) T ZaC
 have g_value:=value_all T Zaf Zaa g_draw Zac g_number Zag g_sorted 5
 have g_many:=ok_many T ZaD Zaa g_draw Zac g_number Zag g_sorted
 have g_plain:=plain_any (plain_all T Zae Zaa g_draw Zac g_number)
 have g_put:=put_all (P:=l.prog) (w:=w) (base:=base) T Zah 9
 have g_parts:=ok_parts (P:=l.prog) (w:=w) (base:=base) T ZaH (PySem.W.mg_of X G aRk) (PySem.W.mg_of X G go) (PySem.W.mg_of X G en) (ix_ranks lRk kRk r0 r1 r2 r3)
 have g_unf:=ok_unf T Zar ZaH g_parts
 have g_key:=ok_key T Zat ZaH Zar g_unf
 have g_of:=ok_bagOf T Zav Zat g_key
 have Zcu:=ok_added aE T hEm Zaw Zav g_of
 have Zcv:=ok_times (P:=l.prog) (w:=w) (base:=base) aE T hEm Zau
 have Zcw:=ok_under (P:=l.prog) (w:=w) (base:=base) T (PySem.W.mg_of X G a_HM) hHM Zam
 have g_init:=ok_init (P:=l.prog) (w:=w) (mg:=mg) (base:=base) T cC nC D_init
 have g_later:=ok_later (P:=l.prog) (w:=w) (mg:=mg) (base:=base) T cC nC D_later
 have g_tell:=ok_tell (P:=l.prog) (w:=w) (mg:=mg) (base:=base) T cC nC D_tell
 have g_take:=ok_take (P:=l.prog) (w:=w) (mg:=mg) (base:=base) T cC nC D_take
 have hC9:∀ f sp,CFi aE Fr LW (FwL [(Str.ofString "none",Zbg),(Str.ofString "one",Zbi),(Str.ofString "both",Zbk),(Str.ofString "times",Zbm)]) f sp->∃ (fd:FuncData) (ps:List Str),FnOk l.prog w K mg base CX0 6 f fd ps sp/\PySem.W.keepIn K (.ref f)=true/\Binds K fd ps []:=by
  rintro f sp ⟨z,hz,rfl,rfl⟩
  simp only[LW,List.mem_cons,List.not_mem_nil,or_false]at hz
  rcases hz with rfl | rfl | rfl | rfl
  ·exact Held.of Zbh (by decide) (ok_noneA (P:=l.prog) (w:=w) (base:=base) aE T (PySem.W.mg_of X G a_E) Zbh)
  ·exact Held.of Zbj (by decide) (ok_one (P:=l.prog) (w:=w) (base:=base) aE T Zbj)
  ·exact Held.of Zbl (by decide) (ok_bothA (P:=l.prog) (w:=w) (base:=base) aE T Zbl Zaw Zcu)
  ·exact Held.of Zbn (by decide) (ok_timesA (P:=l.prog) (w:=w) (base:=base) aE T Zbn Zau Zcv)
 have hns:∀ z∈LW,PySem.W.nsIn K aF z=some (some (.ref (FwL [(Str.ofString "none",Zbg),(Str.ofString "one",Zbi),(Str.ofString "both",Zbk),(Str.ofString "times",Zbm)] z))):=by
  intro z hz
  simp only[LW,List.mem_cons,List.not_mem_nil,or_false]at hz
  rcases hz with rfl | rfl | rfl | rfl
  ·exact tf0.of Zco
  ·exact tf1.of Zcp
  ·exact tf2.of Zcq
  ·exact tf3.of Zcr
 have hC6:∀ (E S:Ev0) f sp,CF aE (FnS Zax ZaL) Fr E S C f sp->∃ (fd:FuncData) (ps:List Str),FnOk l.prog w K mg base CX0 7 f fd ps sp/\PySem.W.keepIn K (.ref f)=true/\Binds K fd ps []:=by
  rintro E S f sp ⟨i,rfl,rfl⟩
  cases i with
  | bg=>exact Held.of Zao (by decide) (ok_begin aE (FnS Zax ZaL) Fr E S T cC dG (PySem.W.mg_of X G a_G) nG Zao ZaF Zam Zcw D_tell g_tell D_later g_later)
  | fi=>exact Held.of ZaF (by decide) (ok_finish aE (FnS Zax ZaL) Fr E S (k:=6) (by decide) T cC dF (PySem.W.mg_of X G a_F) hns (fun _ _ _ h=>fr_word h) hC9 ZaF D_tell g_tell D_take g_take)
 have g_run:=fun E S=>ok_run aE (FnS Zax ZaL) Fr E S (k:=7) (by decide) T cC nC D_run (hC6 E S)
 have Zcx:=ok_answer aE (FnS Zax ZaL) Fr (k:=8) (by decide) T cC ⟨mkC,M_init.at_,M_init.fn,kpC⟩ (PySem.W.mg_of X G aC) ZaE Zao D_init g_init D_later g_later D_run g_run
 exact ok_law ⟨T,PySem.W.mg_none_of X G z10⟩ Zct ZaB g_decks Zaa g_draw ZaC g_kind Zaf g_value ZaD g_many Zae g_plain Zah g_put Zag g_sorted ZaE (Zcx.mono (by decide))
theorem walk {l:PySem.W.OpenLaw}{q:Program}{loose:List Str}{XP:(Str->Option Value)->Heap->Prop}{YP:World->Heap->Prop}{d:DefRec}{K:Params->PySem.W.Frag} (hn:l.most=some 63) (hdf:d.params.defaults=[])
  (hY:∀ (w:World) (h:Heap),YP w h->(K w.params).In h)
  (F:∀ (w:World) (mg:Str->Option Value) (fa:Addr) (h:Heap),(K w.params).In h->h.Ns mainGlobals mg->mg d.name=some (.ref fa) ->
   ∃ fd:FuncData,(∀ (s:Shared) (u:Value),BindsTo s fd ⟨[u],[]⟩ [("script",u)])/\∀ base:Heap,(K w.params).In base->base.Ns mainGlobals mg->FnOk l.prog w (K w.params) mg base CX0 58 fa fd ["script"] (spLaw (K w.params))) :
  PySem.W.WalkO q loose XP YP l.row.toRowW d [] (fun f vs=>PySem.call f vs):=
 L2.walk_of (n:=63) (k:=58) (x:="script") (CX:=fun _=>CX0) (sp:=fun w=>spLaw (K w.params)) hn (by decide) hdf ⟨rfl,by decide,by decide⟩ hY F (fun _ _ a ns hl _ hS=>⟨a,ns,rfl,hS,hl,fun _=>rfl⟩) fun _ _ _ _ _ z=>z
end K21
open PySem PySem.W PyProof.Rows
set_option maxRecDepth 100000 in
set_option maxHeartbeats 0 in
theorem PySem.Challenge.cw_keptnest_k21_bags_added_holds : PySem.Challenge.rw_keptnest_k21_bags_added.Holds := by
 w_on
 refine PySem.W.holds_law K21.zS fun said=>?_
 refine PySem.W.holds_open (q:=K21.zV) (loose:=K21.zL) (Xt:=fun s=>PySem.W.xlAt K21.zV [] s && PySem.W.recOk (PySem.W.RowW.records (PySem.W.OpenRow.toRowW PySem.Challenge.rw_keptnest_k21_bags_added.row)) s) (XP:=PySem.W.XL K21.zV []) (Yf:=PySem.W.Hook.obs (PySem.W.kHook K21.zK K21.zA K21.zE)) (Ya:=PySem.W.Hook.val (PySem.W.kHook K21.zK K21.zA K21.zE)) (YP:=PySem.W.Hook.says (PySem.W.kHook K21.zK K21.zA K21.zE)) (N:=4180) (Hq.left_two "special-get-raises" K21.zR_false K21.zR_true) (PySem.W.Hook.of _) (PySem.W.Hook.keeps _) (fun s e=>PySem.W.xl_of s (Bool.and_eq_true_iff.mp e).1) PySem.W.XL.keeps (by rfl) (by rfl) (by rfl) (fun s e=>PySem.W.recFacts_of (Bool.and_eq_true_iff.mp e).2) (by rfl) (by first | assumption | decide +kernel) (by decide +kernel) ⟨rfl,rfl,rfl,rfl,rfl,by decide +kernel⟩ ?hw ?hc
 case hw=>w_witness2
 k_fill
 refine K21.walk (l:=PySem.Challenge.rw_keptnest_k21_bags_added) rfl rfl (fun w h Y=>PySem.W.kIn_of Y) ?F
 case F=>
  intro w mg fa h KX G hmg
  refine' K21.all_mk KX G hmg ?_ ?_ ?_ ?_ ?_ ?_ ?_ ?_ ?_ ?_ ?_ ?_ ?_ ?_ ?_ ?_ ?_ ?_ ?_ ?_ ?_ ?_ ?_ ?_ ?_ ?hW ?hH ?hE ?hG ?hF ?rk ?go ?en ?z1 ?z2 ?z3 ?z4 ?z5 ?z6 ?z7 ?z8 ?z9 ?z10
  (case go=>k_is);(case en=>k_is)
  iterate 25 (focus (refine' K21.defAt_mk ?_ ?_ ?_ ?_;any_goals k_is))
  case hW=>
   refine' K21.walk_mk ?a ?c1 ?c2 ?c3 ?c4 ?n1 ?n2 ?mk ?kp ?m1 ?m2 ?m3 ?m4 ?m5
   (case a=>k_is);(case c1=>k_is);(case c2=>k_is);(case c3=>k_is);(case c4=>k_is);(case n1=>k_is);(case n2=>k_is);(case mk=>k_is);(case kp=>k_is)
   case m1=>refine' K21.methAt_mk ?a ?l ?c ?k ?n;(case a=>k_is);(case l=>k_is);(case c=>k_is);(case k=>k_is);(case n=>k_is)
   case m2=>refine' K21.methAt_mk ?a ?l ?c ?k ?n;(case a=>k_is);(case l=>k_is);(case c=>k_is);(case k=>k_is);(case n=>k_is)
   case m3=>refine' K21.methAt_mk ?a ?l ?c ?k ?n;(case a=>k_is);(case l=>k_is);(case c=>k_is);(case k=>k_is);(case n=>k_is)
   case m4=>refine' K21.methAt_mk ?a ?l ?c ?k ?n;(case a=>k_is);(case l=>k_is);(case c=>k_is);(case k=>k_is);(case n=>k_is)
   case m5=>refine' K21.methAt_mk ?a ?l ?c ?k ?n;(case a=>k_is);(case l=>k_is);(case c=>k_is);(case k=>k_is);(case n=>k_is)
  case hH=>
   refine' K21.have_mk ?a ?l ?z ?v
   (case a=>k_is);(case l=>k_is)
   case z=>show 9<=sizeLine;decide
   case v=>exact .cons ⟨_,rfl⟩ (.cons ⟨_,rfl⟩ (.cons ⟨_,rfl⟩ (.cons ⟨_,rfl⟩ (.cons ⟨_,rfl⟩ (.cons ⟨_,rfl⟩ (.cons ⟨_,rfl⟩ (.cons ⟨_,rfl⟩ (.cons ⟨_,rfl⟩ .nil))))))))
  case hE=>
   refine' K21.empty_mk ?a ?l ?z ?v ?l2 ?v2
   (case a=>k_is);(case l=>k_is)
   case z=>show 2<=sizeLine;decide
   case v=>exact .cons ⟨_,rfl⟩ (.cons rfl .nil)
   (case l2=>k_is);(case v2=>rfl)
  case hG=>
   refine' K21.goes_mk ?a ?l ?k ?lo ?g
   (case a=>k_is);(case l=>k_is);(case k=>k_keys);(case lo=>rfl)
   case g=>with_unfolding_all rfl
  case hF=>
   refine' K21.fin_mk ?a ?l ?k ?lo ?t0 ?t1 ?t2 ?t3
   (case a=>k_is);(case l=>k_is);(case k=>k_keys);(case lo=>rfl)
   case t0=>refine' K21.two_mk ?a ?b;(case a=>k_is);(case b=>k_is)
   case t1=>refine' K21.two_mk ?a ?b;(case a=>k_is);(case b=>k_is)
   case t2=>refine' K21.two_mk ?a ?b;(case a=>k_is);(case b=>k_is)
   case t3=>refine' K21.two_mk ?a ?b;(case a=>k_is);(case b=>k_is)
  case rk=>refine' K21.ranks_mk ?a ?l ?k ?r0 ?r1 ?r2 ?r3;(case a=>k_is);(case l=>k_is);(case k=>k_keys);(case r0=>k_is);(case r1=>k_is);(case r2=>k_is);(case r3=>k_is)
  (case z1=>k_is);(case z2=>k_is);(case z3=>k_is);(case z4=>k_is);(case z5=>k_is);(case z6=>k_is);(case z7=>k_is);(case z8=>k_is);(case z9=>k_is);(case z10=>k_is)
#print axioms PySem.Challenge.cw_keptnest_k21_bags_added_holds
end
