import PyProof.Rows.All
import Wide.All
import OpenK.AllK
import Wide.FinOn
import PySem.Challenge.RW_keptnest_k09_is_of
import Lean
import PyProof.EqAt
import PyProof.EqKinds
import PyProof.TupleCall
import PyProof.DictWalks
import PyProof.DictKeyH
import PySem.Str
import PyProof.NeKinds
import KE.KRevSl
import KE.KDictSum
import PyProof.Rows.SortStr
import PyProof.IsiPairs
import PyProof.IsiHeapPairs
import PyProof.ZipIter
import KE.KSortAsk
import KE.KSortTup
import PyProof.EnumFor
import PyProof.EnumMake
import PyProof.StrWalks
import PyProof.Rows.EnumRows
import PyProof.Rows.FStr
import PyProof.Rows.SetFrom
import PyProof.CallStr
import PyProof.FitsBits
import KE.KUnpack
import KE.KTupSum
import KE.KDictOf
import KE.KNestM
import KE.KRevIter
import KE.KLam
import PyProof.AttrMissHeap
import KE.KItemsList
import KE.KPairComp
import PyProof.Draws
import PyProof.ListRange
set_option Elab.async false
set_option linter.all false
set_option maxRecDepth 100000
set_option maxHeartbeats 4000000
section
namespace Hq
open PySem PySem.W
def vS (s:PySem.Str) (n:Tok):Value:=.str s n
def vI (i:Int) (n:Tok):Value:=.int i n
def vR (a:Addr):Value:=.ref a
def vN:Value:=.none
def eN (P:Params) (k:PySem.Str) (n:Tok) (v:Value):DictEntry:=⟨PyData.keyHash P k,.str k n,v⟩
def dA (s:Stmt):Arguments:=match s with
 | .FunctionDef _ a _ _ _ _ _ _ _ _=>a
 | _=>{ posonlyargs:=[],args:=[],vararg:=none,kwonlyargs:=[],kw_defaults:=[],kwarg:=none,defaults:=[] }
def dB (s:Stmt):List Stmt:=match s with
 | .FunctionDef _ _ b _ _ _ _ _ _ _=>b
 | _=>[]
def dS (s:Stmt):Scope:=match s with
 | .FunctionDef _ _ _ _ _ _ sc _ _ _=>sc
 | _=>{ kind:=.function,names:=[],isGenerator:=false,isCoroutine:=false }
def fO (nm qual:PySem.Str) (st:Stmt) (m cd:Value):Obj:={ cls:=.type "function",data:=.func (PySem.W.fnOf nm qual (dA st) (dB st) (dS st) .none .none .none m none cd .none) }
def RunTo (p q:Program) (loose:List PySem.Str) (Xt:Shared->Bool) {α:Type} (Yf:Shared->α) (Ya:World->α) (N:Nat) (row:String) (b:Bool):Prop:=
 ∀ w:World,(fencedOpening treeTable p w N).map (fun s₀=>(topFrom treeTable p (w.withFollow row b) N s₀).map fun s=>(openSeen q loose (importedModules p.main.body) Xt true s,Yf s))=some (some (openGood q loose,Ya (w.withFollow row b)))
theorem left_two {p q:Program}{loose:List PySem.Str}{Xt:Shared->Bool} {α:Type} {Yf:Shared->α}{Ya:World->α}{N:Nat} (row:String) (h0:RunTo p q loose Xt Yf Ya N row false) (h1:RunTo p q loose Xt Yf Ya N row true):LeftO p q loose Xt Yf Ya N:=fun w=>by
 obtain⟨s₀,a,b1⟩:=Option.map_eq_some_iff.mp (h0 w)
 obtain⟨s₁,a',b2⟩:=Option.map_eq_some_iff.mp (h1 w)
 rw[a]at a'
 cases a'
 have e:=World.withFollow_self w row
 unfold openEnds
 rw[a]
 cases hb:w.params.followText row <;> rw[hb]at e
 ·rw[e]at b1;exact b1
 ·rw[e]at b2;exact b2
end Hq
end
section
set_option maxHeartbeats 0
namespace K09
open PySem Hq
def zT (i:Nat):Stmt:=PySem.Challenge.pw_keptnest_k09_is_of.main.body.getD i (.Pass ⟨0,0,0,0⟩)
def zK (P:Params):PySem.W.Frag:=(nat_lit 3,{ cls:=PySem.Value.type "dict",data:=PySem.Data.dict #[eN P "__name__" 165 (vS "law_keptnest_k09_is_of" 209),eN P "__doc__" 166 (vN),eN P "__package__" 167 (vN),eN P "__loader__" 168 (PySem.Value.builtin "__main__.__loader__#opaque"),eN P "__spec__" 169 (vN),eN P "__annotations__" 170 (vR 6),eN P "__builtins__" 171 (vR 4),eN P "__file__" 173 (vS "/claim/cut.py" 172),eN P "__cached__" 174 (vN),eN P "fields_of" 194 (vR 19),eN P "is_of" 202 (vR 26),eN P "fits" 208 (vR 31),eN P "_law_cell_at" 218 (vR 38),eN P "_law_deck" 226 (vR 45),eN P "_law_next" 236 (vR 52),eN P "_law_far" 245 (vR 59),eN P "_law_number" 253 (vR 66),eN P "_law_name" 259 (vR 71),eN P "_law_side" 270 (vR 78),eN P "_law_pair_side" 280 (vR 85),eN P "_law_bag" 286 (vR 90),eN P "_law_row_parts" 292 (vR 95),eN P "_law_count" 300 (vR 102),eN P "_law_value" 312 (vR 109),eN P "_law_kind" 318 (vR 114),eN P "_law_kind_along" 324 (vR 119),eN P "_law_even_bags" 330 (vR 124),eN P "_law_other_kind" 336 (vR 129),eN P "_law_is_of" 342 (vR 134),eN P "_law_other_part" 352 (vR 141),eN P "_law_wide" 358 (vR 146),eN P "_law_long_row" 364 (vR 151),eN P "_law_chains" 370 (vR 156),eN P "_law_far_right" 380 (vR 163),eN P "law" 396 (vR 170)] 35 }) ::
 (nat_lit 4,{ cls:=PySem.Value.type "module",data:=PySem.Data.plain,dict:=some 0 }) ::
 (nat_lit 18,{ cls:=PySem.Value.type "code",data:=PySem.Data.fields #[vS "fields_of" 189,vS "fields_of" 190,vS "/claim/cut.py" 191,vI 2 0,vI 1 0,vI 0 0,vI 0 0,vI 3 0,vR 15,PySem.Value.bool Bool.true,vI 181 0,vR 16,vN,vN,vN,vR 17,vI 192 0,vI 2 0,vS "/claim/cut.py" 193] }) ::
 (nat_lit 19,fO "fields_of" "fields_of" (zT 1) (vS "keptnest.data.kinds" 187) (vR 18)) ::
 (nat_lit 25,{ cls:=PySem.Value.type "code",data:=PySem.Data.fields #[vS "is_of" 195,vS "is_of" 196,vS "/claim/cut.py" 197,vI 4 0,vI 2 0,vI 0 0,vI 0 0,vI 3 0,vR 20,PySem.Value.bool Bool.true,vI 181 0,vR 21,vN,vR 22,vR 23,vR 24,vI 200 0,vI 4 0,vS "/claim/cut.py" 201] }) ::
 (nat_lit 26,fO "is_of" "is_of" (zT 2) (vS "keptnest.data.kinds" 187) (vR 25)) ::
 (nat_lit 30,{ cls:=PySem.Value.type "code",data:=PySem.Data.fields #[vS "fits" 203,vS "fits" 204,vS "/claim/cut.py" 205,vI 6 0,vI 3 0,vI 0 0,vI 0 0,vI 3 0,vR 27,PySem.Value.bool Bool.true,vI 181 0,vR 28,vN,vN,vN,vR 29,vI 206 0,vI 6 0,vS "/claim/cut.py" 207] }) ::
 (nat_lit 31,fO "fits" "fits" (zT 3) (vS "keptnest.data.kinds" 187) (vR 30)) ::
 (nat_lit 37,{ cls:=PySem.Value.type "code",data:=PySem.Data.fields #[vS "_law_cell_at" 211,vS "_law_cell_at" 212,vS "/claim/cut.py" 213,vI 20 0,vI 2 0,vI 0 0,vI 0 0,vI 3 0,vR 32,PySem.Value.bool Bool.true,vI 181 0,vR 33,vN,vR 34,vR 35,vR 36,vI 216 0,vI 20 0,vS "/claim/cut.py" 217] }) ::
 (nat_lit 38,fO "_law_cell_at" "_law_cell_at" (zT 5) (vS "law_keptnest_k09_is_of" 209) (vR 37)) ::
 (nat_lit 44,{ cls:=PySem.Value.type "code",data:=PySem.Data.fields #[vS "_law_deck" 219,vS "_law_deck" 220,vS "/claim/cut.py" 221,vI 24 0,vI 2 0,vI 0 0,vI 0 0,vI 3 0,vR 39,PySem.Value.bool Bool.true,vI 181 0,vR 40,vN,vR 41,vR 42,vR 43,vI 224 0,vI 24 0,vS "/claim/cut.py" 225] }) ::
 (nat_lit 45,fO "_law_deck" "_law_deck" (zT 6) (vS "law_keptnest_k09_is_of" 209) (vR 44)) ::
 (nat_lit 51,{ cls:=PySem.Value.type "code",data:=PySem.Data.fields #[vS "_law_next" 227,vS "_law_next" 228,vS "/claim/cut.py" 229,vI 26 0,vI 2 0,vI 0 0,vI 0 0,vI 3 0,vR 46,PySem.Value.bool Bool.true,vI 181 0,vR 47,vN,vR 48,vR 49,vR 50,vI 234 0,vI 26 0,vS "/claim/cut.py" 235] }) ::
 (nat_lit 52,fO "_law_next" "_law_next" (zT 7) (vS "law_keptnest_k09_is_of" 209) (vR 51)) ::
 (nat_lit 58,{ cls:=PySem.Value.type "code",data:=PySem.Data.fields #[vS "_law_far" 237,vS "_law_far" 238,vS "/claim/cut.py" 239,vI 36 0,vI 1 0,vI 0 0,vI 0 0,vI 3 0,vR 53,PySem.Value.bool Bool.true,vI 181 0,vR 54,vN,vR 55,vR 56,vR 57,vI 243 0,vI 36 0,vS "/claim/cut.py" 244] }) ::
 (nat_lit 59,fO "_law_far" "_law_far" (zT 8) (vS "law_keptnest_k09_is_of" 209) (vR 58)) ::
 (nat_lit 65,{ cls:=PySem.Value.type "code",data:=PySem.Data.fields #[vS "_law_number" 246,vS "_law_number" 247,vS "/claim/cut.py" 248,vI 41 0,vI 1 0,vI 0 0,vI 0 0,vI 3 0,vR 60,PySem.Value.bool Bool.true,vI 181 0,vR 61,vN,vR 62,vR 63,vR 64,vI 251 0,vI 41 0,vS "/claim/cut.py" 252] }) ::
 (nat_lit 66,fO "_law_number" "_law_number" (zT 9) (vS "law_keptnest_k09_is_of" 209) (vR 65)) ::
 (nat_lit 70,{ cls:=PySem.Value.type "code",data:=PySem.Data.fields #[vS "_law_name" 254,vS "_law_name" 255,vS "/claim/cut.py" 256,vI 50 0,vI 1 0,vI 0 0,vI 0 0,vI 3 0,vR 67,PySem.Value.bool Bool.true,vI 181 0,vR 68,vN,vN,vN,vR 69,vI 257 0,vI 50 0,vS "/claim/cut.py" 258] }) ::
 (nat_lit 71,fO "_law_name" "_law_name" (zT 10) (vS "law_keptnest_k09_is_of" 209) (vR 70)) ::
 (nat_lit 77,{ cls:=PySem.Value.type "code",data:=PySem.Data.fields #[vS "_law_side" 260,vS "_law_side" 261,vS "/claim/cut.py" 262,vI 59 0,vI 2 0,vI 0 0,vI 0 0,vI 3 0,vR 72,PySem.Value.bool Bool.true,vI 181 0,vR 73,vN,vR 74,vR 75,vR 76,vI 268 0,vI 59 0,vS "/claim/cut.py" 269] }) ::
 (nat_lit 78,fO "_law_side" "_law_side" (zT 11) (vS "law_keptnest_k09_is_of" 209) (vR 77)) ::
 (nat_lit 84,{ cls:=PySem.Value.type "code",data:=PySem.Data.fields #[vS "_law_pair_side" 271,vS "_law_pair_side" 272,vS "/claim/cut.py" 273,vI 71 0,vI 3 0,vI 0 0,vI 0 0,vI 3 0,vR 79,PySem.Value.bool Bool.true,vI 181 0,vR 80,vN,vR 81,vR 82,vR 83,vI 278 0,vI 71 0,vS "/claim/cut.py" 279] }) ::
 (nat_lit 85,fO "_law_pair_side" "_law_pair_side" (zT 12) (vS "law_keptnest_k09_is_of" 209) (vR 84)) ::
 (nat_lit 89,{ cls:=PySem.Value.type "code",data:=PySem.Data.fields #[vS "_law_bag" 281,vS "_law_bag" 282,vS "/claim/cut.py" 283,vI 78 0,vI 1 0,vI 0 0,vI 0 0,vI 3 0,vR 86,PySem.Value.bool Bool.true,vI 181 0,vR 87,vN,vN,vN,vR 88,vI 284 0,vI 78 0,vS "/claim/cut.py" 285] }) ::
 (nat_lit 90,fO "_law_bag" "_law_bag" (zT 13) (vS "law_keptnest_k09_is_of" 209) (vR 89)) ::
 (nat_lit 94,{ cls:=PySem.Value.type "code",data:=PySem.Data.fields #[vS "_law_row_parts" 287,vS "_law_row_parts" 288,vS "/claim/cut.py" 289,vI 89 0,vI 2 0,vI 0 0,vI 0 0,vI 3 0,vR 91,PySem.Value.bool Bool.true,vI 181 0,vR 92,vN,vN,vN,vR 93,vI 290 0,vI 89 0,vS "/claim/cut.py" 291] }) ::
 (nat_lit 95,fO "_law_row_parts" "_law_row_parts" (zT 14) (vS "law_keptnest_k09_is_of" 209) (vR 94)) ::
 (nat_lit 101,{ cls:=PySem.Value.type "code",data:=PySem.Data.fields #[vS "_law_count" 293,vS "_law_count" 294,vS "/claim/cut.py" 295,vI 94 0,vI 1 0,vI 0 0,vI 0 0,vI 3 0,vR 96,PySem.Value.bool Bool.true,vI 181 0,vR 97,vN,vR 98,vR 99,vR 100,vI 298 0,vI 94 0,vS "/claim/cut.py" 299] }) ::
 (nat_lit 102,fO "_law_count" "_law_count" (zT 15) (vS "law_keptnest_k09_is_of" 209) (vR 101)) ::
 (nat_lit 108,{ cls:=PySem.Value.type "code",data:=PySem.Data.fields #[vS "_law_value" 301,vS "_law_value" 302,vS "/claim/cut.py" 303,vI 97 0,vI 2 0,vI 0 0,vI 0 0,vI 3 0,vR 103,PySem.Value.bool Bool.true,vI 181 0,vR 104,vN,vR 105,vR 106,vR 107,vI 310 0,vI 97 0,vS "/claim/cut.py" 311] }) ::
 (nat_lit 109,fO "_law_value" "_law_value" (zT 16) (vS "law_keptnest_k09_is_of" 209) (vR 108)) ::
 (nat_lit 113,{ cls:=PySem.Value.type "code",data:=PySem.Data.fields #[vS "_law_kind" 313,vS "_law_kind" 314,vS "/claim/cut.py" 315,vI 111 0,vI 2 0,vI 0 0,vI 0 0,vI 3 0,vR 110,PySem.Value.bool Bool.true,vI 181 0,vR 111,vN,vN,vN,vR 112,vI 316 0,vI 111 0,vS "/claim/cut.py" 317] }) ::
 (nat_lit 114,fO "_law_kind" "_law_kind" (zT 17) (vS "law_keptnest_k09_is_of" 209) (vR 113)) ::
 (nat_lit 118,{ cls:=PySem.Value.type "code",data:=PySem.Data.fields #[vS "_law_kind_along" 319,vS "_law_kind_along" 320,vS "/claim/cut.py" 321,vI 122 0,vI 2 0,vI 0 0,vI 0 0,vI 3 0,vR 115,PySem.Value.bool Bool.true,vI 181 0,vR 116,vN,vN,vN,vR 117,vI 322 0,vI 122 0,vS "/claim/cut.py" 323] }) ::
 (nat_lit 119,fO "_law_kind_along" "_law_kind_along" (zT 18) (vS "law_keptnest_k09_is_of" 209) (vR 118)) ::
 (nat_lit 123,{ cls:=PySem.Value.type "code",data:=PySem.Data.fields #[vS "_law_even_bags" 325,vS "_law_even_bags" 326,vS "/claim/cut.py" 327,vI 131 0,vI 2 0,vI 0 0,vI 0 0,vI 3 0,vR 120,PySem.Value.bool Bool.true,vI 181 0,vR 121,vN,vN,vN,vR 122,vI 328 0,vI 131 0,vS "/claim/cut.py" 329] }) ::
 (nat_lit 124,fO "_law_even_bags" "_law_even_bags" (zT 19) (vS "law_keptnest_k09_is_of" 209) (vR 123)) ::
 (nat_lit 128,{ cls:=PySem.Value.type "code",data:=PySem.Data.fields #[vS "_law_other_kind" 331,vS "_law_other_kind" 332,vS "/claim/cut.py" 333,vI 140 0,vI 2 0,vI 0 0,vI 0 0,vI 3 0,vR 125,PySem.Value.bool Bool.true,vI 181 0,vR 126,vN,vN,vN,vR 127,vI 334 0,vI 140 0,vS "/claim/cut.py" 335] }) ::
 (nat_lit 129,fO "_law_other_kind" "_law_other_kind" (zT 20) (vS "law_keptnest_k09_is_of" 209) (vR 128)) ::
 (nat_lit 133,{ cls:=PySem.Value.type "code",data:=PySem.Data.fields #[vS "_law_is_of" 337,vS "_law_is_of" 338,vS "/claim/cut.py" 339,vI 154 0,vI 2 0,vI 0 0,vI 0 0,vI 3 0,vR 130,PySem.Value.bool Bool.true,vI 181 0,vR 131,vN,vN,vN,vR 132,vI 340 0,vI 154 0,vS "/claim/cut.py" 341] }) ::
 (nat_lit 134,fO "_law_is_of" "_law_is_of" (zT 21) (vS "law_keptnest_k09_is_of" 209) (vR 133)) ::
 (nat_lit 140,{ cls:=PySem.Value.type "code",data:=PySem.Data.fields #[vS "_law_other_part" 343,vS "_law_other_part" 344,vS "/claim/cut.py" 345,vI 167 0,vI 3 0,vI 0 0,vI 0 0,vI 3 0,vR 135,PySem.Value.bool Bool.true,vI 181 0,vR 136,vN,vR 137,vR 138,vR 139,vI 350 0,vI 167 0,vS "/claim/cut.py" 351] }) ::
 (nat_lit 141,fO "_law_other_part" "_law_other_part" (zT 22) (vS "law_keptnest_k09_is_of" 209) (vR 140)) ::
 (nat_lit 145,{ cls:=PySem.Value.type "code",data:=PySem.Data.fields #[vS "_law_wide" 353,vS "_law_wide" 354,vS "/claim/cut.py" 355,vI 172 0,vI 1 0,vI 0 0,vI 0 0,vI 3 0,vR 142,PySem.Value.bool Bool.true,vI 181 0,vR 143,vN,vN,vN,vR 144,vI 356 0,vI 172 0,vS "/claim/cut.py" 357] }) ::
 (nat_lit 146,fO "_law_wide" "_law_wide" (zT 23) (vS "law_keptnest_k09_is_of" 209) (vR 145)) ::
 (nat_lit 150,{ cls:=PySem.Value.type "code",data:=PySem.Data.fields #[vS "_law_long_row" 359,vS "_law_long_row" 360,vS "/claim/cut.py" 361,vI 179 0,vI 1 0,vI 0 0,vI 0 0,vI 3 0,vR 147,PySem.Value.bool Bool.true,vI 181 0,vR 148,vN,vN,vN,vR 149,vI 362 0,vI 179 0,vS "/claim/cut.py" 363] }) ::
 (nat_lit 151,fO "_law_long_row" "_law_long_row" (zT 24) (vS "law_keptnest_k09_is_of" 209) (vR 150)) ::
 (nat_lit 155,{ cls:=PySem.Value.type "code",data:=PySem.Data.fields #[vS "_law_chains" 365,vS "_law_chains" 366,vS "/claim/cut.py" 367,vI 188 0,vI 1 0,vI 0 0,vI 0 0,vI 3 0,vR 152,PySem.Value.bool Bool.true,vI 181 0,vR 153,vN,vN,vN,vR 154,vI 368 0,vI 188 0,vS "/claim/cut.py" 369] }) ::
 (nat_lit 156,fO "_law_chains" "_law_chains" (zT 25) (vS "law_keptnest_k09_is_of" 209) (vR 155)) ::
 (nat_lit 162,{ cls:=PySem.Value.type "code",data:=PySem.Data.fields #[vS "_law_far_right" 371,vS "_law_far_right" 372,vS "/claim/cut.py" 373,vI 197 0,vI 1 0,vI 0 0,vI 0 0,vI 3 0,vR 157,PySem.Value.bool Bool.true,vI 181 0,vR 158,vN,vR 159,vR 160,vR 161,vI 378 0,vI 197 0,vS "/claim/cut.py" 379] }) ::
 (nat_lit 163,fO "_law_far_right" "_law_far_right" (zT 26) (vS "law_keptnest_k09_is_of" 209) (vR 162)) ::
 (nat_lit 169,{ cls:=PySem.Value.type "code",data:=PySem.Data.fields #[vS "law" 381,vS "law" 382,vS "/claim/cut.py" 383,vI 204 0,vI 1 0,vI 0 0,vI 0 0,vI 3 0,vR 164,PySem.Value.bool Bool.true,vI 181 0,vR 165,vN,vR 166,vR 167,vR 168,vI 394 0,vI 204 0,vS "/claim/cut.py" 395] }) ::
 (nat_lit 170,fO "law" "law" (zT 27) (vS "law_keptnest_k09_is_of" 209) (vR 169))::[]
def zA:List Addr:=[3,4,18,19,25,26,30,31,37,38,44,45,51,52,58,59,65,66,70,71,77,78,84,85,89,90,94,95,101,102,108,109,113,114,118,119,123,124,128,129,133,134,140,141,145,146,150,151,155,156,162,163,169,170]
def zV:Program:={ PySem.Challenge.pw_keptnest_k09_is_of with main:={ PySem.Challenge.pw_keptnest_k09_is_of.main with body:=[1,2,3,5,6,7,8,9,10,11,12,13,14,15,16,17,18,19,20,21,22,23,24,25,26,27].filterMap fun i=>PySem.Challenge.pw_keptnest_k09_is_of.main.body[i]? } }
theorem zE:∀ P,zA=(zK P).map (·.1):=fun _=>rfl
def zTs:List Addr:=[21]
def zL:List PySem.Str:=[]
end K09
end
section
set_option maxHeartbeats 0
namespace K09
open PySem Hq
theorem zR_false:RunTo PySem.Challenge.pw_keptnest_k09_is_of zV zL (fun s=>PySem.W.xlAt zV [] s && PySem.W.recOk (PySem.W.RowW.records (PySem.W.OpenRow.toRowW PySem.Challenge.rw_keptnest_k09_is_of.row)) s) (PySem.W.Hook.obs (PySem.W.kmHook zK zA zE zTs)) (PySem.W.Hook.val (PySem.W.kmHook zK zA zE zTs)) 1700 "special-get-raises" false:=by
 intro w
 kernel_rfl
theorem zR_true:RunTo PySem.Challenge.pw_keptnest_k09_is_of zV zL (fun s=>PySem.W.xlAt zV [] s && PySem.W.recOk (PySem.W.RowW.records (PySem.W.OpenRow.toRowW PySem.Challenge.rw_keptnest_k09_is_of.row)) s) (PySem.W.Hook.obs (PySem.W.kmHook zK zA zE zTs)) (PySem.W.Hook.val (PySem.W.kmHook zK zA zE zTs)) 1700 "special-get-raises" true:=by
 intro w
 kernel_rfl
theorem zS:PySem.Challenge.rw_keptnest_k09_is_of.wellSaid=true:=by kernel_rfl
end K09
end
section
-- CHANGE: your row's module here,as the last of these rows
namespace L2
open PySem PySem.Spec PyProof.Rows
abbrev Key:=Sum Int Str
def keyIs:Key->Value->Bool
 | .inl k,v=>Value.isInt k v
 | .inr x,v=>Value.isStrOf x v
def keyH (w:World):Key->Int
 | .inl k=>hashInt k
 | .inr x=>hashStr w x
theorem keyIs_shape:∀ {k:Key}{v:Value},keyIs k v=true->(∃ i t,k=Sum.inl i/\v=Value.int i t)\/(∃ x t,k=Sum.inr x/\v=Value.str x t)
 | .inl i,v,h=>by
  obtain⟨t,e⟩:=Value.isInt_shape (k:=i) (v:=v) h
  exact .inl ⟨i,t,rfl,e⟩
 | .inr x,v,h=>by
  obtain⟨t,e⟩:=Value.isStrOf_shape (x:=x) (v:=v) h
  exact .inr ⟨x,t,rfl,e⟩
theorem keyIs_int (i:Int) (t:Tok):keyIs (.inl i) (.int i t)=true:=by simp [keyIs,Value.isInt]
theorem keyIs_str (x:Str) (t:Tok):keyIs (.inr x) (.str x t)=true:=by simp [keyIs,Value.isStrOf]
theorem key_ll (a b:Int):decide ((Sum.inl a:Key)=Sum.inl b)=(a == b):=by
 by_cases e:a=b
 ·subst e;simp
 ·have h:¬(Sum.inl a:Key)=Sum.inl b:=fun q=>e (Sum.inl.inj q)
  rw[decide_eq_false h]
  exact (beq_eq_false_iff_ne.mpr e).symm
theorem key_rr (a b:Str):decide ((Sum.inr a:Key)=Sum.inr b)=decide (a=b):=by
 by_cases e:a=b
 ·subst e;simp
 ·have h:¬(Sum.inr a:Key)=Sum.inr b:=fun q=>e (Sum.inr.inj q)
  rw[decide_eq_false h,decide_eq_false e]
theorem key_lr (a:Int) (b:Str):decide ((Sum.inl a:Key)=Sum.inr b)=false:=decide_eq_false (fun q=>nomatch q)
theorem key_rl (a:Str) (b:Int):decide ((Sum.inr a:Key)=Sum.inl b)=false:=decide_eq_false (fun q=>nomatch q)
def mixKind (prog:Program) (w:World):PySem.KeyKind prog w Key where
 is:=keyIs
 hash:=keyH w
 inj:=fun v a b ha hb=>by
  rcases keyIs_shape ha with ⟨i,t,rfl,rfl⟩ | ⟨x,t,rfl,rfl⟩
  ·rcases keyIs_shape hb with ⟨j,u,rfl,e⟩ | ⟨y,u,rfl,e⟩
   ·injection e with e1 _;rw[e1]
   ·exact nomatch e
  ·rcases keyIs_shape hb with ⟨j,u,rfl,e⟩ | ⟨y,u,rfl,e⟩
   ·exact nomatch e
   ·injection e with e1 _;rw[e1]
 byValue:=fun k v h=>by
  rcases keyIs_shape h with ⟨i,t,rfl,rfl⟩ | ⟨x,t,rfl,rfl⟩ <;> rfl
 pyHash:=fun hv h=>by
  rcases keyIs_shape hv with ⟨i,t,rfl,rfl⟩ | ⟨x,t,rfl,rfl⟩
  ·exact wpAny_pyHash_int h
  ·exact wpAny_pyHash_str h
 eqBool:=fun hu hv h=>by
  rcases keyIs_shape hu with ⟨i,t,rfl,rfl⟩ | ⟨x,t,rfl,rfl⟩
  ·rcases keyIs_shape hv with ⟨j,u,rfl,rfl⟩ | ⟨y,u,rfl,rfl⟩
   ·rw[key_ll]at h;exact wpAny_eqBool_int h
   ·rw[key_lr]at h;exact SeqAt.EqAt.int_str i t y u _ _ _ _ h
  ·rcases keyIs_shape hv with ⟨j,u,rfl,rfl⟩ | ⟨y,u,rfl,rfl⟩
   ·rw[key_rl]at h;exact SeqAt.EqAt.str_int x t j u _ _ _ _ h
   ·rw[key_rr]at h;exact wpAny_eqBool_str h
 «strs»:=fun k x t v h=>by
  rcases keyIs_shape h with ⟨i,u,rfl,e⟩ | ⟨y,u,rfl,e⟩
  ·exact nomatch e
  ·injection e with e1 _
   subst e1
   cases v <;> rfl
theorem mixKind_int (prog:Program) (w:World) (i:Int) (t:Tok):(mixKind prog w).is (.inl i) (.int i t)=true:=keyIs_int i t
theorem mixKind_str (prog:Program) (w:World) (x:Str) (t:Tok):(mixKind prog w).is (.inr x) (.str x t)=true:=keyIs_str x t
end L2
namespace L2
open PySem PySem.Spec PyProof.Rows
inductive V where
 | non | bl (b:Bool) | int (i:Int) | str (x:Str) | byt (b:Array UInt8) | flt (b:UInt64) | ref (a:Addr) | ty (n:String)
 deriving DecidableEq
def RelV:V->Value->Prop
 | .non,u=>u=Value.none
 | .bl b,u=>u=Value.bool b
 | .int i,u=>∃ t,u=Value.int i t
 | .str x,u=>∃ t,u=Value.str x t
 | .byt b,u=>∃ t,u=Value.bytes b t
 | .flt b,u=>∃ t,u=Value.float b t
 | .ref a,u=>u=Value.ref a
 | .ty n,u=>u=Value.type n
abbrev Vals:List V->List Value->Prop:=Paired RelV
theorem Vals.length {xs:List V}{us:List Value} (r:Vals xs us):xs.length=us.length:=Paired.length r
theorem Vals.get:∀ {xs:List V}{us:List Value}{i:Nat}{x:V},Vals xs us->xs[i]?=some x->∃ u,us[i]?=some u/\RelV x u
 | _,_,_,_,.nil,e=>by simp at e
 | _,_,0,_,.cons r _,e=>by simp at e;subst e;exact⟨_,rfl,r⟩
 | _,_,i+1,x,.cons _ t,e=>by
  obtain⟨u,h1,h2⟩:=Vals.get (i:=i) (x:=x) t (by simpa using e)
  exact⟨u,by simpa using h1,h2⟩
theorem Vals.set {x:V}{u:Value} (r:RelV x u):∀ {xs:List V}{us:List Value} (i:Nat),Vals xs us->Vals (xs.set i x) (us.set i u)
 | _,_,_,.nil=>.nil
 | _,_,0,.cons _ t=>.cons r t
 | _,_,i+1,.cons q t=>.cons q (Vals.set r i t)
theorem Vals.append {xs ys:List V}{us ws:List Value} (h:Vals xs us) (s:Vals ys ws):Vals (xs++ys) (us++ws):=by
 induction h with
 | nil=>exact s
 | cons r t ih=>exact .cons r ih
theorem Vals.take:∀ {xs:List V}{us:List Value} (n:Nat),Vals xs us->Vals (xs.take n) (us.take n)
 | _,_,0,_=>.nil
 | _,_,_+1,.nil=>.nil
 | _,_,n+1,.cons r t=>.cons r (Vals.take n t)
theorem Vals.drop:∀ {xs:List V}{us:List Value} (n:Nat),Vals xs us->Vals (xs.drop n) (us.drop n)
 | _,_,0,r=>r
 | _,_,_+1,.nil=>.nil
 | _,_,n+1,.cons _ t=>Vals.drop n t
def RelO:Option V->Option Value->Prop
 | some v,some u=>RelV v u
 | none,none=>True
 | _,_=>False
def KV {κ:Type}:List (κ×V)->List (κ×Value)->Prop:=Paired fun (p:κ×V) (q:κ×Value)=>p.1=q.1/\RelV p.2 q.2
def kV:Key->V
 | .inl i=>.int i
 | .inr x=>.str x
inductive HO where
  | lst (xs:List V)
  | tup (xs:List V)
  | dK (kvs:List (Key×V)) | dT (kvs:List (List Key×V))
  | set (S:Int->Bool) (n:Nat)
  | ins (C dx:Addr) (fs:List (Str×V))
  | own (x:Addr)
  | xd (fs:List (Str×V))
  | met (f x:Addr)
  | rng (lo hi:Int)
  | frz (o:Obj) (u:HO)
  | tbl (ps:Array Value)
  | ext (φ:Heap->Prop)
abbrev Hp:=Addr->Option HO
def upd (H:Hp) (a:Addr) (o:HO):Hp:=fun b=>if b=a then some o else H b
theorem upd_same {H:Hp}{a:Addr}{o:HO}:upd H a o a=some o:=by unfold upd;rw[if_pos rfl]
theorem upd_ne {H:Hp}{a b:Addr}{o:HO} (h:b≠a):upd H a o b=H b:=by unfold upd;rw[if_neg h]
theorem ne_of {H:Hp}{a b:Addr}{o u:HO} (h:H a=some o) (h':H b=some u) (d:o≠u):a≠b:=by
 intro e;subst e;rw[h]at h';exact d (Option.some.inj h')
theorem ne_of_none {H:Hp}{a b:Addr}{o:HO} (h:H a=some o) (h':H b=none):a≠b:=by
 intro e;subst e;rw[h]at h';cases h'
def TupD (h:Heap) (a:Addr) (n:Nat):Prop:=n<=sizeLine/\∀ o,h.get? a=some o->o.dict=none
theorem tupD_new {h:Heap}{its:Array Value}{k n:Nat} (z:n<=sizeLine):TupD (h.push { cls:=.type "tuple",data:=.seq its k }) h.objs.size n:=
 ⟨z,fun o q=>by rw[Heap.get?_push_size _ rfl]at q;cases q;rfl⟩
theorem tupD_at {h:Heap}{a:Addr}{o:Obj}{n:Nat} (z:n<=sizeLine) (e:h.get? a=some o) (d:o.dict=none):TupD h a n:=
 ⟨z,fun o' q=>by rw[e]at q;cases q;exact d⟩
section
variable (P:Program) (w:World)
def ObjOk (H:Hp) (h:Heap) (a:Addr):HO->Prop
 | .lst xs=>xs.length<=sizeLine/\∃ (its:List Value) (n:Nat),Vals xs its/\h.get? a=some { cls:=.type "list",data:=.seq its.toArray n }
 | .tup xs=>TupD h a xs.length/\∃ its:List Value,Vals xs its/\IsTup h a its.toArray
 | .dK kvs=>kvs.length<=sizeLine/\(a == sysModules)=false/\∃ vs,KV kvs vs/\h.DictOf (mixKind P w) a vs
 | .dT kvs=>kvs.length<=sizeLine/\(a == sysModules)=false/\∃ xs:List (List Key×Addr×Value),
   Paired (fun (p:List Key×V) (q:List Key×Addr×Value)=>p.1=q.1/\H q.2.1=some (.tup (p.1.map kV))/\RelV p.2 q.2.2) kvs xs /\
   ∃ o es ep,h.get? a=some o/\o.ExactDict/\o.data=.dict es ep/\es.toList=xs.map (entryOfKey (tupleKind (mixKind P w)))/\(xs.map (·.1)).Nodup
 | .set S n=>h.SetOf (intKind P w) a S n
 | .ins C dx fs=>H dx=some (.own a)/\fs.length<=1000/\dx≠a/\h.get? a=some (PySem.W.instObj C dx) /\
   ∃ mA,h.Ns1 dx mA/\(∀ f,RelO (fs.lookup f) (mA f))/\PySem.Within mA (fs.map (·.1))
 | .own _=>∃ o,h.get? a=some o
 | .xd fs=>∃ mA,h.Ns1 a mA/\∀ f,RelO (fs.lookup f) (mA f)
 | .rng lo hi=>∃ t u v,h.get? a=some { cls:=.type "range",data:=.fields #[.int lo t,.int hi u,.int 1 v] }
 | .frz o u=>h.get? a=some o/\ObjOk H h a u
 | .tbl ps=>h.get? a=some { cls:=.none,data:=.fields ps }
 | .met f x=>h.get? a=some (PySem.W.methodObj (.ref f) (.ref x))
 | .ext φ=>φ h/\(∃ o,h.get? a=some o)/\∀ h1 h2:Heap,φ h1->(∀ o,h1.get? a=some o->h2.get? a=some o)->φ h2
def HOk (H:Hp) (h:Heap):Prop:=∀ a o,H a=some o->ObjOk P w H h a o
end
section
variable {P:Program}{w:World}{H H':Hp}{h h':Heap}{a:Addr}{o:HO}
theorem ObjOk.lt (x:ObjOk P w H h a o):a<h.objs.size:=by
 cases o with
 | lst xs=>obtain⟨_,_,_,_,e⟩:=x;exact Heap.lt_size e
 | tup xs=>obtain⟨_,_,_,p⟩:=x;exact p.lt
 | dK kvs=>obtain⟨_,_,_,_,o,_,_,e,_⟩:=x;exact Heap.lt_size e
 | dT kvs=>obtain⟨_,_,_,_,o,_,_,e,_⟩:=x;exact Heap.lt_size e
 | set S n=>obtain⟨o,_,_,_,e,_⟩:=x;exact Heap.lt_size e
 | ins C dx fs=>obtain⟨_,_,_,e,_⟩:=x;exact Heap.lt_size e
 | own y=>obtain⟨_,e⟩:=x;exact Heap.lt_size e
 | xd fs=>obtain⟨_,⟨_,_,_,e,_⟩,_⟩:=x;exact Heap.lt_size e
 | rng lo hi=>obtain⟨_,_,_,e⟩:=x;exact Heap.lt_size e
 | frz ob u=>obtain⟨e,_⟩:=x;exact Heap.lt_size e
 | tbl ps=>exact Heap.lt_size (show h.get? a=some _ from x)
 | met f y=>exact Heap.lt_size (show h.get? a=some _ from x)
 | ext φ=>obtain⟨_,⟨_,e⟩,_⟩:=x;exact Heap.lt_size e
theorem Paired.mapP {α β:Type} {F G:α->β->Prop}:∀ {l₁:List α}{l₂:List β},Paired F l₁ l₂->(∀ a b,F a b->G a b)->Paired G l₁ l₂
 | _,_,.nil,_=>.nil
 | _,_,.cons r t,f=>.cons (f _ _ r) (Paired.mapP t f)
theorem ObjOk.stay (x:ObjOk P w H h a o) (k:∀ b u,(b=a\/H b=some (.own a))->h.get? b=some u->h'.get? b=some u)
  (ho:∀ b,H b=some (.own a)->H' b=some (.own a)) (ht:∀ b xs,H b=some (.tup xs)->H' b=some (.tup xs)):ObjOk P w H' h' a o:=by
 induction o with
 | lst xs=>obtain⟨z,its,n,r,e⟩:=x;exact⟨z,its,n,r,k _ _ (.inl rfl) e⟩
 | tup xs=>obtain⟨z,its,r,ob,e,c⟩:=x;exact⟨tupD_at z.1 (k _ _ (.inl rfl) e) (z.2 _ e),its,r,ob,k _ _ (.inl rfl) e,c⟩
 | dK kvs=>obtain⟨z,y,vs,r,ob,es,ep,e,c⟩:=x;exact⟨z,y,vs,r,ob,es,ep,k _ _ (.inl rfl) e,c⟩
 | dT kvs=>
  obtain⟨z,y,xs,r,ob,es,ep,e,c⟩:=x
  exact⟨z,y,xs,Paired.mapP r fun p q z=>⟨z.1,ht _ _ z.2.1,z.2.2⟩,ob,es,ep,k _ _ (.inl rfl) e,c⟩
 | set S n=>obtain⟨ob,es,ep,t,e,c⟩:=x;exact⟨ob,es,ep,t,k _ _ (.inl rfl) e,c⟩
 | ins C dx fs=>
  obtain⟨d,z,ne,e,mA,⟨od,es,ep,e2,c⟩,r⟩:=x
  exact⟨ho _ d,z,ne,k _ _ (.inl rfl) e,mA,⟨od,es,ep,k _ _ (.inr d) e2,c⟩,r⟩
 | own y=>obtain⟨ob,e⟩:=x;exact⟨ob,k _ _ (.inl rfl) e⟩
 | xd fs=>obtain⟨mA,⟨od,es,ep,e,c⟩,r⟩:=x;exact⟨mA,⟨od,es,ep,k _ _ (.inl rfl) e,c⟩,r⟩
 | rng lo hi=>obtain⟨t,u,v,e⟩:=x;exact⟨t,u,v,k _ _ (.inl rfl) e⟩
 | frz ob u ih=>obtain⟨e,q⟩:=x;exact⟨k _ _ (.inl rfl) e,ih q⟩
 | tbl ps=>
  have e:h.get? a=some { cls:=.none,data:=.fields ps }:=x
  show h'.get? a=some { cls:=.none,data:=.fields ps }
  exact k a _ (.inl rfl) e
 | met f y=>
  have e:h.get? a=some (PySem.W.methodObj (.ref f) (.ref y)):=x
  show h'.get? a=some (PySem.W.methodObj (.ref f) (.ref y))
  exact k a _ (.inl rfl) e
 | ext φ=>obtain⟨p,⟨o,e⟩,st⟩:=x;exact⟨st _ _ p fun o q=>k _ _ (.inl rfl) q,⟨o,k _ _ (.inl rfl) e⟩,st⟩
theorem HOk.lt (x:HOk P w H h) (e:H a=some o):a<h.objs.size:=(x a o e).lt
theorem HOk.fresh (x:HOk P w H h) (e:h.objs.size<=a):H a=none:=by
 cases q:H a with
 | none=>rfl
 | some u=>exact absurd (Nat.lt_of_lt_of_le (x.lt q) e) (Nat.lt_irrefl _)
theorem HOk.kept (x:HOk P w H h) (k:∀ b u,h.get? b=some u->h'.get? b=some u):HOk P w H h':=fun a o e=>
 (x a o e).stay (fun b u _ q=>k b u q) (fun _ q=>q) fun _ _ q=>q
theorem HOk.laid (x:HOk P w H h) (k:∀ b u,h.get? b=some u->h'.get? b=some u) (hp:h.objs.size<=a) (new:ObjOk P w (upd H a o) h' a o):HOk P w (upd H a o) h':=fun b u e=>by
 have hn:=x.fresh hp
 by_cases hb:b=a
 ·subst hb;rw[upd_same]at e;cases e;exact new
 ·rw[upd_ne hb]at e
  exact (x b u e).stay (fun c v _ q=>k c v q) (fun c q=>by rw[upd_ne (ne_of_none q hn)];exact q) fun c xs q=>by rw[upd_ne (ne_of_none q hn)];exact q
end
def Rd (H:Hp) (a:Addr) (u:HO):Prop:=H a=some u\/∃ o,H a=some (.frz o u)
theorem Rd.ok {P:Program}{w:World}{H:Hp}{h:Heap}{a:Addr}{u:HO} (r:Rd H a u) (x:HOk P w H h):ObjOk P w H h a u:=by
 rcases r with r | ⟨o,r⟩
 ·exact x a u r
 ·obtain⟨_,q⟩:=x a _ r
  exact q
def Mut:Option HO->Prop
 | some (.lst _)=>True
 | some (.dK _)=>True
 | some (.dT _)=>True
 | some (.set _ _)=>True
 | some (.ins _ _ _)=>True
 | some (.ext _)=>True
 | _=>False
section
variable {P:Program}{w:World}{H:Hp}{h h':Heap}{x e:Addr}{o':HO}
theorem HOk.write (ok:HOk P w H h) (mu:Mut (H x)) (he:e=x\/H e=some (.own x)) (k:∀ b u,b≠e->h.get? b=some u->h'.get? b=some u) (heo:∃ u,h'.get? e=some u)
  (new:ObjOk P w (upd H x o') h' x o'):HOk P w (upd H x o') h':=fun b u q=>by
 have nown:∀ c y,H c=some (.own y)->c≠x:=fun c y r z=>by subst z;rw[r]at mu;exact mu
 have ntup:∀ c xs,H c=some (.tup xs)->c≠x:=fun c xs r z=>by subst z;rw[r]at mu;exact mu
 by_cases hb:b=x
 ·subst hb;rw[upd_same]at q;cases q;exact new
 ·rw[upd_ne hb]at q
  by_cases hbe:b=e
  ·have q':H b=some (.own x):=by
    rcases he with z | z
    ·exact absurd (hbe.trans z) hb
    ·rw[hbe];exact z
   rw[q]at q';cases q'
   obtain⟨v,hv⟩:=heo
   exact⟨v,by rw[hbe];exact hv⟩
  ·refine (ok b u q).stay (fun c v hc r=>k c v ?_ r) (fun c r=>by rw[upd_ne (nown c b r)];exact r) fun c xs r=>by rw[upd_ne (ntup c xs r)];exact r
   rcases hc with rfl | hc
   ·exact hbe
   ·rintro rfl
    rcases he with z | z
    ·exact nown c b hc z
    ·rw[hc]at z;cases z;exact hb rfl
end
structure Un (fs ex:List Addr) (H H':Hp) (h h':Heap):Prop where
 keep:∀ b o,h.get? b=some o->H b=none->b ∉ fs->b ∉ ex->h'.get? b=some o
 slot:∀ b o,h.get? b=some o->H b=none->b∈fs->b ∉ ex->∃ sl,h'.get? b=some { o with slots:=sl }
 free:∀ b o,h.get? b=some o->H b=none->b ∉ ex->H' b=none
 there:∀ b o,h.get? b=some o->b ∉ ex->∃ o',h'.get? b=some o'
 tups:∀ b xs,H b=some (.tup xs)->H' b=some (.tup xs)
 frzs:∀ b o u,H b=some (.frz o u)->H' b=some (.frz o u)
 tbls:∀ b ps,H b=some (.tbl ps)->∃ more,H' b=some (.tbl (ps++more))
section
variable {fs fs' ex ex':List Addr}{H H1 H2:Hp}{h h1 h2 h':Heap}{a x e:Addr}{o:HO}
theorem Un.any (u:Un fs ex H H1 h h1) {b:Addr}{ob:Obj} (q:h.get? b=some ob) (n:H b=none) (hx:b ∉ ex):∃ sl,h1.get? b=some { ob with slots:=sl }:=by
 by_cases hb:b∈fs
 ·exact u.slot b ob q n hb hx
 ·exact⟨ob.slots,u.keep b ob q n hb hx⟩
theorem Un.kept (k:∀ b u,h.get? b=some u->h'.get? b=some u):Un fs ex H H h h':=
 ⟨fun b ob q _ _ _=>k b ob q,fun b ob q _ _ _=>⟨ob.slots,k b ob q⟩,fun _ _ _ n _=>n,fun b ob q _=>⟨ob,k b ob q⟩,fun _ _ q=>q,fun _ _ _ q=>q,fun _ ps q=>⟨#[],by rw[q];simp⟩⟩
theorem Un.refl:Un fs ex H H h h:=Un.kept fun _ _ q=>q
theorem Un.laid (k:∀ b u,h.get? b=some u->h'.get? b=some u) (hp:h.objs.size<=a) (hn:H a=none):Un fs ex H (upd H a o) h h' where
 keep:=fun b u q _ _ _=>k b u q
 slot:=fun b u q _ _ _=>⟨u.slots,k b u q⟩
 free:=fun b u q n _=>by rw[upd_ne (Nat.ne_of_lt (Nat.lt_of_lt_of_le (Heap.lt_size q) hp))];exact n
 there:=fun b u q _=>⟨u,k b u q⟩
 tups:=fun b xs q=>by rw[upd_ne (ne_of_none q hn)];exact q
 frzs:=fun b u xs q=>by rw[upd_ne (ne_of_none q hn)];exact q
 tbls:=fun b ps q=>⟨#[],by rw[upd_ne (ne_of_none q hn),q];simp⟩
theorem Un.write (mu:Mut (H x)) (he:e=x\/H e=some (.own x)) (k:∀ b u,b≠e->h.get? b=some u->h'.get? b=some u) (heo:∃ u,h'.get? e=some u):Un fs ex H (upd H x o) h h':=by
 have hx:∀ b,H b=none->b≠x:=fun b n z=>by subst z;rw[n]at mu;exact mu
 have hb:∀ b,H b=none->b≠e:=fun b n z=>by
  subst z
  rcases he with r | r
  ·exact hx b n r
  ·rw[n]at r;cases r
 have hm:∀ b u,H b=some u->¬Mut (some u)->b≠x:=fun b u q nm z=>by subst z;rw[q]at mu;exact nm mu
 refine⟨fun b u q n _ _=>k b u (hb b n) q,fun b u q n _ _=>⟨u.slots,k b u (hb b n) q⟩,fun b u q n _=>by rw[upd_ne (hx b n)];exact n,fun b u q _=>?_,
  fun b xs q=>by rw[upd_ne (hm b _ q fun z=>z)];exact q,fun b u xs q=>by rw[upd_ne (hm b _ q fun z=>z)];exact q,fun b ps q=>⟨#[],by rw[upd_ne (hm b _ q fun z=>z),q];simp⟩⟩
 by_cases hbe:b=e
 ·subst hbe;exact heo
 ·exact⟨u,k b u hbe q⟩
end
def trk (h:Heap) (H:Hp):List Addr:=(List.range h.objs.size).filter fun a=>(H a).isSome
def hidT (h:Heap) (H:Hp):Heap:=PySem.W.hideAll h (trk h H)
theorem hidT_size (h:Heap) (H:Hp):(hidT h H).objs.size=h.objs.size:=PySem.W.hideAll_size _ _
theorem hidT_get {h:Heap}{H:Hp}{b:Addr}{o:Obj} (e:h.get? b=some o) (n:H b=none):(hidT h H).get? b=some o:=
 PySem.W.hideAll_get _ e fun hm=>by
  have q:(H b).isSome=true:=(List.mem_filter.mp hm).2
  rw[n]at q;simp at q
theorem of_hidT {h:Heap}{H:Hp}{b:Addr}{o:Obj} (e:(hidT h H).get? b=some o):h.get? b=some o/\H b=none:=by
 have e':h.get? b=some o:=PySem.W.of_hideAll (trk h H) e
 refine⟨e',?_⟩
 cases q:H b with
 | none=>rfl
 | some x=>
  have hm:b∈trk h H:=List.mem_filter.mpr ⟨List.mem_range.mpr (Heap.lt_size e'),by simp [q]⟩
  have z:(hidT h H).get? b=none:=PySem.W.hideAll_none (trk h H) hm
  rw[z]at e;cases e
def allNews (g h:Heap) (L:Addr):List (Addr×Obj):=(List.range h.objs.size).filterMap fun a=>if a=L\/(g.get? a).isSome=true then none else (h.get? a).map fun o=>(a,o)
def rest (g h:Heap) (L d:Addr):List (Addr×Obj):=(allNews g h L).filter fun p=>decide (p.1≠d)
end L2
namespace L2
open PySem PySem.Spec PyProof.Rows
structure Mod (K:PySem.W.Frag) (mg:Str->Option Value) (base:Heap):Prop where
 kin:K.In base
 glob:base.Ns mainGlobals mg
 blt:∃ mb,base.Ns builtinsNs mb/\∀ x:Str,x≠"__name__"->mb x=bootBuiltins x
 nolimit:base.NoLimit
structure Cx where
 prog:Program
 w:World
 K:PySem.W.Frag
 mg:Str->Option Value
 base:Heap
 A:Around
 N:List Str
 s₀:Shared
 H₀:Hp
 env:Env
 outer:List Env
 stack:List Env
 ex:List Addr
 fn:Str->Bool
 calm:Bool
 pn:List (Addr×Obj)
 xe:Value->Shared->Prop
def frs (l:List Env):List Addr:=l.filterMap (·.frame)
abbrev Cx.fs (X:Cx):List Addr:=frs X.outer
def Vis (sc:Scope) (x:Str):Prop:=sc.names.lookup x=some .local\/sc.names.lookup x=some .cell\/sc.names.lookup x=some .free
def Loc (sc:Scope) (x:Str):Prop:=sc.names.lookup x=some .local\/sc.names.lookup x=some .cell
def Look (env:Env) (h:Heap) (m:Str->Option Value) (x:Str) (u:Value):Prop:=
 (env.kindOf x=some .local/\m x=some u)\/((env.kindOf x=some .cell\/env.kindOf x=some .free)/\∃ c,env.cells.lookup x=some c/\h.IsCell c (some u))
structure Cx.Ok (X:Cx):Prop where
 mod:Mod X.K X.mg X.base
 kind:X.env.scope.kind=.function
 glob:X.env.globals=mainGlobals
 blt:X.env.builtins=builtinsNs
 above:X.s₀.heap.objs.size<=X.env.locals
 inj:∀ x y c,X.env.cells.lookup x=some c->X.env.cells.lookup y=some c->x=y
 has:∀ x,(X.env.kindOf x=some .cell\/X.env.kindOf x=some .free)->∃ c,X.env.cells.lookup x=some c
 cab:∀ x c,X.fn x=true->X.env.cells.lookup x=some c->X.s₀.heap.objs.size<=c
 hd:X.calm=true->X.A.handled=none
 frames:X.A.frames=some X.stack
 stk:X.stack=X.outer\/(X.stack=X.env::X.outer/\X.env.frame=some X.env.locals)
 exf:∀ b∈X.ex,b≠X.env.locals/\∀ x c,X.env.cells.lookup x=some c->c≠b
 bs:∀ b o,X.base.get? b=some o->X.s₀.heap.get? b=some o/\X.H₀ b=none
 bsz:X.base.objs.size<=X.s₀.heap.objs.size
 noex:∀ b o,X.base.get? b=some o->b ∉ X.ex
 exfs:∀ b∈X.ex,b ∉ X.fs
 funs:X.s₀.heap.FunFrames X.base X.outer
 frf:∀ b∈X.fs,X.H₀ b=none
structure Inv (X:Cx) (pins:List (Addr×Obj)) (σ:List (Option V)) (H:Hp) (s:Shared):Prop where
 ok:X.Ok
 os:s.os=X.s₀.os
 bare:AllBare s.gens
 base:Un X.fs X.ex X.H₀ H X.s₀.heap s.heap
 loc:∃ m,s.heap.Ns X.env.locals m/\∀ (i:Nat) (x:Str) (v:V),X.N[i]?=some x->σ[i]?=some (some v)->Vis X.env.scope x->∃ u,RelV v u/\Look X.env s.heap m x u
 cell:∀ x c,X.env.cells.lookup x=some c->∃ v,s.heap.IsCell c v
 free:H X.env.locals=none
 freeC:∀ x c,X.env.cells.lookup x=some c->H c=none
 pin:∀ p∈X.pn++pins,s.heap.get? p.1=some p.2/\H p.1=none/\p.1≠X.env.locals/\p.1 ∉ X.fs/\∀ v,p.2.data≠.cell v
 hok:HOk X.prog X.w H s.heap
 len:σ.length=X.N.length
section
variable {X:Cx}{pins:List (Addr×Obj)} {σ:List (Option V)} {H H':Hp}{s:Shared}{h':Heap}
theorem Cx.Ok.nofr (ok:X.Ok) {b:Addr}{o:Obj} (e:X.base.get? b=some o):b ∉ X.fs:=fun hb=>by
 have:=(ok.funs.mem hb).1
 rw[e]at this;cases this
theorem Inv.bs (I:Inv X pins σ H s):∀ b o,X.base.get? b=some o->s.heap.get? b=some o/\H b=none:=fun b o e=>
 ⟨I.base.keep b o (I.ok.bs b o e).1 (I.ok.bs b o e).2 (I.ok.nofr e) (I.ok.noex b o e),I.base.free b o (I.ok.bs b o e).1 (I.ok.bs b o e).2 (I.ok.noex b o e)⟩
theorem Inv.bk (I:Inv X pins σ H s):∀ b o,X.base.get? b=some o->s.heap.get? b=some o:=fun b o e=>(I.bs b o e).1
theorem Inv.mod (I:Inv X pins σ H s):Mod X.K X.mg X.base:=I.ok.mod
theorem Inv.kIn (I:Inv X pins σ H s):X.K.In s.heap:=I.ok.mod.kin.keeps I.bk
theorem Inv.lt (I:Inv X pins σ H s):X.env.locals<s.heap.objs.size:=let ⟨_,hn,_⟩:=I.loc;hn.lt
theorem Inv.sz (I:Inv X pins σ H s):X.s₀.heap.objs.size<=s.heap.objs.size:=Nat.le_trans I.ok.above (Nat.le_of_lt I.lt)
theorem Inv.nofs (I:Inv X pins σ H s) {a:Addr} (h:s.heap.objs.size<=a):a ∉ X.fs:=fun hb=>by
 obtain⟨_,o,ho,_⟩:=I.ok.funs.mem hb
 exact absurd (Nat.lt_of_lt_of_le (Heap.lt_size ho) (Nat.le_trans I.sz h)) (Nat.lt_irrefl _)
theorem Inv.cne (I:Inv X pins σ H s):∀ x c,X.env.cells.lookup x=some c->c≠X.env.locals:=fun x c e z=>by
 obtain⟨v,o,ho,hd⟩:=I.cell x c e
 obtain⟨m,⟨o',es,ep,ho',hd',_⟩,_⟩:=I.loc
 rw[z,ho']at ho;cases ho;rw[hd']at hd;cases hd
theorem Inv.funs (I:Inv X pins σ H s):s.heap.FunFrames X.base X.outer:=by
 have all:∀ (l:List Env),(∀ b∈frs l,b∈X.fs)->X.s₀.heap.FunFrames X.base l->s.heap.FunFrames X.base l:=by
  intro l
  induction l with
  | nil=>intro _ _;trivial
  | cons env r ih=>
   intro hs hl
   obtain⟨hk,⟨L,o,hf,hn,ho,hd⟩,hr⟩:=hl
   have hL:L∈X.fs:=hs L (by unfold frs;rw[List.filterMap_cons,hf];exact List.mem_cons_self)
   obtain⟨sl,e⟩:=I.base.slot L o ho (I.ok.frf L hL) hL fun z=>I.ok.exfs L z hL
   exact⟨hk,⟨L,_,hf,hn,e,hd⟩,ih (fun b hb=>hs b (by unfold frs;rw[List.filterMap_cons,hf];exact List.mem_cons_of_mem _ hb)) hr⟩
 exact all X.outer (fun _ hb=>hb) I.ok.funs
theorem Inv.stack (I:Inv X pins σ H s):s.heap.FunFrames X.base X.stack:=by
 rcases I.ok.stk with e | ⟨e,hf⟩
 ·rw[e];exact I.funs
 ·rw[e]
  obtain⟨m,hn,_⟩:=I.loc
  refine .cons (by rw[I.ok.kind];decide) hf hn ?_ I.funs
  exact Heap.get?_none_of_le (Nat.le_trans I.ok.bsz I.ok.above)
theorem Inv.stkSub (I:Inv X pins σ H s):∀ b∈frs X.stack,b∈X.env.locals::X.fs:=fun b hb=>by
 rcases I.ok.stk with e | ⟨e,hf⟩
 ·rw[e]at hb;exact List.mem_cons_of_mem _ hb
 ·rw[e]at hb
  unfold frs at hb
  rw[List.filterMap_cons,hf]at hb
  exact hb
theorem Inv.stkFree (I:Inv X pins σ H s):∀ b∈frs X.stack,H b=none:=fun b hb=>by
 rcases List.mem_cons.mp (I.stkSub b hb) with e | hb
 ·rw[e];exact I.free
 ·obtain⟨_,o,ho,_⟩:=I.ok.funs.mem hb
  exact I.base.free b o ho (I.ok.frf b hb) fun z=>I.ok.exfs b z hb
theorem Inv.step {g':Array GenState}{t':Nat}{d':Drawn}{ch:List Addr} (I:Inv X pins σ H s)
  (hch:∀ b∈ch,(b∈X.ex\/X.s₀.heap.objs.size<=b)/\b≠X.env.locals/\(∀ x c,X.env.cells.lookup x=some c->c≠b)/\∀ p∈X.pn++pins,p.1≠b)
  (keep:∀ b o,b≠X.env.locals->b ∉ X.fs->b ∉ ch->s.heap.get? b=some o->H b=none->h'.get? b=some o)
  (slot:∀ b o,b≠X.env.locals->b∈X.fs->b ∉ ch->s.heap.get? b=some o->H b=none->∃ sl,h'.get? b=some { o with slots:=sl }) (free:∀ b o,b ∉ ch->s.heap.get? b=some o->H b=none->H' b=none)
  (there:∀ b o,b ∉ ch->s.heap.get? b=some o->∃ o',h'.get? b=some o')
  (tups:∀ b xs,H b=some (.tup xs)->H' b=some (.tup xs)) (frzs:∀ b o u,H b=some (.frz o u)->H' b=some (.frz o u)) (tbls:∀ b ps,H b=some (.tbl ps)->∃ more,H' b=some (.tbl (ps++more)))
  (ns:∀ m,s.heap.Ns X.env.locals m->h'.Ns X.env.locals m) (hok:HOk X.prog X.w H' h') (hg:AllBare g') :
  Inv X pins σ H' { s with heap:=h',gens:=g',drawn:=d',toks:=t' }:=by
 have neL:∀ b o,X.s₀.heap.get? b=some o->b≠X.env.locals:=fun b o e=>Nat.ne_of_lt (Nat.lt_of_lt_of_le (Heap.lt_size e) I.ok.above)
 have neC:∀ b o,X.s₀.heap.get? b=some o->b ∉ X.ex->b ∉ ch:=fun b o e hx hb=>by
  rcases (hch b hb).1 with z | z
  ·exact hx z
  ·exact absurd (Nat.lt_of_lt_of_le (Heap.lt_size e) z) (Nat.lt_irrefl _)
 have cellK:∀ x c,X.env.cells.lookup x=some c->∀ v,s.heap.IsCell c v->h'.IsCell c v:=fun x c e v ⟨o,ho,hd⟩=>by
  have nch:c ∉ ch:=fun z=>(hch c z).2.2.1 x c e rfl
  by_cases hc:c∈X.fs
  ·obtain⟨sl,q⟩:=slot c o (I.cne x c e) hc nch ho (I.freeC x c e)
   exact⟨_,q,hd⟩
  ·exact⟨o,keep c o (I.cne x c e) hc nch ho (I.freeC x c e),hd⟩
 refine⟨I.ok,I.os,hg,⟨fun b o e n hb hx=>?_,fun b o e n hb hx=>?_,fun b o e n hx=>?_,fun b o e hx=>?_,fun b xs e=>tups b xs (I.base.tups b xs e),fun b o xs e=>frzs b o xs (I.base.frzs b o xs e),fun b ps e=>?_⟩,?_,fun x c e=>?_,?_,fun x c e=>?_,fun p hp=>?_,hok,I.len⟩
 ·exact keep b o (neL b o e) hb (neC b o e hx) (I.base.keep b o e n hb hx) (I.base.free b o e n hx)
 ·obtain⟨sl,e1⟩:=I.base.slot b o e n hb hx
  obtain⟨sl',e2⟩:=slot b _ (neL b o e) hb (neC b o e hx) e1 (I.base.free b o e n hx)
  exact⟨sl',e2⟩
 ·obtain⟨o',e1⟩:=I.base.there b o e hx
  exact free b o' (neC b o e hx) e1 (I.base.free b o e n hx)
 ·obtain⟨o',e1⟩:=I.base.there b o e hx
  exact there b o' (neC b o e hx) e1
 ·obtain⟨m1,e1⟩:=I.base.tbls b ps e
  obtain⟨m2,e2⟩:=tbls b _ e1
  exact⟨m1++m2,by rw[e2,Array.append_assoc]⟩
 ·obtain⟨m,hn,hl⟩:=I.loc
  refine⟨m,ns m hn,fun i x v e1 e2 e3=>?_⟩
  obtain⟨u,r,l⟩:=hl i x v e1 e2 e3
  refine⟨u,r,?_⟩
  rcases l with l | ⟨k,c,e,z⟩
  ·exact .inl l
  ·exact .inr ⟨k,c,e,cellK x c e _ z⟩
 ·obtain⟨v,z⟩:=I.cell x c e
  exact⟨v,cellK x c e v z⟩
 ·obtain⟨m,⟨o,_,_,ho,_⟩,_⟩:=I.loc
  exact free _ o (fun z=>(hch _ z).2.1 rfl) ho I.free
 ·obtain⟨v,o,ho,hd⟩:=I.cell x c e
  exact free c o (fun z=>(hch c z).2.2.1 x c e rfl) ho (I.freeC x c e)
 ·obtain⟨e,n,ne,nf,d⟩:=I.pin p hp
  have nch:p.1 ∉ ch:=fun z=>(hch p.1 z).2.2.2 p hp rfl
  exact⟨keep p.1 p.2 ne nf nch e n,free p.1 p.2 nch e n,ne,nf,d⟩
theorem Inv.un {t':Nat} (I:Inv X pins σ H s) (u:Un X.fs [] H H' s.heap h') (hok:HOk X.prog X.w H' h'):Inv X pins σ H' { s with heap:=h',toks:=t' }:=by
 obtain⟨m,⟨o,es,ep,ho,r⟩,_⟩:=id I.loc
 obtain⟨sl,hL⟩:=u.any ho I.free (by simp)
 exact I.step (g':=s.gens) (d':=s.drawn) (ch:=[]) (fun _ z=>nomatch z) (fun b o _ hb _ e n=>u.keep b o e n hb (by simp)) (fun b o _ hb _ e n=>u.slot b o e n hb (by simp)) (fun b o _ e n=>u.free b o e n (by simp)) (fun b o _ e=>u.there b o e (by simp)) u.tups u.frzs u.tbls (fun m' hm=>by
  obtain⟨o',es',ep',ho',r'⟩:=hm
  rw[ho]at ho';cases ho'
  exact⟨_,es',ep',hL,r'⟩) hok I.bare
theorem Inv.call {g':Array GenState}{t':Nat}{d':Drawn}{ch:List Addr} (I:Inv X pins σ H s) (u:Un (frs X.stack) ch H H' s.heap h') (hok:HOk X.prog X.w H' h') (hg:AllBare g')
  (hch:∀ b∈ch,(b∈X.ex\/X.s₀.heap.objs.size<=b)/\b≠X.env.locals/\(∀ x c,X.env.cells.lookup x=some c->c≠b)/\∀ p∈X.pn++pins,p.1≠b) :
  Inv X pins σ H' { s with heap:=h',gens:=g',drawn:=d',toks:=t' }:=by
 obtain⟨m,⟨o,es,ep,ho,r⟩,_⟩:=id I.loc
 obtain⟨sl,hL⟩:=u.any ho I.free fun z=>(hch _ z).2.1 rfl
 exact I.step (ch:=ch) hch (fun b o hL hb hc e n=>u.keep b o e n (fun z=>(List.mem_cons.mp (I.stkSub b z)).elim hL hb) hc) (fun b o _ _ hc e n=>u.any e n hc) (fun b o hc e n=>u.free b o e n hc) (fun b o hc e=>u.there b o e hc) u.tups u.frzs u.tbls (fun m' hm=>by
  obtain⟨o',es',ep',ho',r'⟩:=hm
  rw[ho]at ho';cases ho'
  exact⟨_,es',ep',hL,r'⟩) hok hg
theorem Inv.turned {t':Nat}{it:Addr} (I:Inv X pins σ H s) (k:∀ b o,b≠it->s.heap.get? b=some o->h'.get? b=some o) (hn:H it=none) (hL:it≠X.env.locals)
  (h1:it∈X.ex\/X.s₀.heap.objs.size<=it) (h2:∀ x c,X.env.cells.lookup x=some c->c≠it) (h3:∀ p∈X.pn++pins,p.1≠it):Inv X pins σ H { s with heap:=h',toks:=t' }:=by
 have nit:∀ b u,H b=some u->b≠it:=fun b u e z=>by rw[z,hn]at e;cases e
 refine I.step (g':=s.gens) (d':=s.drawn) (ch:=[it]) (fun b hb=>?_) (fun b o _ _ hc e _=>k b o (fun z=>hc (by simp [z])) e) (fun b o _ _ hc e _=>⟨o.slots,k b o (fun z=>hc (by simp [z])) e⟩) (fun _ _ _ _ n=>n)
  (fun b o hc e=>⟨o,k b o (fun z=>hc (by simp [z])) e⟩) (fun _ _ e=>e) (fun _ _ _ e=>e) (fun b ps e=>⟨#[],by rw[e];simp⟩) (fun m hm=>?_) (fun b u e=>?_) I.bare
 ·have e:b=it:=by simpa using hb
  subst e
  exact⟨h1,hL,h2,h3⟩
 ·obtain⟨o,es,ep,ho,r⟩:=hm
  exact⟨o,es,ep,k _ o (Ne.symm hL) ho,r⟩
 ·refine (I.hok b u e).stay (fun c v hc q=>k c v ?_ q) (fun _ q=>q) fun _ _ q=>q
  rcases hc with z | z
  ·rw[z];exact nit b u e
  ·exact nit c _ z
theorem Inv.tok (I:Inv X pins σ H s) (t:Nat):Inv X pins σ H { s with toks:=t }:=I.un (h':=s.heap) (t':=t) Un.refl I.hok
theorem Inv.kept {t':Nat} (I:Inv X pins σ H s) (k:∀ b u,s.heap.get? b=some u->h'.get? b=some u):Inv X pins σ H { s with heap:=h',toks:=t' }:=I.un (Un.kept k) (I.hok.kept k)
theorem Inv.laid {a:Addr}{o:HO}{t':Nat} (I:Inv X pins σ H s) (k:∀ b u,s.heap.get? b=some u->h'.get? b=some u) (hp:s.heap.objs.size<=a) (new:ObjOk X.prog X.w (upd H a o) h' a o) :
  Inv X pins σ (upd H a o) { s with heap:=h',toks:=t' }:=I.un (Un.laid k hp (I.hok.fresh hp)) (I.hok.laid k hp new)
theorem Inv.write {x e:Addr}{o:HO}{t':Nat} (I:Inv X pins σ H s) (mu:Mut (H x)) (he:e=x\/H e=some (.own x)) (k:∀ b u,b≠e->s.heap.get? b=some u->h'.get? b=some u) (heo:∃ u,h'.get? e=some u)
  (new:ObjOk X.prog X.w (upd H x o) h' x o):Inv X pins σ (upd H x o) { s with heap:=h',toks:=t' }:=I.un (Un.write mu he k heo) (I.hok.write mu he k heo new)
theorem Inv.weak {σ':List (Option V)} (I:Inv X pins σ H s) (hl:σ'.length=σ.length) (w:∀ (i:Nat) v,σ'[i]?=some (some v)->σ[i]?=some (some v)):Inv X pins σ' H s:=
 ⟨I.ok,I.os,I.bare,I.base,let ⟨m,hn,hl'⟩:=I.loc;⟨m,hn,fun i x v e1 e2 e3=>hl' i x v e1 (w i v e2) e3⟩,I.cell,I.free,I.freeC,I.pin,I.hok,hl.trans I.len⟩
theorem Inv.pins_of {pins':List (Addr×Obj)} (I:Inv X pins σ H s) (h:∀ p∈pins',s.heap.get? p.1=some p.2/\H p.1=none/\p.1≠X.env.locals/\p.1 ∉ X.fs/\∀ v,p.2.data≠.cell v):Inv X pins' σ H s:=
 ⟨I.ok,I.os,I.bare,I.base,I.loc,I.cell,I.free,I.freeC,fun p hp=>(List.mem_append.mp hp).elim (fun z=>I.pin p (List.mem_append_left _ z)) (h p),I.hok,I.len⟩
theorem nodup_ix {N:List Str} (hN:N.Nodup) {i j:Nat}{x:Str} (a:N[i]?=some x) (b:N[j]?=some x):i=j:=by
 obtain⟨h1,e1⟩:=List.getElem?_eq_some_iff.mp a
 obtain⟨h2,e2⟩:=List.getElem?_eq_some_iff.mp b
 exact (List.getElem_inj hN).mp (e1.trans e2.symm)
theorem store_ok2 {M:Model}{A:Around}{E:Value->Shared->Prop}{i:Nat}{x:Str}{v:V}{u:Value}{Q:Unit->Shared->Prop} (I:Inv X pins σ H s) (hN:X.N.Nodup) (hi:X.N[i]?=some x) (hx:Loc X.env.scope x) (r:RelV v u)
  (h:∀ s',Inv X pins (σ.set i (some v)) H s'->(∃ a,Heap.SameBut a s.heap s'.heap/\(a=X.env.locals\/X.env.cells.lookup x=some a))->Q () s') (hf:X.fn x=true\/X.env.scope.names.lookup x=some .local:=by first | exact .inl rfl | exact .inr rfl | assumption):wpAny M A (storeName X.env x u) Q E s:=by
 obtain⟨m,hn,hl⟩:=id I.loc
 have hcls:(X.env.scope.kind == .class || (X.env.scope.kind == .module && X.env.locals != X.env.globals))=false:=by rw[I.ok.kind];rfl
 have hiσ:i < σ.length:=by rw[I.len];exact (List.getElem?_eq_some_iff.mp hi).1
 have cne:=I.cne
 have tracked:∀ {a:Addr}{h':Heap},(∃ o,s.heap.get? a=some o/\H a=none)->Heap.SameBut a s.heap h'->HOk X.prog X.w H h':=fun {a h'} ha hs b ob e=>by
  obtain⟨_,_,hfree⟩:=ha
  refine (I.hok b ob e).stay (fun c w' hc q=>(hs.2 c ?_).trans q) (fun _ q=>q) fun _ _ q=>q
  rintro rfl
  rcases hc with rfl | hc
  ·rw[hfree]at e;cases e
  ·rw[hfree]at hc;cases hc
 rcases hx with hk | hk
 ·refine wpAny_storeName_local hk hn (fun h' hn' hs=>?_) hcls
  obtain⟨oL,_,_,hoL,_⟩:=id hn
  refine h _ ⟨I.ok,I.os,I.bare,⟨fun b o e n hb hx=>?_,fun b o e n hb hx=>?_,I.base.free,fun b o e hx=>?_,I.base.tups,I.base.frzs,I.base.tbls⟩,⟨_,hn',fun j y v' e1 e2 e3=>?_⟩,fun y c e=>?_,I.free,I.freeC,fun p hp=>?_,tracked ⟨oL,hoL,I.free⟩ hs,by simpa using I.len⟩ ⟨_,hs,.inl rfl⟩
  ·exact (hs.2 b (Nat.ne_of_lt (Nat.lt_of_lt_of_le (Heap.lt_size e) I.ok.above))).trans (I.base.keep b o e n hb hx)
  ·obtain⟨sl,e1⟩:=I.base.slot b o e n hb hx
   exact⟨sl,(hs.2 b (Nat.ne_of_lt (Nat.lt_of_lt_of_le (Heap.lt_size e) I.ok.above))).trans e1⟩
  ·obtain⟨o',e1⟩:=I.base.there b o e hx
   exact⟨o',(hs.2 b (Nat.ne_of_lt (Nat.lt_of_lt_of_le (Heap.lt_size e) I.ok.above))).trans e1⟩
  ·by_cases hj:j=i
   ·subst hj
    rw[hi]at e1;cases e1
    rw[List.getElem?_set_self hiσ]at e2
    cases e2
    exact⟨u,r,.inl ⟨hk,by simp⟩⟩
   ·rw[List.getElem?_set_ne (Ne.symm hj)]at e2
    obtain⟨u',r',q⟩:=hl j y v' e1 e2 e3
    refine⟨u',r',?_⟩
    rcases q with ⟨k,e⟩ | ⟨k,c,e,z⟩
    ·refine .inl ⟨k,?_⟩
     have:y≠x:=fun e=>hj (nodup_ix hN e1 (e ▸ hi))
     simp [this,e]
    ·exact .inr ⟨k,c,e,z.sameBut hs (cne y c e)⟩
  ·obtain⟨w',z⟩:=I.cell y c e
   exact⟨w',z.sameBut hs (cne y c e)⟩
  ·obtain⟨e,n,ne,nf,d⟩:=I.pin p hp
   exact⟨(hs.2 p.1 ne).trans e,n,ne,nf,d⟩
 ·have hfn:X.fn x=true:=by
   rcases hf with z | z
   ·exact z
   ·rw[z]at hk;cases hk
  obtain⟨c,hc⟩:=I.ok.has x (.inl hk)
  obtain⟨w',z⟩:=I.cell x c hc
  refine wpAny_storeName_cell I.ok.kind hk hc z (fun h' hc' hs=>?_)
  obtain⟨oc,hoc,hocd⟩:=id z
  refine h { s with heap:=h' } ⟨I.ok,I.os,I.bare,⟨fun b o e n hb hx=>?_,fun b o e n hb hx=>?_,I.base.free,fun b o e hx=>?_,I.base.tups,I.base.frzs,I.base.tbls⟩,⟨m,hn.sameBut hs (Ne.symm (cne x c hc)),fun j y v' e1 e2 e3=>?_⟩,fun y c' e=>?_,I.free,I.freeC,fun p hp=>?_,tracked ⟨oc,hoc,I.freeC x c hc⟩ hs,by simpa using I.len⟩ ⟨c,hs,.inr hc⟩
  ·exact (hs.2 b (Nat.ne_of_lt (Nat.lt_of_lt_of_le (Heap.lt_size e) (I.ok.cab x c hfn hc)))).trans (I.base.keep b o e n hb hx)
  ·obtain⟨sl,e1⟩:=I.base.slot b o e n hb hx
   exact⟨sl,(hs.2 b (Nat.ne_of_lt (Nat.lt_of_lt_of_le (Heap.lt_size e) (I.ok.cab x c hfn hc)))).trans e1⟩
  ·obtain⟨o',e1⟩:=I.base.there b o e hx
   exact⟨o',(hs.2 b (Nat.ne_of_lt (Nat.lt_of_lt_of_le (Heap.lt_size e) (I.ok.cab x c hfn hc)))).trans e1⟩
  ·by_cases hj:j=i
   ·subst hj
    rw[hi]at e1;cases e1
    rw[List.getElem?_set_self hiσ]at e2
    cases e2
    exact⟨u,r,.inr ⟨.inl hk,c,hc,hc'⟩⟩
   ·rw[List.getElem?_set_ne (Ne.symm hj)]at e2
    obtain⟨u',r',q⟩:=hl j y v' e1 e2 e3
    refine⟨u',r',?_⟩
    rcases q with q | ⟨k,c',e,z'⟩
    ·exact .inl q
    ·refine .inr ⟨k,c',e,z'.sameBut hs ?_⟩
     rintro rfl
     exact hj (nodup_ix hN e1 (I.ok.inj _ _ _ e hc ▸ hi))
  ·by_cases hcc:c'=c
   ·subst hcc;exact⟨_,hc'⟩
   ·obtain⟨w2,z2⟩:=I.cell y c' e
    exact⟨w2,z2.sameBut hs hcc⟩
  ·obtain⟨e,n,ne,nf,d⟩:=I.pin p hp
   refine⟨(hs.2 p.1 ?_).trans e,n,ne,nf,d⟩
   intro q
   rw[q,hoc]at e
   have q':oc=p.2:=Option.some.inj e
   exact d w' (by rw[<- q'];exact hocd)
theorem store_ok {M:Model}{A:Around}{E:Value->Shared->Prop}{i:Nat}{x:Str}{v:V}{u:Value}{Q:Unit->Shared->Prop} (I:Inv X pins σ H s) (hN:X.N.Nodup) (hi:X.N[i]?=some x) (hx:Loc X.env.scope x) (r:RelV v u)
  (h:∀ s',Inv X pins (σ.set i (some v)) H s'->Q () s') (hf:X.fn x=true\/X.env.scope.names.lookup x=some .local:=by first | exact .inl rfl | exact .inr rfl | assumption):wpAny M A (storeName X.env x u) Q E s:=
 store_ok2 I hN hi hx r (fun s' I' _=>h s' I') hf
theorem Inv.call' {s':Shared}{ch:List Addr} (I:Inv X pins σ H s) (ho:s'.os=s.os) (u:Un (frs X.stack) ch H H' s.heap s'.heap) (hok:HOk X.prog X.w H' s'.heap) (hg:AllBare s'.gens)
  (hch:∀ b∈ch,(b∈X.ex\/X.s₀.heap.objs.size<=b)/\b≠X.env.locals/\(∀ x c,X.env.cells.lookup x=some c->c≠b)/\∀ p∈X.pn++pins,p.1≠b):Inv X pins σ H' s':=by
 obtain⟨h',g',d',t',o'⟩:=s'
 have e:o'=s.os:=ho
 subst e
 exact I.call (g':=g') (t':=t') (d':=d') u hok hg hch
end
abbrev XK:=Value->Option Addr->Hp->Prop
abbrev St:=List (Option V)
abbrev VK:=V->Hp->Prop
abbrev TE:=St->Hp->VK->Prop
abbrev TT:=St->Hp->(Bool->Hp->Prop)->Prop
abbrev TA:=St->Hp->(List V->Hp->Prop)->Prop
structure Ends where
 nx:St->Hp->Prop
 rt:VK
 bk:St->Hp->Prop:=fun _ _=>False
 ct:St->Hp->Prop:=fun _ _=>False
abbrev TS:=Ends->St->Hp->Prop
def EP (X:Cx) (pins:List (Addr×Obj)) (σ:St) (Q:VK) (u:Value) (s':Shared):Prop:=∃ v H',Inv X pins σ H' s'/\RelV v u/\Q v H'
def TP (X:Cx) (pins:List (Addr×Obj)) (σ:St) (Q:Bool->Hp->Prop) (b:Bool) (s':Shared):Prop:=∃ H',Inv X pins σ H' s'/\Q b H'
def AP (X:Cx) (pins:List (Addr×Obj)) (σ:St) (Q:List V->Hp->Prop) (us:List Value) (s':Shared):Prop:=∃ vs H',Inv X pins σ H' s'/\Vals vs us/\Q vs H'
def SP (X:Cx) (pins:List (Addr×Obj)) (D:Ends) (f:Flow) (s':Shared):Prop:=
 match f with
 | .next=>∃ σ' H',Inv X pins σ' H' s'/\D.nx σ' H'
 | .brk=>∃ σ' H',Inv X pins σ' H' s'/\D.bk σ' H'
 | .cont=>∃ σ' H',Inv X pins σ' H' s'/\D.ct σ' H'
 | .ret u=>∃ v σ' H',Inv X pins σ' H' s'/\RelV v u/\D.rt v H'
def PE (X:Cx) (e:Expr) (t:TE):Prop:=
 ∀ (pins:List (Addr×Obj)) (s:Shared) (σ:St) (H:Hp) (Q:VK),Inv X pins σ H s->t σ H Q->wpAny (model X.prog X.w) X.A (eval e X.env) (EP X pins σ Q) X.xe s
def PT (X:Cx) (e:Expr) (t:TT):Prop:=
 ∀ (pins:List (Addr×Obj)) (s:Shared) (σ:St) (H:Hp) (Q:Bool->Hp->Prop),Inv X pins σ H s->t σ H Q->wpAny (model X.prog X.w) X.A (isTrue e X.env (eval e X.env)) (TP X pins σ Q) X.xe s
def PW (X:Cx) (e:Expr) (t:TT):Prop:=
 ∀ (whole:Sem Value) (pins:List (Addr×Obj)) (s:Shared) (σ:St) (H:Hp) (Q:Bool->Hp->Prop),Inv X pins σ H s->t σ H Q->wpAny (model X.prog X.w) X.A (isTrue e X.env whole) (TP X pins σ Q) X.xe s
theorem PW.pt {X:Cx}{e:Expr}{t:TT} (h:PW X e t):PT X e t:=h _
def PA (X:Cx) (es:List Expr) (t:TA):Prop:=
 ∀ (pos:Pos) (pins:List (Addr×Obj)) (s:Shared) (σ:St) (H:Hp) (Q:List V->Hp->Prop),Inv X pins σ H s->t σ H Q->wpAny (model X.prog X.w) X.A (spliced (backTo pos (starEach es X.env))) (AP X pins σ Q) X.xe s
def PS (X:Cx) (st:Stmt) (t:TS):Prop:=
 ∀ (pins:List (Addr×Obj)) (s:Shared) (σ:St) (H:Hp) (D:Ends),Inv X pins σ H s->t D σ H->wpAny (model X.prog X.w) X.A (exec st X.env) (SP X pins D) X.xe s
def PSs (X:Cx) (st:List Stmt) (t:TS):Prop:=
 ∀ (pins:List (Addr×Obj)) (s:Shared) (σ:St) (H:Hp) (D:Ends),Inv X pins σ H s->t D σ H->wpAny (model X.prog X.w) X.A (execs st X.env) (SP X pins D) X.xe s
theorem thn {α:Type} {t:Sem α}{Q Q':α->Shared->Prop}{M:Model}{A:Around}{E:Value->Shared->Prop}{s:Shared} (h:wpAny M A t Q E s) (hQ:∀ a s,Q a s->Q' a s):wpAny M A t Q' E s:=wpAny_mono h hQ fun _ _ x=>x
end L2
namespace L2
open PySem PySem.Spec PyProof.Rows
section
variable {X:Cx}
def tVar (i:Nat):TE:=fun σ H Q=>∃ v,σ[i]?=some (some v)/\Q v H
def tC (v:V):TE:=fun _ H Q=>Q v H
theorem pe_var {i:Nat}{x:Str}{pos:Pos} (hN:X.N[i]?=some x) (hv:Vis X.env.scope x) (hd:(x == ("__debug__" : Str))=false:=by decide) (hcd:(x == ("__classdict__" : Str))=false:=by decide):PE X (.Name x pos) (tVar i):=by
 intro pins s σ H Q I h
 obtain⟨v,e,h⟩:=h
 obtain⟨m,hn,hl⟩:=I.loc
 obtain⟨u,r,l⟩:=hl i x v hN e hv
 have fin:EP X pins σ Q u s:=⟨v,H,I,r,h⟩
 rcases l with ⟨hk,hm⟩ | ⟨hk,c,hc,hcell⟩
 ·exact wpAny_Name (wpAny_loadName_local I.ok.kind hk hn hm fin) hd
 ·rcases hk with hk | hk
  ·exact wpAny_Name (wpAny_loadName_cell I.ok.kind hk hc hcell fin) hd
  ·exact wpAny_Name (wpAny_loadName_free I.ok.kind hk hc hcell fin hcd) hd
theorem pe_int {i j pos}:PE X (.Constant (.int i) j pos) (tC (.int i)):=fun _ _ _ H _ I h=>wpAny_Constant_int ⟨.int i,H,I.tok _,⟨_,rfl⟩,h⟩
theorem pe_bl {b j pos}:PE X (.Constant (.bool b) j pos) (tC (.bl b)):=fun _ _ _ H _ I h=>Constant_bool ⟨.bl b,H,I,rfl,h⟩
theorem pe_str {x j pos}:PE X (.Constant (.str x) j pos) (tC (.str x)):=fun _ _ _ H _ I h=>Calls.Constant_str ⟨.str x,H,I.tok _,⟨_,rfl⟩,h⟩
def Gl (X:Cx) (x:Str):Prop:=X.env.kindOf x=some .globalImplicit
theorem ld_glob {E:Value->Shared->Prop}{pins:List (Addr×Obj)}{s:Shared} {σ:St} {H:Hp}{x:Str}{u:Value}{pos:Pos}{Q:Value->Shared->Prop} (I:Inv X pins σ H s) (hg:Gl X x) (hm:X.mg x=some u) (h:Q u s)
  (hd:(x == ("__debug__" : Str))=false:=by decide):wpAny (model X.prog X.w) X.A (eval (.Name x pos) X.env) Q E s:=
 Calls.Name_function_global I.ok.kind hg (Calls.loadGlobal_global (by rw[I.ok.glob];exact I.mod.glob.keeps I.bk) hm h) hd
theorem ld_blt {E:Value->Shared->Prop}{pins:List (Addr×Obj)}{s:Shared} {σ:St} {H:Hp}{x:Str}{u:Value}{pos:Pos}{Q:Value->Shared->Prop} (I:Inv X pins σ H s) (hg:Gl X x) (hm:X.mg x=none) (hv:bootBuiltins x=some u) (h:Q u s)
  (hn:x≠"__name__":=by decide) (hd:(x == ("__debug__" : Str))=false:=by decide):wpAny (model X.prog X.w) X.A (eval (.Name x pos) X.env) Q E s:=by
 obtain⟨mb,h1,h2⟩:=I.mod.blt
 exact Calls.Name_function_global I.ok.kind hg (Calls.loadGlobal_builtin (by rw[I.ok.glob];exact I.mod.glob.keeps I.bk) hm (by rw[I.ok.blt];exact h1.keeps I.bk) ((h2 x hn).trans hv) h) hd
theorem pe_bltn {x:Str}{v:V}{u:Value}{pos:Pos} (hg:Gl X x) (hm:X.mg x=none) (hv:bootBuiltins x=some u) (r:RelV v u) (hn:x≠"__name__":=by decide) (hd:(x == ("__debug__" : Str))=false:=by decide):PE X (.Name x pos) (tC v):=
 fun _ _ _ H _ I h=>ld_blt I hg hm hv ⟨v,H,I,r,h⟩ hn hd
variable {a b:Expr}{ta tb:TE}{pos:Pos}
def tB (t:TE):TT:=fun σ H Q=>t σ H fun x H1=>∃ c,x=.bl c/\Q c H1
theorem pt_val {e:Expr}{t:TE} (h:PE X e t) (he:∀ whole,isTrue e X.env whole=(do let v <- whole;standAt e.pos;holding [v] (truthy v)):=by intro _;rfl):PT X e (tB t):=by
 intro pins s σ H Q I hw
 refine isTrue_plain (thn (h pins s σ H _ I hw) fun v s1 ⟨x,H1,I1,r1,q1⟩=>?_) (he _)
 obtain⟨d,rfl,q⟩:=q1
 cases r1
 exact wpAny_truthy_bool ⟨H1,I1,q⟩
variable {tA tB':TT}{rest:List Expr}
def tAnd (t u:TT):TT:=fun σ H Q=>t σ H fun c H1=>if c=true then u σ H1 Q else Q false H1
def tOr (t u:TT):TT:=fun σ H Q=>t σ H fun c H1=>if c=true then Q true H1 else u σ H1 Q
def tNot (t:TT):TT:=fun σ H Q=>t σ H fun c H1=>Q (!c) H1
theorem pw_and1 (ha:PT X a tA):PW X (.BoolOp .And [a] pos) tA:=by
 intro wh pins s σ H Q I h
 refine isTrue_and (thn (ha pins s σ H Q I h) fun c s1 e=>?_)
 cases c with
 | true=>exact isTrue_and_nil e
 | false=>exact e
theorem pw_or1 (ha:PT X a tA):PW X (.BoolOp .Or [a] pos) tA:=by
 intro wh pins s σ H Q I h
 refine isTrue_or (thn (ha pins s σ H Q I h) fun c s1 e=>?_)
 cases c with
 | false=>exact isTrue_or_nil e
 | true=>exact e
theorem pw_and (ha:PT X a tA) (hb:PW X (.BoolOp .And (b::rest) pos) tB'):PW X (.BoolOp .And (a::b::rest) pos) (tAnd tA tB'):=by
 intro wh pins s σ H Q I h
 refine isTrue_and (thn (ha pins s σ H _ I h) fun c s1 ⟨H1,I1,q1⟩=>?_)
 cases c with
 | true=>exact hb wh pins s1 σ H1 Q I1 q1
 | false=>exact⟨H1,I1,q1⟩
theorem pw_or (ha:PT X a tA) (hb:PW X (.BoolOp .Or (b::rest) pos) tB'):PW X (.BoolOp .Or (a::b::rest) pos) (tOr tA tB'):=by
 intro wh pins s σ H Q I h
 refine isTrue_or (thn (ha pins s σ H _ I h) fun c s1 ⟨H1,I1,q1⟩=>?_)
 cases c with
 | true=>exact⟨H1,I1,q1⟩
 | false=>exact hb wh pins s1 σ H1 Q I1 q1
theorem pt_not (ha:PT X a tA):PT X (.UnaryOp .Not a pos) (tNot tA):=by
 intro pins s σ H Q I h
 exact isTrue_not (ha pins s σ H (fun c H1=>Q (!c) H1) I h)
end
end L2
namespace L2
open PySem PySem.Spec PyProof.Rows
def SqL (K:PySem.W.Frag) (H:Hp) (a:Addr) (xs:List V):Prop:=
 Rd H a (.lst xs) \/
  ∃ (o:Obj) (its:Array Value) (n:Nat),K.lookup a=some o/\o.cls=.type "list"/\o.dict=none/\o.data=.seq its n/\its.size<=sizeLine/\Vals xs its.toList
def SqT (K:PySem.W.Frag) (H:Hp) (a:Addr) (xs:List V):Prop:=
 Rd H a (.tup xs) \/
  ∃ (o:Obj) (its:Array Value) (n:Nat),K.lookup a=some o/\o.cls=.type "tuple"/\o.data=.seq its n/\its.size<=sizeLine/\Vals xs its.toList
def absV:Value->Option V
 | .none=>some .non
 | .bool b=>some (.bl b)
 | .int i _=>some (.int i)
 | .str x _=>some (.str x)
 | .bytes b _=>some (.byt b)
 | .float b _=>some (.flt b)
 | .ref a=>some (.ref a)
 | .type n=>some (.ty n)
 | _=>none
theorem RelV.abs {x:V}{u:Value} (r:RelV x u):absV u=some x:=by
 cases x with
 | non=>cases r;rfl
 | bl _=>cases r;rfl
 | int _=>obtain⟨t,rfl⟩:=r;rfl
 | str _=>obtain⟨t,rfl⟩:=r;rfl
 | byt _=>obtain⟨t,rfl⟩:=r;rfl
 | flt _=>obtain⟨t,rfl⟩:=r;rfl
 | ref _=>cases r;rfl
 | ty _=>cases r;rfl
theorem RelV.inj {x y:V}{u:Value} (r:RelV x u) (q:RelV y u):x=y:=Option.some.inj (r.abs.symm.trans q.abs)
theorem Vals.inj:∀ {xs ys:List V}{us:List Value},Vals xs us->Vals ys us->xs=ys
 | _,_,_,.nil,.nil=>rfl
 | _,_,_,.cons r t,.cons r' t'=>by rw[r.inj r',Vals.inj t t']
section
variable {X:Cx}{pins:List (Addr×Obj)} {σ:St} {H:Hp}{s:Shared}{a:Addr}{xs ys:List V}
theorem SqL.of {K:PySem.W.Frag} (h:H a=some (.lst xs)):SqL K H a xs:=.inl (.inl h)
theorem SqT.of {K:PySem.W.Frag} (h:H a=some (.tup xs)):SqT K H a xs:=.inl (.inl h)
theorem Inv.list (I:Inv X pins σ H s) (h:SqL X.K H a xs):∃ its:List Value,Vals xs its/\PlainL s.heap a its.toArray/\xs.length<=sizeLine:=by
 rcases h with h | ⟨o,its,n,hk,hc,hd,hs,hz,r⟩
 ·obtain⟨z,its,n,r,e⟩:=h.ok I.hok
  exact⟨its,r,⟨_,n,e,rfl,rfl,rfl⟩,z⟩
 ·refine⟨its.toList,r,⟨o,n,I.kIn a o hk,hc,hd,by simpa using hs⟩,?_⟩
  have e:=r.length
  simp only[Array.length_toList]at e
  lia
theorem Inv.tuple (I:Inv X pins σ H s) (h:SqT X.K H a xs):∃ its:List Value,Vals xs its/\IsTup s.heap a its.toArray/\xs.length<=sizeLine:=by
 rcases h with h | ⟨o,its,n,hk,hc,hs,hz,r⟩
 ·obtain⟨z,its,r,p⟩:=h.ok I.hok
  exact⟨its,r,p,z.1⟩
 ·refine⟨its.toList,r,⟨o,I.kIn a o hk,hc,n,by simpa using hs⟩,?_⟩
  have e:=r.length
  simp only[Array.length_toList]at e
  lia
theorem Inv.list_inj (I:Inv X pins σ H s) (h:SqL X.K H a xs) (h':SqL X.K H a ys):xs=ys:=by
 obtain⟨its,r,⟨o,n,e,_,_,d⟩,_⟩:=I.list h
 obtain⟨its',r',⟨o',n',e',_,_,d'⟩,_⟩:=I.list h'
 rw[e]at e';cases e'
 rw[d]at d'
 injection d' with d1 _
 have:its=its':=by simpa using congrArg Array.toList d1
 subst this
 exact r.inj r'
theorem Inv.tuple_inj (I:Inv X pins σ H s) (h:SqT X.K H a xs) (h':SqT X.K H a ys):xs=ys:=by
 obtain⟨its,r,⟨o,e,_,n,d⟩,_⟩:=I.tuple h
 obtain⟨its',r',⟨o',e',_,n',d'⟩,_⟩:=I.tuple h'
 rw[e]at e';cases e'
 rw[d]at d'
 injection d' with d1 _
 have:its=its':=by simpa using congrArg Array.toList d1
 subst this
 exact r.inj r'
end
abbrev Cx.wish (X:Cx) (E:Value->Shared->Prop):Cx:={ X with xe:=E }
abbrev Cx.nox (X:Cx):Cx:=X.wish fun _ _=>False
theorem Cx.Ok.wish {X:Cx} (ok:X.Ok) (E:Value->Shared->Prop):(X.wish E).Ok:=
 ⟨ok.mod,ok.kind,ok.glob,ok.blt,ok.above,ok.inj,ok.has,ok.cab,ok.hd,ok.frames,ok.stk,ok.exf,ok.bs,ok.bsz,ok.noex,ok.exfs,ok.funs,ok.frf⟩
theorem Cx.Ok.unwish {X:Cx}{E:Value->Shared->Prop} (ok:(X.wish E).Ok):X.Ok:=
 ⟨ok.mod,ok.kind,ok.glob,ok.blt,ok.above,ok.inj,ok.has,ok.cab,ok.hd,ok.frames,ok.stk,ok.exf,ok.bs,ok.bsz,ok.noex,ok.exfs,ok.funs,ok.frf⟩
section
variable {X:Cx}{pins:List (Addr×Obj)} {σ:St} {H:Hp}{s:Shared}{E:Value->Shared->Prop}
theorem Inv.wish (I:Inv X pins σ H s) (E:Value->Shared->Prop):Inv (X.wish E) pins σ H s:=⟨I.ok.wish E,I.os,I.bare,I.base,I.loc,I.cell,I.free,I.freeC,I.pin,I.hok,I.len⟩
theorem Inv.unwish (I:Inv (X.wish E) pins σ H s):Inv X pins σ H s:=⟨I.ok.unwish,I.os,I.bare,I.base,I.loc,I.cell,I.free,I.freeC,I.pin,I.hok,I.len⟩
theorem SP.unwish {D:Ends}{f:Flow}{s':Shared} (h:SP (X.wish E) pins D f s'):SP X pins D f s':=by
 cases f with
 | next=>obtain⟨σ',H',I,q⟩:=h;exact⟨σ',H',I.unwish,q⟩
 | brk=>obtain⟨σ',H',I,q⟩:=h;exact⟨σ',H',I.unwish,q⟩
 | cont=>obtain⟨σ',H',I,q⟩:=h;exact⟨σ',H',I.unwish,q⟩
 | ret u=>obtain⟨v,σ',H',I,r,q⟩:=h;exact⟨v,σ',H',I.unwish,r,q⟩
theorem PE.nox {e:Expr}{t:TE} (h:PE X.nox e t):PE X e t:=fun pins s σ H Q I hw=>
 wpAny_mono (h pins s σ H Q (I.wish _) hw) (fun _ _ ⟨v,H',I',r,q⟩=>⟨v,H',I'.unwish,r,q⟩) fun _ _ z=>False.elim z
theorem PSs.nox {st:List Stmt}{t:TS} (h:PSs X.nox st t):PSs X st t:=fun pins s σ H D I hw=>
 wpAny_mono (h pins s σ H D (I.wish _) hw) (fun _ _ q=>q.unwish) fun _ _ z=>False.elim z
end
section
variable {X:Cx}{st:Stmt}{rest:List Stmt}{t u:TS}{e:Expr}{te:TE}{pos:Pos}
def tNext:TS:=fun D σ H=>D.nx σ H
def tSeq (t u:TS):TS:=fun D σ H=>t { D with nx:=u D } σ H
theorem pss_nil:PSs X [] tNext:=fun _ _ σ H _ I h=>wpAny_execs_nil ⟨σ,H,I,h⟩
theorem pss_cons (h1:PS X st t) (h2:PSs X rest u):PSs X (st::rest) (tSeq t u):=by
 intro pins s σ H D I h
 refine wpAny_execs_cons (thn (h1 pins s σ H { D with nx:=u D } I h) fun f s1 q=>?_)
 cases f with
 | next=>
  obtain⟨σ',H',I',q⟩:=q
  exact h2 pins s1 σ' H' D I' q
 | ret v=>exact q
 | brk=>exact q
 | cont=>exact q
theorem pss_one (h1:PS X st t):PSs X [st] t:=by
 intro pins s σ H D I h
 refine wpAny_execs_cons (thn (h1 pins s σ H D I h) fun f s1 q=>?_)
 cases f with
 | next=>exact wpAny_execs_nil q
 | ret v=>exact q
 | brk=>exact q
 | cont=>exact q
theorem Inv.quiet {pins:List (Addr×Obj)} {σ:St} {H:Hp}{s:Shared} (I:Inv X pins σ H s):interactive X.env=false:=by simp [interactive,I.ok.kind]
def tDrop (te:TE):TS:=fun D σ H=>te σ H fun _ H1=>D.nx σ H1
theorem ps_expr (he:PE X e te) (hs:swapsWith e none pos.line X.env=pure false:=by rfl):PS X (.Expr e pos) (tDrop te):=by
 intro pins s σ H D I h
 exact wpAny_Expr_any (thn (he pins s σ H _ I h) fun v s1 ⟨x,H1,I1,r1,q1⟩=>⟨σ,H1,I1,q1⟩) I.quiet hs
def tRet (te:TE):TS:=fun D σ H=>te σ H D.rt
theorem ps_ret (he:PE X e te):PS X (.Return (some e) pos) (tRet te):=by
 intro pins s σ H D I h
 exact wpAny_Return_some (thn (he pins s σ H _ I h) fun v s1 ⟨x,H1,I1,r1,q1⟩=>⟨x,σ,H1,I1,r1,q1⟩)
def tIfS (c:TT) (t u:TS):TS:=fun D σ H=>c σ H fun b H1=>if b=true then t D σ H1 else u D σ H1
theorem ps_if {c:Expr}{a b:List Stmt}{tc:TT} (hc:PT X c tc) (ha:PSs X a t) (hb:PSs X b u):PS X (.If c a b pos) (tIfS tc t u):=by
 intro pins s σ H D I h
 refine wpAny_If (thn (hc pins s σ H _ I h) fun d s1 ⟨H1,I1,q1⟩=>?_)
 cases d with
 | true=>exact ha pins s1 σ H1 D I1 q1
 | false=>exact hb pins s1 σ H1 D I1 q1
end
abbrev TG:=V->St->Hp->(St->Hp->Prop)->Prop
abbrev TGs:=List V->St->Hp->(St->Hp->Prop)->Prop
def PG (X:Cx) (target:Expr) (t:TG):Prop:=
 ∀ (pins:List (Addr×Obj)) (s:Shared) (σ:St) (H:Hp) (v:V) (u:Value) (Q:St->Hp->Prop),Inv X pins σ H s->RelV v u->t v σ H Q ->
  wpAny (model X.prog X.w) X.A (assign target X.env u) (fun _ s'=>∃ σ' H',Inv X pins σ' H' s'/\Q σ' H') X.xe s
def PGs (X:Cx) (ts:List Expr) (t:TGs):Prop:=
 ∀ (pins:List (Addr×Obj)) (s:Shared) (σ:St) (H:Hp) (vs:List V) (us:List Value) (Q:St->Hp->Prop),Inv X pins σ H s->Vals vs us->t vs σ H Q ->
  wpAny (model X.prog X.w) X.A (assignInOrder ((assignEach ts X.env).map (·.2)) us) (fun _ s'=>∃ σ' H',Inv X pins σ' H' s'/\Q σ' H') X.xe s
abbrev TSet:=V->V->V->Hp->(Hp->Prop)->Prop
def PSet (X:Cx) (t:TSet):Prop:=
 ∀ (pins:List (Addr×Obj)) (s:Shared) (σ:St) (H:Hp) (o i v:V) (ov iv u:Value) (Q:Hp->Prop),Inv X pins σ H s->RelV o ov->RelV i iv->RelV v u->t o i v H Q ->
  wpAny (model X.prog X.w) X.A (setItem ov iv u) (fun _ s'=>∃ H',Inv X pins σ H' s'/\Q H') X.xe s
section
variable {X:Cx}{pos:Pos}
def gName (i:Nat):TG:=fun v σ H Q=>Q (σ.set i (some v)) H
theorem pg_name {i:Nat}{x:Str} (hN:X.N.Nodup) (hi:X.N[i]?=some x) (hx:Loc X.env.scope x) (hf:X.fn x=true\/X.env.scope.names.lookup x=some .local:=by first | exact .inl rfl | exact .inr rfl | assumption):PG X (.Name x pos) (gName i):=by
 intro pins s σ H v u Q I r h
 exact wpAny_assign_Name (store_ok I hN hi hx r (fun s' I'=>⟨_,H,I',h⟩) hf)
def gNil:TGs:=fun vs σ H Q=>vs=[]/\Q σ H
def gCons (t:TG) (u:TGs):TGs:=fun vs σ H Q=>∃ v r,vs=v::r/\t v σ H fun σ' H'=>u r σ' H' Q
theorem pgs_nil:PGs X [] gNil:=by
 intro pins s σ H vs us Q I r h
 obtain⟨e,h⟩:=h
 subst e
 cases r
 exact assignInOrder_nil ⟨σ,H,I,h⟩
theorem pgs_cons {e:Expr}{es:List Expr}{t:TG}{u:TGs} (h1:PG X e t) (h2:PGs X es u)
  (hs:(assignEach (e::es) X.env).map (·.2)=assign e X.env::(assignEach es X.env).map (·.2):=by rfl):PGs X (e::es) (gCons t u):=by
 intro pins s σ H vs us Q I r h
 obtain⟨v,vr,e1,h⟩:=h
 subst e1
 cases r with
 | cons r rr=>
  rw[hs]
  refine assignInOrder_cons (thn (h1 pins s σ H _ _ _ I r h) fun _ s1 ⟨σ1,H1,I1,q1⟩=>?_)
  exact h2 pins s1 σ1 H1 _ _ Q I1 rr q1
def gTup (K:PySem.W.Frag) (n:Nat) (t:TGs):TG:=fun v σ H Q=>∃ a xs,v=.ref a/\SqT K H a xs/\xs.length=n/\t xs σ H Q
theorem pg_tup {es:List Expr}{k:Nat}{t:TGs}{n:Nat} (hc:X.calm=true) (h:PGs X es t)
  (hn:(assignEach es X.env).length=n:=by rfl) (hst:(assignEach es X.env).findIdx? (·.1)=none:=by rfl):PG X (.Tuple es k pos) (gTup X.K n t):=by
 intro pins s σ H v u Q I r hw
 obtain⟨a,xs,e1,hq,hl,hw⟩:=hw
 subst e1
 cases r
 obtain⟨its,rv,ht,hz⟩:=I.tuple hq
 refine assign_Tuple_tuple (I.ok.hd hc) ht (by simp [hn,<- hl,rv.length]) hst fun h' hx=>?_
 have I1:Inv X pins σ H { s with heap:=h' }:=I.kept (t':=s.toks) fun b o e=>hx b o (Nat.ne_of_lt (Heap.lt_size e)) e
 exact h pins _ σ H xs _ Q I1 (by simpa using rv) hw
def gSub (to ti:TE) (t:TSet):TG:=fun v σ H Q=>to σ H fun o H1=>ti σ H1 fun i H2=>t o i v H2 fun H3=>Q σ H3
theorem pg_sub {o i:Expr}{to ti:TE}{t:TSet} (ho:PE X o to) (hi:PE X i ti) (hs:PSet X t)
  (ha:∀ v,assign (.Subscript o i pos) X.env v=(do
   let ov <- holding [v] (eval o X.env)
   let iv <- holding [v,ov] (eval i X.env)
   standAt pos
   holding [v,ov,iv] (setItem ov iv v)
   release [v,ov,iv] []):=by intro _;rfl):PG X (.Subscript o i pos) (gSub to ti t):=by
 intro pins s σ H v u Q I r h
 rw[ha]
 refine wpAny_bind (wpAny_holding (thn (ho pins s σ H _ I h) fun ov s1 ⟨x,H1,I1,r1,q1⟩=>?_))
 refine wpAny_bind (wpAny_holding (thn (hi pins s1 σ H1 _ I1 q1) fun iv s2 ⟨y,H2,I2,r2,q2⟩=>?_))
 refine wpAny_bind (wpAny_standAt (wpAny_bind (wpAny_holding (thn (hs pins s2 σ H2 x y v ov iv u _ I2 r1 r2 r q2) fun _ s3 ⟨H3,I3,q3⟩=>?_))))
 exact wpAny_release ⟨σ,H3,I3,q3⟩
def tAsg (te:TE) (g:TG):TS:=fun D σ H=>te σ H fun x H1=>g x σ H1 D.nx
theorem ps_asg {tg e:Expr}{te:TE}{g:TG} (he:PE X e te) (hg:PG X tg g) (hs:swapsWithSole [tg] e pos.line X.env=pure false:=by rfl) (hw:swappedStores [tg] e X.env=pure none:=by rfl)
  (h1:(assignEach [tg] X.env).map (·.2)=[assign tg X.env]:=by rfl):PS X (.Assign [tg] e pos) (tAsg te g):=by
 intro pins s σ H D I h
 refine wpAny_Assign_stores (thn (he pins s σ H _ I h) fun v s1 ⟨x,H1,I1,r1,q1⟩=>?_) hs hw
 rw[h1]
 exact thn (hg pins s1 σ H1 x v _ I1 r1 q1) fun _ s2 q=>q
theorem ps_set {i:Nat}{x:Str}{e:Expr}{te:TE}{pos':Pos} (hN:X.N.Nodup) (hi:X.N[i]?=some x) (hx:Loc X.env.scope x) (he:PE X e te) (hs:swapsWith e (some (.Name x pos')) pos.line X.env=pure false:=by rfl) (hf:X.fn x=true\/X.env.scope.names.lookup x=some .local:=by first | exact .inl rfl | exact .inr rfl | assumption) :
  PS X (.Assign [.Name x pos'] e pos) (tAsg te (gName i)):=by
 intro pins s σ H D I h
 refine wpAny_Assign_Name (thn (he pins s σ H _ I h) fun v s1 ⟨y,H1,I1,r1,q1⟩=>?_) hs
 exact store_ok I1 hN hi hx r1 (fun s2 I2=>⟨_,H1,I2,q1⟩) hf
end
section
variable {X:Cx}{pos:Pos}
def tWhile (c:TT) (tb:TS):TS:=fun D σ H=>∃ W:Nat->St->Hp->Prop,(∃ m,W m σ H)/\∀ m σ H,W m σ H ->
 c σ H fun b H1=>if b=true then ∃ N:St->Hp->Prop,(∀ σ' H',N σ' H'->∃ m',m'<m/\W m' σ' H')/\tb { D with nx:=N,ct:=N,bk:=D.nx } σ H1 else D.nx σ H1
theorem ps_while {c:Expr}{body:List Stmt}{tc:TT}{tb:TS} (hp:PassesOwn (model X.prog X.w) X.A X.env X.xe) (hc:PT X c tc) (hb:PSs X body tb):PS X (.While c body [] pos) (tWhile tc tb):=by
 intro pins s σ H D I h
 obtain⟨W,⟨m0,w0⟩,turn⟩:=h
 refine wpAny_While (codeAny_whileLoop (fun n s'=>∃ σ' H',Inv X pins σ' H' s'/\W n σ' H') ?_ m0 ⟨σ,H,I,w0⟩)
 rintro n s1 ⟨σ1,H1,I1,w1⟩
 refine wpAny_passesOwn hp (thn (hc pins s1 σ1 H1 _ I1 (turn n σ1 H1 w1)) fun b s2 ⟨H2,I2,q2⟩=>?_)
 cases b with
 | true=>
  obtain⟨N,hN,q2⟩:=q2
  rw[if_pos rfl]
  refine wpAny_passesOwn hp (thn (hb pins s2 σ1 H2 _ I2 q2) fun f s3 q3=>?_)
  cases f with
  | next=>
   obtain⟨σ3,H3,I3,n3⟩:=q3
   obtain⟨m',hm,w3⟩:=hN σ3 H3 n3
   exact⟨m',hm,σ3,H3,I3,w3⟩
  | cont=>
   obtain⟨σ3,H3,I3,n3⟩:=q3
   obtain⟨m',hm,w3⟩:=hN σ3 H3 n3
   exact⟨m',hm,σ3,H3,I3,w3⟩
  | brk=>exact q3
  | ret v=>exact q3
 | false=>
  rw[if_neg Bool.false_ne_true]
  exact wpAny_execs_nil ⟨σ1,H2,I2,q2⟩
end
structure It where
 go:Nat->Hp->Prop
 yld:Nat->Hp->V->Hp->Prop
 stop:Nat->Hp->Prop
def FpOk (X:Cx) (pins:List (Addr×Obj)) (H:Hp) (b:Addr):Prop:=
 H b=none/\b≠X.env.locals/\b ∉ X.fs/\(b∈X.ex\/X.s₀.heap.objs.size<=b)/\(∀ x c,X.env.cells.lookup x=some c->c≠b)/\∀ p∈X.pn++pins,p.1≠b
theorem Inv.fpOk {X:Cx}{pins:List (Addr×Obj)} {σ:St} {H H':Hp}{s:Shared}{b:Addr} (I:Inv X pins σ H s) (hb:s.heap.objs.size<=b) (hn:H' b=none):FpOk X pins H' b:=by
 refine⟨hn,Nat.ne_of_gt (Nat.lt_of_lt_of_le I.lt hb),I.nofs hb,.inr (Nat.le_trans I.sz hb),fun x c e z=>?_,fun p hp z=>?_⟩
 ·obtain⟨v,q⟩:=I.cell x c e
  exact absurd (Nat.lt_of_lt_of_le q.lt (by rw[z];exact hb)) (Nat.lt_irrefl _)
 ·exact absurd (Nat.lt_of_lt_of_le (Heap.lt_size (I.pin p hp).1) (by rw[z];exact hb)) (Nat.lt_irrefl _)
structure Turn (P:Program) (w:World) (K:PySem.W.Frag) (tg:Expr) (J:It) (fp:List Addr) (it:Addr) (tn:Nat->Heap->Prop):Prop where
 mem:it∈fp
 obj:∀ i h,tn i h->∀ b∈fp,∃ o,h.get? b=some o/\∀ v,o.data≠.cell v
 keep:∀ i h h',tn i h->(∀ b∈fp,∀ o,h.get? b=some o->h'.get? b=some o)->tn i h'
 item:∀ (X:Cx),X.prog=P->X.w=w->X.K=K->X.calm=true->∀ (i:Nat) (pins:List (Addr×Obj)) (s:Shared) (σ:St) (H:Hp) (E:Value->Shared->Prop),Inv X pins σ H s->(∀ b∈fp,FpOk X pins H b)->tn i s.heap->J.go i H ->
  wpAny (model P w) X.A (pyNext (.ref it)) (fun r s1=>∃ u,r=some u /\
   wpAny (model P w) X.A (letOwnedTupleGo tg (.ref it) u) (fun _ s2=>∃ x H',Inv X pins σ H' s2/\RelV x u/\J.yld i H x H'/\tn (i+1) s2.heap/\∀ b∈fp,H' b=none) E s1) E s
 done:∀ (X:Cx),X.prog=P->X.w=w->X.K=K->X.calm=true->∀ (i:Nat) (pins:List (Addr×Obj)) (s:Shared) (σ:St) (H:Hp) (E:Value->Shared->Prop),Inv X pins σ H s->(∀ b∈fp,FpOk X pins H b)->tn i s.heap->J.stop i H ->
  wpAny (model P w) X.A (pyNext (.ref it)) (fun r s1=>r=none/\Inv X pins σ H s1) E s
 self:∀ (A:Around) (i:Nat) (s:Shared) (Q:Value->Shared->Prop) (E:Value->Shared->Prop),tn i s.heap->Q (.ref it) s->wpAny (model P w) A (pyIter (.ref it)) Q E s
abbrev TI:=St->Hp->(It->Hp->Prop)->Prop
def PIE (X:Cx) (pins:List (Addr×Obj)) (σ:St) (tg:Expr) (R:It->Hp->Prop) (itv:Value) (s2:Shared):Prop:=
 ∃ (it:Addr) (fp:List Addr) (tn:Nat->Heap->Prop) (J:It) (H':Hp),itv=.ref it/\Inv X pins σ H' s2/\Turn X.prog X.w X.K tg J fp it tn/\tn 0 s2.heap/\(∀ b∈fp,FpOk X pins H' b)/\R J H'
def PI (X:Cx) (tg iter:Expr) (wi:TI):Prop:=
 ∀ (pins:List (Addr×Obj)) (s:Shared) (σ:St) (H:Hp) (R:It->Hp->Prop),Inv X pins σ H s->wi σ H R ->
  wpAny (model X.prog X.w) X.A (eval iter X.env) (fun v s1=>wpAny (model X.prog X.w) X.A (pyIter v) (PIE X pins σ tg R) X.xe s1) X.xe s
theorem go_of {M:Model}{A:Around}{E:Value->Shared->Prop}{s:Shared}{tg:Expr}{it:Addr}{u:Value}{o:Obj}{n:String}{vs:Array Value}{Q:Unit->Shared->Prop} (ho:s.heap.get? it=some o) (hc:o.cls=.type n) (hd:o.data=.fields vs)
    (hn:["enumerate","zip","dict_itemiterator","dict_reverseitemiterator","odict_iterator","itertools.zip_longest","itertools.pairwise"].contains n=false) (hQ:Q () s):wpAny M A (letOwnedTupleGo tg (.ref it) u) Q E s:=by
  unfold letOwnedTupleGo
  cases tg <;> first
    | exact wpAny_pure hQ
    | (cases u <;> first
        | exact wpAny_pure hQ
        | (refine wpAny_bind (wpAny_load ho ?_)
           rw[hc,hd]
           show wpAny M A (if (["enumerate","zip","dict_itemiterator","dict_reverseitemiterator","odict_iterator","itertools.zip_longest","itertools.pairwise"].contains n && vs[0]? == some (rawInt _))=true then _ else _) Q E s
           rw[if_neg (by intro h;rw[hn,Bool.false_and]at h;cases h)]
           exact wpAny_pure hQ))
def Itl (K:PySem.W.Frag) (a:Addr):It:=
 ⟨fun i H=>∃ xs x,SqL K H a xs/\xs[i]?=some x,fun i H x H'=>H'=H/\∀ xs,SqL K H a xs->xs[i]?=some x,fun i H=>∃ xs,SqL K H a xs/\xs.length<=i⟩
def Itt (K:PySem.W.Frag) (a:Addr):It:=
 ⟨fun i H=>∃ xs x,SqT K H a xs/\xs[i]?=some x,fun i H x H'=>H'=H/\∀ xs,SqT K H a xs->xs[i]?=some x,fun i H=>∃ xs,SqT K H a xs/\xs.length<=i⟩
def Itr (lo:Int) (n:Nat):It:=⟨fun i _=>i<n,fun i H x H'=>H'=H/\x=.int (lo+i),fun i _=>n<=i⟩
theorem turn_list {P:Program}{w:World}{K:PySem.W.Frag}{tg:Expr} (a it:Addr):Turn P w K tg (Itl K a) [it] it (fun i h=>h.IsListIter it a i) where
 mem:=by simp
 obj:=fun i h st b hb=>by
  have e:b=it:=by simpa using hb
  subst e
  obtain⟨o,e,c,d⟩:=st
  exact⟨o,e,fun v z=>by rw[d]at z;cases z⟩
 keep:=fun i h h' st k=>st.at fun o e=>k it (by simp) o e
 item:=by
  intro X hP hw hK hc i pins s σ H E I hf st hg
  subst hP hw hK
  obtain⟨xs,x,hq,hx⟩:=hg
  obtain⟨its,rv,p,hz⟩:=I.list hq
  obtain⟨u,hu,ru⟩:=rv.get hx
  obtain⟨f0,f1,f2,f3,f4,f5⟩:=hf it (by simp)
  refine wpAny_pyNext_list_item st p.isList (x:=u) (by simpa using hu) fun h' st' sb=>?_
  have I1:Inv X pins σ H { s with heap:=h' }:=I.turned (t':=s.toks) (fun b o hb e=>(sb.2 b hb).trans e) f0 f1 f3 f4 f5
  obtain⟨o,e,c,d⟩:=id st'
  exact⟨u,rfl,go_of (s:={ s with heap:=h' }) e c d (by decide) ⟨x,H,I1,ru,⟨rfl,fun ys hy=>by rw[I.list_inj hy hq];exact hx⟩,st',fun b hb=>(hf b hb).1⟩⟩
 done:=by
  intro X hP hw hK hc i pins s σ H E I hf st hg
  subst hP hw hK
  obtain⟨xs,hq,hx⟩:=hg
  obtain⟨its,rv,p,hz⟩:=I.list hq
  obtain⟨f0,f1,f2,f3,f4,f5⟩:=hf it (by simp)
  have hl:=rv.length
  exact wpAny_pyNext_list_end (I.ok.hd hc) st p.isList (by simp;lia) fun h' eb=>⟨rfl,I.turned (t':=s.toks) (fun b o hb e=>eb b o hb e) f0 f1 f3 f4 f5⟩
 self:=fun _ _ _ _ _ st h=>wpAny_pyIter_listiter st h
theorem turn_tuple {P:Program}{w:World}{K:PySem.W.Frag}{tg:Expr} (a it:Addr):Turn P w K tg (Itt K a) [it] it (fun i h=>h.IsTupleIter it a i) where
 mem:=by simp
 obj:=fun i h st b hb=>by
  have e:b=it:=by simpa using hb
  subst e
  obtain⟨o,e,c,d⟩:=st
  exact⟨o,e,fun v z=>by rw[d]at z;cases z⟩
 keep:=fun i h h' st k=>st.at fun o e=>k it (by simp) o e
 item:=by
  intro X hP hw hK hc i pins s σ H E I hf st hg
  subst hP hw hK
  obtain⟨xs,x,hq,hx⟩:=hg
  obtain⟨its,rv,p,hz⟩:=I.tuple hq
  obtain⟨u,hu,ru⟩:=rv.get hx
  obtain⟨f0,f1,f2,f3,f4,f5⟩:=hf it (by simp)
  refine wpAny_pyNext_tuple_item st (show s.heap.IsTuple a its.toArray from p) (x:=u) (by simpa using hu) fun h' st' sb=>?_
  have I1:Inv X pins σ H { s with heap:=h' }:=I.turned (t':=s.toks) (fun b o hb e=>(sb.2 b hb).trans e) f0 f1 f3 f4 f5
  obtain⟨o,e,c,d⟩:=id st'
  exact⟨u,rfl,go_of (s:={ s with heap:=h' }) e c d (by decide) ⟨x,H,I1,ru,⟨rfl,fun ys hy=>by rw[I.tuple_inj hy hq];exact hx⟩,st',fun b hb=>(hf b hb).1⟩⟩
 done:=by
  intro X hP hw hK hc i pins s σ H E I hf st hg
  subst hP hw hK
  obtain⟨xs,hq,hx⟩:=hg
  obtain⟨its,rv,p,hz⟩:=I.tuple hq
  obtain⟨f0,f1,f2,f3,f4,f5⟩:=hf it (by simp)
  have hl:=rv.length
  exact wpAny_pyNext_tuple_end (I.ok.hd hc) st (show s.heap.IsTuple a its.toArray from p) (by simp;lia) fun h' eb=>⟨rfl,I.turned (t':=s.toks) (fun b o hb e=>eb b o hb e) f0 f1 f3 f4 f5⟩
 self:=fun _ _ _ _ _ st h=>wpAny_pyIter_tupleiter st h
theorem turn_range {P:Program}{w:World}{K:PySem.W.Frag}{tg:Expr} (it:Addr) (lo:Int) (n:Nat):Turn P w K tg (Itr lo n) [it] it (fun i h=>IsRangeIter h it (lo+(i:Nat) * 1) ((n:Int)-(i:Nat)) 1) where
 mem:=by simp
 obj:=fun i h st b hb=>by
  have e:b=it:=by simpa using hb
  subst e
  exact⟨_,st,fun v z=>by
   have z':Data.fields _=Data.cell v:=z
   cases z'⟩
 keep:=fun i h h' st k=>k it (by simp) _ st
 item:=by
  intro X hP hw hK hc i pins s σ H E I hf st hg
  subst hP hw hK
  obtain⟨f0,f1,f2,f3,f4,f5⟩:=hf it (by simp)
  have W:=Walks.range (prog:=X.prog) (w:=X.w) (I.ok.hd hc) it lo 1 n
  refine W.item i s _ _ hg st fun v h' tk hv st' kk=>?_
  obtain⟨t,rfl⟩:=hv
  have I1:Inv X pins σ H { s with heap:=h',toks:=tk }:=I.turned (fun b o hb e=>kk b o (by simpa using hb) e) f0 f1 f3 f4 f5
  refine⟨_,rfl,go_of (s:={ s with heap:=h',toks:=tk }) (n:="range_iterator") st' rfl rfl (by decide) ⟨.int (lo+i),H,I1,⟨t,?_⟩,⟨rfl,rfl⟩,st',fun b hb=>(hf b hb).1⟩⟩
  rw[Int.mul_one]
 done:=by
  intro X hP hw hK hc i pins s σ H E I hf st hg
  subst hP hw hK
  obtain⟨f0,f1,f2,f3,f4,f5⟩:=hf it (by simp)
  exact wpAny_pyNext_range_end (I.ok.hd hc) st (by have:n<=i:=hg;lia) fun h' eb=>⟨rfl,I.turned (t':=s.toks) (fun b o hb e=>eb b o hb e) f0 f1 f3 f4 f5⟩
 self:=fun _ _ _ _ _ st h=>wpAny_pyIter_rangeiter st h
end L2
namespace L2
open PySem PySem.Spec PyProof.Rows
section
variable {X:Cx}{tg:Expr}
def iList (K:PySem.W.Frag) (tl:TE):TI:=fun σ H R=>tl σ H fun x H1=>∃ a,x=.ref a/\(∃ xs,SqL K H1 a xs)/\R (Itl K a) H1
def iTup (K:PySem.W.Frag) (tl:TE):TI:=fun σ H R=>tl σ H fun x H1=>∃ a,x=.ref a/\(∃ xs,SqT K H1 a xs)/\R (Itt K a) H1
theorem pi_list {l:Expr}{tl:TE} (hl:PE X l tl):PI X tg l (iList X.K tl):=by
 intro pins s σ H R I h
 refine thn (hl pins s σ H _ I h) fun v s1 ⟨x,H1,I1,r1,q1⟩=>?_
 obtain⟨a,e,⟨xs,hq⟩,q⟩:=q1
 subst e
 cases r1
 obtain⟨its,rv,p,hz⟩:=I1.list hq
 refine wpAny_pyIter_list p.isList ?_
 refine⟨s1.heap.objs.size,[s1.heap.objs.size],_,_,H1,rfl,I1.kept (t':=s1.toks) fun b o e=>Heap.get?_push_of_some _ e,turn_list a _,⟨_,Heap.get?_push_size _ rfl,rfl,rfl⟩,fun b hb=>?_,q⟩
 have e:b=s1.heap.objs.size:=by simpa using hb
 subst e
 exact I1.fpOk (Nat.le_refl _) (I1.hok.fresh (Nat.le_refl _))
theorem pi_tup {l:Expr}{tl:TE} (hl:PE X l tl):PI X tg l (iTup X.K tl):=by
 intro pins s σ H R I h
 refine thn (hl pins s σ H _ I h) fun v s1 ⟨x,H1,I1,r1,q1⟩=>?_
 obtain⟨a,e,⟨xs,hq⟩,q⟩:=q1
 subst e
 cases r1
 obtain⟨its,rv,p,hz⟩:=I1.tuple hq
 refine wpAny_pyIter_tuple (show s1.heap.IsTuple a its.toArray from p) ?_
 refine⟨s1.heap.objs.size,[s1.heap.objs.size],_,_,H1,rfl,I1.kept (t':=s1.toks) fun b o e=>Heap.get?_push_of_some _ e,turn_tuple a _,⟨_,Heap.get?_push_size _ rfl,rfl,rfl⟩,fun b hb=>?_,q⟩
 have e:b=s1.heap.objs.size:=by simpa using hb
 subst e
 exact I1.fpOk (Nat.le_refl _) (I1.hok.fresh (Nat.le_refl _))
theorem range_it {pins:List (Addr×Obj)} {σ:St} {H:Hp}{s:Shared}{R:It->Hp->Prop}{E:Value->Shared->Prop}{lo hi:Int}{t u v:Tok}{tk:Nat} (I:Inv X pins σ H s) (h1:-(2 ^ 62)<=lo) (h2:lo<2 ^ 62) (h3:-(2 ^ 62)<=hi) (h4:hi<2 ^ 62)
  (q:R (Itr lo (hi-lo).toNat) H):wpAny (model X.prog X.w) X.A (pyIter (.ref s.heap.objs.size)) (PIE X pins σ tg R) E { s with heap:=s.heap.push { cls:=.type "range",data:=.fields #[.int lo t,.int hi u,.int 1 v] },toks:=tk }:=by
 refine wpAny_pyIter_range (IsRange.new ..) (small_one h1 h2 h3 h4) ?_
 have I1:Inv X pins σ H { s with heap:=s.heap.push { cls:=.type "range",data:=.fields #[.int lo t,.int hi u,.int 1 v] },toks:=tk }:=I.kept fun b o e=>Heap.get?_push_of_some _ e
 refine⟨(s.heap.push { cls:=.type "range",data:=.fields #[.int lo t,.int hi u,.int 1 v] }).objs.size,[(s.heap.push { cls:=.type "range",data:=.fields #[.int lo t,.int hi u,.int 1 v] }).objs.size],_,_,H,rfl,
  I1.kept (t':=tk) fun b o e=>Heap.get?_push_of_some _ e,turn_range _ lo (hi-lo).toNat,?_,fun b hb=>?_,q⟩
 ·have e1:lo+((0:Nat):Int) * 1=lo:=by simp
  have e2:(((hi-lo).toNat:Nat):Int)-((0:Nat):Int)=Builtin.Range.rangeSize lo hi 1:=by rw[rangeSize_one];split <;> lia
  show IsRangeIter _ _ (lo+((0:Nat):Int) * 1) ((((hi-lo).toNat:Nat):Int)-((0:Nat):Int)) 1
  rw[e1,e2]
  exact Heap.get?_push_size _ rfl
 ·have e:b=(s.heap.push { cls:=.type "range",data:=.fields #[.int lo t,.int hi u,.int 1 v] }).objs.size:=by simpa using hb
  subst e
  exact I1.fpOk (Nat.le_refl _) (I1.hok.fresh (Nat.le_refl _))
def iRng1 (ta:TA):TI:=fun σ H R=>ta σ H fun vs H1=>∃ j:Int,vs=[.int j]/\-(2 ^ 62)<=j/\j<2 ^ 62/\R (Itr 0 j.toNat) H1
theorem pi_range1 {a:Expr}{ta:TA}{p pos:Pos} (hg:Gl X "range") (hm:X.mg "range"=none) (ha:PA X [a] ta) (hs:starEach [a] X.env=[(false,eval a X.env)]:=by rfl):PI X tg (.Call (.Name "range" p) [a] [] pos) (iRng1 ta):=by
 intro pins s σ H R I h
 refine Call_ (ld_blt I hg hm boot_range (PyProof.Rows.callWith_type1 (thn (ha pos pins s σ H _ I h) fun us s1 ⟨vs,H1,I1,r1,q1⟩=>?_) hs rfl))
 obtain⟨j,e,q1,q2,q⟩:=q1
 subst e
 cases r1 with
 | cons r rr=>
  cases rr
  obtain⟨t,rfl⟩:=r
  exact call_range_1 (range_it I1 (by lia) (by lia) q1 q2 (by simpa using q))
def tFor (wi:TI) (g:TG) (tb:TS):TS:=fun D σ H=>wi σ H fun J H1=>∃ W:Nat->Nat->St->Hp->Prop,(∃ m,W 0 m σ H1)/\∀ i m σ H,W i m σ H ->
 (J.stop i H/\D.nx σ H)\/(J.go i H/\∃ N:St->Hp->Prop,(∀ σ' H',N σ' H'->∃ m',m'<m/\W (i+1) m' σ' H')/\∀ x H',J.yld i H x H'->g x σ H' fun σ2 H2=>tb { D with nx:=N,ct:=N,bk:=D.nx } σ2 H2)
def pinsAt (fp:List Addr) (h:Heap):List (Addr×Obj):=fp.filterMap fun b=>(h.get? b).map fun o=>(b,o)
theorem mem_pinsAt {fp:List Addr}{h:Heap}{b:Addr}{o:Obj} (hb:b∈fp) (e:h.get? b=some o):(b,o)∈pinsAt fp h:=List.mem_filterMap.mpr ⟨b,hb,by rw[e];rfl⟩
theorem of_pinsAt {fp:List Addr}{h:Heap}{p:Addr×Obj} (hp:p∈pinsAt fp h):p.1∈fp/\h.get? p.1=some p.2:=by
 obtain⟨b,hb,e⟩:=List.mem_filterMap.mp hp
 cases q:h.get? b with
 | none=>rw[q]at e;cases e
 | some o=>
  rw[q]at e
  have e':(b,o)=p:=Option.some.inj e
  subst e'
  exact⟨hb,q⟩
theorem Inv.pinned {pins:List (Addr×Obj)} {σ:St} {H:Hp}{s:Shared}{fp:List Addr} (I:Inv X pins σ H s) (hf:∀ b∈fp,FpOk X pins H b) (ho:∀ b∈fp,∃ o,s.heap.get? b=some o/\∀ v,o.data≠.cell v):Inv X (pins++pinsAt fp s.heap) σ H s:=
 I.pins_of fun p hp=>(List.mem_append.mp hp).elim (fun z=>I.pin p (List.mem_append_right _ z)) fun z=>by
  obtain⟨hb,e⟩:=of_pinsAt z
  obtain⟨f0,f1,f2,_⟩:=hf p.1 hb
  obtain⟨o,e',d⟩:=ho p.1 hb
  rw[e]at e';cases e'
  exact⟨e,f0,f1,f2,d⟩
theorem Inv.unpinned {pins pl:List (Addr×Obj)} {σ:St} {H:Hp}{s:Shared} (I:Inv X (pins++pl) σ H s):Inv X pins σ H s:=I.pins_of fun p hp=>I.pin p (List.mem_append_right _ (List.mem_append_left _ hp))
theorem ps_for {iter:Expr}{body:List Stmt}{wi:TI}{g:TG}{tb:TS}{pos:Pos} (hp:PassesOwn (model X.prog X.w) X.A X.env X.xe) (hc:X.calm=true) (hi:PI X tg iter wi) (hg:PG X tg g) (hb:PSs X body tb)
  (hs:∀ x,foldedSetIterable iter X.env x=pure x:=by intro _;rfl):PS X (.For tg iter body [] pos) (tFor wi g tb):=by
 intro pins s σ H D I h
 refine wpAny_For (thn (hi pins s σ H _ I h) fun v s1 h1=>thn h1 fun itv s2 h2=>?_) hs
 obtain⟨it,fp,tn,J,H2,e,I2,T,st2,f2,W,⟨m0,w0⟩,turn⟩:=h2
 subst e
 -- what stays true of the iterator's objects through the loop
 have stat:∀ {H':Hp},(∀ b∈fp,H' b=none)->∀ b∈fp,FpOk X pins H' b:=fun hn b hb=>⟨hn b hb,(f2 b hb).2⟩
 refine codeAny_forLoop_any (fun n s'=>∃ i σ' H',Inv X pins σ' H' s'/\tn i s'.heap/\(∀ b∈fp,H' b=none)/\W i n σ' H') ?_ m0 ⟨0,σ,H2,I2,st2,fun b hb=>(f2 b hb).1,w0⟩
 rintro n s3 ⟨i,σ3,H3,I3,st3,fr3,w3⟩
 rcases turn i n σ3 H3 w3 with ⟨stop,qn⟩ | ⟨go,N,hN,step⟩
 ·refine wpAny_passesOwn hp (thn (T.done X rfl rfl rfl hc i pins s3 σ3 H3 X.xe I3 (stat fr3) st3 stop) fun r s4 ⟨hr,I4⟩=>?_)
  subst hr
  exact wpAny_execs_nil ⟨σ3,H3,I4,qn⟩
 ·refine wpAny_passesOwn hp (thn (T.item X rfl rfl rfl hc i pins s3 σ3 H3 X.xe I3 (stat fr3) st3 go) fun r s4 ⟨u,hr,h4⟩=>?_)
  subst hr
  refine wpAny_passesOwn hp (thn h4 fun _ s5 ⟨x,H5,I5,r5,y5,st5,fr5⟩=>?_)
  have I5':=I5.pinned (stat fr5) (T.obj _ _ st5)
  refine wpAny_passesOwn hp (thn (hg _ s5 σ3 H5 x u _ I5' r5 (step x H5 y5)) fun _ s6 ⟨σ6,H6,I6,q6⟩=>?_)
  refine wpAny_passesOwn hp (thn (hb _ s6 σ6 H6 _ I6 q6) fun f s7 q7=>?_)
  have again:∀ {σ7:St} {H7:Hp},Inv X (pins++pinsAt fp s5.heap) σ7 H7 s7->N σ7 H7->∃ m,m<n/\∃ i σ' H',Inv X pins σ' H' s7/\tn i s7.heap/\(∀ b∈fp,H' b=none)/\W i m σ' H':=fun {σ7 H7} I7 n7=>by
   obtain⟨m',hm,w7⟩:=hN σ7 H7 n7
   refine⟨m',hm,i+1,σ7,H7,I7.unpinned,T.keep _ _ _ st5 fun b hb o e=>(I7.pin (b,o) (List.mem_append_right _ (List.mem_append_right _ (mem_pinsAt hb e)))).1,fun b hb=>?_,w7⟩
   obtain⟨o,e,d⟩:=T.obj _ _ st5 b hb
   exact (I7.pin (b,o) (List.mem_append_right _ (List.mem_append_right _ (mem_pinsAt hb e)))).2.1
  cases f with
  | next=>obtain⟨σ7,H7,I7,n7⟩:=q7;exact again I7 n7
  | cont=>obtain⟨σ7,H7,I7,n7⟩:=q7;exact again I7 n7
  | brk=>obtain⟨σ7,H7,I7,q7⟩:=q7;exact⟨σ7,H7,I7.unpinned,q7⟩
  | ret v=>obtain⟨x7,σ7,H7,I7,r7,q7⟩:=q7;exact⟨x7,σ7,H7,I7.unpinned,r7,q7⟩
end
theorem for_list {K:PySem.W.Frag}{a:Addr}{xs:List V}{g:TG}{tb:TS}{D:Ends} {σ:St} {H:Hp} (Pv:Nat->St->Hp->Prop) (h0:Pv 0 σ H) (hl:∀ i σ H,i<=xs.length->Pv i σ H->SqL K H a xs)
  (hs:∀ i x σ H,xs[i]?=some x->Pv i σ H->g x σ H fun σ2 H2=>tb { D with nx:=Pv (i+1),ct:=Pv (i+1),bk:=D.nx } σ2 H2) (hd:∀ σ H,Pv xs.length σ H->D.nx σ H) :
  ∃ W:Nat->Nat->St->Hp->Prop,(∃ m,W 0 m σ H)/\∀ i m σ H,W i m σ H ->
   ((Itl K a).stop i H/\D.nx σ H)\/((Itl K a).go i H/\∃ N:St->Hp->Prop,(∀ σ' H',N σ' H'->∃ m',m'<m/\W (i+1) m' σ' H')/\∀ x H',(Itl K a).yld i H x H'->g x σ H' fun σ2 H2=>tb { D with nx:=N,ct:=N,bk:=D.nx } σ2 H2):=by
 refine⟨fun i m σ H=>m=xs.length-i/\i<=xs.length/\Pv i σ H,⟨xs.length,by simp,Nat.zero_le _,h0⟩,?_⟩
 rintro i m σ H ⟨rfl,hi,p⟩
 have q:=hl i σ H hi p
 by_cases hlt:i<xs.length
 ·refine .inr ⟨⟨xs,xs[i],q,by simp [hlt]⟩,Pv (i+1),fun σ' H' p'=>⟨xs.length-(i+1),by lia,rfl,hlt,p'⟩,fun x H' y=>?_⟩
  obtain⟨e,y⟩:=y
  subst e
  exact hs i x σ _ (y xs q) p
 ·have e:i=xs.length:=by lia
  subst e
  exact .inl ⟨⟨xs,q,Nat.le_refl _⟩,hd σ H p⟩
theorem for_range {lo:Int}{n:Nat}{g:TG}{tb:TS}{D:Ends} {σ:St} {H:Hp} (Pv:Nat->St->Hp->Prop) (h0:Pv 0 σ H)
  (hs:∀ i σ H,i<n->Pv i σ H->g (.int (lo+i)) σ H fun σ2 H2=>tb { D with nx:=Pv (i+1),ct:=Pv (i+1),bk:=D.nx } σ2 H2) (hd:∀ σ H,Pv n σ H->D.nx σ H) :
  ∃ W:Nat->Nat->St->Hp->Prop,(∃ m,W 0 m σ H)/\∀ i m σ H,W i m σ H ->
   ((Itr lo n).stop i H/\D.nx σ H)\/((Itr lo n).go i H/\∃ N:St->Hp->Prop,(∀ σ' H',N σ' H'->∃ m',m'<m/\W (i+1) m' σ' H')/\∀ x H',(Itr lo n).yld i H x H'->g x σ H' fun σ2 H2=>tb { D with nx:=N,ct:=N,bk:=D.nx } σ2 H2):=by
 refine⟨fun i m σ H=>m=n-i/\i<=n/\Pv i σ H,⟨n,by simp,Nat.zero_le _,h0⟩,?_⟩
 rintro i m σ H ⟨rfl,hi,p⟩
 by_cases hlt:i<n
 ·refine .inr ⟨hlt,Pv (i+1),fun σ' H' p'=>⟨n-(i+1),by lia,rfl,hlt,p'⟩,fun x H' y=>?_⟩
  obtain⟨e,y⟩:=y
  subst e y
  exact hs i σ _ hlt p
 ·have e:i=n:=by lia
  subst e
  exact .inl ⟨Nat.le_refl _,hd σ H p⟩
end L2
namespace L2
open PySem PySem.Spec PyProof.Rows
abbrev R2:=V->V->Hp->VK->Prop
def OpR (X:Cx) (f:Value->Value->Sem Value) (r:R2):Prop:=
 ∀ (pins:List (Addr×Obj)) (s:Shared) (σ:St) (H:Hp) (x y:V) (v u:Value) (Q:VK),Inv X pins σ H s->RelV x v->RelV y u->r x y H Q ->
  wpAny (model X.prog X.w) X.A (f v u) (EP X pins σ Q) X.xe s
def UnR (X:Cx) (f:Value->Sem Value) (r:V->Hp->VK->Prop):Prop:=
 ∀ (pins:List (Addr×Obj)) (s:Shared) (σ:St) (H:Hp) (x:V) (v:Value) (Q:VK),Inv X pins σ H s->RelV x v->r x H Q ->
  wpAny (model X.prog X.w) X.A (f v) (EP X pins σ Q) X.xe s
def CallR (X:Cx) (f:Value) (r:List V->Hp->VK->Prop):Prop:=
 ∀ (pins:List (Addr×Obj)) (s:Shared) (σ:St) (H:Hp) (xs:List V) (us:List Value) (Q:VK),Inv X pins σ H s->Vals xs us->r xs H Q ->
  wpAny (model X.prog X.w) X.A (call f us) (EP X pins σ Q) X.xe s
def TruR (X:Cx) (r:V->Hp->(Bool->Hp->Prop)->Prop):Prop:=
 ∀ (pins:List (Addr×Obj)) (s:Shared) (σ:St) (H:Hp) (x:V) (v:Value) (Q:Bool->Hp->Prop),Inv X pins σ H s->RelV x v->r x H Q ->
  wpAny (model X.prog X.w) X.A (truthy v) (TP X pins σ Q) X.xe s
def tOp (r:R2) (ta tb:TE):TE:=fun σ H Q=>ta σ H fun x H1=>tb σ H1 fun y H2=>r x y H2 Q
def tUn (r:V->Hp->VK->Prop) (ta:TE):TE:=fun σ H Q=>ta σ H fun x H1=>r x H1 Q
def rI (C:Int->Int->Prop) (g:Int->Int->V):R2:=fun x y H Q=>∃ i j,x=.int i/\y=.int j/\C i j/\Q (g i j) H
def rI0 (g:Int->Int->V):R2:=fun x y H Q=>∃ i j,x=.int i/\y=.int j/\Q (g i j) H
def rU (g:Int->V):V->Hp->VK->Prop:=fun x H Q=>∃ i,x=.int i/\Q (g i) H
section
variable {X:Cx}{a b c:Expr}{ta tb tc:TE}{pos:Pos}
theorem binT (ha:PE X a ta) (hb:PE X b tb) {pins:List (Addr×Obj)}{s:Shared} {σ:St} {H:Hp}{R:V->V->Hp->Prop} (I:Inv X pins σ H s)
  (h:ta σ H fun x H1=>tb σ H1 fun y H2=>R x y H2) {Q:Value->Shared->Prop}{f:Value->Value->Sem Value}
  (hf:∀ v u s2 x y H2,Inv X pins σ H2 s2->RelV x v->RelV y u->R x y H2->wpAny (model X.prog X.w) X.A (f v u) Q X.xe s2) :
  wpAny (model X.prog X.w) X.A (eval a X.env) (fun v s₁=>wpAny (model X.prog X.w) X.A (eval b X.env) (fun u s₂=>wpAny (model X.prog X.w) X.A (f v u) Q X.xe s₂) X.xe s₁) X.xe s:=by
 refine thn (ha pins s σ H _ I h) fun v s1 ⟨x,H1,I1,r1,q1⟩=>?_
 refine thn (hb pins s1 σ H1 _ I1 q1) fun u s2 ⟨y,H2,I2,r2,q2⟩=>?_
 exact hf v u s2 x y H2 I2 r1 r2 q2
theorem pe_op {op:Operator}{r:R2} (ho:OpR X (binaryOp op) r) (ha:PE X a ta) (hb:PE X b tb):PE X (.BinOp a op b pos) (tOp r ta tb):=by
 intro pins s σ H Q I h
 exact wpAny_BinOp (binT ha hb I h fun v u s2 x y H2 I2 rx ry q=>ho pins s2 σ H2 x y v u Q I2 rx ry q)
theorem pe_un {op:UnaryOp}{r:V->Hp->VK->Prop} (ho:UnR X (unaryOp op) r) (ha:PE X a ta):PE X (.UnaryOp op a pos) (tUn r ta):=by
 intro pins s σ H Q I h
 exact UnaryOp_ (thn (ha pins s σ H _ I h) fun v s1 ⟨x,H1,I1,r1,q1⟩=>ho pins s1 σ H1 x v Q I1 r1 q1)
theorem opI {f:Value->Value->Sem Value}{C:Int->Int->Prop}{g:Int->Int->Int}
  (rule:∀ (i j:Int) (t u:Tok) (s:Shared) (Q:Value->Shared->Prop) (E:Value->Shared->Prop),C i j->Q (.int (g i j) s.toks) { s with toks:=s.toks+1 }->wpAny (model X.prog X.w) X.A (f (.int i t) (.int j u)) Q E s) :
  OpR X f (rI C fun i j=>.int (g i j)):=by
 intro pins s σ H x y v u Q I rx ry h
 obtain⟨i,j,rfl,rfl,hc,q⟩:=h
 obtain⟨t,rfl⟩:=rx
 obtain⟨t',rfl⟩:=ry
 exact rule i j t t' s _ _ hc ⟨.int (g i j),H,I.tok _,⟨_,rfl⟩,q⟩
theorem opI0 {f:Value->Value->Sem Value}{g:Int->Int->Int}
  (rule:∀ (i j:Int) (t u:Tok) (s:Shared) (Q:Value->Shared->Prop) (E:Value->Shared->Prop),Q (.int (g i j) s.toks) { s with toks:=s.toks+1 }->wpAny (model X.prog X.w) X.A (f (.int i t) (.int j u)) Q E s) :
  OpR X f (rI0 fun i j=>.int (g i j)):=by
 intro pins s σ H x y v u Q I rx ry h
 obtain⟨i,j,rfl,rfl,q⟩:=h
 obtain⟨t,rfl⟩:=rx
 obtain⟨t',rfl⟩:=ry
 exact rule i j t t' s _ _ ⟨.int (g i j),H,I.tok _,⟨_,rfl⟩,q⟩
theorem opB0 {f:Value->Value->Sem Value}{g:Int->Int->Bool}
  (rule:∀ (i j:Int) (t u:Tok) (s:Shared) (Q:Value->Shared->Prop) (E:Value->Shared->Prop),Q (.bool (g i j)) s->wpAny (model X.prog X.w) X.A (f (.int i t) (.int j u)) Q E s) :
  OpR X f (rI0 fun i j=>.bl (g i j)):=by
 intro pins s σ H x y v u Q I rx ry h
 obtain⟨i,j,rfl,rfl,q⟩:=h
 obtain⟨t,rfl⟩:=rx
 obtain⟨t',rfl⟩:=ry
 exact rule i j t t' s _ _ ⟨.bl (g i j),H,I,rfl,q⟩
def CDiv (i j:Int):Prop:=0<j/\j<1073741824
def CPow (i j:Int):Prop:=0<=j/\j<=1000000/\i.natAbs<2 ^ 64
def CMul (i j:Int):Prop:=(-(2 ^ 64)<i/\i<2 ^ 64)\/(-(2 ^ 64)<j/\j<2 ^ 64)
theorem CMul.ok {i j:Int} (h:CMul i j):IntMulOk i j:=by
 rcases h with ⟨h1,h2⟩ | ⟨h1,h2⟩
 ·exact .of_left (intBits_le_64 h1 h2)
 ·exact .of_right (intBits_le_64 h1 h2)
theorem op_add:OpR X (binaryOp .Add) (rI0 fun i j=>.int (i+j)):=opI0 fun _ _ _ _ _ _ _ q=>add_int q
theorem op_sub:OpR X (binaryOp .Sub) (rI0 fun i j=>.int (i-j)):=opI0 fun _ _ _ _ _ _ _ q=>sub_int q
theorem op_mul:OpR X (binaryOp .Mult) (rI CMul fun i j=>.int (i * j)):=opI fun _ _ _ _ _ _ _ hc q=>mul_int q hc.ok
theorem op_fdiv:OpR X (binaryOp .FloorDiv) (rI CDiv fun i j=>.int (i / j)):=opI fun i j _ _ _ _ _ hc q=>by
 have h1:(0:Int)<j:=hc.1
 have h2:j<1073741824:=hc.2
 exact floordiv_int (by lia) (by rw[Int.fdiv_eq_ediv_of_nonneg i (by lia)];exact q) (.inl (PyProof.noPylong_small (by lia)))
theorem op_mod:OpR X (binaryOp .Mod) (rI (fun _ j=>0<j) fun i j=>.int (i % j)):=opI fun i j _ _ _ _ _ hc q=>by
 have h1:(0:Int)<j:=hc
 exact mod_int' (by lia) (by rw[Int.fmod_eq_emod_of_nonneg i (by lia)];exact q)
theorem op_pow:OpR X (binaryOp .Pow) (rI CPow fun i j=>.int (i ^ j.toNat)):=opI fun _ _ _ _ _ _ _ hc q=>pow_int_small hc.1 hc.2.1 hc.2.2 q
theorem unI {f:Value->Sem Value}{g:Int->Int}
  (rule:∀ (i:Int) (t:Tok) (s:Shared) (Q:Value->Shared->Prop) (E:Value->Shared->Prop),Q (.int (g i) s.toks) { s with toks:=s.toks+1 }->wpAny (model X.prog X.w) X.A (f (.int i t)) Q E s) :
  UnR X f (rU fun i=>.int (g i)):=by
 intro pins s σ H x v Q I rx h
 obtain⟨i,rfl,q⟩:=h
 obtain⟨t,rfl⟩:=rx
 exact rule i t s _ _ ⟨.int (g i),H,I.tok _,⟨_,rfl⟩,q⟩
theorem un_neg:UnR X (unaryOp .USub) (rU fun i=>.int (-i)):=unI fun _ _ _ _ _ q=>neg_int q
end
def scal:V->V->Bool
 | .non,.non=>true | .non,.int _=>true | .int _,.non=>true | .non,.bl _=>true | .bl _,.non=>true | .non,.str _=>true | .str _,.non=>true
 | .int _,.int _=>true | .bl _,.bl _=>true | .str _,.str _=>true | .byt _,.byt _=>true
 | .int _,.str _=>true | .str _,.int _=>true | .bl _,.str _=>true | .str _,.bl _=>true
 | _,_=>false
def rEq:R2:=fun x y H Q=>scal x y=true/\Q (.bl (decide (x=y))) H
def rNe:R2:=fun x y H Q=>scal x y=true/\Q (.bl (!decide (x=y))) H
theorem dec_int {i j:Int}:decide (V.int i=V.int j)=(i == j):=by
 rw[Bool.eq_iff_iff]
 simp
theorem dec_bl {i j:Bool}:decide (V.bl i=V.bl j)=(i == j):=by
 rw[Bool.eq_iff_iff]
 simp
theorem dec_str {i j:Str}:decide (V.str i=V.str j)=(i == j):=by
 rw[Bool.eq_iff_iff]
 simp
theorem dec_byt {i j:Array UInt8}:decide (V.byt i=V.byt j)=(i.toList == j.toList):=by
 rw[Bool.eq_iff_iff]
 cases i
 cases j
 simp
section
variable {X:Cx}{a b c:Expr}{ta tb tc:TE}{pos:Pos}
theorem fin_bl {pins:List (Addr×Obj)} {σ:St} {H:Hp}{s:Shared}{Q:VK}{k k':Bool} (I:Inv X pins σ H s) (q:Q (.bl k) H) (e:k=k'):EP X pins σ Q (.bool k') s:=by
 subst e
 exact⟨.bl k,H,I,rfl,q⟩
theorem op_eq:OpR X (compareOp .Eq) rEq:=by
 intro pins s σ H x y v u Q I rx ry h
 obtain⟨hs,q⟩:=h
 cases x with
 | non=>
  cases rx
  cases y with
  | non=>cases ry;exact PySem.EqNone.eq_none_none (fin_bl I q (by simp))
  | bl j=>cases ry;exact PySem.EqNone.eq_none_bool (fin_bl I q (by simp))
  | int j=>obtain⟨t',rfl⟩:=ry;exact PySem.EqNone.eq_none_int (fin_bl I q (by simp))
  | str j=>obtain⟨t',rfl⟩:=ry;exact PySem.EqNone.eq_none_str (fin_bl I q (by simp))
  | _=>exact absurd (show false=true from hs) Bool.false_ne_true
 | bl i=>
  cases rx
  cases y with
  | non=>cases ry;exact PySem.EqNone.eq_bool_none (fin_bl I q (by simp))
  | bl j=>cases ry;exact eq_bool (fin_bl I q dec_bl)
  | str j=>obtain⟨t',rfl⟩:=ry;exact PySem.EqMixed.eq_bool_str (fin_bl I q (by simp))
  | _=>exact absurd (show false=true from hs) Bool.false_ne_true
 | int i=>
  obtain⟨t,rfl⟩:=rx
  cases y with
  | non=>cases ry;exact PySem.EqNone.eq_int_none (fin_bl I q (by simp))
  | int j=>obtain⟨t',rfl⟩:=ry;exact eq_int (fin_bl I q dec_int)
  | str j=>obtain⟨t',rfl⟩:=ry;exact PySem.EqMixed.eq_int_str (fin_bl I q (by simp))
  | _=>exact absurd (show false=true from hs) Bool.false_ne_true
 | str i=>
  obtain⟨t,rfl⟩:=rx
  cases y with
  | non=>cases ry;exact PySem.EqNone.eq_str_none (fin_bl I q (by simp))
  | bl j=>cases ry;exact PySem.EqMixed.eq_str_bool (fin_bl I q (by simp))
  | int j=>obtain⟨t',rfl⟩:=ry;exact PySem.EqMixed.eq_str_int (fin_bl I q (by simp))
  | str j=>obtain⟨t',rfl⟩:=ry;exact eq_str (fin_bl I q dec_str)
  | _=>exact absurd (show false=true from hs) Bool.false_ne_true
 | byt i=>
  obtain⟨t,rfl⟩:=rx
  cases y with
  | byt j=>obtain⟨t',rfl⟩:=ry;exact PySem.W.eq_bytes (fin_bl I q dec_byt)
  | _=>exact absurd (show false=true from hs) Bool.false_ne_true
 | _=>cases y <;> exact absurd (show false=true from hs) Bool.false_ne_true
theorem op_ne:OpR X (compareOp .NotEq) rNe:=by
 intro pins s σ H x y v u Q I rx ry h
 obtain⟨hs,q⟩:=h
 cases x with
 | non=>
  cases rx
  cases y with
  | non=>cases ry;exact PySem.EqNone.ne_none_none (fin_bl I q (by simp))
  | bl j=>cases ry;exact PySem.EqNone.ne_none_bool (fin_bl I q (by simp))
  | int j=>obtain⟨t',rfl⟩:=ry;exact PySem.EqNone.ne_none_int (fin_bl I q (by simp))
  | str j=>obtain⟨t',rfl⟩:=ry;exact PySem.EqNone.ne_none_str (fin_bl I q (by simp))
  | _=>exact absurd (show false=true from hs) Bool.false_ne_true
 | bl i=>
  cases rx
  cases y with
  | non=>cases ry;exact PySem.EqNone.ne_bool_none (fin_bl I q (by simp))
  | bl j=>cases ry;exact ne_bool (fin_bl I q (congrArg not dec_bl))
  | str j=>obtain⟨t',rfl⟩:=ry;exact PySem.EqMixed.ne_bool_str (fin_bl I q (by simp))
  | _=>exact absurd (show false=true from hs) Bool.false_ne_true
 | int i=>
  obtain⟨t,rfl⟩:=rx
  cases y with
  | non=>cases ry;exact PySem.EqNone.ne_int_none (fin_bl I q (by simp))
  | int j=>obtain⟨t',rfl⟩:=ry;exact ne_int (fin_bl I q (congrArg not dec_int))
  | str j=>obtain⟨t',rfl⟩:=ry;exact PySem.EqMixed.ne_int_str (fin_bl I q (by simp))
  | _=>exact absurd (show false=true from hs) Bool.false_ne_true
 | str i=>
  obtain⟨t,rfl⟩:=rx
  cases y with
  | non=>cases ry;exact PySem.EqNone.ne_str_none (fin_bl I q (by simp))
  | bl j=>cases ry;exact PySem.EqMixed.ne_str_bool (fin_bl I q (by simp))
  | int j=>obtain⟨t',rfl⟩:=ry;exact PySem.EqMixed.ne_str_int (fin_bl I q (by simp))
  | str j=>obtain⟨t',rfl⟩:=ry;exact ne_str (fin_bl I q (congrArg not dec_str))
  | _=>exact absurd (show false=true from hs) Bool.false_ne_true
 | byt i=>
  obtain⟨t,rfl⟩:=rx
  cases y with
  | byt j=>obtain⟨t',rfl⟩:=ry;exact PySem.W.ne_bytes (fin_bl I q (congrArg not dec_byt))
  | _=>exact absurd (show false=true from hs) Bool.false_ne_true
 | _=>cases y <;> exact absurd (show false=true from hs) Bool.false_ne_true
theorem op_lt:OpR X (compareOp .Lt) (rI0 fun i j=>.bl (decide (i<j))):=opB0 fun _ _ _ _ _ _ _ q=>lt_int q
theorem op_gt:OpR X (compareOp .Gt) (rI0 fun i j=>.bl (decide (j<i))):=opB0 fun _ _ _ _ _ _ _ q=>gt_int q
theorem op_ge:OpR X (compareOp .GtE) (rI0 fun i j=>.bl (decide (j<=i))):=opB0 fun _ _ _ _ _ _ _ q=>ge_int q
theorem OpR.or {f:Value->Value->Sem Value}{r r':R2} (h:OpR X f r) (h':OpR X f r'):OpR X f (fun x y H Q=>r x y H Q\/r' x y H Q):=by
 intro pins s σ H x y v u Q I rx ry q
 rcases q with q | q
 ·exact h pins s σ H x y v u Q I rx ry q
 ·exact h' pins s σ H x y v u Q I rx ry q
theorem nomark (b:Expr) {op:CmpOp} (h:op≠.In:=by decide) (h2:op≠.NotIn:=by decide):behindInMarks op b=false:=by
 have e1:(op == CmpOp.In)=false:=by cases op <;> first | rfl | exact absurd rfl h
 have e2:(op == CmpOp.NotIn)=false:=by cases op <;> first | rfl | exact absurd rfl h2
 cases b <;> simp [behindInMarks,e1,e2]
theorem pe_cmpR {op:CmpOp}{r:R2} (ho:OpR X (compareOp op) r) (ha:PE X a ta) (hb:PE X b tb) (hm:behindInMarks op b=false):PE X (.Compare a [op] [b] pos) (tOp r ta tb):=by
 intro pins s σ H Q I h
 exact wpAny_Compare1 (binT ha hb I h fun v u s2 x y H2 I2 rx ry q=>ho pins s2 σ H2 x y v u Q I2 rx ry q) hm
def tTest (t:TE):TT:=fun σ H Q=>t σ H fun x H'=>∃ k,x=.bl k/\Q k H'
theorem pt_cmpR {op:CmpOp}{r:R2} (ho:OpR X (compareOp op) r) (ha:PE X a ta) (hb:PE X b tb) (hm:behindInMarks op b=false):PT X (.Compare a [op] [b] pos) (tTest (tOp r ta tb)):=by
 intro pins s σ H Q I h
 refine wpAny_isTrue_Compare1 (thn (ha pins s σ H _ I h) fun v s1 ⟨x,H1,I1,r1,q1⟩=>thn (hb pins s1 σ H1 _ I1 q1) fun u s2 ⟨y,H2,I2,r2,q2⟩=>
  thn (ho pins s2 σ H2 x y v u _ I2 r1 r2 q2) fun c s3 ⟨z,H3,I3,r3,k,e,q3⟩=>?_) hm
 subst e
 cases r3
 exact wpAny_truthy_bool ⟨H3,I3,q3⟩
def TruV (K:PySem.W.Frag) (x:V) (H:Hp) (k:Bool):Prop:=
 match x with
 | .non=>k=false
 | .bl b=>k=b
 | .int i=>k=(i != 0)
 | .str y=>y.length<=sizeLine/\k=((y.length:Int) != 0)
 | .byt y=>y.size<=sizeLine/\k=((y.size:Int) != 0)
 | .ref p=>(∃ xs,SqL K H p xs/\k=!xs.isEmpty)\/(∃ xs,SqT K H p xs/\k=!xs.isEmpty)\/∃ kvs,H p=some (.dK kvs)/\k=!kvs.isEmpty
 | _=>False
theorem isEmpty_kv {κ:Type} {kvs:List (κ×V)}{vs:List (κ×Value)} (r:KV kvs vs):(!vs.isEmpty)=!kvs.isEmpty:=by
 cases r <;> rfl
theorem isEmpty_of {xs:List V}{its:List Value} (r:Vals xs its):(!its.toArray.isEmpty)=!xs.isEmpty:=by
 cases r <;> simp
theorem line63:(sizeLine:Nat)<2 ^ 63:=by rw[sizeLine_eq];decide
theorem tru_ok:TruR X (fun x H Q=>∃ k,TruV X.K x H k/\Q k H):=by
 intro pins s σ H x v Q I rx h
 obtain⟨k,e,q⟩:=h
 have hl:=line63
 have hs:sizeLine=16777216:=sizeLine_eq
 cases x with
 | non=>
  cases rx
  have e':k=false:=e
  subst e'
  exact truthy_none ⟨H,I,q⟩
 | bl b=>
  cases rx
  have e':k=b:=e
  subst e'
  exact wpAny_truthy_bool ⟨H,I,q⟩
 | int i=>
  obtain⟨t,rfl⟩:=rx
  have e':k=(i != 0):=e
  subst e'
  exact PySem.P.truthy_int ⟨H,I,q⟩
 | str y=>
  obtain⟨t,rfl⟩:=rx
  obtain⟨hy,e'⟩:y.length<=sizeLine/\k=((y.length:Int) != 0):=e
  subst e'
  exact PySem.P.truthy_str (by lia) ⟨H,I.tok _,q⟩
 | byt y=>
  obtain⟨t,rfl⟩:=rx
  obtain⟨hy,e'⟩:y.size<=sizeLine/\k=((y.size:Int) != 0):=e
  subst e'
  exact PySem.W.truthy_bytes (by lia) ⟨H,I.tok _,q⟩
 | ref p=>
  cases rx
  have e':(∃ xs,SqL X.K H p xs/\k=!xs.isEmpty)\/(∃ xs,SqT X.K H p xs/\k=!xs.isEmpty)\/∃ kvs,H p=some (.dK kvs)/\k=!kvs.isEmpty:=e
  rcases e' with ⟨xs,hx,e'⟩ | ⟨xs,hx,e'⟩ | ⟨kvs,hx,e'⟩
  ·subst e'
   obtain⟨its,r,pl,hz⟩:=I.list hx
   have hlen:=r.length
   exact wpAny_truthy_list pl.isList (by simp only[List.size_toArray];lia) ⟨H,I.tok _,by rw[isEmpty_of r];exact q⟩
  ·subst e'
   obtain⟨its,r,pl,hz⟩:=I.tuple hx
   have hlen:=r.length
   exact truthy_tuple pl (by simp only[List.size_toArray];lia) ⟨H,I.tok _,by rw[isEmpty_of r];exact q⟩
  ·subst e'
   obtain⟨hz,hS,vs,r,m⟩:kvs.length<=sizeLine/\(p == sysModules)=false/\∃ vs,KV kvs vs/\s.heap.DictOf (mixKind X.prog X.w) p vs:=I.hok p _ hx
   have hlen:kvs.length=vs.length:=Paired.length r
   exact wpAny_truthy_dict hS m (by lia) ⟨H,I.tok _,by rw[isEmpty_kv r];exact q⟩
 | _=>exact (show False from e).elim
theorem pt_truth (ha:PE X a ta) (he:∀ whole,isTrue a X.env whole=(do let v <- whole;standAt a.pos;holding [v] (truthy v))) :
  PT X a (fun σ H Q=>ta σ H fun x H'=>∃ k,TruV X.K x H' k/\Q k H'):=by
 intro pins s σ H Q I h
 exact isTrue_plain (thn (ha pins s σ H _ I h) fun v s1 ⟨x,H1,I1,r1,q1⟩=>tru_ok pins s1 σ H1 x v Q I1 r1 q1) (he _)
theorem op_add_str:OpR X (binaryOp .Add) (fun x y H Q=>∃ i j,x=.str i/\y=.str j/\i.length+j.length<=sizeLine/\Q (.str (i++j)) H):=by
 intro pins s σ H x y v u Q I rx ry h
 obtain⟨i,j,rfl,rfl,hz,q⟩:=h
 obtain⟨t,rfl⟩:=rx
 obtain⟨t',rfl⟩:=ry
 exact add_str (fun t' tk=>⟨.str (i++j),H,I.tok _,⟨_,rfl⟩,q⟩) hz
theorem vals1 {x:V}{us:List Value} (r:Vals [x] us):∃ u,us=[u]/\RelV x u:=by
 cases r with
 | cons r1 r2=>cases r2;exact⟨_,rfl,r1⟩
theorem call_int1:CallR X (.type "int") (fun xs H Q=>(∃ i,xs=[.int i]/\Q (.int i) H)\/∃ k,xs=[.bl k]/\Q (.int (if k then 1 else 0)) H):=by
 intro pins s σ H xs us Q I r h
 rcases h with ⟨i,rfl,q⟩ | ⟨k,rfl,q⟩
 ·obtain⟨u,rfl,t,rfl⟩:=vals1 r
  exact call_int_int ⟨.int i,H,I,⟨_,rfl⟩,q⟩
 ·obtain⟨u,rfl,r1⟩:=vals1 r
  cases r1
  exact call_int_bool ⟨.int (if k then 1 else 0),H,I.tok _,⟨_,rfl⟩,q⟩
end
end L2
namespace L2
open PySem PySem.Spec PyProof.Rows
section
variable {prog:Program}{w:World}{A:Around}{E:Value->Shared->Prop}{s:Shared}{K:PySem.W.Frag}{x dx C f:Addr}{mA:Str->Option Value}{name:Str}{v:Value}
end
theorem RelO.some_of {v:V}{o:Option Value} (r:RelO (some v) o):∃ u,o=some u/\RelV v u:=by
 cases o with
 | none=>exact (show False from r).elim
 | some u=>exact⟨u,rfl,r⟩
section
variable {P:Program}{w:World}{H H':Hp}{h h':Heap}{a C dx:Addr}{fs fs':List (Str×V)}
end
section
variable {X:Cx}{pins:List (Addr×Obj)} {σ:St} {H:Hp}{s:Shared}{a C dx:Addr}{fs:List (Str×V)}{f:Str}{v:V}{A:Around}{E:Value->Shared->Prop}
end
section
variable {X:Cx}{o e value:Expr}{f:Str}{pos pos' tpos:Pos}{ta tv:TE}
end
section
variable {X:Cx}{pins:List (Addr×Obj)} {σ:St} {H:Hp}{s:Shared}{A:Around}{E:Value->Shared->Prop}{Q:Value->Shared->Prop}{c:Value}{b:Bool}
end
end L2
namespace L2
open PySem PySem.Spec PyProof.Rows
structure Room (k:Nat) (A:Around):Prop where
 hd:A.handled=none
 dp:A.depth+3 * k+5<recursionLimit
 un:A.units+16 * k+200<cLine
theorem Room.mono {j k:Nat}{A:Around} (r:Room k A) (h:j<=k):Room j A:=⟨r.hd,by have:=r.dp;lia,by have:=r.un;lia⟩
theorem Room.deeper {k:Nat}{A:Around} (r:Room (k+1) A) (env:Env):Room k (A.deeper env):=
 ⟨r.hd,by have:=r.dp;show A.depth+1+3 * k+5<_;lia,by have:=r.un;show A.units+3+16 * k+200<_;lia⟩
theorem Room.depth {k:Nat}{A:Around} (r:Room k A):A.depth<recursionLimit:=by have:=r.dp;lia
theorem Room.units {k:Nat}{A:Around} (r:Room k A):A.units+64<cLine:=by have:=r.un;lia
def tNil:TA:=fun _ H Q=>Q [] H
def tCons (ta:TE) (tr:TA):TA:=fun σ H Q=>ta σ H fun x H1=>tr σ H1 fun xs H2=>Q (x::xs) H2
section
variable {X:Cx}{e:Expr}{es:List Expr}{te:TE}{t:TA}{pos:Pos}
theorem pa_nil:PA X [] tNil:=fun _ _ _ _ H Q I h=>Calls.spliced_nil ⟨[],H,I,.nil,h⟩
theorem pa_cons (ha:PE X e te) (hr:PA X es t) (hs:starEach (e::es) X.env=(false,eval e X.env)::starEach es X.env:=by rfl):PA X (e::es) (tCons te t):=by
 intro pos pins s σ H Q I h
 rw[hs]
 show wpAny _ _ (spliced ((false,eval e X.env)::backTo pos (starEach es X.env))) _ _ s
 refine Calls.spliced_cons (thn (ha pins s σ H _ I h) fun u s1 ⟨x,H1,I1,r1,q1⟩=>?_)
 exact thn (hr pos pins s1 σ H1 _ I1 q1) fun us s2 ⟨xs,H2,I2,r2,q2⟩=>⟨x::xs,H2,I2,.cons r1 r2,q2⟩
def tTup (t:TA):TE:=fun σ H Q=>t σ H fun xs H1=>xs.length<=sizeLine/\∀ p,H1 p=none->Q (.ref p) (upd H1 p (.tup xs))
def tLst (t:TA):TE:=fun σ H Q=>t σ H fun xs H1=>xs.length<=sizeLine/\∀ p,H1 p=none->Q (.ref p) (upd H1 p (.lst xs))
theorem pe_tup {x1} (h:PA X es t):PE X (.Tuple es x1 pos) (tTup t):=by
 intro pins s σ H Q I hq
 refine wpAny_Tuple_spliced (thn (h pos pins s σ H _ I hq) fun us s1 ⟨xs,H1,I1,r,z,q⟩=>⟨by rw[<- r.length];exact z,?_⟩)
 have hf:H1 s1.heap.objs.size=none:=I1.hok.fresh (Nat.le_refl _)
 refine⟨.ref s1.heap.objs.size,upd H1 s1.heap.objs.size (.tup xs),I1.laid (t':=s1.toks) (fun b u e=>Heap.get?_push_of_some _ e) (Nat.le_refl _) ?_,rfl,q _ hf⟩
 exact⟨tupD_new z,us,r,⟨_,Heap.get?_push_size _ rfl,rfl,_,rfl⟩⟩
theorem pe_lst (h:PA X es t):PE X (.List es pos) (tLst t):=by
 intro pins s σ H Q I hq
 refine wpAny_List_spliced (thn (h pos pins s σ H _ I hq) fun us s1 ⟨xs,H1,I1,r,z,q⟩=>⟨by rw[<- r.length];exact z,?_⟩)
 have hf:H1 s1.heap.objs.size=none:=I1.hok.fresh (Nat.le_refl _)
 refine⟨.ref s1.heap.objs.size,upd H1 s1.heap.objs.size (.lst xs),I1.laid (t':=s1.toks) (fun b u e=>Heap.get?_push_of_some _ e) (Nat.le_refl _) ?_,rfl,q _ hf⟩
 exact⟨z,us,0,r,Heap.get?_push_size _ rfl⟩
end
abbrev Sp:=List V->Hp->VK->XK->Prop
abbrev CXT:=List Env->Hp->Shared->XK->Value->Shared->Prop
structure Env0 (P:Program) (w:World) (K:PySem.W.Frag) (mg:Str->Option Value) (base:Heap) (A:Around) (outer:List Env) (s:Shared) (H:Hp):Prop where
 frames:A.frames=some outer
 mod:Mod K mg base
 bs:∀ b o,base.get? b=some o->s.heap.get? b=some o/\H b=none
 bsz:base.objs.size<=s.heap.objs.size
 funs:s.heap.FunFrames base outer
 frf:∀ b∈frs outer,H b=none
 hok:HOk P w H s.heap
 bare:AllBare s.gens
def CE (outer:List Env) (P:Program) (w:World) (H:Hp) (s:Shared) (Q:VK) (u:Value) (s':Shared):Prop:=
 ∃ v H',s'.os=s.os/\AllBare s'.gens/\Un (frs outer) [] H H' s.heap s'.heap/\HOk P w H' s'.heap/\RelV v u/\Q v H'
def CR (CX:CXT) (outer:List Env) (P:Program) (w:World) (H:Hp) (s:Shared) (Q:VK) (E:XK) (r:Result) (s':Shared):Prop:=
 match r with
 | .ok (.ret u)=>CE outer P w H s Q u s'
 | .ok _=>False
 | .error e=>CX outer H s E e s'
structure FnOk (P:Program) (w:World) (K:PySem.W.Frag) (mg:Str->Option Value) (base:Heap) (CX:CXT) (k:Nat) (f:Addr) (fd:FuncData) (ps:List Str) (sp:Sp):Prop where
 len:∀ vs H Q E,sp vs H Q E->vs.length=ps.length
 run:∀ (A:Around) (outer:List Env) (s:Shared) (H:Hp) (args:Args) (us:List Value) (vs:List V) (Q:VK) (E:XK),Room k A->Env0 P w K mg base A outer s H->BindsTo s fd args (ps.zip us)->Vals vs us->sp vs H Q E ->
  codeAny (model P w) A (.call (.ref f) args) (CR CX outer P w H s Q E) s
theorem FnOk.mono {P:Program}{w:World}{K:PySem.W.Frag}{mg:Str->Option Value}{base:Heap}{CX:CXT}{j k:Nat}{f:Addr}{fd:FuncData}{ps:List Str}{sp:Sp} (F:FnOk P w K mg base CX j f fd ps sp) (h:j<=k) :
  FnOk P w K mg base CX k f fd ps sp:=⟨F.len,fun A outer s H args us vs Q E hr=>F.run A outer s H args us vs Q E (hr.mono h)⟩
section
variable {X:Cx}{pins:List (Addr×Obj)} {σ:St} {H:Hp}{s s':Shared}
theorem Inv.env0 (I:Inv X pins σ H s):Env0 X.prog X.w X.K X.mg X.base X.A X.stack s H:=
 ⟨I.ok.frames,I.ok.mod,I.bs,Nat.le_trans I.ok.bsz I.sz,I.stack,I.stkFree,I.hok,I.bare⟩
theorem Inv.after {Q:VK}{u:Value} (I:Inv X pins σ H s) (h:CE X.stack X.prog X.w H s Q u s'):EP X pins σ Q u s':=by
 obtain⟨v,H',os,bare,un,hok,r,q⟩:=h
 obtain⟨hh,g,d,t,os'⟩:=s'
 obtain rfl:os'=s.os:=os
 exact⟨v,H',I.call (h':=hh) (g':=g) (d':=d) (t':=t) (ch:=[]) un hok bare (fun b z=>absurd z (by simp)),r,q⟩
end
def tCall (sp:Sp) (dvs:List V) (E:XK) (t:TA):TE:=fun σ H Q=>t σ H fun vs H1=>sp (vs++dvs) H1 Q E
def Binds (K:PySem.W.Frag) (fd:FuncData) (ps:List Str) (ds:List Value):Prop:=
 ∀ (s:Shared) (us:List Value),K.In s.heap->(us++ds).length=ps.length->BindsTo s fd ⟨us,[]⟩ (ps.zip (us++ds))
theorem Binds.all {K:PySem.W.Frag}{fd:FuncData}{ps:List Str} (h:∀ us:List Value,us.length=ps.length->bindArgs fd ⟨us,[]⟩=pure (ps.zip us)):Binds K fd ps []:=fun s us _ hl=>by
 rw[List.append_nil]at hl ⊢
 exact .of_eq (h us hl)
def Passes (CX:CXT) (X:Cx) (E:XK):Prop:=∀ (pins:List (Addr×Obj)) (σ:St) (H:Hp) (s:Shared) (e:Value) (s':Shared),Inv X pins σ H s->CX X.stack H s E e s'->X.xe e s'
section
variable {X:Cx}{CX:CXT}{k:Nat}{f C:Addr}{fd:FuncData}{ps:List Str}{sp:Sp}{dvs:List V}{ds:List Value}{E:XK}{x m:Str}{p pos apos:Pos}{e o:Expr}{es:List Expr}{ta:TE}{t:TA}
theorem run_fn {pins:List (Addr×Obj)} {σ:St} {H:Hp}{s:Shared}{Q:VK}{us:List Value}{vs:List V} (F:FnOk X.prog X.w X.K X.mg X.base CX k f fd ps sp) (hr:Room k X.A) (hb:Binds X.K fd ps ds) (hd:Vals dvs ds) (hx:Passes CX X E)
  (I:Inv X pins σ H s) (r:Vals vs us) (h:sp (vs++dvs) H Q E):wpAny (model X.prog X.w) X.A (call (.ref f) us) (EP X pins σ Q) X.xe s:=by
 have r2:Vals (vs++dvs) (us++ds):=r.append hd
 have hl:(us++ds).length=ps.length:=by rw[<- r2.length];exact F.len _ _ _ _ h
 refine wpAny_call (codeAny_mono (F.run X.A X.stack s H ⟨us,[]⟩ (us++ds) (vs++dvs) Q E hr I.env0 (hb s us I.kIn hl) r2 h) fun r s' hq=>?_)
 cases r with
 | error e=>exact hx pins σ H s e s' I hq
 | ok fl=>
  cases fl with
  | ret u=>exact I.after hq
  | next=>exact False.elim hq
  | brk=>exact False.elim hq
  | cont=>exact False.elim hq
theorem pe_call (F:FnOk X.prog X.w X.K X.mg X.base CX k f fd ps sp) (hr:Room k X.A) (hg:Gl X x) (hm:X.mg x=some (.ref f)) (hk:PySem.W.keepIn X.K (.ref f)=true) (hb:Binds X.K fd ps ds) (hd:Vals dvs ds) (hx:Passes CX X E)
  (ha:PA X (e::es) t) (hdb:(x == ("__debug__" : Str))=false:=by decide) (he:starEach (e::es) X.env=(false,eval e X.env)::starEach es X.env:=by rfl) (hpl:(backTo pos (starEach es X.env)).any (·.1)=false:=by rfl) :
  PE X (.Call (.Name x p) (e::es) [] pos) (tCall sp dvs E t):=by
 intro pins s σ H Q I h
 refine wpAny_Call_Name_kw (ld_glob I hg hm ?_ hdb)
 refine PySem.W.callWith_K (h₀:=X.base) I.ok.mod.kin hk (thn (ha pos pins s σ H _ I h) fun us s1 ⟨vs,H1,I1,r,q⟩=>⟨I1.kIn,?_⟩) he hpl
 exact run_fn F hr hb hd hx I1 r q
end
section
variable {X:Cx}{CX:CXT}{k:Nat}{f C:Addr}{fd:FuncData}{ps ks:List Str}{sp:Sp}{E:XK}{x m:Str}{p pos apos kpos:Pos}{e o:Expr}{es:List Expr}{kws:List Keyword}{te ta:TE}{t tk:TA}{nm:Option Str}
variable {g:List Value->List Value->List Value}{gV:List V->List V->List V}
end
structure FnScope (N P:List Str) (sc:Scope):Prop where
 kind:sc.kind=.function
 co:sc.isCoroutine=false
 gen:sc.isGenerator=false
 nd:N.Nodup
 pre:N.take P.length=P
 par:∀ x∈P,sc.names.lookup x=some .local\/sc.names.lookup x=some .cell
 nofree:∀ y∈sc.names,y.2≠.free
theorem bindL_out {kindOf:Str->Option NameKind}{x:Str}:∀ {binds:List (Str×Value)}{m:Str->Option Value},(∀ v,(x,v) ∉ binds)->bindL kindOf binds m x=m x
 | [],_,_=>rfl
 | (n,v)::r,m,h=>by
  unfold bindL
  rw[bindL_out fun w hw=>h w (List.mem_cons_of_mem _ hw)]
  split
  ·have:x≠n:=by rintro rfl;exact h v List.mem_cons_self
   simp [this]
  ·rfl
theorem bindC_out {kindOf:Str->Option NameKind}{x:Str}:∀ {binds:List (Str×Value)}{m:Str->Option Value},(∀ v,(x,v) ∉ binds)->bindC kindOf binds m x=m x
 | [],_,_=>rfl
 | (n,v)::r,m,h=>by
  unfold bindC
  rw[bindC_out fun w hw=>h w (List.mem_cons_of_mem _ hw)]
  split
  ·rfl
  ·have:x≠n:=by rintro rfl;exact h v List.mem_cons_self
   simp [this]
theorem bindL_get {kindOf:Str->Option NameKind}{x:Str}{v:Value}:∀ {P:List Str}{vs:List Value}{i:Nat}{m:Str->Option Value},P.Nodup->P[i]?=some x->vs[i]?=some v->kindOf x=some .local ->
  bindL kindOf (P.zip vs) m x=some v
 | [],_,_,_,_,h,_,_=>by simp at h
 | _::_,[],_,_,_,_,h,_=>by simp at h
 | p::P,w::vs,0,m,nd,h1,h2,hk=>by
  simp at h1 h2;subst h1;subst h2
  show bindL kindOf ((p,w)::P.zip vs) m p=_
  unfold bindL
  rw[bindL_out fun v hv=>(List.nodup_cons.mp nd).1 (List.of_mem_zip hv).1,if_pos hk]
  simp
 | p::P,w::vs,i+1,m,nd,h1,h2,hk=>by
  show bindL kindOf ((p,w)::P.zip vs) m x=_
  unfold bindL
  exact bindL_get (i:=i) (List.nodup_cons.mp nd).2 (by simpa using h1) (by simpa using h2) hk
theorem bindC_get {kindOf:Str->Option NameKind}{x:Str}{v:Value}:∀ {P:List Str}{vs:List Value}{i:Nat}{m:Str->Option Value},P.Nodup->P[i]?=some x->vs[i]?=some v->kindOf x≠some .local ->
  bindC kindOf (P.zip vs) m x=some v
 | [],_,_,_,_,h,_,_=>by simp at h
 | _::_,[],_,_,_,_,h,_=>by simp at h
 | p::P,w::vs,0,m,nd,h1,h2,hk=>by
  simp at h1 h2;subst h1;subst h2
  show bindC kindOf ((p,w)::P.zip vs) m p=_
  unfold bindC
  rw[bindC_out fun v hv=>(List.nodup_cons.mp nd).1 (List.of_mem_zip hv).1,if_neg hk]
  simp
 | p::P,w::vs,i+1,m,nd,h1,h2,hk=>by
  show bindC kindOf ((p,w)::P.zip vs) m x=_
  unfold bindC
  exact bindC_get (i:=i) (List.nodup_cons.mp nd).2 (by simpa using h1) (by simpa using h2) hk
def start (N:List Str) (vs:List V):St:=vs.map some++List.replicate (N.length-vs.length) none
def cxOf (CX:CXT) (P:Program) (w:World) (K:PySem.W.Frag) (mg:Str->Option Value) (base:Heap) (N:List Str) (qual:Str) (scope:Scope) (f:Addr) (cd:Value) (A:Around) (outer:List Env) (s:Shared) (H:Hp) (E:XK):Cx where
 prog:=P
 w:=w
 K:=K
 mg:=mg
 base:=base
 A:=A.deeper (envOfC qual scope s.heap.objs.size f cd)
 N:=N
 s₀:=s
 H₀:=H
 env:=envOfC qual scope s.heap.objs.size f cd
 outer:=outer
 stack:=envOfC qual scope s.heap.objs.size f cd::outer
 ex:=[]
 calm:=true
 fn:=fun _=>true
 pn:=[]
 xe:=fun e s'=>wpAny (model P w) (A.deeper (envOfC qual scope s.heap.objs.size f cd)) (leaving (envOfC qual scope s.heap.objs.size f cd) e) (fun _ s''=>CX outer H s E e s'') (fun e' s''=>CX outer H s E e' s'') s'
theorem cell_has {sc:Scope}{n:Nat}{x:Str} (h:sc.names.lookup x=some .cell):∃ c,(cellsFrom n sc.names []).lookup x=some c:=by
 have q:=PySem.W.cellsFrom_some sc.names n [] (.inl h)
 exact Option.isSome_iff_exists.mp q
theorem inv_start {CX:CXT}{P:Program}{w:World}{K:PySem.W.Frag}{mg:Str->Option Value}{base:Heap}{N ps:List Str}{qual:Str}{scope:Scope}{f:Addr}{cd:Value}{A:Around}{outer:List Env}{s s1:Shared}{H:Hp}{E:XK}{us:List Value}{vs:List V}
  (S:FnScope N ps scope) (hd:A.handled=none) (e0:Env0 P w K mg base A outer s H) (hl:vs.length=ps.length) (r:Vals vs us)
  (x:InCallC s s.heap.objs.size (bindL (envOfC qual scope s.heap.objs.size f cd).kindOf (ps.zip us) fun _=>none) (cellsFrom (s.heap.objs.size+1) scope.names []) (bindC (envOfC qual scope s.heap.objs.size f cd).kindOf (ps.zip us) fun _=>none) s1) :
  Inv (cxOf CX P w K mg base N qual scope f cd A outer s H E) [] (start N vs) H s1:=by
 have hpl:ps.length<=N.length:=by have:=congrArg List.length S.pre;rw[List.length_take]at this;lia
 obtain⟨h1,tk,rfl,hk⟩:=x.done
 have noA:∀ b:Addr,b ∉ (cxOf CX P w K mg base N qual scope f cd A outer s H E).ex:=fun b z=>absurd (show b∈([]:List Addr) from z) (by simp)
 refine⟨⟨e0.mod,S.kind,rfl,rfl,Nat.le_refl _,fun y z c h1 h2=>?_,fun y hy=>?_,fun y c _ h=>?_,fun _=>hd,Around.frames_deeper e0.frames,.inr ⟨rfl,rfl⟩,fun b z=>absurd z (noA b),e0.bs,e0.bsz,fun b _ _=>noA b,fun b z=>absurd z (noA b),e0.funs,e0.frf⟩,
  rfl,e0.bare,Un.kept hk,⟨_,x.toInCall.ns,fun i y v h1 h2 h3=>?_⟩,fun y c h=>⟨_,x.cell y c h⟩,e0.hok.fresh (Nat.le_refl _),fun y c h=>?_,fun p hp=>absurd (show p∈([]:List (Addr×Obj)) from hp) (by simp),e0.hok.kept hk,?_⟩
 ·exact name_of_addr x.apart (PySem.mem_of_lookup h1) (PySem.mem_of_lookup h2)
 ·have hy:scope.names.lookup y=some .cell\/scope.names.lookup y=some .free:=hy
  rcases hy with hy | hy
  ·exact cell_has hy
  ·exact absurd rfl (S.nofree _ (PySem.mem_of_lookup hy))
 ·exact Nat.le_of_lt (x.above y c (PySem.mem_of_lookup h))
 ·have hi:i<vs.length:=by
   unfold start at h2
   by_cases hi:i<vs.length
   ·exact hi
   ·rw[List.getElem?_append_right (by simpa using hi)]at h2
    rw[List.getElem?_replicate]at h2
    split at h2 <;> cases h2
  have ha:vs[i]?=some v:=by
   unfold start at h2
   rw[List.getElem?_append_left (by simpa using hi),List.getElem?_map]at h2
   cases e:vs[i]? with
   | none=>rw[e]at h2;cases h2
   | some a=>rw[e]at h2;cases h2;rfl
  obtain⟨u,hu,rv⟩:=r.get ha
  have hp:ps[i]?=some y:=by
   rw[<- S.pre,List.getElem?_take_of_lt (by lia)];exact h1
  have ndP:ps.Nodup:=by rw[<- S.pre];exact S.nd.sublist (List.take_sublist _ _)
  refine⟨u,rv,?_⟩
  rcases S.par y (List.mem_of_getElem? hp) with k | k
  ·exact .inl ⟨k,bindL_get ndP hp hu k⟩
  ·obtain⟨c,e⟩:=cell_has (n:=s.heap.objs.size+1) k
   refine .inr ⟨.inl k,c,e,?_⟩
   have q:=x.cell y c e
   rw[bindC_get ndP hp hu (by show scope.names.lookup y≠_;rw[k];decide)]at q
   exact q
 ·exact e0.hok.fresh (Nat.le_of_lt (x.above y c (PySem.mem_of_lookup h)))
 ·unfold start
  show _=N.length
  rw[List.length_append,List.length_map,List.length_replicate]
  lia
theorem fn_of {CX:CXT}{P:Program}{w:World}{K:PySem.W.Frag}{mg:Str->Option Value}{base:Heap}{k:Nat}{f:Addr}{name qual:Str}{params:Arguments}{body:List Stmt}{scope:Scope}{dV kV doc pm cdv ct oc:Value}{an od:Option Addr}
  {osl:Array (Option Value)}{N ps:List Str}{sp:Sp} (lk:K.lookup f=some ⟨oc,od,.func (PySem.W.fnOf name qual params body scope dV kV doc pm an cdv ct),osl⟩) (hcd:PySem.W.codeIn K cdv qual=true) (S:FnScope N ps scope)
  (len:∀ vs H Q E,sp vs H Q E->vs.length=ps.length)
  (hbody:∀ (A:Around) (outer:List Env) (s:Shared) (H:Hp) (vs:List V) (Q:VK) (E:XK),Room k (A.deeper (envOfC qual scope s.heap.objs.size f cdv))->sp vs H Q E ->
   ∃ t,PSs (cxOf CX P w K mg base N qual scope f cdv A outer s H E) body t/\t { nx:=fun _ H'=>Q .non H',rt:=Q } (start N vs) H) :
  FnOk P w K mg base CX (k+1) f (PySem.W.fnOf name qual params body scope dV kV doc pm an cdv ct) ps sp:=by
 refine⟨len,fun A outer s H args us vs Q E hr e0 hb r hsp=>?_⟩
 have hl:=len _ _ _ _ hsp
 have KX:K.In s.heap:=e0.mod.kin.keeps fun b o e=>(e0.bs b o e).1
 have lim:s.heap.NoLimit:=e0.mod.nolimit.keeps fun b o e=>(e0.bs b o e).1
 have hkind:∀ y∈ps.zip us,scope.names.lookup y.1=some .local\/(scope.names.lookup y.1=some .cell/\((cellsFrom (s.heap.objs.size+1) scope.names []).lookup y.1).isSome=true):=fun⟨n,v⟩ hy=>by
  rcases S.par n (List.of_mem_zip hy).1 with q | q
  ·exact .inl q
  ·exact .inr ⟨q,PySem.W.cellsFrom_some _ _ _ (.inl q)⟩
 refine codeAny_call_function hr.depth (KX _ _ lk) rfl S.co S.gen rfl (PySem.W.codeRec_of KX hcd) (hb _ _ _ _ ?_)
 refine wpAny_newFunctionEnv_cells S.kind hkind fun env he s1 x=>?_
 subst he
 refine⟨lim.keeps x.toInCall.keep,codeAny_func ?_⟩
 obtain⟨t,ht,hq⟩:=hbody A outer s H vs Q E (hr.deeper _) hsp
 have I:Inv (cxOf CX P w K mg base N qual scope f cdv A outer s H E) [] (start N vs) H s1:=inv_start S hr.hd e0 hl r x
 refine wpAny_mono (ht [] s1 (start N vs) H _ I hq) (fun fl s' hs=>?_) fun e s' hs=>hs
 have fin:∀ {σ':St} {H':Hp}{v:V}{u:Value},Inv (cxOf CX P w K mg base N qual scope f cdv A outer s H E) [] σ' H' s'->RelV v u->Q v H'->CE outer P w H s Q u s':=
  fun {σ' H' v u} J rv q=>⟨v,H',J.os,J.bare,J.base,J.hok,rv,q⟩
 cases fl with
 | ret u=>
  obtain⟨v,σ',H',J,rv,q⟩:=hs
  exact fin J rv q
 | next=>
  obtain⟨σ',H',J,q⟩:=hs
  exact fin (v:=V.non) (u:=Value.none) J rfl q
 | brk=>
  obtain⟨_,_,_,q⟩:=hs
  exact False.elim q
 | cont=>
  obtain⟨_,_,_,q⟩:=hs
  exact False.elim q
end L2
namespace L2
open PySem PySem.Spec PyProof.Rows
section
variable {X:Cx}{x:Str}{p pos:Pos}{e:Expr}{es:List Expr}{t:TA}{id T:String}{r:List V->Hp->VK->Prop}
def tCB (r:List V->Hp->VK->Prop) (t:TA):TE:=fun σ H Q=>t σ H fun vs H1=>r vs H1 Q
theorem pe_callB (hc:CallR X (.builtin id) r) (hg:Gl X x) (hm:X.mg x=none) (hv:bootBuiltins x=some (.builtin id)) (ha:PA X (e::es) t) (hn:x≠"__name__":=by decide) (hdb:(x == ("__debug__" : Str))=false:=by decide)
  (he:starEach (e::es) X.env=(false,eval e X.env)::starEach es X.env:=by rfl) (hpl:(backTo pos (starEach es X.env)).any (·.1)=false:=by rfl):PE X (.Call (.Name x p) (e::es) [] pos) (tCB r t):=by
 intro pins s σ H Q I h
 refine wpAny_Call_Name_kw (ld_blt I hg hm hv ?_ hn hdb)
 exact PyProof.Rows.callWith_builtin1 (thn (ha pos pins s σ H _ I h) fun us s1 ⟨vs,H1,I1,r1,q1⟩=>hc pins s1 σ H1 vs us Q I1 r1 q1) he hpl
theorem pe_callTy (hc:CallR X (.type T) r) (hg:Gl X x) (hm:X.mg x=none) (hv:bootBuiltins x=some (.type T)) (ha:PA X (e::es) t) (hn:x≠"__name__":=by decide) (hdb:(x == ("__debug__" : Str))=false:=by decide)
  (he:starEach (e::es) X.env=(false,eval e X.env)::starEach es X.env:=by rfl) (hpl:(backTo pos (starEach es X.env)).any (·.1)=false:=by rfl):PE X (.Call (.Name x p) (e::es) [] pos) (tCB r t):=by
 intro pins s σ H Q I h
 refine wpAny_Call_Name_kw (ld_blt I hg hm hv ?_ hn hdb)
 exact PyProof.Rows.callWith_type1 (thn (ha pos pins s σ H _ I h) fun us s1 ⟨vs,H1,I1,r1,q1⟩=>hc pins s1 σ H1 vs us Q I1 r1 q1) he hpl
end
end L2
namespace L2
open PySem PySem.Spec PyProof.Rows
section
variable {κ:Type} [DecidableEq κ]
def valV (kvs:List (κ×V)) (k:κ):Option V:=(kvs.find? fun kv=>decide (kv.1=k)).map (·.2)
def putK (kvs:List (κ×V)) (k:κ) (v:V):List (κ×V):=
 if (kvs.any fun kv=>decide (kv.1=k))=true then kvs.map (fun kv=>if kv.1=k then (kv.1,v) else kv) else kvs++[(k,v)]
theorem valV_pos {p:κ×V}{r:List (κ×V)}{k:κ} (e:p.1=k):valV (p::r) k=some p.2:=by simp [valV,List.find?_cons,e]
theorem valV_neg {p:κ×V}{r:List (κ×V)}{k:κ} (e:¬p.1=k):valV (p::r) k=valV r k:=by simp [valV,List.find?_cons,e]
theorem valV_any (k:κ):∀ kvs:List (κ×V),(kvs.any fun kv=>decide (kv.1=k))=(valV kvs k).isSome
 | []=>rfl
 | p::r=>by
  rw[List.any_cons]
  by_cases e:p.1=k
  ·simp only[valV_pos e,decide_eq_true e,Bool.true_or,Option.isSome_some]
  ·rw[valV_neg e,decide_eq_false e,Bool.false_or];exact valV_any k r
theorem valV_map (k j:κ) (y:V):∀ kvs:List (κ×V),valV (kvs.map fun kv=>if kv.1=k then (kv.1,y) else kv) j=(valV kvs j).map fun x=>if j=k then y else x
 | []=>rfl
 | p::r=>by
  have ih:=valV_map k j y r
  rw[List.map_cons]
  by_cases h:p.1=k
  ·rw[if_pos h]
   by_cases e:p.1=j
   ·rw[valV_pos (p:=(p.1,y)) e,valV_pos e,Option.map_some,if_pos (e.symm.trans h)]
   ·rw[valV_neg (p:=(p.1,y)) e,valV_neg e,ih]
  ·rw[if_neg h]
   by_cases e:p.1=j
   ·rw[valV_pos (p:=p) e,valV_pos e,Option.map_some,if_neg (fun z=>h (e.trans z))]
   ·rw[valV_neg (p:=p) e,valV_neg e,ih]
theorem valV_snoc (k j:κ) (y:V):∀ kvs:List (κ×V),valV kvs k=none->valV (kvs++[(k,y)]) j=if j=k then some y else valV kvs j
 | [],_=>by
  by_cases e:k=j
  ·rw[if_pos e.symm];exact valV_pos (p:=(k,y)) e
  ·rw[if_neg (fun z=>e z.symm)];exact valV_neg (p:=(k,y)) e
 | p::r,hn=>by
  rw[List.cons_append]
  have hk:¬p.1=k:=fun z=>by rw[valV_pos z]at hn;cases hn
  rw[valV_neg hk]at hn
  have ih:=valV_snoc k j y r hn
  by_cases e:p.1=j
  ·rw[valV_pos e,valV_pos e,if_neg (fun z=>hk (e.trans z))]
  ·rw[valV_neg e,valV_neg e,ih]
theorem valV_put (kvs:List (κ×V)) (k j:κ) (y:V):valV (putK kvs k y) j=if j=k then some y else valV kvs j:=by
 unfold putK
 by_cases a:(kvs.any fun kv=>decide (kv.1=k))=true
 ·rw[if_pos a,valV_map]
  rw[valV_any]at a
  by_cases e:j=k
  ·obtain⟨x,hx⟩:=Option.isSome_iff_exists.mp a
   rw[if_pos e,e,hx,Option.map_some,if_pos rfl]
  ·rw[if_neg e]
   cases valV kvs j with
   | none=>rfl
   | some x=>rw[Option.map_some,if_neg e]
 ·rw[if_neg a]
  refine valV_snoc k j y kvs ?_
  rw[valV_any]at a
  cases q:valV kvs k with
  | none=>rfl
  | some x=>rw[q]at a;exact (a rfl).elim
theorem length_putK (kvs:List (κ×V)) (k:κ) (v:V):(putK kvs k v).length<=kvs.length+1:=by
 unfold putK
 split
 ·rw[List.length_map];lia
 ·rw[List.length_append,List.length_cons,List.length_nil];lia
theorem RelO.isSome_eq {o:Option V}{u:Option Value} (r:RelO o u):o.isSome=u.isSome:=by
 cases o with
 | none=>cases u with
  | none=>rfl
  | some _=>exact (show False from r).elim
 | some _=>cases u with
  | none=>exact (show False from r).elim
  | some _=>rfl
theorem KV.val {kvs:List (κ×V)}{vs:List (κ×Value)} (r:KV kvs vs) (k:κ):RelO (valV kvs k) (valueAt vs k):=by
 unfold KV at r
 induction r with
 | nil=>exact True.intro
 | @cons p q ps qs h t ih=>
  obtain⟨h1,h2⟩:=h
  by_cases e:p.1=k
  ·have e':q.1=k:=h1.symm.trans e
   have b:valueAt (q::qs) k=some q.2:=by simp [valueAt,List.find?_cons,e']
   rw[valV_pos e,b];exact h2
  ·have e':¬q.1=k:=fun z=>e (h1.trans z)
   have b:valueAt (q::qs) k=valueAt qs k:=by simp [valueAt,List.find?_cons,e']
   rw[valV_neg e,b];exact ih
theorem KV.any {kvs:List (κ×V)}{vs:List (κ×Value)} (r:KV kvs vs) (k:κ):(kvs.any fun kv=>decide (kv.1=k))=vs.any fun kv=>decide (kv.1=k):=by
 unfold KV at r
 induction r with
 | nil=>rfl
 | cons h t ih=>rw[List.any_cons,List.any_cons,ih,h.1]
theorem KV.repl {kvs:List (κ×V)}{vs:List (κ×Value)} (r:KV kvs vs) (k:κ) {y:V}{u:Value} (ry:RelV y u) :
  KV (kvs.map fun kv=>if kv.1=k then (kv.1,y) else kv) (vs.map fun kv=>if kv.1=k then (kv.1,u) else kv):=by
 unfold KV at r ⊢
 induction r with
 | nil=>exact .nil
 | @cons p q ps qs h t ih=>
  rw[List.map_cons,List.map_cons]
  refine .cons ?_ ih
  obtain⟨h1,h2⟩:=h
  by_cases e:p.1=k
  ·rw[if_pos e,if_pos (h1.symm.trans e)];exact⟨h1,ry⟩
  ·rw[if_neg e,if_neg (fun z=>e (h1.trans z))];exact⟨h1,h2⟩
theorem KV.put {kvs:List (κ×V)}{vs:List (κ×Value)} (r:KV kvs vs) (k:κ) {y:V}{u:Value} (ry:RelV y u):KV (putK kvs k y) (stored vs k u):=by
 unfold putK stored
 rw[r.any k]
 by_cases e:(vs.any fun kv=>decide (kv.1=k))=true
 ·rw[if_pos e,if_pos e];exact r.repl k ry
 ·rw[if_neg e,if_neg e];exact Paired.snoc r ⟨rfl,ry⟩
theorem KV.length {kvs:List (κ×V)}{vs:List (κ×Value)} (r:KV kvs vs):kvs.length=vs.length:=Paired.length r
end
theorem kV_is {P:Program}{w:World}{k:Key}{u:Value} (r:RelV (kV k) u):(mixKind P w).is k u=true:=by
 cases k with
 | inl i=>obtain⟨t,e⟩:=(show ∃ t,u=Value.int i t from r);subst e;exact mixKind_int P w i t
 | inr x=>obtain⟨t,e⟩:=(show ∃ t,u=Value.str x t from r);subst e;exact mixKind_str P w x t
theorem items_are {P:Program}{w:World}:∀ {ks:List Key}{us:List Value},Vals (ks.map kV) us->ItemsAre (mixKind P w) ks us
 | [],_,r=>by rw[List.map_nil]at r;cases r;exact .nil
 | k::ks,_,r=>by
  rw[List.map_cons]at r
  cases r with
  | cons h t=>exact .cons (kV_is h) (items_are t)
abbrev KT (H:Hp):List (List Key×V)->List (List Key×Addr×Value)->Prop:=Paired fun p q=>p.1=q.1/\H q.2.1=some (.tup (p.1.map kV))/\RelV p.2 q.2.2
theorem KT.val {H:Hp}{kvs:List (List Key×V)}{xs:List (List Key×Addr×Value)} (r:KT H kvs xs) (k:List Key):RelO (valV kvs k) ((atKey xs k).map (·.2)):=by
 induction r with
 | nil=>exact True.intro
 | @cons p q ps qs h t ih=>
  obtain⟨h1,_,h2⟩:=h
  by_cases e:p.1=k
  ·have e':q.1=k:=h1.symm.trans e
   have b:atKey (q::qs) k=some q.2:=by simp [atKey,List.find?_cons,e']
   rw[valV_pos e,b];exact h2
  ·have e':¬q.1=k:=fun z=>e (h1.trans z)
   have b:atKey (q::qs) k=atKey qs k:=by simp [atKey,List.find?_cons,e']
   rw[valV_neg e,b];exact ih
theorem KT.repl {H:Hp}{kvs:List (List Key×V)}{xs:List (List Key×Addr×Value)} (r:KT H kvs xs) (k:List Key) {y:V}{u:Value} (ry:RelV y u) :
  KT H (kvs.map fun kv=>if kv.1=k then (kv.1,y) else kv) (xs.map (putAt k u)):=by
 induction r with
 | nil=>exact .nil
 | @cons p q ps qs h t ih=>
  rw[List.map_cons,List.map_cons]
  refine .cons ?_ ih
  obtain⟨h1,h2,h3⟩:=h
  unfold putAt
  by_cases e:p.1=k
  ·rw[if_pos e,if_pos (h1.symm.trans e)];exact⟨h1,h2,ry⟩
  ·rw[if_neg e,if_neg (fun z=>e (h1.trans z))];exact⟨h1,h2,h3⟩
theorem KT.put {H:Hp}{kvs:List (List Key×V)}{xs:List (List Key×Addr×Value)} (r:KT H kvs xs) (k:List Key) {b:Addr}{y:V}{u:Value} (hb:H b=some (.tup (k.map kV))) (ry:RelV y u) :
  KT H (putK kvs k y) (storedH xs k b u):=by
 have e:(kvs.any fun kv=>decide (kv.1=k))=(atKey xs k).isSome:=by
  rw[valV_any,(r.val k).isSome_eq,Option.isSome_map]
 unfold putK storedH
 rw[e]
 by_cases q:(atKey xs k).isSome=true
 ·rw[if_pos q,if_pos q];exact r.repl k ry
 ·rw[if_neg q,if_neg q];exact Paired.snoc r ⟨rfl,hb,ry⟩
theorem KT.keeps {H H':Hp}{kvs:List (List Key×V)}{xs:List (List Key×Addr×Value)} (r:KT H kvs xs) (ht:∀ b ys,H b=some (.tup ys)->H' b=some (.tup ys)):KT H' kvs xs:=
 Paired.mapP r fun _ _ z=>⟨z.1,ht _ _ z.2.1,z.2.2⟩
section
variable {P:Program}{w:World}{H:Hp}{h:Heap}{a:Addr}
theorem rd_of {u:HO} (ok:HOk P w H h) (e:Rd H a u):ObjOk P w H h a u:=e.ok ok
theorem dk_rd {kvs:List (Key×V)} (ok:HOk P w H h) (e:Rd H a (.dK kvs)):kvs.length<=sizeLine/\(a == sysModules)=false/\∃ vs,KV kvs vs/\h.DictOf (mixKind P w) a vs:=
 show ObjOk P w H h a (.dK kvs) from rd_of ok e
theorem dk_of {kvs:List (Key×V)} (ok:HOk P w H h) (e:H a=some (.dK kvs)):kvs.length<=sizeLine/\(a == sysModules)=false/\∃ vs,KV kvs vs/\h.DictOf (mixKind P w) a vs:=dk_rd ok (.inl e)
theorem key_of {ks:List Key} (ok:HOk P w H h) (e:H a=some (.tup (ks.map kV))):(tupleKind (mixKind P w)).is h ks a:=by
 obtain⟨_,its,r,o,h1,h2,n,h3⟩:=(show ObjOk P w H h a (.tup (ks.map kV)) from ok a _ e)
 exact⟨o,its.toArray,n,h1,h2,h3,by simpa using items_are r⟩
theorem dt_rd {kvs:List (List Key×V)} (ok:HOk P w H h) (e:Rd H a (.dT kvs)):kvs.length<=sizeLine/\(a == sysModules)=false /\
  ∃ xs,KT H kvs xs/\h.DictOfH (tupleKind (mixKind P w)) a xs:=by
 obtain⟨z,y,xs,r,o,es,ep,h1,h2,h3,h4,h5⟩:=(show ObjOk P w H h a (.dT kvs) from rd_of ok e)
 refine⟨z,y,xs,r,o,es,ep,h1,h2,h3,h4,fun x hx=>?_,h5⟩
 have all:∀ {l:List (List Key×V)}{m:List (List Key×Addr×Value)},KT H l m->∀ x∈m,(tupleKind (mixKind P w)).is h x.1 x.2.1:=by
  intro l m q
  induction q with
  | nil=>intro x hx;exact nomatch hx
  | @cons p q ps qs hq t ih=>
   intro x hx
   rcases List.mem_cons.mp hx with e | hx
   ·subst e
    exact key_of ok (by rw[<- hq.1];exact hq.2.1)
   ·exact ih x hx
 exact all r x hx
theorem dt_of {kvs:List (List Key×V)} (ok:HOk P w H h) (e:H a=some (.dT kvs)):kvs.length<=sizeLine/\(a == sysModules)=false /\
  ∃ xs,KT H kvs xs/\h.DictOfH (tupleKind (mixKind P w)) a xs:=dt_rd ok (.inl e)
end
def DGet (H:Hp) (a:Addr) (y:V) (r:Option V):Prop:=
 (∃ kvs k,Rd H a (.dK kvs)/\y=kV k/\r=valV kvs k)\/∃ kvs k b,Rd H a (.dT kvs)/\y=.ref b/\H b=some (.tup (k.map kV))/\r=valV kvs k
def DPut (H:Hp) (a:Addr) (y v:V) (H':Hp):Prop:=
 (∃ kvs k,H a=some (.dK kvs)/\y=kV k/\kvs.length<sizeLine/\H'=upd H a (.dK (putK kvs k v))) \/
 ∃ kvs k b,H a=some (.dT kvs)/\y=.ref b/\H b=some (.tup (k.map kV))/\kvs.length<sizeLine/\H'=upd H a (.dT (putK kvs k v))
theorem DGet.k {H:Hp}{a:Addr}{kvs:List (Key×V)}{k:Key} (e:H a=some (.dK kvs)):DGet H a (kV k) (valV kvs k):=.inl ⟨kvs,k,.inl e,rfl,rfl⟩
theorem DPut.k {H:Hp}{a:Addr}{kvs:List (Key×V)}{k:Key}{v:V} (e:H a=some (.dK kvs)) (hl:kvs.length<sizeLine):DPut H a (kV k) v (upd H a (.dK (putK kvs k v))):=.inl ⟨kvs,k,e,rfl,hl,rfl⟩
section
variable {X:Cx}{pins:List (Addr×Obj)} {σ:St} {H:Hp}{s:Shared}{a:Addr}{y v:V}{u r:Value}{o:Option V}{A:Around}{E:Value->Shared->Prop}
theorem Inv.big (I:Inv X pins σ H s):sysModules<s.heap.objs.size:=by
 have h:mainGlobals<s.heap.objs.size:=(I.mod.glob.keeps I.bk).lt
 exact Nat.lt_trans (by decide) h
theorem d_getItem {Q:Value->Shared->Prop} (hu:A.units+1<cLine) (I:Inv X pins σ H s) (g:DGet H a y (some v)) (ry:RelV y u) (h:∀ w' s',Inv X pins σ H s'->RelV v w'->Q w' s') :
  wpAny (model X.prog X.w) A (getItem (.ref a) u) Q E s:=by
 rcases g with ⟨kvs,k,e,ey,l⟩ | ⟨kvs,k,b,e,ey,eb,l⟩
 ·subst ey
  obtain⟨z,hd,vs,rel,dd⟩:=dk_rd I.hok e
  obtain⟨w',hw,rw'⟩:=RelO.some_of (v:=v) (o:=valueAt vs k) (by rw[l];exact rel.val k)
  exact wpAny_getItem_of (kV_is ry) dd.mapOf hw (h w' _ (I.tok _) rw')
 ·subst ey
  cases (show u=Value.ref b from ry)
  obtain⟨z,hd,xs,rel,dd⟩:=dt_rd I.hok e
  obtain⟨w',hw,rw'⟩:=RelO.some_of (v:=v) (o:=(atKey xs k).map (·.2)) (by rw[l];exact rel.val k)
  obtain⟨p,hp,hp2⟩:=Option.map_eq_some_iff.mp hw
  refine wpAny_getItem_heap (tupleKind_room_in1 hu) (key_of I.hok eb) dd hp ?_
  rw[hp2]
  exact h w' _ (I.tok _) rw'
theorem d_write {h':Heap}{t':Nat}{ob:HO} (I:Inv X pins σ H s) (mu:Mut (H a)) (hs:Heap.SameBut a s.heap h') (he:∃ q,h'.get? a=some q) (new:ObjOk X.prog X.w (upd H a ob) h' a ob) :
  Inv X pins σ (upd H a ob) { s with heap:=h',toks:=t' }:=
 I.write (x:=a) (e:=a) mu (.inl rfl) (fun b q hb z=>(hs.2 b hb).trans z) he new
theorem dk_new {P:Program}{w:World}{H':Hp}{h':Heap}{kvs:List (Key×V)}{vs:List (Key×Value)} (z:kvs.length<=sizeLine) (hd:(a == sysModules)=false) (rel:KV kvs vs) (dd:h'.DictOf (mixKind P w) a vs) :
  ObjOk P w H' h' a (.dK kvs):=⟨z,hd,vs,rel,dd⟩
theorem d_setItem {H':Hp}{Q:Unit->Shared->Prop} (hu:A.units+1<cLine) (I:Inv X pins σ H s) (g:DPut H a y v H') (ry:RelV y u) (rv:RelV v r) (h:∀ s',Inv X pins σ H' s'->Q () s') :
  wpAny (model X.prog X.w) A (setItem (.ref a) u r) Q E s:=by
 rcases g with ⟨kvs,k,e,ey,l,eH⟩ | ⟨kvs,k,b,e,ey,eb,l,eH⟩
 ·subst ey eH
  obtain⟨z,hd,vs,rel,dd⟩:=dk_of I.hok e
  have hz:vs.length<=sizeLine:=by rw[<- rel.length];exact z
  have hl:(putK kvs k v).length<=sizeLine:=by have:=length_putK kvs k v;lia
  refine wpAny_setItem_pairs (hsz:=hz) (kV_is ry) dd fun h' dd' hs=>h _ ?_
  have he:∃ q,h'.get? a=some q:=let ⟨q,_,_,hq,_⟩:=dd';⟨q,hq⟩
  exact d_write I (by rw[e];exact True.intro) hs he (dk_new hl hd (rel.put k rv) dd')
 ·subst ey eH
  cases (show u=Value.ref b from ry)
  obtain⟨z,hd,xs,rel,dd⟩:=dt_of I.hok e
  have hz:xs.length<=sizeLine:=by rw[<- Paired.length rel];exact z
  have hl:(putK kvs k v).length<=sizeLine:=by have:=length_putK kvs k v;lia
  refine wpAny_setItem_heap (hsz:=hz) (tupleKind_room_in1 hu) (key_of I.hok eb) dd fun h' dd' hs=>h _ ?_
  obtain⟨q,es,ep,hq,h2,h3,h4,_,h5⟩:=dd'
  refine d_write I (by rw[e];exact True.intro) hs ⟨q,hq⟩ ⟨hl,hd,_,(rel.put k eb rv).keeps fun c ys ec=>?_,q,es,ep,hq,h2,h3,h4,h5⟩
  rw[upd_ne (ne_of ec e (fun z=>nomatch z))]
  exact ec
end
section
variable {X:Cx}{pins:List (Addr×Obj)} {σ:St} {H:Hp}{s:Shared}{a:Addr}{kvs:List (Key×V)}{k:Key}{u:Value}{A:Around}{E:Value->Shared->Prop}
end
theorem dict_typeIs {X:Cx}{pins:List (Addr×Obj)} {σ:St} {H:Hp}{s:Shared}{a:Addr}{y:V}{o:Option V} (I:Inv X pins σ H s) (g:DGet H a y o):s.TypeIs (.ref a) "dict":=by
 rcases g with ⟨kvs,k,e,_,_⟩ | ⟨kvs,k,b,e,_,_,_⟩
 ·obtain⟨_,_,vs,_,dd⟩:=dk_rd I.hok e
  exact dd.typeIs
 ·obtain⟨_,_,xs,_,dd⟩:=dt_rd I.hok e
  exact dd.typeIs
section
variable {X:Cx}{o i e value:Expr}{pos pos' tpos:Pos}{td ty tv:TE}
end
theorem dk_empty {P:Program}{w:World}{H:Hp} (h:Heap) (hb:sysModules<h.objs.size):ObjOk P w H (h.push { cls:=.type "dict",data:=.dict #[] }) h.objs.size (.dK []):=
 ⟨Nat.zero_le _,beq_eq_false_iff_ne.mpr (Ne.symm (Nat.ne_of_lt hb)),[],.nil,Heap.DictOf.new h⟩
def tDNewK:TE:=fun _ H Q=>∀ p,H p=none->Q (.ref p) (upd H p (.dK []))
section
variable {X:Cx}{pos:Pos}
theorem pe_dnewK:PE X (.Dict [] [] pos) tDNewK:=fun pins s σ H Q I h=>
 wpAny_Dict_empty ⟨.ref s.heap.objs.size,_,I.laid (a:=s.heap.objs.size) (o:=.dK []) (t':=s.toks) (fun _ _ q=>Heap.get?_push_of_some _ q) (Nat.le_refl _) (dk_empty s.heap I.big),rfl,h _ (I.hok.fresh (Nat.le_refl _))⟩
end
def tPairs:List (TE×TE)->St->Hp->(List (V×V)->Hp->Prop)->Prop
 | [],_,H,Q=>Q [] H
 | (tk,tv)::r,σ,H,Q=>tk σ H fun x H1=>tv σ H1 fun y H2=>tPairs r σ H2 fun ps H3=>Q ((x,y)::ps) H3
abbrev VV:List (V×V)->List (Value×Value)->Prop:=Paired fun p q=>RelV p.1 q.1/\RelV p.2 q.2
def PPs (X:Cx) (pos:Pos) (keys:List (Option Expr)) (values:List Expr) (trs:List (TE×TE)):Prop:=
 ∀ (pins:List (Addr×Obj)) (s:Shared) (σ:St) (H:Hp) (Q:List (V×V)->Hp->Prop),Inv X pins σ H s->tPairs trs σ H Q ->
  wpAny (model X.prog X.w) X.A (evalPairs (pairTrees keys values X.env pos)) (fun vs s'=>∃ ps H',Inv X pins σ H' s'/\VV ps vs/\Q ps H') X.xe s
theorem pps_nil {X:Cx}{pos:Pos}:PPs X pos [] [] []:=fun pins s σ H Q I h=>pairTrees_nil_walk ⟨[],H,I,.nil,h⟩
theorem pps_cons {X:Cx}{pos:Pos}{k v:Expr}{ks:List (Option Expr)}{vs:List Expr}{tk tv:TE}{trs:List (TE×TE)} (hk:PE X k tk) (hv:PE X v tv) (hr:PPs X pos ks vs trs) :
  PPs X pos (some k::ks) (v::vs) ((tk,tv)::trs):=fun pins s σ H Q I h=>
 pairTrees_cons_walk (thn (hk pins s σ H _ I h) fun u s1 ⟨x,H1,I1,rx,q1⟩=>thn (hv pins s1 σ H1 _ I1 q1) fun w2 s2 ⟨y,H2,I2,ry,q2⟩=>
  thn (hr pins s2 σ H2 _ I2 q2) fun ws s3 ⟨ps,H3,I3,rel,q3⟩=>⟨(x,y)::ps,H3,I3,.cons ⟨rx,ry⟩ rel,q3⟩)
def mergeK (kvs more:List (Key×V)):List (Key×V):=more.foldl (fun acc kv=>putK acc kv.1 kv.2) kvs
theorem KV.merge:∀ {more:List (Key×V)}{rs:List (Key×Value)}{kvs:List (Key×V)}{vs:List (Key×Value)},KV more rs->KV kvs vs->KV (mergeK kvs more) (merged vs rs):=by
 intro more rs kvs vs r
 unfold KV at r
 induction r generalizing kvs vs with
 | nil=>intro q;exact q
 | @cons p q ps qs h t ih=>
  intro r0
  have e:KV (putK kvs p.1 p.2) (stored vs q.1 q.2):=by
   have:=r0.put p.1 h.2
   rw[<- h.1];exact this
  exact ih e
theorem length_mergeK:∀ (more kvs:List (Key×V)),(mergeK kvs more).length<=kvs.length+more.length
 | [],kvs=>by show kvs.length<=kvs.length+0;lia
 | p::r,kvs=>by
  have h1:=length_mergeK r (putK kvs p.1 p.2)
  have h2:=length_putK kvs p.1 p.2
  show (mergeK (putK kvs p.1 p.2) r).length<=_
  rw[List.length_cons];lia
theorem carries_of {P:Program}{w:World}:∀ {kvs:List (Key×V)}{ws:List (Value×Value)},VV (kvs.map fun kv=>(kV kv.1,kv.2)) ws->∃ rs,Carries (mixKind P w) ws rs/\KV kvs rs
 | [],_,r=>by rw[List.map_nil]at r;cases r;exact⟨[],True.intro,.nil⟩
 | p::kvs,_,r=>by
  rw[List.map_cons]at r
  cases r with
  | @cons a b as bs h t=>
   obtain⟨rs,c,q⟩:=carries_of (P:=P) (w:=w) t
   obtain⟨b1,b2⟩:=b
   exact⟨(p.1,b2)::rs,⟨kV_is h.1,rfl,c⟩,.cons ⟨rfl,h.2⟩ q⟩
def tDisp (trs:List (TE×TE)):TE:=fun σ H Q=>∀ p,H p=none->tPairs trs σ (upd H p (.dK [])) fun ps H2=>H2 p=some (.dK [])/\∃ kvs:List (Key×V),ps=kvs.map (fun kv=>(kV kv.1,kv.2))/\kvs.length<=15/\Q (.ref p) (upd H2 p (.dK (mergeK [] kvs)))
theorem pe_disp {X:Cx}{pos:Pos}{keys:List (Option Expr)}{values:List Expr}{trs:List (TE×TE)} (h:PPs X pos keys values trs) (hall:keys.all (·.isSome)=true) (hl:keys.length=values.length) (h0:keys≠[])
  (h15:keys.length<=15):PE X (.Dict keys values pos) (tDisp trs):=by
 intro pins s σ H Q I q
 have hn:=I.hok.fresh (Nat.le_refl s.heap.objs.size)
 have I1:=I.laid (a:=s.heap.objs.size) (o:=.dK []) (h':=s.heap.push { cls:=.type "dict",data:=.dict #[] }) (t':=s.toks) (fun _ _ q=>Heap.get?_push_of_some _ q) (Nat.le_refl _) (dk_empty s.heap I.big)
 refine wpAny_Dict_walk (knd:=mixKind X.prog X.w) hall hl h0 h15 (thn (h pins _ σ _ _ I1 (q _ hn)) fun ws s2 ⟨ps,H2,I2,rel,e,kvs,ep,lk,q2⟩=>?_)
 subst ep
 obtain⟨rs,c,rk⟩:=carries_of (P:=X.prog) (w:=X.w) rel
 obtain⟨z,hd,vs0,r0,dd⟩:=dk_of I2.hok e
 cases r0
 refine⟨rs,c,dd,fun h' dd' hs=>⟨.ref s.heap.objs.size,_,?_,rfl,q2⟩⟩
 have hz:(mergeK [] kvs).length<=sizeLine:=by
  have h1:=length_mergeK kvs []
  rw[List.length_nil]at h1
  rw[sizeLine_eq];lia
 have he:∃ q,h'.get? s.heap.objs.size=some q:=let ⟨q,_,_,hq,_⟩:=dd';⟨q,hq⟩
 exact d_write I2 (by rw[e];exact True.intro) hs he (dk_new hz hd (rk.merge .nil) dd')
structure M1 (X:Cx) (o:Expr) (m:Str) (apos:Pos) (e:Expr) (cpos:Pos):Prop where
 base:attributeBase o m X.env (eval o X.env)=eval o X.env
 few:((backTo cpos (starEach [e] X.env)).all (fun x=>!x.1) && (backToKw cpos (keywordEach [] X.env)).all (fun x=>x.1.isSome)
  && decide (([e]:List Expr).length+([]:List Keyword).length+(if ([]:List Keyword).isEmpty then 0 else 1)<30))=true
 line:(apos.endLine == cpos.line)=true
 trees:backTo cpos (starEach [e] X.env)=[(false,eval e X.env)]
structure M2 (X:Cx) (o:Expr) (m:Str) (apos:Pos) (e f:Expr) (cpos:Pos):Prop where
 base:attributeBase o m X.env (eval o X.env)=eval o X.env
 few:((backTo cpos (starEach [e,f] X.env)).all (fun x=>!x.1) && (backToKw cpos (keywordEach [] X.env)).all (fun x=>x.1.isSome)
  && decide (([e,f]:List Expr).length+([]:List Keyword).length+(if ([]:List Keyword).isEmpty then 0 else 1)<30))=true
 line:(apos.endLine == cpos.line)=true
 trees:backTo cpos (starEach [e,f] X.env)=[(false,eval e X.env),(false,eval f X.env)]
section
variable {X:Cx}{pins:List (Addr×Obj)} {σ:St} {H:Hp}{s:Shared}{a:Addr}{y d:V}{u r:Value}{o:Option V}{A:Around}{E:Value->Shared->Prop}
end
section
variable {X:Cx}{o e f:Expr}{apos cpos:Pos}{td ty tx:TE}
end
section
variable {X:Cx}{pins:List (Addr×Obj)} {σ:St} {H:Hp}{s:Shared}{a:Addr}{kvs:List (Key×V)}{A:Around}{E:Value->Shared->Prop}
end
section
variable {X:Cx}{pins:List (Addr×Obj)} {σ:St} {H:Hp}{s:Shared}{a:Addr}{y:V}{u:Value}{A:Around}{E:Value->Shared->Prop}
end
end L2
namespace HT
open PySem PyProof.Rows
theorem rcLt_int (A:Around) (s:Shared) (a:Int) (t:Tok) (c:Int) (u:Tok) (prog:Program) (w:World) (E:Value->Shared->Prop) (Q:Value->Shared->Prop) (h:Q (.bool (decide (a<c))) s) :
  wpAny (model prog w) A (richCompare .Lt (.int a t) (.int c u)) Q E s:=
 (PyProof.Rows.lt_int h:wpAny (model prog w) A (compareOp .Lt (.int a t) (.int c u)) Q E s)
section
open PySem.SeqAt
open PySem.AutoSeq1 (wpAny_loadPart')
open PySem.MeetsSeq PySem.MeetsSeq2 PySem.MeetsSeq3
end
section
variable {prog:Program}{w:World}{A:Around}{E:Value->Shared->Prop}{s:Shared}
theorem cat_tup {t b:Addr}{vs ws:List Value}{Q:Value->Shared->Prop} (ht:IsTup s.heap t vs.toArray) (hb:IsTup s.heap b ws.toArray) (hv:vs≠[])
  (h1:ws=[]->Q (.ref t) s) (h2:ws≠[]->Q (.ref s.heap.objs.size) { s with heap:=s.heap.push { cls:=.type "tuple",data:=.seq (vs++ws).toArray } })
  (hsz:vs.length+ws.length<=sizeLine):wpAny (model prog w) A (binaryOp .Add (.ref t) (.ref b)) Q E s:=by
 obtain⟨⟨cls,dd,data,sl⟩,ho,hc,n,hd⟩:=id ht
 obtain⟨⟨cls2,dd2,data2,sl2⟩,ho2,hc2,n2,hd2⟩:=id hb
 simp only at hc hd hc2 hd2
 subst hc hd hc2 hd2
 have e:vs.toArray++ws.toArray=(vs++ws).toArray:=by simp
 by_cases hw:ws=[]
 ·exact concat_meets ⟨_,ho,rfl⟩ ⟨_,ho2,rfl⟩ noFill_tuple_add seq_tuple_add PySem.F.slot_tuple_add PySem.F.entry_tuple_add (PySem.F.args_tuple_add_2 _ _)
   (tuple_addW1 t b vs.toArray ws.toArray n n2 dd dd2 sl sl2 (by simpa using hv) (by simp [hw])) ⟨ho,ho2,h1 hw⟩
 ·refine concat_meets ⟨_,ho,rfl⟩ ⟨_,ho2,rfl⟩ noFill_tuple_add seq_tuple_add PySem.F.slot_tuple_add PySem.F.entry_tuple_add (PySem.F.args_tuple_add_2 _ _)
   (tuple_addW2 t b vs.toArray ws.toArray n n2 dd dd2 sl sl2 (by simpa using hv) (by simpa using hw) (by rw[List.size_toArray,List.size_toArray];exact hsz)) ⟨ho,ho2,?_⟩
  rw[e]
  exact h2 hw
def sIx (n d:Nat):Option Int->Nat
 | none=>d
 | some v=>if v<0 then (v+(n:Int)).toNat else min v.toNat n
theorem sIx_none (n d:Nat):sIx n d none=d:=rfl
theorem sIx_nat (n d k:Nat):sIx n d (some (k:Int))=min k n:=by
 show (if (k:Int)<0 then ((k:Int)+(n:Int)).toNat else min (k:Int).toNat n)=min k n
 rw[if_neg (by lia),Int.toNat_natCast]
theorem sIx_le (n d:Nat) (hd:d<=n) (o:Option Int):sIx n d o<=n:=by
 cases o with
 | none=>exact hd
 | some v=>
  show (if v<0 then (v+(n:Int)).toNat else min v.toNat n)<=n
  by_cases hv:v<0
  ·rw[if_pos hv];lia
  ·rw[if_neg hv];exact Nat.min_le_right _ _
theorem clip_eq (v:Int) (n d:Nat):(if v<0 then max (v+(n:Int)) 0 else min v (n:Int))=((sIx n d (some v):Nat):Int):=by
 show (if v<0 then max (v+(n:Int)) 0 else min v (n:Int))=(((if v<0 then (v+(n:Int)).toNat else min v.toNat n):Nat):Int)
 by_cases hv:v<0
 ·simp only[if_pos hv];lia
 ·simp only[if_neg hv];lia
theorem adjust_gen (lo hi:Option Int) (n:Nat):Builtin.Slice.sliceAdjust lo hi 1 (n:Int)=(((sIx n 0 lo:Nat):Int),((sIx n n hi:Nat):Int)):=by
 have h1:¬((1:Int)<0):=by lia
 unfold Builtin.Slice.sliceAdjust
 simp only[h1,if_false]
 refine Prod.ext ?_ ?_
 ·cases lo with
  | none=>rfl
  | some v=>exact clip_eq v n 0
 ·cases hi with
  | none=>rfl
  | some v=>exact clip_eq v n n
theorem places_gen (i j:Nat):Builtin.Slice.slicePlaces (i:Int) (j:Int) 1=j-i:=by
 unfold Builtin.Slice.slicePlaces
 have h1:(1:Int) > 0:=by lia
 simp only[h1,if_true,Int.ediv_one]
 split <;> lia
theorem slicePart_ {v:Value}{o:Option Int}{Q:Option Int->Shared->Prop} (p:IsPart v o) (h:Q o s):wpAny (model prog w) A (Builtin.Slice.slicePartIndex v) Q E s:=by
 cases p with
 | none=>exact slicePart_none h
 | int i t=>exact slicePart_int h
theorem sliceApplied_gen {sl:Addr}{vl vu:Value}{lo hi:Option Int}{n:Nat}{Q:Int×Int×Nat->Shared->Prop} (hs:s.heap.IsSliceOf sl vl vu .none) (pl:IsPart vl lo) (pu:IsPart vu hi)
  (h:Q (((sIx n 0 lo:Nat):Int),1,sIx n n hi-sIx n 0 lo) s):wpAny (model prog w) A (Builtin.Slice.sliceApplied (.ref sl) (pure (n:Int))) Q E s:=by
 obtain⟨os,hos,hcs,hds⟩:=id hs
 unfold Builtin.Slice.sliceApplied Builtin.Slice.sliceFields
 refine wpAny_bind (wpAny_bind (wpAny_field hos hds (x:=vl) rfl (wpAny_bind (wpAny_field hos hds (x:=vu) rfl (wpAny_bind (wpAny_field hos hds (x:=.none) rfl (wpAny_pure ?_)))))))
 refine wpAny_bind (slicePart_none ?_)
 show wpAny _ _ (if ((1:Int) == 0)=true then _ else _) _ _ s
 rw[if_neg (by decide)]
 refine wpAny_bind (slicePart_ pl (wpAny_bind (slicePart_ pu (wpAny_bind (wpAny_pure ?_)))))
 show wpAny _ _ (match Builtin.Slice.sliceAdjust lo hi 1 (n:Int) with | (lo,hi)=>pure (lo,(1:Int),Builtin.Slice.slicePlaces lo hi 1)) _ _ s
 rw[adjust_gen lo hi n]
 show wpAny _ _ (pure (((sIx n 0 lo:Nat):Int),(1:Int),Builtin.Slice.slicePlaces ((sIx n 0 lo:Nat):Int) ((sIx n n hi:Nat):Int) 1)) _ _ s
 rw[places_gen]
 exact wpAny_pure h
theorem pick_gen (xs:Array Value) (i k:Nat):((List.range k).filterMap fun (m:Nat)=>xs[((i:Int)+(m:Int) * 1).toNat]?).toArray=((xs.toList.drop i).take k).toArray:=by
 have e:(fun (m:Nat)=>xs[((i:Int)+(m:Int) * 1).toNat]?)=fun m=>xs[i+m]?:=by
  funext m
  have:((i:Int)+(m:Int) * 1).toNat=i+m:=by lia
  rw[this]
 rw[e]
 have:=pick_run xs i k
 rw[List.filterMap_map]at this
 have e2:((fun x=>xs[x]?) ∘ fun x=>i+x)=fun m=>xs[i+m]?:=rfl
 rw[e2]at this
 rw[this]
theorem getItem_tuple_cut {t sl:Addr}{items:Array Value}{vl vu:Value}{lo hi:Option Int}{Q:Value->Shared->Prop} (ht:IsTup s.heap t items) (hs:s.heap.IsSliceOf sl vl vu .none) (pl:IsPart vl lo) (pu:IsPart vu hi)
  (hw:¬(sIx items.size 0 lo=0/\sIx items.size items.size hi=items.size))
  (h:Q (.ref s.heap.objs.size) { s with heap:=s.heap.push { cls:=.type "tuple",data:=.seq ((items.toList.drop (sIx items.size 0 lo)).take (sIx items.size items.size hi-sIx items.size 0 lo)).toArray } })
  (hsz:items.size<=sizeLine):wpAny (model prog w) A (getItem (.ref t) (.ref sl)) Q E s:=by
 have htake:sizeOk (.seq ((items.toList.drop (sIx items.size 0 lo)).take (sIx items.size items.size hi-sIx items.size 0 lo)).toArray):=by
  show ((items.toList.drop (sIx items.size 0 lo)).take (sIx items.size items.size hi-sIx items.size 0 lo)).toArray.size<=sizeLine
  rw[List.size_toArray,List.length_take,List.length_drop,Array.length_toList]
  lia
 have hj:sIx items.size items.size hi<=items.size:=sIx_le _ _ (Nat.le_refl _) hi
 obtain⟨os,hos,hcs,hds⟩:=id hs
 have hTs:s.TypeIs (.ref sl) "slice":=⟨os,hos,hcs⟩
 unfold getItem
 try with_reducible refine wpAny_holding ?_
 first | refine wpAny_bind (wpAny_pure ?_) | skip
 refine wpAny_bind (wpAny_sequenceKey ht.typeIs (by decide) ?_)
 refine wpAny_bind (wpAny_callSpecial?_slot (name:=Str.ofString "__getitem__") ht.typeIs PyProof.Rows.slot_tuple_getitem
  (wpAny_call_entry PyProof.Rows.slot_tuple_getitem ht.typeIs entry_tuple_getitem ?_ (args_tuple_getitem _ _)))
 show wpAny _ _ (Builtin.Tuple.tupleItemsOf (.ref t) >>= _) _ _ s
 refine wpAny_bind (tupleItemsOf_ ht ?_)
 refine wpAny_bind (wpAny_typeOf hTs ?_)
 rw[if_pos (by decide)]
 refine wpAny_bind (sliceApplied_gen hs pl pu ?_)
 have hno:¬((((sIx items.size 0 lo:Nat):Int) == 0 && (1:Int) == 1 && (sIx items.size items.size hi-sIx items.size 0 lo) == items.size)=true):=by
  intro q
  rw[Bool.and_eq_true,Bool.and_eq_true]at q
  have q1:((sIx items.size 0 lo:Nat):Int)=0:=eq_of_beq q.1.1
  have q2:sIx items.size items.size hi-sIx items.size 0 lo=items.size:=eq_of_beq q.2
  exact hw ⟨by lia,by lia⟩
 show wpAny _ _ (if (((sIx items.size 0 lo:Nat):Int) == 0 && (1:Int) == 1 && (sIx items.size items.size hi-sIx items.size 0 lo) == items.size)=true then _ else _) _ _ s
 rw[if_neg hno,pick_gen]
 first
  | exact wpAny_bind (m:=Builtin.Tuple.tupleExact _) (wpAny_newObj_type (wpAny_pure ⟨_,rfl,wpAny_pure h⟩) htake)
  | exact wpAny_bind (m:=Builtin.Tuple.tupleExact _) (wpAny_newObj_type (wpAny_bind (wpAny_pure (wpAny_pure ⟨_,rfl,wpAny_pure h⟩))) htake)
  | exact wpAny_bind (wpAny_bind (m:=Builtin.Tuple.tupleExact _) (wpAny_newObj_type (wpAny_pure (wpAny_pure ⟨_,rfl,wpAny_pure h⟩)) htake))
  | exact wpAny_bind (wpAny_bind (m:=Builtin.Tuple.tupleExact _) (wpAny_newObj_type (wpAny_pure ⟨_,rfl,wpAny_pure h⟩) htake))
end
end HT
namespace L2
open PySem PySem.Spec PyProof.Rows
abbrev TO:=St->Hp->(Option Int->Hp->Prop)->Prop
def PO (X:Cx) (e:Option Expr) (t:TO):Prop:=
 ∀ (pins:List (Addr×Obj)) (s:Shared) (σ:St) (H:Hp) (Q:Option Int->Hp->Prop),Inv X pins σ H s->t σ H Q ->
  wpAny (model X.prog X.w) X.A (evalPart e X.env) (fun u s'=>∃ o H',Inv X pins σ H' s'/\IsPart u o/\Q o H') X.xe s
def tNoPart:TO:=fun _ H Q=>Q none H
def tPart (t:TE):TO:=fun σ H Q=>t σ H fun x H1=>∃ i,x=.int i/\Q (some i) H1
section
variable {X:Cx}{e:Expr}{te:TE}{lo hi:Option Expr}{tl th:TO}{pos p2:Pos}
theorem po_none:PO X none tNoPart:=by
 intro pins s σ H Q I h
 rw[evalPart_none]
 exact wpAny_pure ⟨none,H,I,.none,h⟩
theorem po_some (h:PE X e te):PO X (some e) (tPart te):=by
 intro pins s σ H Q I hw
 rw[evalPart_some]
 refine thn (h pins s σ H _ I hw) fun u s1 ⟨x,H1,I1,r1,q1⟩=>?_
 obtain⟨i,rfl,q⟩:=q1
 obtain⟨t,rfl⟩:=r1
 exact⟨some i,H1,I1,.int i t,q⟩
def SlR (X:Cx) (r:V->Option Int->Option Int->Hp->VK->Prop):Prop:=
 ∀ (pins:List (Addr×Obj)) (s:Shared) (σ:St) (H:Hp) (x:V) (v vl vu:Value) (lo hi:Option Int) (sl:Addr) (Q:VK),Inv X pins σ H s->RelV x v->s.heap.IsSliceOf sl vl vu .none->IsPart vl lo->IsPart vu hi->r x lo hi H Q ->
  ∃ T id,typeLookup (.type T) "__getitem__"=pure (some (.builtin id))/\s.TypeIs v T/\wpAny (model X.prog X.w) X.A (getItem v (.ref sl)) (EP X pins σ Q) X.xe s
theorem SlR.or {r r':V->Option Int->Option Int->Hp->VK->Prop} (h:SlR X r) (h':SlR X r'):SlR X (fun x lo hi H Q=>r x lo hi H Q\/r' x lo hi H Q):=by
 intro pins s σ H x v vl vu lo hi sl Q I rx hs pl pu q
 rcases q with q | q
 ·exact h pins s σ H x v vl vu lo hi sl Q I rx hs pl pu q
 ·exact h' pins s σ H x v vl vu lo hi sl Q I rx hs pl pu q
def tSl (r:V->Option Int->Option Int->Hp->VK->Prop) (te:TE) (tl th:TO):TE:=fun σ H Q=>te σ H fun x H1=>tl σ H1 fun l H2=>th σ H2 fun u H3=>r x l u H3 Q
theorem pe_slice {r:V->Option Int->Option Int->Hp->VK->Prop} (hr:SlR X r) (he:PE X e te) (hl:PO X lo tl) (hu:PO X hi th):PE X (.Subscript e (.Slice lo hi none p2) pos) (tSl r te tl th):=by
 intro pins s σ H Q I h
 refine Subscript_ (thn (he pins s σ H _ I h) fun v s1 ⟨x,H1,I1,r1,q1⟩=>?_)
 refine wpAny_Slice (thn (hl pins s1 σ H1 _ I1 q1) fun vl s2 ⟨l,H2,I2,pl,q2⟩=>thn (hu pins s2 σ H2 _ I2 q2) fun vu s3 ⟨u,H3,I3,pu,q3⟩=>?_)
 rw[evalPart_none]
 refine wpAny_pure ?_
 have I4:Inv X pins σ H3 { s3 with heap:=s3.heap.push { cls:=.type "slice",data:=.fields #[vl,vu,.none] } }:=I3.kept (t':=s3.toks) fun b ob q=>Heap.get?_push_of_some _ q
 obtain⟨T,id,hT,ht,hg⟩:=hr pins { s3 with heap:=s3.heap.push { cls:=.type "slice",data:=.fields #[vl,vu,.none] } } σ H3 x v vl vu l u s3.heap.objs.size Q I4 r1 (Heap.IsSliceOf.new ..) pl pu q3
 show wpAny (model X.prog X.w) X.A (subscriptTail e (.Slice lo hi none p2) v (.ref s3.heap.objs.size)) (EP X pins σ Q) X.xe { s3 with heap:=s3.heap.push { cls:=.type "slice",data:=.fields #[vl,vu,.none] } }
 exact tail_any (ops:=[.ref s3.heap.objs.size,v]) ht hT hg (by with_unfolding_all rfl)
def cutV (xs:List V) (lo hi:Option Int):List V:=(xs.drop (HT.sIx xs.length 0 lo)).take (HT.sIx xs.length xs.length hi-HT.sIx xs.length 0 lo)
theorem cutV_length (xs:List V) (lo hi:Option Int):(cutV xs lo hi).length<=xs.length:=by
 unfold cutV
 rw[List.length_take,List.length_drop]
 lia
def rSlT (K:PySem.W.Frag):V->Option Int->Option Int->Hp->VK->Prop:=fun x lo hi H Q=>∃ a xs,x=.ref a/\SqT K H a xs /\
 ¬(HT.sIx xs.length 0 lo=0/\HT.sIx xs.length xs.length hi=xs.length)/\∀ p,H p=none->Q (.ref p) (upd H p (.tup (cutV xs lo hi)))
theorem sl_tup:SlR X (rSlT X.K):=by
 intro pins s σ H x v vl vu lo hi sl Q I rx hs pl pu h
 obtain⟨a,xs,rfl,hx,hw,q⟩:=h
 cases rx
 obtain⟨its,r,ht,hz⟩:=I.tuple hx
 have hlen:its.toArray.size=xs.length:=by rw[List.size_toArray];exact r.length.symm
 refine⟨"tuple",_,PyProof.Rows.slot_tuple_getitem.lookup,ht.typeIs,?_⟩
 refine HT.getItem_tuple_cut ht hs pl pu (by rw[hlen];exact hw) ?_ (by rw[hlen];exact hz)
 rw[hlen]
 refine⟨.ref s.heap.objs.size,_,I.laid (t':=s.toks) (o:=.tup (cutV xs lo hi)) (fun b ob q=>Heap.get?_push_of_some _ q) (Nat.le_refl _) ?_,rfl,q _ (I.hok.fresh (Nat.le_refl _))⟩
 exact⟨tupD_new (Nat.le_trans (cutV_length xs lo hi) hz),_,(r.drop (HT.sIx xs.length 0 lo)).take (HT.sIx xs.length xs.length hi-HT.sIx xs.length 0 lo),IsTup.new _ _⟩
def rCatT (K:PySem.W.Frag):R2:=fun x y H Q=>∃ a b xs ys,x=.ref a/\y=.ref b/\SqT K H a xs/\SqT K H b ys/\xs≠[]/\xs.length+ys.length<=sizeLine /\
 (ys=[]->Q (.ref a) H)/\(ys≠[]->∀ p,H p=none->Q (.ref p) (upd H p (.tup (xs++ys))))
theorem Vals.nil_iff {xs:List V}{us:List Value} (r:Vals xs us):us=[] ↔ xs=[]:=by
 cases r with
 | nil=>simp
 | cons _ _=>simp
theorem op_catT:OpR X (binaryOp .Add) (rCatT X.K):=by
 intro pins s σ H x y v u Q I rx ry h
 obtain⟨a,b,xs,ys,rfl,rfl,ha,hb,hx,hz,q1,q2⟩:=h
 cases rx
 cases ry
 obtain⟨its,r1,p1,_⟩:=I.tuple ha
 obtain⟨its2,r2,p2,_⟩:=I.tuple hb
 refine HT.cat_tup p1 p2 (fun z=>hx (r1.nil_iff.mp z)) (fun z=>⟨.ref a,H,I,rfl,q1 (r2.nil_iff.mp z)⟩) (fun z=>?_) (by rw[<- r1.length,<- r2.length];exact hz)
 refine⟨.ref s.heap.objs.size,_,I.laid (t':=s.toks) (o:=.tup (xs++ys)) (fun b ob q=>Heap.get?_push_of_some _ q) (Nat.le_refl _) ?_,rfl,q2 (fun w=>z (r2.nil_iff.mpr w)) _ (I.hok.fresh (Nat.le_refl _))⟩
 exact⟨tupD_new (by rw[List.length_append];exact hz),_,r1.append r2,IsTup.new _ _⟩
end
end L2
namespace L2
open PySem PySem.Spec PyProof.Rows
def ixN (n:Nat) (i:Int):Option Nat:=if 0<=i then (if i<n then some i.toNat else none) else if -(n:Int)<=i then some (i+n).toNat else none
def atI {α:Type} (xs:List α) (i:Int):Option α:=(ixN xs.length i).bind fun j=>xs[j]?
theorem ixN_seq {n:Nat}{i:Int}{j:Nat} (h:ixN n i=some j):seqIndex? i n=some j/\j<n/\-(n:Int)<=i/\i<n:=by
 unfold ixN at h
 by_cases h0:0<=i
 ·rw[if_pos h0]at h
  by_cases h1:i<n
  ·rw[if_pos h1]at h
   have e:i.toNat=j:=Option.some.inj h
   exact⟨by rw[seqIndex_of h0 h1,e],by lia,by lia,h1⟩
  ·rw[if_neg h1]at h;cases h
 ·rw[if_neg h0]at h
  by_cases h1:-(n:Int)<=i
  ·rw[if_pos h1]at h
   have e:(i+n).toNat=j:=Option.some.inj h
   exact⟨by rw[seqIndex_neg (by lia) h1,e],by lia,h1,by lia⟩
  ·rw[if_neg h1]at h;cases h
theorem atI_get {α:Type} {xs:List α}{i:Int}{v:α} (h:atI xs i=some v):∃ j,seqIndex? i xs.length=some j/\xs[j]?=some v/\j<xs.length/\-(xs.length:Int)<=i/\i<xs.length:=by
 unfold atI at h
 cases e:ixN xs.length i with
 | none=>rw[e]at h;cases h
 | some j=>
  rw[e]at h
  obtain⟨h1,h2,h3,h4⟩:=ixN_seq e
  exact⟨j,h1,h,h2,h3,h4⟩
theorem atI_nat {α:Type} {xs:List α}{j:Nat}{v:α} (h:xs[j]?=some v):atI xs (j:Int)=some v:=by
 have hj:j<xs.length:=(List.getElem?_eq_some_iff.mp h).1
 have e:ixN xs.length (j:Int)=some j:=by
  unfold ixN
  rw[if_pos (by lia),if_pos (by lia)];simp
 unfold atI;rw[e];exact h
def PlainIx (b:Expr):Prop:=∀ o i,subscripted b false o i=operate [o,i] (getItem o i)
def IxR (X:Cx) (r:R2):Prop:=
 ∀ (value slice:Expr) (pins:List (Addr×Obj)) (s:Shared) (σ:St) (H:Hp) (x y:V) (v u:Value) (Q:VK),Inv X pins σ H s->RelV x v->RelV y u->r x y H Q ->
  subscripted slice false v u=operate [v,u] (getItem v u)->wpAny (model X.prog X.w) X.A (subscriptTail value slice v u) (EP X pins σ Q) X.xe s
def MtR (X:Cx) (id:String) (r:V->List V->Hp->VK->Prop):Prop:=
 ∀ (pins:List (Addr×Obj)) (s:Shared) (σ:St) (H:Hp) (x:V) (xs:List V) (v:Value) (us:List Value) (Q:VK),Inv X pins σ H s->RelV x v->Vals xs us->r x xs H Q ->
  wpAny (model X.prog X.w) X.A (call (.builtin id) (v::us)) (EP X pins σ Q) X.xe s
section
variable {X:Cx}{a b:Expr}{ta tb:TE}{pos:Pos}
theorem IxR.or {r r':R2} (h:IxR X r) (h':IxR X r'):IxR X (fun x y H Q=>r x y H Q\/r' x y H Q):=by
 intro value slice pins s σ H x y v u Q I rx ry q hs
 rcases q with q | q
 ·exact h value slice pins s σ H x y v u Q I rx ry q hs
 ·exact h' value slice pins s σ H x y v u Q I rx ry q hs
theorem pe_ix {r:R2} (hr:IxR X r) (ha:PE X a ta) (hb:PE X b tb) (hs:PlainIx b):PE X (.Subscript a b pos) (tOp r ta tb):=by
 intro pins s σ H Q I h
 exact Subscript_ (binT ha hb I h fun v u s2 x y H2 I2 rx ry q=>hr a b pins s2 σ H2 x y v u Q I2 rx ry q (hs _ _))
def rIxL (K:PySem.W.Frag):R2:=fun x y H Q=>∃ p xs i v,x=.ref p/\y=.int i/\SqL K H p xs/\atI xs i=some v/\Q v H
def rIxT (K:PySem.W.Frag):R2:=fun x y H Q=>∃ p xs i v,x=.ref p/\y=.int i/\SqT K H p xs/\atI xs i=some v/\Q v H
def rIxS:R2:=fun x y H Q=>∃ z i c,x=.str z/\y=.int i/\z.length<=sizeLine/\atI z.cps.toList i=some c/\Q (.str ⟨#[c]⟩) H
theorem ix_list:IxR X (rIxL X.K):=by
 intro value slice pins s σ H x y v u Q I rx ry h hs
 obtain⟨p,xs,i,z,rfl,rfl,hq,he,q⟩:=h
 cases rx
 obtain⟨t,rfl⟩:=ry
 obtain⟨its,r,pl,hz⟩:=I.list hq
 obtain⟨j,h1,h2,h3,h4,h5⟩:=atI_get he
 obtain⟨w,ew,rw'⟩:=r.get h2
 have hl:=r.length
 have hn:=line63
 have fin:EP X pins σ Q w s:=⟨z,H,I,rw',q⟩
 by_cases h0:0<=i
 ·have hj:i.toNat=j:=by
   rw[seqIndex_of h0 h5]at h1
   exact Option.some.inj h1
  exact item_listR pl.isList h0 (by lia) (by rw[hj];simpa using ew) fin hs
 ·have hj:(i+(its.toArray.size:Int)).toNat=j:=by
   rw[seqIndex_neg (by lia) h4]at h1
   rw[List.size_toArray,<- hl]
   exact Option.some.inj h1
  exact subscriptTail_builtinR (x:=w) pl.isList.typeIs slot_list_getitem.lookup
   (wpAny_getItem_list_neg (Q:=fun r s'=>r=w/\EP X pins σ Q r s') pl.isList (by lia) (by rw[List.size_toArray] <;> lia) (by lia) (by rw[hj];simpa using ew) ⟨rfl,fin⟩) hs
theorem ix_tup:IxR X (rIxT X.K):=by
 intro value slice pins s σ H x y v u Q I rx ry h hs
 obtain⟨p,xs,i,z,rfl,rfl,hq,he,q⟩:=h
 cases rx
 obtain⟨t,rfl⟩:=ry
 obtain⟨its,r,pl,hz⟩:=I.tuple hq
 obtain⟨j,h1,h2,h3,h4,h5⟩:=atI_get he
 obtain⟨w,ew,rw'⟩:=r.get h2
 have hl:=r.length
 have hn:=line63
 have fin:EP X pins σ Q w s:=⟨z,H,I,rw',q⟩
 exact subscriptTail_builtinR (x:=w) pl.typeIs slot_tuple_getitem.lookup
  (getItem_tuple (j:=j) (Q:=fun r s'=>r=w/\EP X pins σ Q r s') pl (by lia) (by lia) (by rw[List.size_toArray,<- hl];exact h1) (by simpa using ew) ⟨rfl,fin⟩) hs
theorem ix_str:IxR X rIxS:=by
 intro value slice pins s σ H x y v u Q I rx ry h hs
 obtain⟨z,i,c,rfl,rfl,hz,he,q⟩:=h
 obtain⟨t,rfl⟩:=rx
 obtain⟨t',rfl⟩:=ry
 obtain⟨j,h1,h2,h3,h4,h5⟩:=atI_get he
 have hl:z.cps.toList.length=z.length:=by simp [Str.length]
 rw[hl]at h1 h4 h5
 have hn:=line63
 exact tail_any (typeIs_str s z t) slot_str_getitem.lookup (getItem_str (c:=c) (by
  have e1:decide (i < -(2 ^ 63:Int))=false:=decide_eq_false (by lia)
  have e2:decide (i ≥ 2 ^ 63)=false:=decide_eq_false (by lia)
  rw[e1,e2,Bool.or_false]) (by rw[h1];simpa using h2) ⟨.str ⟨#[c]⟩,H,I.tok _,⟨_,rfl⟩,q⟩) hs
theorem mapSeq_set (its:List Value) (n j:Nat) (u:Value):Obj.mapSeq (·.setIfInBounds j u) { cls:=.type "list",data:=.seq its.toArray n }={ cls:=.type "list",data:=.seq (its.set j u).toArray n }:=by
 simp [Obj.mapSeq]
theorem Inv.lst {pins:List (Addr×Obj)} {σ:St} {H:Hp}{s:Shared}{p:Addr}{xs:List V} (I:Inv X pins σ H s) (h:H p=some (.lst xs)) :
  ∃ (its:List Value) (n:Nat),Vals xs its/\s.heap.get? p=some { cls:=.type "list",data:=.seq its.toArray n }/\xs.length<=sizeLine:=by
 obtain⟨z,its,n,r,e⟩:=I.hok p _ h
 exact⟨its,n,r,e,z⟩
theorem Inv.lstUpd {pins:List (Addr×Obj)} {σ:St} {H:Hp}{s:Shared}{p:Addr}{xs ys:List V}{its its':List Value}{n n':Nat}{f:Obj->Obj} (I:Inv X pins σ H s) (h:H p=some (.lst xs))
  (ho:s.heap.get? p=some { cls:=.type "list",data:=.seq its.toArray n }) (hf:f { cls:=.type "list",data:=.seq its.toArray n }={ cls:=.type "list",data:=.seq its'.toArray n' }) (r:Vals ys its') (hz:ys.length<=sizeLine) (t:Nat) :
  Inv X pins σ (upd H p (.lst ys)) { s with heap:=s.heap.update p f,toks:=t }:=by
 have e:(s.heap.update p f).get? p=some { cls:=.type "list",data:=.seq its'.toArray n' }:=by
  rw[Heap.get?_update_self f ho (by rw[hf] <;> rfl),hf]
 refine I.write (x:=p) (e:=p) (by rw[h];trivial) (.inl rfl) (fun b u hb q=>(Heap.get?_update_other _ _ (Ne.symm hb)).trans q) ⟨_,e⟩ ?_
 exact⟨hz,its',n',r,e⟩
def rSetL:V->V->V->Hp->(Hp->Prop)->Prop:=fun o i v H Q=>∃ p xs k j,o=.ref p/\i=.int k/\H p=some (.lst xs)/\ixN xs.length k=some j/\Q (upd H p (.lst (xs.set j v)))
theorem set_list:PSet X rSetL:=by
 intro pins s σ H o i v ov iv u Q I ro ri rv h
 obtain⟨p,xs,k,j,rfl,rfl,hp,hj,q⟩:=h
 cases ro
 obtain⟨t,rfl⟩:=ri
 obtain⟨its,n,r,ho,hz⟩:=I.lst hp
 obtain⟨h1,h2,h3,h4⟩:=ixN_seq hj
 have hl:=r.length
 have hn:=line63
 have I':Inv X pins σ (upd H p (.lst (xs.set j v))) { s with heap:=s.heap.update p (Obj.mapSeq (·.setIfInBounds j u)) }:=
  I.lstUpd hp ho (mapSeq_set its n j u) (r.set rv j) (by rw[List.length_set];exact hz) s.toks
 by_cases h0:0<=k
 ·have hk:k.toNat=j:=by
   rw[seqIndex_of h0 h4]at h1
   exact Option.some.inj h1
  exact PySem.W.ki_setAt ho h0 (by lia) (by rw[List.size_toArray,<- hl];exact h4) (by rw[hk];exact⟨_,I',q⟩)
 ·have hk:(k+(its.toArray.size:Int)).toNat=j:=by
   rw[seqIndex_neg (by lia) h3]at h1
   rw[List.size_toArray,<- hl]
   exact Option.some.inj h1
  exact PySem.W.ki_setBack ho (by lia) (by rw[List.size_toArray,<- hl];exact h3) (by lia) (by rw[hk];exact⟨_,I',q⟩)
theorem slice_bounds (lo hi:Option Int) (n:Nat):(sliceBounds lo hi none n).1=((HT.sIx n 0 lo:Nat):Int)/\(sliceBounds lo hi none n).2.1=((HT.sIx n n hi:Nat):Int)/\(sliceBounds lo hi none n).2.2=1:=by
 refine⟨?_,?_,rfl⟩
 ·cases lo with
  | none=>simp [sliceBounds,HT.sIx]
  | some i=>
   simp only[sliceBounds,HT.sIx,Option.getD_none,show (1:Int) > 0 by decide,if_true]
   by_cases h:i<0
   ·simp only[h,if_true] <;> lia
   ·simp only[h,if_false] <;> lia
 ·cases hi with
  | none=>simp [sliceBounds,HT.sIx]
  | some i=>
   simp only[sliceBounds,HT.sIx,Option.getD_none,show (1:Int) > 0 by decide,if_true]
   by_cases h:i<0
   ·simp only[h,if_true] <;> lia
   ·simp only[h,if_false] <;> lia
theorem slicePick_cut (its:List Value) (lo hi:Option Int):slicePick its.toArray lo hi none=((its.drop (HT.sIx its.length 0 lo)).take (HT.sIx its.length its.length hi-HT.sIx its.length 0 lo)).toArray:=by
 obtain⟨h1,h2,h3⟩:=slice_bounds lo hi its.toArray.size
 unfold slicePick
 rw[h1,h2,h3]
 simp only[sliceRange_one,pick_run,List.size_toArray] <;> rfl
def rSlL (K:PySem.W.Frag):V->Option Int->Option Int->Hp->VK->Prop:=fun x lo hi H Q=>∃ a xs,x=.ref a/\SqL K H a xs/\∀ p,H p=none->Q (.ref p) (upd H p (.lst (cutV xs lo hi)))
theorem sl_list:SlR X (rSlL X.K):=by
 intro pins s σ H x v vl vu lo hi sl Q I rx hs pl pu h
 obtain⟨a,xs,rfl,hx,q⟩:=h
 cases rx
 obtain⟨its,r,ht,hz⟩:=I.list hx
 have hlen:=r.length
 refine⟨"list",_,slot_list_getitem.lookup,ht.isList.typeIs,?_⟩
 refine wpAny_getItem_list_slice ht.isList hs pl pu .none (by simp) ?_ (by rw[List.size_toArray] <;> lia)
 rw[slicePick_cut,<- hlen]
 refine⟨.ref s.heap.objs.size,_,I.laid (t':=s.toks) (o:=.lst (cutV xs lo hi)) (fun b ob q=>Heap.get?_push_of_some _ q) (Nat.le_refl _) ?_,rfl,q _ (I.hok.fresh (Nat.le_refl _))⟩
 exact⟨Nat.le_trans (cutV_length xs lo hi) hz,_,0,(r.drop (HT.sIx xs.length 0 lo)).take (HT.sIx xs.length xs.length hi-HT.sIx xs.length 0 lo),Heap.get?_push_size _ rfl⟩
def flatV:V->Bool
 | .non=>true
 | .bl _=>true
 | .int _=>true
 | .str _=>true
 | _=>false
def eqV:V->V->Bool
 | .non,.non=>true
 | .bl a,.bl b=>a == b
 | .bl a,.int b=>(if a then 1 else 0) == b
 | .int a,.bl b=>a == (if b then 1 else 0)
 | .int a,.int b=>a == b
 | .str a,.str b=>a == b
 | _,_=>false
theorem eqAt_V {A:Around}{s:Shared}{y x:V}{u v:Value} (ry:RelV y u) (rx:RelV x v) (fy:flatV y=true) (fx:flatV x=true):SeqAt.EqAt A s u v (eqV y x):=by
 cases y with
 | non=>
  cases ry
  cases x with
  | non=>cases rx;exact SeqAt.EqAt.same _
  | bl b=>cases rx;exact SeqAt.EqAt.none_bool b
  | int b=>obtain⟨t,rfl⟩:=rx;exact SeqAt.EqAt.none_int b t
  | str b=>obtain⟨t,rfl⟩:=rx;exact SeqAt.EqAt.none_str b t
  | _=>exact absurd (show false=true from fx) Bool.false_ne_true
 | bl a=>
  cases ry
  cases x with
  | non=>cases rx;exact SeqAt.EqAt.bool_none a
  | bl b=>cases rx;exact SeqAt.EqAt.bool_bool a b
  | int b=>obtain⟨t,rfl⟩:=rx;exact SeqAt.EqAt.bool_int a b t
  | str b=>obtain⟨t,rfl⟩:=rx;exact SeqAt.EqAt.bool_str a b t
  | _=>exact absurd (show false=true from fx) Bool.false_ne_true
 | int a=>
  obtain⟨t',rfl⟩:=ry
  cases x with
  | non=>cases rx;exact SeqAt.EqAt.int_none a t'
  | bl b=>cases rx;exact SeqAt.EqAt.int_bool a t' b
  | int b=>obtain⟨t,rfl⟩:=rx;exact SeqAt.EqAt.int_int a t' b t
  | str b=>obtain⟨t,rfl⟩:=rx;exact SeqAt.EqAt.int_str a t' b t
  | _=>exact absurd (show false=true from fx) Bool.false_ne_true
 | str a=>
  obtain⟨t',rfl⟩:=ry
  cases x with
  | non=>cases rx;exact SeqAt.EqAt.str_none a t'
  | bl b=>cases rx;exact SeqAt.EqAt.str_bool a t' b
  | int b=>obtain⟨t,rfl⟩:=rx;exact SeqAt.EqAt.str_int a t' b t
  | str b=>obtain⟨t,rfl⟩:=rx;exact SeqAt.EqAt.str_str a t' b t
  | _=>exact absurd (show false=true from fx) Bool.false_ne_true
 | _=>exact absurd (show false=true from fy) Bool.false_ne_true
def eqU (x:V) (u:Value):Bool:=match u with
 | .none=>eqV .non x
 | .bool b=>eqV (.bl b) x
 | .int i _=>eqV (.int i) x
 | .str z _=>eqV (.str z) x
 | _=>false
theorem eqU_of {x y:V}{u:Value} (r:RelV y u) (f:flatV y=true):eqU x u=eqV y x:=by
 cases y with
 | non=>cases r;rfl
 | bl b=>cases r;rfl
 | int i=>obtain⟨t,rfl⟩:=r;rfl
 | str z=>obtain⟨t,rfl⟩:=r;rfl
 | _=>exact absurd (show false=true from f) Bool.false_ne_true
theorem any_eqU {x:V}:∀ {xs:List V}{us:List Value},Vals xs us->xs.all flatV=true->us.any (eqU x)=xs.any fun y=>eqV y x
 | _,_,.nil,_=>rfl
 | y::xs,u::us,.cons r t,f=>by
  rw[List.all_cons,Bool.and_eq_true]at f
  rw[List.any_cons,List.any_cons,eqU_of r f.1,any_eqU t f.2]
theorem mem_eqAt {A:Around}{s:Shared}{x:V}{v:Value} (rx:RelV x v) (fx:flatV x=true):∀ {xs:List V}{us:List Value},Vals xs us->xs.all flatV=true->∀ u∈us,SeqAt.EqAt A s u v (eqU x u)
 | _,_,.nil,_=>fun u hu=>by cases hu
 | y::xs,u::us,.cons r t,f=>fun u' hu=>by
  rw[List.all_cons,Bool.and_eq_true]at f
  rcases List.mem_cons.mp hu with rfl | hu
  ·rw[eqU_of r f.1];exact eqAt_V r rx f.1 fx
  ·exact mem_eqAt rx fx t f.2 u' hu
def inV (x:V) (xs:List V):Bool:=xs.any fun y=>eqV y x
def rIn (K:PySem.W.Frag) (neg:Bool):R2:=fun x y H Q=>∃ p xs,y=.ref p/\(SqL K H p xs\/SqT K H p xs)/\flatV x=true/\xs.all flatV=true/\Q (.bl (if neg then !inV x xs else inV x xs)) H
theorem op_in_seq:OpR X (compareOp .In) (rIn X.K false):=by
 intro pins s σ H x y v u Q I rx ry h
 obtain⟨p,xs,rfl,hq,fx,fs,q⟩:=h
 cases ry
 rcases hq with hq | hq
 ·obtain⟨its,r,pl,hz⟩:=I.list hq
  refine SeqAt.in_listAt (eqU x) pl.isList (fun w hw=>mem_eqAt rx fx r fs w (by simpa using hw)) ⟨.bl _,H,I,rfl,?_⟩
  rw[show its.toArray.any (eqU x)=its.any (eqU x) by simp,any_eqU r fs]
  exact q
 ·obtain⟨its,r,pl,hz⟩:=I.tuple hq
  refine SeqAt.in_tupleAt (eqU x) pl (fun w hw=>mem_eqAt rx fx r fs w (by simpa using hw)) ⟨.bl _,H,I,rfl,?_⟩
  rw[show its.toArray.any (eqU x)=its.any (eqU x) by simp,any_eqU r fs]
  exact q
theorem op_notIn_seq:OpR X (compareOp .NotIn) (rIn X.K true):=by
 intro pins s σ H x y v u Q I rx ry h
 obtain⟨p,xs,rfl,hq,fx,fs,q⟩:=h
 cases ry
 rcases hq with hq | hq
 ·obtain⟨its,r,pl,hz⟩:=I.list hq
  refine SeqAt.notIn_listAt (eqU x) pl.isList (fun w hw=>mem_eqAt rx fx r fs w (by simpa using hw)) ⟨.bl _,H,I,rfl,?_⟩
  rw[show its.toArray.any (eqU x)=its.any (eqU x) by simp,any_eqU r fs]
  exact q
 ·obtain⟨its,r,pl,hz⟩:=I.tuple hq
  refine SeqAt.notIn_tupleAt (eqU x) pl (fun w hw=>mem_eqAt rx fx r fs w (by simpa using hw)) ⟨.bl _,H,I,rfl,?_⟩
  rw[show its.toArray.any (eqU x)=its.any (eqU x) by simp,any_eqU r fs]
  exact q
theorem call_len_seq:CallR X (.builtin "len") (fun xs H Q=>∃ p ys,xs=[.ref p]/\(SqL X.K H p ys\/SqT X.K H p ys)/\Q (.int ys.length) H):=by
 intro pins s σ H xs us Q I r h
 obtain⟨p,ys,rfl,hq,q⟩:=h
 obtain⟨u,rfl,rx⟩:=vals1 r
 cases rx
 have hn:=line63
 rcases hq with hq | hq
 ·obtain⟨its,r',pl,hz⟩:=I.list hq
  have hlen:=r'.length
  exact Calls.call_len_list pl.isList (by simp only[List.size_toArray] <;> lia) ⟨.int ys.length,H,I.tok _,⟨s.toks+1,by rw[List.size_toArray,hlen]⟩,q⟩
 ·obtain⟨its,r',pl,hz⟩:=I.tuple hq
  have hlen:=r'.length
  exact len_tuple pl (by simp only[List.size_toArray] <;> lia) ⟨.int ys.length,H,I.tok _,⟨s.toks+1,by rw[List.size_toArray,hlen]⟩,q⟩
theorem call_len_str:CallR X (.builtin "len") (fun xs H Q=>∃ z,xs=[.str z]/\z.length<=sizeLine/\Q (.int z.length) H):=by
 intro pins s σ H xs us Q I r h
 obtain⟨z,rfl,hz,q⟩:=h
 obtain⟨u,rfl,t,rfl⟩:=vals1 r
 have hn:=line63
 exact len_str (by lia) ⟨.int z.length,H,I.tok _,⟨_,rfl⟩,q⟩
theorem CallR.or {f:Value}{r r':List V->Hp->VK->Prop} (h:CallR X f r) (h':CallR X f r'):CallR X f (fun xs H Q=>r xs H Q\/r' xs H Q):=by
 intro pins s σ H xs us Q I rs q
 rcases q with q | q
 ·exact h pins s σ H xs us Q I rs q
 ·exact h' pins s σ H xs us Q I rs q
theorem call_tuple_of:CallR X (.type "tuple") (fun xs H Q=>∃ p ys,xs=[.ref p]/\((SqL X.K H p ys/\∀ l,H l=none->Q (.ref l) (upd H l (.tup ys)))\/(SqT X.K H p ys/\Q (.ref p) H))):=by
 intro pins s σ H xs us Q I r h
 obtain⟨p,ys,rfl,h⟩:=h
 obtain⟨u,rfl,rx⟩:=vals1 r
 cases rx
 rcases h with ⟨hq,q⟩ | ⟨hq,q⟩
 ·obtain⟨its,r',pl,hz⟩:=I.list hq
  have hlen:=r'.length
  refine call_tuple_list pl.isList (fun h' kp=>?_) (by simp only[List.size_toArray] <;> lia)
  have I1:Inv X pins σ H { s with heap:=h' }:=I.kept (t':=s.toks) kp
  have I2:Inv X pins σ (upd H h'.objs.size (.tup ys)) { s with heap:=h'.push { cls:=.type "tuple",data:=.seq its.toArray } }:=
   I1.laid (t':=s.toks) (fun b o e=>Heap.get?_push_of_some _ e) (Nat.le_refl _) (show ObjOk X.prog X.w _ _ _ (.tup ys) from ⟨tupD_new hz,its,r',IsTup.new _ _⟩)
  exact⟨.ref h'.objs.size,_,I2,rfl,q _ (I1.hok.fresh (Nat.le_refl _))⟩
 ·obtain⟨its,r',pl,hz⟩:=I.tuple hq
  exact call_tuple_same pl ⟨.ref p,H,I,rfl,q⟩
def tyV (K:PySem.W.Frag) (T:String) (x:V) (H:Hp):Prop:=match x with
 | .str _=>T="str"
 | .int _=>T="int"
 | .ref p=>(T="list"/\∃ xs,SqL K H p xs)\/(T="tuple"/\∃ o,K.lookup p=some o/\o.cls=.type "tuple"/\o.dict=none) \/
   (T="dict"/\((∃ kvs,H p=some (.dK kvs))\/∃ kvs,H p=some (.dT kvs)))\/(T="set"/\∃ S n,H p=some (.set S n))
 | _=>False
theorem tyV_is {pins:List (Addr×Obj)} {σ:St} {H:Hp}{s:Shared}{T:String}{x:V}{v:Value} (I:Inv X pins σ H s) (r:RelV x v) (ty:tyV X.K T x H) :
  s.TypeIs v T/\∀ a,v=.ref a->∃ ob,s.heap.get? a=some ob/\ob.dict=none:=by
 cases x with
 | str z=>
  obtain⟨t,rfl⟩:=r
  cases (show T="str" from ty)
  exact⟨typeIs_str s z t,fun _ e=>nomatch e⟩
 | int i=>
  obtain⟨t,rfl⟩:=r
  cases (show T="int" from ty)
  exact⟨typeIs_int s i t,fun _ e=>nomatch e⟩
 | ref p=>
  cases r
  rcases ty with ⟨rfl,xs,hq⟩ | ⟨rfl,o,hk,hc,hd⟩ | ⟨rfl,hk⟩ | ⟨rfl,S,n,hk⟩
  ·obtain⟨its,_,pl,_⟩:=I.list hq
   refine⟨pl.isList.typeIs,fun a e=>?_⟩
   cases e
   obtain⟨o,n,e,c,hd,_⟩:=pl
   exact⟨o,e,hd⟩
  ·refine⟨⟨o,I.kIn p o hk,hc⟩,fun a e=>?_⟩
   cases e
   exact⟨o,I.kIn _ o hk,hd⟩
  ·have z:∃ o,s.heap.get? p=some o/\o.ExactDict:=by
    rcases hk with ⟨kvs,hk⟩ | ⟨kvs,hk⟩
    ·obtain⟨_,_,_,_,o,_,_,e,ex,_⟩:=I.hok p _ hk
     exact⟨o,e,ex⟩
    ·obtain⟨_,_,_,_,o,_,_,e,ex,_⟩:=I.hok p _ hk
     exact⟨o,e,ex⟩
   obtain⟨o,e,ex⟩:=z
   refine⟨⟨o,e,ex.1⟩,fun a e2=>?_⟩
   cases e2
   exact⟨o,e,ex.2.1⟩
  ·obtain⟨o,_,_,_,e,ex,_⟩:=I.hok p _ hk
   refine⟨⟨o,e,ex.1⟩,fun a e2=>?_⟩
   cases e2
   exact⟨o,e,ex.2.1⟩
 | _=>exact False.elim ty
def tBM0 (K:PySem.W.Frag) (T:String) (r:V->List V->Hp->VK->Prop) (to:TE):TE:=fun σ H Q=>to σ H fun x H1=>tyV K T x H1/\r x [] H1 Q
def tBM (K:PySem.W.Frag) (T:String) (r:V->List V->Hp->VK->Prop) (to:TE) (t:TA):TE:=fun σ H Q=>to σ H fun x H1=>tyV K T x H1/\t σ H1 fun xs H2=>r x xs H2 Q
variable {o e:Expr}{es:List Expr}{to:TE}{t:TA}{name:Str}{apos cpos:Pos}{T id:String}{r:V->List V->Hp->VK->Prop}
theorem pe_bm0 (pa:PlainAttrs T) (slot:Slot T name id) (hty:typeOf (.builtin id)=pure (.type "method_descriptor")) (hm:MtR X id r) (ho:PE X o to)
  (hbase:attributeBase o name X.env (eval o X.env)=eval o X.env:=by rfl) (hline:(apos.endLine == cpos.line)=true:=by rfl):PE X (.Call (.Attribute o name apos) [] [] cpos) (tBM0 X.K T r to):=by
 intro pins s σ H Q I h
 refine wpAny_Call_method0_late hbase hline (thn (ho pins s σ H _ I h) fun v s1 ⟨x,H1,I1,r1,ty,q1⟩=>?_)
 obtain⟨h1,h2⟩:=tyV_is I1 r1 ty
 exact⟨T,id,pa,slot,hty,h1,h2,Calls.callWith_builtin rfl (PySem.evalArgs_none (hm pins s1 σ H1 x [] v [] Q I1 r1 .nil q1))⟩
theorem pe_bm (pa:PlainAttrs T) (slot:Slot T name id) (hty:typeOf (.builtin id)=pure (.type "method_descriptor")) (hm:MtR X id r) (ho:PE X o to) (ha:PA X (e::es) t)
  (hbase:attributeBase o name X.env (eval o X.env)=eval o X.env:=by rfl)
  (hfew:((backTo cpos (starEach (e::es) X.env)).all (fun x=>!x.1) && (backToKw cpos (keywordEach [] X.env)).all (fun x=>x.1.isSome)
   && decide ((e::es).length+([]:List Keyword).length+(if ([]:List Keyword).isEmpty then 0 else 1)<30))=true:=by rfl)
  (hline:(apos.endLine == cpos.line)=true:=by rfl) (hs:starEach (e::es) X.env=(false,eval e X.env)::starEach es X.env:=by rfl) (hplain:(backTo cpos (starEach es X.env)).any (·.1)=false:=by rfl) :
  PE X (.Call (.Attribute o name apos) (e::es) [] cpos) (tBM X.K T r to t):=by
 intro pins s σ H Q I h
 refine wpAny_Call_method_late hbase hfew hline rfl (thn (ho pins s σ H _ I h) fun v s1 ⟨x,H1,I1,r1,ty,q1⟩=>?_)
 obtain⟨h1,h2⟩:=tyV_is I1 r1 ty
 refine⟨T,id,pa,slot,hty,h1,h2,?_⟩
 have hA:=ha cpos pins s1 σ H1 _ I1 q1
 rw[hs]at hA ⊢
 refine Calls.callWith_builtin (by show (false || (backTo cpos (starEach es X.env)).any (·.1))=false;rw[hplain] <;> rfl) (Calls.evalArgs_plain ?_)
 exact thn hA fun us s2 ⟨vs,H2,I2,r2,q2⟩=>hm pins s2 σ H2 x vs v us Q I2 r1 r2 q2
/- xs.append(e),list.index on a module's tuple .. are MtR facts of 06m -/
end
end L2
namespace L2
open PySem PySem.Spec PyProof.Rows
def MtM (X:Cx) (id:String) (r:V->List V->Hp->VK->Prop):Prop:=
 ∀ (pins:List (Addr×Obj)) (s:Shared) (σ:St) (H:Hp) (x:V) (xs:List V) (v:Value) (us:List Value) (Q:VK),Inv X pins σ H s->RelV x v->Vals xs us->r x xs H Q ->
  wpAny (model X.prog X.w) X.A (call (.builtin id) (v::us)) (EP X pins σ Q) X.xe s
theorem Vals.one {x:V}{us:List Value} (h:Vals [x] us):∃ u,us=[u]/\RelV x u:=by
 cases h with
 | cons r t=>cases t;exact⟨_,rfl,r⟩
theorem Vals.two {x y:V}{us:List Value} (h:Vals [x,y] us):∃ u v,us=[u,v]/\RelV x u/\RelV y v:=by
 cases h with
 | cons r t=>
  obtain⟨v,rfl,q⟩:=Vals.one t
  exact⟨_,_,rfl,r,q⟩
theorem Vals.zero:∀ {us:List Value},Vals [] us->us=[]
 | _,.nil=>rfl
theorem Vals.dropLast {xs:List V}{us:List Value} (h:Vals xs us):Vals xs.dropLast us.dropLast:=by
 induction h with
 | nil=>exact .nil
 | cons r t ih=>
  cases t with
  | nil=>exact .nil
  | cons q t'=>exact .cons r ih
theorem erase_last {α:Type} (l:List α):l.eraseIdx (l.length-1)=l.dropLast:=by
 induction l with
 | nil=>rfl
 | cons a r ih=>
  cases r with
  | nil=>rfl
  | cons b r=>
   have e:(a::b::r).length-1=((b::r).length-1)+1:=by
    have h1:(a::b::r).length=r.length+2:=rfl
    have h2:(b::r).length=r.length+1:=rfl
    lia
   rw[e,List.eraseIdx_cons_succ,ih]
   all_goals rfl
section
variable {X:Cx}{pins:List (Addr×Obj)} {σ:St} {H:Hp}{s:Shared}{l b:Addr}{xs ys zs:List V}
theorem Inv.lset {its its':List Value}{n:Nat}{f:Array Value->Array Value}{t':Nat} (I:Inv X pins σ H s) (hH:H l=some (.lst xs))
  (e:s.heap.get? l=some { cls:=.type "list",data:=.seq its.toArray n }) (hf:f its.toArray=its'.toArray) (hv:Vals ys its') (hz:ys.length<=sizeLine) :
  Inv X pins σ (upd H l (.lst ys)) { s with heap:=s.heap.update l (Obj.mapSeq f),toks:=t' }:=by
 have q:=PySem.IsL.update e f
 rw[hf]at q
 refine I.write (x:=l) (e:=l) (by rw[hH];exact trivial) (.inl rfl) (fun b' u hb hu=>(Heap.get?_update_other s.heap (Obj.mapSeq f) (Ne.symm hb)).trans hu) ⟨_,q⟩ ?_
 exact⟨hz,its',_,hv,q⟩
theorem Inv.lnew {its:List Value}{t':Nat} (I:Inv X pins σ H s) (hv:Vals ys its) (hz:ys.length<=sizeLine) :
  Inv X pins σ (upd H s.heap.objs.size (.lst ys)) { s with heap:=s.heap.push { cls:=.type "list",data:=.seq its.toArray },toks:=t' }:=
 I.laid (fun _ _ q=>Heap.get?_push_of_some _ q) (Nat.le_refl _) ⟨hz,its,0,hv,Heap.get?_push_size _ rfl⟩
theorem Inv.fresh (I:Inv X pins σ H s):H s.heap.objs.size=none:=I.hok.fresh (Nat.le_refl _)
theorem Inv.lstM (I:Inv X pins σ H s) (hH:H l=some (.lst xs)):xs.length<=sizeLine/\∃ (its:List Value) (n:Nat),Vals xs its/\xs.length=its.length/\s.heap.get? l=some { cls:=.type "list",data:=.seq its.toArray n }:=by
 obtain⟨z,its,n,r,e⟩:=I.hok l _ hH
 exact⟨z,its,n,r,r.length,e⟩
theorem notLongL {n:Nat} (h:n<=sizeLine):Builtin.List.listTooLong n=false:=by
 unfold Builtin.List.listTooLong
 exact decide_eq_false (by lia)
end
section
variable {X:Cx}
def rAppend:V->List V->Hp->VK->Prop:=fun x vs H Q=>∃ l xs y,x=.ref l/\vs=[y]/\H l=some (.lst xs)/\xs.length<sizeLine/\Q .non (upd H l (.lst (xs++[y])))
theorem mt_append:MtM X "list.append" rAppend:=by
 intro pins s σ H x vs v us Q I rx rv h
 obtain⟨l,xs,y,rfl,rfl,hH,hz,q⟩:=h
 cases rx
 obtain⟨u,rfl,ru⟩:=rv.one
 obtain⟨z,its,n,r,hl,e⟩:=I.lstM hH
 refine call_meets F.slot_list_append ⟨_,e,rfl⟩ F.entry_list_append (F.args_list_append_2 _ _) (PySem.list_append l its.toArray n u (by rw[List.size_toArray];lia)) ⟨e,?_⟩
 refine⟨.non,_,I.lset (its':=its++[u]) hH e (by simp) (r.append (.cons ru .nil)) ?_,rfl,q⟩
 rw[List.length_append,List.length_singleton]
 lia
def rExtend:V->List V->Hp->VK->Prop:=fun x vs H Q=>∃ l b xs zs,x=.ref l/\vs=[.ref b]/\H l=some (.lst xs)/\H b=some (.lst zs)/\xs.length+zs.length<=sizeLine/\Q .non (upd H l (.lst (xs++zs)))
theorem mt_extend:MtM X "list.extend" rExtend:=by
 intro pins s σ H x vs v us Q I rx rv h
 obtain⟨l,b,xs,zs,rfl,rfl,hH,hB,hz,q⟩:=h
 cases rx
 obtain⟨u,rfl,ru⟩:=rv.one
 cases ru
 obtain⟨z,its,n,r,hl,e⟩:=I.lstM hH
 obtain⟨z2,its2,n2,r2,hl2,e2⟩:=I.lstM hB
 have hsz:its.toArray.size+its2.toArray.size<=sizeLine:=by rw[List.size_toArray,List.size_toArray];lia
 have hlong:¬(!its.toArray.isEmpty && Builtin.List.listTooLong (its.toArray.size+its2.toArray.size))=true:=by
  rw[notLongL hsz,Bool.and_false]
  exact Bool.false_ne_true
 refine call_meets F.slot_list_extend ⟨_,e,rfl⟩ F.entry_list_extend (F.args_list_extend_2 _ _)
  (AutoSeq1.list_extend_list_list_0 l its.toArray n b its2.toArray n2 hlong (by rw[List.size_toArray];lia) (by lia)) ⟨e,e2,?_⟩
 refine⟨.non,_,I.lset (its':=its++its2) hH e (by simp) (r.append r2) ?_,rfl,q⟩
 rw[List.length_append]
 lia
def rPop:V->List V->Hp->VK->Prop:=fun x vs H Q=>∃ l xs y,x=.ref l/\vs=[]/\H l=some (.lst xs)/\xs[xs.length-1]?=some y/\Q y (upd H l (.lst xs.dropLast))
theorem mt_pop:MtM X "list.pop" rPop:=by
 intro pins s σ H x vs v us Q I rx rv h
 obtain⟨l,xs,y,rfl,rfl,hH,hy,q⟩:=h
 cases rx
 have hus:=rv.zero
 subst hus
 obtain⟨z,its,n,r,hl,e⟩:=I.lstM hH
 obtain⟨u,hu,ru⟩:=r.get hy
 have hy':its.toArray[its.toArray.size-1]?=some u:=by
  show its.toArray[its.length-1]?=some u
  rw[<- Array.getElem?_toList,<- hl]
  exact hu
 refine call_meets F.slot_list_pop ⟨_,e,rfl⟩ F.entry_list_pop (F.args_list_pop_1 _) (MeetsSeq.list_pop_last l its.toArray n u hy' (by rw[List.size_toArray];lia)) ⟨e,?_⟩
 refine⟨y,_,I.lset (its':=its.dropLast) hH e ?_ r.dropLast ?_,ru,q⟩
 ·show its.toArray.eraseIdxIfInBounds (its.toArray.size-1)=its.dropLast.toArray
  rw[List.size_toArray,List.eraseIdxIfInBounds_toArray,erase_last]
 ·rw[List.length_dropLast]
  lia
def rCat:R2:=fun x y H Q=>∃ l b xs zs,x=.ref l/\y=.ref b/\H l=some (.lst xs)/\H b=some (.lst zs)/\xs.length+zs.length<=sizeLine/\∀ p,H p=none->Q (.ref p) (upd H p (.lst (xs++zs)))
theorem op_cat:OpR X (binaryOp .Add) rCat:=by
 intro pins s σ H x y v u Q I rx ry h
 obtain⟨l,b,xs,zs,rfl,rfl,hH,hB,hz,q⟩:=h
 cases rx
 cases ry
 obtain⟨z,its,n,r,hl,e⟩:=I.lstM hH
 obtain⟨z2,its2,n2,r2,hl2,e2⟩:=I.lstM hB
 refine PySem.P.add_list e e2 ?_ (by rw[List.size_toArray,List.size_toArray];lia)
 have ea:its.toArray++its2.toArray=(its++its2).toArray:=by simp
 rw[ea]
 exact⟨.ref _,_,I.lnew (t':=s.toks) (r.append r2) (by rw[List.length_append];lia),rfl,q _ I.fresh⟩
end
section
variable {prog:Program}{w:World}{A:Around}{E:Value->Shared->Prop}{s:Shared}
set_option maxRecDepth 100000 in
end
section
variable {X:Cx}
end
end L2
namespace Att
open PySem PySem.W PySem.Calls PyProof.Rows
theorem ints_of_wellAll {P:Params}{h:Heap}:∀ (ns:List Int) (vs:List Value),WellAll P h vs (ns.map WData.int)->IntsAre vs ns:=by
 intro ns
 induction ns with
 | nil=>
  intro vs w
  rw[List.map_nil]at w
  cases w
  exact .nil
 | cons n ns ih=>
  intro vs w
  rw[List.map_cons]at w
  cases w with
  | cons a b=>
   cases a
   exact .cons _ _ (ih _ b)
theorem script_of {l:OpenLaw}{n:Nat} (hn:l.most=some n) {P:Params}{h:Heap}{args:List WData}{vals:List Value}
  (hpre:l.row.toRowW.claim.pre args=true) (hwl:WellAll P h vals args) :
  ∃ a vs ns,vals=[Value.ref a]/\args=[WData.list (ns.map WData.int)]/\h.get? a=some { cls:=.type "list",data:=.seq vs.toArray }/\IntsAre vs ns/\ns.length<=n:=by
 have hsh:WShape.hasAll [] args [.list .int]=true:=(pre_splitW hpre).1
 have hc:l.pre.holds [] { args:=args }=true:=(pre_splitW hpre).2
 obtain⟨d,r,rfl,h1,h2⟩:=hasAllW_cons hsh
 obtain rfl:=hasAllW_nil h2
 obtain⟨xs,rfl,h3⟩:=hasW_list h1
 obtain⟨ns,rfl⟩:=items_int h3
 have hlen:ns.length<=n:=by
  unfold OpenLaw.pre at hc
  have h4:(WTm.not (.lt (.lit (.int (n:Int))) (.len (.arg 0)))).holds [] { args:=[.list (ns.map .int)] }=true:=by
   have h4:=(holds_andW hc).1
   rw[hn]at h4
   exact h4
  have h5:=condW_of h4 (w_not (w_lt w_lit (w_len_list (w_arg rfl))))
  rw[List.length_map]at h5
  refine Nat.le_of_not_lt fun q=>?_
  have q':(n:Int)<((ns.length:Nat):Int):=by lia
  first
   | (rw[decide_eq_true q']at h5;exact absurd h5 (by decide))
   | (simp at h5;lia)
 cases hwl with
 | cons w1 w2=>
  cases w2
  cases w1 with
  | list ho hall=>exact⟨_,_,ns,rfl,rfl,ho,ints_of_wellAll ns _ hall,hlen⟩
theorem post_true (l:OpenLaw) (args:List WData):l.row.toRowW.claim.post args (.bool true) args=true:=
 postW_of (r:=l.row.toRowW) (X:=(true == true))
  (show WShape.has [] (.bool true) .bool=true by first | rfl | decide | simp [WShape.has,WShape.arms,WShape.armsAll])
  (show (WTm.eq .res (.lit (.bool true))).value [] { args:=args,res:=some (.bool true),after:=args }=some (.bool (true == true)) from w_eq_bool (w_res rfl) w_lit) rfl
theorem attach_call {l:OpenLaw}{n:Nat}{q:Program}{loose:List Str}{XP:(Str->Option Value)->Heap->Prop}{YP:World->Heap->Prop}{d:DefRec}
  (hn:l.most=some n) (hdf:d.params.defaults=[])
  (call:∀ (w:World) (s₀ s₁:Shared) (mg mb:Str->Option Value) (fa:Addr) (o:Obj) (pm cd doc:Value) (a:Addr) (vs:List Value) (ns:List Int),
   Ground q loose [] XP w s₀ mg mb s₁.heap->YP w s₁.heap ->
   s₁.heap.get? fa=some o->o.data=.func (docDef d.name d.params d.body d.scope pm cd doc)->s₁.heap.CodeRec cd d.name->mg d.name=some (.ref fa) ->
   s₁.heap.get? a=some { cls:=.type "list",data:=.seq vs.toArray }->IntsAre vs ns->ns.length<=n->s₁.gens=#[] ->
   codeAny (model l.prog w) callerA (.call (.ref fa) ⟨[.ref a],[]⟩) (fun r s'=>r=.ok (.ret (.bool true))/\OldK s₁.heap s'.heap/\s'.os=s₁.os/\AllBare s'.gens) s₁) :
  WalkO q loose XP YP l.row.toRowW d [] (fun f vs=>PySem.call f vs):=by
 intro w s₀ s₁ mg mb G Y fa o pm cd doc dV kV ho hd hcd hD hmg hg args vals as hpre hlay hrd hwl hlo
 obtain rfl:dV=.none:=Dflts.none hD hdf
 obtain rfl:kV=.none:=Dflts.noKw hD
 obtain⟨a,vs,ns,rfl,rfl,hobj,hints,hlen⟩:=script_of hn hpre hwl
 refine enter_call (codeAny_mono (call w s₀ s₁ mg mb fa o pm cd doc a vs ns G Y ho (fd_plain hd) hcd hmg hobj hints hlen hg) fun r s' hq=>?_)
 obtain⟨rfl,h2,h3,h4⟩:=hq
 exact⟨.inl ⟨.bool true,.bool true,[],rfl,fun _=>rfl,.bool true,post_true l _,fun _=>⟨List.Pairwise.nil,fun _ hm=>(nomatch hm)⟩⟩,h2,h3,h4⟩
section
variable {prog:Program}{w:World}{A:Around}{E:Value->Shared->Prop}{s:Shared}{K:Frag}
end
end Att
namespace L2
open PySem PySem.Spec PyProof.Rows
theorem vals_ints:∀ {vs:List Value}{ns:List Int},IntsAre vs ns->Vals (ns.map V.int) vs
 | _,_,.nil=>.nil
 | _,_,.cons n t h=>.cons ⟨t,rfl⟩ (vals_ints h)
def Only (H:Hp):Prop:=∀ b,H b=none\/∃ o xs,H b=some (.frz o (.lst xs))
theorem law_call {P:Program}{w:World}{K:PySem.W.Frag}{mg mb:Str->Option Value}{CX:CXT}{k:Nat}{fa a:Addr}{fd:FuncData}{x:Str}{sp:Sp}{s₁:Shared}{vs:List Value}{ns:List Int}
  (KX:K.In s₁.heap) (hns:s₁.heap.Ns mainGlobals mg) (hb:s₁.heap.Ns builtinsNs mb) (hbb:∀ x:Str,x≠"__name__"->mb x=bootBuiltins x) (hlim:s₁.heap.NoLimit) (hg:s₁.gens=#[])
  (ha:s₁.heap.get? a=some { cls:=.type "list",data:=.seq vs.toArray }) (hi:IntsAre vs ns) (hl:ns.length<=sizeLine) (hr:Room k callerA)
  (F:∀ base:Heap,K.In base->base.Ns mainGlobals mg->FnOk P w K mg base CX k fa fd [x] sp) (hbind:∀ (s:Shared) (u:Value),BindsTo s fd ⟨[u],[]⟩ [(x,u)])
  (hsp:∀ H:Hp,Only H->SqL K H a (ns.map V.int)->sp [.ref a] H (fun v _=>v=.bl true) fun _ _ _=>False)
  (hCX:∀ H e s',CX [] H s₁ (fun _ _ _=>False) e s'->False) :
  codeAny (model P w) callerA (.call (.ref fa) ⟨[.ref a],[]⟩) (fun r s'=>r=.ok (.ret (.bool true))/\OldK s₁.heap s'.heap/\s'.os=s₁.os/\AllBare s'.gens) s₁:=by
 have rv:=vals_ints hi
 have lenV:=hi.length
 -- from an abstract heap in which nothing but the script may be tracked
 have core:∀ H:Hp,Only H->SqL K H a (ns.map V.int)->HOk P w H s₁.heap->(∀ b,H b≠none->b=a)->(H a≠none->K.lookup a=none) ->
   codeAny (model P w) callerA (.call (.ref fa) ⟨[.ref a],[]⟩) (fun r s'=>r=.ok (.ret (.bool true))/\OldK s₁.heap s'.heap/\s'.os=s₁.os/\AllBare s'.gens) s₁:=by
  intro H hO hS hok hA hK
  have base_of:∀ {b:Addr}{o:Obj},s₁.heap.get? b=some o->H b=none->(hidT s₁.heap H).get? b=some o:=fun e n=>hidT_get e n
  have noA:∀ {b:Addr}{o:Obj}{es:Array DictEntry}{ep:Nat},s₁.heap.get? b=some o->o.data=.dict es ep->H b=none:=fun {b o es ep} e d=>by
   cases q:H b with
   | none=>rfl
   | some u=>
    have e':b=a:=hA b (by rw[q];simp)
    subst e'
    rw[ha]at e;cases e
    have d':Data.seq vs.toArray _=Data.dict es ep:=d
    cases d'
  have nsK:∀ {b:Addr}{m:Str->Option Value},s₁.heap.Ns b m->(hidT s₁.heap H).Ns b m:=fun {b m} ⟨o,es,ep,e,d,r⟩=>⟨o,es,ep,base_of e (noA e d),d,r⟩
  have hKb:K.In (hidT s₁.heap H):=fun b o e=>base_of (KX b o e) (by
   cases q:H b with
   | none=>rfl
   | some u=>
    have e':b=a:=hA b (by rw[q];simp)
    subst e'
    rw[hK (by rw[q];simp)]at e;cases e)
  have hM:Mod K mg (hidT s₁.heap H):=⟨hKb,nsK hns,⟨mb,nsK hb,hbb⟩,let ⟨mc,h1,h2⟩:=hlim;⟨mc,nsK h1,h2⟩⟩
  have e0:Env0 P w K mg (hidT s₁.heap H) callerA [] s₁ H:=⟨rfl,hM,fun b o e=>of_hidT e,Nat.le_of_eq (hidT_size _ _),trivial,fun b hb=>absurd (show b∈([]:List Addr) from hb) (by simp),hok,.of_eq hg⟩
  refine codeAny_mono ((F _ hKb (nsK hns)).run callerA [] s₁ H ⟨[.ref a],[]⟩ [.ref a] [.ref a] _ _ hr e0 (hbind s₁ (.ref a)) (.cons rfl .nil) (hsp H hO hS)) fun r s' h=>?_
  cases r with
  | error e=>exact (hCX H e s' h).elim
  | ok fl=>
   cases fl with
   | next=>exact False.elim h
   | brk=>exact False.elim h
   | cont=>exact False.elim h
   | ret u=>
    obtain⟨v,H',os,bare,un,hok',r',q⟩:=h
    have q':v=.bl true:=q
    subst q'
    obtain rfl:u=Value.bool true:=r'
    refine⟨rfl,OldK.of_keep fun b o e=>?_,os,bare⟩
    cases q:H b with
    | none=>exact un.keep b o e q (by intro z;exact absurd (show b∈([]:List Addr) from z) (by simp)) (by simp)
    | some u=>
     rcases hO b with z | ⟨ob,xs,z⟩
     ·rw[q]at z;cases z
     ·have z2:=un.frzs b ob _ z
      obtain⟨e1,_⟩:=hok b _ z
      obtain⟨e2,_⟩:=hok' b _ z2
      rw[e]at e1;cases e1
      exact e2
 cases hk:K.lookup a with
 | some o=>
  -- the script is one of the module's own objects
  have e:=KX a o hk
  rw[ha]at e
  cases e
  refine core (fun _=>none) (fun _=>.inl rfl) (.inr ⟨_,vs.toArray,_,hk,rfl,rfl,rfl,by rw[List.size_toArray,lenV];exact hl,by simpa using rv⟩) (fun b u z=>by have z':(none:Option HO)=some u:=z;cases z') (fun b z=>absurd rfl z) fun z=>absurd rfl z
 | none=>
  refine core (fun b=>if b=a then some (.frz { cls:=.type "list",data:=.seq vs.toArray } (.lst (ns.map V.int))) else none) (fun b=>?_) (.inl (.inr ⟨{ cls:=.type "list",data:=.seq vs.toArray },if_pos rfl⟩)) (fun b u z=>?_) (fun b z=>?_) fun _=>hk
  ·by_cases hb:b=a
   ·exact .inr ⟨_,_,if_pos hb⟩
   ·exact .inl (if_neg hb)
  ·by_cases hb:b=a
   ·have z':=(if_pos hb).symm.trans z
    cases z'
    subst hb
    exact⟨ha,by rw[List.length_map];exact hl,vs,_,rv,ha⟩
   ·have z':=(if_neg hb).symm.trans z
    cases z'
  ·by_cases hb:b=a
   ·exact hb
   ·exact absurd (if_neg hb) z
end L2
namespace L2
open PySem PySem.Spec PyProof.Rows
abbrev KOf {K:PySem.W.Frag}{h:Heap} (_:K.In h):PySem.W.Frag:=K
theorem walk_of {l:PySem.W.OpenLaw}{n k:Nat}{q:Program}{loose:List Str}{XP:(Str->Option Value)->Heap->Prop}{YP:World->Heap->Prop}{d:DefRec}{K:Params->PySem.W.Frag}{CX:World->CXT}{sp:World->Sp}{x:Str}
  (hn:l.most=some n) (hn2:n<=sizeLine) (hdf:d.params.defaults=[]) (hr:Room k callerA)
  (hY:∀ (w:World) (h:Heap),YP w h->(K w.params).In h)
  (F:∀ (w:World) (mg:Str->Option Value) (fa:Addr) (h:Heap),(K w.params).In h->h.Ns mainGlobals mg->mg d.name=some (.ref fa) ->
   ∃ fd:FuncData,(∀ (s:Shared) (u:Value),BindsTo s fd ⟨[u],[]⟩ [(x,u)]) /\
    ∀ base:Heap,(K w.params).In base->base.Ns mainGlobals mg->FnOk l.prog w (K w.params) mg base (CX w) k fa fd [x] (sp w))
  (hsp:∀ (w:World) (H:Hp) (a:Addr) (ns:List Int),ns.length<=n->Only H->SqL (K w.params) H a (ns.map V.int)->sp w [.ref a] H (fun v _=>v=.bl true) fun _ _ _=>False)
  (hCX:∀ (w:World) (H:Hp) (s:Shared) (e:Value) (s':Shared),CX w [] H s (fun _ _ _=>False) e s'->False) :
  PySem.W.WalkO q loose XP YP l.row.toRowW d [] (fun f vs=>PySem.call f vs):=by
 refine Att.attach_call hn hdf fun w s₀ s₁ mg mb fa o pm cd doc a vs ns G Y ho hd hcd hmg hobj hints hlen hg=>?_
 have KX:=hY w _ Y
 obtain⟨fd,hb,hF⟩:=F w mg fa _ KX G.T.g hmg
 exact law_call KX G.T.g G.T.b G.T.builtins G.T.nolimit hg hobj hints (Nat.le_trans hlen hn2) hr hF hb (fun H hO hS=>hsp w H a ns hlen hO hS) fun H e s'=>hCX w H s₁ e s'
end L2
/- THE LAST THEOREM (shape;LID,My.* are yours):
   My.Adr: a structure of the addresses that your layer names (classes,functions);My.Txt K t: a structure (Prop) of the equations over K;
   My.txt_mk:{K} {implicit addresses ..} (e1:nsIn K mainGlobals "law"=some (some (.ref f))) (e2:K.lookup f=some ⟨oc,od,.func (fnOf "law" "law" params body scope dV kV doc pm an cdv ct),sl⟩) (e3:codeIn K cdv "law"=true) ..:∃ t,My.Txt K t
set_option maxRecDepth 100000 in
set_option maxHeartbeats 0 in
theorem PySem.Challenge.cw_LID_holds : PySem.Challenge.rw_LID.Holds := by
 w_on;o_law;k_head;(case hw=>w_witness2)
 k_fill
 refine L2.walk_of (l:=PySem.Challenge.rw_LID) (n:=63) (k:=40) (x:="script") (CX:=fun w=>..) (sp:=fun _=>My.sp_law) rfl (by decide) rfl ⟨rfl,by decide,by decide⟩ (fun w h Y=>PySem.W.kIn_of Y) ?F ?S ?C
 case F=>
  intro w mg fa h KX G hmg
  have T:∃ t,My.Txt (L2.KOf KX) t:=by
   dsimp only[L2.KOf]                          -- K must stand as «<heap const> w.params» for k_is
   refine' My.txt_mk ?e1 ?e2 ?e3 ..
   (case e1=>PySem.W.k_is)                    -- in the order: a name->its address->its object->its parts
   (case e2=>PySem.W.k_is)
   ..
  obtain⟨t,T⟩:=T
  have e0:=hmg.symm.trans (PySem.W.mg_of KX G T.law)
  cases e0                                       -- fa is the law's own address
  exact⟨_,fun s u=>.of_eq rfl,fun base kb nb=>My.law_fn T kb nb⟩     -- if «.of_eq rfl» comes too early: refine' ⟨_,?b,fun base kb nb=>My.law_fn T kb nb⟩;exact fun s u=>.of_eq rfl
 case S=>exact fun w H a ns hl hO hS=>..
 case C=>exact ..
(the tactic k_is has no namespace: write k_is) -/
namespace L2
open PySem PySem.Spec PyProof.Rows
def defArgs (s:Stmt):Arguments:=match s with
 | .FunctionDef _ a _ _ _ _ _ _ _ _=>a
 | _=>{ posonlyargs:=[],args:=[],vararg:=none,kwonlyargs:=[],kw_defaults:=[],kwarg:=none,defaults:=[] }
def defBody (s:Stmt):List Stmt:=match s with
 | .FunctionDef _ _ b _ _ _ _ _ _ _=>b
 | _=>[]
def defScope (s:Stmt):Scope:=match s with
 | .FunctionDef _ _ _ _ _ _ sc _ _ _=>sc
 | _=>{ kind:=.function,names:=[],isGenerator:=false,isCoroutine:=false }
abbrev CX0:CXT:=fun _ _ _ _ _ _=>False
abbrev E0:XK:=fun _ _ _=>False
theorem pass0 {X:Cx}:Passes CX0 X E0:=fun _ _ _ _ _ _ _ h=>h.elim
structure Fun (K:PySem.W.Frag) (x qual:Str) (st:Stmt) (f:Addr) (fd:FuncData):Prop where
 ex:∃ (oc:Value) (od:Option Addr) (kV doc pm:Value) (an:Option Addr) (cdv ct:Value) (osl:Array (Option Value)),
  fd=PySem.W.fnOf x qual (defArgs st) (defBody st) (defScope st) .none kV doc pm an cdv ct/\K.lookup f=some ⟨oc,od,.func fd,osl⟩/\PySem.W.codeIn K cdv qual=true
 kp:PySem.W.keepIn K (.ref f)=true
section
variable {P:Program}{w:World}{K:PySem.W.Frag}{mg:Str->Option Value}{base:Heap}
theorem Fun.ok {x qual:Str}{st:Stmt}{f:Addr}{fd:FuncData}{N ps:List Str}{k:Nat}{sp:Sp} (F:Fun K x qual st f fd) (S:FnScope N ps (defScope st)) (len:∀ vs H Q E,sp vs H Q E->vs.length=ps.length)
  (hbody:∀ (cdv:Value) (A:Around) (outer:List Env) (s:Shared) (H:Hp) (vs:List V) (Q:VK) (E:XK),Room k (A.deeper (envOfC qual (defScope st) s.heap.objs.size f cdv))->sp vs H Q E ->
   ∃ t,PSs (cxOf CX0 P w K mg base N qual (defScope st) f cdv A outer s H E).nox (defBody st) t/\t { nx:=fun _ H'=>Q .non H',rt:=Q } (start N vs) H):FnOk P w K mg base CX0 (k+1) f fd ps sp:=by
 obtain⟨oc,od,kV,doc,pm,an,cdv,ct,osl,rfl,lk,hcd⟩:=F.ex
 refine fn_of lk hcd S len fun A outer s H vs Q E hr hsp=>?_
 obtain⟨t,h,q⟩:=hbody cdv A outer s H vs Q E hr hsp
 exact⟨t,h.nox,q⟩
theorem Fun.binds {x qual:Str}{st:Stmt}{f:Addr}{fd:FuncData}{ps:List Str} (F:Fun K x qual st f fd)
  (h:∀ (kV doc pm:Value) (an:Option Addr) (cdv ct:Value) (us:List Value),us.length=ps.length->bindArgs (PySem.W.fnOf x qual (defArgs st) (defBody st) (defScope st) .none kV doc pm an cdv ct) ⟨us,[]⟩=pure (ps.zip us)):Binds K fd ps []:=by
 obtain⟨oc,od,kV,doc,pm,an,cdv,ct,osl,rfl,lk,hcd⟩:=F.ex
 exact .all (h kV doc pm an cdv ct)
theorem fun_mk {x qual:Str}{st:Stmt}{f:Addr}{oc:Value}{od an:Option Addr}{osl:Array (Option Value)}{kV doc pm cdv ct:Value} (l:K.lookup f=some ⟨oc,od,.func (PySem.W.fnOf x qual (defArgs st) (defBody st) (defScope st) .none kV doc pm an cdv ct),osl⟩)
  (c:PySem.W.codeIn K cdv qual=true) (k:PySem.W.keepIn K (.ref f)=true):Fun K x qual st f (PySem.W.fnOf x qual (defArgs st) (defBody st) (defScope st) .none kV doc pm an cdv ct):=⟨⟨oc,od,kV,doc,pm,an,cdv,ct,osl,rfl,l,c⟩,k⟩
end
theorem hu_of {A:Around}{k:Nat} (hr:Room k A):A.units+1<cLine:=Nat.lt_of_le_of_lt (Nat.add_le_add_left (by decide:1<=64) _) hr.units
section
variable {X:Cx}
theorem pv (i:Nat) {x:Str}{pos:Pos} (hN:X.N[i]?=some x:=by rfl) (hv:Vis X.env.scope x:=by first | exact Or.inl rfl | exact Or.inr (Or.inl rfl) | exact Or.inr (Or.inr rfl)) (hd:(x == ("__debug__" : Str))=false:=by decide)
  (hcd:(x == ("__classdict__" : Str))=false:=by decide):PE X (.Name x pos) (tVar i):=pe_var hN hv hd hcd
end
theorem iteF {A B:Prop} (h:B):if false=true then A else B:=by
 rw[if_neg Bool.false_ne_true]
 exact h
theorem iteT {A B:Prop} (h:A):if true=true then A else B:=by
 rw[if_pos rfl]
 exact h
theorem ite2 {c A B:Prop} [Decidable c] (h1:c->A) (h2:¬c->B):if c then A else B:=by
 by_cases h:c
 ·rw[if_pos h]
  exact h1 h
 ·rw[if_neg h]
  exact h2 h
def Same (H H':Hp):Prop:=∀ b o,H b=some o->H' b=some o
theorem Same.refl (H:Hp):Same H H:=fun _ _ h=>h
theorem Same.trans {H H1 H2:Hp} (a:Same H H1) (b:Same H1 H2):Same H H2:=fun c o h=>b c o (a c o h)
theorem Same.seq {K:PySem.W.Frag}{H H':Hp}{a:Addr}{xs:List V} (e:Same H H') (h:SqL K H a xs):SqL K H' a xs:=by
 rcases h with (h | ⟨o,h⟩) | h
 ·exact .inl (.inl (e _ _ h))
 ·exact .inl (.inr ⟨o,e _ _ h⟩)
 ·exact .inr h
end L2
namespace L2
open PySem PySem.Spec PyProof.Rows
section
variable {X:Cx}
end
end L2
namespace L2
open PySem PySem.Spec PyProof.Rows
section
variable {κ:Type} [DecidableEq κ]
theorem valV_in {kvs:List (κ×V)}{k:κ}{v:V} (h:valV kvs k=some v):k∈kvs.map (·.1):=by
 have q:(kvs.any fun kv=>decide (kv.1=k))=true:=by
  rw[valV_any,h]
  all_goals rfl
 obtain⟨p,hp,e⟩:=List.any_eq_true.mp q
 exact List.mem_map.mpr ⟨p,hp,of_decide_eq_true e⟩
end
end L2
end
section
namespace L2
open PySem
section
variable {prog:Program}{w:World}{A:Around}{E:Value->Shared->Prop}{s:Shared}
end
end L2
end
section
namespace Kn
open PySem
inductive Val where
 | num (i:Int)
 | word (s:Str)
 | row (ps:List (Str×Val))
 | bag (ps:List (Val×Int))
inductive KE where
 | i (n:Int)
 | s (x:Str)
noncomputable instance:DecidableEq Val:=fun a b=>Classical.propDecidable (a=b)
noncomputable instance:DecidableEq KE:=fun a b=>Classical.propDecidable (a=b)
def sLt (a b:Str):Bool:=decide (a.cps.toList<b.cps.toList)
def rank:Val->Int
 | .num _=>0
 | .word _=>1
 | .row _=>2
 | .bag _=>3
mutual
def key:Val->List KE
 | .num i=>[.i 0,.i i]
 | .word s=>[.i 1,.s s]
 | .row ps=>.i 2::keyR ps
 | .bag ps=>.i 3::keyB ps
def keyR:List (Str×Val)->List KE
 | []=>[.i 0]
 | p::ps=>.i 1::.s p.1::(key p.2++keyR ps)
def keyB:List (Val×Int)->List KE
 | []=>[.i 0]
 | p::ps=>.i 1::(key p.1++.i p.2::keyB ps)
end
mutual
noncomputable def ltV:Val->Val->Bool
 | .num i,.num j=>decide (i<j)
 | .word s,.word t=>sLt s t
 | .row ps,.row qs=>ltR ps qs
 | .bag ps,.bag qs=>ltB ps qs
 | x,y=>decide (rank x<rank y)
noncomputable def ltR:List (Str×Val)->List (Str×Val)->Bool
 | [],[]=>false
 | [],_::_=>true
 | _::_,[]=>false
 | p::ps,q::qs=>if p=q then ltR ps qs else if p.1=q.1 then ltV p.2 q.2 else sLt p.1 q.1
noncomputable def ltB:List (Val×Int)->List (Val×Int)->Bool
 | [],[]=>false
 | [],_::_=>true
 | _::_,[]=>false
 | p::ps,q::qs=>if p=q then ltB ps qs else if p.1=q.1 then decide (p.2<q.2) else ltV p.1 q.1
end
def kEl:KE->KE->Option Bool
 | .i m,.i n=>some (decide (m<n))
 | .s x,.s y=>some (sLt x y)
 | _,_=>none
noncomputable def cmpK:List KE->List KE->Option Bool
 | [],[]=>some false
 | [],_::_=>some true
 | _::_,[]=>some false
 | a::as,b::bs=>if a=b then cmpK as bs else kEl a b
theorem cmpK_same {a:KE}{as bs:List KE}:cmpK (a::as) (a::bs)=cmpK as bs:=by rw[cmpK,if_pos rfl]
theorem cmpK_int {m n:Int}{as bs:List KE} (h:m≠n):cmpK (.i m::as) (.i n::bs)=some (decide (m<n)):=by
 rw[cmpK,if_neg (by intro e;injection e with e;exact h e)];rfl
theorem cmpK_str {m n:Str}{as bs:List KE} (h:m≠n):cmpK (.s m::as) (.s n::bs)=some (sLt m n):=by
 rw[cmpK,if_neg (by intro e;injection e with e;exact h e)];rfl
mutual
theorem cmp_key:∀ (x y:Val) (r r':List KE),cmpK (key x++r) (key y++r')=if x=y then cmpK r r' else some (ltV x y)
 | .num i,.num j,r,r'=>by
  simp only[key,List.cons_append,List.nil_append,cmpK_same]
  by_cases h:i=j
  ·subst h;rw[if_pos rfl,cmpK_same]
  ·rw[if_neg (by intro e;injection e with e;exact h e),cmpK_int h,ltV]
 | .word i,.word j,r,r'=>by
  simp only[key,List.cons_append,List.nil_append,cmpK_same]
  by_cases h:i=j
  ·subst h;rw[if_pos rfl,cmpK_same]
  ·rw[if_neg (by intro e;injection e with e;exact h e),cmpK_str h,ltV]
 | .row ps,.row qs,r,r'=>by
  simp only[key,List.cons_append,cmpK_same]
  rw[cmp_keyR ps qs r r']
  by_cases h:ps=qs
  ·subst h;rw[if_pos rfl,if_pos rfl]
  ·rw[if_neg h,if_neg (by intro e;injection e with e;exact h e),ltV]
 | .bag ps,.bag qs,r,r'=>by
  simp only[key,List.cons_append,cmpK_same]
  rw[cmp_keyB ps qs r r']
  by_cases h:ps=qs
  ·subst h;rw[if_pos rfl,if_pos rfl]
  ·rw[if_neg h,if_neg (by intro e;injection e with e;exact h e),ltV]
 | .num _,.word _,r,r'=>by simp [key,cmpK,kEl,ltV,rank]
 | .num _,.row _,r,r'=>by simp [key,cmpK,kEl,ltV,rank]
 | .num _,.bag _,r,r'=>by simp [key,cmpK,kEl,ltV,rank]
 | .word _,.num _,r,r'=>by simp [key,cmpK,kEl,ltV,rank]
 | .word _,.row _,r,r'=>by simp [key,cmpK,kEl,ltV,rank]
 | .word _,.bag _,r,r'=>by simp [key,cmpK,kEl,ltV,rank]
 | .row _,.num _,r,r'=>by simp [key,cmpK,kEl,ltV,rank]
 | .row _,.word _,r,r'=>by simp [key,cmpK,kEl,ltV,rank]
 | .row _,.bag _,r,r'=>by simp [key,cmpK,kEl,ltV,rank]
 | .bag _,.num _,r,r'=>by simp [key,cmpK,kEl,ltV,rank]
 | .bag _,.word _,r,r'=>by simp [key,cmpK,kEl,ltV,rank]
 | .bag _,.row _,r,r'=>by simp [key,cmpK,kEl,ltV,rank]
theorem cmp_keyR:∀ (ps qs:List (Str×Val)) (r r':List KE),cmpK (keyR ps++r) (keyR qs++r')=if ps=qs then cmpK r r' else some (ltR ps qs)
 | [],[],r,r'=>by simp [keyR,cmpK_same,cmpK]
 | [],q::qs,r,r'=>by
  simp only[keyR,List.cons_append,List.nil_append]
  rw[cmpK_int (by decide),if_neg (by intro e;cases e),ltR];rfl
 | p::ps,[],r,r'=>by
  simp only[keyR,List.cons_append,List.nil_append]
  rw[cmpK_int (by decide),if_neg (by intro e;cases e),ltR];rfl
 | p::ps,q::qs,r,r'=>by
  simp only[keyR,List.cons_append,List.append_assoc,cmpK_same]
  by_cases hf:p.1=q.1
  ·rw[hf,cmpK_same,cmp_key p.2 q.2 _ _]
   by_cases hx:p.2=q.2
   ·have e:p=q:=Prod.ext hf hx
    subst e
    rw[if_pos rfl,cmp_keyR ps qs r r',ltR,if_pos rfl]
    by_cases h:ps=qs
    ·subst h;rw[if_pos rfl,if_pos rfl]
    ·rw[if_neg h,if_neg (by intro e;injection e with _ e;exact h e)]
   ·have e:¬p=q:=fun z=>hx (by rw[z])
    rw[if_neg hx,if_neg (by intro z;injection z with z _;exact e z),ltR,if_neg e,if_pos hf]
  ·have e:¬p=q:=fun z=>hf (by rw[z])
   rw[cmpK_str hf,if_neg (by intro z;injection z with z _;exact e z),ltR,if_neg e,if_neg hf]
theorem cmp_keyB:∀ (ps qs:List (Val×Int)) (r r':List KE),cmpK (keyB ps++r) (keyB qs++r')=if ps=qs then cmpK r r' else some (ltB ps qs)
 | [],[],r,r'=>by simp [keyB,cmpK_same,cmpK]
 | [],q::qs,r,r'=>by
  simp only[keyB,List.cons_append,List.nil_append]
  rw[cmpK_int (by decide),if_neg (by intro e;cases e),ltB];rfl
 | p::ps,[],r,r'=>by
  simp only[keyB,List.cons_append,List.nil_append]
  rw[cmpK_int (by decide),if_neg (by intro e;cases e),ltB];rfl
 | p::ps,q::qs,r,r'=>by
  simp only[keyB,List.cons_append,List.append_assoc,cmpK_same]
  rw[cmp_key p.1 q.1 _ _]
  by_cases hx:p.1=q.1
  ·rw[if_pos hx]
   by_cases hf:p.2=q.2
   ·have e:p=q:=Prod.ext hx hf
    subst e
    rw[cmpK_same,cmp_keyB ps qs r r',ltB,if_pos rfl]
    by_cases h:ps=qs
    ·subst h;rw[if_pos rfl,if_pos rfl]
    ·rw[if_neg h,if_neg (by intro e;injection e with _ e;exact h e)]
   ·have e:¬p=q:=fun z=>hf (by rw[z])
    rw[cmpK_int hf,if_neg (by intro z;injection z with z _;exact e z),ltB,if_neg e,if_pos hx]
  ·have e:¬p=q:=fun z=>hx (by rw[z])
   rw[if_neg hx,if_neg (by intro z;injection z with z _;exact e z),ltB,if_neg e,if_neg hx]
end
noncomputable def aheadB (x y:Val):Bool:=if x=y then false else ltV x y
theorem cmp_keys (x y:Val):cmpK (key x) (key y)=some (aheadB x y):=by
 have h:=cmp_key x y [] []
 simp only[List.append_nil]at h
 rw[h]
 unfold aheadB
 by_cases e:x=y
 ·rw[if_pos e,if_pos e];rfl
 ·rw[if_neg e,if_neg e]
theorem sLt_irrefl (x:Str):sLt x x=false:=by
 unfold sLt
 exact decide_eq_false (List.lt_irrefl _)
theorem sLt_trans {x y z:Str} (h1:sLt x y=true) (h2:sLt y z=true):sLt x z=true:=by
 unfold sLt at *
 exact decide_eq_true (List.lt_trans (of_decide_eq_true h1) (of_decide_eq_true h2))
theorem cmpK_trans:∀ (a b c:List KE),cmpK a b=some true->cmpK b c=some true->cmpK a c=some true
 | [],[],_,h,_=>by cases h
 | [],_::_,[],_,h=>by cases h
 | [],_::_,_::_,_,_=>rfl
 | _::_,[],_,h,_=>by cases h
 | _::_,_::_,[],_,h=>by cases h
 | a::as,b::bs,c::cs,h1,h2=>by
  by_cases e1:a=b
  ·subst e1
   rw[cmpK_same]at h1
   by_cases e2:a=c
   ·subst e2
    rw[cmpK_same]at h2 ⊢
    exact cmpK_trans as bs cs h1 h2
   ·rw[cmpK,if_neg e2]at h2 ⊢
    exact h2
  ·by_cases e2:b=c
   ·subst e2
    rw[cmpK,if_neg e1]at h1 ⊢
    exact h1
   ·rw[cmpK,if_neg e1]at h1
    rw[cmpK,if_neg e2]at h2
    cases a with
    | i m=>
     cases b with
     | i n=>
      cases c with
      | i k=>
       have g1:m<n:=of_decide_eq_true (Option.some.inj h1)
       have g2:n<k:=of_decide_eq_true (Option.some.inj h2)
       have g:m<k:=by lia
       rw[cmpK_int (by lia),decide_eq_true g]
      | s z=>cases h2
     | s y=>cases h1
    | s x=>
     cases b with
     | i n=>cases h1
     | s y=>
      cases c with
      | i k=>cases h2
      | s z=>
       have g1:sLt x y=true:=Option.some.inj h1
       have g2:sLt y z=true:=Option.some.inj h2
       have g:=sLt_trans g1 g2
       rw[cmpK_str (by intro e;subst e;rw[sLt_irrefl]at g;cases g),g]
theorem ahead_trans {x y z:Val} (h1:aheadB x y=true) (h2:aheadB y z=true):aheadB x z=true:=by
 have e1:=cmp_keys x y
 have e2:=cmp_keys y z
 rw[h1]at e1
 rw[h2]at e2
 have e:=cmpK_trans _ _ _ e1 e2
 rw[cmp_keys x z]at e
 exact Option.some.inj e
end Kn
end
section
namespace L2
open PySem PySem.Spec PyProof.Rows
inductive Dt where
 | int (i:Int)
 | str (x:Str)
 | tup (ds:List Dt)
noncomputable instance:DecidableEq Dt:=fun a b=>Classical.propDecidable (a=b)
mutual
def Dt.dep:Dt->Nat
 | .int _=>0
 | .str _=>0
 | .tup ds=>depL ds+1
def depL:List Dt->Nat
 | []=>0
 | d::ds=>max d.dep (depL ds)
end
theorem dep_mem:∀ {ds:List Dt}{d:Dt},d∈ds->d.dep<=depL ds
 | d::ds,e,h=>by
  rw[depL]
  rcases List.mem_cons.mp h with rfl | h
  ·exact Nat.le_max_left _ _
  ·exact Nat.le_trans (dep_mem h) (Nat.le_max_right _ _)
mutual
def IsDt (H:Hp):Dt->V->Prop
 | .int i,v=>v=.int i
 | .str x,v=>v=.str x
 | .tup ds,v=>∃ a xs,v=.ref a/\H a=some (.tup xs)/\IsDts H ds xs
def IsDts (H:Hp):List Dt->List V->Prop
 | [],xs=>xs=[]
 | d::ds,xs=>∃ y ys,xs=y::ys/\IsDt H d y/\IsDts H ds ys
end
def Tups (H H':Hp):Prop:=∀ b xs,H b=some (.tup xs)->H' b=some (.tup xs)
theorem Tups.trans {H H1 H2:Hp} (a:Tups H H1) (b:Tups H1 H2):Tups H H2:=fun c xs h=>b c xs (a c xs h)
theorem Same.tups {H H':Hp} (h:Same H H'):Tups H H':=fun b xs e=>h b _ e
theorem Tups.new {H:Hp}{p:Addr} (h:H p=none) (o:HO):Tups H (upd H p o):=fun b xs e=>by rw[upd_ne (ne_of_none e h)];exact e
theorem Tups.lst {H:Hp}{p:Addr}{xs ys:List V} (h:H p=some (.lst xs)):Tups H (upd H p (.lst ys)):=fun b zs e=>by
 rw[upd_ne (ne_of e h (by intro z;cases z))];exact e
mutual
theorem IsDt.mono {H H':Hp} (t:Tups H H'):∀ {d:Dt}{v:V},IsDt H d v->IsDt H' d v
 | .int i,v,h=>by rw[IsDt]at h ⊢;exact h
 | .str x,v,h=>by rw[IsDt]at h ⊢;exact h
 | .tup ds,v,h=>by
  rw[IsDt]at h ⊢
  obtain⟨a,xs,e,h1,h2⟩:=h
  exact⟨a,xs,e,t a xs h1,IsDts.mono t h2⟩
theorem IsDts.mono {H H':Hp} (t:Tups H H'):∀ {ds:List Dt}{xs:List V},IsDts H ds xs->IsDts H' ds xs
 | [],xs,h=>by rw[IsDts]at h ⊢;exact h
 | d::ds,xs,h=>by
  rw[IsDts]at h ⊢
  obtain⟨y,ys,e,h1,h2⟩:=h
  exact⟨y,ys,e,IsDt.mono t h1,IsDts.mono t h2⟩
end
mutual
theorem IsDt.inj {H:Hp}:∀ {d e:Dt}{v:V},IsDt H d v->IsDt H e v->d=e
 | .int i,e,v,h,h'=>by
  rw[IsDt]at h;subst h
  cases e with
  | int j=>rw[IsDt]at h';cases h';rfl
  | str y=>rw[IsDt]at h';cases h'
  | tup es=>rw[IsDt]at h';obtain⟨_,_,z,_⟩:=h';cases z
 | .str i,e,v,h,h'=>by
  rw[IsDt]at h;subst h
  cases e with
  | int j=>rw[IsDt]at h';cases h'
  | str y=>rw[IsDt]at h';cases h';rfl
  | tup es=>rw[IsDt]at h';obtain⟨_,_,z,_⟩:=h';cases z
 | .tup ds,e,v,h,h'=>by
  rw[IsDt]at h
  obtain⟨a,xs,rfl,h1,h2⟩:=h
  cases e with
  | int j=>rw[IsDt]at h';cases h'
  | str y=>rw[IsDt]at h';cases h'
  | tup es=>
   rw[IsDt]at h'
   obtain⟨b,ys,z,g1,g2⟩:=h'
   cases z
   rw[h1]at g1
   cases g1
   rw[IsDts.inj h2 g2]
theorem IsDts.inj {H:Hp}:∀ {ds es:List Dt}{xs:List V},IsDts H ds xs->IsDts H es xs->ds=es
 | [],es,xs,h,h'=>by
  rw[IsDts]at h;subst h
  cases es with
  | nil=>rfl
  | cons e es=>rw[IsDts]at h';obtain⟨_,_,z,_⟩:=h';cases z
 | d::ds,es,xs,h,h'=>by
  rw[IsDts]at h
  obtain⟨y,ys,rfl,h1,h2⟩:=h
  cases es with
  | nil=>rw[IsDts]at h';cases h'
  | cons e es=>
   rw[IsDts]at h'
   obtain⟨y',ys',z,g1,g2⟩:=h'
   cases z
   rw[IsDt.inj h1 g1,IsDts.inj h2 g2]
end
theorem IsDts.length {H:Hp}:∀ {ds:List Dt}{xs:List V},IsDts H ds xs->xs.length=ds.length
 | [],xs,h=>by rw[IsDts]at h;subst h;rfl
 | d::ds,xs,h=>by
  rw[IsDts]at h
  obtain⟨y,ys,rfl,h1,h2⟩:=h
  simp [IsDts.length h2]
theorem IsDts.get {H:Hp}:∀ {ds:List Dt}{xs:List V}{i:Nat}{d:Dt},IsDts H ds xs->ds[i]?=some d->∃ y,xs[i]?=some y/\IsDt H d y
 | [],xs,i,d,h,e=>by simp at e
 | c::ds,xs,0,d,h,e=>by
  rw[IsDts]at h
  obtain⟨y,ys,rfl,h1,h2⟩:=h
  simp at e;subst e
  exact⟨y,rfl,h1⟩
 | c::ds,xs,i+1,d,h,e=>by
  rw[IsDts]at h
  obtain⟨y,ys,rfl,h1,h2⟩:=h
  obtain⟨z,q,r⟩:=IsDts.get (i:=i) h2 (by simpa using e)
  exact⟨z,by simpa using q,r⟩
theorem IsDts.append {H:Hp}:∀ {ds es:List Dt}{xs ys:List V},IsDts H ds xs->IsDts H es ys->IsDts H (ds++es) (xs++ys)
 | [],es,xs,ys,h,h'=>by rw[IsDts]at h;subst h;exact h'
 | d::ds,es,xs,ys,h,h'=>by
  rw[IsDts]at h
  obtain⟨z,zs,rfl,h1,h2⟩:=h
  rw[List.cons_append,List.cons_append,IsDts]
  exact⟨z,zs++ys,rfl,h1,IsDts.append h2 h'⟩
theorem IsDts.take {H:Hp}:∀ {ds:List Dt}{xs:List V} (n:Nat),IsDts H ds xs->IsDts H (ds.take n) (xs.take n)
 | _,_,0,_=>by rw[List.take_zero,List.take_zero,IsDts]
 | [],xs,n+1,h=>by rw[IsDts]at h;subst h;rw[List.take_nil,List.take_nil,IsDts]
 | d::ds,xs,n+1,h=>by
  rw[IsDts]at h
  obtain⟨z,zs,rfl,h1,h2⟩:=h
  rw[List.take_succ_cons,List.take_succ_cons,IsDts]
  exact⟨z,_,rfl,h1,IsDts.take n h2⟩
theorem IsDts.drop {H:Hp}:∀ {ds:List Dt}{xs:List V} (n:Nat),IsDts H ds xs->IsDts H (ds.drop n) (xs.drop n)
 | _,_,0,h=>by rw[List.drop_zero,List.drop_zero];exact h
 | [],xs,n+1,h=>by rw[IsDts]at h;subst h;rw[List.drop_nil,List.drop_nil,IsDts]
 | d::ds,xs,n+1,h=>by
  rw[IsDts]at h
  obtain⟨z,zs,rfl,h1,h2⟩:=h
  rw[List.drop_succ_cons,List.drop_succ_cons]
  exact IsDts.drop n h2
theorem IsDts.one {H:Hp}{d:Dt}{v:V} (h:IsDt H d v):IsDts H [d] [v]:=by
 rw[IsDts];exact⟨v,[],rfl,h,by rw[IsDts]⟩
theorem IsDts.cons {H:Hp}{d:Dt}{v:V}{ds:List Dt}{vs:List V} (h:IsDt H d v) (h':IsDts H ds vs):IsDts H (d::ds) (v::vs):=by
 rw[IsDts];exact⟨v,vs,rfl,h,h'⟩
theorem IsDts.nil {H:Hp}:IsDts H [] []:=by rw[IsDts]
theorem isDt_int {H:Hp} (i:Int):IsDt H (.int i) (.int i):=by rw[IsDt]
theorem isDt_str {H:Hp} (x:Str):IsDt H (.str x) (.str x):=by rw[IsDt]
theorem isDt_tup {H:Hp}{a:Addr}{xs:List V}{ds:List Dt} (h:H a=some (.tup xs)) (h':IsDts H ds xs):IsDt H (.tup ds) (.ref a):=by rw[IsDt];exact⟨a,xs,rfl,h,h'⟩
theorem isDt_new {H:Hp}{p:Addr}{xs:List V}{ds:List Dt} (hp:H p=none) (h':IsDts H ds xs):IsDt (upd H p (.tup xs)) (.tup ds) (.ref p):=
 isDt_tup upd_same (h'.mono (.new hp _))
section
variable {P:Program}{w:World}{H:Hp}
theorem all_eq (ds es:List Dt):((List.range (min ds.length es.length)).all (fun j=>decide (ds[j]?=es[j]?)) && ds.length == es.length)=decide (ds=es):=by
 rw[Bool.eq_iff_iff]
 simp only[Bool.and_eq_true,List.all_eq_true,List.mem_range,decide_eq_true_eq,beq_iff_eq]
 constructor
 ·rintro⟨h1,h2⟩
  refine List.ext_getElem? fun i=>?_
  by_cases hi:i<min ds.length es.length
  ·exact h1 i hi
  ·rw[List.getElem?_eq_none (by lia),List.getElem?_eq_none (by lia)]
 ·rintro rfl
  exact⟨fun _ _=>rfl,rfl⟩
theorem eqAt_D:∀ (n:Nat) (A:Around) (s:Shared) (d e:Dt) (v u:V) (x y:Value),HOk P w H s.heap->d.dep<=n->A.units+n<cLine->IsDt H d v->IsDt H e u->RelV v x->RelV u y->SeqAt.EqAt A s x y (decide (d=e)):=by
 intro n
 induction n with
 | zero=>
  intro A s d e v u x y ok hd hu iv iu rv ru
  cases d with
  | int i=>
   rw[IsDt]at iv;subst iv
   obtain⟨t,rfl⟩:=rv
   cases e with
   | int j=>
    rw[IsDt]at iu;subst iu
    obtain⟨t',rfl⟩:=ru
    have z:decide (Dt.int i=Dt.int j)=(i == j):=by rw[Bool.eq_iff_iff];simp
    rw[z];exact SeqAt.EqAt.int_int i t j t'
   | str z=>
    rw[IsDt]at iu;subst iu
    obtain⟨t',rfl⟩:=ru
    rw[decide_eq_false (by intro q;cases q)];exact SeqAt.EqAt.int_str i t z t'
   | tup es=>
    rw[IsDt]at iu
    obtain⟨a,xs,rfl,h1,h2⟩:=iu
    cases ru
    obtain⟨hz,its,r,p⟩:=ok a _ h1
    rw[decide_eq_false (by intro q;cases q)];exact SeqAt.EqAt.int_tuple i t p (by lia)
  | str i=>
   rw[IsDt]at iv;subst iv
   obtain⟨t,rfl⟩:=rv
   cases e with
   | int j=>
    rw[IsDt]at iu;subst iu
    obtain⟨t',rfl⟩:=ru
    rw[decide_eq_false (by intro q;cases q)];exact SeqAt.EqAt.str_int i t j t'
   | str z=>
    rw[IsDt]at iu;subst iu
    obtain⟨t',rfl⟩:=ru
    have q:decide (Dt.str i=Dt.str z)=(i == z):=by rw[Bool.eq_iff_iff];simp
    rw[q];exact SeqAt.EqAt.str_str i t z t'
   | tup es=>
    rw[IsDt]at iu
    obtain⟨a,xs,rfl,h1,h2⟩:=iu
    cases ru
    obtain⟨hz,its,r,p⟩:=ok a _ h1
    rw[decide_eq_false (by intro q;cases q)];exact SeqAt.EqAt.str_tuple i t p (by lia)
  | tup ds=>rw[Dt.dep]at hd;lia
 | succ n ih=>
  intro A s d e v u x y ok hd hu iv iu rv ru
  cases d with
  | int i=>exact ih A s _ e v u x y ok (by rw[Dt.dep];lia) (by lia) iv iu rv ru
  | str i=>exact ih A s _ e v u x y ok (by rw[Dt.dep];lia) (by lia) iv iu rv ru
  | tup ds=>
   rw[IsDt]at iv
   obtain⟨a,xs,rfl,h1,h2⟩:=iv
   cases rv
   obtain⟨hz,its,r,p⟩:=ok a _ h1
   cases e with
   | int j=>
    rw[IsDt]at iu;subst iu
    obtain⟨t',rfl⟩:=ru
    rw[decide_eq_false (by intro q;cases q)];exact SeqAt.EqAt.tuple_int j t' p (by lia)
   | str z=>
    rw[IsDt]at iu;subst iu
    obtain⟨t',rfl⟩:=ru
    rw[decide_eq_false (by intro q;cases q)];exact SeqAt.EqAt.tuple_str z t' p (by lia)
   | tup es=>
    have iu':=iu
    rw[IsDt]at iu
    obtain⟨b,ys,rfl,g1,g2⟩:=iu
    cases ru
    obtain⟨hz2,its2,r2,p2⟩:=ok b _ g1
    by_cases hab:a=b
    ·subst hab
     rw[h1]at g1
     cases g1
     rw[IsDts.inj h2 g2,decide_eq_true rfl]
     exact SeqAt.EqAt.same _
    ·have l1:its.toArray.size=ds.length:=by rw[List.size_toArray,<- r.length,h2.length]
     have l2:its2.toArray.size=es.length:=by rw[List.size_toArray,<- r2.length,g2.length]
     have q:=SeqAt.RcAt.tuples (s:=s) (A:=A) (e:=fun j=>decide (ds[j]?=es[j]?)) p p2 (by lia) fun j hj1 hj2=>by
      have k1:j<ds.length:=by rw[<- l1];exact hj1
      have k2:j<es.length:=by rw[<- l2];exact hj2
      obtain⟨y1,e1,i1⟩:=h2.get (i:=j) (List.getElem?_eq_getElem k1)
      obtain⟨y2,e2,i2⟩:=g2.get (i:=j) (List.getElem?_eq_getElem k2)
      obtain⟨u1,f1,q1⟩:=r.get e1
      obtain⟨u2,f2,q2⟩:=r2.get e2
      have w1:its.toArray[j]=u1:=by
       have:=(List.getElem?_eq_some_iff.mp f1).2
       simpa using this
      have w2:its2.toArray[j]=u2:=by
       have:=(List.getElem?_eq_some_iff.mp f2).2
       simpa using this
      rw[w1,w2,List.getElem?_eq_getElem k1,List.getElem?_eq_getElem k2]
      have z:decide (some ds[j]=some es[j])=decide (ds[j]=es[j]):=by rw[Bool.eq_iff_iff];simp
      rw[z]
      have hdep:ds[j].dep<=n:=by
       have:=dep_mem (List.getElem_mem k1)
       rw[Dt.dep]at hd
       lia
      exact ih A.in1 s _ _ y1 y2 u1 u2 ok hdep (by show A.units+1+n<cLine;lia) i1 i2 q1 q2
     rw[l1,l2,all_eq]at q
     have z:decide (Dt.tup ds=Dt.tup es)=decide (ds=es):=by rw[Bool.eq_iff_iff];simp
     rw[z]
     exact SeqAt.EqAt.of_refs hab q
end
section
variable {X:Cx}
def depMax:Nat:=100
def rEqD:R2:=fun x y H Q=>∃ d e,IsDt H d x/\IsDt H e y/\d.dep<=depMax/\Q (.bl (decide (d=e))) H
theorem items_eq {P:Program}{w:World}{H:Hp}{s:Shared}{A:Around}{ds es:List Dt}{xs ys:List V}{its its2:List Value}{n:Nat} (ok:HOk P w H s.heap) (hd:depL ds<=n) (hu:A.units+n<cLine) (h2:IsDts H ds xs) (g2:IsDts H es ys) (r:Vals xs its) (r2:Vals ys its2) :
  ∀ j (h1:j<its.toArray.size) (h2:j<its2.toArray.size),SeqAt.EqAt A s its.toArray[j] its2.toArray[j] (decide (ds[j]?=es[j]?)):=fun j hj1 hj2=>by
 have l1:its.toArray.size=ds.length:=by rw[List.size_toArray,<- r.length,h2.length]
 have l2:its2.toArray.size=es.length:=by rw[List.size_toArray,<- r2.length,g2.length]
 have k1:j<ds.length:=by rw[<- l1];exact hj1
 have k2:j<es.length:=by rw[<- l2];exact hj2
 obtain⟨y1,e1,i1⟩:=h2.get (i:=j) (List.getElem?_eq_getElem k1)
 obtain⟨y2,e2,i2⟩:=g2.get (i:=j) (List.getElem?_eq_getElem k2)
 obtain⟨u1,f1,q1⟩:=r.get e1
 obtain⟨u2,f2,q2⟩:=r2.get e2
 have w1:its.toArray[j]=u1:=by
  have:=(List.getElem?_eq_some_iff.mp f1).2
  simpa using this
 have w2:its2.toArray[j]=u2:=by
  have:=(List.getElem?_eq_some_iff.mp f2).2
  simpa using this
 rw[w1,w2,List.getElem?_eq_getElem k1,List.getElem?_eq_getElem k2]
 have z:decide (some ds[j]=some es[j])=decide (ds[j]=es[j]):=by rw[Bool.eq_iff_iff];simp
 rw[z]
 exact eqAt_D n A s _ _ y1 y2 u1 u2 ok (Nat.le_trans (dep_mem (List.getElem_mem k1)) hd) hu i1 i2 q1 q2
theorem op_eqD (hu:X.A.units+110<cLine):OpR X (compareOp .Eq) rEqD:=by
 intro pins s σ H x y v u Q I rx ry h
 obtain⟨d,e,ix,iy,hd,q⟩:=h
 cases d with
 | int i=>
  rw[IsDt]at ix;subst ix
  cases e with
  | int j=>
   rw[IsDt]at iy;subst iy
   refine op_eq pins s σ H _ _ v u Q I rx ry ⟨rfl,?_⟩
   have z:decide (V.int i=V.int j)=decide (Dt.int i=Dt.int j):=by rw[Bool.eq_iff_iff];simp
   rw[z];exact q
  | str j=>
   rw[IsDt]at iy;subst iy
   refine op_eq pins s σ H _ _ v u Q I rx ry ⟨rfl,?_⟩
   have z:decide (V.int i=V.str j)=decide (Dt.int i=Dt.str j):=by rw[Bool.eq_iff_iff];simp
   rw[z];exact q
  | tup es=>
   rw[IsDt]at iy
   obtain⟨a,xs,rfl,h1,h2⟩:=iy
   cases ry
   obtain⟨t,rfl⟩:=rx
   obtain⟨hz,its,r,p⟩:=I.hok a _ h1
   rw[decide_eq_false (by intro q;cases q)]at q
   exact SeqAt.RcAt.int_tuple i t p (by lia) _ _ _ _ ⟨.bl false,H,I,rfl,q⟩
 | str i=>
  rw[IsDt]at ix;subst ix
  cases e with
  | int j=>
   rw[IsDt]at iy;subst iy
   refine op_eq pins s σ H _ _ v u Q I rx ry ⟨rfl,?_⟩
   have z:decide (V.str i=V.int j)=decide (Dt.str i=Dt.int j):=by rw[Bool.eq_iff_iff];simp
   rw[z];exact q
  | str j=>
   rw[IsDt]at iy;subst iy
   refine op_eq pins s σ H _ _ v u Q I rx ry ⟨rfl,?_⟩
   have z:decide (V.str i=V.str j)=decide (Dt.str i=Dt.str j):=by rw[Bool.eq_iff_iff];simp
   rw[z];exact q
  | tup es=>
   rw[IsDt]at iy
   obtain⟨a,xs,rfl,h1,h2⟩:=iy
   cases ry
   obtain⟨t,rfl⟩:=rx
   obtain⟨hz,its,r,p⟩:=I.hok a _ h1
   rw[decide_eq_false (by intro q;cases q)]at q
   exact SeqAt.RcAt.str_tuple i t p (by lia) _ _ _ _ ⟨.bl false,H,I,rfl,q⟩
 | tup ds=>
  rw[IsDt]at ix
  obtain⟨a,xs,rfl,h1,h2⟩:=ix
  cases rx
  obtain⟨hz,its,r,p⟩:=I.hok a _ h1
  cases e with
  | int j=>
   rw[IsDt]at iy;subst iy
   obtain⟨t,rfl⟩:=ry
   rw[decide_eq_false (by intro q;cases q)]at q
   exact SeqAt.RcAt.tuple_int j t p (by lia) _ _ _ _ ⟨.bl false,H,I,rfl,q⟩
  | str j=>
   rw[IsDt]at iy;subst iy
   obtain⟨t,rfl⟩:=ry
   rw[decide_eq_false (by intro q;cases q)]at q
   exact SeqAt.RcAt.tuple_str j t p (by lia) _ _ _ _ ⟨.bl false,H,I,rfl,q⟩
  | tup es=>
   rw[IsDt]at iy
   obtain⟨b,ys,rfl,g1,g2⟩:=iy
   cases ry
   obtain⟨hz2,its2,r2,p2⟩:=I.hok b _ g1
   have l1:its.toArray.size=ds.length:=by rw[List.size_toArray,<- r.length,h2.length]
   have l2:its2.toArray.size=es.length:=by rw[List.size_toArray,<- r2.length,g2.length]
   rw[Dt.dep]at hd
   have z:decide (Dt.tup ds=Dt.tup es)=decide (ds=es):=by rw[Bool.eq_iff_iff];simp
   rw[z]at q
   refine SeqAt.RcAt.tuples (s:=s) (A:=X.A) (e:=fun j=>decide (ds[j]?=es[j]?)) p p2 (by lia) (items_eq (n:=depMax) (A:=X.A.in1) I.hok (by lia) (by show X.A.units+1+depMax<cLine;unfold depMax;lia) h2 g2 r r2) _ _ _ _ ?_
   rw[l1,l2,all_eq]
   exact⟨.bl _,H,I,rfl,q⟩
theorem op_neD (hu:X.A.units+110<cLine):OpR X (compareOp .NotEq) (fun x y H Q=>∃ ds es,IsDt H (.tup ds) x/\IsDt H (.tup es) y/\depL ds<=depMax/\Q (.bl (!decide (ds=es))) H):=by
 intro pins s σ H x y v u Q I rx ry h
 obtain⟨ds,es,ix,iy,hd,q⟩:=h
 rw[IsDt]at ix iy
 obtain⟨a,xs,rfl,h1,h2⟩:=ix
 obtain⟨b,ys,rfl,g1,g2⟩:=iy
 cases rx
 cases ry
 obtain⟨hz,its,r,p⟩:=I.hok a _ h1
 obtain⟨hz2,its2,r2,p2⟩:=I.hok b _ g1
 have l1:its.toArray.size=ds.length:=by rw[List.size_toArray,<- r.length,h2.length]
 have l2:its2.toArray.size=es.length:=by rw[List.size_toArray,<- r2.length,g2.length]
 refine SeqAt.RcNeAt.tuples (s:=s) (A:=X.A) (e:=fun j=>decide (ds[j]?=es[j]?)) p p2 (by lia) (items_eq (n:=depMax) (A:=X.A.in1) I.hok (by lia) (by show X.A.units+1+depMax<cLine;unfold depMax;lia) h2 g2 r r2) _ _ _ _ ?_
 rw[l1,l2,all_eq]
 exact⟨.bl _,H,I,rfl,q⟩
noncomputable def eqDv (H:Hp) (d:Dt) (u:Value):Bool:=@decide (∃ v,RelV v u/\IsDt H d v) (Classical.propDecidable _)
theorem relV_inj {v v':V}{u:Value} (h:RelV v u) (h':RelV v' u):v=v':=by
 cases v <;> cases v' <;> simp only[RelV]at h h' <;> first
  | rfl
  | (obtain⟨t,rfl⟩:=h;obtain⟨t',h'⟩:=h';injection h' with h' _;subst h';rfl)
  | (obtain⟨t,rfl⟩:=h;obtain⟨t',h'⟩:=h';cases h';done)
  | (subst h;cases h';rfl)
  | (subst h;obtain⟨t',h'⟩:=h';cases h')
  | (obtain⟨t,rfl⟩:=h;cases h')
theorem eqDv_of {H:Hp}{d e:Dt}{v:V}{u:Value} (r:RelV v u) (i:IsDt H e v):eqDv H d u=decide (e=d):=by
 unfold eqDv
 rw[Bool.eq_iff_iff]
 simp only[decide_eq_true_eq]
 constructor
 ·rintro⟨v',r',i'⟩
  rw[relV_inj r' r]at i'
  exact i.inj i'
 ·rintro rfl
  exact⟨v,r,i⟩
theorem mem_eqD {P:Program}{w:World}{H:Hp}{s:Shared}{A:Around}{d:Dt}{x:V}{v:Value}{n:Nat} (ok:HOk P w H s.heap) (hu:A.units+n<cLine) (rx:RelV x v) (ix:IsDt H d x) :
  ∀ {ds:List Dt}{xs:List V}{us:List Value},depL ds<=n->IsDts H ds xs->Vals xs us->(∀ u∈us,SeqAt.EqAt A s u v (eqDv H d u))/\us.map (eqDv H d)=ds.map fun e=>decide (e=d)
 | [],xs,us,hd,hi,r=>by
  rw[IsDts]at hi;subst hi;cases r
  exact⟨fun u hu=>(nomatch hu),rfl⟩
 | e::ds,xs,us,hd,hi,r=>by
  rw[IsDts]at hi
  obtain⟨y,ys,rfl,h1,h2⟩:=hi
  cases r with
  | cons r1 r2=>
   rw[depL]at hd
   obtain⟨m1,m2⟩:=mem_eqD ok hu rx ix (by lia) h2 r2
   have e1:=eqDv_of (d:=d) r1 h1
   refine⟨fun u hu'=>?_,by rw[List.map_cons,List.map_cons,e1,m2]⟩
   rcases List.mem_cons.mp hu' with rfl | hu'
   ·rw[e1];exact eqAt_D n A s e d y x _ v ok (by lia) hu h1 ix r1 rx
   ·exact m1 u hu'
theorem any_map_of {α:Type} {us:List α}{f:α->Bool}{ds:List Dt}{d:Dt} (h:us.map f=ds.map fun e=>decide (e=d)):us.any f=decide (d∈ds):=by
 have e1:us.any f=(us.map f).any id:=by simp
 have e2:(ds.map fun e=>decide (e=d)).any id=decide (d∈ds):=by
  rw[Bool.eq_iff_iff]
  simp
 rw[e1,h,e2]
def rInD (K:PySem.W.Frag) (neg:Bool):R2:=fun x y H Q=>∃ p xs d ds,y=.ref p/\SqL K H p xs/\IsDt H d x/\IsDts H ds xs/\depL ds<=depMax/\Q (.bl (if neg then !decide (d∈ds) else decide (d∈ds))) H
theorem op_notInD (hu:X.A.units+110<cLine):OpR X (compareOp .NotIn) (rInD X.K true):=by
 intro pins s σ H x y v u Q I rx ry h
 obtain⟨p,xs,d,ds,rfl,hq,ix,is,hd,q⟩:=h
 cases ry
 obtain⟨its,r,pl,hz⟩:=I.list hq
 obtain⟨m1,m2⟩:=mem_eqD (A:=X.A.in1) I.hok (by show X.A.units+1+depMax<cLine;unfold depMax;lia) rx ix hd is r
 refine SeqAt.notIn_listAt (eqDv H d) pl.isList (fun w hw=>m1 w (by simpa using hw)) ⟨.bl _,H,I,rfl,?_⟩
 rw[show its.toArray.any (eqDv H d)=its.any (eqDv H d) by simp,any_map_of m2]
 exact q
theorem op_inD (hu:X.A.units+110<cLine):OpR X (compareOp .In) (rInD X.K false):=by
 intro pins s σ H x y v u Q I rx ry h
 obtain⟨p,xs,d,ds,rfl,hq,ix,is,hd,q⟩:=h
 cases ry
 obtain⟨its,r,pl,hz⟩:=I.list hq
 obtain⟨m1,m2⟩:=mem_eqD (A:=X.A.in1) I.hok (by show X.A.units+1+depMax<cLine;unfold depMax;lia) rx ix hd is r
 refine SeqAt.in_listAt (eqDv H d) pl.isList (fun w hw=>m1 w (by simpa using hw)) ⟨.bl _,H,I,rfl,?_⟩
 rw[show its.toArray.any (eqDv H d)=its.any (eqDv H d) by simp,any_map_of m2]
 exact q
def rIndexD:V->List V->Hp->VK->Prop:=fun o vs H Q=>∃ l xs x d ds,o=.ref l/\vs=[x]/\H l=some (.lst xs)/\IsDt H d x/\IsDts H ds xs/\depL ds<=depMax/\d∈ds/\∀ j:Nat,ds[j]?=some d->Q (.int j) H
theorem mt_indexD (hu:X.A.units+110<cLine):MtM X "list.index" rIndexD:=by
 intro pins s σ H o vs v us Q I rx rv h
 obtain⟨l,xs,x,d,ds,rfl,rfl,hH,ix,is,hd,hmem,q⟩:=h
 cases rx
 obtain⟨u,rfl,ru⟩:=rv.one
 obtain⟨z,its,n,r,hl,e⟩:=I.lstM hH
 obtain⟨m1,m2⟩:=mem_eqD (A:=X.A.in1) I.hok (by show X.A.units+1+depMax<cLine;unfold depMax;lia) ru ix hd is r
 have hex:∃ j,∃ hj:j<its.length,eqDv H d its[j]=true/\∀ m (hm:m<its.length),m<j->eqDv H d its[m]=false:=by
  have hany:its.any (eqDv H d)=true:=by rw[any_map_of m2];exact decide_eq_true hmem
  have hfi:its.findIdx (eqDv H d)<its.length:=by
   rw[List.findIdx_lt_length]
   obtain⟨a,ha,hb⟩:=List.any_eq_true.mp hany
   exact⟨a,ha,hb⟩
  exact⟨its.findIdx (eqDv H d),hfi,List.findIdx_getElem (w:=hfi),fun m hm hlt=>by
   have:=List.not_of_lt_findIdx hlt
   simpa using this⟩
 obtain⟨j,hj,hit,hno⟩:=hex
 have hds:ds[j]?=some d:=by
  have l1:ds.length=its.length:=by rw[<- is.length,r.length]
  have z1:(its.map (eqDv H d))[j]?=some true:=by rw[List.getElem?_map,List.getElem?_eq_getElem hj,Option.map_some,hit]
  rw[m2,List.getElem?_map,List.getElem?_eq_getElem (by lia),Option.map_some]at z1
  have z2:ds[j]'(by lia)=d:=of_decide_eq_true (Option.some.inj z1)
  rw[List.getElem?_eq_getElem (by lia),z2]
 refine call_meets PySem.F.slot_list_index ⟨_,e,rfl⟩ PySem.F.entry_list_index (PySem.F.args_list_index_2 _ _)
  (SeqAt.list_indexAt l its.toArray n none #[] u (eqDv H d) j (by simpa using hj) (by have:=line63;lia) (by simpa using hit) (fun m hm hlt=>by simpa using hno m (by simpa using hm) hlt)) ⟨e,fun y hy=>m1 y (by simpa using hy),?_⟩
 exact⟨.int j,H,I.tok _,⟨_,rfl⟩,q j hds⟩
end
end L2
end
section
namespace L2
open PySem PySem.Spec PyProof.Rows
open Kn (KE cmpK kEl sLt)
def kv:KE->V
 | .i n=>.int n
 | .s x=>.str x
theorem eqAt_K {A:Around}{s:Shared}{a c:KE}{y x:Value} (ra:RelV (kv a) y) (rc:RelV (kv c) x):∃ e,SeqAt.EqAt A s y x e/\(e=true ↔ a=c):=by
 cases a with
 | i m=>
  obtain⟨t,rfl⟩:=ra
  cases c with
  | i n=>obtain⟨u,rfl⟩:=rc;exact⟨(m == n),SeqAt.EqAt.int_int m t n u,by simp⟩
  | s z=>obtain⟨u,rfl⟩:=rc;exact⟨false,SeqAt.EqAt.int_str m t z u,by simp⟩
 | s w=>
  obtain⟨t,rfl⟩:=ra
  cases c with
  | i n=>obtain⟨u,rfl⟩:=rc;exact⟨false,SeqAt.EqAt.str_int w t n u,by simp⟩
  | s z=>obtain⟨u,rfl⟩:=rc;exact⟨(w == z),SeqAt.EqAt.str_str w t z u,by simp⟩
theorem rcLt_K {A:Around}{s:Shared}{a c:KE}{y x:Value}{r:Bool} (ra:RelV (kv a) y) (rc:RelV (kv c) x) (h:kEl a c=some r) (prog:Program) (w:World) (E:Value->Shared->Prop) (Q:Value->Shared->Prop) (q:Q (.bool r) s) :
  wpAny (model prog w) A (richCompare .Lt y x) Q E s:=by
 cases a with
 | i m=>
  obtain⟨t,rfl⟩:=ra
  cases c with
  | i n=>
   obtain⟨u,rfl⟩:=rc
   cases h
   exact HT.rcLt_int A s m t n u prog w E Q q
  | s z=>cases h
 | s v=>
  obtain⟨t,rfl⟩:=ra
  cases c with
  | i n=>cases h
  | s z=>
   obtain⟨u,rfl⟩:=rc
   cases h
   exact (PyProof.Rows.lt_str q:wpAny (model prog w) A (compareOp .Lt (.str v t) (.str z u)) Q E s)
section
open PySem.SeqAt
open PySem.AutoSeq1 (wpAny_loadPart')
open PySem.MeetsSeq PySem.MeetsSeq2 PySem.MeetsSeq3
theorem tuple_ltK (l b:Addr) (items items2:Array Value) (n n2:Nat) (dd dd2:Option Addr) (sl sl2:Array (Option Value)) (ks js:List KE) (hi:Vals (ks.map kv) items.toList) (hj:Vals (js.map kv) items2.toList) (r:Bool) (hr:cmpK ks js=some r) :
  Meets (Builtin.«tuple.__lt__» ⟨[.ref l,.ref b],[]⟩)
   (fun _ R s=>s.heap.get? l=some { cls:=.type "tuple",dict:=dd,data:=.seq items n,slots:=sl }/\s.heap.get? b=some { cls:=.type "tuple",dict:=dd2,data:=.seq items2 n2,slots:=sl2 } /\
    R (.ok (.ret (.bool r))) s):=
 .of_wp fun prog w A R s h=>by
  obtain⟨hp,g,d,tk,os⟩:=s;obtain⟨hl,hb,h⟩:=h
  have f2:=AutoSeq1.sub_tuple_tuple
  have z1:items.size=ks.length:=by have:=hi.length;simpa using this.symm
  have z2:items2.size=js.length:=by have:=hj.length;simpa using this.symm
  wp_walk using wpAny_loadPart' hl,wpAny_loadPart' hb,wpAny_forIn_list _ (fun rest b s'=>b.1=none/\s'=⟨hp,g,d,tk,os⟩/\∃ (vs ws:List Value) (ks' js':List KE),rest=vs.zip ws /\
   Vals (ks'.map kv) vs/\Vals (js'.map kv) ws/\ks'.length+items2.size=js'.length+items.size/\cmpK ks' js'=some r) _
  case turn=>
   rintro⟨y,x⟩ rest b s' ⟨hb',rfl,vs,ws,ks',js',hz,hvi,hwi,hlen,hR⟩
   cases ks' with
   | nil=>cases hvi;rw[List.zip_nil_left]at hz;cases hz
   | cons a ks'=>
    cases js' with
    | nil=>cases hwi;rw[List.zip_nil_right]at hz;cases hz
    | cons c js'=>
     rw[List.map_cons]at hvi hwi
     cases hvi with
     | cons ra hvi'=>
      cases hwi with
      | cons rc hwi'=>
       rw[List.zip_cons_cons]at hz
       injection hz with hyx hrest
       injection hyx with hy hx
       subst hy hx
       rw[Kn.cmpK]at hR
       simp only[List.length_cons]at hlen
       obtain⟨e,he,hiff⟩:=eqAt_K (A:=A.in1) (s:=⟨hp,g,d,tk,os⟩) ra rc
       refine wpAny_bind (he prog w _ _ ?_)
       cases e with
       | true=>
        rw[if_pos (hiff.mp rfl)]at hR
        wp_walk
        exact⟨rfl,rfl,_,_,_,_,hrest,hvi',hwi',by lia,hR⟩
       | false=>
        rw[if_neg (fun q=>absurd (hiff.mpr q) Bool.false_ne_true)]at hR
        have hri:=rcLt_K (A:=A.in1) (s:=⟨hp,g,d,tk,os⟩) ra rc hR prog w
        wp_walk using hri
        exact⟨_,rfl,by simpa using h⟩
  case fin=>
   rintro⟨b1,b2⟩ s' ⟨hb',rfl,vs,ws,ks',js',hz,hvi,hwi,hlen,hR⟩
   simp only at hb'
   subst hb'
   have hv:r=decide (items.size<items2.size):=by
    cases ks' with
    | nil=>
     cases js' with
     | nil=>
      simp only[List.length_nil]at hlen
      cases hR
      exact (decide_eq_false (by lia)).symm
     | cons c js'=>
      simp only[List.length_nil,List.length_cons]at hlen
      cases hR
      exact (decide_eq_true (by lia)).symm
    | cons a ks'=>
     cases js' with
     | nil=>
      simp only[List.length_nil,List.length_cons]at hlen
      cases hR
      exact (decide_eq_false (by lia)).symm
     | cons c js'=>
      rw[List.map_cons]at hvi hwi
      cases hvi
      cases hwi
      rw[List.zip_cons_cons]at hz
      cases hz
   rw[hv]at h
   wp_walk
   exact⟨_,rfl,by simpa [Builtin.Tuple.tupleCompareSizes] using h⟩
  case h=>
   exact⟨rfl,rfl,items.toList,items2.toList,ks,js,rfl,hi,hj,by lia,hr⟩
end
section
variable {X:Cx}
def rLtK (K:PySem.W.Frag):R2:=fun x y H Q=>∃ a b ks js r,x=.ref a/\y=.ref b/\SqT K H a (ks.map kv)/\SqT K H b (js.map kv)/\cmpK ks js=some r/\Q (.bl r) H
theorem op_ltK (hu:X.A.units<cLine):OpR X (compareOp .Lt) (rLtK X.K):=by
 intro pins s σ H x y v u Q I rx ry h
 obtain⟨a,b,ks,js,r,rfl,rfl,ha,hb,hr,q⟩:=h
 cases rx
 cases ry
 obtain⟨its,r1,p1,_⟩:=I.tuple ha
 obtain⟨its2,r2,p2,_⟩:=I.tuple hb
 obtain⟨⟨cls,dd,data,sl⟩,ho,hc,n,hd⟩:=id p1
 obtain⟨⟨cls2,dd2,data2,sl2⟩,ho2,hc2,n2,hd2⟩:=id p2
 simp only at hc hd hc2 hd2
 subst hc hd hc2 hd2
 exact richCompare_meets_room (op:=.Lt) ⟨_,ho,rfl⟩ ⟨_,ho2,rfl⟩ PySem.F.slot_tuple_lt PySem.F.entry_tuple_lt (PySem.F.args_tuple_lt_2 _ _) (tuple_ltK a b its.toArray its2.toArray n n2 dd dd2 sl sl2 ks js (by simpa using r1) (by simpa using r2) r hr)
  ⟨ho,ho2,show Value.bool r≠Value.notImplemented/\EP X pins σ Q (.bool r) s from ⟨(fun x=>nomatch x),⟨.bl r,H,I,rfl,q⟩⟩⟩ hu
def rLtE:R2:=fun x y H Q=>∃ a c r,x=kv a/\y=kv c/\kEl a c=some r/\Q (.bl r) H
theorem op_ltE:OpR X (compareOp .Lt) rLtE:=by
 intro pins s σ H x y v u Q I rx ry h
 obtain⟨a,c,r,rfl,rfl,hr,q⟩:=h
 show wpAny (model X.prog X.w) X.A (richCompare .Lt v u) (EP X pins σ Q) X.xe s
 exact rcLt_K rx ry hr X.prog X.w _ _ ⟨.bl r,H,I,rfl,q⟩
def isiV (H:Hp) (x:V) (T:String) (b:Bool):Prop:=
 (T="tuple"/\((∃ i,x=.int i)/\b=false\/(∃ z,x=.str z)/\b=false\/(∃ a xs,x=.ref a/\H a=some (.tup xs))/\b=true))\/(T="bool"/\(∃ c,x=.bl c)/\b=true)
theorem call_isi:CallR X (.builtin "isinstance") (fun xs H Q=>∃ x T b,xs=[x,.ty T]/\isiV H x T b/\Q (.bl b) H):=by
 intro pins s σ H xs us Q I r h
 obtain⟨x,T,b,rfl,hi,q⟩:=h
 obtain⟨u,v,rfl,ru,rv⟩:=r.two
 cases rv
 rcases hi with ⟨rfl,⟨⟨i,rfl⟩,rfl⟩ | ⟨⟨z,rfl⟩,rfl⟩ | ⟨⟨a,ys,rfl,ha⟩,rfl⟩⟩ | ⟨rfl,⟨c,rfl⟩,rfl⟩
 ·obtain⟨t,rfl⟩:=ru
  exact IsiPair.int_tuple ⟨.bl false,H,I.tok _,rfl,q⟩
 ·obtain⟨t,rfl⟩:=ru
  exact IsiPair.str_tuple ⟨.bl false,H,I.tok _,rfl,q⟩
 ·cases ru
  obtain⟨hz,its,r',o,ho,hc,_⟩:=I.hok a _ ha
  exact IsiPair.tuple_tuple ho hc ⟨.bl true,H,I,rfl,q⟩
 ·cases ru
  exact IsiPair.bool_bool ⟨.bl true,H,I,rfl,q⟩
theorem strsAre_of {ys:List Str}:∀ {us:List Value},Vals (ys.map V.str) us->StrsAre us ys:=by
 induction ys with
 | nil=>intro us r;rw[List.map_nil]at r;cases r;exact .nil
 | cons n ns ih=>
  intro us r
  rw[List.map_cons]at r
  cases r with
  | cons r1 r2=>
   obtain⟨t,e⟩:=r1
   subst e
   exact .cons n t (ih r2)
theorem ofStrs:∀ {us:List Value}{ys:List Str},StrsAre us ys->Vals (ys.map V.str) us
 | _,_,.nil=>.nil
 | _,_,.cons x t r=>.cons ⟨t,rfl⟩ (ofStrs r)
def rJoin (K:PySem.W.Frag):V->List V->Hp->VK->Prop:=fun o vs H Q=>∃ sep p ys,o=.str sep/\vs=[.ref p]/\SqL K H p (ys.map V.str)/\(ys.map (·.length)).sum+ys.length * sep.length<=16777216/\Q (.str (Txt.join sep ys)) H
theorem mt_join:MtR X "str.join" (rJoin X.K):=by
 intro pins s σ H o vs v us Q I rx rv h
 obtain⟨sep,p,ys,rfl,rfl,hq,hz,q⟩:=h
 obtain⟨t,rfl⟩:=rx
 obtain⟨u,rfl,ru⟩:=rv.one
 cases ru
 obtain⟨its,r,pl,_⟩:=I.list hq
 exact join_list pl.isList (by simpa using strsAre_of r) hz fun t' k=>⟨.str _,H,I.tok _,⟨_,rfl⟩,q⟩
def rInsert:V->List V->Hp->VK->Prop:=fun o vs H Q=>∃ l xs i y,o=.ref l/\vs=[.int i,y]/\H l=some (.lst xs)/\0<=i/\i<=xs.length/\xs.length<sizeLine/\Q .non (upd H l (.lst (xs.take i.toNat++y::xs.drop i.toNat)))
theorem mt_insert:MtM X "list.insert" rInsert:=by
 intro pins s σ H x vs v us Q I rx rv h
 obtain⟨l,xs,i,y,rfl,rfl,hH,h0,h1,hz,q⟩:=h
 cases rx
 obtain⟨u,w,rfl,ru,rw'⟩:=rv.two
 obtain⟨t,rfl⟩:=ru
 obtain⟨z,its,n,r,hl,e⟩:=I.lstM hH
 have l63:=line63
 refine call_meets F.slot_list_insert ⟨_,e,rfl⟩ F.entry_list_insert (F.args_list_insert_3 _ _ _)
  (AutoSeq1.list_insert_list_int_val_1 l its.toArray n i t w (by rw[fitsIndex_both (by lia) (by lia)];simp) (by rw[List.size_toArray];lia)) ⟨e,?_⟩
 refine⟨.non,_,I.lset (its':=its.take i.toNat++w::its.drop i.toNat) hH e ?_ ((r.take _).append (.cons rw' (r.drop _))) ?_,rfl,q⟩
 ·simp only[List.size_toArray]
  rw[if_neg (by lia)]
  have hm:min i.toNat its.length=i.toNat:=by lia
  rw[hm]
  simp [List.extract_eq_take_drop]
  rw[List.take_of_length_le (by rw[List.length_drop];exact Nat.le_refl _)]
 ·simp only[List.length_append,List.length_cons,List.length_take,List.length_drop]
  lia
def rCatT' (K:PySem.W.Frag):R2:=fun x y H Q=>∃ a b xs ys,x=.ref a/\y=.ref b/\H a=some (.tup xs)/\H b=some (.tup ys)/\xs.length+ys.length<=sizeLine /\
 ∀ p H',(∀ c o,H c=some o->H' c=some o)->H' p=some (.tup (xs++ys))->Q (.ref p) H'
theorem op_catT':OpR X (binaryOp .Add) (rCatT' X.K):=by
 intro pins s σ H x y v u Q I rx ry h
 obtain⟨a,b,xs,ys,rfl,rfl,ha0,hb0,hz,q⟩:=h
 have ha:SqT X.K H a xs:=SqT.of ha0
 have hb:SqT X.K H b ys:=SqT.of hb0
 by_cases hx:xs=[]
 ·subst hx
  cases rx
  cases ry
  obtain⟨its,r1,p1,_⟩:=I.tuple ha
  obtain⟨its2,r2,p2,_⟩:=I.tuple hb
  cases r1
  obtain⟨⟨cls,dd,data,sl⟩,ho,hc,n,hd⟩:=id p1
  obtain⟨⟨cls2,dd2,data2,sl2⟩,ho2,hc2,n2,hd2⟩:=id p2
  simp only at hc hd hc2 hd2
  subst hc hd hc2 hd2
  exact concat_meets ⟨_,ho,rfl⟩ ⟨_,ho2,rfl⟩ noFill_tuple_add seq_tuple_add PySem.F.slot_tuple_add PySem.F.entry_tuple_add (PySem.F.args_tuple_add_2 _ _)
   (tuple_addW0 a b _ its2.toArray n n2 dd dd2 sl sl2 (by simp)) ⟨ho,ho2,⟨.ref b,H,I,rfl,q b H (fun _ _ z=>z) hb0⟩⟩
 ·exact op_catT pins s σ H _ _ v u Q I rx ry ⟨a,b,xs,ys,rfl,rfl,ha,hb,hx,hz,fun e=>q a H (fun _ _ z=>z) (by subst e;rw[List.append_nil];exact ha0),fun e p hp=>q p _ (fun c o z=>by rw[upd_ne (ne_of_none z hp)];exact z) upd_same⟩
end
end L2
end
section
namespace L2
open PySem PySem.Spec PyProof.Rows
open PySem.W (kdu_collect kdl_dict)
theorem kv_get:∀ {kvs:List (Key×V)}{vs:List (Key×Value)}{i:Nat}{p:Key×V},KV kvs vs->kvs[i]?=some p->∃ q,vs[i]?=some q/\p.1=q.1
 | _,_,_,_,.nil,e=>by simp at e
 | _,_,0,_,.cons r _,e=>by simp at e;subst e;exact⟨_,rfl,r.1⟩
 | _,_,i+1,p,.cons _ t,e=>by
  obtain⟨q,h1,h2⟩:=kv_get (i:=i) (p:=p) t (by simpa using e)
  exact⟨q,by simpa using h1,h2⟩
section
variable {X:Cx}
def rSortD:List V->Hp->VK->Prop:=fun xs H Q=>∃ a kvs,xs=[.ref a]/\H a=some (.dK kvs)/\(∀ kv∈kvs,∃ s,kv.1=Sum.inr s)/\kvs.length<64 /\
 ∀ (p:Addr) (ys:List Str),H p=none->(ys.map (Sum.inr:Str->Key)).Perm (kvs.map (·.1))->sortedS ys=true->Q (.ref p) (upd H p (.lst (ys.map V.str)))
theorem call_sortD (hc:X.calm=true):CallR X (.builtin "sorted") rSortD:=by
 intro pins s σ H xs us Q I r h
 obtain⟨a,kvs,rfl,ha,hk,h64,q⟩:=h
 obtain⟨u,rfl,ru⟩:=r.one
 cases ru
 have hh:=I.ok.hd hc
 obtain⟨z,hd,vs,rel,dd⟩:=dk_of I.hok ha
 obtain⟨ep,hat⟩:=dd.dictAt
 have hlen:kvs.length=vs.length:=rel.length
 refine Calls.call_function_entry kind_sorted plain_sorted entry_sorted (args_sorted1 _) ?_
 unfold Builtin.«sorted»
 refine wpAny_bind (m:=checkCount "sorted" 1 1 _) (wpAny_pure ?_)
 refine wpAny_bind (kdu_collect (A:=X.A.in1) (kdl_dict (knd:=mixKind X.prog X.w) (kvs:=vs) (ep:=ep) hd) hh hat (by rw[<- hlen];exact z) fun h' tk acc keep items=>?_)
 have hl:acc.toList.length=vs.length:=by rw[Array.length_toList];exact items.1
 refine wpAny_bind (wpAny_newList ?_ (by rw[hl,<- hlen];exact z))
 -- the keys as texts
 have hss:∃ ss:List Str,StrsAre acc.toList ss/\ss.map (Sum.inr:Str->Key)=kvs.map (·.1):=by
  have key:∀ (n:Nat),n<=vs.length->∃ ss:List Str,StrsAre (acc.toList.drop (vs.length-n)) ss/\ss.map (Sum.inr:Str->Key)=(kvs.map (·.1)).drop (vs.length-n):=by
   intro n
   induction n with
   | zero=>intro _;exact⟨[],by rw[List.drop_of_length_le (by lia)];exact .nil,by rw[List.drop_of_length_le (by rw[List.length_map];lia)];rfl⟩
   | succ n ih=>
    intro hn
    obtain⟨ss,h1,h2⟩:=ih (by lia)
    have e:vs.length-n=(vs.length-(n+1))+1:=by lia
    have hj:vs.length-(n+1)<acc.toList.length:=by lia
    have hj2:vs.length-(n+1)<kvs.length:=by lia
    obtain⟨k,x,hx,hkk⟩:=items.2 (vs.length-(n+1)) (acc.toList[vs.length-(n+1)]) (by rw[<- Array.getElem?_toList,List.getElem?_eq_getElem hj])
    have ek:kvs[vs.length-(n+1)].1=k:=by
     obtain⟨b,hb,hr⟩:=kv_get rel (List.getElem?_eq_getElem hj2)
     rw[hx]at hb
     cases hb
     exact hr
    obtain⟨sx,hs⟩:=hk _ (List.getElem_mem hj2)
    rw[ek]at hs
    subst hs
    obtain⟨t,et⟩:∃ t,acc.toList[vs.length-(n+1)]=Value.str sx t:=by
     rcases keyIs_shape (show keyIs (Sum.inr sx) _=true from hkk) with ⟨i,t,e1,_⟩ | ⟨y,t,e1,e2⟩
     ·cases e1
     ·cases e1;exact⟨t,e2⟩
    refine⟨sx::ss,?_,?_⟩
    ·rw[List.drop_eq_getElem_cons hj,et,<- e]
     exact .cons sx t h1
    ·rw[List.map_cons,h2,List.drop_eq_getElem_cons (i:=vs.length-(n+1)) (by rw[List.length_map];exact hj2),List.getElem_map,ek,e]
  obtain⟨ss,h1,h2⟩:=key vs.length (Nat.le_refl _)
  rw[Nat.sub_self,List.drop_zero]at h1
  rw[Nat.sub_self,List.drop_zero]at h2
  exact⟨ss,h1,h2⟩
 obtain⟨ss,hS,hmap⟩:=hss
 have hoL:(h'.push { cls:=.type "list",data:=.seq acc.toList.toArray }).get? h'.objs.size=some (seqObj "list" acc.toList.toArray 0):=Heap.get?_push_size _ rfl
 refine wpAny_bind (wpAny_holding (wpAny_call_entry slot_list_sort ⟨_,hoL,rfl⟩ entry_list_sort (list_sort_treeK strKind_oneLt hoL hS.keysOf (fun v₁ v₂ rest e=>keyKind_strs (by rw[<- e];exact hS)) (by rw[hl,<- hlen];exact h64) fun st' a1 a2=>⟨_,rfl,?_⟩) (args_list_sort _)))
 obtain⟨ys,b1,b2,b3⟩:=sorted_out_str hS a1 a2
 refine wpAny_pure ⟨_,rfl,?_⟩
 have I1:Inv X pins σ H { s with heap:=h',toks:=tk }:=I.kept keep
 obtain⟨e,hat2⟩:=sortedHeap_at (out:=(arrOf st').map (·.2)) hoL
 have hz:(ys.map V.str).length<=sizeLine:=by
  rw[List.length_map,b2.length_eq,<- List.length_map (f:=(Sum.inr:Str->Key)),hmap,List.length_map]
  exact z
 refine⟨.ref h'.objs.size,upd H h'.objs.size (.lst (ys.map V.str)),?_,rfl,q _ ys (I1.hok.fresh (Nat.le_refl _)) ?_ b3⟩
 ·refine I1.laid (t':=tk) (fun b o hb=>?_) (Nat.le_refl _) ⟨hz,_,e,ofStrs b1,?_⟩
  ·have hlt:b<h'.objs.size:=Heap.lt_size hb
   rw[sortedHeap_old (Nat.ne_of_lt hlt) (by rw[Heap.size_push];exact Nat.lt_succ_of_lt hlt)]
   exact Heap.get?_push_of_some _ hb
  ·rw[hat2]
 ·rw[<- hmap]
  exact b2.map _
end
section
variable {X:Cx}
theorem op_plus:OpR X (binaryOp .Add) (fun x y H Q=>rI0 (fun i j=>.int (i+j)) x y H Q\/((∃ i j,x=.str i/\y=.str j/\i.length+j.length<=sizeLine/\Q (.str (i++j)) H)\/(rCat x y H Q\/rCatT' X.K x y H Q))):=op_add.or (op_add_str.or (op_cat.or op_catT'))
theorem op_ltU (hu:X.A.units<cLine):OpR X (compareOp .Lt) (fun x y H Q=>rI0 (fun i j=>.bl (decide (i<j))) x y H Q\/(rLtE x y H Q\/rLtK X.K x y H Q)):=op_lt.or (op_ltE.or (op_ltK hu))
theorem op_eqU (hu:X.A.units+110<cLine):OpR X (compareOp .Eq) (fun x y H Q=>rEq x y H Q\/rEqD x y H Q):=op_eq.or (op_eqD hu)
def rNeL:R2:=fun x y H Q=>∃ a b xs,x=.ref a/\y=.ref b/\H a=some (.lst xs)/\H b=some (.lst [])/\Q (.bl (decide (xs≠[]))) H
theorem op_neL (hu:X.A.units<cLine):OpR X (compareOp .NotEq) rNeL:=by
 intro pins s σ H x y v u Q I rx ry h
 obtain⟨a,b,xs,rfl,rfl,ha,hb,q⟩:=h
 cases rx
 cases ry
 obtain⟨its,r,p,_⟩:=I.list (SqL.of ha)
 obtain⟨its2,r2,p2,_⟩:=I.list (SqL.of hb)
 cases r2
 by_cases hx:xs=[]
 ·subst hx
  cases r
  refine SeqAt.RcNeAt.lists (A:=X.A) (e:=fun _=>true) p.isList p2.isList rfl hu (fun j h1=>by simp at h1) _ _ _ _ ⟨.bl false,H,I,rfl,?_⟩
  simpa using q
 ·refine SeqAt.RcNeAt.lists_lengths (A:=X.A) p.isList p2.isList ?_ hu _ _ _ _ ⟨.bl true,H,I,rfl,?_⟩
  ·have:=r.length
   have h0:its≠[]:=fun z=>hx (by subst z;cases xs with | nil=>rfl | cons _ _=>simp at this)
   cases its with
   | nil=>exact absurd rfl h0
   | cons _ _=>simp
  ·rw[decide_eq_true hx]at q
   exact q
theorem op_neU (hu:X.A.units+110<cLine):OpR X (compareOp .NotEq) (fun x y H Q=>rNe x y H Q\/((∃ ds es,IsDt H (.tup ds) x/\IsDt H (.tup es) y/\depL ds<=depMax/\Q (.bl (!decide (ds=es))) H)\/rNeL x y H Q)):=op_ne.or ((op_neD hu).or (op_neL (by lia)))
theorem op_inU (hu:X.A.units+110<cLine):OpR X (compareOp .In) (fun x y H Q=>rIn X.K false x y H Q\/rInD X.K false x y H Q):=op_in_seq.or (op_inD hu)
theorem op_notInU (hu:X.A.units+110<cLine):OpR X (compareOp .NotIn) (fun x y H Q=>rIn X.K true x y H Q\/rInD X.K true x y H Q):=op_notIn_seq.or (op_notInD hu)
theorem call_lenU:CallR X (.builtin "len") (fun xs H Q=>(∃ p ys,xs=[.ref p]/\(SqL X.K H p ys\/SqT X.K H p ys)/\Q (.int ys.length) H)\/∃ z,xs=[.str z]/\z.length<=sizeLine/\Q (.int z.length) H):=call_len_seq.or call_len_str
def rIxD:R2:=fun x y H Q=>∃ a v,x=.ref a/\DGet H a y (some v)/\Q v H
theorem ix_dict (hu:X.A.units+1<cLine):IxR X rIxD:=by
 intro value slice pins s σ H x y v u Q I rx ry h hs
 obtain⟨a,w,rfl,g,q⟩:=h
 cases rx
 exact tail_any (ops:=[.ref a,u]) (dict_typeIs I g) PySem.F.slot_dict_getitem.lookup (d_getItem hu I g ry fun w' s3 I3 rw'=>⟨w,H,I3,rw',q⟩) hs
theorem ix_U (hu:X.A.units+1<cLine):IxR X (fun x y H Q=>rIxL X.K x y H Q\/(rIxT X.K x y H Q\/(rIxS x y H Q\/rIxD x y H Q))):=ix_list.or (ix_tup.or (ix_str.or (ix_dict hu)))
def rSetD:TSet:=fun o i v H Q=>∃ a H',o=.ref a/\DPut H a i v H'/\Q H'
theorem set_dict (hu:X.A.units+1<cLine):PSet X rSetD:=by
 intro pins s σ H o i v ov iv u Q I ro ri rv h
 obtain⟨a,H',rfl,g,q⟩:=h
 cases ro
 exact d_setItem hu I g ri rv fun s4 I4=>⟨H',I4,q⟩
theorem PSet.or {r r':TSet} (h:PSet X r) (h':PSet X r'):PSet X (fun o i v H Q=>r o i v H Q\/r' o i v H Q):=by
 intro pins s σ H o i v ov iv u Q I ro ri rv q
 rcases q with q | q
 ·exact h pins s σ H o i v ov iv u Q I ro ri rv q
 ·exact h' pins s σ H o i v ov iv u Q I ro ri rv q
theorem set_U (hu:X.A.units+1<cLine):PSet X (fun o i v H Q=>rSetL o i v H Q\/rSetD o i v H Q):=set_list.or (set_dict hu)
theorem pi_U {tg l:Expr}{tl:TE} (hl:PE X l tl):PI X tg l (fun σ H R=>iList X.K tl σ H R\/iTup X.K tl σ H R):=by
 intro pins s σ H R I h
 rcases h with h | h
 ·exact pi_list hl pins s σ H R I h
 ·exact pi_tup hl pins s σ H R I h
end
end L2
end
section
namespace L2
open PySem PySem.Spec PyProof.Rows
structure ZC where
 cl:List (Str×Addr)
 C:Addr
 fp:List Addr
 s:Shared
 H:Hp
def cxC (X:Cx) (scope:Scope) (N':List Str) (z:ZC):Cx where
 prog:=X.prog
 w:=X.w
 K:=X.K
 mg:=X.mg
 base:=X.base
 A:=X.A
 N:=N'
 s₀:=z.s
 H₀:=z.H
 env:=compEnvC scope z.cl z.C X.env
 outer:=X.stack
 stack:=X.stack
 ex:=z.fp
 fn:=fun _=>false
 calm:=X.calm
 pn:=[]
 xe:=fun _ _=>False
theorem clos_loop {env:Env}:∀ (names:List (Str×NameKind)) (acc:List (Str×Addr)),(∀ y∈names,y.2=.free->∃ c,env.cells.lookup y.1=some c) ->
  (∀ x c,acc.lookup x=some c->env.cells.lookup x=some c) ->
  ∃ cl,(forIn names acc (fun y cs=>if (y.2 == NameKind.free)=true then (cellOf env y.1 >>= fun c=>pure (ForInStep.yield ((y.1,c)::cs))) else pure (ForInStep.yield cs)):Sem (List (Str×Addr)))=pure cl /\
   (∀ x c,cl.lookup x=some c->env.cells.lookup x=some c)/\(∀ y∈names,y.2=.free->∃ c,cl.lookup y.1=some c)/\∀ x c,acc.lookup x=some c->∃ c',cl.lookup x=some c'
 | [],acc,_,ha=>⟨acc,rfl,ha,fun y hy=>(nomatch hy),fun x c h=>⟨c,h⟩⟩
 | (n,k)::r,acc,h,ha=>by
  by_cases hk:k=.free
  ·subst hk
   obtain⟨c,hc⟩:=h (n,.free) List.mem_cons_self rfl
   have hac:∀ x c',((n,c)::acc).lookup x=some c'->env.cells.lookup x=some c':=fun x c' q=>by
    rw[List.lookup_cons]at q
    cases e:x == n with
    | true=>
     rw[e]at q
     cases q
     rw[eq_of_beq e]
     exact hc
    | false=>
     rw[e]at q
     exact ha x c' q
   obtain⟨cl,e1,e2,e3,e4⟩:=clos_loop r ((n,c)::acc) (fun y hy=>h y (List.mem_cons_of_mem _ hy)) hac
   refine⟨cl,?_,e2,fun y hy hf=>?_,fun x c' q=>?_⟩
   ·rw[List.forIn_cons]
    have ec:cellOf env n=pure c:=by unfold cellOf;rw[hc]
    simp only[beq_self_eq_true,if_true,ec,pure_bind]
    exact e1
   ·rcases List.mem_cons.mp hy with rfl | hy
    ·exact e4 n c (by simp)
    ·exact e3 y hy hf
   ·cases e:x == n with
    | true=>exact e4 x c (by rw[List.lookup_cons,e])
    | false=>exact e4 x c' (by rw[List.lookup_cons,e];exact q)
  ·obtain⟨cl,e1,e2,e3,e4⟩:=clos_loop r acc (fun y hy=>h y (List.mem_cons_of_mem _ hy)) ha
   refine⟨cl,?_,e2,fun y hy hf=>?_,e4⟩
   ·rw[List.forIn_cons]
    have hb:(k == NameKind.free)=false:=by simpa using hk
    simp only[hb,Bool.false_eq_true,if_false,pure_bind]
    exact e1
   ·rcases List.mem_cons.mp hy with rfl | hy
    ·exact absurd hf hk
    ·exact e3 y hy hf
theorem clos_of {scope:Scope}{env:Env} (h:∀ y∈scope.names,y.2=.free->∃ c,env.cells.lookup y.1=some c) :
  ∃ cl,closureFor scope env=pure cl/\(∀ x c,cl.lookup x=some c->env.cells.lookup x=some c)/\∀ y∈scope.names,y.2=.free->∃ c,cl.lookup y.1=some c:=by
 obtain⟨cl,e1,e2,e3,_⟩:=clos_loop (env:=env) scope.names [] h (fun x c q=>by simp at q)
 refine⟨cl,?_,e2,e3⟩
 unfold closureFor
 first
  | exact e1
  | (simp only[bind_pure_comp,map_pure,bind_pure]at e1 ⊢;exact e1)
  | (rw[show (forIn scope.names [] _:Sem (List (Str×Addr)))=pure cl from e1];rfl)
theorem rel_free {env:Env}:∀ {names:List (Str×NameKind)}{x:Str},names.lookup x=some .free ->
  let l:=(names.map fun (n,k)=>if (k == NameKind.free && env.scope.kind == .function && env.kindOf n == some .cell) then (n,NameKind.cell) else (n,k)).lookup x
  l=some .cell\/l=some .free
 | [],_,h=>by simp at h
 | (n,k)::r,x,h=>by
  have ih:=@rel_free env r x
  simp only at ih ⊢
  rw[List.map_cons]
  cases hx:x == n with
  | true=>
   rw[List.lookup_cons,hx]at h
   cases h
   by_cases hc:(NameKind.free == NameKind.free && env.scope.kind == .function && env.kindOf n == some .cell)=true
   ·left
    simp only[hc,if_true,List.lookup_cons,hx]
   ·right
    simp only[if_neg hc,List.lookup_cons,hx]
  | false=>
   rw[List.lookup_cons,hx]at h
   by_cases hc:(k == NameKind.free && env.scope.kind == .function && env.kindOf n == some .cell)=true
   ·simp only[if_pos hc,List.lookup_cons,hx];exact ih h
   ·simp only[if_neg hc,List.lookup_cons,hx];exact ih h
theorem rel_back {env:Env}:∀ {names:List (Str×NameKind)}{x:Str}{k':NameKind},(∀ y∈names,y.2≠.cell)->(k'=.cell\/k'=.free) ->
  (names.map fun (n,k)=>if (k == NameKind.free && env.scope.kind == .function && env.kindOf n == some .cell) then (n,NameKind.cell) else (n,k)).lookup x=some k'->(x,NameKind.free)∈names
 | [],_,_,_,_,h=>by simp at h
 | (n,k)::r,x,k',hn,hk,h=>by
  rw[List.map_cons]at h
  cases hx:x == n with
  | true=>
   have e:x=n:=eq_of_beq hx
   subst e
   by_cases hc:(k == NameKind.free && env.scope.kind == .function && env.kindOf x == some .cell)=true
   ·have hf:k=.free:=by
     simp only[Bool.and_eq_true,beq_iff_eq]at hc
     exact hc.1.1
    subst hf
    exact List.mem_cons_self
   ·simp only[if_neg hc,List.lookup_cons,hx]at h
    have e2:k=k':=Option.some.inj h
    subst e2
    rcases hk with rfl | rfl
    ·exact absurd rfl (hn _ List.mem_cons_self)
    ·exact List.mem_cons_self
  | false=>
   have ih:=@rel_back env r x k' (fun y hy=>hn y (List.mem_cons_of_mem _ hy)) hk
   by_cases hc:(k == NameKind.free && env.scope.kind == .function && env.kindOf n == some .cell)=true
   ·simp only[if_pos hc,List.lookup_cons,hx]at h
    exact List.mem_cons_of_mem _ (ih h)
   ·simp only[if_neg hc,List.lookup_cons,hx]at h
    exact List.mem_cons_of_mem _ (ih h)
theorem comp_loop {prog:Program}{w:World}{A:Around}{s:Shared}{elt tg iter:Expr}{ifs:List Expr}{scope:Scope}{pos:Pos}{it acc:Value}{env:Env}{P:Shared->Prop}{R:Result->Shared->Prop}
  (hR:∀ s',P s'->R (.ok .next) s') (J:Nat->Shared->Prop)
  (turn:∀ n s,J n s->wpAny (model prog w) A (pyNext it) (fun r s1=>match r with
   | none=>P s1
   | some v=>wpAny (model prog w) A (letOwnedTupleGo tg it v) (fun _ s2=>wpAny (model prog w) A (assign tg env v) (fun _ s3=>
     wpAny (model prog w) A (forIn ifs true fun c r=>if r=true then do let ok <- isTrue c env (eval c env);pure (ForInStep.yield ok) else pure (ForInStep.yield r)) (fun ok s4=>
      if ok=true then wpAny (model prog w) A (eval elt env) (fun x s5=>
       wpAny (model prog w) A (call (.builtin "list.append") [acc,x]) (fun _ s6=>∃ m,m<n/\J m s6) (fun _ _=>False) s5) (fun _ _=>False) s4
      else ∃ m,m<n/\J m s4) (fun _ _=>False) s3) (fun _ _=>False) s2) (fun _ _=>False) s1) (fun _ _=>False) s)
  (n:Nat) (h:J n s):codeAny (model prog w) A (.compLoop (.ListComp elt [⟨tg,iter,ifs,0⟩] scope pos) 0 it acc env) R s:=by
 refine codeAny_loop rfl J (fun n s hJ=>?_) n h
 show wpAny _ A ((compTurn (.ListComp elt [⟨tg,iter,ifs,0⟩] scope pos) 0 it acc env).onRaise (fun x=>do noteFrame x env;theTreesLotGoes x)) _ _ s
 refine wpAny_noted (wpAny_mono (E:=fun _ _=>False) ?_ (fun _ _ q=>q) fun _ _ q=>q.elim)
 rw[compTurn_list]
 refine wpAny_bind (wpAny_standAt (wpAny_bind (thn (turn n s hJ) fun r s1 h1=>?_)))
 cases r with
 | none=>exact wpAny_pure (hR _ h1)
 | some v=>
  refine wpAny_bind (thn h1 fun _ s2 h2=>wpAny_bind (thn h2 fun _ s3 h3=>wpAny_bind (thn h3 fun ok s4 h4=>?_)))
  cases ok with
  | false=>exact wpAny_pure ⟨rfl,h4⟩
  | true=>exact wpAny_bind (wpAny_bind (thn h4 fun x s5 h5=>wpAny_bind (thn h5 fun _ s6 h6=>wpAny_pure (wpAny_pure ⟨rfl,h6⟩))))
def PIfs (X:Cx) (ifs:List Expr) (t:TT):Prop:=
 ∀ (pins:List (Addr×Obj)) (s:Shared) (σ:St) (H:Hp) (Q:Bool->Hp->Prop),Inv X pins σ H s->t σ H Q ->
  wpAny (model X.prog X.w) X.A (forIn ifs true fun c r=>if r=true then do let ok <- isTrue c X.env (eval c X.env);pure (ForInStep.yield ok) else pure (ForInStep.yield r)) (TP X pins σ Q) X.xe s
def tAll:TT:=fun _ H Q=>Q true H
theorem pif_nil {X:Cx}:PIfs X [] tAll:=fun pins s σ H Q I h=>wpAny_tests_nil ⟨H,I,h⟩
theorem pif_one {X:Cx}{c:Expr}{t:TT} (h:PT X c t):PIfs X [c] t:=fun pins s σ H Q I q=>wpAny_tests_one (h pins s σ H Q I q)
def sigC (k:Nat) (fr:List (Str×Nat)) (σ:St):St:=List.replicate k none++fr.map fun p=>(σ[p.2]?).join
def Tgt (k:Nat) (g:TG):Prop:=∀ x σ H Q,g x σ H Q->g x σ H fun σ2 H2=>Q σ2 H2/\σ2.length=σ.length/\σ2.drop k=σ.drop k
theorem tgt_name {i k:Nat} (h:i<k):Tgt k (gName i):=fun x σ H Q q=>⟨q,by simp,by rw[List.drop_set_of_lt h]⟩
theorem tgt_two {K:PySem.W.Frag}{i j k:Nat} (hi:i<k) (hj:j<k):Tgt k (gTup K 2 (gCons (gName i) (gCons (gName j) gNil))):=fun x σ H Q q=>by
 obtain⟨a,xs,e1,e2,e3,v,r,e4,v2,r2,e5,e6,q⟩:=q
 exact⟨a,xs,e1,e2,e3,v,r,e4,v2,r2,e5,e6,q,by simp,by rw[List.drop_set_of_lt hj,List.drop_set_of_lt hi]⟩
def lcStep (J:It) (k:Nat) (fr:List (Str×Nat)) (g:ZC->TG) (tc:ZC->TT) (te:ZC->TE) (σ:St) (W:Nat->Nat->List V->Hp->Prop) (fin:List V->Hp->Prop):Prop:=
 ∀ i m ys H,W i m ys H->ys.length<sizeLine/\((J.stop i H/\fin ys H)\/(J.go i H/\∀ (z:ZC) x H1,J.yld i H x H1->g z x (sigC k fr σ) H1 fun σ2 H2=>tc z σ2 H2 fun b H3=>
  if b=true then te z σ2 H3 fun y H4=>∃ m',m'<m/\W (i+1) m' (ys++[y]) H4 else ∃ m',m'<m/\W (i+1) m' ys H3))
def tLC (wi:TI) (k:Nat) (fr:List (Str×Nat)) (g:ZC->TG) (tc:ZC->TT) (te:ZC->TE):TE:=fun σ H Q=>wi σ H fun J H1=>
 ∃ W:Nat->Nat->List V->Hp->Prop,(∃ m,W 0 m [] H1)/\lcStep J k fr g tc te σ W fun ys H2=>∀ p,H2 p=none->Q (.ref p) (upd H2 p (.lst ys))
section
variable {X:Cx}{tg elt iter:Expr}{ifs:List Expr}{scope:Scope}{pos:Pos}{k:Nat}{Nt:List Str}{fr:List (Str×Nat)}{g:ZC->TG}{tc:ZC->TT}{te:ZC->TE}
structure LcOk (X:Cx) (scope:Scope) (Nt:List Str) (fr:List (Str×Nat)):Prop where
 kind:scope.kind=.function
 cell:∀ y∈scope.names,y.2≠.cell
 names:∀ y∈scope.names,y.2=.local->scope.names.lookup y.1=some .local
 free:∀ y∈scope.names,y.2=.free->X.env.kindOf y.1=some .cell
 fr:∀ p∈fr,X.N[p.2]?=some p.1/\scope.names.lookup p.1=some .free
theorem lc_start {pins:List (Addr×Obj)} {σ:St} {H:Hp}{s2:Shared}{cl:List (Str×Addr)}{fp:List Addr}{h1:Heap}{t1:Nat}{C D:Addr}{m:Str->Option Value} (L:LcOk X scope Nt fr) (I:Inv X pins σ H s2)
  (hcl:∀ x c,cl.lookup x=some c->X.env.cells.lookup x=some c) (hcl2:∀ y∈scope.names,y.2=.free->∃ c,cl.lookup y.1=some c) (hf:∀ b∈fp,FpOk X pins H b) (hlt:∀ b∈fp,b<s2.heap.objs.size)
  (hC:s2.heap.objs.size<=C) (hD:s2.heap.objs.size<=D) (hCD:D≠C) (old:∀ b o,s2.heap.get? b=some o->h1.get? b=some o) (hn:h1.Ns C m) (ho:h1.get? D=some { cls:=.type "list",data:=.seq #[] 0 }) :
  Inv (cxC X scope (Nt++fr.map (·.1)) ⟨cl,C,fp,s2,H⟩) [(D,{ cls:=.type "list",data:=.seq #[] 0 })] (sigC Nt.length fr σ) H { s2 with heap:=h1,toks:=t1 }:=by
 have hstk:∀ b∈frs X.stack,b<s2.heap.objs.size:=fun b hb=>by
  rcases List.mem_cons.mp (I.stkSub b hb) with e | e
  ·rw[e];exact I.lt
  ·exact Nat.lt_of_not_le fun z=>I.nofs z e
 have cdn:∀ x c,cl.lookup x=some c->c<s2.heap.objs.size:=fun x c e=>by
  obtain⟨v,q⟩:=I.cell x c (hcl x c e)
  exact q.lt
 refine⟨⟨I.mod,L.kind,I.ok.glob,I.ok.blt,hC,fun x y c e1 e2=>I.ok.inj x y c (hcl _ _ e1) (hcl _ _ e2),fun x hx=>?_,fun x c hf' _=>(nomatch hf'),I.ok.hd,I.ok.frames,.inl rfl,fun b hb=>⟨Nat.ne_of_lt (Nat.lt_of_lt_of_le (hlt b hb) hC),fun x c e=>(hf b hb).2.2.2.2.1 x c (hcl x c e)⟩,
   I.bs,Nat.le_trans I.ok.bsz I.sz,fun b o e hb=>?_,fun b hb z=>?_,I.stack,I.stkFree⟩,
  rfl,I.bare,Un.kept old,⟨m,hn,fun i x v h1' h2 h3=>?_⟩,fun x c e=>?_,I.hok.fresh hC,fun x c e=>I.freeC x c (hcl x c e),fun p hp=>?_,I.hok.kept old,?_⟩
 ·have hx':((relabel scope X.env).names.lookup x=some .cell\/(relabel scope X.env).names.lookup x=some .free):=hx
  rcases hx' with q | q
  ·exact hcl2 _ (rel_back L.cell (.inl rfl) q) rfl
  ·exact hcl2 _ (rel_back L.cell (.inr rfl) q) rfl
 ·rcases (hf b hb).2.2.2.1 with q | q
  ·exact I.ok.noex b o e q
  ·exact absurd (Nat.lt_of_lt_of_le (Heap.lt_size e) (Nat.le_trans I.ok.bsz q)) (Nat.lt_irrefl _)
 ·rcases List.mem_cons.mp (I.stkSub b z) with e | e
  ·exact (hf b hb).2.1 e
  ·exact (hf b hb).2.2.1 e
 ·have h1'':(Nt++fr.map (·.1))[i]?=some x:=h1'
  have hi:¬i<Nt.length:=fun hi=>by
   unfold sigC at h2
   rw[List.getElem?_append_left (by simpa using hi),List.getElem?_replicate]at h2
   split at h2 <;> cases h2
  unfold sigC at h2
  rw[List.getElem?_append_right (by simpa using hi),List.length_replicate,List.getElem?_map]at h2
  rw[List.getElem?_append_right (by lia),List.getElem?_map]at h1''
  cases e:fr[i-Nt.length]? with
  | none=>rw[e]at h2;cases h2
  | some p=>
   rw[e]at h2 h1''
   have ex:p.1=x:=Option.some.inj h1''
   have ev:(σ[p.2]?).join=some v:=Option.some.inj h2
   obtain⟨hN,hfr⟩:=L.fr p (List.mem_of_getElem? e)
   have es:σ[p.2]?=some (some v):=by
    cases q:σ[p.2]? with
    | none=>rw[q]at ev;cases ev
    | some o=>rw[q]at ev;exact congrArg some ev
   have hkc:=L.free (p.1,.free) (PySem.mem_of_lookup hfr) rfl
   obtain⟨mo,hmo,hloc⟩:=I.loc
   obtain⟨u,ru,lk⟩:=hloc p.2 p.1 v hN es (.inr (.inl hkc))
   refine⟨u,ru,?_⟩
   rcases lk with ⟨kk,_⟩ | ⟨_,c,hc,hcell⟩
   ·rw[hkc]at kk;cases kk
   ·obtain⟨c',hc'⟩:=hcl2 _ (PySem.mem_of_lookup hfr) rfl
    have hcc:=hcl _ _ hc'
    rw[hc]at hcc
    cases hcc
    subst ex
    refine .inr ⟨?_,c,hc',?_⟩
    ·exact rel_free hfr
    ·obtain⟨o,q1,q2⟩:=hcell
     exact⟨o,old _ _ q1,q2⟩
 ·obtain⟨v,q⟩:=I.cell x c (hcl x c e)
  obtain⟨o,q1,q2⟩:=q
  exact⟨v,o,old _ _ q1,q2⟩
 ·have hp':p∈([(D,({ cls:=.type "list",data:=.seq #[] 0 }:Obj))]:List (Addr×Obj)):=hp
  rw[List.mem_singleton]at hp'
  subst hp'
  exact⟨ho,I.hok.fresh hD,hCD,fun z=>absurd (Nat.lt_of_lt_of_le (hstk _ z) hD) (Nat.lt_irrefl _),fun v z=>by cases z⟩
 ·unfold sigC
  show _=(Nt++fr.map (·.1)).length
  simp
structure LcEnd (X:Cx) (fp:List Addr) (H1:Hp) (s2:Shared) (fin:List V->Hp->Prop) (D C:Addr) (s':Shared) (ys:List V) (its:List Value) (n:Nat) (H':Hp) (m':Str->Option Value):Prop where
 ns:s'.heap.Ns C m'
 fc:H' C=none
 fd:H' D=none
 gc:s2.heap.objs.size<=C
 gd:s2.heap.objs.size<=D
 cd:D≠C
 un:Un (frs X.stack) fp H1 H' s2.heap s'.heap
 ok:HOk X.prog X.w H' s'.heap
 os:s'.os=s2.os
 bare:AllBare s'.gens
 obj:s'.heap.get? D=some { cls:=.type "list",data:=.seq its.toArray n }
 vals:Vals ys its
 size:ys.length<=sizeLine
 fin:fin ys H'
theorem lc_close {pins:List (Addr×Obj)} {σ:St} {fp:List Addr}{H1 H':Hp}{s2 s':Shared}{fin:List V->Hp->Prop}{D C:Addr}{ys:List V}{its:List Value}{n:Nat}{m':Str->Option Value}{h':Heap}
  (I:Inv X pins σ H1 s2) (hf:∀ b∈fp,FpOk X pins H1 b) (e:LcEnd X fp H1 s2 fin D C s' ys its n H' m') (sb:Heap.SameBut C s'.heap h'):Inv X pins σ (upd H' D (.lst ys)) { s' with heap:=h' }:=by
 have old:∀ b o,s2.heap.get? b=some o->b≠C/\b≠D:=fun b o q=>⟨Nat.ne_of_lt (Nat.lt_of_lt_of_le (Heap.lt_size q) e.gc),Nat.ne_of_lt (Nat.lt_of_lt_of_le (Heap.lt_size q) e.gd)⟩
 have at':∀ b,b≠C->h'.get? b=s'.heap.get? b:=fun b hb=>sb.2 b hb
 refine I.call' (s':={ s' with heap:=h' }) (ch:=fp) e.os ?_ ?_ e.bare fun b hb=>⟨(hf b hb).2.2.2.1,(hf b hb).2.1,(hf b hb).2.2.2.2.1,(hf b hb).2.2.2.2.2⟩
 ·have u:=e.un
  refine⟨fun b o q n hb hx=>?_,fun b o q n hb hx=>?_,fun b o q n hx=>?_,fun b o q hx=>?_,fun b xs q=>?_,fun b o v q=>?_,fun b ps q=>?_⟩
  ·exact (at' b (old b o q).1).trans (u.keep b o q n hb hx)
  ·obtain⟨sl,z⟩:=u.slot b o q n hb hx
   exact⟨sl,(at' b (old b o q).1).trans z⟩
  ·rw[upd_ne (old b o q).2]
   exact u.free b o q n hx
  ·obtain⟨o',z⟩:=u.there b o q hx
   exact⟨o',(at' b (old b o q).1).trans z⟩
  ·have z:=u.tups b xs q
   rw[upd_ne (ne_of_none z e.fd)]
   exact z
  ·have z:=u.frzs b o v q
   rw[upd_ne (ne_of_none z e.fd)]
   exact z
  ·obtain⟨more,z⟩:=u.tbls b ps q
   refine⟨more,?_⟩
   rw[upd_ne (ne_of_none z e.fd)]
   exact z
 ·intro b o q
  by_cases hb:b=D
  ·subst hb
   rw[upd_same]at q
   cases q
   exact⟨e.size,its,n,e.vals,(at' _ e.cd).trans e.obj⟩
  ·rw[upd_ne hb]at q
   refine (e.ok b o q).stay (fun c v hc z=>?_) (fun c z=>?_) fun c xs z=>?_
   ·have hcC:c≠C:=by
     rcases hc with rfl | hc
     ·exact ne_of_none q e.fc
     ·exact ne_of_none hc e.fc
    exact (at' c hcC).trans z
   ·rw[upd_ne (ne_of_none z e.fd)]
    exact z
   ·rw[upd_ne (ne_of_none z e.fd)]
    exact z
theorem lc_block {pins:List (Addr×Obj)} {σ:St} {H1:Hp}{s2:Shared}{cl:List (Str×Addr)}{fp:List Addr}{it:Addr}{tn:Nat->Heap->Prop}{J:It}{W:Nat->Nat->List V->Hp->Prop}{fin:List V->Hp->Prop}{E:Value->Shared->Prop}{RR:Value->Addr->Result->Shared->Prop}{m0:Nat}
  (L:LcOk X scope Nt fr) (hcalm:X.calm=true) (I:Inv X pins σ H1 s2) (hcl:∀ x c,cl.lookup x=some c->X.env.cells.lookup x=some c) (hcl2:∀ y∈scope.names,y.2=.free->∃ c,cl.lookup y.1=some c)
  (T:Turn X.prog X.w X.K tg J fp it tn) (st0:tn 0 s2.heap) (hf:∀ b∈fp,FpOk X pins H1 b)
  (hg:∀ z,PG (cxC X scope (Nt++fr.map (·.1)) z) tg (g z)) (hgt:∀ z,Tgt Nt.length (g z)) (hc:∀ z,PIfs (cxC X scope (Nt++fr.map (·.1)) z) ifs (tc z)) (he:∀ z,PE (cxC X scope (Nt++fr.map (·.1)) z) elt (te z))
  (w0:W 0 m0 [] H1) (step:lcStep J Nt.length fr g tc te σ W fin)
  (hRR:∀ D C s' ys its n H' m',LcEnd X fp H1 s2 fin D C s' ys its n H' m'->RR (.ref D) C (.ok .next) s') :
  wpAny (model X.prog X.w) X.A (newList []) (fun acc s3=>wpAny (model X.prog X.w) X.A (newFunctionEnv scope X.env.globals cl [] X.env.qual none .none (some X.env)) (fun cenv s4=>
   codeAny (model X.prog X.w) X.A (.compStart (.ListComp elt [⟨tg,iter,ifs,0⟩] scope pos) 0 (.ref it) acc { cenv with scope:=relabel scope X.env }) (RR acc cenv.locals) s4) E s3) E s2:=by
 refine wpAny_newObj_type (wpAny_newFunctionEnv L.cell (by intro y hy;simp at hy) (fun h1 hns hsb=>?_) L.kind)
 dsimp only at hns hsb ⊢
 generalize hH2:s2.heap.push { cls:=.type "list",dict:=none,data:=.seq ([]:List Value).toArray }=G at hns hsb ⊢
 have hC:G.objs.size=s2.heap.objs.size+1:=by rw[<- hH2,Heap.size_push]
 have hlt:∀ b∈fp,b<s2.heap.objs.size:=fun b hb=>by
  obtain⟨o,q,_⟩:=T.obj 0 _ st0 b hb
  exact Heap.lt_size q
 have old:∀ b o,s2.heap.get? b=some o->h1.get? b=some o:=fun b o q=>
  hsb.extBut b o (by rw[hC];exact Nat.ne_of_lt (Nat.lt_succ_of_lt (Heap.lt_size q))) (Heap.get?_push_of_some _ (hH2 ▸ Heap.get?_push_of_some _ q))
 have hDC:s2.heap.objs.size≠G.objs.size:=by rw[hC];exact Nat.ne_of_lt (Nat.lt_succ_self _)
 have hacc:h1.get? s2.heap.objs.size=some { cls:=.type "list",data:=.seq #[] 0 }:=hsb.extBut _ _ hDC (Heap.get?_push_of_some _ (hH2 ▸ Heap.get?_push_size _ rfl))
 have hgC:s2.heap.objs.size<=G.objs.size:=by rw[hC];exact Nat.le_succ _
 have I0:=lc_start (t1:=s2.toks+([]:List (Str×Value)).length) (C:=G.objs.size) (D:=s2.heap.objs.size) L I hcl hcl2 hf hlt hgC (Nat.le_refl _) hDC old hns hacc
 have st1:tn 0 h1:=T.keep 0 _ _ st0 fun b _ o q=>old b o q
 generalize hX:cxC X scope (Nt++fr.map (·.1)) ⟨cl,G.objs.size,fp,s2,H1⟩=X' at I0
 have hcd:∀ x c,cl.lookup x=some c->c<s2.heap.objs.size:=fun x c e=>by
  obtain⟨v,q⟩:=I.cell x c (hcl x c e)
  exact q.lt
 have hfr:∀ b∈fp,b ∉ frs X.stack:=fun b hb z=>by
  rcases List.mem_cons.mp (I.stkSub b z) with e | e
  ·exact (hf b hb).2.1 e
  ·exact (hf b hb).2.2.1 e
 have stat:∀ {H':Hp}{ob:Obj},(∀ b∈fp,H' b=none)->∀ b∈fp,FpOk X' [(s2.heap.objs.size,ob)] H' b:=fun {H' ob} hn b hb=>by
  subst hX
  refine⟨hn b hb,Nat.ne_of_lt (Nat.lt_of_lt_of_le (hlt b hb) hgC),hfr b hb,.inl hb,fun x c e=>(hf b hb).2.2.2.2.1 x c (hcl x c e),fun p hp=>?_⟩
  have hp':p∈([(s2.heap.objs.size,ob)]:List (Addr×Obj)):=hp
  rw[List.mem_singleton]at hp'
  subst hp'
  exact Nat.ne_of_gt (hlt b hb)
 have eP:X'.prog=X.prog:=by subst hX;rfl
 have eW:X'.w=X.w:=by subst hX;rfl
 have eK:X'.K=X.K:=by subst hX;rfl
 have eC:X'.calm=true:=by subst hX;exact hcalm
 have hg':PG X' tg (g ⟨cl,G.objs.size,fp,s2,H1⟩):=by subst hX;exact hg _
 have hc':PIfs X' ifs (tc ⟨cl,G.objs.size,fp,s2,H1⟩):=by subst hX;exact hc _
 have he':PE X' elt (te ⟨cl,G.objs.size,fp,s2,H1⟩):=by subst hX;exact he _
 -- what is known of the list that grows
 have grow:∀ {pl:List (Addr×Obj)} {σ':St} {H':Hp}{s':Shared}{ob ob':Obj}{h':Heap},Inv X' pl σ' H' s'->H' s2.heap.objs.size=none->(sigC Nt.length fr σ).length=σ'.length->σ'.drop Nt.length=(sigC Nt.length fr σ).drop Nt.length ->
   Heap.SameBut s2.heap.objs.size s'.heap h'->h'.get? s2.heap.objs.size=some ob'->(∀ v,ob'.data≠.cell v)->Inv X' [(s2.heap.objs.size,ob')] (sigC Nt.length fr σ) H' { s' with heap:=h' }:=fun {pl σ' H' s' ob ob' h'} I' hn hl hd sb ho' hv=>by
  have I1:Inv X' [] σ' H' s':=I'.pins_of fun p hp=>(nomatch hp)
  have g1:s2.heap.objs.size≠X'.env.locals:=by subst hX;exact hDC
  have g2:X'.s₀.heap.objs.size<=s2.heap.objs.size:=by subst hX;exact Nat.le_refl _
  have g3:∀ x c,X'.env.cells.lookup x=some c->c≠s2.heap.objs.size:=by subst hX;exact fun x c e=>Nat.ne_of_lt (hcd x c e)
  have g4:∀ p∈X'.pn++([]:List (Addr×Obj)),p.1≠s2.heap.objs.size:=by subst hX;exact fun p hp=>(nomatch (show p∈([]:List (Addr×Obj)) from hp))
  have g5:s2.heap.objs.size ∉ X'.fs:=by
   subst hX
   intro z
   rcases List.mem_cons.mp (I.stkSub _ z) with e | e
   ·exact absurd (e ▸ I.lt) (Nat.lt_irrefl _)
   ·exact I.nofs (Nat.le_refl _) e
  have I2:Inv X' [] σ' H' { s' with heap:=h' }:=I1.turned (t':=s'.toks) (it:=s2.heap.objs.size) (fun b o hb q=>(sb.2 b hb).trans q) hn g1 (.inr g2) g3 g4
  have I3:Inv X' [(s2.heap.objs.size,ob')] σ' H' { s' with heap:=h' }:=I2.pins_of fun p hp=>by
   rw[List.mem_singleton]at hp
   subst hp
   exact⟨ho',hn,g1,g5,hv⟩
  refine I3.weak hl fun i v q=>?_
  have hi:¬i<Nt.length:=fun hi=>by
   unfold sigC at q
   rw[List.getElem?_append_left (by simpa using hi),List.getElem?_replicate]at q
   split at q <;> cases q
  have z:∀ l:St,l[i]?=(l.drop Nt.length)[i-Nt.length]?:=fun l=>by
   rw[List.getElem?_drop]
   congr 1
   lia
  rw[z,hd,<- z]
  exact q
 have loop:∀ s3:Shared,s3={ s2 with heap:=h1,toks:=s2.toks+([]:List (Str×Value)).length } ->
   codeAny (model X.prog X.w) X.A (.compLoop (.ListComp elt [⟨tg,iter,ifs,0⟩] scope pos) 0 (.ref it) (.ref s2.heap.objs.size) (compEnvC scope cl G.objs.size X.env)) (RR (.ref s2.heap.objs.size) G.objs.size) s3:=by
  rintro s3 rfl
  refine comp_loop (P:=fun s'=>∃ ys its n H' m',LcEnd X fp H1 s2 fin s2.heap.objs.size G.objs.size s' ys its n H' m') (fun s' ⟨ys,its,n,H',m',q⟩=>hRR _ _ s' ys its n H' m' q)
   (fun n s'=>∃ i ys its c H',Inv X' [(s2.heap.objs.size,{ cls:=.type "list",data:=.seq (its:List Value).toArray c })] (sigC Nt.length fr σ) H' s'/\Vals ys its/\tn i s'.heap/\(∀ b∈fp,H' b=none)/\W i n ys H')
   ?_ m0 ⟨0,[],[],0,H1,I0,.nil,st1,fun b hb=>(hf b hb).1,w0⟩
  rintro n s' ⟨i,ys,its,c,H',I',rv,st,fr0,w⟩
  obtain⟨hz,hstep⟩:=step i n ys H' w
  have nD:∀ {pl:List (Addr×Obj)} {σ':St} {H'':Hp}{s'':Shared}{ob:Obj},Inv X' ((s2.heap.objs.size,ob)::pl) σ' H'' s''->s''.heap.get? s2.heap.objs.size=some ob/\H'' s2.heap.objs.size=none:=fun {pl σ' H'' s'' ob} I''=>by
   have q:=I''.pin (s2.heap.objs.size,ob) (List.mem_append_right _ List.mem_cons_self)
   exact⟨q.1,q.2.1⟩
  rcases hstep with ⟨stop,fn⟩ | ⟨go,hgo⟩
  ·have A1:=T.done X' eP eW eK eC i _ s' _ H' (fun _ _=>False) I' (stat fr0) st stop
   have hA:X'.A=X.A:=by subst hX;rfl
   rw[hA]at A1
   refine thn A1 fun r s1 ⟨hr,I1⟩=>?_
   subst hr
   obtain⟨q1,q2⟩:=nD I1
   have hL:X'.env.locals=G.objs.size:=by subst hX;rfl
   obtain⟨m',hm',_⟩:=I1.loc
   have un:Un (frs X.stack) fp H1 H' s2.heap s1.heap:=by subst hX;exact I1.base
   have os:s1.os=s2.os:=by subst hX;exact I1.os
   exact⟨ys,its,c,H',m',⟨hL ▸ hm',hL ▸ I1.free,q2,hgC,Nat.le_refl _,hDC,un,eP ▸ eW ▸ I1.hok,os,I1.bare,q1,rv,Nat.le_of_lt hz,fn⟩⟩
  ·have hA:X'.A=X.A:=by subst hX;rfl
   have hE:X'.env=compEnvC scope cl G.objs.size X.env:=by subst hX;rfl
   have hxe:X'.xe=fun _ _=>False:=by subst hX;rfl
   have A1:=T.item X' eP eW eK eC i _ s' _ H' (fun _ _=>False) I' (stat fr0) st go
   rw[hA]at A1
   refine thn A1 fun r s1 ⟨u,hr,h4⟩=>?_
   subst hr
   refine thn h4 fun _ s5 ⟨x,H5,I5,r5,y5,st5,fr5⟩=>?_
   have I5':=I5.pinned (stat fr5) (T.obj _ _ st5)
   have q5:=hgt _ x _ H5 _ (hgo ⟨cl,G.objs.size,fp,s2,H1⟩ x H5 y5)
   have A2:=hg' _ s5 _ H5 x u _ I5' r5 q5
   rw[eP,eW,hA,hE,hxe]at A2
   refine thn A2 fun _ s6 ⟨σ6,H6,I6,q6,l6,d6⟩=>?_
   have A3:=hc' _ s6 σ6 H6 _ I6 q6
   rw[eP,eW,hA,hE,hxe]at A3
   refine thn A3 fun ok s7 ⟨H7,I7,q7⟩=>?_
   have back:∀ {σ8:St} {H8:Hp}{s8 s9:Shared},Inv X' ([(s2.heap.objs.size,{ cls:=.type "list",data:=.seq its.toArray c })]++pinsAt fp s5.heap) σ8 H8 s8->(∀ b,b≠s2.heap.objs.size->s9.heap.get? b=s8.heap.get? b)->tn (i+1) s9.heap/\∀ b∈fp,H8 b=none:=fun {σ8 H8 s8 s9} I8 h9=>by
    refine⟨T.keep _ _ _ st5 fun b hb o q=>?_,fun b hb=>?_⟩
    ·rw[h9 b (Nat.ne_of_lt (hlt b hb))]
     exact (I8.pin (b,o) (List.mem_append_right _ (List.mem_append_right _ (mem_pinsAt hb q)))).1
    ·obtain⟨o,q,_⟩:=T.obj _ _ st5 b hb
     exact (I8.pin (b,o) (List.mem_append_right _ (List.mem_append_right _ (mem_pinsAt hb q)))).2.1
   cases ok with
   | false=>
    rw[if_neg Bool.false_ne_true]at q7 ⊢
    obtain⟨m',hm',w'⟩:=q7
    obtain⟨e1,e2⟩:=nD I7
    obtain⟨b1,b2⟩:=back (s9:=s7) I7 fun _ _=>rfl
    refine⟨m',hm',i+1,ys,its,c,H7,?_,rv,b1,b2,w'⟩
    exact grow (ob:={ cls:=.type "list",data:=.seq its.toArray c }) (h':=s7.heap) I7 e2 l6.symm d6 (.refl ..) e1 (fun v z=>by cases z)
   | true=>
    rw[if_pos rfl]at q7 ⊢
    have A4:=he' _ s7 σ6 H7 _ I7 q7
    rw[eP,eW,hA,hE,hxe]at A4
    refine thn A4 fun v s8 ⟨y,H8,I8,r8,m',hm',w'⟩=>?_
    obtain⟨e1,e2⟩:=nD I8
    refine append_at (hsz:=by rw[List.size_toArray,<- rv.length];exact Nat.le_of_lt hz) e1 fun h9 sb o9=>?_
    obtain⟨b1,b2⟩:=back (s9:={ s8 with heap:=h9 }) I8 fun b hb=>sb.2 b hb
    have ea:its.toArray.push v=(its++[v]).toArray:=by simp
    rw[ea]at o9
    refine⟨m',hm',i+1,ys++[y],its++[v],c+1,H8,?_,rv.append (.cons r8 .nil),b1,b2,w'⟩
    exact grow (ob:={ cls:=.type "list",data:=.seq its.toArray c }) I8 e2 l6.symm d6 sb o9 (fun v z=>by cases z)
 exact codeAny_compStart_list (loop _ rfl) (T.self X.A 0 _ _ _ st1 (loop _ rfl))
theorem pe_lc {wi:TI} (L:LcOk X scope Nt fr) (hcalm:X.calm=true) (hi:PI X tg iter wi) (hg:∀ z,PG (cxC X scope (Nt++fr.map (·.1)) z) tg (g z)) (hgt:∀ z,Tgt Nt.length (g z))
  (hc:∀ z,PIfs (cxC X scope (Nt++fr.map (·.1)) z) ifs (tc z)) (he:∀ z,PE (cxC X scope (Nt++fr.map (·.1)) z) elt (te z)) (hs:∀ x,foldedSetIterable iter X.env x=pure x:=by intro _;rfl) :
  PE X (.ListComp elt [⟨tg,iter,ifs,0⟩] scope pos) (tLC wi Nt.length fr g tc te):=by
 intro pins s σ H Q I h
 obtain⟨cl,e1,e2,e3⟩:=clos_of (scope:=scope) (env:=X.env) fun y hy hf=>I.ok.has _ (.inl (L.free y hy hf))
 rw[eval_ListComp]
 refine wpAny_comprehension_free (use:=none) rfl hs e1 L.kind L.names (thn (hi pins s σ H _ I h) fun v s1 h1=>thn h1 fun itv s2 h2=>?_)
 obtain⟨it,fp,tn,J,H2,e,I2,T,st2,f2,W,⟨m0,w0⟩,step⟩:=h2
 subst e
 refine lc_block (RR:=fun acc C r s'=>compPost (model X.prog X.w) X.A X.xe none (EP X pins σ Q) acc C r s') L hcalm I2 e2 e3 T st2 f2 hg hgt hc he w0 step fun D C s' ys its n H' m' q=>?_
 exact⟨m',q.ns,fun h' sb=>⟨.ref D,_,lc_close I2 f2 q sb,rfl,q.fin D q.fd⟩⟩
def tLCset (wi:TI) (k:Nat) (fr:List (Str×Nat)) (g:ZC->TG) (tc:ZC->TT) (te:ZC->TE) (j:Nat):TS:=fun Ds σ H=>wi σ H fun J H1=>
 ∃ W:Nat->Nat->List V->Hp->Prop,(∃ m,W 0 m [] H1)/\lcStep J k fr g tc te σ W fun ys H2=>∀ p,H2 p=none->Ds.nx (σ.set j (some (.ref p))) (upd H2 p (.lst ys))
theorem ps_lc {wi:TI}{y:Str}{j:Nat}{py spos:Pos} (L:LcOk X scope Nt fr) (hcalm:X.calm=true) (hN:X.N.Nodup) (hj:X.N[j]?=some y) (hy:Loc X.env.scope y) (hi:PI X tg iter wi) (hg:∀ z,PG (cxC X scope (Nt++fr.map (·.1)) z) tg (g z)) (hgt:∀ z,Tgt Nt.length (g z))
  (hc:∀ z,PIfs (cxC X scope (Nt++fr.map (·.1)) z) ifs (tc z)) (he:∀ z,PE (cxC X scope (Nt++fr.map (·.1)) z) elt (te z)) (hs:∀ x,foldedSetIterable iter X.env x=pure x:=by intro _;rfl)
  (hsw:swapsWith (.ListComp elt [⟨tg,iter,ifs,0⟩] scope pos) (some (.Name y py)) spos.line X.env=pure true:=by rfl)
  (hff:X.fn y=true\/X.env.scope.names.lookup y=some .local:=by first | exact .inl rfl | exact .inr rfl | assumption) :
  PS X (.Assign [.Name y py] (.ListComp elt [⟨tg,iter,ifs,0⟩] scope pos) spos) (tLCset wi Nt.length fr g tc te j):=by
 intro pins s σ H Ds I h
 obtain⟨cl,e1,e2,e3⟩:=clos_of (scope:=scope) (env:=X.env) fun y hy hf=>I.ok.has _ (.inl (L.free y hy hf))
 rw[exec_Assign_Name_used _ _ _ _ hsw]
 refine wpAny_bind (wpAny_standAt (wpAny_bind ?_))
 show wpAny _ X.A (do let _ <- comprehension (.ListComp elt [⟨tg,iter,ifs,0⟩] scope pos) scope X.env _ (newList []) false (eval iter X.env) (some (assign (.Name y py) X.env))) _ _ s
 refine wpAny_bind (thn (wpAny_comprehension_free (use:=some (assign (.Name y py) X.env)) (Q:=fun _ s'=>SP X pins Ds .next s') rfl hs e1 L.kind L.names
  (thn (hi pins s σ H _ I h) fun v s1 h1=>thn h1 fun itv s2 h2=>?_)) fun _ s' hq=>wpAny_pure (wpAny_pure hq))
 obtain⟨it,fp,tn,J,H2,e,I2,T,st2,f2,W,⟨m0,w0⟩,step⟩:=h2
 subst e
 refine lc_block (RR:=fun acc C r s'=>compPost (model X.prog X.w) X.A X.xe (some (assign (.Name y py) X.env)) (fun _ s'=>SP X pins Ds .next s') acc C r s') L hcalm I2 e2 e3 T st2 f2 hg hgt hc he w0 step fun D C s' ys its n H' m' q=>?_
 have I3:Inv X pins σ (upd H' D (.lst ys)) s':=lc_close (h':=s'.heap) I2 f2 q (.refl ..)
 obtain⟨oC,es,ep,hoC,hdC,hkC,hmC⟩:=id q.ns
 have hCH:upd H' D (.lst ys) C=none:=by rw[upd_ne (Ne.symm q.cd)];exact q.fc
 have gL:C≠X.env.locals:=Nat.ne_of_gt (Nat.lt_of_lt_of_le I2.lt q.gc)
 have gF:C ∉ X.fs:=I2.nofs q.gc
 have gE:X.s₀.heap.objs.size<=C:=Nat.le_trans I2.sz q.gc
 have gC:∀ x c,X.env.cells.lookup x=some c->c≠C:=fun x c e=>by
  obtain⟨v,z⟩:=I2.cell x c e
  exact Nat.ne_of_lt (Nat.lt_of_lt_of_le z.lt q.gc)
 have gP:∀ p∈X.pn++pins,p.1≠C:=fun p hp=>Nat.ne_of_lt (Nat.lt_of_lt_of_le (Heap.lt_size (I2.pin p hp).1) q.gc)
 have I4:Inv X (pins++[(C,oC)]) σ (upd H' D (.lst ys)) s':=I3.pins_of fun p hp=>by
  rcases List.mem_append.mp hp with z | z
  ·exact I3.pin p (List.mem_append_right _ z)
  ·rw[List.mem_singleton]at z
   subst z
   exact⟨hoC,hCH,gL,gF,fun v z=>by rw[hdC]at z;cases z⟩
 show wpAny _ _ (assign (.Name y py) X.env (.ref D)) _ _ s'
 refine wpAny_assign_Name (store_ok I4 hN hj hy (show RelV (.ref D) (.ref D) from rfl) (fun s'' I5=>?_) hff)
 have z:=I5.pin (C,oC) (List.mem_append_right _ (List.mem_append_right _ (List.mem_singleton.mpr rfl)))
 refine⟨m',⟨oC,es,ep,z.1,hdC,hkC,hmC⟩,fun h'' sb=>⟨σ.set j (some (.ref D)),_,?_,q.fin D q.fd⟩⟩
 have I6:Inv X pins (σ.set j (some (.ref D))) (upd H' D (.lst ys)) s'':=I5.unpinned
 exact I6.turned (t':=s''.toks) (it:=C) (fun b o hb e=>(sb.2 b hb).trans e) hCH gL (.inr gE) gC gP
end
end L2
end
section
namespace L2
open PySem PySem.Spec PyProof.Rows
section
variable {prog:Program}{w:World}{A:Around}{E:Value->Shared->Prop}{s:Shared}
theorem nextOf_tup {J t:Addr}{i:Nat}{its:Array Value}{x:Value}{Q:Value->Shared->Prop} (hJ:s.heap.IsTupleIter J t i) (ht:s.heap.IsTuple t its) (hx:its[i]?=some x)
  (q:∀ h',h'.IsTupleIter J t (i+1)->Heap.SameBut J s.heap h'->Q x { s with heap:=h' }):wpAny (model prog w) A (Builtin.SmallTypes.nextOf (.ref J)) Q E s:=by
 obtain⟨ob,h1,h2,h3⟩:=id hJ
 obtain⟨ot,g1,_,nt,g2⟩:=ht
 unfold Builtin.SmallTypes.nextOf
 refine wpAny_bind (wpAny_callSpecial?_slot (name:=Str.ofString "__next__") hJ.typeIs F.slot_tuple_iterator_next (wpAny_call_entry F.slot_tuple_iterator_next hJ.typeIs F.entry_tuple_iterator_next ?_ (F.args_tuple_iterator_next_1 _)))
 show wpAny _ _ (field (.ref J) 0 >>= _) _ _ s
 refine wpAny_bind (wpAny_field h1 h3 (x:=.ref t) rfl ?_)
 show wpAny _ _ (if (Value.ref t == Value.none)=true then _ else _) _ _ s
 rw[if_neg (show ¬((Value.ref t == Value.none)=true) from fun z=>Bool.false_ne_true z)]
 show wpAny _ _ (field (.ref J) 1 >>= _) _ _ s
 refine wpAny_bind (wpAny_field h1 h3 (x:=.int i 0) rfl ?_)
 show wpAny _ _ (seqItems? (.ref t) >>= _) _ _ s
 refine wpAny_bind (wpAny_seqItems g1 g2 ?_)
 simp only[Int.toNat_natCast,hx]
 refine wpAny_bind (wpAny_setField h1 h3 (by simp) (wpAny_pure ⟨x,rfl,wpAny_pure (q _ ?a (Heap.SameBut.update ..))⟩))
 exact⟨_,Heap.get?_update_self _ h1 (Obj.isFreed_of_fields (Obj.data_mapFields h3 _)),Eq.trans (Obj.cls_mapFields ..) h2,by rw[Obj.data_mapFields h3] <;> simp [rawInt]⟩
theorem nextOf_tup_end {J t:Addr}{i:Nat}{its:Array Value}{Q:Value->Shared->Prop} (hh:A.handled=none) (hJ:s.heap.IsTupleIter J t i) (ht:s.heap.IsTuple t its) (hx:its[i]?=none)
  (q:∀ h' e,Heap.ExtBut J s.heap h'->(∃ o,h'.get? e=some o/\o.cls=.type "StopIteration")->E (.ref e) { s with heap:=h' }):wpAny (model prog w) A (Builtin.SmallTypes.nextOf (.ref J)) Q E s:=by
 obtain⟨ob,h1,h2,h3⟩:=id hJ
 obtain⟨ot,g1,_,nt,g2⟩:=ht
 unfold Builtin.SmallTypes.nextOf
 refine wpAny_bind (wpAny_callSpecial?_slot (name:=Str.ofString "__next__") hJ.typeIs F.slot_tuple_iterator_next (wpAny_call_entry F.slot_tuple_iterator_next hJ.typeIs F.entry_tuple_iterator_next ?_ (F.args_tuple_iterator_next_1 _)))
 show wpAny _ _ (field (.ref J) 0 >>= _) _ _ s
 refine wpAny_bind (wpAny_field h1 h3 (x:=.ref t) rfl ?_)
 show wpAny _ _ (if (Value.ref t == Value.none)=true then _ else _) _ _ s
 rw[if_neg (show ¬((Value.ref t == Value.none)=true) from fun z=>Bool.false_ne_true z)]
 show wpAny _ _ (field (.ref J) 1 >>= _) _ _ s
 refine wpAny_bind (wpAny_field h1 h3 (x:=.int i 0) rfl ?_)
 show wpAny _ _ (seqItems? (.ref t) >>= _) _ _ s
 refine wpAny_bind (wpAny_seqItems g1 g2 ?_)
 simp only[Int.toNat_natCast,hx]
 refine wpAny_bind (wpAny_rule (wpAny_bind (wpAny_setField h1 h3 (by simp) ?_)))
 show wpAny _ _ (newExc (.type "StopIteration") [] >>= _) _ _ _
 refine wpAny_bind ?_
 simp only[newExc,newTuple]
 refine wpAny_bind (wpAny_newObj_type ?_ (by size_fits))
 refine wpAny_bind (m:=firstArgMember _ _) (wpAny_of_eq (a:=Value.none) (by first | rfl | (simp only[firstArgMember] <;> rfl)) ?_)
 refine wpAny_newObj_type ?_ (by size_fits)
 simp only[raiseNew]
 refine wpAny_bind (wpAny_handled ?_)
 first | rw[show A.in1.handled=none from hh] | rw[hh]
 refine wpAny_bind (wpAny_pure (wpAny_throw (q _ _ ?_ ⟨_,Heap.get?_push_size _ rfl,rfl⟩)))
 exact ((Heap.SameBut.update ..).extBut.push _).push _
structure ZAt (h:Heap) (z TI TO i1 i2 t1 t2:Addr) (k:Nat) (f:Value):Prop where
 z:IsZip h z TI TO f
 ti:IsPair h TI (.ref i1) (.ref i2)
 to:∃ a b,IsPair h TO a b
 j1:h.IsTupleIter i1 t1 k
 j2:h.IsTupleIter i2 t2 k
structure ZNe (z TI TO i1 i2 t1 t2:Addr):Prop where
 a1:TI≠z
 a2:TO≠z
 a3:i1≠z
 a4:i2≠z
 a5:TI≠TO
 a6:TI≠i1
 a7:TI≠i2
 a8:TO≠i1
 a9:TO≠i2
 b1:i1≠i2
 c1:t1≠z/\t1≠TO/\t1≠i1/\t1≠i2
 c2:t2≠z/\t2≠TO/\t2≠i1/\t2≠i2
theorem zip_item {z TI TO i1 i2 t1 t2:Addr}{k:Nat}{xs ys:Array Value}{x y:Value}{Q:Option Value->Shared->Prop} (D:ZNe z TI TO i1 i2 t1 t2) (Z:ZAt s.heap z TI TO i1 i2 t1 t2 k .none)
  (ht1:s.heap.IsTuple t1 xs) (ht2:s.heap.IsTuple t2 ys) (hx:xs[k]?=some x) (hy:ys[k]?=some y)
  (hQ:∀ h',ZAt h' z TI TO i1 i2 t1 t2 (k+1) (rawInt s.heap.objs.size)->IsPair h' s.heap.objs.size x y->h'.objs.size=s.heap.objs.size+1 ->
   (∀ c o,c≠z->c≠TO->c≠i1->c≠i2->s.heap.get? c=some o->h'.get? c=some o)->Q (some (.ref s.heap.objs.size)) { s with heap:=h' }) :
  wpAny (model prog w) A (pyNext (.ref z)) Q E s:=by
 have hT:s.TypeIs (.ref z) "zip":=⟨_,Z.z,rfl⟩
 obtain⟨u0,v0,hTO⟩:=Z.to
 unfold pyNext
 refine wpAny_bind (wpAny_attempt (wpAny_callSpecial?_slot (name:=Str.ofString "__next__") hT F.slot_zip_next (wpAny_call_entry F.slot_zip_next hT F.entry_zip_next ?_ (F.args_zip_next_1 _))))
 show wpAny _ _ (field (.ref z) 2 >>= _) _ _ _
 refine wpAny_bind (wpAny_field Z.z rfl (x:=.bool false) rfl ?_)
 show wpAny _ _ (field (.ref z) 3 >>= _) _ _ _
 refine wpAny_bind (wpAny_field Z.z rfl (x:=.ref TI) rfl ?_)
 refine wpAny_bind (wpAny_seqItems Z.ti rfl ?_)
 show wpAny _ _ (Builtin.SmallTypes.ownedTupleIsFree (.ref z) >>= _) _ _ _
 refine wpAny_bind ?_
 unfold Builtin.SmallTypes.ownedTupleIsFree
 refine wpAny_bind (wpAny_field Z.z rfl (x:=.none) rfl (wpAny_pure ?_))
 simp only[if_true]
 refine wpAny_bind (wpAny_rule (wpAny_bind (wpAny_field Z.z rfl (x:=.ref TO) rfl ?_)))
 refine wpAny_bind (wpAny_setField_rec Z.z (by simp) fun g1 z1 s1=>?_)
 have z1:IsZip g1 z TI TO .ellipsis:=z1
 refine wpAny_bind ?_
 simp only[List.zipIdx_cons,List.zipIdx_nil,List.forIn_cons,List.forIn_nil]
 refine wpAny_bind (wpAny_bind (wpAny_onRaise ?_))
 show wpAny _ _ (Builtin.SmallTypes.nextOf (.ref i1) >>= _) _ _ _
 refine wpAny_bind (nextOf_tup (Z.j1.extBut s1.extBut D.a3) (ht1.extBut s1.extBut D.c1.1) hx fun g2 j12 s2=>wpAny_pure ?_)
 have o2:IsPair g2 TO u0 v0:=s2.extBut _ _ D.a8 (s1.extBut _ _ D.a2 hTO)
 refine wpAny_bind (wpAny_seqItems o2 rfl ?_)
 refine wpAny_bind (wpAny_updateSeq_pair o2 fun g3 o3 s3=>?_)
 have o3:IsPair g3 TO x v0:=o3
 refine wpAny_bind (wpAny_letGo (wpAny_pure ?_))
 refine wpAny_bind (wpAny_bind (wpAny_onRaise ?_))
 show wpAny _ _ (Builtin.SmallTypes.nextOf (.ref i2) >>= _) _ _ _
 refine wpAny_bind (nextOf_tup (((Z.j2.extBut s1.extBut D.a4).extBut s2.extBut D.b1.symm).extBut s3.extBut D.a9.symm) (((ht2.extBut s1.extBut D.c2.1).extBut s2.extBut D.c2.2.2.1).extBut s3.extBut D.c2.2.1) hy fun g4 j24 s4=>wpAny_pure ?_)
 have o4:IsPair g4 TO x v0:=s4.extBut _ _ D.a9 o3
 refine wpAny_bind (wpAny_seqItems o4 rfl ?_)
 refine wpAny_bind (wpAny_updateSeq_pair o4 fun g5 o5 s5=>?_)
 have o5:IsPair g5 TO x y:=o5
 refine wpAny_bind (wpAny_letGo (wpAny_pure (wpAny_pure ?_)))
 refine wpAny_bind (wpAny_seqItems o5 rfl ?_)
 refine wpAny_bind (wpAny_newTuple ?_)
 have sz:g5.objs.size=s.heap.objs.size:=by rw[s5.1,s4.1,s3.1,s2.1,s1.1]
 have z5:IsZip g5 z TI TO .ellipsis:=s5.extBut _ _ D.a2.symm (s4.extBut _ _ D.a4.symm (s3.extBut _ _ D.a2.symm (s2.extBut _ _ D.a3.symm z1)))
 have k5:∀ c o,c≠z->c≠TO->c≠i1->c≠i2->s.heap.get? c=some o->g5.get? c=some o:=fun c o e1 e2 e3 e4 q=>s5.extBut _ _ e2 (s4.extBut _ _ e4 (s3.extBut _ _ e2 (s2.extBut _ _ e3 (s1.extBut _ _ e1 q))))
 have j15:g5.IsTupleIter i1 t1 (k+1):=((j12.extBut s3.extBut D.a8.symm).extBut s4.extBut D.b1).extBut s5.extBut D.a8.symm
 have j25:g5.IsTupleIter i2 t2 (k+1):=j24.extBut s5.extBut D.a9.symm
 have zlt:z<g5.objs.size:=Heap.lt_size z5
 show wpAny _ _ (Builtin.SmallTypes.ownedTupleHandOut (.ref z) (.ref g5.objs.size) >>= _) _ _ _
 refine wpAny_bind ?_
 unfold Builtin.SmallTypes.ownedTupleHandOut
 have z6:IsZip (g5.push { cls:=.type "tuple",data:=.seq #[x,y] }) z TI TO .ellipsis:=Heap.get?_push_of_some _ z5
 refine wpAny_bind (wpAny_setField_rec z6 (by simp) fun g7 z7 s7=>?_)
 have z7:IsZip g7 z TI TO (rawInt g5.objs.size):=z7
 refine wpAny_setField_rec z7 (by simp) fun g8 z8 s8=>?_
 have z8:IsZip g8 z TI TO (rawInt g5.objs.size):=z8
 have up:∀ c o,c≠z->g5.get? c=some o->g8.get? c=some o:=fun c o e q=>s8.extBut _ _ e (s7.extBut _ _ e (Heap.get?_push_of_some _ q))
 have T8:IsPair g8 g5.objs.size x y:=s8.extBut _ _ (Nat.ne_of_gt zlt) (s7.extBut _ _ (Nat.ne_of_gt zlt) (Heap.get?_push_size _ rfl))
 have n8:g8.objs.size=g5.objs.size+1:=by rw[s8.1,s7.1,Heap.size_push]
 rw[sz]at z8 T8 n8
 refine wpAny_pure ⟨_,rfl,wpAny_pure ?_⟩
 show Q (some (.ref g5.objs.size)) _
 rw[sz]
 refine hQ g8 ⟨z8,up _ _ D.a1 (k5 _ _ D.a1 D.a5 D.a6 D.a7 Z.ti),⟨_,_,up _ _ D.a2 o5⟩,?_,?_⟩ T8 n8 fun c o e1 e2 e3 e4 q=>up c o e1 (k5 c o e1 e2 e3 e4 q)
 ·obtain⟨ob,q1,q2⟩:=j15;exact⟨ob,up _ _ D.a3 q1,q2⟩
 ·obtain⟨ob,q1,q2⟩:=j25;exact⟨ob,up _ _ D.a4 q1,q2⟩
theorem zip_end {z TI TO i1 i2 t1 t2:Addr}{k:Nat}{xs ys:Array Value}{Q:Option Value->Shared->Prop} (hh:A.handled=none) (D:ZNe z TI TO i1 i2 t1 t2) (Z:ZAt s.heap z TI TO i1 i2 t1 t2 k .none)
  (ht1:s.heap.IsTuple t1 xs) (ht2:s.heap.IsTuple t2 ys) (hend:xs[k]?=none\/ys[k]?=none)
  (hQ:∀ h',(∀ c o,c≠z->c≠TO->c≠i1->c≠i2->s.heap.get? c=some o->h'.get? c=some o)->Q none { s with heap:=h' }) :
  wpAny (model prog w) A (pyNext (.ref z)) Q E s:=by
 have hT:s.TypeIs (.ref z) "zip":=⟨_,Z.z,rfl⟩
 obtain⟨u0,v0,hTO⟩:=Z.to
 unfold pyNext
 refine wpAny_bind (wpAny_attempt (wpAny_callSpecial?_slot (name:=Str.ofString "__next__") hT F.slot_zip_next (wpAny_call_entry F.slot_zip_next hT F.entry_zip_next ?_ (F.args_zip_next_1 _))))
 show wpAny _ _ (field (.ref z) 2 >>= _) _ _ _
 refine wpAny_bind (wpAny_field Z.z rfl (x:=.bool false) rfl ?_)
 show wpAny _ _ (field (.ref z) 3 >>= _) _ _ _
 refine wpAny_bind (wpAny_field Z.z rfl (x:=.ref TI) rfl ?_)
 refine wpAny_bind (wpAny_seqItems Z.ti rfl ?_)
 show wpAny _ _ (Builtin.SmallTypes.ownedTupleIsFree (.ref z) >>= _) _ _ _
 refine wpAny_bind ?_
 unfold Builtin.SmallTypes.ownedTupleIsFree
 refine wpAny_bind (wpAny_field Z.z rfl (x:=.none) rfl (wpAny_pure ?_))
 simp only[if_true]
 refine wpAny_bind (wpAny_rule (wpAny_bind (wpAny_field Z.z rfl (x:=.ref TO) rfl ?_)))
 refine wpAny_bind (wpAny_setField_rec Z.z (by simp) fun g1 z1 s1=>?_)
 have z1:IsZip g1 z TI TO .ellipsis:=z1
 refine wpAny_bind ?_
 simp only[List.zipIdx_cons,List.zipIdx_nil,List.forIn_cons,List.forIn_nil]
 refine wpAny_bind (wpAny_bind (wpAny_onRaise ?_))
 show wpAny _ _ (Builtin.SmallTypes.nextOf (.ref i1) >>= _) _ _ _
 cases hx:xs[k]? with
 | none=>
  refine wpAny_bind (nextOf_tup_end hh (Z.j1.extBut s1.extBut D.a3) (ht1.extBut s1.extBut D.c1.1) hx fun g2 e s2 he=>?_)
  obtain⟨oe,q1,q2⟩:=he
  have z2:IsZip g2 z TI TO .ellipsis:=s2 _ _ D.a3.symm z1
  have ne:e≠z:=fun x=>by subst x;rw[z2]at q1;cases q1;simp at q2
  exact wpAny_setField_rec z2 (by simp) fun g3 _ s3=>wpAny_bind (wpAny_isInstance (T:="StopIteration") (b:=true) ⟨oe,s3.extBut _ _ ne q1,q2⟩ isSubtype_stop (wpAny_pure (hQ _ fun c o c1 _ c3 _ x=>s3.extBut _ _ c1 (s2 _ _ c3 (s1.extBut _ _ c1 x)))))
 | some x=>
  have hy:ys[k]?=none:=by
   rcases hend with q | q
   ·rw[hx]at q;cases q
   ·exact q
  refine wpAny_bind (nextOf_tup (Z.j1.extBut s1.extBut D.a3) (ht1.extBut s1.extBut D.c1.1) hx fun g2 j12 s2=>wpAny_pure ?_)
  have o2:IsPair g2 TO u0 v0:=s2.extBut _ _ D.a8 (s1.extBut _ _ D.a2 hTO)
  refine wpAny_bind (wpAny_seqItems o2 rfl ?_)
  refine wpAny_bind (wpAny_updateSeq_pair o2 fun g3 o3 s3=>?_)
  refine wpAny_bind (wpAny_letGo (wpAny_pure ?_))
  refine wpAny_bind (wpAny_bind (wpAny_onRaise ?_))
  show wpAny _ _ (Builtin.SmallTypes.nextOf (.ref i2) >>= _) _ _ _
  refine wpAny_bind (nextOf_tup_end hh (((Z.j2.extBut s1.extBut D.a4).extBut s2.extBut D.b1.symm).extBut s3.extBut D.a9.symm) (((ht2.extBut s1.extBut D.c2.1).extBut s2.extBut D.c2.2.2.1).extBut s3.extBut D.c2.2.1) hy fun g4 e s4 he=>?_)
  obtain⟨oe,q1,q2⟩:=he
  have z4:IsZip g4 z TI TO .ellipsis:=s4 _ _ D.a4.symm (s3.extBut _ _ D.a2.symm (s2.extBut _ _ D.a3.symm z1))
  have ne:e≠z:=fun x=>by subst x;rw[z4]at q1;cases q1;simp at q2
  exact wpAny_setField_rec z4 (by simp) fun g5 _ s5=>wpAny_bind (wpAny_isInstance (T:="StopIteration") (b:=true) ⟨oe,s5.extBut _ _ ne q1,q2⟩ isSubtype_stop (wpAny_pure (hQ _ fun c o c1 c2 c3 c4 x=>s5.extBut _ _ c1 (s4 _ _ c4 (s3.extBut _ _ c2 (s2.extBut _ _ c3 (s1.extBut _ _ c1 x)))))))
abbrev zh1 (h:Heap) (a:Addr):Heap:=h.push { cls:=.type "tuple_iterator",data:=.fields #[.ref a,.int 0 0] }
abbrev zh2 (h:Heap) (a b:Addr):Heap:=(zh1 h a).push { cls:=.type "tuple_iterator",data:=.fields #[.ref b,.int 0 0] }
abbrev zh3 (h:Heap) (a b:Addr):Heap:=(zh2 h a b).push { cls:=.type "tuple",data:=.seq #[.ref h.objs.size,.ref (zh1 h a).objs.size] }
abbrev zh4 (h:Heap) (a b:Addr):Heap:=(zh3 h a b).push { cls:=.type "tuple",data:=.seq #[.none,.none] }
abbrev zh5 (h:Heap) (a b:Addr):Heap:=(zh4 h a b).push { cls:=.type "zip",data:=.fields #[.none,.bool false,.bool false,.ref (zh2 h a b).objs.size,.ref (zh3 h a b).objs.size] }
end
theorem meets_zip_tups (a b:Addr) (xs ys:Array Value) :
  Meets (Builtin.«zip.__new__» ⟨[.type "zip",.ref a,.ref b],[]⟩) (fun _ R s=>s.heap.IsTuple a xs/\s.heap.IsTuple b ys/\R (.ok (.ret (.ref (zh4 s.heap a b).objs.size))) { s with heap:=zh5 s.heap a b }):=
 .of_wp fun prog w A R s h=>by
  obtain⟨hp,g,d,tk,os⟩:=s
  obtain⟨q1,q2,h⟩:=h
  have sub:=sub_zip
  have e1:Heap.IsTuple (Shared.heap ⟨hp,g,d,tk,os⟩) a xs:=q1
  have e2:Heap.IsTuple (Shared.heap ⟨hp.push { cls:=.type "tuple_iterator",data:=.fields #[.ref a,.int 0 0] },g,d,tk,os⟩) b ys:=Heap.IsTuple.push q2 _
  wp_walk using wpAny_pyIter_tuple e1,wpAny_pyIter_tuple e2
  exact⟨_,rfl,h⟩
section
variable {prog:Program}{w:World}{A:Around}{E:Value->Shared->Prop}{s:Shared}
theorem call_zip_tups {a b:Addr}{xs ys:Array Value}{Q:Value->Shared->Prop} (h1:s.heap.IsTuple a xs) (h2:s.heap.IsTuple b ys)
  (h:∀ h',ZAt h' (s.heap.objs.size+4) (s.heap.objs.size+2) (s.heap.objs.size+3) s.heap.objs.size (s.heap.objs.size+1) a b 0 .none->h'.objs.size=s.heap.objs.size+5 ->
   (∀ c o,s.heap.get? c=some o->h'.get? c=some o)->Q (.ref (s.heap.objs.size+4)) { s with heap:=h' }):wpAny (model prog w) A (call (.type "zip") [.ref a,.ref b]) Q E s:=by
 refine callType_new F.called_zip (by decide) (F.typeCall_zip_2 _ _) (F.newCall_zip_2 _ _) (fun obj=>F.args_object_init_3 obj _ _) F.entry_zip_new (meets_zip_tups a b xs ys) ⟨h1,h2,?_⟩
 have n1:(zh1 s.heap a).objs.size=s.heap.objs.size+1:=Heap.size_push ..
 have n2:(zh2 s.heap a b).objs.size=s.heap.objs.size+2:=by rw[Heap.size_push,n1]
 have n3:(zh3 s.heap a b).objs.size=s.heap.objs.size+3:=by rw[Heap.size_push,n2]
 have n4:(zh4 s.heap a b).objs.size=s.heap.objs.size+4:=by rw[Heap.size_push,n3]
 have n5:(zh5 s.heap a b).objs.size=s.heap.objs.size+5:=by rw[Heap.size_push,n4]
 have p5:(zh5 s.heap a b).get? (zh4 s.heap a b).objs.size=some _:=Heap.get?_push_size _ rfl
 have p4:(zh5 s.heap a b).get? (zh3 s.heap a b).objs.size=some _:=Heap.get?_push_of_some _ (Heap.get?_push_size _ rfl)
 have p3:(zh5 s.heap a b).get? (zh2 s.heap a b).objs.size=some _:=Heap.get?_push_of_some _ (Heap.get?_push_of_some _ (Heap.get?_push_size _ rfl))
 have p2:(zh5 s.heap a b).get? (zh1 s.heap a).objs.size=some _:=Heap.get?_push_of_some _ (Heap.get?_push_of_some _ (Heap.get?_push_of_some _ (Heap.get?_push_size _ rfl)))
 have p1:(zh5 s.heap a b).get? s.heap.objs.size=some _:=Heap.get?_push_of_some _ (Heap.get?_push_of_some _ (Heap.get?_push_of_some _ (Heap.get?_push_of_some _ (Heap.get?_push_size _ rfl))))
 show _/\_
 rw[n2,n3,n4]at p5
 rw[n1,n2]at p3
 rw[n3]at p4
 rw[n1]at p2
 rw[n4]
 exact⟨⟨_,p5,rfl⟩,h _ ⟨p5,p3,⟨_,_,p4⟩,⟨_,p1,rfl,rfl⟩,⟨_,p2,rfl,rfl⟩⟩ n5 fun c o x=>
  Heap.get?_push_of_some _ (Heap.get?_push_of_some _ (Heap.get?_push_of_some _ (Heap.get?_push_of_some _ (Heap.get?_push_of_some _ x))))⟩
end
def Itz (K:PySem.W.Frag) (a b:Addr):It:=
  ⟨fun i H=>∃ xs ys x y,SqT K H a xs/\SqT K H b ys/\xs[i]?=some x/\ys[i]?=some y,
   fun i H v H'=>∃ p,v=.ref p/\H p=none/\∃ x y,(∀ xs,SqT K H a xs->xs[i]?=some x)/\(∀ ys,SqT K H b ys->ys[i]?=some y)/\H'=upd H p (.tup [x,y]),
   fun i H=>∃ xs ys,SqT K H a xs/\SqT K H b ys/\(xs.length<=i\/ys.length<=i)⟩
theorem turn_zip {P:Program}{w:World}{K:PySem.W.Frag}{elts:List Expr}{kk:Nat}{tp:Pos}{z TI TO i1 i2 a b:Addr} (D:ZNe z TI TO i1 i2 a b) :
  Turn P w K (.Tuple elts kk tp) (Itz K a b) [z,TI,TO,i1,i2] z (fun i h=>ZAt h z TI TO i1 i2 a b i .none) where
 mem:=by simp
 obj:=fun i h st c hc=>by
  obtain⟨q1,q2,⟨u,v,q3⟩,⟨o4,q4,_,d4⟩,⟨o5,q5,_,d5⟩⟩:=st
  simp only[List.mem_cons,List.not_mem_nil,or_false]at hc
  rcases hc with rfl | rfl | rfl | rfl | rfl
  ·exact⟨_,q1,fun v z=>by cases z⟩
  ·exact⟨_,q2,fun v z=>by cases z⟩
  ·exact⟨_,q3,fun v z=>by cases z⟩
  ·exact⟨_,q4,fun v z=>by rw[d4]at z;cases z⟩
  ·exact⟨_,q5,fun v z=>by rw[d5]at z;cases z⟩
 keep:=fun i h h' st k=>by
  obtain⟨q1,q2,⟨u,v,q3⟩,⟨o4,q4,r4⟩,⟨o5,q5,r5⟩⟩:=st
  exact⟨k z (by simp) _ q1,k TI (by simp) _ q2,⟨u,v,k TO (by simp) _ q3⟩,⟨o4,k i1 (by simp) _ q4,r4⟩,⟨o5,k i2 (by simp) _ q5,r5⟩⟩
 item:=by
  intro X hP hw hK hc i pins s σ H E I hf st hg
  subst hP hw hK
  obtain⟨xs,ys,x,y,hxs,hys,hx,hy⟩:=hg
  obtain⟨its,r1,p1,_⟩:=I.tuple hxs
  obtain⟨its2,r2,p2,_⟩:=I.tuple hys
  obtain⟨u,hu,ru⟩:=r1.get hx
  obtain⟨v,hv,rv⟩:=r2.get hy
  refine zip_item D st p1 p2 (x:=u) (y:=v) (by simpa using hu) (by simpa using hv) fun h' Z' T' n' keep=>⟨_,rfl,?_⟩
  refine wpAny_letOwnedTupleGo_zip Z'.z fun h'' z'' sb=>?_
  have hzlt:z<s.heap.objs.size:=Heap.lt_size st.z
  have hT:h''.get? s.heap.objs.size=some { cls:=.type "tuple",data:=.seq #[u,v] }:=sb.extBut _ _ (Nat.ne_of_gt hzlt) T'
  have k2:∀ c o,c ∉ [z,TO,i1,i2]->s.heap.get? c=some o->h''.get? c=some o:=fun c o hc q=>by
   simp only[List.mem_cons,List.not_mem_nil,or_false,not_or]at hc
   exact sb.extBut _ _ hc.1 (keep c o hc.1 hc.2.1 hc.2.2.1 hc.2.2.2 q)
  have fresh:H s.heap.objs.size=none:=I.hok.fresh (Nat.le_refl _)
  have sub:∀ c∈[z,TO,i1,i2],c∈[z,TI,TO,i1,i2]:=fun c hc=>by
   simp only[List.mem_cons,List.not_mem_nil,or_false]at hc ⊢
   rcases hc with h | h | h | h <;> simp [h]
  have none':∀ c∈[z,TO,i1,i2],H c=none:=fun c hc=>(hf c (sub c hc)).1
  have tne:∀ c o,H c=some o->c≠s.heap.objs.size:=fun c o q=>ne_of_none q fresh
  have new:ObjOk X.prog X.w (upd H s.heap.objs.size (.tup [x,y])) h'' s.heap.objs.size (.tup [x,y]):=
   ⟨tupD_at (by show 2<=sizeLine;decide) hT rfl,[u,v],.cons ru (.cons rv .nil),⟨_,hT,rfl,0,rfl⟩⟩
  have ok:HOk X.prog X.w (upd H s.heap.objs.size (.tup [x,y])) h'':=fun c o q=>by
   by_cases hc:c=s.heap.objs.size
   ·subst hc
    rw[upd_same]at q
    cases q
    exact new
   ·rw[upd_ne hc]at q
    refine (I.hok c o q).stay (fun d v hd e=>k2 d v (fun m=>?_) e) (fun d e=>?_) fun d zs e=>?_
    ·rcases hd with rfl | hd
     ·rw[none' _ m]at q;cases q
     ·rw[none' _ m]at hd;cases hd
    ·rw[upd_ne (tne _ _ e)];exact e
    ·rw[upd_ne (tne _ _ e)];exact e
  obtain⟨m,hm,_⟩:=id I.loc
  have hL:∀ c∈[z,TO,i1,i2],c≠X.env.locals:=fun c hc=>(hf c (sub c hc)).2.1
  have I':Inv X pins σ (upd H s.heap.objs.size (.tup [x,y])) { s with heap:=h'' }:=by
   refine I.step (g':=s.gens) (t':=s.toks) (d':=s.drawn) (ch:=[z,TO,i1,i2]) (fun c hc=>⟨(hf c (sub c hc)).2.2.2.1,(hf c (sub c hc)).2.1,(hf c (sub c hc)).2.2.2.2.1,(hf c (sub c hc)).2.2.2.2.2⟩)
    (fun c o _ _ hc q _=>k2 c o hc q) (fun c o _ _ hc q _=>⟨o.slots,k2 c o hc q⟩) (fun c o hc q n=>?_) (fun c o hc q=>⟨o,k2 c o hc q⟩) (fun c zs q=>?_) (fun c o v q=>?_) (fun c ps q=>⟨#[],?_⟩) (fun m' hm'=>?_) ok I.bare
   ·rw[upd_ne (Nat.ne_of_lt (Heap.lt_size q))];exact n
   ·rw[upd_ne (tne _ _ q)];exact q
   ·rw[upd_ne (tne _ _ q)];exact q
   ·rw[upd_ne (tne _ _ q)];simpa using q
   ·obtain⟨o,es,ep,e,rr⟩:=hm'
    exact⟨o,es,ep,k2 _ _ (fun hc=>hL _ hc rfl) e,rr⟩
  refine⟨.ref s.heap.objs.size,_,I',rfl,⟨_,rfl,fresh,x,y,fun zs hz=>by rw[I.tuple_inj hz hxs];exact hx,fun zs hz=>by rw[I.tuple_inj hz hys];exact hy,rfl⟩,?_,fun c hc=>?_⟩
  ·obtain⟨_,q2,⟨e1,e2,q3⟩,⟨o4,q4,r4⟩,⟨o5,q5,r5⟩⟩:=Z'
   exact⟨z'',sb.extBut _ _ D.a1 q2,⟨e1,e2,sb.extBut _ _ D.a2 q3⟩,⟨o4,sb.extBut _ _ D.a3 q4,r4⟩,⟨o5,sb.extBut _ _ D.a4 q5,r5⟩⟩
  ·have hlt:c<s.heap.objs.size:=by
    obtain⟨q1,q2,⟨e1,e2,q3⟩,⟨o4,q4,r4⟩,⟨o5,q5,r5⟩⟩:=st
    simp only[List.mem_cons,List.not_mem_nil,or_false]at hc
    rcases hc with rfl | rfl | rfl | rfl | rfl
    ·exact Heap.lt_size q1
    ·exact Heap.lt_size q2
    ·exact Heap.lt_size q3
    ·exact Heap.lt_size q4
    ·exact Heap.lt_size q5
   rw[upd_ne (Nat.ne_of_lt hlt)]
   exact (hf c hc).1
 done:=by
  intro X hP hw hK hc i pins s σ H E I hf st hg
  subst hP hw hK
  obtain⟨xs,ys,hxs,hys,hl⟩:=hg
  obtain⟨its,r1,p1,_⟩:=I.tuple hxs
  obtain⟨its2,r2,p2,_⟩:=I.tuple hys
  have l1:=r1.length
  have l2:=r2.length
  have sub:∀ c∈[z,TO,i1,i2],c∈[z,TI,TO,i1,i2]:=fun c hc=>by
   simp only[List.mem_cons,List.not_mem_nil,or_false]at hc ⊢
   rcases hc with h | h | h | h <;> simp [h]
  refine zip_end (I.ok.hd hc) D st p1 p2 (hl.elim (fun q=>.inl (by simp;lia)) fun q=>.inr (by simp;lia)) fun h' keep=>⟨rfl,?_⟩
  have k2:∀ c o,c ∉ [z,TO,i1,i2]->s.heap.get? c=some o->h'.get? c=some o:=fun c o hc q=>by
   simp only[List.mem_cons,List.not_mem_nil,or_false,not_or]at hc
   exact keep c o hc.1 hc.2.1 hc.2.2.1 hc.2.2.2 q
  have none':∀ c∈[z,TO,i1,i2],H c=none:=fun c hc=>(hf c (sub c hc)).1
  have ok:HOk X.prog X.w H h':=fun c o q=>(I.hok c o q).stay (fun d v hd e=>k2 d v (fun m=>by
    rcases hd with rfl | hd
    ·rw[none' _ m]at q;cases q
    ·rw[none' _ m]at hd;cases hd) e) (fun _ e=>e) fun _ _ e=>e
  refine I.step (g':=s.gens) (t':=s.toks) (d':=s.drawn) (ch:=[z,TO,i1,i2]) (fun c hc=>⟨(hf c (sub c hc)).2.2.2.1,(hf c (sub c hc)).2.1,(hf c (sub c hc)).2.2.2.2.1,(hf c (sub c hc)).2.2.2.2.2⟩)
    (fun c o _ _ hc q _=>k2 c o hc q) (fun c o _ _ hc q _=>⟨o.slots,k2 c o hc q⟩) (fun c o hc q n=>n) (fun c o hc q=>⟨o,k2 c o hc q⟩) (fun c zs q=>q) (fun c o v q=>q) (fun c ps q=>⟨#[],by simpa using q⟩) (fun m' hm'=>?_) ok I.bare
  obtain⟨o,es,ep,e,rr⟩:=hm'
  exact⟨o,es,ep,k2 _ _ (fun hc=>(hf _ (sub _ hc)).2.1 rfl) e,rr⟩
 self:=fun _ _ _ _ _ st h=>wpAny_pyIter_zip st.z h
section
variable {X:Cx}
def iZip (K:PySem.W.Frag) (ta:TA):TI:=fun σ H R=>ta σ H fun vs H1=>∃ a b xs ys,vs=[.ref a,.ref b]/\SqT K H1 a xs/\SqT K H1 b ys/\R (Itz K a b) H1
theorem pi_zip {a b:Expr}{ta:TA}{elts:List Expr}{kk:Nat}{tp p pos:Pos} (hg:Gl X "zip") (hm:X.mg "zip"=none) (ha:PA X [a,b] ta) (hs:starEach [a,b] X.env=[(false,eval a X.env),(false,eval b X.env)]:=by rfl) (hs2:starEach [b] X.env=[(false,eval b X.env)]:=by rfl) :
  PI X (.Tuple elts kk tp) (.Call (.Name "zip" p) [a,b] [] pos) (iZip X.K ta):=by
 intro pins s σ H R I h
 refine Call_ (ld_blt I hg hm boot_zip (PyProof.Rows.callWith_type1 (thn (ha pos pins s σ H _ I h) fun us s1 ⟨vs,H1,I1,r1,q1⟩=>?_) (by rw[hs,hs2]) (by rw[hs2];rfl)))
 obtain⟨x,y,xs,ys,e,hx,hy,q⟩:=q1
 subst e
 cases r1 with
 | cons r rr=>
  cases rr with
  | cons r' rr=>
   cases rr
   cases r
   cases r'
   obtain⟨its,v1,p1,_⟩:=I1.tuple hx
   obtain⟨its2,v2,p2,_⟩:=I1.tuple hy
   have l1:x<s1.heap.objs.size:=by obtain⟨_,e,_⟩:=p1;exact Heap.lt_size e
   have l2:y<s1.heap.objs.size:=by obtain⟨_,e,_⟩:=p2;exact Heap.lt_size e
   have f:∀ c:Addr,c<s1.heap.objs.size->∀ k:Nat,c≠s1.heap.objs.size+k:=fun c hc k=>Nat.ne_of_lt (Nat.lt_of_lt_of_le hc (Nat.le_add_right _ _))
   refine call_zip_tups p1 p2 fun h' Z n5 keep=>wpAny_pyIter_zip Z.z ?_
   have I2:Inv X pins σ H1 { s1 with heap:=h' }:=I1.kept (t':=s1.toks) keep
   refine⟨_,[s1.heap.objs.size+4,s1.heap.objs.size+2,s1.heap.objs.size+3,s1.heap.objs.size,s1.heap.objs.size+1],_,_,H1,rfl,I2,turn_zip ⟨?_,?_,?_,?_,?_,?_,?_,?_,?_,?_,⟨f _ l1 4,f _ l1 3,Nat.ne_of_lt l1,f _ l1 1⟩,⟨f _ l2 4,f _ l2 3,Nat.ne_of_lt l2,f _ l2 1⟩⟩,Z,fun c hc=>?_,q⟩
   any_goals (show (_:Nat)≠_;lia)
   have hc':s1.heap.objs.size<=c:=by
    simp only[List.mem_cons,List.not_mem_nil,or_false]at hc
    rcases hc with rfl | rfl | rfl | rfl | rfl
    ·exact Nat.le_add_right _ _
    ·exact Nat.le_add_right _ _
    ·exact Nat.le_add_right _ _
    ·exact Nat.le_refl _
    ·exact Nat.le_add_right _ _
   exact I1.fpOk hc' (I1.hok.fresh hc')
end
end L2
end
section
namespace L2
open PySem PySem.Spec PyProof.Rows
section
variable {prog:Program}{w:World}{A:Around}{E:Value->Shared->Prop}{s:Shared}
theorem getItem_tuple_all {t sl:Addr}{items:Array Value}{vl vu:Value}{lo hi:Option Int}{Q:Value->Shared->Prop} (ht:IsTup s.heap t items) (hs:s.heap.IsSliceOf sl vl vu .none) (pl:IsPart vl lo) (pu:IsPart vu hi)
  (hw:HT.sIx items.size 0 lo=0/\HT.sIx items.size items.size hi=items.size) (h:Q (.ref t) s):wpAny (model prog w) A (getItem (.ref t) (.ref sl)) Q E s:=by
 obtain⟨os,hos,hcs,hds⟩:=id hs
 have hTs:s.TypeIs (.ref sl) "slice":=⟨os,hos,hcs⟩
 unfold getItem
 try with_reducible refine wpAny_holding ?_
 first | refine wpAny_bind (wpAny_pure ?_) | skip
 refine wpAny_bind (wpAny_sequenceKey ht.typeIs (by decide) ?_)
 refine wpAny_bind (wpAny_callSpecial?_slot (name:=Str.ofString "__getitem__") ht.typeIs PyProof.Rows.slot_tuple_getitem
  (wpAny_call_entry PyProof.Rows.slot_tuple_getitem ht.typeIs entry_tuple_getitem ?_ (args_tuple_getitem _ _)))
 show wpAny _ _ (Builtin.Tuple.tupleItemsOf (.ref t) >>= _) _ _ s
 refine wpAny_bind (tupleItemsOf_ ht ?_)
 refine wpAny_bind (wpAny_typeOf hTs ?_)
 rw[if_pos (by decide)]
 refine wpAny_bind (HT.sliceApplied_gen hs pl pu ?_)
 have yes:(((HT.sIx items.size 0 lo:Nat):Int) == 0 && (1:Int) == 1 && (HT.sIx items.size items.size hi-HT.sIx items.size 0 lo) == items.size)=true:=by
  rw[hw.1,hw.2];simp
 show wpAny _ _ (if (((HT.sIx items.size 0 lo:Nat):Int) == 0 && (1:Int) == 1 && (HT.sIx items.size items.size hi-HT.sIx items.size 0 lo) == items.size)=true then _ else _) _ _ s
 rw[if_pos yes]
 obtain⟨o,ho,hc,n,hd⟩:=id ht
 have ex:wpAny (model prog w) A.in1 (Builtin.Tuple.tupleIsExact (.ref t)) (fun b s'=>b=true/\s'=s) E s:=by
  unfold Builtin.Tuple.tupleIsExact
  first
   | exact wpAny_bind (wpAny_typeOf ⟨o,ho,hc⟩ (wpAny_pure ⟨by rfl,rfl⟩))
   | exact wpAny_bind (wpAny_load ho (wpAny_pure ⟨by rw[hc];rfl,rfl⟩))
 refine wpAny_bind (thn ex fun b s' hb=>?_)
 obtain⟨rfl,rfl⟩:=hb
 rw[if_pos rfl]
 exact wpAny_bind (wpAny_rule (wpAny_pure ⟨_,rfl,wpAny_pure h⟩))
end
section
variable {X:Cx}
def rSlW (K:PySem.W.Frag):V->Option Int->Option Int->Hp->VK->Prop:=fun x lo hi H Q=>∃ a xs,x=.ref a/\SqT K H a xs/\HT.sIx xs.length 0 lo=0/\HT.sIx xs.length xs.length hi=xs.length/\Q (.ref a) H
theorem sl_tupW:SlR X (rSlW X.K):=by
 intro pins s σ H x v vl vu lo hi sl Q I rx hs pl pu h
 obtain⟨a,xs,rfl,hx,h1,h2,q⟩:=h
 cases rx
 obtain⟨its,r,ht,hz⟩:=I.tuple hx
 have hlen:its.toArray.size=xs.length:=by rw[List.size_toArray];exact r.length.symm
 refine⟨"tuple",_,PyProof.Rows.slot_tuple_getitem.lookup,ht.typeIs,?_⟩
 exact getItem_tuple_all ht hs pl pu (by rw[hlen];exact⟨h1,h2⟩) ⟨.ref a,H,I,rfl,q⟩
def rSlS:V->Option Int->Option Int->Hp->VK->Prop:=fun x lo hi H Q=>∃ z,x=.str z/\z.length<=sizeLine/\Q (.str (Txt.slice z lo hi)) H
theorem sl_str:SlR X rSlS:=by
 intro pins s σ H x v vl vu lo hi sl Q I rx hs pl pu h
 obtain⟨z,rfl,hz,q⟩:=h
 obtain⟨t,rfl⟩:=rx
 obtain⟨os,hos,hcs,hds⟩:=id hs
 refine⟨"str",_,F.slot_str_getitem.lookup,typeIs_str _ _ _,?_⟩
 have fin:∀ (t':Tok) (k:Nat),EP X pins σ Q (.str (Txt.slice z lo hi) t') { s with toks:=k }:=fun t' k=>⟨.str _,H,I.tok _,⟨_,rfl⟩,q⟩
 cases pl with
 | none=>
  cases pu with
  | none=>exact wpAny_getItem_str_slice (l:=none) (u:=none) (st:=none) ⟨os,hos,hcs,hds⟩ rfl (post_val_or_str ⟨Nat.le_trans (Txt.slice_le z _ _) hz,fin⟩)
  | int j uj=>exact wpAny_getItem_str_slice (l:=none) (u:=some (j,uj)) (st:=none) ⟨os,hos,hcs,hds⟩ rfl (post_val_or_str ⟨Nat.le_trans (Txt.slice_le z _ _) hz,fin⟩)
 | int i ui=>
  cases pu with
  | none=>exact wpAny_getItem_str_slice (l:=some (i,ui)) (u:=none) (st:=none) ⟨os,hos,hcs,hds⟩ rfl (post_val_or_str ⟨Nat.le_trans (Txt.slice_le z _ _) hz,fin⟩)
  | int j uj=>exact wpAny_getItem_str_slice (l:=some (i,ui)) (u:=some (j,uj)) (st:=none) ⟨os,hos,hcs,hds⟩ rfl (post_val_or_str ⟨Nat.le_trans (Txt.slice_le z _ _) hz,fin⟩)
theorem sl_U:SlR X (fun x lo hi H Q=>rSlL X.K x lo hi H Q\/(rSlT X.K x lo hi H Q\/(rSlW X.K x lo hi H Q\/rSlS x lo hi H Q))):=sl_list.or (sl_tup.or (sl_tupW.or sl_str))
end
structure Df (K:PySem.W.Frag) (mg:Str->Option Value) (x:Str) (st:Stmt) (f:Addr) (fd:FuncData) (ps:List Str):Prop where
 fn:Fun K x x st f fd
 b:Binds K fd ps []
 mg:mg x=some (.ref f)
theorem Df.kp {K:PySem.W.Frag}{mg:Str->Option Value}{x:Str}{st:Stmt}{f:Addr}{fd:FuncData}{ps:List Str} (D:Df K mg x st f fd ps):PySem.W.keepIn K (.ref f)=true:=D.fn.kp
end L2
namespace L2
open PySem
theorem bt_len:bootBuiltins "len"=some (.builtin "len"):=by decide +kernel
theorem bt_isinstance:bootBuiltins "isinstance"=some (.builtin "isinstance"):=by decide +kernel
theorem bt_sorted:bootBuiltins "sorted"=some (.builtin "sorted"):=by decide +kernel
theorem bt_int:bootBuiltins "int"=some (.type "int"):=by decide +kernel
theorem bt_tuple:bootBuiltins "tuple"=some (.type "tuple"):=by decide +kernel
theorem bt_bool:bootBuiltins "bool"=some (.type "bool"):=by decide +kernel
end L2
end
section
namespace L2
open PySem
def lcChk (sc:Scope) (N:List Str) (scope:Scope) (fr:List (Str×Nat)):Bool:=
 (scope.kind == .function) && scope.names.all (fun y=>decide (y.2≠.cell)) && scope.names.all (fun y=>decide (y.2=.local->scope.names.lookup y.1=some .local)) &&
  scope.names.all (fun y=>decide (y.2=.free->sc.names.lookup y.1=some .cell)) && fr.all (fun p=>decide (N[p.2]?=some p.1) && decide (scope.names.lookup p.1=some .free))
theorem LcOk.of {X:Cx}{sc:Scope}{N:List Str}{scope:Scope}{Nt:List Str}{fr:List (Str×Nat)} (h1:X.env.scope=sc) (h2:X.N=N) (h:lcChk sc N scope fr=true):LcOk X scope Nt fr:=by
 unfold lcChk at h
 simp only[Bool.and_eq_true,List.all_eq_true,decide_eq_true_eq]at h
 obtain⟨⟨⟨⟨a1,a2⟩,a3⟩,a4⟩,a5⟩:=h
 refine⟨eq_of_beq a1,a2,a3,fun y hy hf=>?_,fun p hp=>?_⟩
 ·show X.env.scope.names.lookup y.1=some .cell
  rw[h1];exact a4 y hy hf
 ·rw[h2];exact a5 p hp
end L2
end
section
namespace L2
open PySem PySem.Spec PyProof.Rows
def notStar:Expr->Bool
 | .Starred _ _=>false
 | _=>true
def noStars:List Expr->Bool
 | []=>true
 | e::es=>notStar e && noStars es
theorem star_cons {env:Env}{e:Expr}{es:List Expr} (h:notStar e=true):starEach (e::es) env=(false,eval e env)::starEach es env:=by
 cases e <;> first | rfl | exact absurd h Bool.false_ne_true
theorem stars_any {env:Env}{pos:Pos}:∀ {es:List Expr},noStars es=true->(backTo pos (starEach es env)).any (·.1)=false
 | [],_=>rfl
 | e::es,h=>by
  have h':(notStar e && noStars es)=true:=h
  rw[Bool.and_eq_true]at h'
  rw[star_cons h'.1]
  show (false || (backTo pos (starEach es env)).any (·.1))=false
  rw[stars_any h'.2];rfl
section
variable {X:Cx}
theorem qa_cons {e:Expr}{es:List Expr}{te:TE}{t:TA} (ha:PE X e te) (hr:PA X es t) (hs:notStar e=true:=by rfl):PA X (e::es) (tCons te t):=pa_cons ha hr (star_cons hs)
def constV:Expr->Option V
 | .Constant (.int i) _ _=>some (.int i)
 | .Constant (.str x) _ _=>some (.str x)
 | .Constant (.bool b) _ _=>some (.bl b)
 | _=>none
def constVs:List Expr->Option (List V)
 | []=>some []
 | e::es=>match constV e,constVs es with
  | some v,some vs=>some (v::vs)
  | _,_=>none
theorem pe_const {e:Expr}{v:V} (h:constV e=some v):PE X e (tC v):=by
 unfold constV at h
 split at h
 ·cases h;exact pe_int
 ·cases h;exact pe_str
 ·cases h;exact pe_bl
 ·cases h
theorem constV_ns {e:Expr}{v:V} (h:constV e=some v):notStar e=true:=by
 cases e <;> first | rfl | (unfold constV at h;cases h)
def tVs (vs:List V):TA:=fun _ H Q=>Q vs H
theorem pa_consts:∀ {es:List Expr}{vs:List V},constVs es=some vs->PA X es (tVs vs)
 | [],vs,h=>by cases h;exact pa_nil
 | e::es,vs,h=>by
  unfold constVs at h
  cases h1:constV e with
  | none=>rw[h1]at h;cases h
  | some v=>
   cases h2:constVs es with
   | none=>rw[h1,h2]at h;cases h
   | some us=>
    rw[h1,h2]at h
    cases h
    exact pa_cons (pe_const h1) (pa_consts h2) (star_cons (constV_ns h1))
theorem qe_call {CX:CXT}{k:Nat}{f:Addr}{fd:FuncData}{ps:List Str}{sp:Sp}{dvs:List V}{ds:List Value}{E:XK}{x:Str}{p pos:Pos}{e:Expr}{es:List Expr}{t:TA}
  (F:FnOk X.prog X.w X.K X.mg X.base CX k f fd ps sp) (hr:Room k X.A) (hg:Gl X x) (hm:X.mg x=some (.ref f)) (hk:PySem.W.keepIn X.K (.ref f)=true) (hb:Binds X.K fd ps ds) (hd:Vals dvs ds) (hx:Passes CX X E)
  (ha:PA X (e::es) t) (hs:noStars (e::es)=true:=by rfl) (hdb:(x == ("__debug__" : Str))=false:=by decide):PE X (.Call (.Name x p) (e::es) [] pos) (tCall sp dvs E t):=by
 have h':(notStar e && noStars es)=true:=hs
 rw[Bool.and_eq_true]at h'
 exact pe_call F hr hg hm hk hb hd hx ha hdb (star_cons h'.1) (stars_any h'.2)
theorem qe_callB {x:Str}{p pos:Pos}{e:Expr}{es:List Expr}{t:TA}{id:String}{r:List V->Hp->VK->Prop} (hc:CallR X (.builtin id) r) (hg:Gl X x) (hm:X.mg x=none) (hv:bootBuiltins x=some (.builtin id)) (ha:PA X (e::es) t)
  (hs:noStars (e::es)=true:=by rfl) (hn:x≠"__name__":=by decide) (hdb:(x == ("__debug__" : Str))=false:=by decide):PE X (.Call (.Name x p) (e::es) [] pos) (tCB r t):=by
 have h':(notStar e && noStars es)=true:=hs
 rw[Bool.and_eq_true]at h'
 exact pe_callB hc hg hm hv ha hn hdb (star_cons h'.1) (stars_any h'.2)
theorem qe_callTy {x:Str}{p pos:Pos}{e:Expr}{es:List Expr}{t:TA}{T:String}{r:List V->Hp->VK->Prop} (hc:CallR X (.type T) r) (hg:Gl X x) (hm:X.mg x=none) (hv:bootBuiltins x=some (.type T)) (ha:PA X (e::es) t)
  (hs:noStars (e::es)=true:=by rfl) (hn:x≠"__name__":=by decide) (hdb:(x == ("__debug__" : Str))=false:=by decide):PE X (.Call (.Name x p) (e::es) [] pos) (tCB r t):=by
 have h':(notStar e && noStars es)=true:=hs
 rw[Bool.and_eq_true]at h'
 exact pe_callTy hc hg hm hv ha hn hdb (star_cons h'.1) (stars_any h'.2)
theorem qi_range1 {tg a:Expr}{ta:TA}{p pos:Pos} (hg:Gl X "range") (hm:X.mg "range"=none) (ha:PA X [a] ta) (hs:notStar a=true:=by rfl):PI X tg (.Call (.Name "range" p) [a] [] pos) (iRng1 ta):=
 pi_range1 hg hm ha (by rw[star_cons hs];rfl)
theorem qi_zip {a b:Expr}{ta:TA}{elts:List Expr}{kk:Nat}{tp p pos:Pos} (hg:Gl X "zip") (hm:X.mg "zip"=none) (ha:PA X [a,b] ta) (hs:notStar a=true:=by rfl) (hs2:notStar b=true:=by rfl) :
  PI X (.Tuple elts kk tp) (.Call (.Name "zip" p) [a,b] [] pos) (iZip X.K ta):=
 pi_zip hg hm ha (by rw[star_cons hs,star_cons hs2];rfl) (by rw[star_cons hs2];rfl)
end
end L2
end
section
namespace L2
open PySem PySem.Spec PyProof.Rows
theorem relv_ty (n:String):RelV (.ty n) (.type n):=rfl
structure Hd (p:Prop):Prop where
 out:p
section
variable {X:Cx}{pos:Pos}{a b c e o:Expr}{es:List Expr}{ta tb tc te to:TE}{t u:TS}{tt tu:TT}{tA:TA}{st:Stmt}{rest:List Stmt}
theorem wv (i:Nat) {x:Str} (hN:X.N[i]?=some x:=by rfl) (hv:Vis X.env.scope x:=by first | exact Or.inl rfl | exact Or.inr (Or.inl rfl) | exact Or.inr (Or.inr rfl)) (hd:(x == ("__debug__" : Str))=false:=by decide)
  (hcd:(x == ("__classdict__" : Str))=false:=by decide):Hd (PE X (.Name x pos) (tVar i)):=⟨pe_var hN hv hd hcd⟩
theorem we_int {i j pos}:Hd (PE X (.Constant (.int i) j pos) (tC (.int i))):=⟨pe_int⟩
theorem we_str {x j pos}:Hd (PE X (.Constant (.str x) j pos) (tC (.str x))):=⟨pe_str⟩
theorem we_bl {x j pos}:Hd (PE X (.Constant (.bool x) j pos) (tC (.bl x))):=⟨pe_bl⟩
theorem we_bltn {x:Str}{v:V}{y:Value} (hg:Gl X x) (hm:X.mg x=none) (hv:bootBuiltins x=some y) (r:RelV v y) (hn:x≠"__name__":=by decide) (hd:(x == ("__debug__" : Str))=false:=by decide):Hd (PE X (.Name x pos) (tC v)):=⟨pe_bltn hg hm hv r hn hd⟩
theorem we_op {op:Operator}{r:R2} (ho:OpR X (binaryOp op) r) (ha:Hd (PE X a ta)) (hb:Hd (PE X b tb)):Hd (PE X (.BinOp a op b pos) (tOp r ta tb)):=⟨pe_op ho ha.out hb.out⟩
theorem we_un {op:UnaryOp}{r:V->Hp->VK->Prop} (ho:UnR X (unaryOp op) r) (ha:Hd (PE X a ta)):Hd (PE X (.UnaryOp op a pos) (tUn r ta)):=⟨pe_un ho ha.out⟩
theorem we_cmpR {op:CmpOp}{r:R2} (ho:OpR X (compareOp op) r) (ha:Hd (PE X a ta)) (hb:Hd (PE X b tb)) (hm:behindInMarks op b=false):Hd (PE X (.Compare a [op] [b] pos) (tOp r ta tb)):=⟨pe_cmpR ho ha.out hb.out hm⟩
theorem we_lst (h:Hd (PA X es tA)):Hd (PE X (.List es pos) (tLst tA)):=⟨pe_lst h.out⟩
theorem we_tup {x1} (h:Hd (PA X es tA)):Hd (PE X (.Tuple es x1 pos) (tTup tA)):=⟨pe_tup h.out⟩
theorem we_dnewK:Hd (PE X (.Dict [] [] pos) tDNewK):=⟨pe_dnewK⟩
theorem wps_nil:Hd (PPs X pos [] [] []):=⟨pps_nil⟩
theorem wps_cons {k v:Expr}{ks:List (Option Expr)}{vs:List Expr}{tk tv:TE}{trs:List (TE×TE)} (hk:Hd (PE X k tk)) (hv:Hd (PE X v tv)) (hr:Hd (PPs X pos ks vs trs)):Hd (PPs X pos (some k::ks) (v::vs) ((tk,tv)::trs)):=⟨pps_cons hk.out hv.out hr.out⟩
theorem we_disp {keys:List (Option Expr)}{values:List Expr}{trs:List (TE×TE)} (h:Hd (PPs X pos keys values trs)) (hall:keys.all (·.isSome)=true) (hl:keys.length=values.length) (h0:keys≠[]) (h15:keys.length<=15) :
  Hd (PE X (.Dict keys values pos) (tDisp trs)):=⟨pe_disp h.out hall hl h0 h15⟩
theorem wo_none:Hd (PO X none tNoPart):=⟨po_none⟩
theorem wo_some (h:Hd (PE X e te)):Hd (PO X (some e) (tPart te)):=⟨po_some h.out⟩
theorem we_slice {r:V->Option Int->Option Int->Hp->VK->Prop}{lo hi:Option Expr}{tl th:TO}{p2:Pos} (hr:SlR X r) (he:Hd (PE X e te)) (hl:Hd (PO X lo tl)) (hu:Hd (PO X hi th)):Hd (PE X (.Subscript e (.Slice lo hi none p2) pos) (tSl r te tl th)):=⟨pe_slice hr he.out hl.out hu.out⟩
theorem we_ix {r:R2} (hr:IxR X r) (ha:Hd (PE X a ta)) (hb:Hd (PE X b tb)) (hs:PlainIx b):Hd (PE X (.Subscript a b pos) (tOp r ta tb)):=⟨pe_ix hr ha.out hb.out hs⟩
theorem wa_nil:Hd (PA X [] tNil):=⟨pa_nil⟩
theorem wa_cons (ha:Hd (PE X e te)) (hr:Hd (PA X es tA)) (hs:notStar e=true:=by rfl):Hd (PA X (e::es) (tCons te tA)):=⟨qa_cons ha.out hr.out hs⟩
theorem wa_consts {vs:List V} (h:constVs es=some vs):Hd (PA X es (tVs vs)):=⟨pa_consts h⟩
theorem we_call {CX:CXT}{k:Nat}{f:Addr}{fd:FuncData}{ps:List Str}{sp:Sp}{dvs:List V}{ds:List Value}{E:XK}{x:Str}{p:Pos}
  (F:FnOk X.prog X.w X.K X.mg X.base CX k f fd ps sp) (hr:Room k X.A) (hg:Gl X x) (hm:X.mg x=some (.ref f)) (hk:PySem.W.keepIn X.K (.ref f)=true) (hb:Binds X.K fd ps ds) (hd:Vals dvs ds) (hx:Passes CX X E)
  (ha:Hd (PA X (e::es) tA)) (hs:noStars (e::es)=true:=by rfl) (hdb:(x == ("__debug__" : Str))=false:=by decide):Hd (PE X (.Call (.Name x p) (e::es) [] pos) (tCall sp dvs E tA)):=⟨qe_call F hr hg hm hk hb hd hx ha.out hs hdb⟩
theorem we_callB {x:Str}{p:Pos}{id:String}{r:List V->Hp->VK->Prop} (hc:CallR X (.builtin id) r) (hg:Gl X x) (hm:X.mg x=none) (hv:bootBuiltins x=some (.builtin id)) (ha:Hd (PA X (e::es) tA))
  (hs:noStars (e::es)=true:=by rfl) (hn:x≠"__name__":=by decide) (hdb:(x == ("__debug__" : Str))=false:=by decide):Hd (PE X (.Call (.Name x p) (e::es) [] pos) (tCB r tA)):=⟨qe_callB hc hg hm hv ha.out hs hn hdb⟩
theorem we_callTy {x:Str}{p:Pos}{T:String}{r:List V->Hp->VK->Prop} (hc:CallR X (.type T) r) (hg:Gl X x) (hm:X.mg x=none) (hv:bootBuiltins x=some (.type T)) (ha:Hd (PA X (e::es) tA))
  (hs:noStars (e::es)=true:=by rfl) (hn:x≠"__name__":=by decide) (hdb:(x == ("__debug__" : Str))=false:=by decide):Hd (PE X (.Call (.Name x p) (e::es) [] pos) (tCB r tA)):=⟨qe_callTy hc hg hm hv ha.out hs hn hdb⟩
theorem we_bm0 {name:Str}{apos cpos:Pos}{T id:String}{r:V->List V->Hp->VK->Prop} (pa:PlainAttrs T) (slot:Slot T name id) (hty:typeOf (.builtin id)=pure (.type "method_descriptor")) (hm:MtR X id r) (ho:Hd (PE X o to))
  (hbase:attributeBase o name X.env (eval o X.env)=eval o X.env:=by rfl) (hline:(apos.endLine == cpos.line)=true:=by rfl):Hd (PE X (.Call (.Attribute o name apos) [] [] cpos) (tBM0 X.K T r to)):=⟨pe_bm0 pa slot hty hm ho.out hbase hline⟩
theorem few_of {env:Env}{cpos:Pos}{es:List Expr} (h:noStars es=true) (hl:es.length<29) :
  ((backTo cpos (starEach es env)).all (fun x=>!x.1) && (backToKw cpos (keywordEach [] env)).all (fun x=>x.1.isSome)
   && decide (es.length+([]:List Keyword).length+(if ([]:List Keyword).isEmpty then 0 else 1)<30))=true:=by
 have h1:(backTo cpos (starEach es env)).all (fun x=>!x.1)=true:=by
  have:=stars_any (env:=env) (pos:=cpos) h
  rw[List.all_eq_not_any_not]
  simpa using this
 have h2:(backToKw cpos (keywordEach [] env)).all (fun x=>x.1.isSome)=true:=rfl
 rw[h1,h2]
 simp
 lia
theorem we_bm {name:Str}{apos cpos:Pos}{T id:String}{r:V->List V->Hp->VK->Prop} (pa:PlainAttrs T) (slot:Slot T name id) (hty:typeOf (.builtin id)=pure (.type "method_descriptor")) (hm:MtR X id r) (ho:Hd (PE X o to)) (ha:Hd (PA X (e::es) tA))
  (hbase:attributeBase o name X.env (eval o X.env)=eval o X.env:=by rfl) (hs:noStars (e::es)=true:=by rfl) (hl:(e::es).length<29:=by decide) (hline:(apos.endLine == cpos.line)=true:=by rfl) :
  Hd (PE X (.Call (.Attribute o name apos) (e::es) [] cpos) (tBM X.K T r to tA)):=by
 have h':(notStar e && noStars es)=true:=hs
 rw[Bool.and_eq_true]at h'
 exact⟨pe_bm pa slot hty hm ho.out ha.out hbase (few_of hs hl) hline (star_cons h'.1) (stars_any h'.2)⟩
theorem wt_cmpR {op:CmpOp}{r:R2} (ho:OpR X (compareOp op) r) (ha:Hd (PE X a ta)) (hb:Hd (PE X b tb)) (hm:behindInMarks op b=false):Hd (PT X (.Compare a [op] [b] pos) (tTest (tOp r ta tb))):=⟨pt_cmpR ho ha.out hb.out hm⟩
theorem ww_and1 (ha:Hd (PT X a tt)):Hd (PW X (.BoolOp .And [a] pos) tt):=⟨pw_and1 ha.out⟩
theorem ww_or1 (ha:Hd (PT X a tt)):Hd (PW X (.BoolOp .Or [a] pos) tt):=⟨pw_or1 ha.out⟩
theorem ww_and {more:List Expr} (ha:Hd (PT X a tt)) (hb:Hd (PW X (.BoolOp .And (b::more) pos) tu)):Hd (PW X (.BoolOp .And (a::b::more) pos) (tAnd tt tu)):=⟨pw_and ha.out hb.out⟩
theorem ww_or {more:List Expr} (ha:Hd (PT X a tt)) (hb:Hd (PW X (.BoolOp .Or (b::more) pos) tu)):Hd (PW X (.BoolOp .Or (a::b::more) pos) (tOr tt tu)):=⟨pw_or ha.out hb.out⟩
theorem wt_pw (h:Hd (PW X e tt)):Hd (PT X e tt):=⟨h.out.pt⟩
theorem wt_not (ha:Hd (PT X a tt)):Hd (PT X (.UnaryOp .Not a pos) (tNot tt)):=⟨pt_not ha.out⟩
theorem wt_val (h:Hd (PE X e te)) (he:∀ whole,isTrue e X.env whole=(do let v <- whole;standAt e.pos;holding [v] (truthy v)):=by intro _;rfl):Hd (PT X e (tB te)):=⟨pt_val h.out he⟩
theorem wt_truth (ha:Hd (PE X a ta)) (he:∀ whole,isTrue a X.env whole=(do let v <- whole;standAt a.pos;holding [v] (truthy v))):Hd (PT X a (fun σ H Q=>ta σ H fun x H'=>∃ k,TruV X.K x H' k/\Q k H')):=⟨pt_truth ha.out he⟩
variable {tg iter:Expr}{wi:TI}{g:TG}
theorem wi_range1 {p:Pos} (hg:Gl X "range") (hm:X.mg "range"=none) (ha:Hd (PA X [a] tA)) (hs:notStar a=true:=by rfl):Hd (PI X tg (.Call (.Name "range" p) [a] [] pos) (iRng1 tA)):=⟨qi_range1 hg hm ha.out hs⟩
theorem wi_zip {elts:List Expr}{kk:Nat}{tp p:Pos} (hg:Gl X "zip") (hm:X.mg "zip"=none) (ha:Hd (PA X [a,b] tA)) (hs:notStar a=true:=by rfl) (hs2:notStar b=true:=by rfl):Hd (PI X (.Tuple elts kk tp) (.Call (.Name "zip" p) [a,b] [] pos) (iZip X.K tA)):=⟨qi_zip hg hm ha.out hs hs2⟩
theorem wi_U (hl:Hd (PE X e te)):Hd (PI X tg e (fun σ H R=>iList X.K te σ H R\/iTup X.K te σ H R)):=⟨pi_U hl.out⟩
theorem wg_name {i:Nat}{x:Str} (hN:X.N.Nodup) (hi:X.N[i]?=some x) (hx:Loc X.env.scope x) (hf:X.fn x=true\/X.env.scope.names.lookup x=some .local:=by first | exact .inl rfl | exact .inr rfl | assumption):Hd (PG X (.Name x pos) (gName i)):=⟨pg_name hN hi hx hf⟩
theorem wgs_nil:Hd (PGs X [] gNil):=⟨pgs_nil⟩
theorem wgs_cons {gs:TGs} (h1:Hd (PG X e g)) (h2:Hd (PGs X es gs)) (hs:(assignEach (e::es) X.env).map (·.2)=assign e X.env::(assignEach es X.env).map (·.2):=by rfl):Hd (PGs X (e::es) (gCons g gs)):=⟨pgs_cons h1.out h2.out hs⟩
theorem wg_tup {k n:Nat}{gs:TGs} (hc:X.calm=true) (h:Hd (PGs X es gs)) (hn:(assignEach es X.env).length=n:=by rfl) (hst:(assignEach es X.env).findIdx? (·.1)=none:=by rfl):Hd (PG X (.Tuple es k pos) (gTup X.K n gs)):=⟨pg_tup hc h.out hn hst⟩
theorem wg_sub {i:Expr}{ti:TE}{ts:TSet} (ho:Hd (PE X o to)) (hi:Hd (PE X i ti)) (hs:PSet X ts)
  (ha:∀ v,assign (.Subscript o i pos) X.env v=(do
   let ov <- holding [v] (eval o X.env)
   let iv <- holding [v,ov] (eval i X.env)
   standAt pos
   holding [v,ov,iv] (setItem ov iv v)
   release [v,ov,iv] []):=by intro _;rfl):Hd (PG X (.Subscript o i pos) (gSub to ti ts)):=⟨pg_sub ho.out hi.out hs ha⟩
theorem wss_nil:Hd (PSs X [] tNext):=⟨pss_nil⟩
theorem wss_one (h1:Hd (PS X st t)):Hd (PSs X [st] t):=⟨pss_one h1.out⟩
theorem wss_cons (h1:Hd (PS X st t)) (h2:Hd (PSs X rest u)):Hd (PSs X (st::rest) (tSeq t u)):=⟨pss_cons h1.out h2.out⟩
theorem ws_ret (he:Hd (PE X e te)):Hd (PS X (.Return (some e) pos) (tRet te)):=⟨ps_ret he.out⟩
theorem ws_if {sa sb:List Stmt} (hc:Hd (PT X c tt)) (ha:Hd (PSs X sa t)) (hb:Hd (PSs X sb u)):Hd (PS X (.If c sa sb pos) (tIfS tt t u)):=⟨ps_if hc.out ha.out hb.out⟩
theorem ws_expr (he:Hd (PE X e te)) (hs:swapsWith e none pos.line X.env=pure false:=by rfl):Hd (PS X (.Expr e pos) (tDrop te)):=⟨ps_expr he.out hs⟩
theorem ws_set {i:Nat}{x:Str}{pos':Pos} (hN:X.N.Nodup) (hi:X.N[i]?=some x) (hx:Loc X.env.scope x) (he:Hd (PE X e te)) (hs:swapsWith e (some (.Name x pos')) pos.line X.env=pure false:=by rfl) (hf:X.fn x=true\/X.env.scope.names.lookup x=some .local:=by first | exact .inl rfl | exact .inr rfl | assumption) :
  Hd (PS X (.Assign [.Name x pos'] e pos) (tAsg te (gName i))):=⟨ps_set hN hi hx he.out hs hf⟩
theorem ws_asg (he:Hd (PE X e te)) (hg:Hd (PG X tg g)) (hs:swapsWithSole [tg] e pos.line X.env=pure false:=by rfl) (hw:swappedStores [tg] e X.env=pure none:=by rfl) (h1:(assignEach [tg] X.env).map (·.2)=[assign tg X.env]:=by rfl) :
  Hd (PS X (.Assign [tg] e pos) (tAsg te g)):=⟨ps_asg he.out hg.out hs hw h1⟩
theorem ws_for {body:List Stmt} (hp:PassesOwn (model X.prog X.w) X.A X.env X.xe) (hc:X.calm=true) (hi:Hd (PI X tg iter wi)) (hg:Hd (PG X tg g)) (hb:Hd (PSs X body t)) (hs:∀ x,foldedSetIterable iter X.env x=pure x:=by intro _;rfl):Hd (PS X (.For tg iter body [] pos) (tFor wi g t)):=⟨ps_for hp hc hi.out hg.out hb.out hs⟩
theorem ws_while {body:List Stmt} (hp:PassesOwn (model X.prog X.w) X.A X.env X.xe) (hc:Hd (PT X c tt)) (hb:Hd (PSs X body t)):Hd (PS X (.While c body [] pos) (tWhile tt t)):=⟨ps_while hp hc.out hb.out⟩
variable {ifs:List Expr}{scope:Scope}{Nt:List Str}{fr:List (Str×Nat)}{gz:ZC->TG}{tz:ZC->TT}{ez:ZC->TE}
theorem wif_nil:Hd (PIfs X [] tAll):=⟨pif_nil⟩
theorem wif_one (h:Hd (PT X c tt)):Hd (PIfs X [c] tt):=⟨pif_one h.out⟩
theorem we_lc (L:LcOk X scope Nt fr) (hcalm:X.calm=true) (hi:Hd (PI X tg iter wi)) (hg:∀ z,Hd (PG (cxC X scope (Nt++fr.map (·.1)) z) tg (gz z))) (hgt:∀ z,Tgt Nt.length (gz z))
  (hc:∀ z,Hd (PIfs (cxC X scope (Nt++fr.map (·.1)) z) ifs (tz z))) (he:∀ z,Hd (PE (cxC X scope (Nt++fr.map (·.1)) z) e (ez z))) (hs:∀ x,foldedSetIterable iter X.env x=pure x:=by intro _;rfl) :
  Hd (PE X (.ListComp e [⟨tg,iter,ifs,0⟩] scope pos) (tLC wi Nt.length fr gz tz ez)):=⟨pe_lc L hcalm hi.out (fun z=>(hg z).out) hgt (fun z=>(hc z).out) (fun z=>(he z).out) hs⟩
theorem ws_lc {y:Str}{j:Nat}{py spos:Pos} (hN:X.N.Nodup) (hj:X.N[j]?=some y) (hy:Loc X.env.scope y) (L:LcOk X scope Nt fr) (hcalm:X.calm=true) (hi:Hd (PI X tg iter wi)) (hg:∀ z,Hd (PG (cxC X scope (Nt++fr.map (·.1)) z) tg (gz z))) (hgt:∀ z,Tgt Nt.length (gz z))
  (hc:∀ z,Hd (PIfs (cxC X scope (Nt++fr.map (·.1)) z) ifs (tz z))) (he:∀ z,Hd (PE (cxC X scope (Nt++fr.map (·.1)) z) e (ez z))) (hs:∀ x,foldedSetIterable iter X.env x=pure x:=by intro _;rfl)
  (hsw:swapsWith (.ListComp e [⟨tg,iter,ifs,0⟩] scope pos) (some (.Name y py)) spos.line X.env=pure true:=by rfl)
  (hff:X.fn y=true\/X.env.scope.names.lookup y=some .local:=by first | exact .inl rfl | exact .inr rfl | assumption) :
  Hd (PS X (.Assign [.Name y py] (.ListComp e [⟨tg,iter,ifs,0⟩] scope pos) spos) (tLCset wi Nt.length fr gz tz ez j)):=⟨ps_lc L hcalm hN hj hy hi.out (fun z=>(hg z).out) hgt (fun z=>(hc z).out) (fun z=>(he z).out) hs hsw hff⟩
end
section
variable {P:Program}{w:World}{K:PySem.W.Frag}{mg:Str->Option Value}{base:Heap}
theorem Fun.okH {x qual:Str}{st:Stmt}{f:Addr}{fd:FuncData}{N ps:List Str}{k:Nat}{sp:Sp} (F:Fun K x qual st f fd) (S:FnScope N ps (defScope st)) (len:∀ vs H Q E,sp vs H Q E->vs.length=ps.length)
  (hbody:∀ (cdv:Value) (A:Around) (outer:List Env) (s:Shared) (H:Hp) (vs:List V) (Q:VK) (E:XK),Room k (A.deeper (envOfC qual (defScope st) s.heap.objs.size f cdv))->sp vs H Q E ->
   ∃ t,Hd (PSs (cxOf CX0 P w K mg base N qual (defScope st) f cdv A outer s H E).nox (defBody st) t)/\t { nx:=fun _ H'=>Q .non H',rt:=Q } (start N vs) H):FnOk P w K mg base CX0 (k+1) f fd ps sp:=
 F.ok S len fun cdv A outer s H vs Q E hr h=>let ⟨t,h1,h2⟩:=hbody cdv A outer s H vs Q E hr h;⟨t,h1.out,h2⟩
end
end L2
end
section
namespace Kn
open PySem PySem.W PyProof.Rows
def krun {α:Type} (lt:Nat->Nat->Bool):KasT α->α
 | .ret a=>a
 | .ask i j k=>krun lt (k (lt i j))
section
variable (r:Nat->Nat)
def kat (p:Array Nat) (i:Nat):Nat:=r (p.getD i 0)
def Srt (p:Array Nat) (m:Nat):Prop:=∀ i j,i<j->j<m->kat r p i<kat r p j
variable {r}
end
end Kn
end
section
namespace Kn
open PySem
theorem sLt_total {x y:Str} (h:x≠y):sLt y x=!sLt x y:=by
 have ne:x.cps.toList≠y.cps.toList:=fun e=>h (by cases x;cases y;congr 1;exact Array.toList_inj.mp e)
 unfold sLt
 by_cases a:x.cps.toList<y.cps.toList
 ·have b:¬y.cps.toList<x.cps.toList:=fun b=>List.lt_irrefl _ (List.lt_trans a b)
  simp [a,b]
 ·have b:y.cps.toList<x.cps.toList:=Classical.byContradiction fun b=>ne (List.le_antisymm (List.not_lt.mp b) (List.not_lt.mp a))
  simp [a,b]
theorem cmpK_anti:∀ {a b:List KE}{r:Bool},cmpK a b=some r->a≠b->cmpK b a=some (!r)
 | [],[],_,_,h=>absurd rfl h
 | [],_::_,_,h,_=>by cases h;rfl
 | _::_,[],_,h,_=>by cases h;rfl
 | a::as,b::bs,r,h,hne=>by
  by_cases e:a=b
  ·subst e
   rw[cmpK_same]at h ⊢
   exact cmpK_anti h fun z=>hne (by rw[z])
  ·rw[cmpK,if_neg e]at h
   rw[cmpK,if_neg (fun z=>e z.symm)]
   cases a with
   | i m=>
    cases b with
    | i n=>
     have mn:m≠n:=fun z=>e (by rw[z])
     cases h
     show some (decide (n<m))=_
     by_cases c:m<n
     ·simp [c];lia
     ·simp [c];lia
    | s y=>cases h
   | s x=>
    cases b with
    | i n=>cases h
    | s y=>
     cases h
     show some (sLt y x)=_
     rw[sLt_total fun z=>e (by rw[z])]
theorem key_inj {x y:Val} (h:key x=key y):x=y:=by
 by_cases e:x=y
 ·exact e
 ·exfalso
  have same:∀ (l r s:List KE),cmpK (l++r) (l++s)=cmpK r s:=fun l r s=>by
   induction l with
   | nil=>rfl
   | cons a l ih=>rw[List.cons_append,List.cons_append,cmpK_same,ih]
  have h1:=cmp_key x y [.i 0] [.i 1]
  have h2:=cmp_key x y [.i 1] [.i 0]
  rw[if_neg e,h,same,cmpK_int (by decide)]at h1
  rw[if_neg e,h,same,cmpK_int (by decide)]at h2
  rw[<- h1]at h2
  exact absurd h2 (by decide)
theorem ahead_total {x y:Val} (h:x≠y):aheadB y x=!aheadB x y:=by
 have:=cmpK_anti (cmp_keys x y) fun e=>h (key_inj e)
 rw[cmp_keys]at this
 exact Option.some.inj this
theorem ahead_irrefl (x:Val):aheadB x x=false:=by unfold aheadB;rw[if_pos rfl]
theorem ahead_asymm {x y:Val} (h:aheadB x y=true):aheadB y x=false:=by
 have ne:x≠y:=fun e=>by rw[e,ahead_irrefl]at h;cases h
 rw[ahead_total ne,h];rfl
noncomputable def cnt (v:Val):List (Val×Int)->Int
 | []=>0
 | p::ps=>(if p.1=v then p.2 else 0)+cnt v ps
theorem cnt_append (v:Val) (a b:List (Val×Int)):cnt v (a++b)=cnt v a+cnt v b:=by
 induction a with
 | nil=>simp [cnt]
 | cons p a ih=>rw[List.cons_append,cnt,cnt,ih];lia
theorem cnt_none {v:Val}{a:List (Val×Int)} (h:∀ p∈a,p.1≠v):cnt v a=0:=by
 induction a with
 | nil=>rfl
 | cons p a ih=>rw[cnt,if_neg (h p List.mem_cons_self),ih fun q hq=>h q (List.mem_cons_of_mem _ hq)];rfl
def Rise (ps:List (Val×Int)):Prop:=ps.Pairwise fun p q=>aheadB p.1 q.1=true
def IsBag (xs qs:List (Val×Int)):Prop:=Rise qs/\(∀ q∈qs,q.2≠0)/\∀ v,cnt v qs=cnt v xs
theorem Rise.cnt {ps:List (Val×Int)} (h:Rise ps):∀ {p},p∈ps->Kn.cnt p.1 ps=p.2:=by
 induction ps with
 | nil=>intro p hp;cases hp
 | cons q ps ih=>
  intro p hp
  have h':=List.pairwise_cons.mp h
  rw[Kn.cnt]
  rcases List.mem_cons.mp hp with e | hm
  ·subst e
   rw[if_pos rfl,cnt_none fun r hr e=>?_]
   ·lia
   ·have:=h'.1 r hr
    rw[e,ahead_irrefl]at this
    cases this
  ·have:=h'.1 p hm
   rw[if_neg (fun e=>by rw[e,ahead_irrefl]at this;cases this),ih h'.2 hm]
   lia
theorem mem_of_cnt {ps:List (Val×Int)} (h:Rise ps) {v:Val} (hv:cnt v ps≠0):(v,cnt v ps)∈ps:=by
 have:∃ p∈ps,p.1=v:=Classical.byContradiction fun z=>hv (cnt_none fun p hp e=>z ⟨p,hp,e⟩)
 obtain⟨p,hp,e⟩:=this
 have:=h.cnt hp
 rw[e]at this
 rw[this]
 subst e
 exact hp
theorem bag_mem {xs qs:List (Val×Int)} (h:IsBag xs qs) (p:Val×Int):p∈qs ↔ (p.2≠0/\cnt p.1 xs=p.2):=by
 constructor
 ·intro hp
  exact⟨h.2.1 p hp,by rw[<- h.2.2];exact h.1.cnt hp⟩
 ·rintro⟨h1,h2⟩
  have:=mem_of_cnt h.1 (v:=p.1) (by rw[h.2.2,h2];exact h1)
  rw[h.2.2,h2]at this
  exact this
noncomputable def nAhead (v:Val) (ys:List Val):Nat:=(ys.filter fun y=>aheadB y v).length
def RiseV (ys:List Val):Prop:=ys.Pairwise fun p q=>aheadB p q=true
theorem nAhead_split {v:Val}{ys:List Val} (h:RiseV ys) (hv:v ∉ ys):(∀ y∈ys.take (nAhead v ys),aheadB y v=true)/\(∀ y∈ys.drop (nAhead v ys),aheadB v y=true):=by
 induction ys with
 | nil=>exact⟨fun y hy=>by simp at hy,fun y hy=>by simp at hy⟩
 | cons y ys ih=>
  have h':=List.pairwise_cons.mp h
  have ne:y≠v:=fun e=>hv (by rw[e];exact List.mem_cons_self)
  have ih':=ih h'.2 fun m=>hv (List.mem_cons_of_mem _ m)
  by_cases c:aheadB y v=true
  ·have e:nAhead v (y::ys)=nAhead v ys+1:=by unfold nAhead;rw[List.filter_cons,if_pos c];rfl
   rw[e]
   refine⟨fun z hz=>?_,fun z hz=>?_⟩
   ·rw[List.take_succ_cons]at hz
    rcases List.mem_cons.mp hz with e | m
    ·rw[e];exact c
    ·exact ih'.1 z m
   ·exact ih'.2 z hz
  ·have c':aheadB v y=true:=by
    have:=ahead_total ne
    rw[this]
    simpa using c
   have no:nAhead v ys=0:=by
    unfold nAhead
    rw[List.length_eq_zero_iff,List.filter_eq_nil_iff]
    intro z hz cz
    have:=ahead_trans c' (h'.1 z hz)
    rw[ahead_asymm this]at cz
    cases cz
   have e:nAhead v (y::ys)=0:=by unfold nAhead at no ⊢;rw[List.filter_cons,if_neg c];exact no
   rw[e]
   refine⟨fun z hz=>by simp at hz,fun z hz=>?_⟩
   rw[List.drop_zero]at hz
   rcases List.mem_cons.mp hz with e | m
   ·rw[e];exact c'
   ·exact ahead_trans c' (h'.1 z m)
theorem rise_put {v:Val}{ys:List Val} (h:RiseV ys) (hv:v ∉ ys):RiseV (ys.take (nAhead v ys)++v::ys.drop (nAhead v ys)):=by
 obtain⟨h1,h2⟩:=nAhead_split h hv
 refine List.pairwise_append.mpr ⟨h.sublist (List.take_sublist _ _),List.pairwise_cons.mpr ⟨h2,h.sublist (List.drop_sublist _ _)⟩,fun a ha b hb=>?_⟩
 rcases List.mem_cons.mp hb with e | m
 ·rw[e];exact h1 a ha
 ·exact ahead_trans (h1 a ha) (h2 b m)
end Kn
end
section
namespace Kn
open PySem PySem.W PyProof.Rows
section
variable {n:Nat} (h0:0<n)
include h0
end
def vAt (xs:List Val) (i:Nat):Val:=xs[i]?.getD (.num 0)
end Kn
end
section
namespace L2
open PySem PySem.Spec PyProof.Rows PySem.W
open Kn (KE cmpK kEl sLt key aheadB RiseV vAt)
def kk:KE->Key
 | .i n=>.inl n
 | .s x=>.inr x
section
variable {prog:Program}{w:World}{A:Around}{E:Value->Shared->Prop}{s:Shared}
end
section
variable {X:Cx}
end
end L2
end
section
namespace L2
open PySem PySem.Spec PyProof.Rows
section
variable {X:Cx}
variable {pos:Pos}{e f o:Expr}{te tf to:TE}
end
end L2
end
section
namespace L2
open PySem PySem.Spec PyProof.Rows
section
variable {X:Cx}
def Its (x:Str):It:=⟨fun i _=>i<x.cps.size,fun i H v H'=>H'=H/\∃ c,x.cps[i]?=some c/\v=.str ⟨#[c]⟩,fun i _=>x.cps.size<=i⟩
theorem turn_str {P:Program}{w:World}{K:PySem.W.Frag}{tg:Expr} (it:Addr) (x:Str) (t:Tok):Turn P w K tg (Its x) [it] it (fun i h=>h.IsStrIter it "str_ascii_iterator" x t i) where
 mem:=by simp
 obj:=fun i h st b hb=>by
  have e:b=it:=by simpa using hb
  subst e
  obtain⟨o,q,_,d⟩:=st
  exact⟨_,q,fun v z=>by rw[d]at z;cases z⟩
 keep:=fun i h h' st k=>by
  obtain⟨o,q,r⟩:=st
  exact⟨o,k it (by simp) _ q,r⟩
 item:=by
  intro X hP hw hK hc i pins s σ H E I hf st hg
  subst hP hw hK
  obtain⟨f0,f1,f2,f3,f4,f5⟩:=hf it (by simp)
  have hi:i<x.cps.size:=hg
  have hx:x.cps[i]?=some x.cps[i]:=Array.getElem?_eq_getElem hi
  refine wpAny_pyNext_ascii_item st hx fun h' st' sb=>?_
  have I1:Inv X pins σ H { s with heap:=h',toks:=s.toks+1 }:=I.turned (t':=s.toks+1) (fun b o hb e=>(sb.2 b hb).trans e) f0 f1 f3 f4 f5
  obtain⟨o,e,c,d⟩:=id st'
  exact⟨_,rfl,go_of (s:={ s with heap:=h',toks:=s.toks+1 }) e c d (by decide) ⟨.str ⟨#[x.cps[i]]⟩,H,I1,⟨_,rfl⟩,⟨rfl,_,hx,rfl⟩,st',fun b hb=>(hf b hb).1⟩⟩
 done:=by
  intro X hP hw hK hc i pins s σ H E I hf st hg
  subst hP hw hK
  obtain⟨f0,f1,f2,f3,f4,f5⟩:=hf it (by simp)
  have hi:x.cps.size<=i:=hg
  exact wpAny_pyNext_ascii_end (I.ok.hd hc) st (Array.getElem?_eq_none hi) fun h' eb=>⟨rfl,I.turned (t':=s.toks) (fun b o hb e=>eb b o hb e) f0 f1 f3 f4 f5⟩
 self:=fun _ _ _ _ _ st h=>wpAny_pyIter_striter_ascii st h
def iStr (tl:TE):TI:=fun σ H R=>tl σ H fun v H1=>∃ x,v=.str x/\x.cps.all (·<128)=true/\R (Its x) H1
theorem pi_str {tg l:Expr}{tl:TE} (hl:PE X l tl):PI X tg l (iStr tl):=by
 intro pins s σ H R I h
 refine thn (hl pins s σ H _ I h) fun v s1 ⟨x,H1,I1,r1,q1⟩=>?_
 obtain⟨z,e,ha,q⟩:=q1
 subst e
 obtain⟨t,rfl⟩:=r1
 refine wpAny_pyIter_ascii ha ?_
 refine⟨s1.heap.objs.size,[s1.heap.objs.size],_,_,H1,rfl,I1.kept (t':=s1.toks) fun b o e=>Heap.get?_push_of_some _ e,turn_str _ z t,⟨_,Heap.get?_push_size _ rfl,rfl,rfl⟩,fun b hb=>?_,q⟩
 have e:b=s1.heap.objs.size:=by simpa using hb
 subst e
 exact I1.fpOk (Nat.le_refl _) (I1.hok.fresh (Nat.le_refl _))
theorem wi_str {tg l:Expr}{tl:TE} (hl:Hd (PE X l tl)):Hd (PI X tg l (iStr tl)):=⟨pi_str hl.out⟩
end
end L2
end
section
namespace L2
open PySem PySem.Spec PyProof.Rows
section
variable {X:Cx}
end
end L2
end
section
namespace Kn
open PySem
def isNum (c:Nat):Bool:=c == 45 || (decide (48<=c) && decide (c<=57))
def isLet (c:Nat):Bool:=decide (97<=c) && decide (c<=122)
def stop (r:List Nat):Prop:=∀ c t,r=c::t->isNum c=false/\isLet c=false
def lets (s:Str):Prop:=∀ c∈s.cps.toList,isLet c=true
end Kn
end
section
namespace Kn
open PySem L2
mutual
def dat:Val->Dt
 | .num i=>.tup [.str "num",.int i]
 | .word s=>.tup [.str "word",.str s]
 | .row ps=>.tup [.str "row",.tup (datR ps)]
 | .bag ps=>.tup [.str "bag",.tup (datB ps)]
def datR:List (Str×Val)->List Dt
 | []=>[]
 | p::ps=>.tup [.str p.1,dat p.2]::datR ps
def datB:List (Val×Int)->List Dt
 | []=>[]
 | p::ps=>.tup [dat p.1,.int p.2]::datB ps
end
theorem datR_map (ps:List (Str×Val)):datR ps=ps.map fun p=>.tup [.str p.1,dat p.2]:=by
 induction ps with
 | nil=>rw[datR];rfl
 | cons p ps ih=>rw[datR,ih];rfl
theorem datB_map (ps:List (Val×Int)):datB ps=ps.map fun p=>.tup [dat p.1,.int p.2]:=by
 induction ps with
 | nil=>rw[datB];rfl
 | cons p ps ih=>rw[datB,ih];rfl
mutual
theorem dat_inj:∀ {x y:Val},dat x=dat y->x=y
 | .num i,.num j,h=>by simp only[dat]at h;injection h with h;injection h with _ h;injection h with h;injection h with h;rw[h]
 | .word i,.word j,h=>by simp only[dat]at h;injection h with h;injection h with _ h;injection h with h;injection h with h;rw[h]
 | .row ps,.row qs,h=>by simp only[dat]at h;injection h with h;injection h with _ h;injection h with h;injection h with h;rw[datR_inj h]
 | .bag ps,.bag qs,h=>by simp only[dat]at h;injection h with h;injection h with _ h;injection h with h;injection h with h;rw[datB_inj h]
 | .num _,.word _,h=>by simp only[dat]at h;injection h with h;injection h with h _;injection h with h;exact absurd h (by decide +kernel)
 | .num _,.row _,h=>by simp only[dat]at h;injection h with h;injection h with h _;injection h with h;exact absurd h (by decide +kernel)
 | .num _,.bag _,h=>by simp only[dat]at h;injection h with h;injection h with h _;injection h with h;exact absurd h (by decide +kernel)
 | .word _,.num _,h=>by simp only[dat]at h;injection h with h;injection h with h _;injection h with h;exact absurd h (by decide +kernel)
 | .word _,.row _,h=>by simp only[dat]at h;injection h with h;injection h with h _;injection h with h;exact absurd h (by decide +kernel)
 | .word _,.bag _,h=>by simp only[dat]at h;injection h with h;injection h with h _;injection h with h;exact absurd h (by decide +kernel)
 | .row _,.num _,h=>by simp only[dat]at h;injection h with h;injection h with h _;injection h with h;exact absurd h (by decide +kernel)
 | .row _,.word _,h=>by simp only[dat]at h;injection h with h;injection h with h _;injection h with h;exact absurd h (by decide +kernel)
 | .row _,.bag _,h=>by simp only[dat]at h;injection h with h;injection h with h _;injection h with h;exact absurd h (by decide +kernel)
 | .bag _,.num _,h=>by simp only[dat]at h;injection h with h;injection h with h _;injection h with h;exact absurd h (by decide +kernel)
 | .bag _,.word _,h=>by simp only[dat]at h;injection h with h;injection h with h _;injection h with h;exact absurd h (by decide +kernel)
 | .bag _,.row _,h=>by simp only[dat]at h;injection h with h;injection h with h _;injection h with h;exact absurd h (by decide +kernel)
theorem datR_inj:∀ {ps qs:List (Str×Val)},datR ps=datR qs->ps=qs
 | [],[],_=>rfl
 | [],q::qs,h=>by simp only[datR]at h;cases h
 | p::ps,[],h=>by simp only[datR]at h;cases h
 | p::ps,q::qs,h=>by
  simp only[datR]at h
  injection h with h1 h2
  injection h1 with h1
  injection h1 with h3 h4
  injection h3 with h3
  injection h4 with h4 _
  rw[datR_inj h2,Prod.ext h3 (dat_inj h4)]
theorem datB_inj:∀ {ps qs:List (Val×Int)},datB ps=datB qs->ps=qs
 | [],[],_=>rfl
 | [],q::qs,h=>by simp only[datB]at h;cases h
 | p::ps,[],h=>by simp only[datB]at h;cases h
 | p::ps,q::qs,h=>by
  simp only[datB]at h
  injection h with h1 h2
  injection h1 with h1
  injection h1 with h3 h4
  injection h4 with h4 _
  injection h4 with h4
  rw[datB_inj h2,Prod.ext (dat_inj h3) h4]
end
def Bd (b:Nat):Nat->Val->Prop
 | _,.num _=>True
 | _,.word s=>s.length<=100
 | 0,.row ps=>ps=[]
 | 0,.bag ps=>ps=[]
 | d+1,.row ps=>ps.length<=b/\∀ p∈ps,p.1.length<=100/\Bd b d p.2
 | d+1,.bag ps=>ps.length<=b/\∀ p∈ps,Bd b d p.1
theorem Bd.mono {b c:Nat} (h:b<=c):∀ {d:Nat}{x:Val},Bd b d x->Bd c d x
 | 0,.num _,_=>by simp only[Bd]
 | _+1,.num _,_=>by simp only[Bd]
 | 0,.word s,q=>by simp only[Bd]at q ⊢;exact q
 | _+1,.word s,q=>by simp only[Bd]at q ⊢;exact q
 | 0,.row ps,q=>by simp only[Bd]at q ⊢;exact q
 | 0,.bag ps,q=>by simp only[Bd]at q ⊢;exact q
 | d+1,.row ps,q=>by simp only[Bd]at q ⊢;exact⟨Nat.le_trans q.1 h,fun p hp=>⟨(q.2 p hp).1,Bd.mono h (q.2 p hp).2⟩⟩
 | d+1,.bag ps,q=>by simp only[Bd]at q ⊢;exact⟨Nat.le_trans q.1 h,fun p hp=>Bd.mono h (q.2 p hp)⟩
theorem bd_num {b d:Nat}{i:Int}:Bd b d (.num i):=by cases d <;> simp only[Bd]
theorem bd_word {b d:Nat}{s:Str} (h:s.length<=100):Bd b d (.word s):=by cases d <;> (simp only[Bd];exact h)
theorem bd_row0 {b d:Nat}:Bd b d (.row []):=by cases d <;> simp [Bd]
theorem bd_bag0 {b d:Nat}:Bd b d (.bag []):=by cases d <;> simp [Bd]
theorem depL_le {ds:List Dt}{n:Nat} (h:∀ d∈ds,d.dep<=n):depL ds<=n:=by
 induction ds with
 | nil=>rw[depL];exact Nat.zero_le _
 | cons d ds ih=>
  rw[depL]
  have h1:=h d List.mem_cons_self
  have h2:=ih fun e he=>h e (List.mem_cons_of_mem _ he)
  lia
theorem dep_two (a b:Dt):(Dt.tup [a,b]).dep=max a.dep b.dep+1:=by simp only[Dt.dep,depL];lia
theorem dep_dat {b:Nat}:∀ {d:Nat}{x:Val},Bd b d x->(dat x).dep<=3 * d+2
 | d,.num _,_=>by rw[dat,dep_two,Dt.dep,Dt.dep];lia
 | d,.word _,_=>by rw[dat,dep_two,Dt.dep,Dt.dep];lia
 | 0,.row ps,q=>by simp only[Bd]at q;subst q;rw[dat,dep_two,Dt.dep,datR,Dt.dep,depL];lia
 | 0,.bag ps,q=>by simp only[Bd]at q;subst q;rw[dat,dep_two,Dt.dep,datB,Dt.dep,depL];lia
 | d+1,.row ps,q=>by
  simp only[Bd]at q
  have h:depL (datR ps)<=3 * d+3:=by
   rw[datR_map]
   refine depL_le fun e he=>?_
   obtain⟨p,hp,rfl⟩:=List.mem_map.mp he
   have:=dep_dat (q.2 p hp).2
   rw[dep_two,Dt.dep]
   lia
  rw[dat,dep_two,Dt.dep,Dt.dep]
  lia
 | d+1,.bag ps,q=>by
  simp only[Bd]at q
  have h:depL (datB ps)<=3 * d+3:=by
   rw[datB_map]
   refine depL_le fun e he=>?_
   obtain⟨p,hp,rfl⟩:=List.mem_map.mp he
   have:=dep_dat (q.2 p hp)
   rw[dep_two,Dt.dep]
   lia
  rw[dat,dep_two,Dt.dep,Dt.dep]
  lia
def IsVal (H:Hp) (x:Val) (v:V):Prop:=IsDt H (dat x) v
end Kn
end
section
namespace Kn
open PySem L2
inductive Kd where
 | num
 | word
 | row (ps:List (Str×Kd))
 | bag (k:Kd)
def KB:Nat->Kd->Prop
 | _,.num=>True
 | _,.word=>True
 | 0,.row ps=>ps=[]
 | 0,.bag _=>False
 | d+1,.row ps=>∀ p∈ps,lets p.1/\p.1.length<=9/\KB d p.2
 | d+1,.bag k=>KB d k
theorem KB.up:∀ {d:Nat}{x:Kd},KB d x->KB (d+1) x
 | 0,.num,_=>by simp only[KB]
 | _+1,.num,_=>by simp only[KB]
 | 0,.word,_=>by simp only[KB]
 | _+1,.word,_=>by simp only[KB]
 | 0,.row ps,q=>by simp only[KB]at q;subst q;simp [KB]
 | 0,.bag k,q=>by simp only[KB]at q
 | d+1,.row ps,q=>by
  simp only[KB]at q
  rw[KB]
  exact fun p hp=>⟨(q p hp).1,(q p hp).2.1,KB.up (q p hp).2.2⟩
 | d+1,.bag k,q=>by
  simp only[KB]at q
  rw[KB]
  exact KB.up q
theorem kb_num {d:Nat}:KB d .num:=by cases d <;> simp only[KB]
theorem kb_word {d:Nat}:KB d .word:=by cases d <;> simp only[KB]
def cod (l:List Str):List Nat:=l.flatMap fun s=>s.cps.toList
theorem cod_cons (s:Str) (l:List Str):cod (s::l)=s.cps.toList++cod l:=List.flatMap_cons
theorem cps_app (a b:Str):(a++b).cps.toList=a.cps.toList++b.cps.toList:=by
 show (a.cps++b.cps).toList=_
 rw[Array.toList_append]
theorem glue_cod (g:Str):∀ (ps:List Str) (acc:Array Nat),(ps.foldl (fun acc p=>acc++g.cps++p.cps) acc).toList=acc.toList++ps.flatMap fun p=>g.cps.toList++p.cps.toList
 | [],acc=>by simp
 | p::ps,acc=>by
  rw[List.foldl_cons,glue_cod g ps,List.flatMap_cons,Array.toList_append,Array.toList_append]
  simp [List.append_assoc]
theorem join_cod (g:Str) (p:Str) (ps:List Str):(Txt.join g (p::ps)).cps.toList=p.cps.toList++ps.flatMap fun q=>g.cps.toList++q.cps.toList:=by
 show (((p::ps).drop 1).foldl (fun acc p=>acc++g.cps++p.cps) ((p::ps).headD Str.empty).cps).toList=_
 rw[glue_cod]
 rfl
theorem join_nil (g:Str):(Txt.join g []).cps.toList=[]:=by
 show (([]:List Str).foldl (fun acc p=>acc++g.cps++p.cps) Str.empty.cps).toList=_
 rfl
theorem join_empty (ps:List Str):(Txt.join (Str.ofString "") ps).cps.toList=cod ps:=by
 have e:(Str.ofString "").cps.toList=[]:=by decide +kernel
 cases ps with
 | nil=>rw[join_nil];rfl
 | cons p ps=>rw[join_cod,e,cod_cons];rfl
end Kn
end
section
namespace Kn
open PySem L2
def tagS:Val->Str
 | .num _=>"num"
 | .word _=>"word"
 | .row _=>"row"
 | .bag _=>"bag"
def restD:Val->Dt
 | .num i=>.int i
 | .word s=>.str s
 | .row ps=>.tup (datR ps)
 | .bag ps=>.tup (datB ps)
theorem dat_two (x:Val):dat x=.tup [.str (tagS x),restD x]:=by cases x <;> rw[dat] <;> rfl
end Kn
end
section
namespace Kn
open PySem L2
theorem ahead_self (x:Val):aheadB x x=false:=by unfold aheadB;rw[if_pos rfl]
theorem ahead_ne {x y:Val} (h:x≠y):aheadB x y=ltV x y:=by unfold aheadB;rw[if_neg h]
theorem ahead_tag {x y:Val} (h:tagS x≠tagS y):aheadB x y=decide (rank x<rank y):=by
 have ne:x≠y:=fun z=>h (by rw[z])
 rw[ahead_ne ne]
 cases x <;> cases y <;> first
  | exact absurd rfl h
  | simp [ltV]
theorem ltR_at:∀ {ps qs:List (Str×Val)}{i:Nat}{p q:Str×Val},ps.take i=qs.take i->ps[i]?=some p->qs[i]?=some q->p≠q->ltR ps qs=if p.1=q.1 then ltV p.2 q.2 else sLt p.1 q.1
 | [],qs,i,p,q,_,h,_,_=>by simp at h
 | _::_,[],i,p,q,_,_,h,_=>by simp at h
 | a::ps,b::qs,0,p,q,_,h1,h2,hn=>by
  simp at h1 h2
  subst h1 h2
  rw[ltR,if_neg hn]
 | a::ps,b::qs,i+1,p,q,h,h1,h2,hn=>by
  rw[List.take_succ_cons,List.take_succ_cons]at h
  injection h with e1 e2
  subst e1
  rw[ltR,if_pos rfl]
  exact ltR_at e2 (by simpa using h1) (by simpa using h2) hn
theorem ltR_end:∀ {ps qs:List (Str×Val)},ps.take (min ps.length qs.length)=qs.take (min ps.length qs.length)->ltR ps qs=decide (ps.length<qs.length)
 | [],[],_=>by rw[ltR];rfl
 | [],q::qs,_=>by rw[ltR];simp
 | p::ps,[],_=>by rw[ltR];simp
 | p::ps,q::qs,h=>by
  have e:min (p::ps).length (q::qs).length=min ps.length qs.length+1:=by simp only[List.length_cons];lia
  rw[e,List.take_succ_cons,List.take_succ_cons]at h
  injection h with e1 e2
  subst e1
  rw[ltR,if_pos rfl,ltR_end e2]
  simp
theorem ltB_at:∀ {ps qs:List (Val×Int)}{i:Nat}{p q:Val×Int},ps.take i=qs.take i->ps[i]?=some p->qs[i]?=some q->p≠q->ltB ps qs=if p.1=q.1 then decide (p.2<q.2) else ltV p.1 q.1
 | [],qs,i,p,q,_,h,_,_=>by simp at h
 | _::_,[],i,p,q,_,_,h,_=>by simp at h
 | a::ps,b::qs,0,p,q,_,h1,h2,hn=>by
  simp at h1 h2
  subst h1 h2
  rw[ltB,if_neg hn]
 | a::ps,b::qs,i+1,p,q,h,h1,h2,hn=>by
  rw[List.take_succ_cons,List.take_succ_cons]at h
  injection h with e1 e2
  subst e1
  rw[ltB,if_pos rfl]
  exact ltB_at e2 (by simpa using h1) (by simpa using h2) hn
theorem ltB_end:∀ {ps qs:List (Val×Int)},ps.take (min ps.length qs.length)=qs.take (min ps.length qs.length)->ltB ps qs=decide (ps.length<qs.length)
 | [],[],_=>by rw[ltB];rfl
 | [],q::qs,_=>by rw[ltB];simp
 | p::ps,[],_=>by rw[ltB];simp
 | p::ps,q::qs,h=>by
  have e:min (p::ps).length (q::qs).length=min ps.length qs.length+1:=by simp only[List.length_cons];lia
  rw[e,List.take_succ_cons,List.take_succ_cons]at h
  injection h with e1 e2
  subst e1
  rw[ltB,if_pos rfl,ltB_end e2]
  simp
theorem pick (b:Bool):atI [V.int 1,V.int (-1)] (if b=true then 1 else 0)=some (.int (if b=true then -1 else 1)):=by cases b <;> rfl
theorem pick_lt (b:Bool):decide ((if b=true then (-1:Int) else 1)<0)=b:=by cases b <;> rfl
inductive Pr where
 | r (f:Str) (x:Val)
 | b (x:Val) (n:Int)
def Pr.dat:Pr->Dt
 | .r f x=>.tup [.str f,Kn.dat x]
 | .b x n=>.tup [Kn.dat x,.int n]
def Pr.tag:Pr->Str
 | .r _ _=>"row"
 | .b _ _=>"bag"
noncomputable def Pr.lt:Pr->Pr->Bool
 | .r f x,.r g y=>if f=g then ltV x y else sLt f g
 | .b x n,.b y m=>if x=y then decide (n<m) else ltV x y
 | _,_=>false
end Kn
end
section
namespace Kn
open PySem L2
mutual
def vsz:Val->Nat
 | .num _=>1
 | .word _=>1
 | .row ps=>1+vszR ps
 | .bag ps=>1+vszB ps
def vszR:List (Str×Val)->Nat
 | []=>0
 | p::ps=>vsz p.2+vszR ps
def vszB:List (Val×Int)->Nat
 | []=>0
 | p::ps=>vsz p.1+vszB ps
end
theorem vszR_map (ps:List (Str×Val)):vszR ps=(ps.map fun p=>vsz p.2).sum:=by
 induction ps with
 | nil=>rw[vszR];rfl
 | cons p ps ih=>rw[vszR,ih];rfl
theorem vszB_map (ps:List (Val×Int)):vszB ps=(ps.map fun p=>vsz p.1).sum:=by
 induction ps with
 | nil=>rw[vszB];rfl
 | cons p ps ih=>rw[vszB,ih];rfl
mutual
def Gv (N C:Nat):Val->Prop
 | .num i=>i.natAbs<N
 | .word s=>lets s/\s.length<=9
 | .row ps=>GvR N C ps
 | .bag ps=>GvB N C ps
def GvR (N C:Nat):List (Str×Val)->Prop
 | []=>True
 | p::ps=>(lets p.1/\p.1.length<=9/\Gv N C p.2)/\GvR N C ps
def GvB (N C:Nat):List (Val×Int)->Prop
 | []=>True
 | p::ps=>(Gv N C p.1/\p.2.natAbs<C)/\GvB N C ps
end
theorem GvR_mem {N C:Nat}{ps:List (Str×Val)}:GvR N C ps ↔ ∀ p∈ps,lets p.1/\p.1.length<=9/\Gv N C p.2:=by
 induction ps with
 | nil=>simp [GvR]
 | cons p ps ih=>rw[GvR,ih];simp
theorem GvB_mem {N C:Nat}{ps:List (Val×Int)}:GvB N C ps ↔ ∀ p∈ps,Gv N C p.1/\p.2.natAbs<C:=by
 induction ps with
 | nil=>simp [GvB]
 | cons p ps ih=>rw[GvB,ih];simp
end Kn
end
section
namespace K09
open PySem L2
def top (i:Nat):Stmt:=PySem.Challenge.pw_keptnest_k09_is_of.main.body.getD i (.Pass ⟨0,0,0,0⟩)
def bd (i j:Nat):Stmt:=(defBody (top i)).getD j (.Pass ⟨0,0,0,0⟩)
structure Tx (mg:Str->Option Value):Prop where
 z_len:mg "len"=none
 z_int:mg "int"=none
 z_tuple:mg "tuple"=none
 z_range:mg "range"=none
 z_isinstance:mg "isinstance"=none
 z_zip:mg "zip"=none
 z_sorted:mg "sorted"=none
 z_abs:mg "abs"=none
 z_str:mg "str"=none
 z_enumerate:mg "enumerate"=none
 z_dict:mg "dict"=none
 z_bool:mg "bool"=none
def Dk (H:Hp) (p:Addr) (n r:Int):Prop:=∃ c f m c0:Int,H p=some (.lst [.int c,.int f,.int m,.int r,.int c0])/\0<=m/\m<=n
def Ex (p:Addr) (H H':Hp):Prop:=∀ b o,b≠p->H b=some o->H' b=some o
theorem Ex.refl (p:Addr) (H:Hp):Ex p H H:=fun _ _ _ h=>h
theorem Ex.trans {p:Addr}{H H1 H2:Hp} (a:Ex p H H1) (b:Ex p H1 H2):Ex p H H2:=fun c o n h=>b c o n (a c o n h)
theorem ex_upd {p:Addr}{H:Hp}{o:HO}:Ex p H (upd H p o):=fun b u n h=>by rw[upd_ne n];exact h
theorem ex_new {p q:Addr}{H:Hp}{o:HO} (h:H q=none):Ex p H (upd H q o):=fun b u n e=>by rw[upd_ne (ne_of_none e h)];exact e
theorem Dk.mono {H:Hp}{p:Addr}{n m r:Int} (h:Dk H p n r) (l:n<=m):Dk H p m r:=by
 obtain⟨c,f,k,c0,e,a,b⟩:=h;exact⟨c,f,k,c0,e,a,by lia⟩
theorem Dk.keep {H H':Hp}{p:Addr}{n r:Int} (h:Dk H p n r) (s:Same H H'):Dk H' p n r:=by
 obtain⟨c,f,k,c0,e,a,b⟩:=h;exact⟨c,f,k,c0,s _ _ e,a,b⟩
theorem Dk.new {H:Hp}{p q:Addr}{n r:Int}{o:HO} (h:Dk H p n r) (hq:H q=none):Dk (upd H q o) p n r:=by
 obtain⟨c,f,k,c0,e,a,b⟩:=h;exact⟨c,f,k,c0,by rw[upd_ne (ne_of_none e hq)];exact e,a,b⟩
theorem Dk.off {H:Hp}{p q:Addr}{n r:Int}{o:HO} (h:Dk H p n r) (hq:p≠q):Dk (upd H q o) p n r:=by
 obtain⟨c,f,k,c0,e,a,b⟩:=h;exact⟨c,f,k,c0,by rw[upd_ne hq];exact e,a,b⟩
theorem Dk.tups {H H':Hp}{p:Addr}{n r:Int} (h:Dk H p n r) (x:Ex p H H'):Tups H H':=fun b xs e=>by
 obtain⟨c,f,k,c0,e',_⟩:=h
 exact x b _ (ne_of e e' (by intro z;cases z)) e
section
variable {P:Program}{w:World}{K:PySem.W.Frag}{mg:Str->Option Value}{base:Heap}{f:Addr}{fd:FuncData}
theorem u110 {k:Nat}{A:Around} (hr:Room k A):A.units+110<cLine:=by have:=hr.un;lia
theorem u0 {k:Nat}{A:Around} (hr:Room k A):A.units<cLine:=by have:=hr.un;lia
theorem Zbh:FnScope ["script","k"] ["script","k"] (defScope (top 5)):=⟨rfl,rfl,rfl,by decide +kernel,rfl,by decide +kernel,by decide +kernel⟩
def spCell (K:PySem.W.Frag):Sp:=fun vs H Q _=>∃ (a:Addr) (ns:List Int) (k:Int),vs=[.ref a,.int k]/\SqL K H a (ns.map V.int)/\0<=k/\∀ i:Int,Q (.int i) H
theorem ok_cell (T:Tx mg) (D:Df K mg "_law_cell_at" (top 5) f fd ["script","k"]):FnOk P w K mg base CX0 1 f fd ["script","k"] (spCell K):=by
 refine D.fn.okH Zbh (fun vs H Q E h=>?_) (fun cdv A outer s H vs Q E hr h=>?_)
 ·obtain⟨a,ns,k,rfl,_⟩:=h;rfl
 obtain⟨a,ns,k,rfl,hS,h0,q⟩:=h
 have hu:=u110 hr
 have hu0:=u0 hr
 have hu1:=hu_of hr
 refine⟨_,(wss_cons (ws_if (wt_cmpR (op_ltU hu0) (wv 1) (we_callB call_lenU rfl T.z_len bt_len (wa_cons (wv 0) wa_nil)) (nomark _)) (wss_one (ws_ret (we_ix (ix_U hu1) (wv 0) (wv 1) (fun _ _=>rfl)))) wss_nil)
   (wss_one (ws_ret we_int))),?_⟩
 refine⟨_,rfl,_,rfl,.inl ⟨a,_,rfl,.inl hS,.inl ⟨_,_,rfl,rfl,_,rfl,?_⟩⟩⟩
 refine ite2 (fun c=>?_) (fun c=>?_)
 ·have c':k<((ns.map V.int).length:Int):=of_decide_eq_true c
  rw[List.length_map]at c'
  have hk:k.toNat<ns.length:=by lia
  refine⟨_,rfl,_,rfl,.inl ⟨a,_,_,_,rfl,rfl,hS,?_,q ns[k.toNat]⟩⟩
  have e:((k.toNat:Nat):Int)=k:=by lia
  have z:atI (ns.map V.int) ((k.toNat:Nat):Int)=some (.int ns[k.toNat]):=atI_nat (by rw[List.getElem?_map,List.getElem?_eq_getElem hk] <;> rfl)
  rw[e]at z
  exact z
 ·exact q 0
theorem Zbi:FnScope ["cell","room"] ["cell","room"] (defScope (top 6)):=⟨rfl,rfl,rfl,by decide +kernel,rfl,by decide +kernel,by decide +kernel⟩
def spDeck:Sp:=fun vs H Q _=>∃ c r:Int,vs=[.int c,.int r]/\∀ p H',H p=none->Same H H'->Dk H' p 0 r->Q (.ref p) H'
theorem same_new {H:Hp}{p:Addr} (h:H p=none) (o:HO):Same H (upd H p o):=fun b u q=>by rw[upd_ne (ne_of_none q h)];exact q
theorem ok_deck (T:Tx mg) (D:Df K mg "_law_deck" (top 6) f fd ["cell","room"]):FnOk P w K mg base CX0 1 f fd ["cell","room"] spDeck:=by
 refine D.fn.okH Zbi (fun vs H Q E h=>?_) (fun cdv A outer s H vs Q E hr h=>?_)
 ·obtain⟨a,r,rfl,_⟩:=h;rfl
 obtain⟨c,r,rfl,q⟩:=h
 have hu:=u110 hr
 refine⟨_,(wss_one (ws_ret (we_lst (wa_cons (wv 0) (wa_cons (we_callTy call_int1 rfl T.z_int bt_int (wa_cons (we_cmpR op_ge (wv 0) (we_op op_pow we_int we_int) (nomark _)) wa_nil)) (wa_cons we_int (wa_cons (wv 1) (wa_cons (wv 0) wa_nil)))))))),?_⟩
 refine⟨_,rfl,_,rfl,_,_,rfl,rfl,⟨by decide,by decide,by decide⟩,_,_,rfl,rfl,.inr ⟨_,rfl,_,rfl,_,rfl,(by show 5<=sizeLine;decide),fun p hp=>?_⟩⟩
 exact q p _ hp (same_new hp _) ⟨_,_,0,_,upd_same,by decide,by decide⟩
theorem bm (a k:Int) (h:0<k) (h2:k<2 ^ 64):-(2 ^ 64)<a % k/\a % k<2 ^ 64:=by
 have h1:=Int.emod_nonneg a (by lia:k≠0)
 have h3:=Int.emod_lt_of_pos a h
 lia
theorem ZaM:FnScope ["deck","many","found","number"] ["deck","many"] (defScope (top 7)):=⟨rfl,rfl,rfl,by decide +kernel,rfl,by decide +kernel,by decide +kernel⟩
def spNext:Sp:=fun vs H Q _=>∃ (p:Addr) (n r many:Int),vs=[.ref p,.int many]/\Dk H p n r/\n<1000000000000/\0<many/\many<1073741824 /\
 ∀ (x:Int) (H':Hp),0<=x->x<many->Ex p H H'->Dk H' p (n+1) r->Q (.int x) H'
theorem ok_next (T:Tx mg) (D:Df K mg "_law_next" (top 7) f fd ["deck","many"]):FnOk P w K mg base CX0 1 f fd ["deck","many"] spNext:=by
 refine D.fn.okH ZaM (fun vs H Q E h=>?_) (fun cdv A outer s H vs Q E hr h=>?_)
 ·obtain⟨p,n,r,many,rfl,_⟩:=h;rfl
 obtain⟨p,n,r,many,rfl,⟨c,f0,m,c0,hp,hm0,hmn⟩,hn,h0,h1,q⟩:=h
 have hu:=u110 hr
 have hu1:=hu_of hr
 refine⟨_,(wss_cons (ws_if (wt_pw (ww_and (wt_cmpR (op_eqU hu) (we_ix (ix_U hu1) (wv 0) we_int (fun _ _=>rfl)) we_int (nomark _)) (ww_and1 (wt_cmpR op_gt (we_ix (ix_U hu1) (wv 0) we_int (fun _ _=>rfl)) we_int (nomark _))))) (wss_cons (ws_set (i:=2) ZaM.nd rfl (Or.inl rfl) (we_op op_mod (we_ix (ix_U hu1) (wv 0) we_int (fun _ _=>rfl)) (wv 1)))
   (wss_cons (ws_asg (we_op op_fdiv (we_ix (ix_U hu1) (wv 0) we_int (fun _ _=>rfl)) (wv 1)) (wg_sub (wv 0) we_int (set_U hu1)))
   (wss_one (ws_ret (wv 2))))) wss_nil)
   (wss_cons (ws_asg (we_op op_plus (we_ix (ix_U hu1) (wv 0) we_int (fun _ _=>rfl)) we_int) (wg_sub (wv 0) we_int (set_U hu1)))
   (wss_cons (ws_set (i:=3) ZaM.nd rfl (Or.inl rfl) (we_op op_plus (we_op op_mod (we_ix (ix_U hu1) (wv 0) we_int (fun _ _=>rfl)) we_int) (we_op op_mul (we_op op_mul we_int (we_ix (ix_U hu1) (wv 0) we_int (fun _ _=>rfl))) (we_ix (ix_U hu1) (wv 0) we_int (fun _ _=>rfl)))))
   (wss_cons (ws_set (i:=3) ZaM.nd rfl (Or.inl rfl) (we_op op_mod (we_op op_plus (wv 3) (we_op op_mul we_int (we_ix (ix_U hu1) (wv 0) we_int (fun _ _=>rfl)))) we_int))
   (wss_cons (ws_set (i:=3) ZaM.nd rfl (Or.inl rfl) (we_op op_mod (we_op op_mul (wv 3) (wv 3)) we_int))
   (wss_one (ws_ret (we_op op_mod (we_op op_fdiv (we_op op_mod (we_op op_mul (wv 3) (we_op op_plus (wv 3) we_int)) we_int) we_int) (wv 1))))))))),?_⟩
 refine⟨_,rfl,.inl ⟨p,_,_,_,rfl,rfl,SqL.of hp,rfl,.inl ⟨rfl,_,rfl,?_⟩⟩⟩
 refine ite2 (fun e1=>?a) (fun e1=>?b)
 case' a=>
  refine⟨_,rfl,.inl ⟨p,_,_,_,rfl,rfl,SqL.of hp,rfl,_,_,rfl,rfl,_,rfl,?_⟩⟩
  refine ite2 (fun e2=>?d) (fun e2=>?e)
 case d=>
  refine⟨_,rfl,.inl ⟨p,_,_,_,rfl,rfl,SqL.of hp,rfl,_,rfl,_,_,rfl,rfl,h0,?_⟩⟩
  refine⟨_,rfl,.inl ⟨p,_,_,_,rfl,rfl,SqL.of hp,rfl,_,rfl,_,_,rfl,rfl,⟨h0,h1⟩,_,rfl,.inl ⟨p,_,_,0,rfl,rfl,hp,rfl,?_⟩⟩⟩
  exact⟨_,rfl,q _ _ (Int.emod_nonneg _ (by lia)) (Int.emod_lt_of_pos _ h0) ex_upd ⟨_,_,_,_,upd_same,hm0,by lia⟩⟩
 all_goals
  refine⟨_,rfl,.inl ⟨p,_,_,_,rfl,rfl,SqL.of hp,rfl,.inl ⟨_,_,rfl,rfl,_,rfl,.inl ⟨p,_,_,2,rfl,rfl,hp,rfl,?_⟩⟩⟩⟩
  have hp1:(upd H p (.lst ([V.int c,.int f0,.int m,.int r,.int c0].set 2 (.int (m+1))))) p=some (.lst [V.int c,.int f0,.int (m+1),.int r,.int c0]):=upd_same
  refine⟨_,rfl,.inl ⟨p,_,_,_,rfl,rfl,SqL.of hp1,rfl,_,_,rfl,rfl,(by show (0:Int)<2147483629;decide),_,rfl,.inl ⟨p,_,_,_,rfl,rfl,SqL.of hp1,rfl,_,_,rfl,rfl,.inl ⟨by decide,by decide⟩,_,rfl,.inl ⟨p,_,_,_,rfl,rfl,SqL.of hp1,rfl,_,_,rfl,rfl,.inr ⟨by lia,by lia⟩,.inl ⟨_,_,rfl,rfl,?_⟩⟩⟩⟩⟩
  refine⟨_,rfl,_,rfl,.inl ⟨p,_,_,_,rfl,rfl,SqL.of hp1,rfl,_,_,rfl,rfl,.inl ⟨by decide,by decide⟩,.inl ⟨_,_,rfl,rfl,_,_,rfl,rfl,(by show (0:Int)<2147483629;decide),?_⟩⟩⟩
  refine⟨_,rfl,_,rfl,_,_,rfl,rfl,.inl (bm _ _ (by decide) (by decide)),_,_,rfl,rfl,(by show (0:Int)<2147483587;decide),?_⟩
  refine⟨_,rfl,_,rfl,.inl ⟨_,_,rfl,rfl,_,_,rfl,rfl,.inl (bm _ _ (by decide) (by decide)),_,_,rfl,rfl,(by show (0:Int)<2147483563;decide),_,_,rfl,rfl,⟨by decide,by decide⟩,_,rfl,_,_,rfl,rfl,h0,?_⟩⟩
  exact q _ _ (Int.emod_nonneg _ (by lia)) (Int.emod_lt_of_pos _ h0) ex_upd ⟨_,_,_,_,hp1,by lia,by lia⟩
end
end K09
end
section
namespace K09
open PySem L2 Kn
theorem atI_mem {α:Type} {xs:List α}{r:Int} (h0:0<=r) (h1:r<xs.length):∃ v,atI xs r=some v/\v∈xs:=by
 have hk:r.toNat<xs.length:=by lia
 have e:((r.toNat:Nat):Int)=r:=by lia
 have z:atI xs ((r.toNat:Nat):Int)=some xs[r.toNat]:=atI_nat (List.getElem?_eq_getElem hk)
 rw[e]at z
 exact⟨_,z,List.getElem_mem hk⟩
theorem Dk.some {H:Hp}{p:Addr}{n r:Int} (h:Dk H p n r):∃ o,H p=some o:=by obtain⟨c,f,m,c0,e,_⟩:=h;exact⟨_,e⟩
theorem Dk.ne {H:Hp}{p q:Addr}{n r:Int} (h:Dk H p n r) (hq:H q=none):q≠p:=by
 obtain⟨o,e⟩:=h.some
 intro z;subst z;rw[e]at hq;cases hq
theorem glue_fold (g:Str):∀ (ps:List Str) (acc:Array Nat),(ps.foldl (fun acc p=>acc++g.cps++p.cps) acc).size=acc.size+(ps.map (·.length)).sum+ps.length * g.length
 | [],acc=>by simp
 | p::ps,acc=>by
  rw[List.foldl_cons,glue_fold g ps,List.map_cons,List.sum_cons,List.length_cons,Nat.succ_mul,Array.size_append,Array.size_append]
  show acc.size+g.length+p.length+_+_=_
  lia
theorem join_le (g:Str) (ps:List Str):(Txt.join g ps).length<=(ps.map (·.length)).sum+ps.length * g.length:=by
 show ((ps.drop 1).foldl (fun acc p=>acc++g.cps++p.cps) (ps.headD Str.empty).cps).size<=_
 rw[glue_fold]
 cases ps with
 | nil=>simp [Str.empty]
 | cons p ps=>
  show p.length+_+_<=_
  rw[List.map_cons,List.sum_cons,List.length_cons,Nat.succ_mul]
  simp only[List.drop_succ_cons,List.drop_zero]
  lia
theorem gall {i:Nat}{x:V} {σ:St} {H:Hp}{A B:St->Hp->Prop} (h:A (σ.set i (some x)) H):gName i x σ H fun σ2 H2=>tAll σ2 H2 fun b H3=>if b=true then A σ2 H3 else B σ2 H3:=by
 show (if true=true then A (σ.set i (some x)) H else B (σ.set i (some x)) H)
 rw[if_pos rfl];exact h
theorem lets_app {a b:Str} (h:lets a) (g:lets b):lets (a++b):=fun c hc=>by
 rw[cps_app]at hc
 rcases List.mem_append.mp hc with z | z
 ·exact h c z
 ·exact g c z
theorem allL:∀ c∈(Str.ofString "etaoinshrdlucmfwypvbgkjqxz").cps.toList,isLet c=true:=by decide +kernel
theorem len_app (a b:Str):(a++b).length=a.length+b.length:=by
 show (a.cps++b.cps).size=_
 rw[Array.size_append];rfl
section
variable {P:Program}{w:World}{K:PySem.W.Frag}{mg:Str->Option Value}{base:Heap}{f f_next:Addr}{fd fd_next:FuncData}
theorem ZaN:FnScope ["deck","letters","text","words"] ["deck"] (defScope (top 10)):=⟨rfl,rfl,rfl,by decide +kernel,rfl,by decide +kernel,by decide +kernel⟩
def spName:Sp:=fun vs H Q _=>∃ (p:Addr) (n r:Int),vs=[.ref p]/\Dk H p n r/\n+12<1000000000000 /\
 ∀ (x:Str) (H':Hp),x.length<=9->lets x->Ex p H H'->Dk H' p (n+12) r->Q (.str x) H'
theorem ok_name (T:Tx mg) (D:Df K mg "_law_name" (top 10) f fd ["deck"]) (Zaa:Df K mg "_law_next" (top 7) f_next fd_next ["deck","many"]) (Zab:FnOk P w K mg base CX0 1 f_next fd_next ["deck","many"] spNext) :
  FnOk P w K mg base CX0 2 f fd ["deck"] spName:=by
 refine D.fn.okH ZaN (fun vs H Q E h=>?_) (fun cdv A outer s H vs Q E hr h=>?_)
 ·obtain⟨p,n,rm,rfl,_⟩:=h;rfl
 obtain⟨p,n,rm,rfl,dk,hn,q⟩:=h
 have hu:=u110 hr
 have hu0:=u0 hr
 have hu1:=hu_of hr
 refine⟨_,(wss_cons (ws_if (wt_cmpR op_gt (we_call Zab (hr.mono (by lia)) rfl Zaa.mg Zaa.kp Zaa.b .nil pass0 (wa_cons (wv 0) (wa_cons we_int wa_nil))) we_int (nomark _)) (wss_one (ws_ret (we_ix (ix_U hu1) (we_lst (wa_consts rfl)) (we_call Zab (hr.mono (by lia)) rfl Zaa.mg Zaa.kp Zaa.b .nil pass0 (wa_cons (wv 0) (wa_cons we_int wa_nil))) (fun _ _=>rfl)))) wss_nil)
   (wss_cons (ws_set (i:=1) ZaN.nd rfl (Or.inr rfl) we_str)
   (wss_cons (ws_set (i:=2) ZaN.nd rfl (Or.inl rfl) (we_bm PySem.F.plainAttrs_str PySem.F.slot_str_join PySem.F.type_str_join mt_join we_str (wa_cons (we_lc (Nt:=["k"]) (fr:=[("letters",1),("deck",0)]) (LcOk.of (sc:=defScope (top 10)) (N:=["deck","letters","text","words"]) rfl rfl (by decide +kernel)) rfl (wi_range1 rfl T.z_range (wa_cons (we_op op_plus we_int (we_call Zab (hr.mono (by lia)) rfl Zaa.mg Zaa.kp Zaa.b .nil pass0 (wa_cons (wv 0) (wa_cons we_int wa_nil)))) wa_nil)) (fun z=>wg_name (i:=0) (by show (["k","letters","deck"]:List Str).Nodup;decide +kernel) rfl (Or.inl rfl) (.inr rfl)) (fun z=>tgt_name (by decide)) (fun z=>wif_nil) (fun z=>(we_ix (ix_U hu1) (wv 1) (we_call Zab (hr.mono (by lia)) rfl Zaa.mg Zaa.kp Zaa.b .nil pass0 (wa_cons (wv 2) (wa_cons we_int wa_nil))) (fun _ _=>rfl)))) wa_nil)))
   (wss_cons (ws_set (i:=3) ZaN.nd rfl (Or.inl rfl) (we_lst (wa_consts rfl)))
   (wss_cons (ws_if (wt_cmpR (op_inU hu) (wv 2) (we_op op_plus (wv 3) (we_lst (wa_consts rfl))) (by with_unfolding_all rfl)) (wss_one (ws_set (i:=2) ZaN.nd rfl (Or.inl rfl) (we_op op_plus (wv 2) we_str))) wss_nil)
   (wss_one (ws_ret (wv 2)))))))),?_⟩
 refine⟨_,rfl,p,n,rm,_,rfl,dk,by lia,by decide,by decide,fun k H1 k0 k1 ex1 dk1=>⟨_,_,rfl,rfl,_,rfl,?_⟩⟩
 refine ite2 (fun c1=>?_) (fun c1=>?_)
 ·refine⟨(by show 8<=sizeLine;decide),fun l hl=>?_⟩
  have nl:=dk1.ne hl
  refine⟨_,rfl,p,n+1,rm,_,rfl,dk1.new hl,by lia,by decide,by decide,fun r H2 h0 h1 ex2 dk2=>?_⟩
  obtain⟨v,hv,hm⟩:=atI_mem (xs:=[V.str "a",.str "b",.str "ab",.str "ba",.str "c",.str "abcdefgh",.str "zz",.str "numx"]) h0 h1
  refine .inl ⟨l,_,r,v,rfl,rfl,SqL.of (ex2 l _ nl upd_same),hv,?_⟩
  have fin:∃ x:Str,v=.str x/\x.length<=9/\lets x:=by
   simp only[List.mem_cons,List.not_mem_nil,or_false]at hm
   rcases hm with rfl | rfl | rfl | rfl | rfl | rfl | rfl | rfl <;> exact⟨_,rfl,by decide +kernel,by unfold lets;decide +kernel⟩
  obtain⟨x,rfl,hx,hxl⟩:=fin
  exact q x H2 hx hxl (ex1.trans ((ex_new hl).trans ex2)) (dk2.mono (by lia))
 -- letters;the drawn ones
 refine⟨rfl,?_⟩
 refine⟨_,rfl,p,n+1,rm,_,rfl,dk1,by lia,by decide,by decide,fun k2 H2 j0 j1 ex2 dk2=>.inl ⟨_,_,rfl,rfl,_,rfl,by lia,by lia,?_⟩⟩
 refine⟨fun i m ys H'=>m+i=(1+k2).toNat/\(∃ zs:List Str,ys=zs.map V.str/\zs.length=i/\∀ z∈zs,z.length=1/\lets z)/\Ex p H H'/\Dk H' p (n+2+i) rm,⟨_,by rw[Nat.add_zero],⟨[],rfl,rfl,fun z hz=>(nomatch hz)⟩,ex1.trans ex2,dk2.mono (by lia)⟩,?_⟩
 rintro i m ys H3 ⟨hm,⟨zs,rfl,hzl,hz1⟩,ex3,dk3⟩
 refine⟨by rw[List.length_map,hzl];exact Nat.lt_of_le_of_lt (show i<=1000 by lia) (by decide),?_⟩
 by_cases hlt:i<(1+k2).toNat
 ·refine .inr ⟨hlt,fun z x H4 hy=>?_⟩
  obtain⟨rfl,rfl⟩:=hy
  refine gall ?_
  refine⟨_,rfl,_,rfl,p,n+2+i,rm,_,rfl,dk3,by lia,by decide,by decide,fun r H5 h0 h1 ex5 dk5=>?_⟩
  obtain⟨c,hc,hcm⟩:=atI_mem (xs:=(Str.ofString "etaoinshrdlucmfwypvbgkjqxz").cps.toList) h0 (by
   have e:(Str.ofString "etaoinshrdlucmfwypvbgkjqxz").cps.toList.length=26:=by decide +kernel
   rw[e];exact h1)
  refine .inr (.inr (.inl ⟨_,r,c,rfl,rfl,(by decide +kernel),hc,?_⟩))
  refine⟨m-1,by lia,by lia,⟨zs++[⟨#[c]⟩],by simp,by simp [hzl],fun z hz=>?_⟩,ex3.trans ex5,dk5.mono (by lia)⟩
  rcases List.mem_append.mp hz with h | h
  ·exact hz1 z h
  ·rw[List.mem_singleton.mp h]
   refine⟨rfl,fun d hd=>?_⟩
   have ed:d=c:=by simpa using hd
   rw[ed]
   exact allL c hcm
 ·refine .inl ⟨by show (1+k2).toNat<=i;lia,fun l hl=>?_⟩
  have hi:i<=8:=by lia
  have hsum:(zs.map (·.length)).sum=zs.length:=by
   clear hzl
   induction zs with
   | nil=>rfl
   | cons z zs ih=>
    rw[List.map_cons,List.sum_cons,(hz1 z List.mem_cons_self).1,ih fun y hy=>hz1 y (List.mem_cons_of_mem _ hy),List.length_cons]
    lia
  have hj:=join_le (Str.ofString "") zs
  have e0:(Str.ofString "").length=0:=by decide +kernel
  rw[hsum,e0,Nat.mul_zero,hzl]at hj
  refine⟨_,l,zs,rfl,rfl,SqL.of upd_same,by rw[hsum,e0,hzl];lia,?_⟩
  have hlt:lets (Txt.join (Str.ofString "") zs):=fun c hc=>by
   rw[join_empty]at hc
   obtain⟨z,hz,hcz⟩:=List.mem_flatMap.mp hc
   exact (hz1 z hz).2 c hcz
  generalize Txt.join (Str.ofString "") zs=text at hj hlt ⊢
  refine⟨(by show 14<=sizeLine;decide),fun l2 hl2=>?_⟩
  refine⟨_,rfl,_,rfl,(by show 7<=sizeLine;decide),fun l3 hl3=>?_⟩
  refine .inr (.inr (.inl ⟨l2,l3,_,_,rfl,rfl,by rw[upd_ne (ne_of_none upd_same hl3)];exact upd_same,upd_same,(by show 14+7<=sizeLine;decide),fun l4 hl4=>?_⟩))
  refine .inl ⟨l4,_,rfl,.inl (SqL.of upd_same),rfl,rfl,_,rfl,?_⟩
  refine ite2 (fun c2=>?_) (fun c2=>?_)
  ·refine⟨_,rfl,.inr (.inl ⟨_,_,rfl,rfl,?_,?_⟩)⟩
   ·have e1:(Str.ofString "x").length=1:=by decide +kernel
    rw[e1]
    exact Nat.le_trans (show text.length+1<=100 by lia) (by decide)
   ·refine⟨_,rfl,q _ _ ?_ (lets_app hlt (by unfold lets;decide +kernel)) (ex3.trans ((ex_new hl).trans ((ex_new hl2).trans ((ex_new hl3).trans (ex_new hl4))))) (((((dk3.new hl).new hl2).new hl3).new hl4).mono (by lia))⟩
    have e1:(Str.ofString "x").length=1:=by decide +kernel
    rw[len_app,e1]
    lia
  ·exact⟨_,rfl,q _ _ (by lia) hlt (ex3.trans ((ex_new hl).trans ((ex_new hl2).trans ((ex_new hl3).trans (ex_new hl4))))) (((((dk3.new hl).new hl2).new hl3).new hl4).mono (by lia))⟩
end
end K09
end
section
namespace K09
open PySem L2
section
variable {P:Program}{w:World}{K:PySem.W.Frag}{mg:Str->Option Value}{base:Heap}{f f_next f_far:Addr}{fd fd_next fd_far:FuncData}
theorem ZaS:FnScope ["deck","number","j"] ["deck"] (defScope (top 8)):=⟨rfl,rfl,rfl,by decide +kernel,rfl,by decide +kernel,by decide +kernel⟩
def spInt (c:Int):Sp:=fun vs H Q _=>∃ (p:Addr) (n r:Int),vs=[.ref p]/\Dk H p n r/\n+c<1000000000000 /\
 ∀ (i:Int) (H':Hp),-(10 ^ 30)<i->i<10 ^ 30->Ex p H H'->Dk H' p (n+c) r->Q (.int i) H'
theorem ok_far (T:Tx mg) (D:Df K mg "_law_far" (top 8) f fd ["deck"]) (Zaa:Df K mg "_law_next" (top 7) f_next fd_next ["deck","many"]) (Zab:FnOk P w K mg base CX0 1 f_next fd_next ["deck","many"] spNext) :
  FnOk P w K mg base CX0 2 f fd ["deck"] (spInt 4):=by
 refine D.fn.okH ZaS (fun vs H Q E h=>?_) (fun cdv A outer s H vs Q E hr h=>?_)
 ·obtain⟨p,n,rm,rfl,_⟩:=h;rfl
 obtain⟨p,n,rm,rfl,dk,hn,q⟩:=h
 have hu:=u110 hr
 have hu1:=hu_of hr
 refine⟨_,(wss_cons (ws_set (i:=1) ZaS.nd rfl (Or.inl rfl) we_int)
   (wss_cons (ws_for PassesOwn.never rfl (wi_range1 rfl T.z_range (wa_cons we_int wa_nil)) (wg_name (i:=2) ZaS.nd rfl (Or.inl rfl)) (wss_one (ws_set (i:=1) ZaS.nd rfl (Or.inl rfl) (we_op op_plus (we_op op_mul (wv 1) (we_op op_pow we_int we_int)) (we_call Zab (hr.mono (by lia)) rfl Zaa.mg Zaa.kp Zaa.b .nil pass0 (wa_cons (wv 0) (wa_cons (we_op op_pow we_int we_int) wa_nil)))))))
   (wss_one (ws_ret (we_op op_plus (we_op op_sub (we_op op_mod (wv 1) (we_op op_sub (we_op op_mul we_int (we_op op_pow we_int we_int)) we_int)) (we_op op_pow we_int we_int)) we_int))))),?_⟩
 refine⟨4,rfl,by decide,by decide,for_range (n:=4) (fun i σ H'=>∃ (x:Int) (v:Option V),σ=[some (.ref p),some (.int x),v]/\Ex p H H'/\Dk H' p (n+i) rm) ⟨0,none,rfl,.refl _ _,dk.mono (by lia)⟩ ?_ ?_⟩
 ·rintro i σ H' hi ⟨x,v,rfl,ex,dk'⟩
  refine⟨_,rfl,_,_,rfl,rfl,⟨by decide,by decide,by decide⟩,_,_,rfl,rfl,.inr ⟨by decide,by decide⟩,_,rfl,_,_,rfl,rfl,⟨by decide,by decide,by decide⟩,p,n+i,rm,_,rfl,dk',by lia,by decide,by decide,fun r H'' h0 h1 ex' dk''=>.inl ⟨_,_,rfl,rfl,?_⟩⟩
  exact⟨_,_,rfl,ex.trans ex',dk''.mono (by lia)⟩
 ·rintro σ H' ⟨x,v,rfl,ex,dk'⟩
  refine⟨_,rfl,_,_,rfl,rfl,⟨by decide,by decide,by decide⟩,_,_,rfl,rfl,.inl ⟨by decide,by decide⟩,_,_,rfl,rfl,_,_,rfl,rfl,(by show (0:Int)<2 * 10 ^ Int.toNat 30-1;decide),_,_,rfl,rfl,⟨by decide,by decide,by decide⟩,_,_,rfl,rfl,.inl ⟨_,_,rfl,rfl,?_⟩⟩
  have a1:=Int.emod_nonneg x (show (2 * 10 ^ Int.toNat 30-1:Int)≠0 by decide)
  have a2:=Int.emod_lt_of_pos x (show (0:Int)<2 * 10 ^ Int.toNat 30-1 by decide)
  refine q _ H' ?_ ?_ ex dk'
  ·have e:(10:Int) ^ Int.toNat 30=10 ^ 30:=rfl
   rw[e]at a1 a2 ⊢
   lia
  ·have e:(10:Int) ^ Int.toNat 30=10 ^ 30:=rfl
   rw[e]at a1 a2 ⊢
   lia
theorem Za8:FnScope ["deck","kind"] ["deck"] (defScope (top 9)):=⟨rfl,rfl,rfl,by decide +kernel,rfl,by decide +kernel,by decide +kernel⟩
theorem ok_number (T:Tx mg) (D:Df K mg "_law_number" (top 9) f fd ["deck"]) (Zaa:Df K mg "_law_next" (top 7) f_next fd_next ["deck","many"]) (Zab:FnOk P w K mg base CX0 1 f_next fd_next ["deck","many"] spNext)
  (ZaE:Df K mg "_law_far" (top 8) f_far fd_far ["deck"]) (Zbj:FnOk P w K mg base CX0 2 f_far fd_far ["deck"] (spInt 4)) :
  FnOk P w K mg base CX0 3 f fd ["deck"] (spInt 6):=by
 refine D.fn.okH Za8 (fun vs H Q E h=>?_) (fun cdv A outer s H vs Q E hr h=>?_)
 ·obtain⟨p,n,rm,rfl,_⟩:=h;rfl
 obtain⟨p,n,rm,rfl,dk,hn,q⟩:=h
 have hu:=u110 hr
 have hu0:=u0 hr
 have hu1:=hu_of hr
 refine⟨_,(wss_cons (ws_set (i:=1) Za8.nd rfl (Or.inl rfl) (we_call Zab (hr.mono (by lia)) rfl Zaa.mg Zaa.kp Zaa.b .nil pass0 (wa_cons (wv 0) (wa_cons we_int wa_nil))))
   (wss_cons (ws_if (wt_cmpR (op_ltU hu0) (wv 1) we_int (nomark _)) (wss_one (ws_ret (we_op op_sub (we_call Zab (hr.mono (by lia)) rfl Zaa.mg Zaa.kp Zaa.b .nil pass0 (wa_cons (wv 0) (wa_cons we_int wa_nil))) we_int))) wss_nil)
   (wss_cons (ws_if (wt_cmpR (op_eqU hu) (wv 1) we_int (nomark _)) (wss_one (ws_ret (we_op op_sub (we_call Zab (hr.mono (by lia)) rfl Zaa.mg Zaa.kp Zaa.b .nil pass0 (wa_cons (wv 0) (wa_cons we_int wa_nil))) we_int))) wss_nil)
   (wss_cons (ws_if (wt_cmpR (op_eqU hu) (wv 1) we_int (nomark _)) (wss_one (ws_ret (we_call Zbj (hr.mono (by lia)) rfl ZaE.mg ZaE.kp ZaE.b .nil pass0 (wa_cons (wv 0) wa_nil)))) wss_nil)
   (wss_one (ws_ret (we_ix (ix_U hu1) (we_lst (wa_cons (we_op op_sub (we_op op_pow we_int we_int) we_int) (wa_cons (we_op op_sub we_int (we_op op_pow we_int we_int)) (wa_cons we_int (wa_cons (we_un un_neg we_int) wa_nil))))) (we_call Zab (hr.mono (by lia)) rfl Zaa.mg Zaa.kp Zaa.b .nil pass0 (wa_cons (wv 0) (wa_cons we_int wa_nil))) (fun _ _=>rfl)))))))),?_⟩
 refine⟨_,rfl,p,n,rm,_,rfl,dk,by lia,by decide,by decide,fun k H1 k0 k1 ex1 dk1=>?_⟩
 refine⟨_,rfl,.inl ⟨_,_,rfl,rfl,_,rfl,?_⟩⟩
 refine ite2 (fun c1=>?_) (fun c1=>?_)
 ·refine⟨_,rfl,p,n+1,rm,_,rfl,dk1,by lia,by decide,by decide,fun r H2 h0 h1 ex2 dk2=>⟨_,_,rfl,rfl,?_⟩⟩
  exact q _ H2 (by lia) (by lia) (ex1.trans ex2) (dk2.mono (by lia))
 refine⟨_,rfl,.inl ⟨rfl,_,rfl,?_⟩⟩
 refine ite2 (fun c2=>?_) (fun c2=>?_)
 ·refine⟨_,rfl,p,n+1,rm,_,rfl,dk1,by lia,by decide,by decide,fun r H2 h0 h1 ex2 dk2=>⟨_,_,rfl,rfl,?_⟩⟩
  exact q _ H2 (by lia) (by lia) (ex1.trans ex2) (dk2.mono (by lia))
 refine⟨_,rfl,.inl ⟨rfl,_,rfl,?_⟩⟩
 refine ite2 (fun c3=>?_) (fun c3=>?_)
 ·exact⟨_,rfl,p,n+1,rm,rfl,dk1,by lia,fun i H2 h0 h1 ex2 dk2=>q i H2 h0 h1 (ex1.trans ex2) (dk2.mono (by lia))⟩
 refine⟨_,_,rfl,rfl,⟨by decide,by decide,by decide⟩,_,_,rfl,rfl,_,_,rfl,rfl,⟨by decide,by decide,by decide⟩,_,_,rfl,rfl,_,rfl,(by show 4<=sizeLine;decide),fun l hl=>?_⟩
 have nl:=dk1.ne hl
 refine⟨_,rfl,p,n+1,rm,_,rfl,dk1.new hl,by lia,by decide,by decide,fun r H2 h0 h1 ex2 dk2=>?_⟩
 obtain⟨v,hv,hm⟩:=atI_mem (xs:=[V.int (10 ^ Int.toNat 30-1),.int (1-10 ^ Int.toNat 30),.int 10,.int (-10)]) h0 h1
 refine .inl ⟨l,_,r,v,rfl,rfl,SqL.of (ex2 l _ nl upd_same),hv,?_⟩
 have fin:∃ i:Int,v=.int i/\-(10 ^ 30)<i/\i<10 ^ 30:=by
  simp only[List.mem_cons,List.not_mem_nil,or_false]at hm
  rcases hm with rfl | rfl | rfl | rfl
  ·exact⟨_,rfl,by decide,by decide⟩
  ·exact⟨_,rfl,by decide,by decide⟩
  ·exact⟨_,rfl,by decide,by decide⟩
  ·exact⟨_,rfl,by decide,by decide⟩
 obtain⟨i,rfl,i0,i1⟩:=fin
 exact q i H2 i0 i1 (ex1.trans ((ex_new hl).trans ex2)) (dk2.mono (by lia))
end
end K09
end
section
namespace K09
open PySem L2 Kn
section
variable {P:Program}{w:World}{K:PySem.W.Frag}{mg:Str->Option Value}{base:Heap}{f f_next f_num:Addr}{fd fd_next fd_num:FuncData}
theorem Za9:FnScope ["deck","count"] ["deck"] (defScope (top 15)):=⟨rfl,rfl,rfl,by decide +kernel,rfl,by decide +kernel,by decide +kernel⟩
theorem ok_count (T:Tx mg) (D:Df K mg "_law_count" (top 15) f fd ["deck"]) (Zaa:Df K mg "_law_next" (top 7) f_next fd_next ["deck","many"]) (Zab:FnOk P w K mg base CX0 1 f_next fd_next ["deck","many"] spNext)
  (Zam:Df K mg "_law_number" (top 9) f_num fd_num ["deck"]) (Zay:FnOk P w K mg base CX0 3 f_num fd_num ["deck"] (spInt 6)) :
  FnOk P w K mg base CX0 4 f fd ["deck"] (spInt 8):=by
 refine D.fn.okH Za9 (fun vs H Q E h=>?_) (fun cdv A outer s H vs Q E hr h=>?_)
 ·obtain⟨p,n,rm,rfl,_⟩:=h;rfl
 obtain⟨p,n,rm,rfl,dk,hn,q⟩:=h
 have hu:=u110 hr
 have hu0:=u0 hr
 have hu1:=hu_of hr
 refine⟨_,(wss_cons (ws_set (i:=1) Za9.nd rfl (Or.inl rfl) (we_ix (ix_U hu1) (we_lst (wa_cons we_int (wa_cons we_int (wa_cons we_int (wa_cons (we_un un_neg we_int) (wa_cons (we_op op_sub (we_call Zab (hr.mono (by lia)) rfl Zaa.mg Zaa.kp Zaa.b .nil pass0 (wa_cons (wv 0) (wa_cons we_int wa_nil))) we_int) (wa_cons (we_op op_fdiv (we_call Zay (hr.mono (by lia)) rfl Zam.mg Zam.kp Zam.b .nil pass0 (wa_cons (wv 0) wa_nil)) we_int) wa_nil))))))) (we_call Zab (hr.mono (by lia)) rfl Zaa.mg Zaa.kp Zaa.b .nil pass0 (wa_cons (wv 0) (wa_cons we_int wa_nil))) (fun _ _=>rfl)))
   (wss_one (ws_ret (we_op op_plus (wv 1) (we_callTy call_int1 rfl T.z_int bt_int (wa_cons (we_cmpR (op_eqU hu) (wv 1) we_int (nomark _)) wa_nil)))))),?_⟩
 refine⟨_,rfl,_,rfl,p,n,rm,_,rfl,dk,by lia,by decide,by decide,fun r H1 h0 h1 ex1 dk1=>⟨_,_,rfl,rfl,?_⟩⟩
 refine⟨_,rfl,p,n+1,rm,rfl,dk1,by lia,fun i H2 i0 i1 ex2 dk2=>⟨_,_,rfl,rfl,⟨by decide,by decide⟩,(by show 6<=sizeLine;decide),fun l hl=>?_⟩⟩
 have nl:=dk2.ne hl
 refine⟨_,rfl,p,n+1+6,rm,_,rfl,dk2.new hl,by lia,by decide,by decide,fun r3 H3 h03 h13 ex3 dk3=>?_⟩
 obtain⟨v,hv,hm⟩:=atI_mem (xs:=[V.int 1,.int 1,.int 2,.int (-1),.int (r-4),.int (i / 100)]) h03 h13
 refine .inl ⟨l,_,r3,v,rfl,rfl,SqL.of (ex3 l _ nl upd_same),hv,?_⟩
 have fin:∃ c:Int,v=.int c/\-(10 ^ 30)<c/\c+1<10 ^ 30:=by
  simp only[List.mem_cons,List.not_mem_nil,or_false]at hm
  rcases hm with rfl | rfl | rfl | rfl | rfl | rfl
  ·exact⟨_,rfl,by decide,by decide⟩
  ·exact⟨_,rfl,by decide,by decide⟩
  ·exact⟨_,rfl,by decide,by decide⟩
  ·exact⟨_,rfl,by decide,by decide⟩
  ·exact⟨_,rfl,by lia,by lia⟩
  ·exact⟨_,rfl,by lia,by lia⟩
 obtain⟨c,rfl,c0,c1⟩:=fin
 refine⟨_,rfl,_,rfl,.inl ⟨rfl,.inr ⟨_,rfl,.inl ⟨_,_,rfl,rfl,?_⟩⟩⟩⟩
 refine q _ H3 ?_ ?_ (ex1.trans (ex2.trans ((ex_new hl).trans ex3))) (dk3.mono (by lia))
 ·split <;> lia
 ·split <;> lia
end
end K09
end
section
namespace K09
open PySem L2 Kn
section
variable {P:Program}{w:World}{K:PySem.W.Frag}{mg:Str->Option Value}{base:Heap}{f f_side f_pair:Addr}{fd fd_side fd_pair:FuncData}
def spSide (d:Nat):Sp:=fun vs H Q _=>∃ (v u:V) (x y:Val),vs=[v,u]/\IsVal H x v/\IsVal H y u/\Bd 7 d x/\Bd 7 d y/\d<=20 /\
 ∀ (r:Int) (H':Hp),Same H H'->decide (r<0)=aheadB x y->Q (.int r) H'
def PrBd (d:Nat):Pr->Prop
 | .r f x=>f.length<=100/\Bd 7 d x
 | .b x _=>Bd 7 d x
def spPair (d:Nat):Sp:=fun vs H Q _=>∃ (v u:V) (p q:Pr),vs=[.str p.tag,v,u]/\p.tag=q.tag/\IsDt H p.dat v/\IsDt H q.dat u/\p≠q/\PrBd d p/\PrBd d q/\d<=20 /\
 ∀ (r:Int) (H':Hp),Same H H'->decide (r<0)=p.lt q->Q (.int r) H'
theorem dt_two {H:Hp}{a b:Dt}{v:V} (h:IsDt H (.tup [a,b]) v):∃ c y z,v=.ref c/\H c=some (.tup [y,z])/\IsDt H a y/\IsDt H b z:=by
 rw[IsDt]at h
 obtain⟨c,xs,e,h1,h2⟩:=h
 rw[IsDts]at h2
 obtain⟨y,ys,rfl,h3,h4⟩:=h2
 rw[IsDts]at h4
 obtain⟨z,zs,rfl,h5,h6⟩:=h4
 rw[IsDts]at h6
 subst h6
 exact⟨c,y,z,e,h1,h3,h5⟩
theorem Zba:FnScope ["word","a","b","at"] ["word","a","b"] (defScope (top 12)):=⟨rfl,rfl,rfl,by decide +kernel,rfl,by decide +kernel,by decide +kernel⟩
theorem ok_pair {k d:Nat} (T:Tx mg) (D:Df K mg "_law_pair_side" (top 12) f fd ["word","a","b"]) (Zag:Df K mg "_law_side" (top 11) f_side fd_side ["one","other"]) (ZaT:FnOk P w K mg base CX0 k f_side fd_side ["one","other"] (spSide d)) :
  FnOk P w K mg base CX0 (k+1) f fd ["word","a","b"] (spPair d):=by
 refine D.fn.okH Zba (fun vs H Q E h=>?_) (fun cdv A outer s H vs Q E hr h=>?_)
 ·obtain⟨v,u,p,q,rfl,_⟩:=h;rfl
 obtain⟨v,u,p,q,rfl,htag,hp,hq,hne,bp,bq,hd,fin⟩:=h
 have hu:=u110 hr
 have hu0:=u0 hr
 have hu1:=hu_of hr
 refine⟨_,(wss_cons (ws_if (wt_pw (ww_and (wt_cmpR (op_eqU hu) (wv 0) we_str (nomark _)) (ww_and1 (wt_cmpR (op_neU hu) (we_ix (ix_U hu1) (wv 1) we_int (fun _ _=>rfl)) (we_ix (ix_U hu1) (wv 2) we_int (fun _ _=>rfl)) (nomark _))))) (wss_one (ws_ret (we_call ZaT (hr.mono (by lia)) rfl Zag.mg Zag.kp Zag.b .nil pass0 (wa_cons (we_ix (ix_U hu1) (wv 1) we_int (fun _ _=>rfl)) (wa_cons (we_ix (ix_U hu1) (wv 2) we_int (fun _ _=>rfl)) wa_nil))))) wss_nil)
   (wss_cons (ws_if (wt_pw (ww_and (wt_cmpR (op_eqU hu) (wv 0) we_str (nomark _)) (ww_and1 (wt_cmpR (op_eqU hu) (we_ix (ix_U hu1) (wv 1) we_int (fun _ _=>rfl)) (we_ix (ix_U hu1) (wv 2) we_int (fun _ _=>rfl)) (nomark _))))) (wss_one (ws_ret (we_call ZaT (hr.mono (by lia)) rfl Zag.mg Zag.kp Zag.b .nil pass0 (wa_cons (we_ix (ix_U hu1) (wv 1) we_int (fun _ _=>rfl)) (wa_cons (we_ix (ix_U hu1) (wv 2) we_int (fun _ _=>rfl)) wa_nil))))) wss_nil)
   (wss_cons (ws_set (i:=3) Zba.nd rfl (Or.inl rfl) (we_callTy call_int1 rfl T.z_int bt_int (wa_cons (we_cmpR (op_eqU hu) (we_ix (ix_U hu1) (wv 1) we_int (fun _ _=>rfl)) (we_ix (ix_U hu1) (wv 2) we_int (fun _ _=>rfl)) (nomark _)) wa_nil)))
   (wss_one (ws_ret (we_ix (ix_U hu1) (we_lst (wa_cons we_int (wa_cons (we_un un_neg we_int) wa_nil))) (we_callTy call_int1 rfl T.z_int bt_int (wa_cons (we_cmpR (op_ltU hu0) (we_ix (ix_U hu1) (wv 1) (wv 3) (fun _ _=>rfl)) (we_ix (ix_U hu1) (wv 2) (wv 3) (fun _ _=>rfl)) (nomark _)) wa_nil)) (fun _ _=>rfl))))))),?_⟩
 have tail:∀ (c1 c2:Addr) (y1 z1 y2 z2:V),v=.ref c1->u=.ref c2->H c1=some (.tup [y1,z1])->H c2=some (.tup [y2,z2])->True:=fun _ _ _ _ _ _ _ _ _ _=>trivial
 cases p with
 | r f1 x1=>
  cases q with
  | b _ _=>exact absurd (show (Str.ofString "row" : Str)=Str.ofString "bag" from htag) (by decide +kernel)
  | r f2 x2=>
   obtain⟨c1,y1,z1,rfl,h1,i1,j1⟩:=dt_two hp
   obtain⟨c2,y2,z2,rfl,h2,i2,j2⟩:=dt_two hq
   rw[IsDt]at i1 i2
   subst i1 i2
   refine⟨_,rfl,.inl ⟨rfl,_,rfl,?_⟩⟩
   refine ite2 (fun e=>absurd (of_decide_eq_true e) (by intro z;injection z with z;exact absurd (show (Str.ofString "row" : Str)=Str.ofString "bag" from z) (by decide +kernel))) (fun _=>?_)
   refine iteF ?_
   refine⟨_,rfl,.inl ⟨rfl,_,rfl,?_⟩⟩
   refine ite2 (fun _=>?_) (fun e=>absurd (decide_eq_true (show V.str (Pr.r f1 x1).tag=.str "row" from rfl)) e)
   refine⟨_,rfl,.inr (.inl ⟨c1,_,0,_,rfl,rfl,SqT.of h1,rfl,_,rfl,.inr (.inl ⟨c2,_,0,_,rfl,rfl,SqT.of h2,rfl,.inl ⟨rfl,_,rfl,?_⟩⟩)⟩)⟩
   refine ite2 (fun e=>?_) (fun e=>?_)
   ·have ef:f1=f2:=by have:=of_decide_eq_true e;injection this
    subst ef
    have nx:x1≠x2:=fun z=>hne (by rw[z])
    refine⟨_,rfl,.inr (.inl ⟨c1,_,1,_,rfl,rfl,SqT.of h1,rfl,_,rfl,.inr (.inl ⟨c2,_,1,_,rfl,rfl,SqT.of h2,rfl,_,_,x1,x2,rfl,j1,j2,bp.2,bq.2,hd,fun r H' sH hr'=>fin r H' sH ?_⟩)⟩)⟩
    rw[hr',ahead_ne nx]
    show _=(if f1=f1 then ltV x1 x2 else sLt f1 f1)
    rw[if_pos rfl]
   ·have ef:f1≠f2:=fun z=>e (decide_eq_true (by rw[z]))
    refine⟨_,rfl,.inr (.inl ⟨c1,_,0,_,rfl,rfl,SqT.of h1,rfl,_,rfl,.inr (.inl ⟨c2,_,0,_,rfl,rfl,SqT.of h2,rfl,.inl ⟨rfl,.inr ⟨_,rfl,?_⟩⟩⟩)⟩)⟩
    rw[decide_eq_false (fun z=>ef (by injection z))]
    refine⟨_,rfl,(by show 2<=sizeLine;decide),fun l hl=>?_⟩
    have s1:Same H (upd H l (.lst [.int 1,.int (-1)])):=same_new hl _
    refine⟨_,rfl,_,rfl,.inr (.inl ⟨c1,_,0,_,rfl,rfl,SqT.of (s1 _ _ h1),rfl,_,rfl,_,rfl,.inr (.inl ⟨c2,_,0,_,rfl,rfl,SqT.of (s1 _ _ h2),rfl,.inr (.inl ⟨.s f1,.s f2,_,rfl,rfl,rfl,.inr ⟨_,rfl,.inl ⟨l,_,_,_,rfl,rfl,SqL.of upd_same,pick _,fin _ _ s1 ?_⟩⟩⟩)⟩)⟩)⟩
    rw[pick_lt]
    show _=(if f1=f2 then ltV x1 x2 else sLt f1 f2)
    rw[if_neg ef]
 | b x1 n1=>
  cases q with
  | r _ _=>exact absurd (show (Str.ofString "bag" : Str)=Str.ofString "row" from htag) (by decide +kernel)
  | b x2 n2=>
   obtain⟨c1,y1,z1,rfl,h1,i1,j1⟩:=dt_two hp
   obtain⟨c2,y2,z2,rfl,h2,i2,j2⟩:=dt_two hq
   rw[IsDt]at j1 j2
   subst j1 j2
   have dx:(dat x1).dep<=depMax:=Nat.le_trans (dep_dat bp) (by unfold depMax;lia)
   refine⟨_,rfl,.inl ⟨rfl,_,rfl,?_⟩⟩
   refine ite2 (fun _=>?_) (fun e=>absurd (decide_eq_true (show V.str (Pr.b x1 n1).tag=.str "bag" from rfl)) e)
   have i1':=i1
   have i2':=i2
   rw[dat_two]at i1' i2'
   have dd:depL [Dt.str (tagS x1),restD x1]<=depMax:=by rw[dat_two,Dt.dep]at dx;lia
   refine⟨_,rfl,.inr (.inl ⟨c1,_,0,_,rfl,rfl,SqT.of h1,rfl,_,rfl,.inr (.inl ⟨c2,_,0,_,rfl,rfl,SqT.of h2,rfl,.inr (.inl ⟨_,_,i1',i2',dd,_,rfl,?_⟩)⟩)⟩)⟩
   have eqv:decide ([Dt.str (tagS x1),restD x1]=[Dt.str (tagS x2),restD x2])=decide (x1=x2):=by
    rw[Bool.eq_iff_iff]
    simp only[decide_eq_true_eq]
    constructor
    ·intro z;exact dat_inj (by rw[dat_two,dat_two,z])
    ·rintro rfl;rfl
   rw[eqv]
   by_cases ex:x1=x2
   ·rw[decide_eq_true ex]
    refine iteF ?_
    subst ex
    have nn:n1≠n2:=fun z=>hne (by rw[z])
    refine⟨_,rfl,.inl ⟨rfl,_,rfl,?_⟩⟩
    refine ite2 (fun e=>absurd (of_decide_eq_true e) (by intro z;injection z with z;exact absurd (show (Str.ofString "bag" : Str)=Str.ofString "row" from z) (by decide +kernel))) (fun _=>?_)
    refine iteF ?_
    refine⟨_,rfl,.inr (.inl ⟨c1,_,0,_,rfl,rfl,SqT.of h1,rfl,_,rfl,.inr (.inl ⟨c2,_,0,_,rfl,rfl,SqT.of h2,rfl,.inr ⟨_,_,i1,i2,dx,.inr ⟨_,rfl,?_⟩⟩⟩)⟩)⟩
    rw[decide_eq_true rfl]
    refine⟨_,rfl,(by show 2<=sizeLine;decide),fun l hl=>?_⟩
    have s1:Same H (upd H l (.lst [.int 1,.int (-1)])):=same_new hl _
    refine⟨_,rfl,_,rfl,.inr (.inl ⟨c1,_,1,_,rfl,rfl,SqT.of (s1 _ _ h1),rfl,_,rfl,_,rfl,.inr (.inl ⟨c2,_,1,_,rfl,rfl,SqT.of (s1 _ _ h2),rfl,.inl ⟨n1,n2,rfl,rfl,.inr ⟨_,rfl,.inl ⟨l,_,_,_,rfl,rfl,SqL.of upd_same,pick _,fin _ _ s1 ?_⟩⟩⟩⟩)⟩)⟩
    rw[pick_lt]
    show _=(if x1=x1 then decide (n1<n2) else ltV x1 x1)
    rw[if_pos rfl]
   ·rw[decide_eq_false ex]
    refine iteT ?_
    refine⟨_,rfl,.inr (.inl ⟨c1,_,0,_,rfl,rfl,SqT.of h1,rfl,_,rfl,.inr (.inl ⟨c2,_,0,_,rfl,rfl,SqT.of h2,rfl,_,_,x1,x2,rfl,i1,i2,bp,bq,hd,fun r H' sH hr'=>fin r H' sH ?_⟩)⟩)⟩
    rw[hr',ahead_ne ex]
    show _=(if x1=x2 then decide (n1<n2) else ltV x1 x2)
    rw[if_neg ex]
theorem ZaU:FnScope ["one","other","ranks","a","b"] ["one","other"] (defScope (top 11)):=⟨rfl,rfl,rfl,by decide +kernel,rfl,by decide +kernel,by decide +kernel⟩
def spPairP:Nat->Sp
 | 0=>fun _ _ _ _=>False
 | d+1=>spPair d
def RK:List (Key×V):=mergeK [] [(Sum.inr "num",.int 0),(Sum.inr "word",.int 1),(Sum.inr "row",.int 2),(Sum.inr "bag",.int 3)]
theorem rk_at (x:Val):valV RK (Sum.inr (tagS x))=some (.int (rank x)):=by
 cases x with
 | num i=>show valV RK (Sum.inr "num")=some (.int 0);decide +kernel
 | word i=>show valV RK (Sum.inr "word")=some (.int 1);decide +kernel
 | row i=>show valV RK (Sum.inr "row")=some (.int 2);decide +kernel
 | bag i=>show valV RK (Sum.inr "bag")=some (.int 3);decide +kernel
theorem pairs_of {d : Nat} {x y : Val} (ht : tagS x = tagS y) (hin : ¬ inV (V.str (tagS x)) [.str "num", .str "word"] = true) (bx : Bd 7 d x) (by' : Bd 7 d y) (ne : x ≠ y) :
    ∃ (ps qs : List Pr), restD x = .tup (ps.map Pr.dat) /\ restD y = .tup (qs.map Pr.dat) /\ (∀ p ∈ ps, p.tag = tagS x) /\ (∀ p ∈ qs, p.tag = tagS x) /\ ps.length <= 7 /\ qs.length <= 7 /\
      (∀ e, d = e + 1 -> (∀ p ∈ ps, PrBd e p) /\ ∀ p ∈ qs, PrBd e p) /\ (d = 0 -> ps = []) /\
      (∀ i p q, ps.take i = qs.take i -> ps[i]? = some p -> qs[i]? = some q -> p ≠ q -> aheadB x y = p.lt q) /\ (ps.take (min ps.length qs.length) = qs.take (min ps.length qs.length) -> aheadB x y = decide (ps.length < qs.length)) := by
  cases x with
  | num i => exact absurd (show inV (V.str "num") [.str "num", .str "word"] = true by decide +kernel) hin
  | word i => exact absurd (show inV (V.str "word") [.str "num", .str "word"] = true by decide +kernel) hin
  | row ps =>
    cases y with
    | num i => exact absurd (show (Str.ofString "row" : Str) = Str.ofString "num" from ht) (by decide +kernel)
    | word i => exact absurd (show (Str.ofString "row" : Str) = Str.ofString "word" from ht) (by decide +kernel)
    | bag i => exact absurd (show (Str.ofString "row" : Str) = Str.ofString "bag" from ht) (by decide +kernel)
    | row qs =>
      have inj : ∀ l l' : List (Str × Val), l.map (fun p => Pr.r p.1 p.2) = l'.map (fun p => Pr.r p.1 p.2) -> l = l' := fun l l' h => by
        refine (List.map_inj_right ?_).mp h
        rintro ⟨a, b⟩ ⟨c, e⟩ z; injection z with z1 z2; exact Prod.ext z1 z2
      have bnd : ∀ rs : List (Str × Val), Bd 7 d (.row rs) -> rs.length <= 7 /\ (∀ e, d = e + 1 -> ∀ p ∈ rs, p.1.length <= 100 /\ Bd 7 e p.2) /\ (d = 0 -> rs = []) := fun rs h => by
        cases d with
        | zero => simp only [Bd] at h; subst h; exact ⟨by simp, fun e z => by lia, fun _ => rfl⟩
        | succ d => simp only [Bd] at h; exact ⟨h.1, fun e z => by obtain rfl : d = e := by lia
                                                                   exact h.2, fun z => by lia⟩
      obtain ⟨l1, b1, z1⟩ := bnd ps bx
      obtain ⟨l2, b2, z2⟩ := bnd qs by'
      refine ⟨ps.map fun p => .r p.1 p.2, qs.map fun p => .r p.1 p.2, ?_, ?_, ?_, ?_, by simpa using l1, by simpa using l2, fun e h => ⟨?_, ?_⟩, fun h => by rw [z1 h]; rfl, ?_, ?_⟩
      · rw [restD, datR_map, List.map_map]; rfl
      · rw [restD, datR_map, List.map_map]; rfl
      · intro p hp; obtain ⟨q, _, rfl⟩ := List.mem_map.mp hp; rfl
      · intro p hp; obtain ⟨q, _, rfl⟩ := List.mem_map.mp hp; rfl
      · intro p hp; obtain ⟨q, hq, rfl⟩ := List.mem_map.mp hp; exact b1 e h q hq
      · intro p hp; obtain ⟨q, hq, rfl⟩ := List.mem_map.mp hp; exact b2 e h q hq
      · intro i p q h1 h2 h3 hn
        rw [List.getElem?_map] at h2 h3
        obtain ⟨p', e1, rfl⟩ := Option.map_eq_some_iff.mp h2
        obtain ⟨q', e2, rfl⟩ := Option.map_eq_some_iff.mp h3
        rw [<- List.map_take, <- List.map_take] at h1
        rw [ahead_ne ne, ltV, ltR_at (inj _ _ h1) e1 e2 (fun z => hn (by rw [z]))]
        rfl
      · intro h1
        simp only [List.length_map, <- List.map_take] at h1
        rw [ahead_ne ne, ltV, ltR_end (inj _ _ h1)]
        simp
  | bag ps =>
    cases y with
    | num i => exact absurd (show (Str.ofString "bag" : Str) = Str.ofString "num" from ht) (by decide +kernel)
    | word i => exact absurd (show (Str.ofString "bag" : Str) = Str.ofString "word" from ht) (by decide +kernel)
    | row i => exact absurd (show (Str.ofString "bag" : Str) = Str.ofString "row" from ht) (by decide +kernel)
    | bag qs =>
      have inj : ∀ l l' : List (Val × Int), l.map (fun p => Pr.b p.1 p.2) = l'.map (fun p => Pr.b p.1 p.2) -> l = l' := fun l l' h => by
        refine (List.map_inj_right ?_).mp h
        rintro ⟨a, b⟩ ⟨c, e⟩ z; injection z with z1 z2; exact Prod.ext z1 z2
      have bnd : ∀ rs : List (Val × Int), Bd 7 d (.bag rs) -> rs.length <= 7 /\ (∀ e, d = e + 1 -> ∀ p ∈ rs, Bd 7 e p.1) /\ (d = 0 -> rs = []) := fun rs h => by
        cases d with
        | zero => simp only [Bd] at h; subst h; exact ⟨by simp, fun e z => by lia, fun _ => rfl⟩
        | succ d => simp only [Bd] at h; exact ⟨h.1, fun e z => by obtain rfl : d = e := by lia
                                                                   exact h.2, fun z => by lia⟩
      obtain ⟨l1, b1, z1⟩ := bnd ps bx
      obtain ⟨l2, b2, z2⟩ := bnd qs by'
      refine ⟨ps.map fun p => .b p.1 p.2, qs.map fun p => .b p.1 p.2, ?_, ?_, ?_, ?_, by simpa using l1, by simpa using l2, fun e h => ⟨?_, ?_⟩, fun h => by rw [z1 h]; rfl, ?_, ?_⟩
      · rw [restD, datB_map, List.map_map]; rfl
      · rw [restD, datB_map, List.map_map]; rfl
      · intro p hp; obtain ⟨q, _, rfl⟩ := List.mem_map.mp hp; rfl
      · intro p hp; obtain ⟨q, _, rfl⟩ := List.mem_map.mp hp; rfl
      · intro p hp; obtain ⟨q, hq, rfl⟩ := List.mem_map.mp hp; exact b1 e h q hq
      · intro p hp; obtain ⟨q, hq, rfl⟩ := List.mem_map.mp hp; exact b2 e h q hq
      · intro i p q h1 h2 h3 hn
        rw [List.getElem?_map] at h2 h3
        obtain ⟨p', e1, rfl⟩ := Option.map_eq_some_iff.mp h2
        obtain ⟨q', e2, rfl⟩ := Option.map_eq_some_iff.mp h3
        rw [<- List.map_take, <- List.map_take] at h1
        rw [ahead_ne ne, ltV, ltB_at (inj _ _ h1) e1 e2 (fun z => hn (by rw [z]))]
        rfl
      · intro h1
        simp only [List.length_map, <- List.map_take] at h1
        rw [ahead_ne ne, ltV, ltB_end (inj _ _ h1)]
        simp
end
end K09
end
section
namespace K09
open PySem L2 Kn
section
variable {P:Program}{w:World}{K:PySem.W.Frag}{mg:Str->Option Value}{base:Heap}{f f_side f_pair:Addr}{fd fd_side fd_pair:FuncData}
theorem pr_inj:∀ {p q:Pr},p.tag=q.tag->p.dat=q.dat->p=q
 | .r f x,.r g y,_,h=>by
  injection h with h;injection h with h1 h2;injection h1 with h1;injection h2 with h2 _
  rw[h1,dat_inj h2]
 | .b x n,.b y m,_,h=>by
  injection h with h;injection h with h1 h2;injection h2 with h2 _;injection h2 with h2
  rw[dat_inj h1,h2]
 | .r f x,.b y m,t,_=>absurd (show (Str.ofString "row" : Str)=Str.ofString "bag" from t) (by decide +kernel)
 | .b y m,.r f x,t,_=>absurd (show (Str.ofString "bag" : Str)=Str.ofString "row" from t) (by decide +kernel)
theorem pr_dep {e:Nat}{p:Pr} (h:PrBd e p) (he:e<=20):p.dat.dep<=70:=by
 cases p with
 | r f x=>have:=dep_dat h.2;show (Dt.tup [.str f,dat x]).dep<=70;rw[dep_two,Dt.dep];lia
 | b x n=>have:=dep_dat (show Bd 7 e x from h);show (Dt.tup [dat x,.int n]).dep<=70;rw[dep_two,Dt.dep];lia
theorem pr_tup (p:Pr):∃ ds,p.dat=.tup ds:=by cases p <;> exact⟨_,rfl⟩
theorem ok_side {k d:Nat} (T:Tx mg) (D:Df K mg "_law_side" (top 11) f fd ["one","other"]) (Zan:Df K mg "_law_pair_side" (top 12) f_pair fd_pair ["word","a","b"]) (Zbk:FnOk P w K mg base CX0 k f_pair fd_pair ["word","a","b"] (spPairP d)) :
  FnOk P w K mg base CX0 (k+1) f fd ["one","other"] (spSide d):=by
 refine D.fn.okH ZaU (fun vs H Q E h=>?_) (fun cdv A outer s H vs Q E hr h=>?_)
 ·obtain⟨v,u,x,y,rfl,_⟩:=h;rfl
 obtain⟨v,u,x,y,rfl,hx,hy,bx,by',hd,fin⟩:=h
 have hu:=u110 hr
 have hu0:=u0 hr
 have hu1:=hu_of hr
 refine⟨_,(wss_cons (ws_if (wt_cmpR (op_eqU hu) (wv 0) (wv 1) (nomark _)) (wss_one (ws_ret we_int)) wss_nil)
   (wss_cons (ws_set (i:=2) ZaU.nd rfl (Or.inl rfl) (we_disp (wps_cons we_str we_int (wps_cons we_str we_int (wps_cons we_str we_int (wps_cons we_str we_int wps_nil)))) rfl rfl (by simp) (by decide)))
   (wss_cons (ws_if (wt_cmpR (op_neU hu) (we_ix (ix_U hu1) (wv 0) we_int (fun _ _=>rfl)) (we_ix (ix_U hu1) (wv 1) we_int (fun _ _=>rfl)) (nomark _)) (wss_one (ws_ret (we_ix (ix_U hu1) (we_lst (wa_cons we_int (wa_cons (we_un un_neg we_int) wa_nil))) (we_callTy call_int1 rfl T.z_int bt_int (wa_cons (we_cmpR (op_ltU hu0) (we_ix (ix_U hu1) (wv 2) (we_ix (ix_U hu1) (wv 0) we_int (fun _ _=>rfl)) (fun _ _=>rfl)) (we_ix (ix_U hu1) (wv 2) (we_ix (ix_U hu1) (wv 1) we_int (fun _ _=>rfl)) (fun _ _=>rfl)) (nomark _)) wa_nil)) (fun _ _=>rfl)))) wss_nil)
   (wss_cons (ws_if (wt_cmpR (op_inU hu) (we_ix (ix_U hu1) (wv 0) we_int (fun _ _=>rfl)) (we_tup (wa_consts rfl)) (by with_unfolding_all rfl)) (wss_one (ws_ret (we_ix (ix_U hu1) (we_lst (wa_cons we_int (wa_cons (we_un un_neg we_int) wa_nil))) (we_callTy call_int1 rfl T.z_int bt_int (wa_cons (we_cmpR (op_ltU hu0) (we_ix (ix_U hu1) (wv 0) we_int (fun _ _=>rfl)) (we_ix (ix_U hu1) (wv 1) we_int (fun _ _=>rfl)) (nomark _)) wa_nil)) (fun _ _=>rfl)))) wss_nil)
   (wss_cons (ws_for PassesOwn.never rfl (wi_zip rfl T.z_zip (wa_cons (we_ix (ix_U hu1) (wv 0) we_int (fun _ _=>rfl)) (wa_cons (we_ix (ix_U hu1) (wv 1) we_int (fun _ _=>rfl)) wa_nil))) (wg_tup rfl (wgs_cons (wg_name (i:=3) ZaU.nd rfl (Or.inl rfl)) (wgs_cons (wg_name (i:=4) ZaU.nd rfl (Or.inl rfl)) wgs_nil))) (wss_one (ws_if (wt_cmpR (op_neU hu) (wv 3) (wv 4) (nomark _)) (wss_one (ws_ret (we_call Zbk (hr.mono (by lia)) rfl Zan.mg Zan.kp Zan.b .nil pass0 (wa_cons (we_ix (ix_U hu1) (wv 0) we_int (fun _ _=>rfl)) (wa_cons (wv 3) (wa_cons (wv 4) wa_nil)))))) wss_nil)))
   (wss_one (ws_ret (we_ix (ix_U hu1) (we_lst (wa_cons we_int (wa_cons (we_un un_neg we_int) wa_nil))) (we_callTy call_int1 rfl T.z_int bt_int (wa_cons (we_cmpR (op_ltU hu0) (we_callB call_lenU rfl T.z_len bt_len (wa_cons (we_ix (ix_U hu1) (wv 0) we_int (fun _ _=>rfl)) wa_nil)) (we_callB call_lenU rfl T.z_len bt_len (wa_cons (we_ix (ix_U hu1) (wv 1) we_int (fun _ _=>rfl)) wa_nil)) (nomark _)) wa_nil)) (fun _ _=>rfl))))))))),?_⟩
 have dx:(dat x).dep<=depMax:=Nat.le_trans (dep_dat bx) (by unfold depMax;lia)
 refine⟨_,rfl,_,rfl,.inr ⟨dat x,dat y,hx,hy,dx,_,rfl,?_⟩⟩
 refine ite2 (fun e=>?_) (fun e=>?_)
 ·have exy:x=y:=dat_inj (of_decide_eq_true e)
  subst exy
  exact fin 0 H (.refl H) (by rw[ahead_self];rfl)
 have ne:x≠y:=fun z=>e (decide_eq_true (by rw[z]))
 intro c hc
 refine⟨upd_same,[(Sum.inr "num",.int 0),(Sum.inr "word",.int 1),(Sum.inr "row",.int 2),(Sum.inr "bag",.int 3)],rfl,by decide,?_⟩
 have s1:Same H (upd (upd H c (.dK [])) c (.dK RK)):=fun b o z=>by rw[upd_ne (ne_of_none z hc),upd_ne (ne_of_none z hc)];exact z
 have hR:(upd (upd H c (.dK [])) c (.dK RK)) c=some (.dK RK):=upd_same
 have hx':IsDt H (dat x) v:=hx
 have hy':IsDt H (dat y) u:=hy
 rw[dat_two]at hx' hy'
 obtain⟨a1,y1,z1,rfl,h1,i1,j1⟩:=dt_two hx'
 obtain⟨a2,y2,z2,rfl,h2,i2,j2⟩:=dt_two hy'
 rw[IsDt]at i1 i2
 subst i1 i2
 refine⟨_,rfl,.inr (.inl ⟨a1,_,0,_,rfl,rfl,SqT.of (s1 _ _ h1),rfl,_,rfl,.inr (.inl ⟨a2,_,0,_,rfl,rfl,SqT.of (s1 _ _ h2),rfl,.inl ⟨rfl,_,rfl,?_⟩⟩)⟩)⟩
 refine ite2 (fun e=>?_) (fun e=>?_)
 ·have nt:tagS x≠tagS y:=fun z=>by rw[z]at e;simp at e
  refine⟨_,rfl,(by show 2<=sizeLine;decide),fun l hl=>?_⟩
  have s2:Same H (upd (upd (upd H c (.dK [])) c (.dK RK)) l (.lst [.int 1,.int (-1)])):=s1.trans (same_new hl _)
  have hR2:(upd (upd (upd H c (.dK [])) c (.dK RK)) l (.lst [.int 1,.int (-1)])) c=some (.dK RK):=same_new hl _ _ _ hR
  have g:∀ z,DGet (upd (upd (upd H c (.dK [])) c (.dK RK)) l (.lst [.int 1,.int (-1)])) c (.str (tagS z)) (some (.int (rank z))):=fun z=>by rw[<- rk_at z];exact DGet.k (k:=Sum.inr (tagS z)) hR2
  refine⟨_,rfl,_,rfl,.inr (.inl ⟨a1,_,0,_,rfl,rfl,SqT.of (s2 _ _ h1),rfl,.inr (.inr (.inr ⟨c,_,rfl,g x,_,rfl,_,rfl,.inr (.inl ⟨a2,_,0,_,rfl,rfl,SqT.of (s2 _ _ h2),rfl,.inr (.inr (.inr ⟨c,_,rfl,g y,.inl ⟨_,_,rfl,rfl,.inr ⟨_,rfl,.inl ⟨l,_,_,_,rfl,rfl,SqL.of upd_same,pick _,fin _ _ s2 ?_⟩⟩⟩⟩))⟩)⟩))⟩)⟩
  rw[pick_lt,ahead_tag nt]
 have et:tagS x=tagS y:=Classical.byContradiction fun z=>e (by simp [z])
 refine⟨_,rfl,.inr (.inl ⟨a1,_,0,_,rfl,rfl,SqT.of (s1 _ _ h1),rfl,?_⟩)⟩
 refine⟨(by show 2<=sizeLine;decide),fun t ht=>?_⟩
 have s3:=s1.trans (same_new ht (.tup [.str "num",.str "word"]))
 refine .inl ⟨t,_,rfl,.inr (SqT.of upd_same),rfl,rfl,_,rfl,?_⟩
 refine ite2 (fun hin0=>?_) (fun hin0=>?_)
 ·have hin:inV (V.str (tagS x)) [.str "num",.str "word"]=true:=hin0
  refine⟨_,rfl,(by show 2<=sizeLine;decide),fun l hl=>?_⟩
  have s4:=s3.trans (same_new hl (.lst [.int 1,.int (-1)]))
  cases x with
  | row ps=>exact absurd (show inV (V.str "row") [.str "num",.str "word"]=true from hin) (by decide +kernel)
  | bag ps=>exact absurd (show inV (V.str "bag") [.str "num",.str "word"]=true from hin) (by decide +kernel)
  | num i=>
   cases y with
   | word j=>exact absurd (show (Str.ofString "num" : Str)=Str.ofString "word" from et) (by decide +kernel)
   | row j=>exact absurd (show (Str.ofString "num" : Str)=Str.ofString "row" from et) (by decide +kernel)
   | bag j=>exact absurd (show (Str.ofString "num" : Str)=Str.ofString "bag" from et) (by decide +kernel)
   | num j=>
    rw[restD,IsDt]at j1 j2
    subst j1 j2
    refine⟨_,rfl,.inr (.inl ⟨a1,_,1,_,rfl,rfl,SqT.of (s4 _ _ h1),rfl,_,rfl,.inr (.inl ⟨a2,_,1,_,rfl,rfl,SqT.of (s4 _ _ h2),rfl,.inl ⟨i,j,rfl,rfl,.inr ⟨_,rfl,.inl ⟨l,_,_,_,rfl,rfl,SqL.of upd_same,pick _,fin _ _ s4 ?_⟩⟩⟩⟩)⟩)⟩
    rw[pick_lt,ahead_ne ne,ltV]
  | word i=>
   cases y with
   | num j=>exact absurd (show (Str.ofString "word" : Str)=Str.ofString "num" from et) (by decide +kernel)
   | row j=>exact absurd (show (Str.ofString "word" : Str)=Str.ofString "row" from et) (by decide +kernel)
   | bag j=>exact absurd (show (Str.ofString "word" : Str)=Str.ofString "bag" from et) (by decide +kernel)
   | word j=>
    rw[restD,IsDt]at j1 j2
    subst j1 j2
    refine⟨_,rfl,.inr (.inl ⟨a1,_,1,_,rfl,rfl,SqT.of (s4 _ _ h1),rfl,_,rfl,.inr (.inl ⟨a2,_,1,_,rfl,rfl,SqT.of (s4 _ _ h2),rfl,.inr (.inl ⟨.s i,.s j,_,rfl,rfl,rfl,.inr ⟨_,rfl,.inl ⟨l,_,_,_,rfl,rfl,SqL.of upd_same,pick _,fin _ _ s4 ?_⟩⟩⟩)⟩)⟩)⟩
    rw[pick_lt,ahead_ne ne,ltV]
 have hin:¬inV (V.str (tagS x)) [.str "num",.str "word"]=true:=hin0
 obtain⟨ps,qs,ex,ey,tp,tq,lp,lq,hb,h0,hat,hend⟩:=pairs_of et hin bx by' ne
 rw[ex,IsDt]at j1
 rw[ey,IsDt]at j2
 obtain⟨b1,us,rfl,g1,k1⟩:=j1
 obtain⟨b2,ws,rfl,g2,k2⟩:=j2
 have n1:us.length=ps.length:=by rw[k1.length,List.length_map]
 have n2:ws.length=qs.length:=by rw[k2.length,List.length_map]
 refine⟨_,rfl,.inr (.inl ⟨a1,_,1,_,rfl,rfl,SqT.of (s3 _ _ h1),rfl,_,rfl,.inr (.inl ⟨a2,_,1,_,rfl,rfl,SqT.of (s3 _ _ h2),rfl,b1,b2,us,ws,rfl,SqT.of (s3 _ _ g1),SqT.of (s3 _ _ g2),?_⟩)⟩)⟩
 refine⟨fun i m σ H'=>Same H H'/\m+i=8/\i<=ps.length/\i<=qs.length/\ps.take i=qs.take i/\∃ o3 o4,σ=[some (.ref a1),some (.ref a2),some (.ref c),o3,o4],⟨8,s3,rfl,by lia,by lia,rfl,none,none,rfl⟩,?_⟩
 rintro i m σ H' ⟨sH,hm,l1,l2,htk,o3,o4,rfl⟩
 by_cases hi:i<ps.length/\i<qs.length
 ·obtain⟨p,hp⟩:∃ p,ps[i]?=some p:=⟨_,List.getElem?_eq_getElem hi.1⟩
  obtain⟨q,hq⟩:∃ q,qs[i]?=some q:=⟨_,List.getElem?_eq_getElem hi.2⟩
  obtain⟨u1,e1,d1⟩:=k1.get (i:=i) (d:=p.dat) (by rw[List.getElem?_map,hp];rfl)
  obtain⟨w1,e2,d2⟩:=k2.get (i:=i) (d:=q.dat) (by rw[List.getElem?_map,hq];rfl)
  refine .inr ⟨⟨us,ws,u1,w1,SqT.of (sH _ _ g1),SqT.of (sH _ _ g2),e1,e2⟩,fun σ' H''=>Same H H''/\(m-1)+(i+1)=8/\i+1<=ps.length/\i+1<=qs.length/\ps.take (i+1)=qs.take (i+1)/\∃ o3 o4,σ'=[some (.ref a1),some (.ref a2),some (.ref c),o3,o4],fun σ' H'' hW=>⟨m-1,by lia,hW⟩,?_⟩
  rintro v H'' ⟨pp,rfl,hpp,x',y',f1,f2,rfl⟩
  have ex':x'=u1:=by have:=f1 us (SqT.of (sH _ _ g1));rw[e1]at this;injection this with this;exact this.symm
  have ey':y'=w1:=by have:=f2 ws (SqT.of (sH _ _ g2));rw[e2]at this;injection this with this;exact this.symm
  subst ex' ey'
  have sJ:=sH.trans (same_new hpp (.tup [x',y']))
  obtain⟨ds,eds⟩:=pr_tup p
  obtain⟨es,ees⟩:=pr_tup q
  have hpm:p∈ps:=List.mem_of_getElem? hp
  have hqm:q∈qs:=List.mem_of_getElem? hq
  have t1:=tp p hpm
  have t2:=tq q hqm
  cases d with
  | zero=>rw[h0 rfl]at hpm;cases hpm
  | succ d=>
  have b1':=(hb d rfl).1 p hpm
  have b2':=(hb d rfl).2 q hqm
  have dp:=pr_dep b1' (by lia)
  have D1:=IsDt.mono sJ.tups d1
  have D2:=IsDt.mono sJ.tups d2
  have D1':=D1
  have D2':=D2
  rw[eds]at D1' dp
  rw[ees]at D2'
  refine⟨pp,_,rfl,SqT.of upd_same,rfl,_,_,rfl,_,_,rfl,rfl,?_⟩
  refine⟨_,rfl,_,rfl,.inr (.inl ⟨ds,es,D1',D2',(by rw[Dt.dep]at dp;unfold depMax;lia),_,rfl,?_⟩)⟩
  refine ite2 (fun e=>?_) (fun e=>?_)
  ·have npq:p≠q:=fun z=>by rw[z,ees]at eds;injection eds with eds;rw[eds]at e;simp at e
   refine⟨_,rfl,.inr (.inl ⟨a1,_,0,_,rfl,rfl,SqT.of (sJ _ _ h1),rfl,_,rfl,_,rfl,_,_,p,q,(by rw[t1];rfl),t1.trans t2.symm,D1,D2,npq,b1',b2',by lia,fun r H3 sH3 hr'=>fin r H3 (sJ.trans sH3) ?_⟩)⟩
   rw[hr',hat i p q htk hp hq npq]
  ·have eq':ds=es:=Classical.byContradiction fun z=>e (by simp [z])
   have epq:p=q:=pr_inj (t1.trans t2.symm) (by rw[eds,ees,eq'])
   refine⟨sJ,by lia,by lia,by lia,?_,_,_,rfl⟩
   rw[List.take_add_one,List.take_add_one,htk,hp,hq,epq]
 ·refine .inl ⟨⟨us,ws,SqT.of (sH _ _ g1),SqT.of (sH _ _ g2),by lia⟩,?_⟩
  refine⟨_,rfl,(by show 2<=sizeLine;decide),fun l hl=>?_⟩
  have s5:=sH.trans (same_new hl (.lst [.int 1,.int (-1)]))
  refine⟨_,rfl,.inr (.inl ⟨a1,_,1,_,rfl,rfl,SqT.of (s5 _ _ h1),rfl,.inl ⟨b1,us,rfl,.inr (SqT.of (s5 _ _ g1)),_,rfl,.inr (.inl ⟨a2,_,1,_,rfl,rfl,SqT.of (s5 _ _ h2),rfl,.inl ⟨b2,ws,rfl,.inr (SqT.of (s5 _ _ g2)),.inl ⟨_,_,rfl,rfl,.inr ⟨_,rfl,.inl ⟨l,_,_,_,rfl,rfl,SqL.of upd_same,pick _,fin _ _ s5 ?_⟩⟩⟩⟩⟩)⟩⟩)⟩
  have him:min ps.length qs.length=i:=by lia
  rw[pick_lt,hend (by rw[him];exact htk),n1,n2]
  simp
end
end K09
end
section
namespace K09
open PySem L2 Kn
section
variable {P:Program}{w:World}{K:PySem.W.Frag}{mg:Str->Option Value}{base:Heap}{f f_side f_pair:Addr}{fd fd_side fd_pair:FuncData}
theorem side_all (T:Tx mg) (D:Df K mg "_law_side" (top 11) f_side fd_side ["one","other"]) (D':Df K mg "_law_pair_side" (top 12) f_pair fd_pair ["word","a","b"]) :
  ∀ d:Nat,FnOk P w K mg base CX0 (2 * d+1) f_side fd_side ["one","other"] (spSide d)
 | 0=>ok_side (k:=0) T D D' ⟨fun _ _ _ _ h=>h.elim,fun _ _ _ _ _ _ _ _ _ _ _ _ _ h=>h.elim⟩
 | d+1=>ok_side (k:=2 * d+1+1) T D D' (ok_pair (k:=2 * d+1) T D' D (side_all T D D' d))
end
end K09
end
section
namespace Kn
open PySem
theorem cnt_set (v:Val) (d:Int):∀ {ys:List Val}{cs:List Int}{j:Nat} (h:j<cs.length) (hy:j<ys.length),cnt v (ys.zip (cs.set j (cs[j]+d)))=cnt v (ys.zip cs)+(if ys[j]=v then d else 0)
 | [],_,_,_,hy=>by simp at hy
 | _::_,[],_,h,_=>by simp at h
 | y::ys,c::cs,0,_,_=>by
  simp only[List.set_cons_zero,List.getElem_cons_zero,List.zip_cons_cons,cnt]
  split <;> lia
 | y::ys,c::cs,j+1,h,hy=>by
  simp only[List.set_cons_succ,List.getElem_cons_succ,List.zip_cons_cons,cnt]
  rw[cnt_set v d (by simpa using h) (by simpa using hy)]
  lia
theorem zip_split {ys:List Val}{cs:List Int} (h:ys.length=cs.length) (n:Nat):ys.zip cs=(ys.take n).zip (cs.take n)++(ys.drop n).zip (cs.drop n):=by
 rw[<- List.zip_append (by rw[List.length_take,List.length_take,h]),List.take_append_drop,List.take_append_drop]
theorem cnt_put (v u:Val) {ys:List Val}{cs:List Int} (h:ys.length=cs.length) (n:Nat):cnt v ((ys.take n++u::ys.drop n).zip (cs.take n++0::cs.drop n))=cnt v (ys.zip cs):=by
 rw[List.zip_append (by rw[List.length_take,List.length_take,h]),List.zip_cons_cons,cnt_append,cnt,zip_split h n,cnt_append]
 have:(if (u,(0:Int)).1=v then (u,(0:Int)).2 else 0)=0:=by split <;> rfl
 lia
theorem cnt_filter (v:Val) (l:List (Val×Int)):cnt v (l.filter fun q=>decide (q.2≠0))=cnt v l:=by
 induction l with
 | nil=>rfl
 | cons p l ih=>
  rw[List.filter_cons,cnt]
  by_cases c:p.2=0
  ·rw[if_neg (by simp [c]),ih]
   split <;> lia
  ·rw[if_pos (by simp [c]),cnt,ih]
theorem rise_zip {ys:List Val}{cs:List Int} (h:RiseV ys):Rise (ys.zip cs):=by
 induction ys generalizing cs with
 | nil=>exact .nil
 | cons y ys ih=>
  cases cs with
  | nil=>exact .nil
  | cons c cs=>
   have h':=List.pairwise_cons.mp h
   refine List.pairwise_cons.mpr ⟨fun q hq=>h'.1 q.1 (List.of_mem_zip hq).1,ih h'.2⟩
theorem bag_of_zip {xs:List (Val×Int)}{ys:List Val}{cs:List Int} (h:RiseV ys) (hc:∀ v,cnt v (ys.zip cs)=cnt v xs):IsBag xs ((ys.zip cs).filter fun q=>decide (q.2≠0)):=
 ⟨(rise_zip h).sublist List.filter_sublist,fun q hq=>by have:=(List.mem_filter.mp hq).2;simpa using this,fun v=>by rw[cnt_filter,hc]⟩
theorem nAhead_snoc (v y:Val) (ys:List Val):nAhead v (ys++[y])=nAhead v ys+(if aheadB y v=true then 1 else 0):=by
 unfold nAhead
 rw[List.filter_append,List.length_append]
 congr 1
 rw[List.filter_cons]
 split <;> rfl
end Kn
end
section
namespace K09
open PySem L2 Kn
section
variable {P:Program}{w:World}{K:PySem.W.Frag}{mg:Str->Option Value}{base:Heap}{f f_side:Addr}{fd fd_side:FuncData}
structure GoodIt (J:It) (p:Addr) (o:HO) (us:List V):Prop where
 go:∀ i H',H' p=some o->i<us.length->J.go i H'
 yl:∀ i H' x H'',H' p=some o->J.yld i H' x H''->H''=H'/\us[i]?=some x
 st:∀ i H',H' p=some o->us.length<=i->J.stop i H'
theorem iU {σ:St} {H:Hp}{i:Nat}{p:Addr}{o:HO}{us:List V}{R:It->Hp->Prop} (e:σ[i]?=some (some (.ref p))) (ho:o=.lst us\/o=.tup us) (h:H p=some o) (key:∀ J,GoodIt J p o us->R J H) :
  iList K (tVar i) σ H R\/iTup K (tVar i) σ H R:=by
 rcases ho with rfl | rfl
 ·exact .inl ⟨_,e,p,rfl,⟨us,SqL.of h⟩,key _ ⟨fun i H' h l=>⟨us,_,SqL.of h,List.getElem?_eq_getElem l⟩,fun i H' x H'' h y=>⟨y.1,y.2 us (SqL.of h)⟩,fun i H' h l=>⟨us,SqL.of h,l⟩⟩⟩
 ·exact .inr ⟨_,e,p,rfl,⟨us,SqT.of h⟩,key _ ⟨fun i H' h l=>⟨us,_,SqT.of h,List.getElem?_eq_getElem l⟩,fun i H' x H'' h y=>⟨y.1,y.2 us (SqT.of h)⟩,fun i H' h l=>⟨us,SqT.of h,l⟩⟩⟩
theorem ixN_nat {n j:Nat} (h:j<n):ixN n (j:Int)=some j:=by
 unfold ixN
 rw[if_pos (by lia),if_pos (by lia)]
 simp
theorem Zaz:FnScope ["pairs","values","counts","value","count","at"] ["pairs"] (defScope (top 13)):=⟨rfl,rfl,rfl,by decide +kernel,rfl,by decide +kernel,by decide +kernel⟩
def spBag (d:Nat):Sp:=fun vs H Q _=>∃ (p:Addr) (us:List V) (xs:List (Val×Int)),vs=[.ref p]/\(∃ o:HO,H p=some o/\(o=.lst us\/o=.tup us))/\IsDts H (datB xs) us/\xs.length<=100/\(∀ q∈xs,Bd 7 d q.1)/\d<=20 /\
 ∀ (v:V) (H':Hp) (qs:List (Val×Int)),Same H H'->IsVal H' (.bag qs) v->qs.length<=xs.length->(∀ q∈qs,∃ r∈xs,q.1=r.1)->IsBag xs qs->Q v H'
theorem ok_bag {k d:Nat} (T:Tx mg) (D:Df K mg "_law_bag" (top 13) f fd ["pairs"]) (Zag:Df K mg "_law_side" (top 11) f_side fd_side ["one","other"]) (ZaT:FnOk P w K mg base CX0 k f_side fd_side ["one","other"] (spSide d)) :
  FnOk P w K mg base CX0 (k+1) f fd ["pairs"] (spBag d):=by
 refine D.fn.okH Zaz (fun vs H Q E h=>?_) (fun cdv A outer s H vs Q E hr h=>?_)
 ·obtain⟨p,us,xs,rfl,_⟩:=h;rfl
 obtain⟨p,us,xs,rfl,⟨o,hp,ho⟩,hus,lx,bx,hd,fin⟩:=h
 have hu:=u110 hr
 have hu0:=u0 hr
 have hu1:=hu_of hr
 refine⟨_,(wss_cons (ws_set (i:=1) Zaz.nd rfl (Or.inr rfl) (we_lst wa_nil))
   (wss_cons (ws_set (i:=2) Zaz.nd rfl (Or.inr rfl) (we_lst wa_nil))
   (wss_cons (ws_for PassesOwn.never rfl (wi_U (wv 0)) (wg_tup rfl (wgs_cons (wg_name (i:=3) Zaz.nd rfl (Or.inr rfl)) (wgs_cons (wg_name (i:=4) Zaz.nd rfl (Or.inl rfl)) wgs_nil))) (wss_cons (ws_if (wt_cmpR (op_notInU hu) (wv 3) (wv 1) (by with_unfolding_all rfl)) (wss_cons (ws_set (i:=5) Zaz.nd rfl (Or.inl rfl) (we_callB call_lenU rfl T.z_len bt_len (wa_cons (we_lc (Nt:=["one"]) (fr:=[("value",3)]) (LcOk.of (sc:=defScope (top 13)) (N:=["pairs","values","counts","value","count","at"]) rfl rfl (by decide +kernel)) rfl (wi_U (wv 1)) (fun z=>wg_name (i:=0) (by show (["one","value"]:List Str).Nodup;decide +kernel) rfl (Or.inl rfl) (.inr rfl)) (fun z=>tgt_name (by decide)) (fun z=>wif_one (wt_cmpR (op_ltU hu0) (we_call ZaT (hr.mono (by lia)) rfl Zag.mg Zag.kp Zag.b .nil pass0 (wa_cons (wv 0) (wa_cons (wv 1) wa_nil))) we_int (nomark _))) (fun z=>(wv 0))) wa_nil)))
   (wss_cons (ws_expr (we_bm PySem.F.plainAttrs_list PySem.F.slot_list_insert PySem.F.type_list_insert mt_insert (wv 1) (wa_cons (wv 5) (wa_cons (wv 3) wa_nil))))
   (wss_one (ws_expr (we_bm PySem.F.plainAttrs_list PySem.F.slot_list_insert PySem.F.type_list_insert mt_insert (wv 2) (wa_cons (wv 5) (wa_cons we_int wa_nil))))))) wss_nil)
   (wss_cons (ws_set (i:=5) Zaz.nd rfl (Or.inl rfl) (we_bm PySem.F.plainAttrs_list PySem.F.slot_list_index PySem.F.type_list_index (mt_indexD hu) (wv 1) (wa_cons (wv 3) wa_nil)))
   (wss_one (ws_asg (we_op op_plus (we_ix (ix_U hu1) (wv 2) (wv 5) (fun _ _=>rfl)) (wv 4)) (wg_sub (wv 2) (wv 5) (set_U hu1)))))))
   (wss_one (ws_ret (we_tup (wa_cons we_str (wa_cons (we_callTy call_tuple_of rfl T.z_tuple bt_tuple (wa_cons (we_lc (Nt:=["k"]) (fr:=[("values",1),("counts",2)]) (LcOk.of (sc:=defScope (top 13)) (N:=["pairs","values","counts","value","count","at"]) rfl rfl (by decide +kernel)) rfl (wi_range1 rfl T.z_range (wa_cons (we_callB call_lenU rfl T.z_len bt_len (wa_cons (wv 1) wa_nil)) wa_nil)) (fun z=>wg_name (i:=0) (by show (["k","values","counts"]:List Str).Nodup;decide +kernel) rfl (Or.inl rfl) (.inr rfl)) (fun z=>tgt_name (by decide)) (fun z=>wif_one (wt_cmpR (op_neU hu) (we_ix (ix_U hu1) (wv 2) (wv 0) (fun _ _=>rfl)) we_int (nomark _))) (fun z=>(we_tup (wa_cons (we_ix (ix_U hu1) (wv 1) (wv 0) (fun _ _=>rfl)) (wa_cons (we_ix (ix_U hu1) (wv 2) (wv 0) (fun _ _=>rfl)) wa_nil))))) wa_nil)) wa_nil)))))))),?_⟩
 refine⟨(by show 0<=sizeLine;decide),fun lv hlv=>⟨(by show 0<=sizeLine;decide),fun lc hlc=>?_⟩⟩
 have nvc:lv≠lc:=fun z=>by rw[z,upd_same]at hlc;cases hlc
 have hlc0:H lc=none:=by rw[upd_ne (fun z=>nvc z.symm)]at hlc;exact hlc
 have s0:=(same_new hlv (.lst [])).trans (same_new hlc (.lst []))
 refine iU rfl ho (s0 _ _ hp) fun J hJ=>?_
 have nus:us.length=xs.length:=by rw[hus.length,datB_map,List.length_map]
 have depY:∀ ys:List Val,(∀ y∈ys,∃ r∈xs,y=r.1)->depL (ys.map dat)<=depMax:=fun ys h=>depL_le fun t ht=>by
  obtain⟨y,hy,rfl⟩:=List.mem_map.mp ht
  obtain⟨r,hr',rfl⟩:=h y hy
  exact Nat.le_trans (dep_dat (bx r hr')) (by unfold depMax;lia)
 have line:∀ n:Nat,n<=1000->n<sizeLine:=fun n h=>Nat.lt_of_le_of_lt h (by decide)
 refine⟨fun i m σ H'=>Same H H'/\m+i=xs.length/\(∃ o3 o4 o5,σ=[some (.ref p),some (.ref lv),some (.ref lc),o3,o4,o5]) /\
   ∃ (vls:List V) (cs:List Int) (ys:List Val),H' lv=some (.lst vls)/\H' lc=some (.lst (cs.map V.int))/\IsDts H' (ys.map dat) vls/\ys.length=cs.length/\ys.length<=i/\(∀ y∈ys,∃ r∈xs,y=r.1)/\RiseV ys/\∀ v,cnt v (ys.zip cs)=cnt v (xs.take i),
  ⟨xs.length,s0,rfl,⟨none,none,none,rfl⟩,[],[],[],by rw[upd_ne nvc];exact upd_same,upd_same,.nil,rfl,Nat.le_refl _,(fun y hy=>(nomatch hy)),.nil,fun v=>rfl⟩,?_⟩
 rintro i m σ H' ⟨sH,hm,⟨o3,o4,o5,rfl⟩,vls,cs,ys,hv,hc,iv,len,ll,all,rise,hcnt⟩
 by_cases hi:i<xs.length
 ·refine .inr ⟨hJ.go i H' (sH _ _ hp) (by lia),fun σ' H''=>Same H H''/\(m-1)+(i+1)=xs.length/\(∃ o3 o4 o5,σ'=[some (.ref p),some (.ref lv),some (.ref lc),o3,o4,o5]) /\
   ∃ (vls:List V) (cs:List Int) (ys:List Val),H'' lv=some (.lst vls)/\H'' lc=some (.lst (cs.map V.int))/\IsDts H'' (ys.map dat) vls/\ys.length=cs.length/\ys.length<=i+1/\(∀ y∈ys,∃ r∈xs,y=r.1)/\RiseV ys/\∀ v,cnt v (ys.zip cs)=cnt v (xs.take (i+1)),fun σ' H'' hW=>⟨m-1,by lia,hW⟩,?_⟩
  intro x H'' hy
  obtain⟨e0,hx⟩:=hJ.yl i H' x _ (sH _ _ hp) hy
  rw[e0]
  obtain⟨u,hu',du⟩:=hus.get (i:=i) (d:=.tup [dat xs[i].1,.int xs[i].2]) (by rw[datB_map,List.getElem?_map,List.getElem?_eq_getElem hi];rfl)
  obtain rfl:u=x:=by rw[hu']at hx;injection hx
  obtain⟨c,v,z,rfl,hc1,dv,dz⟩:=dt_two du
  rw[IsDt]at dz
  subst dz
  have hxm:xs[i]∈xs:=List.getElem_mem hi
  have htk:xs.take (i+1)=xs.take i++[xs[i]]:=by rw[List.take_add_one,List.getElem?_eq_getElem hi];rfl
  generalize xs[i]=xi at hxm dv hc1 du htk
  have hcnt':∀ v,cnt v (xs.take (i+1))=cnt v (xs.take i)+(if xi.1=v then xi.2 else 0):=fun v=>by rw[htk,cnt_append];simp only[cnt];lia
  have dv':=IsDt.mono sH.tups dv
  refine⟨c,_,rfl,SqT.of (sH _ _ hc1),rfl,_,_,rfl,_,_,rfl,rfl,?_⟩
  refine⟨_,rfl,_,rfl,.inr ⟨lv,vls,dat xi.1,ys.map dat,rfl,SqL.of hv,dv',iv,depY ys all,_,rfl,?_⟩⟩
  refine ite2 (fun e=>?_) (fun e=>?_)
  ·refine iU rfl (.inl rfl) hv fun J2 hJ2=>?_
   have nvl:vls.length=ys.length:=by rw[iv.length,List.length_map]
   have nm:xi.1 ∉ ys:=fun z=>by
    have z':dat xi.1∈ys.map dat:=List.mem_map.mpr ⟨_,z,rfl⟩
    simp only[if_pos,decide_eq_true z']at e
    revert e;decide
   refine⟨fun i2 m2 zs H2=>Same H' H2/\m2+i2=ys.length/\zs.length<=i2/\zs.length=nAhead xi.1 (ys.take i2),⟨ys.length,.refl _,rfl,Nat.le_refl _,rfl⟩,?_⟩
   rintro i2 m2 zs H2 ⟨s2,hm2,lz,hna⟩
   refine⟨line _ (by lia),?_⟩
   by_cases hi2:i2<ys.length
   ·refine .inr ⟨hJ2.go i2 H2 (s2 _ _ hv) (by lia),fun z x H5 hy2=>?_⟩
    obtain⟨rfl,hx2⟩:=hJ2.yl i2 H2 x _ (s2 _ _ hv) hy2
    obtain⟨y2,hy2',dy2⟩:=iv.get (i:=i2) (d:=dat ys[i2]) (by rw[List.getElem?_map,List.getElem?_eq_getElem hi2];rfl)
    obtain rfl:y2=x:=by rw[hy2']at hx2;injection hx2
    obtain⟨r2,hr2,er2⟩:=all _ (List.getElem_mem hi2)
    refine⟨_,rfl,_,rfl,_,_,ys[i2],xi.1,rfl,IsDt.mono s2.tups dy2,IsDt.mono s2.tups dv',(by rw[er2];exact bx _ hr2),bx _ hxm,hd,fun r H6 s6 hr6=>.inl ⟨r,0,rfl,rfl,_,rfl,?_⟩⟩
    have tk:ys.take (i2+1)=ys.take i2++[ys[i2]]:=by rw[List.take_add_one,List.getElem?_eq_getElem hi2];rfl
    refine ite2 (fun e6=>?_) (fun e6=>?_)
    ·exact⟨_,rfl,m2-1,by lia,s2.trans s6,by lia,by rw[List.length_append];show zs.length+1<=_;lia,by rw[tk,nAhead_snoc,if_pos (hr6.symm.trans e6),List.length_append];show zs.length+1=_;lia⟩
    ·exact⟨m2-1,by lia,s2.trans s6,by lia,by lia,by rw[tk,nAhead_snoc,if_neg (by rw[<- hr6];exact e6)];lia⟩
   refine .inl ⟨hJ2.st i2 H2 (s2 _ _ hv) (by lia),fun l hl=>.inl ⟨l,zs,rfl,.inl (SqL.of upd_same),?_⟩⟩
   have sL:=(sH.trans s2).trans (same_new hl (.lst zs))
   have sK:=s2.trans (same_new hl (.lst zs))
   generalize upd H2 l (.lst zs)=HL at sL sK ⊢
   have hvL:=sK _ _ hv
   have hcL:=sK _ _ hc
   refine⟨_,rfl,.inl ⟨rfl,_,SqL.of hvL⟩,_,rfl,_,rfl,lv,vls,zs.length,v,rfl,rfl,hvL,by lia,by lia,line _ (by lia),?_⟩
   have sM:Same H (upd HL lv (.lst (vls.take ((zs.length:Int)).toNat++v::vls.drop ((zs.length:Int)).toNat))):=fun b q e=>by rw[upd_ne (ne_of_none e hlv)];exact sL b q e
   have tM:Tups HL (upd HL lv (.lst (vls.take ((zs.length:Int)).toNat++v::vls.drop ((zs.length:Int)).toNat))):=Tups.lst hvL
   have hvM:(upd HL lv (.lst (vls.take ((zs.length:Int)).toNat++v::vls.drop ((zs.length:Int)).toNat))) lv=_:=upd_same
   have hcM:(upd HL lv (.lst (vls.take ((zs.length:Int)).toNat++v::vls.drop ((zs.length:Int)).toNat))) lc=_:=(upd_ne (fun z=>nvc z.symm)).trans hcL
   generalize upd HL lv (.lst (vls.take ((zs.length:Int)).toNat++v::vls.drop ((zs.length:Int)).toNat))=HM at sM tM hvM hcM ⊢
   refine⟨_,rfl,.inl ⟨rfl,_,SqL.of hcM⟩,_,rfl,lc,_,zs.length,.int 0,rfl,rfl,hcM,by lia,by rw[List.length_map];lia,line _ (by rw[List.length_map];lia),?_⟩
   have sH3:Same H (upd HM lc (.lst ((cs.map V.int).take ((zs.length:Int)).toNat++.int 0::(cs.map V.int).drop ((zs.length:Int)).toNat))):=fun b q e=>by rw[upd_ne (ne_of_none e hlc0)];exact sM b q e
   have t3:Tups HM (upd HM lc (.lst ((cs.map V.int).take ((zs.length:Int)).toNat++.int 0::(cs.map V.int).drop ((zs.length:Int)).toNat))):=Tups.lst hcM
   have hv3:(upd HM lc (.lst ((cs.map V.int).take ((zs.length:Int)).toNat++.int 0::(cs.map V.int).drop ((zs.length:Int)).toNat))) lv=_:=(upd_ne nvc).trans hvM
   have hc3':(upd HM lc (.lst ((cs.map V.int).take ((zs.length:Int)).toNat++.int 0::(cs.map V.int).drop ((zs.length:Int)).toNat))) lc=_:=upd_same
   generalize upd HM lc (.lst ((cs.map V.int).take ((zs.length:Int)).toNat++.int 0::(cs.map V.int).drop ((zs.length:Int)).toNat))=H3 at sH3 t3 hv3 hc3' ⊢
   obtain⟨n,hn⟩:∃ n,((zs.length:Int)).toNat=n:=⟨_,rfl⟩
   have hnl:n<=ys.length:=by lia
   have hna':n=nAhead xi.1 ys:=by rw[List.take_of_length_le (by lia)]at hna;lia
   rw[hn]at hv3 hc3'
   obtain⟨cs3,ecs⟩:∃ cs3:List Int,cs3=cs.take n++0::cs.drop n:=⟨_,rfl⟩
   obtain⟨ys3,eys⟩:∃ ys3:List Val,ys3=ys.take n++xi.1::ys.drop n:=⟨_,rfl⟩
   obtain⟨vls3,evl⟩:∃ vls3:List V,vls3=vls.take n++v::vls.drop n:=⟨_,rfl⟩
   rw[<- evl]at hv3
   have hc3:H3 lc=some (.lst (cs3.map V.int)):=by rw[hc3',ecs,List.map_append,List.map_cons,List.map_take,List.map_drop]
   have tA:Tups H' H3:=fun b q e=>t3 b q (tM b q (sK b _ e))
   have dv3:IsDt H3 (dat xi.1) v:=IsDt.mono tA dv'
   have iv3:IsDts H3 (ys3.map dat) vls3:=by
    have iw:=IsDts.mono tA iv
    rw[eys,evl,List.map_append,List.map_cons,List.map_take,List.map_drop]
    exact (iw.take n).append (.cons dv3 (iw.drop n))
   have len3:ys3.length=cs3.length:=by rw[eys,ecs];simp [len]
   have ll3:ys3.length<=i+1:=by rw[eys];simp;lia
   have all3:∀ y∈ys3,∃ r∈xs,y=r.1:=by
    intro y hy
    rw[eys]at hy
    rcases List.mem_append.mp hy with h | h
    ·exact all y (List.mem_of_mem_take h)
    ·rcases List.mem_cons.mp h with h | h
     ·exact⟨xi,hxm,h⟩
     ·exact all y (List.mem_of_mem_drop h)
   have rise3:RiseV ys3:=by rw[eys,hna'];exact rise_put rise nm
   have cnt3:∀ v,cnt v (ys3.zip cs3)=cnt v (xs.take i):=fun v=>by rw[eys,ecs,cnt_put v _ len n,hcnt]
   have mem3:dat xi.1∈ys3.map dat:=List.mem_map.mpr ⟨xi.1,by rw[eys];simp,rfl⟩
   refine⟨_,rfl,.inl ⟨rfl,_,SqL.of hv3⟩,_,rfl,lv,vls3,v,dat xi.1,ys3.map dat,rfl,rfl,hv3,dv3,iv3,depY ys3 all3,mem3,fun j hj=>?_⟩
   have hjl:j<cs3.length:=by have:=(List.getElem?_eq_some_iff.mp hj).1;rw[List.length_map]at this;lia
   have hjy:j<ys3.length:=by lia
   have hyj:ys3[j]=xi.1:=by
    rw[List.getElem?_map,List.getElem?_eq_getElem hjy]at hj
    injection hj with hj
    exact dat_inj hj
   refine⟨_,rfl,_,rfl,.inl ⟨lc,_,j,_,rfl,rfl,SqL.of hc3,atI_nat (show (cs3.map V.int)[j]?=some (.int cs3[j]) by rw[List.getElem?_map,List.getElem?_eq_getElem hjl];rfl),_,rfl,.inl ⟨_,_,rfl,rfl,_,rfl,_,rfl,.inl ⟨lc,_,j,j,rfl,rfl,hc3,ixN_nat (by simpa using hjl),?_⟩⟩⟩⟩
   refine⟨fun b q e=>by rw[upd_ne (ne_of_none e hlc0)];exact sH3 b q e,by lia,⟨_,_,_,rfl⟩,vls3,cs3.set j (cs3[j]+xi.2),ys3,by rw[upd_ne nvc];exact hv3,by rw[upd_same,List.map_set],IsDts.mono (Tups.lst hc3) iv3,by rw[List.length_set];exact len3,ll3,all3,rise3,fun v=>by rw[cnt_set v xi.2 hjl hjy,cnt3,hcnt',hyj]⟩
  ·have mem3:dat xi.1∈ys.map dat:=Classical.byContradiction fun z=>e (by simp only[if_pos,decide_eq_false z];rfl)
   obtain⟨H3,vls3,cs3,ys3,rfl,rfl,rfl,rfl⟩:∃ (H3:Hp) (vls3:List V) (cs3:List Int) (ys3:List Val),H3=H'/\vls3=vls/\cs3=cs/\ys3=ys:=⟨_,_,_,_,rfl,rfl,rfl,rfl⟩
   have sH3:=sH
   have hv3:=hv
   have hc3:=hc
   have iv3:=iv
   have dv3:=dv'
   have all3:=all
   have len3:=len
   have ll3:ys3.length<=i+1:=by lia
   have rise3:=rise
   have cnt3:=hcnt
   refine⟨_,rfl,.inl ⟨rfl,_,SqL.of hv3⟩,_,rfl,lv,vls3,v,dat xi.1,ys3.map dat,rfl,rfl,hv3,dv3,iv3,depY ys3 all3,mem3,fun j hj=>?_⟩
   have hjl:j<cs3.length:=by have:=(List.getElem?_eq_some_iff.mp hj).1;rw[List.length_map]at this;lia
   have hjy:j<ys3.length:=by lia
   have hyj:ys3[j]=xi.1:=by
    rw[List.getElem?_map,List.getElem?_eq_getElem hjy]at hj
    injection hj with hj
    exact dat_inj hj
   refine⟨_,rfl,_,rfl,.inl ⟨lc,_,j,_,rfl,rfl,SqL.of hc3,atI_nat (show (cs3.map V.int)[j]?=some (.int cs3[j]) by rw[List.getElem?_map,List.getElem?_eq_getElem hjl];rfl),_,rfl,.inl ⟨_,_,rfl,rfl,_,rfl,_,rfl,.inl ⟨lc,_,j,j,rfl,rfl,hc3,ixN_nat (by simpa using hjl),?_⟩⟩⟩⟩
   refine⟨fun b q e=>by rw[upd_ne (ne_of_none e hlc0)];exact sH3 b q e,by lia,⟨_,_,_,rfl⟩,vls3,cs3.set j (cs3[j]+xi.2),ys3,by rw[upd_ne nvc];exact hv3,by rw[upd_same,List.map_set],IsDts.mono (Tups.lst hc3) iv3,by rw[List.length_set];exact len3,ll3,all3,rise3,fun v=>by rw[cnt_set v xi.2 hjl hjy,cnt3,hcnt',hyj]⟩
 ·refine .inl ⟨hJ.st i H' (sH _ _ hp) (by lia),?_⟩
  have nvl:vls.length=ys.length:=by rw[iv.length,List.length_map]
  refine⟨_,rfl,.inl ⟨lv,vls,rfl,.inl (SqL.of hv),vls.length,rfl,by lia,by lia,?_⟩⟩
  refine⟨fun i2 m2 zs H2=>Same H' H2/\m2+i2=ys.length/\∃ qs:List (Val×Int),IsDts H2 (datB qs) zs/\qs.length<=i2/\(∀ q∈qs,∃ r∈xs,q.1=r.1)/\qs=((ys.zip cs).take i2).filter fun q=>decide (q.2≠0),⟨ys.length,.refl _,rfl,[],.nil,Nat.le_refl _,(fun q hq=>(nomatch hq)),rfl⟩,?_⟩
  rintro i2 m2 zs H2 ⟨s2,hm2,qs,iq,lq,aq,eqs⟩
  have nz:zs.length=qs.length:=by rw[iq.length,datB_map,List.length_map]
  refine⟨line _ (by lia),?_⟩
  have hv2:=s2 _ _ hv
  have hc2:=s2 _ _ hc
  by_cases hi2:i2<ys.length
  ·refine .inr ⟨(by show i2<((vls.length:Int)).toNat;lia),fun z x H5 hy2=>?_⟩
   obtain⟨rfl,rfl⟩:=hy2
   have hic:i2<cs.length:=by lia
   obtain⟨v2,ev2,dv2⟩:=iv.get (i:=i2) (d:=dat ys[i2]) (by rw[List.getElem?_map,List.getElem?_eq_getElem hi2];rfl)
   have at1:atI vls (0+(i2:Int))=some v2:=by rw[Int.zero_add];exact atI_nat ev2
   have at2:atI (cs.map V.int) (0+(i2:Int))=some (.int cs[i2]):=by rw[Int.zero_add];exact atI_nat (by rw[List.getElem?_map,List.getElem?_eq_getElem hic];rfl)
   refine⟨_,rfl,_,rfl,.inl ⟨lc,_,_,_,rfl,rfl,SqL.of hc2,at2,.inl ⟨rfl,_,rfl,?_⟩⟩⟩
   have tkz:(ys.zip cs).take (i2+1)=(ys.zip cs).take i2++[(ys[i2],cs[i2])]:=by
    rw[List.take_add_one,List.getElem?_eq_getElem (by rw[List.length_zip];lia),List.getElem_zip];rfl
   refine ite2 (fun e=>?_) (fun e=>?_)
   ·have e0:cs[i2]≠0:=fun z=>by rw[z]at e;revert e;decide
    refine⟨_,rfl,_,rfl,.inl ⟨lv,_,_,v2,rfl,rfl,SqL.of hv2,at1,_,rfl,_,rfl,.inl ⟨lc,_,_,_,rfl,rfl,SqL.of hc2,at2,(by show 2<=sizeLine;decide),fun l hl=>?_⟩⟩⟩
    refine⟨m2-1,by lia,s2.trans (same_new hl _),by lia,qs++[(ys[i2],cs[i2])],?_,by rw[List.length_append];show qs.length+1<=_;lia,?_,by rw[tkz,List.filter_append,<- eqs];simp [e0]⟩
    ·rw[datB_map,List.map_append,<- datB_map]
     exact (IsDts.mono (same_new hl _).tups iq).append (.one (isDt_new hl (.cons (IsDt.mono s2.tups dv2) (.one (by rw[IsDt])))))
    ·intro q hq
     rcases List.mem_append.mp hq with h | h
     ·exact aq q h
     ·rw[List.mem_singleton.mp h];exact all _ (List.getElem_mem hi2)
   ·have e0:cs[i2]=0:=Classical.byContradiction fun z=>e (by rw[decide_eq_false (fun w=>z (by injection w))];rfl)
    exact⟨m2-1,by lia,s2,by lia,qs,iq,by lia,aq,by rw[tkz,List.filter_append,<- eqs];simp [e0]⟩
  ·refine .inl ⟨(by show ((vls.length:Int)).toNat<=i2;lia),fun l hl=>⟨l,zs,rfl,.inl ⟨SqL.of upd_same,fun t ht=>⟨(by show 2<=sizeLine;decide),fun b hb=>?_⟩⟩⟩⟩
   refine fin _ _ qs ((sH.trans s2).trans ((same_new hl _).trans ((same_new ht _).trans (same_new hb _)))) ?_ (by lia) aq (by
    rw[eqs,List.take_of_length_le (by rw[List.length_zip];lia)]
    exact bag_of_zip rise fun v=>by rw[hcnt,List.take_of_length_le (by lia)])
   show IsDt _ (dat (.bag qs)) _
   rw[dat_two]
   exact isDt_new hb (.cons (by rw[IsDt];rfl) (.one (isDt_tup upd_same (IsDts.mono ((same_new hl _).trans (same_new ht _)).tups iq))))
end
end K09
end
section
namespace K09
open PySem L2 Kn
theorem line1 {n:Nat} (h:n<=2000000):n<sizeLine:=Nat.lt_of_le_of_lt h (by decide)
theorem valV_mem {kvs:List (Key×V)}{k:Key} (h:k∈kvs.map (·.1)):∃ kv∈kvs,kv.1=k/\valV kvs k=some kv.2:=by
 induction kvs with
 | nil=>cases h
 | cons p r ih=>
  by_cases e:p.1=k
  ·exact⟨p,List.mem_cons_self,e,valV_pos e⟩
  ·rw[List.map_cons]at h
   rcases List.mem_cons.mp h with h | h
   ·exact absurd h.symm e
   ·obtain⟨kv,h1,h2,h3⟩:=ih h
    exact⟨kv,List.mem_cons_of_mem _ h1,h2,by rw[valV_neg e];exact h3⟩
theorem put_mem {kvs:List (Key×V)}{k:Key}{v:V}{kv:Key×V} (h:kv∈putK kvs k v):kv∈kvs\/kv=(k,v):=by
 unfold putK at h
 split at h
 ·obtain⟨q,hq,e⟩:=List.mem_map.mp h
  by_cases z:q.1=k
  ·rw[if_pos z]at e;right;rw[<- e,z]
  ·rw[if_neg z]at e;left;rw[<- e];exact hq
 ·rcases List.mem_append.mp h with h | h
  ·exact .inl h
  ·exact .inr (List.mem_singleton.mp h)
theorem putK_cases (kvs:List (Key×V)) (k:Key) (v:V):(k∈kvs.map (·.1)/\(putK kvs k v).map (·.1)=kvs.map (·.1))\/(k ∉ kvs.map (·.1)/\putK kvs k v=kvs++[(k,v)]):=by
 by_cases h:(kvs.any fun kv=>decide (kv.1=k))=true
 ·left
  obtain⟨kv,h1,h2⟩:=List.any_eq_true.mp h
  refine⟨List.mem_map.mpr ⟨kv,h1,of_decide_eq_true h2⟩,?_⟩
  unfold putK
  rw[if_pos h,List.map_map]
  refine List.map_congr_left fun q _=>?_
  show (if q.1=k then (q.1,v) else q).1=q.1
  split <;> rfl
 ·right
  refine⟨fun z=>?_,?_⟩
  ·obtain⟨kv,h1,h2⟩:=List.mem_map.mp z
   exact h (List.any_eq_true.mpr ⟨kv,h1,decide_eq_true h2⟩)
  ·unfold putK
   rw[if_neg h]
def gput (g:Key->Val) (k:Key) (x:Val):Key->Val:=fun j=>if j=k then x else g j
theorem sum_gput {l:List Key} (g:Key->Val) (k:Key) (x:Val) (nd:l.Nodup):(l.map fun j=>vsz (gput g k x j)).sum<=(l.map fun j=>vsz (g j)).sum+vsz x:=by
 induction l with
 | nil=>exact Nat.zero_le _
 | cons j l ih=>
  rw[List.nodup_cons]at nd
  rw[List.map_cons,List.map_cons,List.sum_cons,List.sum_cons]
  by_cases e:j=k
  ·have e2:(l.map fun j=>vsz (gput g k x j))=l.map fun j=>vsz (g j):=List.map_congr_left fun i hi=>by
    have:¬i=k:=fun z=>nd.1 (by rw[e,<- z];exact hi)
    show vsz (if i=k then x else g i)=_
    rw[if_neg this]
   have e3:gput g k x j=x:=if_pos e
   rw[e2,e3];lia
  ·have:=ih nd.2
   have e3:gput g k x j=g j:=if_neg e
   rw[e3];lia
theorem sum_gput_new {l:List Key} (g:Key->Val) (k:Key) (x:Val) (h:k ∉ l):(l.map fun j=>vsz (gput g k x j))=(l.map fun j=>vsz (g j)):=
 List.map_congr_left fun i hi=>by
  have:¬i=k:=fun z=>h (by rw[<- z];exact hi)
  show vsz (if i=k then x else g i)=_
  rw[if_neg this]
theorem nd_inj {l:List (Key×V)} (nd:(l.map (·.1)).Nodup) {a b:Key×V} (ha:a∈l) (hb:b∈l) (e:a.1=b.1):a=b:=by
 induction l with
 | nil=>cases ha
 | cons c l ih=>
  rw[List.map_cons,List.nodup_cons]at nd
  have ha':=List.mem_cons.mp ha
  have hb':=List.mem_cons.mp hb
  by_cases h1:a=c
  ·by_cases h2:b=c
   ·rw[h1,h2]
   ·have hb2:b∈l:=hb'.resolve_left h2
    have h:c.1∈l.map (·.1):=List.mem_map.mpr ⟨b,hb2,by rw[<- e,h1]⟩
    exact absurd h nd.1
  ·have ha2:a∈l:=ha'.resolve_left h1
   by_cases h2:b=c
   ·have h:c.1∈l.map (·.1):=List.mem_map.mpr ⟨a,ha2,by rw[e,h2]⟩
    exact absurd h nd.1
   ·exact ih nd.2 ha2 (hb'.resolve_left h2)
def cst (d:Nat):Int:=100 * 7 ^ d
theorem cst_pos (d:Nat):100<=cst d:=by
 unfold cst
 have:(1:Int)<=7 ^ d:=by exact_mod_cast Nat.one_le_pow d 7 (by decide)
 lia
theorem cst_succ (d:Nat):cst (d+1)=7 * cst d:=by unfold cst;rw[Int.pow_succ];lia
theorem Ex.upd' {p c:Addr}{H H':Hp}{o:HO} (e:Ex p H H') (h:H c=none):Ex p H (upd H' c o):=fun b q n z=>by rw[upd_ne (ne_of_none z h)];exact e b q n z
def GV (x:Val):Prop:=Gv (10 ^ 30) (10 ^ 31) x
section
variable {P:Program}{w:World}{K:PySem.W.Frag}{mg:Str->Option Value}{base:Heap}{f f_next f_name f_val:Addr}{fd fd_next fd_name fd_val:FuncData}
def spVal (d:Nat):Sp:=fun vs H Q _=>∃ (p:Addr) (n r:Int),vs=[.ref p,.int d]/\Dk H p n r/\0<=n/\n+cst d<1000000000000 /\
 ∀ (x:Val) (v:V) (H':Hp) (r':Int),Bd 6 d x->GV x->IsVal H' x v->Ex p H H'->Dk H' p (n+cst d) r'->(vsz x:Int)<=r-r'->(r<=1->r'=r-1)->(1<r->-(6 * (d:Int))<=r')->Q v H'
def spRow (d:Nat):Sp:=fun vs H Q _=>∃ (p:Addr) (n r:Int),vs=[.ref p,.int d]/\Dk H p n r/\1<=r/\0<=n/\n+(1+6 * (12+cst d))<1000000000000 /\
 ∀ (ps:List (Str×Val)) (v:V) (H':Hp) (r':Int),ps.length<=6->(∀ q∈ps,q.1.length<=9/\lets q.1/\Bd 6 d q.2/\GV q.2)->IsDt H' (.tup (datR ps)) v->Ex p H H'->Dk H' p (n+(1+6 * (12+cst d))) r'->(vszR ps:Int)<=r-r'->-(6 * (d:Int))-6<=r'->Q v H'
theorem Za4:FnScope ["deck","deep","parts","k"] ["deck","deep"] (defScope (top 14)):=⟨rfl,rfl,rfl,by decide +kernel,rfl,by decide +kernel,by decide +kernel⟩
theorem ok_row {k d:Nat} (hk:4<=k) (T:Tx mg) (D:Df K mg "_law_row_parts" (top 14) f fd ["deck","deep"]) (Zaa:Df K mg "_law_next" (top 7) f_next fd_next ["deck","many"]) (Zab:FnOk P w K mg base CX0 1 f_next fd_next ["deck","many"] spNext)
  (Zac:Df K mg "_law_name" (top 10) f_name fd_name ["deck"]) (Zai:FnOk P w K mg base CX0 2 f_name fd_name ["deck"] spName)
  (Zaj:Df K mg "_law_value" (top 16) f_val fd_val ["deck","deep"]) (ZaO:FnOk P w K mg base CX0 k f_val fd_val ["deck","deep"] (spVal d)) :
  FnOk P w K mg base CX0 (k+1) f fd ["deck","deep"] (spRow d):=by
 refine D.fn.okH Za4 (fun vs H Q E h=>?_) (fun cdv A outer s H vs Q E hr h=>?_)
 ·obtain⟨p,n,r,rfl,_⟩:=h;rfl
 obtain⟨p,n,r,rfl,dk,hr1,n0,hn,fin⟩:=h
 have hu:=u110 hr
 have hu0:=u0 hr
 have hu1:=hu_of hr
 have hC0:=cst_pos d
 refine⟨_,(wss_cons (ws_set (i:=2) Za4.nd rfl (Or.inr rfl) we_dnewK)
   (wss_cons (ws_for PassesOwn.never rfl (wi_range1 rfl T.z_range (wa_cons (we_ix (ix_U hu1) (we_lst (wa_consts rfl)) (we_call Zab (hr.mono (by lia)) rfl Zaa.mg Zaa.kp Zaa.b .nil pass0 (wa_cons (wv 0) (wa_cons we_int wa_nil))) (fun _ _=>rfl)) wa_nil)) (wg_name (i:=3) Za4.nd rfl (Or.inl rfl)) (wss_one (ws_asg (we_call ZaO (hr.mono (by lia)) rfl Zaj.mg Zaj.kp Zaj.b .nil pass0 (wa_cons (wv 0) (wa_cons (wv 1) wa_nil))) (wg_sub (wv 2) (we_call Zai (hr.mono (by lia)) rfl Zac.mg Zac.kp Zac.b .nil pass0 (wa_cons (wv 0) wa_nil)) (set_U hu1)))))
   (wss_one (ws_ret (we_callTy call_tuple_of rfl T.z_tuple bt_tuple (wa_cons (we_lc (Nt:=["field"]) (fr:=[("parts",2)]) (LcOk.of (sc:=defScope (top 14)) (N:=["deck","deep","parts","k"]) rfl rfl (by decide +kernel)) rfl (wi_U (we_callB (call_sortD rfl) rfl T.z_sorted bt_sorted (wa_cons (wv 2) wa_nil))) (fun z=>wg_name (i:=0) (by show (["field","parts"]:List Str).Nodup;decide +kernel) rfl (Or.inl rfl) (.inr rfl)) (fun z=>tgt_name (by decide)) (fun z=>wif_nil) (fun z=>(we_tup (wa_cons (wv 0) (wa_cons (we_ix (ix_U hu1) (wv 1) (wv 0) (fun _ _=>rfl)) wa_nil))))) wa_nil)))))),?_⟩
 intro c hc
 refine⟨(by show 8<=sizeLine;decide),fun l hl=>?_⟩
 have ncp:c≠p:=dk.ne hc
 have dk0:=(dk.new (o:=.dK []) hc).new (o:=.lst [.int 0,.int 1,.int 2,.int 3,.int 1,.int 2,.int 6,.int 3]) hl
 have nl:l≠p:=(dk.new (o:=.dK []) hc).ne hl
 have ncl:c≠l:=fun z=>by rw[<- z,upd_same]at hl;cases hl
 refine⟨_,rfl,p,n,_,_,rfl,dk0,by lia,by decide,by decide,fun x H2 h0 h1 ex2 dk2=>?_⟩
 obtain⟨v,hv,hm⟩:=atI_mem (xs:=[V.int 0,.int 1,.int 2,.int 3,.int 1,.int 2,.int 6,.int 3]) h0 h1
 have fj:∃ j:Nat,v=.int j/\j<=6:=by
  simp only[List.mem_cons,List.not_mem_nil,or_false]at hm
  rcases hm with rfl | rfl | rfl | rfl | rfl | rfl | rfl | rfl
  ·exact⟨0,rfl,by decide⟩
  ·exact⟨1,rfl,by decide⟩
  ·exact⟨2,rfl,by decide⟩
  ·exact⟨3,rfl,by decide⟩
  ·exact⟨1,rfl,by decide⟩
  ·exact⟨2,rfl,by decide⟩
  ·exact⟨6,rfl,by decide⟩
  ·exact⟨3,rfl,by decide⟩
 obtain⟨j,rfl,hj⟩:=fj
 have mulC:∀ i:Nat,i<=6->(i:Int) * (12+cst d)<=6 * (12+cst d):=fun i hi=>Int.mul_le_mul_of_nonneg_right (by lia) (by lia)
 have mul0:∀ i:Nat,0<=(i:Int) * (12+cst d):=fun i=>Int.mul_nonneg (by lia) (by lia)
 refine .inl ⟨l,_,x,_,rfl,rfl,SqL.of (ex2 l _ nl upd_same),hv,j,rfl,by lia,by lia,for_range (n:=((j:Int)).toNat) (fun i σ H'=>∃ (o4:Option V) (kvs:List (Key×V)) (g:Key->Val) (q:Int),σ=[some (.ref p),some (.int d),some (.ref c),o4]/\Ex p H H'/\Dk H' p (n+1+i * (12+cst d)) q/\H' c=some (.dK kvs)/\kvs.length<=i/\(kvs.map (·.1)).Nodup/\(((kvs.map (·.1)).map fun j=>vsz (g j)).sum:Int)<=r-q/\-(6 * (d:Int))-i<=q/\∀ kv∈kvs,∃ s:Str,kv.1=Sum.inr s/\s.length<=9/\lets s/\(Bd 6 d (g kv.1)/\GV (g kv.1))/\IsDt H' (dat (g kv.1)) kv.2)
  ⟨none,[],fun _=>.num 0,r,rfl,(ex_new hc).trans ((ex_new hl).trans ex2),dk2.mono (by simp),ex2 c _ ncp (by rw[upd_ne ncl];exact upd_same),Nat.le_refl _,List.nodup_nil,by simp,by lia,fun kv h=>(nomatch h)⟩ ?_ ?_⟩
 ·rintro i σ H' hi ⟨o4,kvs,g,q,rfl,ex,dk',hkv,lk,nd,sz,lo,ak⟩
  have hi6:i+1<=6:=by lia
  have m1:=mulC (i+1) hi6
  have m0:=mul0 i
  have ms:((i+1:Nat):Int) * (12+cst d)=i * (12+cst d)+(12+cst d):=by rw[Int.natCast_add,Int.add_mul];simp
  refine⟨_,rfl,_,rfl,p,_,q,rfl,dk',by lia,by lia,fun x v H3 r' kb gb ix ex3 dk3 sz3 l1 l2=>⟨_,rfl,_,rfl,p,_,r',rfl,dk3,by lia,fun s H4 ls ll ex4 dk4=>?_⟩⟩
  have t2:=dk'.tups ex3
  have t3:=dk3.tups ex4
  have hc3:=ex4 c _ ncp (ex3 c _ ncp hkv)
  have tu:Tups H4 (upd H4 c (.dK (putK kvs (Sum.inr s) v))):=fun b ys e=>by rw[upd_ne (fun z=>by rw[z,hc3]at e;cases e)];exact e
  have lo':-(6 * (d:Int))-((i+1:Nat):Int)<=r':=by
   by_cases hq:q<=1
   ·have:=l1 hq;lia
   ·have:=l2 (by lia);lia
  have hsum:((((putK kvs (Sum.inr s) v).map (·.1)).map fun j=>vsz (gput g (Sum.inr s) x j)).sum:Int)<=r-r':=by
   rcases putK_cases kvs (Sum.inr s) v with ⟨_,e⟩ | ⟨h,e⟩
   ·rw[e]
    have:=sum_gput g (Sum.inr s) x nd
    lia
   ·rw[e,List.map_append,List.map_append,sum_gput_new g (Sum.inr s) x h,List.sum_append]
    have e3:gput g (Sum.inr s) x (Sum.inr s)=x:=if_pos rfl
    simp only[List.map_cons,List.map_nil,List.sum_cons,List.sum_nil,e3]
    lia
  have hnd:((putK kvs (Sum.inr s) v).map (·.1)).Nodup:=by
   rcases putK_cases kvs (Sum.inr s) v with ⟨_,e⟩ | ⟨h,e⟩
   ·rw[e];exact nd
   ·rw[e,List.map_append]
    refine List.nodup_append.mpr ⟨nd,by simp,fun a ha b hb=>?_⟩
    have:b=Sum.inr s:=by simpa using hb
    rw[this]
    exact fun z=>h (by rw[<- z];exact ha)
  refine .inr ⟨c,_,rfl,DPut.k (k:=Sum.inr s) hc3 (Nat.lt_of_le_of_lt (show kvs.length<=1000 by lia) (by decide)),?_⟩
  refine⟨_,_,gput g (Sum.inr s) x,r',rfl,(ex.trans (ex3.trans ex4)).upd' hc,(dk4.off (fun z=>ncp z.symm)).mono (by lia),upd_same,Nat.le_trans (length_putK _ _ _) (by lia),hnd,hsum,lo',fun kv hkv'=>?_⟩
  by_cases ek:kv.1=Sum.inr s
  ·have eg:gput g (Sum.inr s) x kv.1=x:=if_pos ek
   have ev:kv.2=v:=by
    have h1:=valV_put kvs (Sum.inr s) (Sum.inr s) v
    rw[if_pos rfl]at h1
    obtain⟨kv2,h2,h3,h4⟩:=valV_mem (kvs:=putK kvs (Sum.inr s) v) (k:=Sum.inr s) (List.mem_map.mpr ⟨kv,hkv',ek⟩)
    have e5:kv2=kv:=nd_inj hnd h2 hkv' (by rw[h3,ek])
    rw[h4,e5]at h1
    injection h1
   rw[eg,ev]
   exact⟨s,ek,ls,ll,⟨kb,gb⟩,IsDt.mono tu (IsDt.mono t3 ix)⟩
  ·have eg:gput g (Sum.inr s) x kv.1=g kv.1:=if_neg ek
   rcases put_mem hkv' with h | h
   ·obtain⟨s',e1,e2,e3,e4,e5⟩:=ak kv h
    rw[eg]
    exact⟨s',e1,e2,e3,e4,IsDt.mono tu (IsDt.mono t3 (IsDt.mono t2 e5))⟩
   ·exact absurd (by rw[h]) ek
 ·rintro σ H' ⟨o4,kvs,g,q,rfl,ex,dk',hkv,lk,nd,sz,lo,ak⟩
  have hj6:kvs.length<=6:=by lia
  refine .inl ⟨_,rfl,c,kvs,rfl,hkv,(fun kv h=>let ⟨s,e,_⟩:=ak kv h;⟨s,e⟩),by lia,fun a ys ha perm srt=>⟨a,rfl,⟨_,SqL.of upd_same⟩,?_⟩⟩
  have ly:ys.length=kvs.length:=by have:=perm.length_eq;simpa using this
  have sa:=same_new ha (.lst (ys.map V.str))
  have hA:(upd H' a (.lst (ys.map V.str))) a=some (.lst (ys.map V.str)):=upd_same
  generalize upd H' a (.lst (ys.map V.str))=HA at sa hA ⊢
  refine⟨fun i2 m2 zs H2=>Same HA H2/\m2+i2=ys.length/\IsDts H2 (datR ((ys.take i2).map fun y=>(y,g (Sum.inr y)))) zs,⟨ys.length,.refl _,rfl,by rw[List.take_zero,List.map_nil,datR];exact .nil⟩,?_⟩
  rintro i2 m2 zs H2 ⟨s2,hm2,iq⟩
  have nz:zs.length=min i2 ys.length:=by rw[iq.length,datR_map,List.length_map,List.length_map,List.length_take]
  refine⟨Nat.lt_of_le_of_lt (show zs.length<=1000 by lia) (by decide),?_⟩
  have hA2:=s2 _ _ hA
  by_cases hi2:i2<ys.length
  ·have hyi:(ys.map V.str)[i2]?=some (.str ys[i2]):=by rw[List.getElem?_map,List.getElem?_eq_getElem hi2];rfl
   refine .inr ⟨⟨_,_,SqL.of hA2,hyi⟩,fun z x H5 hy2=>?_⟩
   obtain⟨rfl,hx⟩:=hy2
   obtain rfl:V.str ys[i2]=x:=by have:=hx _ (SqL.of hA2);rw[hyi]at this;injection this
   obtain⟨kv,hkm,hk1,hk2⟩:=valV_mem (kvs:=kvs) (k:=Sum.inr ys[i2]) (perm.mem_iff.mp (List.mem_map.mpr ⟨_,List.getElem_mem hi2,rfl⟩))
   obtain⟨s',e1,e2,e3,e4,e5⟩:=ak kv hkm
   rw[hk1]at e5
   have gg:DGet H5 c (.str ys[i2]) (some kv.2):=by rw[<- hk2];exact DGet.k (k:=Sum.inr ys[i2]) (s2 _ _ (sa _ _ hkv))
   refine gall ?_
   refine⟨_,rfl,_,rfl,_,rfl,.inr (.inr (.inr ⟨c,_,rfl,gg,(by show 2<=sizeLine;decide),fun t ht=>?_⟩))⟩
   refine⟨m2-1,by lia,s2.trans (same_new ht _),by lia,?_⟩
   rw[List.take_add_one,List.getElem?_eq_getElem hi2,List.map_append,datR_map,List.map_append,<- datR_map]
   exact (IsDts.mono (same_new ht _).tups iq).append (.one (isDt_new ht (.cons (by rw[IsDt]) (.one (IsDt.mono (sa.trans s2).tups e5)))))
  ·refine .inl ⟨⟨_,SqL.of hA2,by rw[List.length_map];lia⟩,fun l2 hl2=>⟨l2,zs,rfl,.inl ⟨SqL.of upd_same,fun t ht=>?_⟩⟩⟩
   have mm:=mulC ((j:Int)).toNat (by lia)
   have sZ:=(sa.trans s2).trans ((same_new hl2 (.lst zs)).trans ((same_new ht (.tup zs))))
   rw[List.take_of_length_le (by lia)]at iq
   have esum:vszR (ys.map fun y=>(y,g (Sum.inr y)))=((kvs.map (·.1)).map fun j=>vsz (g j)).sum:=by
    rw[vszR_map,List.map_map,<- (perm.map fun j=>vsz (g j)).sum_nat,List.map_map]
    rfl
   refine fin (ys.map fun y=>(y,g (Sum.inr y))) _ _ q (by rw[List.length_map];lia) ?_ ?_ (ex.trans (fun b o nb z=>sZ b o z)) ((dk'.keep sZ).mono (by lia)) (by rw[esum];exact sz) (by lia)
   ·intro p' hp'
    obtain⟨y,hy,rfl⟩:=List.mem_map.mp hp'
    obtain⟨kv,hkm,hk1,hk2⟩:=valV_mem (kvs:=kvs) (k:=Sum.inr y) (perm.mem_iff.mp (List.mem_map.mpr ⟨_,hy,rfl⟩))
    obtain⟨s',e1,e2,e3,e4,e5⟩:=ak kv hkm
    have es:y=s':=by rw[hk1]at e1;injection e1
    rw[hk1]at e4
    exact⟨by rw[es];exact e2,by rw[es];exact e3,e4.1,e4.2⟩
   ·exact isDt_new ht (IsDts.mono (same_new hl2 _).tups iq)
end
end K09
end
section
namespace Kn
open PySem L2
theorem cnt_abs {v:Val}{c:Nat}{xs:List (Val×Int)} (h:∀ r∈xs,r.2.natAbs<c):(cnt v xs).natAbs<=xs.length * c:=by
 induction xs with
 | nil=>rw[cnt];simp
 | cons p xs ih=>
  have h1:=h p List.mem_cons_self
  have h2:=ih fun r hr=>h r (List.mem_cons_of_mem _ hr)
  rw[cnt,List.length_cons,Nat.succ_mul]
  have h3:(if p.1=v then p.2 else 0).natAbs<=c:=by
   split
   ·lia
   ·simp
  have:=Int.natAbs_add_le (if p.1=v then p.2 else 0) (cnt v xs)
  lia
theorem rise_nodup {qs:List (Val×Int)} (h:Rise qs):(qs.map (·.1)).Nodup:=by
 unfold List.Nodup
 rw[List.pairwise_map]
 exact h.imp fun {a b} hab e=>by rw[e,ahead_irrefl]at hab;cases hab
theorem sum_sub {α:Type} (f:α->Nat):∀ {l m:List α},l.Nodup->(∀ x∈l,x∈m)->(l.map f).sum<=(m.map f).sum
 | [],m,_,_=>Nat.zero_le _
 | a::l,m,nd,h=>by
  rw[List.nodup_cons]at nd
  obtain⟨s,t,rfl⟩:=List.append_of_mem (h a List.mem_cons_self)
  have:=sum_sub f (l:=l) (m:=s++t) nd.2 fun x hx=>by
   have hm:=h x (List.mem_cons_of_mem _ hx)
   rcases List.mem_append.mp hm with z | z
   ·exact List.mem_append_left _ z
   ·rcases List.mem_cons.mp z with z | z
    ·exact absurd (z ▸ hx) nd.1
    ·exact List.mem_append_right _ z
  rw[List.map_append,List.sum_append]at *
  rw[List.map_cons,List.map_cons,List.sum_cons,List.sum_cons]
  lia
theorem bag_sz {xs qs:List (Val×Int)} (h:IsBag xs qs) (a:∀ q∈qs,∃ r∈xs,q.1=r.1):vszB qs<=vszB xs:=by
 have e:∀ l:List (Val×Int),vszB l=((l.map (·.1)).map vsz).sum:=fun l=>by rw[vszB_map,List.map_map];rfl
 rw[e,e]
 refine sum_sub vsz (rise_nodup h.1) fun x hx=>?_
 obtain⟨q,hq,rfl⟩:=List.mem_map.mp hx
 obtain⟨r,hr,er⟩:=a q hq
 exact List.mem_map.mpr ⟨r,hr,er.symm⟩
theorem bag_cnt {xs qs:List (Val×Int)}{c:Nat} (h:IsBag xs qs) (hc:∀ r∈xs,r.2.natAbs<c):∀ q∈qs,q.2.natAbs<=xs.length * c:=fun q hq=>by
 have e:=((bag_mem h q).mp hq).2
 rw[<- e]
 exact cnt_abs hc
end Kn
end
section
namespace K09
open PySem L2 Kn
section
variable {P:Program}{w:World}{K:PySem.W.Frag}{mg:Str->Option Value}{base:Heap}{f f_next f_name f_num f_row f_count f_bag:Addr}{fd fd_next fd_name fd_num fd_row fd_count fd_bag:FuncData}
def pre (s:Nat->Sp):Nat->Sp
 | 0=>fun _ _ _ _=>False
 | d+1=>s d
theorem ZaP:FnScope ["deck","deep","kind","pairs","k","value"] ["deck","deep"] (defScope (top 16)):=⟨rfl,rfl,rfl,by decide +kernel,rfl,by decide +kernel,by decide +kernel⟩
theorem ok_value {k d:Nat} (hk:4<=k) (hd:d<=20) (T:Tx mg) (Zaj:Df K mg "_law_value" (top 16) f fd ["deck","deep"]) (ZaO:FnOk P w K mg base CX0 k f fd ["deck","deep"] (pre spVal d))
  (Zaa:Df K mg "_law_next" (top 7) f_next fd_next ["deck","many"]) (Zab:FnOk P w K mg base CX0 1 f_next fd_next ["deck","many"] spNext)
  (Zac:Df K mg "_law_name" (top 10) f_name fd_name ["deck"]) (Zai:FnOk P w K mg base CX0 2 f_name fd_name ["deck"] spName)
  (Zam:Df K mg "_law_number" (top 9) f_num fd_num ["deck"]) (Zay:FnOk P w K mg base CX0 3 f_num fd_num ["deck"] (spInt 6))
  (Zas:Df K mg "_law_count" (top 15) f_count fd_count ["deck"]) (ZaQ:FnOk P w K mg base CX0 4 f_count fd_count ["deck"] (spInt 8))
  (Zat:Df K mg "_law_row_parts" (top 14) f_row fd_row ["deck","deep"]) (Zbl:FnOk P w K mg base CX0 k f_row fd_row ["deck","deep"] (pre spRow d))
  (Zad:Df K mg "_law_bag" (top 13) f_bag fd_bag ["pairs"]) (ZaA:FnOk P w K mg base CX0 k f_bag fd_bag ["pairs"] (pre spBag d)) :
  FnOk P w K mg base CX0 (k+1) f fd ["deck","deep"] (spVal d):=by
 refine Zaj.fn.okH ZaP (fun vs H Q E h=>?_) (fun cdv A outer s H vs Q E hr h=>?_)
 ·obtain⟨p,n,r,rfl,_⟩:=h;rfl
 obtain⟨p,n,r,rfl,dk,n0,hn,fin⟩:=h
 have hu:=u110 hr
 have hu0:=u0 hr
 have hu1:=hu_of hr
 have hC:=cst_pos d
 refine⟨_,(wss_cons (ws_asg (we_op op_sub (we_ix (ix_U hu1) (wv 0) we_int (fun _ _=>rfl)) we_int) (wg_sub (wv 0) we_int (set_U hu1)))
   (wss_cons (ws_set (i:=2) ZaP.nd rfl (Or.inl rfl) (we_call Zab (hr.mono (by lia)) rfl Zaa.mg Zaa.kp Zaa.b .nil pass0 (wa_cons (wv 0) (wa_cons we_int wa_nil))))
   (wss_cons (ws_if (wt_pw (ww_or (wt_cmpR (op_ltU hu0) (wv 1) we_int (nomark _)) (ww_or (wt_cmpR (op_ltU hu0) (we_ix (ix_U hu1) (wv 0) we_int (fun _ _=>rfl)) we_int (nomark _)) (ww_or1 (wt_cmpR (op_ltU hu0) (wv 2) we_int (nomark _)))))) (wss_one (ws_ret (we_tup (wa_cons we_str (wa_cons (we_call Zay (hr.mono (by lia)) rfl Zam.mg Zam.kp Zam.b .nil pass0 (wa_cons (wv 0) wa_nil)) wa_nil))))) wss_nil)
   (wss_cons (ws_if (wt_cmpR (op_ltU hu0) (wv 2) we_int (nomark _)) (wss_one (ws_ret (we_tup (wa_cons we_str (wa_cons (we_call Zai (hr.mono (by lia)) rfl Zac.mg Zac.kp Zac.b .nil pass0 (wa_cons (wv 0) wa_nil)) wa_nil))))) wss_nil)
   (wss_cons (ws_if (wt_cmpR (op_ltU hu0) (wv 2) we_int (nomark _)) (wss_one (ws_ret (we_tup (wa_cons we_str (wa_cons (we_call Zbl (hr.mono (by lia)) rfl Zat.mg Zat.kp Zat.b .nil pass0 (wa_cons (wv 0) (wa_cons (we_op op_sub (wv 1) we_int) wa_nil))) wa_nil))))) wss_nil)
   (wss_cons (ws_set (i:=3) ZaP.nd rfl (Or.inl rfl) (we_lst wa_nil))
   (wss_cons (ws_for PassesOwn.never rfl (wi_range1 rfl T.z_range (wa_cons (we_ix (ix_U hu1) (we_lst (wa_consts rfl)) (we_call Zab (hr.mono (by lia)) rfl Zaa.mg Zaa.kp Zaa.b .nil pass0 (wa_cons (wv 0) (wa_cons we_int wa_nil))) (fun _ _=>rfl)) wa_nil)) (wg_name (i:=4) ZaP.nd rfl (Or.inl rfl)) (wss_cons (ws_set (i:=5) ZaP.nd rfl (Or.inl rfl) (we_call ZaO (hr.mono (by lia)) rfl Zaj.mg Zaj.kp Zaj.b .nil pass0 (wa_cons (wv 0) (wa_cons (we_op op_sub (wv 1) we_int) wa_nil))))
   (wss_one (ws_expr (we_bm PySem.F.plainAttrs_list PySem.F.slot_list_append PySem.F.type_list_append mt_append (wv 3) (wa_cons (we_tup (wa_cons (wv 5) (wa_cons (we_call ZaQ (hr.mono (by lia)) rfl Zas.mg Zas.kp Zas.b .nil pass0 (wa_cons (wv 0) wa_nil)) wa_nil))) wa_nil))))))
   (wss_one (ws_ret (we_call ZaA (hr.mono (by lia)) rfl Zad.mg Zad.kp Zad.b .nil pass0 (wa_cons (wv 3) wa_nil))))))))))),?_⟩
 obtain⟨c,f0,m,c0,hp,hm0,hmn⟩:=dk
 refine⟨_,rfl,.inl ⟨p,_,3,_,rfl,rfl,SqL.of hp,rfl,_,_,rfl,rfl,_,rfl,.inl ⟨p,_,3,3,rfl,rfl,hp,rfl,?_⟩⟩⟩
 have dkA:Dk (upd H p (.lst [.int c,.int f0,.int m,.int (r-1),.int c0])) p n (r-1):=⟨c,f0,m,c0,upd_same,hm0,hmn⟩
 refine⟨_,rfl,p,n,r-1,_,rfl,dkA,by lia,by decide,by decide,fun kd H1 k0 k1 ex1 dk1=>?_⟩
 have exA:Ex p H H1:=(ex_upd).trans ex1
 have numK:∀ (i:Int) (H2:Hp) (t:Addr),-(10 ^ 30)<i->i<10 ^ 30->Ex p H H2->Dk H2 p (n+1+6) (r-1)->H2 t=none->Q (.ref t) (upd H2 t (.tup [.str "num",.int i])):=fun i H2 t i0 i1 ex dk ht=>
  fin (.num i) _ _ (r-1) bd_num (by unfold GV;rw[Gv];lia) (by show IsDt _ (dat _) _;rw[dat_two];exact isDt_new ht (.cons (by rw[IsDt];rfl) (.one (by rw[restD,IsDt])))) (ex.trans (ex_new ht)) ((dk.new ht).mono (by lia)) (by rw[vsz];lia) (fun _=>rfl) (fun _=>by lia)
 refine⟨_,rfl,.inl ⟨_,_,rfl,rfl,_,rfl,?_⟩⟩
 refine ite2 (fun e1=>?_) (fun e1=>?_)
 ·refine iteT ?_
  exact⟨_,rfl,p,n+1,r-1,rfl,dk1,by lia,fun i H2 i0 i1 ex2 dk2=>⟨(by show 2<=sizeLine;decide),fun t ht=>numK i H2 t i0 i1 (exA.trans ex2) dk2 ht⟩⟩
 have d1:1<=d:=by have:¬((d:Int)<1):=fun z=>e1 (decide_eq_true z);lia
 obtain⟨c',f',m',c0',hp1,hm1,hmn1⟩:=id dk1
 refine⟨_,rfl,.inl ⟨p,_,3,_,rfl,rfl,SqL.of hp1,rfl,.inl ⟨_,_,rfl,rfl,_,rfl,?_⟩⟩⟩
 refine ite2 (fun e2=>?_) (fun e2=>?_)
 ·refine iteT ?_
  exact⟨_,rfl,p,n+1,r-1,rfl,dk1,by lia,fun i H2 i0 i1 ex2 dk2=>⟨(by show 2<=sizeLine;decide),fun t ht=>numK i H2 t i0 i1 (exA.trans ex2) dk2 ht⟩⟩
 refine⟨_,rfl,.inl ⟨_,_,rfl,rfl,_,rfl,?_⟩⟩
 refine ite2 (fun e3=>?_) (fun e3=>?_)
 ·exact⟨_,rfl,p,n+1,r-1,rfl,dk1,by lia,fun i H2 i0 i1 ex2 dk2=>⟨(by show 2<=sizeLine;decide),fun t ht=>numK i H2 t i0 i1 (exA.trans ex2) dk2 ht⟩⟩
 refine⟨_,rfl,.inl ⟨_,_,rfl,rfl,_,rfl,?_⟩⟩
 refine ite2 (fun e4=>?_) (fun e4=>?_)
 ·refine⟨_,rfl,p,n+1,r-1,rfl,dk1,by lia,fun z H2 lz ll ex2 dk2=>⟨(by show 2<=sizeLine;decide),fun t ht=>?_⟩⟩
  exact fin (.word z) _ _ (r-1) (bd_word (by lia)) (by unfold GV;rw[Gv];exact⟨ll,lz⟩) (by show IsDt _ (dat _) _;rw[dat_two];exact isDt_new ht (.cons (by rw[IsDt];rfl) (.one (by rw[restD,IsDt])))) (exA.trans (ex2.trans (ex_new ht))) ((dk2.new ht).mono (by lia)) (by rw[vsz];lia) (fun _=>rfl) (fun _=>by lia)
 have hr1:1<=r-1:=by have:¬(r-1<1):=fun z=>e2 (decide_eq_true z);lia
 cases d with
 | zero=>lia
 | succ d=>
 have hS:=cst_succ d
 have hC0:=cst_pos d
 have ed:((d+1:Nat):Int)-1=d:=by lia
 refine⟨_,rfl,.inl ⟨_,_,rfl,rfl,_,rfl,?_⟩⟩
 refine ite2 (fun e5=>?_) (fun e5=>?_)
 ·refine⟨_,rfl,_,rfl,_,_,rfl,rfl,p,n+1,r-1,(show [V.ref p,V.int (((d+1:Nat):Int)-1)]=[V.ref p,.int d] by rw[ed]),dk1,hr1,by lia,by lia,fun ps v H2 r' lp ap ip ex2 dk2 sz2 lo2=>⟨(by show 2<=sizeLine;decide),fun t ht=>?_⟩⟩
  exact fin (.row ps) _ _ r' (by rw[Bd];exact⟨lp,fun q hq=>⟨by have:=(ap q hq).1;lia,(ap q hq).2.2.1⟩⟩) (by unfold GV;rw[Gv,GvR_mem];exact fun q hq=>⟨(ap q hq).2.1,(ap q hq).1,(ap q hq).2.2.2⟩) (by show IsDt _ (dat _) _;rw[dat_two];exact isDt_new ht (.cons (by rw[IsDt];rfl) (.one ip))) (exA.trans (ex2.trans (ex_new ht))) ((dk2.new ht).mono (by lia)) (by rw[vsz];lia) (fun z=>by lia) (fun z=>by lia)
 refine⟨(by show 0<=sizeLine;decide),fun lp hlp=>⟨(by show 8<=sizeLine;decide),fun l hl=>?_⟩⟩
 have nlp:lp≠p:=dk1.ne hlp
 have nll:l≠p:=(dk1.new (o:=.lst []) hlp).ne hl
 have npl:lp≠l:=fun z=>by rw[<- z,upd_same]at hl;cases hl
 have hlp0:H lp=none:=by
  cases e:H lp with
  | none=>rfl
  | some o=>rw[exA lp o nlp e]at hlp;cases hlp
 refine⟨_,rfl,p,n+1,r-1,_,rfl,(dk1.new hlp).new hl,by lia,by decide,by decide,fun r2 H2 h0 h1 ex2 dk2=>?_⟩
 obtain⟨v,hv,hm⟩:=atI_mem (xs:=[V.int 0,.int 1,.int 2,.int 3,.int 4,.int 1,.int 2,.int 6]) h0 h1
 have fj:∃ j:Nat,v=.int j/\j<=6:=by
  simp only[List.mem_cons,List.not_mem_nil,or_false]at hm
  rcases hm with rfl | rfl | rfl | rfl | rfl | rfl | rfl | rfl
  ·exact⟨0,rfl,by decide⟩
  ·exact⟨1,rfl,by decide⟩
  ·exact⟨2,rfl,by decide⟩
  ·exact⟨3,rfl,by decide⟩
  ·exact⟨4,rfl,by decide⟩
  ·exact⟨1,rfl,by decide⟩
  ·exact⟨2,rfl,by decide⟩
  ·exact⟨6,rfl,by decide⟩
 obtain⟨j,rfl,hj⟩:=fj
 have mulC:∀ i:Nat,i<=6->(i:Int) * (cst d+8)<=6 * (cst d+8):=fun i hi=>Int.mul_le_mul_of_nonneg_right (by lia) (by lia)
 have mul0:∀ i:Nat,0<=(i:Int) * (cst d+8):=fun i=>Int.mul_nonneg (by lia) (by lia)
 refine .inl ⟨l,_,r2,_,rfl,rfl,SqL.of (ex2 l _ nll upd_same),hv,j,rfl,by lia,by lia,for_range (n:=((j:Int)).toNat) (fun i σ H'=>∃ (o4 o5:Option V) (us:List V) (xs:List (Val×Int)) (qm:Int),σ=[some (.ref p),some (.int ((d+1:Nat):Int)),some (.int kd),some (.ref lp),o4,o5]/\Ex p H H'/\Dk H' p (n+2+i * (cst d+8)) qm/\H' lp=some (.lst us)/\IsDts H' (datB xs) us/\xs.length=i/\(vszB xs:Int)<=r-1-qm/\-(6 * (d:Int))-i<=qm/\∀ q∈xs,Bd 6 d q.1/\GV q.1/\q.2.natAbs<10 ^ 30)
  ⟨none,none,[],[],r-1,rfl,exA.trans ((ex_new hlp).trans ((ex_new hl).trans ex2)),dk2.mono (by simp;lia),ex2 lp _ nlp (by rw[upd_ne npl];exact upd_same),.nil,rfl,(by rw[vszB];lia),by lia,fun q h=>(nomatch h)⟩ ?_ ?_⟩
 ·rintro i σ H' hi ⟨o4,o5,us,xs,qm,rfl,ex,dk',hL,iu,lx,szx,lox,bx⟩
  have hi6:i+1<=6:=by lia
  have m1:=mulC (i+1) hi6
  have m0:=mul0 i
  have ms:((i+1:Nat):Int) * (cst d+8)=i * (cst d+8)+(cst d+8):=by rw[Int.natCast_add,Int.add_mul];simp
  refine⟨_,rfl,_,rfl,_,_,rfl,rfl,p,_,qm,(show [V.ref p,V.int (((d+1:Nat):Int)-1)]=[V.ref p,.int d] by rw[ed]),dk',by lia,by lia,fun x v H3 r' bx3 gx3 ix ex3 dk3 sz3 l1 l2=>?_⟩
  have nus:us.length=xs.length:=by rw[iu.length,datB_map,List.length_map]
  refine⟨_,rfl,.inl ⟨rfl,_,SqL.of (ex3 lp _ nlp hL)⟩,_,rfl,_,rfl,p,_,r',rfl,dk3,by lia,fun ci H4 i0 i1 ex4 dk4=>⟨(by show 2<=sizeLine;decide),fun t ht=>?_⟩⟩
  have hL4:=ex4 lp _ nlp (ex3 lp _ nlp hL)
  have hL5:(upd H4 t (.tup [v,.int ci])) lp=some (.lst us):=same_new ht _ _ _ hL4
  have t34:Tups H' H4:=fun b q e=>(dk3.tups ex4) b q ((dk'.tups ex3) b q e)
  have ix4:=IsDt.mono (dk3.tups ex4) ix
  have dv5:IsDt (upd H4 t (.tup [v,.int ci])) (.tup [dat x,.int ci]) (.ref t):=isDt_new ht (.cons ix4 (.one (by rw[IsDt])))
  have iu5:=IsDts.mono (same_new ht (.tup [v,.int ci])).tups (IsDts.mono t34 iu)
  have dk5:=dk4.new (o:=.tup [v,.int ci]) ht
  have ex5:Ex p H (upd H4 t (.tup [v,.int ci])):=(ex.trans (ex3.trans ex4)).trans (ex_new ht)
  generalize upd H4 t (.tup [v,.int ci])=H5 at hL5 dv5 iu5 dk5 ex5 ⊢
  refine⟨lp,us,_,rfl,rfl,hL5,Nat.lt_of_le_of_lt (show us.length<=1000 by lia) (by decide),?_⟩
  have t6:Tups H5 (upd H5 lp (.lst (us++[.ref t]))):=Tups.lst hL5
  have lo':-(6 * (d:Int))-((i+1:Nat):Int)<=r':=by
   by_cases hq:qm<=1
   ·have:=l1 hq;lia
   ·have:=l2 (by lia);lia
  have szA:vszB (xs++[(x,ci)])=vszB xs+vsz x:=by rw[vszB_map,List.map_append,List.sum_append,<- vszB_map];simp
  refine⟨_,_,us++[.ref t],xs++[(x,ci)],r',rfl,ex5.upd' hlp0,?_,upd_same,?_,by rw[List.length_append,lx];rfl,by rw[szA];lia,lo',?_⟩
  ·exact (dk5.off (fun z=>nlp z.symm)).mono (by lia)
  ·rw[datB_map,List.map_append,<- datB_map]
   exact (IsDts.mono t6 iu5).append (.one (IsDt.mono t6 dv5))
  ·intro q hq
   rcases List.mem_append.mp hq with h | h
   ·exact bx q h
   ·rw[List.mem_singleton.mp h];exact⟨bx3,gx3,by show ci.natAbs<10 ^ 30;lia⟩
 ·rintro σ H' ⟨o4,o5,us,xs,qm,rfl,ex,dk',hL,iu,lx,szx,lox,bx⟩
  have mm:=mulC ((j:Int)).toNat (by lia)
  refine⟨_,rfl,lp,us,xs,rfl,⟨_,hL,.inl rfl⟩,iu,by lia,fun q hq=>(bx q hq).1.mono (by decide),by lia,fun v H2 qs sH iv lq aq ib=>?_⟩
  have hsz:=bag_sz ib aq
  have hct:=bag_cnt (c:=10 ^ 30) ib fun q hq=>(bx q hq).2.2
  refine fin (.bag qs) v H2 qm (by rw[Bd];exact⟨by lia,fun q hq=>by obtain⟨r2,hr',e⟩:=aq q hq;rw[e];exact (bx r2 hr').1⟩) ?_ iv (ex.trans fun b q nb z=>sH b q z) ((dk'.keep sH).mono (by lia)) (by rw[vsz];lia) (fun z=>by lia) (fun z=>by lia)
  unfold GV
  rw[Gv,GvB_mem]
  intro q hq
  obtain⟨r2,hr',e⟩:=aq q hq
  have h1:=hct q hq
  have h2:xs.length * 10 ^ 30<=6 * 10 ^ 30:=Nat.mul_le_mul_right _ (by lia)
  exact⟨by rw[e];exact (bx r2 hr').2.1,by lia⟩
end
section
variable {P:Program}{w:World}{K:PySem.W.Frag}{mg:Str->Option Value}{base:Heap}{f f_next f_name f_num f_row f_count f_bag f_side f_pair:Addr}{fd fd_next fd_name fd_num fd_row fd_count fd_bag fd_side fd_pair:FuncData}
theorem value_all (T:Tx mg) (Zaj:Df K mg "_law_value" (top 16) f fd ["deck","deep"])
  (Zaa:Df K mg "_law_next" (top 7) f_next fd_next ["deck","many"]) (Zab:FnOk P w K mg base CX0 1 f_next fd_next ["deck","many"] spNext)
  (Zac:Df K mg "_law_name" (top 10) f_name fd_name ["deck"]) (Zai:FnOk P w K mg base CX0 2 f_name fd_name ["deck"] spName)
  (Zam:Df K mg "_law_number" (top 9) f_num fd_num ["deck"]) (Zay:FnOk P w K mg base CX0 3 f_num fd_num ["deck"] (spInt 6))
  (Zas:Df K mg "_law_count" (top 15) f_count fd_count ["deck"]) (ZaQ:FnOk P w K mg base CX0 4 f_count fd_count ["deck"] (spInt 8))
  (Zat:Df K mg "_law_row_parts" (top 14) f_row fd_row ["deck","deep"])
  (Zad:Df K mg "_law_bag" (top 13) f_bag fd_bag ["pairs"]) (Zag:Df K mg "_law_side" (top 11) f_side fd_side ["one","other"]) (Zan:Df K mg "_law_pair_side" (top 12) f_pair fd_pair ["word","a","b"]) :
  ∀ d:Nat,d<=20->FnOk P w K mg base CX0 (2 * d+5) f fd ["deck","deep"] (spVal d)
 | 0,h=>ok_value (k:=4) (by decide) h T Zaj ⟨fun _ _ _ _ h=>h.elim,fun _ _ _ _ _ _ _ _ _ _ _ _ _ h=>h.elim⟩ Zaa Zab Zac Zai Zam Zay Zas ZaQ
   Zat ⟨fun _ _ _ _ h=>h.elim,fun _ _ _ _ _ _ _ _ _ _ _ _ _ h=>h.elim⟩ Zad ⟨fun _ _ _ _ h=>h.elim,fun _ _ _ _ _ _ _ _ _ _ _ _ _ h=>h.elim⟩
 | d+1,h=>by
  have ih:=value_all T Zaj Zaa Zab Zac Zai Zam Zay Zas ZaQ Zat Zad Zag Zan d (by lia)
  exact ok_value (k:=2 * d+6) (by lia) h T Zaj (ih.mono (by lia)) Zaa Zab Zac Zai Zam Zay Zas ZaQ
   Zat (ok_row (k:=2 * d+5) (by lia) T Zat Zaa Zab Zac Zai Zaj ih)
   Zad ((ok_bag (k:=2 * d+1) T Zad Zag (side_all T Zag Zan d)).mono (by lia))
end
end K09
end
section
namespace L2
open PySem PySem.Spec PyProof.Rows
section
variable {prog:Program}{w:World}{A:Around}{E:Value->Shared->Prop}{s:Shared}{a:Addr}{zs:List Str}
end
end L2
end
section
namespace L2
open PySem PySem.Spec PyProof.Rows
section
variable {prog:Program}{w:World}{A:Around}{R:Result->Shared->Prop}{I:Addr}{fp wr:List Addr}{G:Array GenState->Array GenState->Prop}{n:Nat}{P:Nat->Value->Prop}{St:Nat->Shared->Prop}
end
section
variable {prog:Program}{w:World}{A:Around}{E:Value->Shared->Prop}{s:Shared}
end
end L2
end
section
namespace L2
open PySem PySem.Spec PyProof.Rows
section
variable {M:Model}{prog:Program}{w:World}{A:Around}{E:Value->Shared->Prop}{s:Shared}
end
end L2
end
section
namespace L2
open PySem PySem.Spec PyProof.Rows PySem.W
section
variable {prog:Program}{w:World}{A:Around}{E:Value->Shared->Prop}{s:Shared}
end
end L2
end
section
namespace L2
open PySem PySem.Spec PyProof.Rows PySem.W
section
variable {prog:Program}{w:World}{A:Around}{E:Value->Shared->Prop}{s:Shared}
end
end L2
end
section
namespace L2
open PySem PySem.Spec PyProof.Rows
theorem bt_dict:bootBuiltins "dict"=some (.type "dict"):=by decide +kernel
section
variable {X:Cx}
end
end L2
end
section
namespace L2
open PySem PySem.Spec PyProof.Rows
section
variable {X:Cx}
end
section
variable {H:Hp}{p c:Addr}{cs:List Int}{n r t:Int}{kn:Option Int}{kvs:List (Key×V)}
end
def Ex (p:Addr) (H H':Hp):Prop:=∀ b o,b≠p->H b=some o->H' b=some o
theorem Ex.refl (p:Addr) (H:Hp):Ex p H H:=fun _ _ _ h=>h
theorem Ex.trans {p:Addr}{H H1 H2:Hp} (a:Ex p H H1) (b:Ex p H1 H2):Ex p H H2:=fun c o n h=>b c o n (a c o n h)
theorem ex_upd {p:Addr}{H:Hp}{o:HO}:Ex p H (upd H p o):=fun b u n h=>by rw[upd_ne n];exact h
theorem ex_new {p q:Addr}{H:Hp}{o:HO} (h:H q=none):Ex p H (upd H q o):=fun b u n e=>by rw[upd_ne (ne_of_none e h)];exact e
theorem Ex.upd' {p c:Addr}{H H':Hp}{o:HO} (e:Ex p H H') (h:H c=none):Ex p H (upd H' c o):=fun b q n z=>by rw[upd_ne (ne_of_none z h)];exact e b q n z
end L2
end
section
namespace L2
open PySem PySem.Spec PyProof.Rows
section
variable {X:Cx}
end
end L2
end
section
namespace L2
open PySem PySem.Spec PyProof.Rows PyProof.V
section
variable {X:Cx}
variable {pos:Pos}
end
end L2
end
section
namespace L2
open PySem PySem.Spec PyProof.Rows
section
variable {X:Cx}{pos pos' apos:Pos}{o e value:Expr}{es:List Expr}{f:Str}{ta tv to te:TE}{tA:TA}
theorem vals_get:∀ {xs:List V}{us:List Value}{i:Nat}{v:Value},Vals xs us->us[i]?=some v->∃ x,xs[i]?=some x/\RelV x v
 | _,_,i,v,.nil,e=>by simp at e
 | _,_,0,v,.cons r _,e=>by simp at e;subst e;exact⟨_,rfl,r⟩
 | _,_,i+1,v,.cons _ t,e=>by
  obtain⟨x,h1,h2⟩:=vals_get (i:=i) t (by simpa using e)
  exact⟨x,by simpa using h1,h2⟩
end
end L2
end
section
namespace L2
open PySem PySem.Spec PyProof.Rows
section
variable {X:Cx}
end
end L2
end
section
namespace L2
open PySem PySem.Spec PyProof.Rows
def OnlyT (ts:List Addr) (H:Hp):Prop:=(∀ P∈ts,H P=some (.tbl #[]))/\∀ b,H b=none\/(∃ o xs,H b=some (.frz o (.lst xs)))\/(H b=some (.tbl #[])/\b∈ts)
theorem law_callT {P:Program}{w:World}{K:PySem.W.Frag}{mg mb:Str->Option Value}{CX:CXT}{k:Nat}{fa a:Addr}{fd:FuncData}{x:Str}{sp:Sp}{s₁:Shared}{vs:List Value}{ns:List Int}{ts:List Addr}
  (KX:K.In s₁.heap) (hT:∀ P∈ts,s₁.heap.get? P=some (PySem.W.tabObj #[])) (hKT:∀ P∈ts,K.lookup P=none/\∃ c,PySem.W.CodeHd s₁.heap c P)
  (hns:s₁.heap.Ns mainGlobals mg) (hb:s₁.heap.Ns builtinsNs mb) (hbb:∀ x:Str,x≠"__name__"->mb x=bootBuiltins x) (hlim:s₁.heap.NoLimit) (hg:s₁.gens=#[])
  (ha:s₁.heap.get? a=some { cls:=.type "list",data:=.seq vs.toArray }) (hi:IntsAre vs ns) (hl:ns.length<=sizeLine) (hr:Room k callerA)
  (F:∀ base:Heap,K.In base->base.Ns mainGlobals mg->FnOk P w K mg base CX k fa fd [x] sp) (hbind:∀ (s:Shared) (u:Value),BindsTo s fd ⟨[u],[]⟩ [(x,u)])
  (hsp:∀ H:Hp,OnlyT ts H->SqL K H a (ns.map V.int)->sp [.ref a] H (fun v _=>v=.bl true) fun _ _ _=>False)
  (hCX:∀ H e s',CX [] H s₁ (fun _ _ _=>False) e s'->False) :
  codeAny (model P w) callerA (.call (.ref fa) ⟨[.ref a],[]⟩) (fun r s'=>r=.ok (.ret (.bool true))/\OldK s₁.heap s'.heap/\s'.os=s₁.os/\AllBare s'.gens) s₁:=by
 have rv:=vals_ints hi
 have lenV:=hi.length
 have nat:a ∉ ts:=fun z=>by have:=hT a z;rw[ha]at this;cases this
 have core:∀ H:Hp,OnlyT ts H->SqL K H a (ns.map V.int)->HOk P w H s₁.heap->(∀ b,H b≠none->b=a\/b∈ts)->(H a≠none->K.lookup a=none) ->
   codeAny (model P w) callerA (.call (.ref fa) ⟨[.ref a],[]⟩) (fun r s'=>r=.ok (.ret (.bool true))/\OldK s₁.heap s'.heap/\s'.os=s₁.os/\AllBare s'.gens) s₁:=by
  intro H hO hS hok hA hK
  have base_of:∀ {b:Addr}{o:Obj},s₁.heap.get? b=some o->H b=none->(hidT s₁.heap H).get? b=some o:=fun e n=>hidT_get e n
  have noA:∀ {b:Addr}{o:Obj}{es:Array DictEntry}{ep:Nat},s₁.heap.get? b=some o->o.data=.dict es ep->H b=none:=fun {b o es ep} e d=>by
   cases q:H b with
   | none=>rfl
   | some u=>
    rcases hA b (by rw[q];simp) with e' | e'
    ·subst e'
     rw[ha]at e;cases e
     have d':Data.seq vs.toArray _=Data.dict es ep:=d
     cases d'
    ·rw[hT b e']at e;cases e
     have d':Data.fields #[]=Data.dict es ep:=d
     cases d'
  have nsK:∀ {b:Addr}{m:Str->Option Value},s₁.heap.Ns b m->(hidT s₁.heap H).Ns b m:=fun {b m} ⟨o,es,ep,e,d,r⟩=>⟨o,es,ep,base_of e (noA e d),d,r⟩
  have hKb:K.In (hidT s₁.heap H):=fun b o e=>base_of (KX b o e) (by
   cases q:H b with
   | none=>rfl
   | some u=>
    rcases hA b (by rw[q];simp) with e' | e'
    ·subst e'
     rw[hK (by rw[q];simp)]at e;cases e
    ·rw[(hKT b e').1]at e;cases e)
  have hM:Mod K mg (hidT s₁.heap H):=⟨hKb,nsK hns,⟨mb,nsK hb,hbb⟩,let ⟨mc,h1,h2⟩:=hlim;⟨mc,nsK h1,h2⟩⟩
  have e0:Env0 P w K mg (hidT s₁.heap H) callerA [] s₁ H:=⟨rfl,hM,fun b o e=>of_hidT e,Nat.le_of_eq (hidT_size _ _),trivial,fun b hb=>absurd (show b∈([]:List Addr) from hb) (by simp),hok,.of_eq hg⟩
  refine codeAny_mono ((F _ hKb (nsK hns)).run callerA [] s₁ H ⟨[.ref a],[]⟩ [.ref a] [.ref a] _ _ hr e0 (hbind s₁ (.ref a)) (.cons rfl .nil) (hsp H hO hS)) fun r s' h=>?_
  cases r with
  | error e=>exact (hCX H e s' h).elim
  | ok fl=>
   cases fl with
   | next=>exact False.elim h
   | brk=>exact False.elim h
   | cont=>exact False.elim h
   | ret u=>
    obtain⟨v,H',os,bare,un,hok',r',q⟩:=h
    have q':v=.bl true:=q
    subst q'
    obtain rfl:u=Value.bool true:=r'
    refine⟨rfl,⟨fun b o e=>?_,fun b o e=>un.there b o e (by simp)⟩,os,bare⟩
    rcases hO.2 b with z | ⟨ob,xs,z⟩ | ⟨z,hm⟩
    ·exact .inl (un.keep b o e z (by intro z;exact absurd (show b∈([]:List Addr) from z) (by simp)) (by simp))
    ·have z2:=un.frzs b ob _ z
     obtain⟨e1,_⟩:=hok b _ z
     obtain⟨e2,_⟩:=hok' b _ z2
     rw[e]at e1;cases e1
     exact .inl e2
    ·obtain⟨more,z2⟩:=un.tbls b _ z
     have e1:=hok b _ z
     have e2:=hok' b _ z2
     obtain⟨c,C⟩:=(hKT b hm).2
     have e0:s₁.heap.get? b=some (PySem.W.tabObj #[]):=hT b hm
     rw[e]at e0;cases e0
     exact .inr (.inl ⟨(C.tab e).isCodeTable,rfl,#[],more,rfl,e2⟩)
 have tb:∀ b,b∈ts->ObjOk P w (fun _=>none) s₁.heap b (.tbl #[]):=fun b hb=>hT b hb
 cases hk:K.lookup a with
 | some o=>
  have e:=KX a o hk
  rw[ha]at e
  cases e
  refine core (fun b=>if b∈ts then some (.tbl #[]) else none) ⟨fun P hP=>if_pos hP,fun b=>?_⟩ (.inr ⟨_,vs.toArray,_,hk,rfl,rfl,rfl,by rw[List.size_toArray,lenV];exact hl,by simpa using rv⟩) (fun b u z=>?_) (fun b z=>?_) fun z=>absurd (if_neg nat) z
  ·by_cases hb:b∈ts
   ·exact .inr (.inr ⟨if_pos hb,hb⟩)
   ·exact .inl (if_neg hb)
  ·by_cases hb:b∈ts
   ·have z':=(if_pos hb).symm.trans z
    cases z'
    exact hT b hb
   ·have z':=(if_neg hb).symm.trans z
    cases z'
  ·by_cases hb:b∈ts
   ·exact .inr hb
   ·exact absurd (if_neg hb) z
 | none=>
  have h1:∀ {b:Addr},b=a->(if b=a then some (HO.frz { cls:=.type "list",data:=.seq vs.toArray } (.lst (ns.map V.int))) else if b∈ts then some (.tbl #[]) else none)=some (HO.frz { cls:=.type "list",data:=.seq vs.toArray } (.lst (ns.map V.int))):=fun h=>if_pos h
  have h2:∀ {b:Addr},b≠a->b∈ts->(if b=a then some (HO.frz { cls:=.type "list",data:=.seq vs.toArray } (.lst (ns.map V.int))) else if b∈ts then some (.tbl #[]) else none)=some (.tbl #[]):=fun h g=>by rw[if_neg h,if_pos g]
  have h3:∀ {b:Addr},b≠a->b ∉ ts->(if b=a then some (HO.frz { cls:=.type "list",data:=.seq vs.toArray } (.lst (ns.map V.int))) else if b∈ts then some (.tbl #[]) else none)=none:=fun h g=>by rw[if_neg h,if_neg g]
  refine core (fun b=>if b=a then some (.frz { cls:=.type "list",data:=.seq vs.toArray } (.lst (ns.map V.int))) else if b∈ts then some (.tbl #[]) else none) ⟨fun P hP=>h2 (fun z=>nat (z ▸ hP)) hP,fun b=>?_⟩ (.inl (.inr ⟨{ cls:=.type "list",data:=.seq vs.toArray },if_pos rfl⟩)) (fun b u z=>?_) (fun b z=>?_) fun _=>hk
  ·by_cases hb:b=a
   ·exact .inr (.inl ⟨_,_,h1 hb⟩)
   ·by_cases hc:b∈ts
    ·exact .inr (.inr ⟨h2 hb hc,hc⟩)
    ·exact .inl (h3 hb hc)
  ·by_cases hb:b=a
   ·have z':=(h1 hb).symm.trans z
    cases z'
    subst hb
    exact⟨ha,by rw[List.length_map];exact hl,vs,_,rv,ha⟩
   ·by_cases hc:b∈ts
    ·have z':=(h2 hb hc).symm.trans z
     cases z'
     exact hT b hc
    ·have z':=(h3 hb hc).symm.trans z
     cases z'
  ·by_cases hb:b=a
   ·exact .inl hb
   ·by_cases hc:b∈ts
    ·exact .inr hc
    ·exact absurd (h3 hb hc) z
theorem walk_ofT {l:PySem.W.OpenLaw}{n k:Nat}{q:Program}{loose:List Str}{XP:(Str->Option Value)->Heap->Prop}{YP:World->Heap->Prop}{d:DefRec}{K:Params->PySem.W.Frag}{CX:World->CXT}{sp:World->Sp}{x:Str}{ts:List Addr}
  (hn:l.most=some n) (hn2:n<=sizeLine) (hdf:d.params.defaults=[]) (hr:Room k callerA)
  (hY:∀ (w:World) (h:Heap),YP w h->(K w.params).In h/\∀ P∈ts,h.get? P=some (PySem.W.tabObj #[]))
  (hKT:∀ (w:World),∀ P∈ts,(K w.params).lookup P=none/\∃ c,PySem.W.codeHdIn (K w.params) c P=true)
  (F:∀ (w:World) (mg:Str->Option Value) (fa:Addr) (h:Heap),(K w.params).In h->h.Ns mainGlobals mg->mg d.name=some (.ref fa) ->
   ∃ fd:FuncData,(∀ (s:Shared) (u:Value),BindsTo s fd ⟨[u],[]⟩ [(x,u)]) /\
    ∀ base:Heap,(K w.params).In base->base.Ns mainGlobals mg->FnOk l.prog w (K w.params) mg base (CX w) k fa fd [x] (sp w))
  (hsp:∀ (w:World) (H:Hp) (a:Addr) (ns:List Int),ns.length<=n->OnlyT ts H->SqL (K w.params) H a (ns.map V.int)->sp w [.ref a] H (fun v _=>v=.bl true) fun _ _ _=>False)
  (hCX:∀ (w:World) (H:Hp) (s:Shared) (e:Value) (s':Shared),CX w [] H s (fun _ _ _=>False) e s'->False) :
  PySem.W.WalkO q loose XP YP l.row.toRowW d [] (fun f vs=>PySem.call f vs):=by
 refine Att.attach_call hn hdf fun w s₀ s₁ mg mb fa o pm cd doc a vs ns G Y ho hd hcd hmg hobj hints hlen hg=>?_
 obtain⟨KX,hT⟩:=hY w _ Y
 obtain⟨fd,hb,hF⟩:=F w mg fa _ KX G.T.g hmg
 exact law_callT KX hT (fun P hP=>⟨(hKT w P hP).1,let ⟨c,e⟩:=(hKT w P hP).2;⟨c,PySem.W.codeHd_of_K KX e⟩⟩) G.T.g G.T.b G.T.builtins G.T.nolimit hg hobj hints (Nat.le_trans hlen hn2) hr hF hb (fun H hO hS=>hsp w H a ns hlen hO hS) fun H e s'=>hCX w H s₁ e s'
end L2
end
section
namespace Kn
open PySem PySem.W PyProof.Rows
section
variable {lt:Nat->Nat->Bool}
end
end Kn
namespace L2
open PySem PySem.Spec PyProof.Rows PySem.W
open Kn (sLt krun)
mutual
noncomputable def ltD:Dt->Dt->Option Bool
 | .int i,e=>match e with | .int j=>some (decide (i<j)) | _=>none
 | .str x,e=>match e with | .str y=>some (sLt x y) | _=>none
 | .tup ds,e=>match e with | .tup es=>ltDs ds es | _=>none
noncomputable def ltDs:List Dt->List Dt->Option Bool
 | [],es=>some (decide (es≠[]))
 | d::ds,es=>match es with | []=>some false | e::es=>if d=e then ltDs ds es else ltD d e
end
section
open PySem.SeqAt
open PySem.AutoSeq1 (wpAny_loadPart')
open PySem.MeetsSeq PySem.MeetsSeq2 PySem.MeetsSeq3
variable {P:Program}{w:World}{H:Hp}
end
end L2
end
section
namespace L2
open PySem PySem.Spec PyProof.Rows PySem.W
open Kn (sLt krun)
theorem HOk.but {P:Program}{w:World}{H:Hp}{h h':Heap}{a:Addr} (x:HOk P w H h) (ha:H a=none) (k:∀ b u,b≠a->h.get? b=some u->h'.get? b=some u):HOk P w H h':=fun b o e=>
 (x b o e).stay (fun c u hc q=>k c u (by rintro rfl;rcases hc with rfl | hc;(· rw[ha]at e;cases e);(· rw[ha]at hc;cases hc)) q) (fun _ q=>q) fun _ _ q=>q
section
variable {prog:Program}{w:World}{A:Around}{E:Value->Shared->Prop}{s:Shared}{H:Hp}
noncomputable def ltB (ds:List (List Dt)) (i j:Nat):Bool:=(ltDs (ds.getD i []) (ds.getD j [])).getD false
end
section
variable {X:Cx}
end
end L2
end
section
namespace Tm
open PySem PySem.W PyProof.Rows
section
variable {M:Model}{A:Around}{E:Value->Shared->Prop}{s:Shared} {κ:SortKind} {S:Keyed->Prop}{L:Keyed->Keyed->Bool}
end
end Tm
end
section
namespace Tm
open PySem PySem.W PyProof.Rows
def Srt (L:Keyed->Keyed->Bool) (l:List Keyed):Prop:=l.Pairwise fun x y=>L y x=false
section
variable {S:Keyed->Prop}{L:Keyed->Keyed->Bool}{la lb out:List Keyed}{ia ib:Nat}
end
end Tm
end
section
namespace Tm
open PySem PySem.W PyProof.Rows
section
variable {M:Model}{A:Around}{E:Value->Shared->Prop}{s:Shared} {κ:SortKind} {S:Keyed->Prop}{L:Keyed->Keyed->Bool}
end
end Tm
end
section
namespace Tm
open PySem PySem.W PyProof.Rows
section
variable {S:Keyed->Prop}{L:Keyed->Keyed->Bool}{la lb lo:List Keyed}{na nb:Nat}
end
section
variable {M:Model}{A:Around}{E:Value->Shared->Prop}{s:Shared} {κ:SortKind} {S:Keyed->Prop}{L:Keyed->Keyed->Bool}
end
end Tm
end
section
namespace Tm
open PySem PySem.W PyProof.Rows
section
variable {S:Keyed->Prop}{L:Keyed->Keyed->Bool}
end
section
variable {M:Model}{A:Around}{E:Value->Shared->Prop}{s:Shared} {κ:SortKind} {S:Keyed->Prop}{L:Keyed->Keyed->Bool}
def At (L:Keyed->Keyed->Bool) (arr arr':Array Keyed) (sa n:Nat):Prop:=∃ seg:List Keyed,arr'.toList=arr.toList.take sa++seg++arr.toList.drop (sa+n)/\Srt L seg/\seg.Perm (arr.extract sa (sa+n)).toList
end
end Tm
end
section
namespace Tm
open PySem PySem.W PyProof.Rows
section
variable {L:Keyed->Keyed->Bool}
end
section
variable {M:Model}{A:Around}{E:Value->Shared->Prop}{s:Shared} {κ:SortKind} {S:Keyed->Prop}{L:Keyed->Keyed->Bool}
end
end Tm
end
section
namespace Tm
open PySem PySem.W PyProof.Rows
section
variable {S:Keyed->Prop}{L:Keyed->Keyed->Bool}
end
section
variable {M:Model}{A:Around}{E:Value->Shared->Prop}{s:Shared} {κ:SortKind} {S:Keyed->Prop}{L:Keyed->Keyed->Bool}
end
end Tm
end
section
namespace Tm
open PySem PySem.W PyProof.Rows
section
variable {L:Keyed->Keyed->Bool}
theorem split2 {α:Type} {l:List α}{i:Nat} (h:i+1<l.length):∃ p x y r,l=p++x::y::r/\p.length=i:=by
 refine⟨l.take i,l[i],l[i+1],l.drop (i+2),?_,by rw[List.length_take];lia⟩
 rw[<- List.drop_eq_getElem_cons h,<- List.drop_eq_getElem_cons (by lia),List.take_append_drop]
end
section
variable {M:Model}{A:Around}{E:Value->Shared->Prop}{s:Shared} {κ:SortKind} {S:Keyed->Prop}{L:Keyed->Keyed->Bool}
end
end Tm
end
section
namespace L2
open PySem PySem.Spec PyProof.Rows PySem.W Kn
theorem s1 (x y:Str) (h:sLt x y=true):sLt y x=false:=by
 by_cases e:x=y
 ·subst e;exact sLt_irrefl x
 ·rw[sLt_total e,h];rfl
theorem s2 (x y:Str) (h:sLt x y=false):x=y\/sLt y x=true:=by
 by_cases e:x=y
 ·exact .inl e
 ·exact .inr (by rw[sLt_total e,h];rfl)
end L2
end
section
namespace L2
open PySem PySem.Spec PyProof.Rows PySem.W Kn
section
variable {prog:Program}{w:World}{A:Around}{E:Value->Shared->Prop}{s:Shared}{H:Hp}
end
section
variable {X:Cx}
end
end L2
end
section
namespace L2
open PySem PySem.Spec PyProof.Rows PySem.W
section
variable {prog:Program}{w:World}{A:Around}{E:Value->Shared->Prop}{s:Shared}
end
section
variable {X:Cx}
end
end L2
end
section
namespace L2
open PySem PySem.Spec PyProof.Rows PySem.W
section
variable {X:Cx}
section
open PySem.AutoSeq1 (wpAny_loadPart')
open PySem.MeetsSeq PySem.MeetsSeq2 PySem.MeetsSeq3 PySem.SeqAt
end
end
end L2
end
section
namespace L2
open PySem PySem.Spec PyProof.Rows PySem.W
section
open AutoSeq1 (wpAny_loadPart')
end
section
variable {prog:Program}{w:World}{A:Around}{E:Value->Shared->Prop}{s:Shared}
end
section
variable {X:Cx}
end
end L2
end
section
namespace L2
open PySem PySem.Spec PyProof.Rows PySem.W
section
variable {X:Cx}
def tCallA (C:Addr->Sp->Prop) (E:XK) (te:TE) (t:TA):TE:=fun σ H Q=>te σ H fun x H1=>∃ f sp,x=.ref f/\C f sp/\t σ H1 fun vs H2=>sp vs H2 Q E
end
end L2
end
section
namespace L2
open PySem PySem.Spec PyProof.Rows
section
variable {P:Program}{w:World}{fs ex:List Addr}{H:Hp}{h h':Heap}{T c:Addr}{ps more:Array Value}{o:HO}
theorem Un.tblNew (hT:H T=some (.tbl ps)) (k:∀ b u,b≠T->h.get? b=some u->h'.get? b=some u) (e:∃ u,h'.get? T=some u) (hp:h.objs.size<=c) (hn:H c=none):Un fs ex H (upd (upd H T (.tbl (ps++more))) c o) h h':=by
 have cT:T≠c:=ne_of_none hT hn
 have nT:∀ b,H b=none->b≠T:=fun b n z=>by rw[z,hT]at n;cases n
 have oth:∀ b u,H b=some u->b≠T->upd (upd H T (.tbl (ps++more))) c o b=some u:=fun b u q z=>by rw[upd_ne (ne_of_none q hn),upd_ne z];exact q
 refine⟨fun b u q n _ _=>k b u (nT b n) q,fun b u q n _ _=>⟨u.slots,k b u (nT b n) q⟩,fun b u q n _=>?_,fun b u q _=>?_,fun b xs q=>oth b _ q fun z=>?_,fun b u xs q=>oth b _ q fun z=>?_,fun b qs q=>?_⟩
 ·rw[upd_ne (Nat.ne_of_lt (Nat.lt_of_lt_of_le (Heap.lt_size q) hp)),upd_ne (nT b n)];exact n
 ·by_cases z:b=T
  ·rw[z];exact e
  ·exact⟨u,k b u z q⟩
 ·rw[z,hT]at q;cases q
 ·rw[z,hT]at q;cases q
 ·by_cases z:b=T
  ·rw[z,hT]at q;cases q
   exact⟨more,by rw[z,upd_ne cT,upd_same]⟩
  ·exact⟨#[],by rw[oth b _ q z];simp⟩
theorem HOk.tblNew (x:HOk P w H h) (hT:H T=some (.tbl ps)) (k:∀ b u,b≠T->h.get? b=some u->h'.get? b=some u) (e:h'.get? T=some (PySem.W.tabObj (ps++more))) (hn:H c=none) (new:∀ H',ObjOk P w H' h' c o):HOk P w (upd (upd H T (.tbl (ps++more))) c o) h':=fun b u q=>by
 have cT:T≠c:=ne_of_none hT hn
 by_cases z:b=c
 ·rw[z,upd_same]at q;cases q;rw[z];exact new _
 rw[upd_ne z]at q
 by_cases y:b=T
 ·rw[y,upd_same]at q;cases q;rw[y];exact e
 rw[upd_ne y]at q
 have oth:∀ b u,H b=some u->b≠T->upd (upd H T (.tbl (ps++more))) c o b=some u:=fun b u q z=>by rw[upd_ne (ne_of_none q hn),upd_ne z];exact q
 have nT:∀ d v,H d=some v->(∀ qs,v≠.tbl qs)->d≠T:=fun d v r m z=>by rw[z,hT]at r;cases r;exact m _ rfl
 refine (x b u q).stay (fun d v hd r=>k d v ?_ r) (fun d r=>oth d _ r (nT d _ r fun _ z=>by cases z)) fun d xs r=>oth d _ r (nT d _ r fun _ z=>by cases z)
 rcases hd with rfl | hd
 ·exact y
 ·exact nT d _ hd fun _ z=>by cases z
end
section
variable {X:Cx}
def CodeO (c:Addr) (qual:Str):Heap->Prop:=fun h=>h.CodeRec (.ref c) qual
def LamO (qual:Str) (params:Arguments) (body:Expr) (scope:Scope) (pm:Value) (c:Addr) (ctv:Value) (f:Addr):Heap->Prop:=fun h=>h.get? f=some (PySem.W.kla_obj "<lambda>" qual params body scope [] pm c ctv)
def LamT (H:Hp) (T:Addr) (pos:Pos) (qual:Str):Prop:=H T=some (.tbl #[])\/∃ c,H T=some (.tbl #[rawInt pos.line,rawInt pos.col,.ref c])/\H c=some (.ext (CodeO c qual))
def tLam (T:Addr) (qual:Str) (params:Arguments) (body:Expr) (scope:Scope) (pm:Value) (pos:Pos):TE:=fun _ H Q=>LamT H T pos qual /\
 ∀ (f c:Addr) (ctv:Value) (H':Hp),H f=none->H' f=some (.ext (LamO qual params body scope pm c ctv f))->H' c=some (.ext (CodeO c qual))->H' T=some (.tbl #[rawInt pos.line,rawInt pos.col,.ref c])->(∀ b o,b≠T->H b=some o->H' b=some o)->Q (.ref f) H'
theorem codeO_ok {P:Program}{w:World}{h:Heap}{c:Addr}{qual:Str} (x:h.CodeRec (.ref c) qual) (H':Hp):ObjOk P w H' h c (.ext (CodeO c qual)):=by
 refine⟨x,?_,fun h1 h2 y k=>?_⟩
 ·obtain⟨d,o,vs,t,e,e1,e2,e3⟩:=x
  cases e
  exact⟨o,e1⟩
 ·obtain⟨d,o,vs,t,e,e1,e2,e3⟩:=y
  cases e
  exact⟨c,o,vs,t,rfl,k _ e1,e2,e3⟩
theorem lamO_ok {P:Program}{w:World}{h:Heap}{c f:Addr}{qual:Str}{params:Arguments}{body:Expr}{scope:Scope}{pm ctv:Value} (x:h.get? f=some (PySem.W.kla_obj "<lambda>" qual params body scope [] pm c ctv)) (H':Hp):ObjOk P w H' h f (.ext (LamO qual params body scope pm c ctv f)):=
 ⟨x,⟨_,x⟩,fun h1 h2 y k=>k _ y⟩
theorem pe_lam {params:Arguments}{body:Expr}{scope:Scope}{pos:Pos}{c T bm:Addr}{ob:Obj} (hdef:defaultsOf params X.env=([],[])) (hcl:closureFor scope X.env=pure []) (hge:X.env.globals=mainGlobals) (hcode:X.env.code=.ref c) (hcd:PySem.W.codeHdIn X.K c T=true)
  (hbi:X.mg "__builtins__"=some (.ref bm)) (hbk:X.K.lookup bm=some ob) (h1:bm≠builtinsNs) (h2:bm≠mainGlobals) (h3:bm≠T) (h4:ob.cls=.type "module") (h5:ob.dict=some builtinsNs) (h6:ob.data=.plain) (hgT:mainGlobals≠T) :
  PE X (.Lambda params body scope pos) (tLam T (X.env.qual++"<lambda>") params body scope ((X.mg "__name__").getD .none) pos):=by
 intro pins s σ H Q I ⟨hL,q⟩
 have hg:s.heap.Ns mainGlobals X.mg:=I.mod.glob.keeps I.bk
 have C:PySem.W.CodeHd s.heap c T:=PySem.W.codeHd_of_K I.kIn hcd
 have hb:s.heap.BuiltinsAt X.mg T:=⟨bm,ob,hbi,h1,h2,h3,I.kIn _ _ hbk,h4,h5,h6⟩
 refine PySem.W.kla_eval hdef ?_
 rcases hL with hT | ⟨c',hT,hC⟩
 ·have hP:s.heap.get? T=some (PySem.W.tabObj #[]):=I.hok T _ hT
  refine PySem.W.kla_makeFunction hcl hge hg hcode C hP trivial rfl hgT hb fun c' ctv h' tk ext hc1 hc2 rec tab=>?_
  have hcn:H c'=none:=I.hok.fresh hc1
  have cT:T≠c':=ne_of_none hT hcn
  have I1:Inv X pins σ (upd (upd H T (.tbl (#[]++#[rawInt pos.line,rawInt pos.col,.ref c']))) c' (.ext (CodeO c' (X.env.qual++"<lambda>")))) { s with heap:=h',toks:=tk }:=
   I.un (Un.tblNew hT (fun b u z e=>ext b u z e) ⟨_,tab⟩ hc1 hcn) (I.hok.tblNew hT (fun b u z e=>ext b u z e) tab hcn (codeO_ok rec))
  have hf1:(upd (upd H T (.tbl (#[]++#[rawInt pos.line,rawInt pos.col,.ref c']))) c' (.ext (CodeO c' (X.env.qual++"<lambda>")))) h'.objs.size=none:=I1.hok.fresh (Nat.le_refl _)
  have hf:H h'.objs.size=none:=by
   rw[upd_ne (fun z=>by rw[z,upd_same]at hf1;cases hf1)]at hf1
   rw[upd_ne (fun z=>by rw[z,upd_same]at hf1;cases hf1)]at hf1
   exact hf1
  have fc:c'≠h'.objs.size:=fun z=>by rw[<- z,upd_same]at hf1;cases hf1
  have fT:T≠h'.objs.size:=ne_of_none hT hf
  refine⟨.ref h'.objs.size,upd _ h'.objs.size (.ext (LamO (X.env.qual++"<lambda>") params body scope ((X.mg "__name__").getD .none) c' ctv h'.objs.size)),I1.laid (t':=tk) (fun b u e=>Heap.get?_push_of_some _ e) (Nat.le_refl _) (lamO_ok (Heap.get?_push_size _ rfl) _),rfl,q _ c' ctv _ hf upd_same ?_ ?_ fun b o z e=>?_⟩
  ·rw[upd_ne fc,upd_same]
  ·rw[upd_ne fT,upd_ne cT,upd_same];simp
  ·rw[upd_ne (ne_of_none e hf),upd_ne (ne_of_none e hcn),upd_ne z];exact e
 ·have hP:s.heap.get? T=some (PySem.W.tabObj #[rawInt pos.line,rawInt pos.col,.ref c']):=I.hok T _ hT
  refine PySem.W.kla_makeFunctionHit (cv:=.ref c') hcl hge hg hcode C hP ?_ ?_ hb fun ctv h' tk k hs=>?_
  ·simp [TriplesOk,rawInt]
  ·simp [codeAmong,rawInt]
  have I1:Inv X pins σ H { s with heap:=h',toks:=tk }:=I.kept k
  have hf:H h'.objs.size=none:=I1.hok.fresh (Nat.le_refl _)
  exact⟨.ref h'.objs.size,upd H h'.objs.size (.ext (LamO (X.env.qual++"<lambda>") params body scope ((X.mg "__name__").getD .none) c' ctv h'.objs.size)),I1.laid (t':=tk) (fun b u e=>Heap.get?_push_of_some _ e) (Nat.le_refl _) (lamO_ok (Heap.get?_push_size _ rfl) _),rfl,q _ c' ctv _ hf upd_same (by rw[upd_ne (ne_of_none hC hf)];exact hC) (by rw[upd_ne (ne_of_none hT hf)];exact hT) fun b o z e=>by rw[upd_ne (ne_of_none e hf)];exact e⟩
theorem lam_of {CX:CXT}{P:Program}{w:World}{K:PySem.W.Frag}{mg:Str->Option Value}{base:Heap}{k:Nat}{f c:Addr}{qual:Str}{params:Arguments}{body:Expr}{scope:Scope}{pm ctv:Value}{N ps:List Str}{sp:Sp}
  (S:FnScope N ps scope) (len:∀ vs H Q E,sp vs H Q E->vs.length=ps.length) (at_:∀ vs H Q E,sp vs H Q E->H f=some (.ext (LamO qual params body scope pm c ctv f))/\H c=some (.ext (CodeO c qual)))
  (one:∀ (A:Around) (out:List Env) (s:Shared) (H:Hp) (vs:List V) (Q:VK) (E:XK),Room k (A.deeper (envOfC qual scope s.heap.objs.size f (.ref c)))->sp vs H Q E->∃ te,PE (cxOf CX P w K mg base N qual scope f (.ref c) A out s H E) body te/\te (start N vs) H Q) :
  FnOk P w K mg base CX (k+1) f (PySem.W.kla_fn "<lambda>" qual params body scope [] pm (.ref c) ctv) ps sp:=by
 refine⟨len,fun A out s H args us vs Q E room en bnd rel spec=>?_⟩
 obtain⟨hf,hc⟩:=at_ _ _ _ _ spec
 have ho:s.heap.get? f=some _:=(en.hok f _ hf).1
 have hr:s.heap.CodeRec (.ref c) qual:=(en.hok c _ hc).1
 have kinds:∀ y∈ps.zip us,scope.names.lookup y.1=some .local\/(scope.names.lookup y.1=some .cell/\((cellsFrom (s.heap.objs.size+1) scope.names []).lookup y.1).isSome=true):=by
  rintro⟨n,v⟩ hy
  exact (S.par n (List.of_mem_zip hy).1).imp id fun q=>⟨q,PySem.W.cellsFrom_some _ _ _ (.inl q)⟩
 refine PySem.W.kla_callFunE room.depth ho rfl S.co S.gen rfl hr (bnd _ _ _ _ ?_)
 refine wpAny_newFunctionEnv_cells S.kind kinds fun env he s1 x=>?_
 subst he
 refine⟨(en.mod.nolimit.keeps fun b o e=>(en.bs b o e).1).keeps x.toInCall.keep,PySem.W.kla_codeExpr ?_⟩
 obtain⟨te,ht,hq⟩:=one A out s H vs Q E (room.deeper _) spec
 exact wpAny_mono (ht [] s1 _ H _ (inv_start S room.hd en (len _ _ _ _ spec) rel x) hq) (fun u s' ⟨v,H',J,rv,q⟩=>⟨v,H',J.os,J.bare,J.base,J.hok,rv,q⟩) fun e s' z=>z
def HeldL (X:Cx) (CX:CXT) (k:Nat) (f:Addr) (sp:Sp):Prop:=∃ (c:Addr) (qual:Str) (params:Arguments) (body:Expr) (scope:Scope) (pm ctv:Value) (ps:List Str),
 FnOk X.prog X.w X.K X.mg X.base CX k f (PySem.W.kla_fn "<lambda>" qual params body scope [] pm (.ref c) ctv) ps sp/\Binds X.K (PySem.W.kla_fn "<lambda>" qual params body scope [] pm (.ref c) ctv) ps []/\∀ vs H Q E,sp vs H Q E->H f=some (.ext (LamO qual params body scope pm c ctv f))
theorem pe_callL {CX:CXT}{k:Nat}{C:Addr->Sp->Prop}{E:XK}{fe:Expr}{te:TE}{pos:Pos}{e:Expr}{es:List Expr}{t:TA}
  (hC:∀ f sp,C f sp->HeldL X CX k f sp) (room:Room k X.A) (pass:Passes CX X E) (pf:PE X fe te) (pa:PA X (e::es) t) (ns:noStars (e::es)=true:=by rfl)
  (call:eval (.Call fe (e::es) [] pos) X.env=(do callWith pos (<- eval fe X.env) [] (backTo pos (starEach (e::es) X.env)) (backToKw pos (keywordEach [] X.env))):=by rfl) :
  PE X (.Call fe (e::es) [] pos) (tCallA C E te t):=by
 have n2:notStar e=true/\noStars es=true:=Bool.and_eq_true_iff.mp ns
 rintro pins s σ H Q I h
 refine Call_ (thn (pf pins s σ H _ I h) fun v s1 ⟨y,H1,I1,r1,f,sp,e1,hc,q1⟩=>?_) call
 subst e1
 cases r1
 obtain⟨c,qual,params,body,scope,pm,ctv,ps,F,hb,at_⟩:=hC f sp hc
 have st:=star_cons (env:=X.env) (es:=es) n2.1
 have an:=stars_any (env:=X.env) (pos:=pos) n2.2
 have pa':=pa pos pins s1 σ H1 _ I1 q1
 rw[st]at pa' ⊢
 refine PySem.W.callWith_of (P:=fun h=>h.get? f=some (PySem.W.kla_obj "<lambda>" qual params body scope [] pm c ctv)) (by show ((false || (backTo pos (starEach es X.env)).any (·.1)) || false)=false;rw[an];rfl) (fun h hh=>PySem.W.keeps_K (K:=[(f,PySem.W.kla_obj "<lambda>" qual params body scope [] pm c ctv)]) ?kp h fun a o z=>?lk) (PySem.Calls.evalArgs_plain (thn pa' fun us s2 ⟨vs,H2,I2,r,q⟩=>⟨(I2.hok f _ (at_ _ _ _ _ q)).1,run_fn F room hb .nil pass I2 r (by rw[List.append_nil];exact q)⟩))
 case kp=>simp [PySem.W.keepIn,List.lookup]
 case lk=>
  by_cases y:a=f
  ·subst y;simp [List.lookup]at z;rw[<- z];exact hh
  ·have:(a == f)=false:=by simpa using y
   simp [List.lookup,this]at z
structure LmK (K:PySem.W.Frag) (mg:Str->Option Value) (c T:Addr):Prop where
 cd:PySem.W.codeHdIn K c T=true
 bi:∃ (bm:Addr) (ob:Obj),mg "__builtins__"=some (.ref bm)/\K.lookup bm=some ob/\bm≠builtinsNs/\bm≠mainGlobals/\bm≠T/\ob.cls=.type "module"/\ob.dict=some builtinsNs/\ob.data=.plain
 gT:mainGlobals≠T
theorem we_lam {params:Arguments}{body:Expr}{scope:Scope}{pos:Pos}{c T:Addr} (L:LmK X.K X.mg c T) (hdef:defaultsOf params X.env=([],[]):=by rfl) (hcl:closureFor scope X.env=pure []:=by rfl) (hge:X.env.globals=mainGlobals:=by rfl) (hcode:X.env.code=.ref c:=by rfl) :
  Hd (PE X (.Lambda params body scope pos) (tLam T (X.env.qual++"<lambda>") params body scope ((X.mg "__name__").getD .none) pos)):=by
 obtain⟨cd,⟨bm,ob,b1,b2,b3,b4,b5,b6,b7,b8⟩,gT⟩:=L
 exact⟨pe_lam hdef hcl hge hcode cd b1 b2 b3 b4 b5 b6 b7 b8 gT⟩
theorem we_callL {CX:CXT}{k:Nat}{C:Addr->Sp->Prop}{E:XK}{fe:Expr}{te:TE}{pos:Pos}{e:Expr}{es:List Expr}{t:TA}
  (hC:∀ f sp,C f sp->HeldL X CX k f sp) (room:Room k X.A) (pass:Passes CX X E) (pf:Hd (PE X fe te)) (pa:Hd (PA X (e::es) t)) (ns:noStars (e::es)=true:=by rfl)
  (call:eval (.Call fe (e::es) [] pos) X.env=(do callWith pos (<- eval fe X.env) [] (backTo pos (starEach (e::es) X.env)) (backToKw pos (keywordEach [] X.env))):=by rfl) :
  Hd (PE X (.Call fe (e::es) [] pos) (tCallA C E te t)):=⟨pe_callL hC room pass pf.out pa.out ns call⟩
theorem Fun.okC {P:Program}{w:World}{K:PySem.W.Frag}{mg:Str->Option Value}{base:Heap}{x qual:Str}{st:Stmt}{f c:Addr}{fd:FuncData}{N ps:List Str}{k:Nat}{sp:Sp} (F:Fun K x qual st f fd) (hc:fd.code=.ref c) (S:FnScope N ps (defScope st)) (len:∀ vs H Q E,sp vs H Q E->vs.length=ps.length)
  (body:∀ (A:Around) (outer:List Env) (s:Shared) (H:Hp) (vs:List V) (Q:VK) (E:XK),Room k (A.deeper (envOfC qual (defScope st) s.heap.objs.size f (.ref c)))->sp vs H Q E ->
   ∃ t,Hd (PSs (cxOf CX0 P w K mg base N qual (defScope st) f (.ref c) A outer s H E).nox (defBody st) t)/\t { nx:=fun _ H'=>Q .non H',rt:=Q } (start N vs) H):FnOk P w K mg base CX0 (k+1) f fd ps sp:=by
 obtain⟨oc,od,kV,doc,pm,an,cdv,ct,osl,rfl,lk,hcd⟩:=F.ex
 obtain rfl:cdv=.ref c:=hc
 refine fn_of lk hcd S len fun A outer s H vs Q E hr h=>?_
 obtain⟨t,h1,h2⟩:=body A outer s H vs Q E hr h
 exact⟨t,h1.out.nox,h2⟩
theorem lam_ofH {P:Program}{w:World}{K:PySem.W.Frag}{mg:Str->Option Value}{base:Heap}{k:Nat}{f c:Addr}{qual:Str}{params:Arguments}{body:Expr}{scope:Scope}{pm ctv:Value}{N ps:List Str}{sp:Sp}
  (S:FnScope N ps scope) (len:∀ vs H Q E,sp vs H Q E->vs.length=ps.length) (at_:∀ vs H Q E,sp vs H Q E->H f=some (.ext (LamO qual params body scope pm c ctv f))/\H c=some (.ext (CodeO c qual)))
  (one:∀ (A:Around) (out:List Env) (s:Shared) (H:Hp) (vs:List V) (Q:VK) (E:XK),Room k (A.deeper (envOfC qual scope s.heap.objs.size f (.ref c)))->sp vs H Q E->∃ te,Hd (PE (cxOf CX0 P w K mg base N qual scope f (.ref c) A out s H E).nox body te)/\te (start N vs) H Q) :
  FnOk P w K mg base CX0 (k+1) f (PySem.W.kla_fn "<lambda>" qual params body scope [] pm (.ref c) ctv) ps sp:=lam_of S len at_ fun A out s H vs Q E hr h=>by
 obtain⟨t,h1,h2⟩:=one A out s H vs Q E hr h
 exact⟨t,h1.out.nox,h2⟩
end
end L2
end
section
namespace L2
open PySem PySem.Spec PyProof.Rows
section
variable {prog:Program}{w:World}{A:Around}{E:Value->Shared->Prop}{s:Shared}
end
section
variable {prog:Program}{w:World}{A:Around}{E:Value->Shared->Prop}{s:Shared}
end
section
variable {X:Cx}
end
end L2
end
section
namespace L2
open PySem
theorem seqH {t u:TS}{D:Ends} {σ:St} {H:Hp} (h:∀ N:St->Hp->Prop,(∀ σ H,u D σ H->N σ H)->t ⟨N,D.rt,D.bk,D.ct⟩ σ H):tSeq t u D σ H:=h (u D) fun _ _ k=>k
theorem ixt {K:PySem.W.Frag}{a:Addr}{xs:List V}{i:Int}{v:V}{H:Hp}{Q:VK} (h:SqT K H a xs) (e:atI xs i=some v) (k:Q v H):rIxL K (.ref a) (.int i) H Q\/(rIxT K (.ref a) (.int i) H Q\/(rIxS (.ref a) (.int i) H Q\/rIxD (.ref a) (.int i) H Q)):=.inr (.inl ⟨a,xs,i,v,rfl,rfl,h,e,k⟩)
theorem ixl {K:PySem.W.Frag}{a:Addr}{xs:List V}{i:Int}{v:V}{H:Hp}{Q:VK} (h:SqL K H a xs) (e:atI xs i=some v) (k:Q v H):rIxL K (.ref a) (.int i) H Q\/(rIxT K (.ref a) (.int i) H Q\/(rIxS (.ref a) (.int i) H Q\/rIxD (.ref a) (.int i) H Q)):=.inl ⟨a,xs,i,v,rfl,rfl,h,e,k⟩
theorem ixd {K:PySem.W.Frag}{a:Addr}{y v:V}{H:Hp}{Q:VK} (g:DGet H a y (some v)) (k:Q v H):rIxL K (.ref a) y H Q\/(rIxT K (.ref a) y H Q\/(rIxS (.ref a) y H Q\/rIxD (.ref a) y H Q)):=.inr (.inr (.inr ⟨a,v,rfl,g,k⟩))
theorem vr {σ:St} {i:Nat}{v:V}{H:Hp}{Q:VK} (k:Q v H) (e:σ[i]?=some (some v):=by rfl):tVar i σ H Q:=⟨v,e,k⟩
end L2
end
section
namespace L2
open PySem PySem.Spec PyProof.Rows PySem.W
section
variable {prog:Program}{w:World}{A:Around}{E:Value->Shared->Prop}{s:Shared}
theorem miss_keys_tuple:typeLookup (.type "tuple") "keys"=pure none:=by rw[typeLookup_type,builtinLookup_eq_fast];kernel_rfl
theorem miss_keys_list:typeLookup (.type "list") "keys"=pure none:=by rw[typeLookup_type,builtinLookup_eq_fast];kernel_rfl
theorem noKeys_tuple {a:Addr}{o:Obj}{xs:Array Value}{k:Nat}{Q:Option Value->Shared->Prop} (hx:s.heap.get? a=some o) (hc:o.cls=.type "tuple") (hdat:o.data=.seq xs k) (hd:o.dict=none) (hA:A.handled=none)
  (h:∀ h' tk,(∀ b o,s.heap.get? b=some o->h'.get? b=some o)->Q none { s with heap:=h',toks:=tk }):wpAny (model prog w) A (getAttr? (.ref a) "keys") Q E s:=by
 obtain⟨c,dct,dat,sl⟩:=o
 simp only at hc hdat hd
 subst hc hdat hd
 obtain⟨hp,g,d,tk,os⟩:=s
 have hT:∀ tk',(⟨hp,g,d,tk',os⟩:Shared).TypeIs (.ref a) "tuple":=fun _=>⟨_,hx,rfl⟩
 have f1:=sub_AttributeError
 have f3:=F.slot_tuple_getattribute.lookup
 have f4:=F.slot_tuple_getattribute.bind (.ref a)
 have f5:=am_tuple_getattr_none
 have hname:(["__module__","__name__","__qualname__","__doc__","__annotations__"]:List Str).contains "keys"=false:=by decide
 unfold getAttr? getAttrBy? getAttrBy
 repeat (any_goals (first | assumption | exact hT _ | ((with_reducible show wpAny _ _ (call (Value.builtin "tuple.__getattribute__") _ _) _ _ _);refine call_meets F.slot_tuple_getattribute (hT _) am_entry_tuple_getattribute (F.args_tuple_getattribute_2 _ _) (meets_getattribute_miss_tuple a xs k sl "keys" _ miss_keys_tuple hname) ⟨hx,hA,fun h' tk' e hx'=>?_⟩) | wp_step))
 obtain⟨t',u',he⟩:=hx'.there
 show wpAny _ _ (getattributeRaised _ _ _ _ _ _ _) _ _ _
 unfold getattributeRaised
 repeat (any_goals (first | assumption | wp_step))
 exact h _ _ hx'.keeps
theorem noKeys_list {a:Addr}{o:Obj}{xs:Array Value}{k:Nat}{Q:Option Value->Shared->Prop} (hx:s.heap.get? a=some o) (hc:o.cls=.type "list") (hdat:o.data=.seq xs k) (hd:o.dict=none) (hA:A.handled=none)
  (h:∀ h' tk,(∀ b o,s.heap.get? b=some o->h'.get? b=some o)->Q none { s with heap:=h',toks:=tk }):wpAny (model prog w) A (getAttr? (.ref a) "keys") Q E s:=by
 obtain⟨c,dct,dat,sl⟩:=o
 simp only at hc hdat hd
 subst hc hdat hd
 obtain⟨hp,g,d,tk,os⟩:=s
 have hT:∀ tk',(⟨hp,g,d,tk',os⟩:Shared).TypeIs (.ref a) "list":=fun _=>⟨_,hx,rfl⟩
 have f1:=sub_AttributeError
 have f3:=F.slot_list_getattribute.lookup
 have f4:=F.slot_list_getattribute.bind (.ref a)
 have f5:=am_list_getattr_none
 have hname:(["__module__","__name__","__qualname__","__doc__","__annotations__"]:List Str).contains "keys"=false:=by decide
 unfold getAttr? getAttrBy? getAttrBy
 repeat (any_goals (first | assumption | exact hT _ | ((with_reducible show wpAny _ _ (call (Value.builtin "list.__getattribute__") _ _) _ _ _);refine call_meets F.slot_list_getattribute (hT _) am_entry_list_getattribute (F.args_list_getattribute_2 _ _) (meets_getattribute_miss_list a xs k sl "keys" _ miss_keys_list hname) ⟨hx,hA,fun h' tk' e hx'=>?_⟩) | wp_step))
 obtain⟨t',u',he⟩:=hx'.there
 show wpAny _ _ (getattributeRaised _ _ _ _ _ _ _) _ _ _
 unfold getattributeRaised
 repeat (any_goals (first | assumption | wp_step))
 exact h _ _ hx'.keeps
theorem entry_update_loop:entryFor table "dict.update.loop"=some Builtin.«dict.update.loop»:=entryFor_of_tree (by kernel_rfl)
theorem plain_update_loop:plainId "dict.update.loop"=true:=by decide +kernel
variable {I:Addr}{fp wr:List Addr}{n:Nat}{P:Nat->Value->Prop}{St:Nat->Heap->Prop}
def PutsAt (prog:Program) (w:World) (A:Around) (d:Addr) (n:Nat) (P:Nat->Value->Prop) (DK:Nat->Heap->Prop):Prop:=
 ∀ (i:Nat) (v:Value) (s:Shared),i<n->P i v->DK i s.heap->∃ (a:Addr) (o:Obj) (xs:Array Value) (m:Nat) (k x:Value),v=.ref a/\s.heap.get? a=some o/\o.cls=.type "tuple"/\o.data=.seq xs m/\xs.toList=[k,x] /\
  ∀ (Q:Unit->Shared->Prop) (E:Value->Shared->Prop),(∀ h' tk,DK (i+1) h'->Heap.SameBut d s.heap h'->Q () { s with heap:=h',toks:=tk })->wpAny (model prog w) A (dictSet d k x) Q E s
theorem codeAny_update_loop {R:Result->Shared->Prop}{DK:Nat->Heap->Prop} (W:Walks prog w A.in1 I fp wr n P St) (d:Addr) (hdf:d ∉ fp) (hfr:∀ i h h',DK i h->(∀ b o,b ∉ wr->h.get? b=some o->h'.get? b=some o)->DK i h') (put:PutsAt prog w A.in1 d n P DK) (res:Value) :
  ∀ (k i:Nat) (t:Tok) (s:Shared),n-i=k->i<=n->St i s.heap->DK i s.heap ->
  (∀ h' tk,DK n h'->(∀ b o,b ∉ d::wr->s.heap.get? b=some o->h'.get? b=some o)->R (.ok (.ret res)) { s with heap:=h',toks:=tk }) ->
  codeAny (model prog w) A (.builtin "dict.update.loop" ⟨[.ref d,.ref I,.int i t,res],[]⟩) R s:=by
 have hdw:d ∉ wr:=fun h=>hdf (W.sub _ h)
 intro k
 induction k with
 | zero=>
  intro i t s hk hi hst hD hR
  have hin:i=n:=by lia
  subst hin
  refine codeAny_builtin entry_update_loop ?_
  rw[Around.under_plainId plain_update_loop _]
  show wpAny _ A.in1 (pyNext (.ref I) >>= _) _ _ s
  refine wpAny_bind (W.done s _ _ hst fun h' tk hm=>?_)
  dsimp only
  unfold Builtin.Dict.addKeywords
  refine wpAny_bind (wpAny_pure ?_)
  exact wpAny_pure (hR h' tk (hfr _ _ _ hD hm) fun b o hb e=>hm b o (fun z=>hb (List.mem_cons_of_mem _ z)) e)
 | succ k ih=>
  intro i t s hk hi hst hD hR
  have hlt:i<n:=by lia
  refine codeAny_builtin entry_update_loop ?_
  rw[Around.under_plainId plain_update_loop _]
  show wpAny _ A.in1 (pyNext (.ref I) >>= _) _ _ s
  refine wpAny_bind (W.item i s _ _ hlt hst fun v h' tk hP hst' hm=>?_)
  dsimp only
  obtain⟨a,o,xs,m,ky,x,rfl,ho,hc,hdat,hxs,hput⟩:=put i v { s with heap:=h',toks:=tk } hlt hP (hfr _ _ _ hD hm)
  refine wpAny_bind (wpAny_holding (wpAny_bind (wpAny_tryCatch ?_)))
  unfold Builtin.Dict.pairItems
  refine wpAny_bind (wpAny_typeOf (T:="tuple") ⟨o,ho,hc⟩ ?_)
  rw[if_pos (by decide)]
  refine wpAny_bind (wpAny_seqItems ho hdat (wpAny_pure ?_))
  dsimp only[Option.getD_some]
  rw[hxs]
  dsimp only
  refine wpAny_holding (hput _ _ fun h'' tk' hD' hs=>?_)
  refine wpAny_pure ⟨plainId_quiet plain_update_loop _,?_⟩
  have:=ih (i+1) 0 { s with heap:=h'',toks:=tk' } (by lia) hlt (W.frame _ _ _ hst' fun b hb o e=>(hs.2 b (fun z=>hdf (z ▸ hb))).trans e) hD' (fun h3 tk3 hD3 hk3=>hR h3 tk3 hD3 fun b o hb e=>hk3 b o hb ((hs.2 b (fun z=>hb (by simp [z]))).trans (hm b o (fun z=>hb (List.mem_cons_of_mem _ z)) e)))
  exact this
end
end L2
end
section
namespace L2
open PySem PySem.Spec PyProof.Rows PySem.W
open Classical in
section
variable {P:Program}{w:World}{H:Hp}
theorem depL_le {n:Nat}:∀ {ds:List Dt},depL ds<=n->∀ d∈ds,d.dep<=n:=fun h d hd=>Nat.le_trans (dep_mem hd) h
end
end L2
end
section
namespace L2
open PySem PySem.Spec PyProof.Rows PySem.W
structure PSrc (prog:Program) (w:World) (T:String) (r:Addr) (n:Nat) (P:Nat->Value->Prop) (OK:Heap->Prop):Prop where
 type:∀ s:Shared,OK s.heap->s.TypeIs (.ref r) T
 there:∀ h:Heap,OK h->r<h.objs.size
 keep:∀ h h':Heap,OK h->(∀ o,h.get? r=some o->h'.get? r=some o)->OK h'
 notDict:(Value.type T != Value.type "dict")=true
 noKeys:∀ (A:Around) (E:Value->Shared->Prop) (s:Shared) (Q:Option Value->Shared->Prop),A.handled=none->OK s.heap->(∀ h' tk,(∀ b o,s.heap.get? b=some o->h'.get? b=some o)->Q none { s with heap:=h',toks:=tk })->wpAny (model prog w) A (getAttr? (.ref r) "keys") Q E s
 iter:∀ (A:Around) (s:Shared),A.handled=none->OK s.heap->∃ (oI:Obj) (St:Nat->Heap->Prop),
  (∀ (E:Value->Shared->Prop) (Q:Value->Shared->Prop),Q (.ref s.heap.objs.size) { s with heap:=s.heap.push oI }->wpAny (model prog w) A (pyIter (.ref r)) Q E s) /\
  Walks prog w A s.heap.objs.size [s.heap.objs.size,r] [s.heap.objs.size] n P St/\St 0 (s.heap.push oI)
section
variable {prog:Program}{w:World}{A:Around}{E:Value->Shared->Prop}{s:Shared}{T:String}{r:Addr}{n:Nat}{P:Nat->Value->Prop}{OK:Heap->Prop}
theorem psrc_list {k:Nat}{its:Array Value}:PSrc prog w "list" r its.size (fun i v=>its[i]?=some v) (fun h=>h.get? r=some { cls:=.type "list",data:=.seq its k }) where
 type:=fun s h=>⟨_,h,rfl⟩
 there:=fun h e=>Heap.lt_size e
 keep:=fun h h' e k=>k _ e
 notDict:=by decide
 noKeys:=fun A E s Q hA e q=>noKeys_list e rfl rfl rfl hA q
 iter:=fun A s hA e=>by
  have hl:s.heap.IsList r its:=⟨_,e,rfl,k,rfl⟩
  have ne:r≠s.heap.objs.size:=Nat.ne_of_lt (Heap.lt_size e)
  exact⟨_,_,fun _ _ q=>wpAny_pyIter_list hl q,Walks.list hA s.heap.objs.size r ne its,⟨⟨_,Heap.get?_push_size _ rfl,rfl,rfl⟩,hl.push _⟩⟩
theorem psrc_tup {its:Array Value}:PSrc prog w "tuple" r its.size (fun i v=>its[i]?=some v) (fun h=>∃ o k,h.get? r=some o/\o.cls=.type "tuple"/\o.data=.seq its k/\o.dict=none) where
 type:=fun s ⟨o,k,h,c,_⟩=>⟨_,h,c⟩
 there:=fun h ⟨o,k,e,_⟩=>Heap.lt_size e
 keep:=fun h h' ⟨o,k,e,c⟩ q=>⟨o,k,q _ e,c⟩
 notDict:=by decide
 noKeys:=fun A E s Q hA ⟨o,k,e,c,d,z⟩ q=>noKeys_tuple e c d z hA q
 iter:=fun A s hA ⟨o,k,e,c,d,z⟩=>by
  have hl:s.heap.IsTuple r its:=⟨o,e,c,k,d⟩
  have ne:r≠s.heap.objs.size:=Nat.ne_of_lt (Heap.lt_size e)
  exact⟨_,_,fun _ _ q=>wpAny_pyIter_tuple hl q,Walks.tuple hA s.heap.objs.size r ne its,⟨⟨_,Heap.get?_push_size _ rfl,rfl,rfl⟩,hl.push _⟩⟩
theorem call_dictP {DK:Nat->Heap->Prop}{Q:Value->Shared->Prop} (K:PSrc prog w T r n P OK) (hA:A.handled=none) (hok:OK s.heap) (d0:DK 0 (s.heap.push { cls:=.type "dict",data:=.dict #[] }))
  (hfr:∀ i h h' (it:Addr),s.heap.objs.size<it->DK i h->(∀ b o,b≠it->h.get? b=some o->h'.get? b=some o)->DK i h') (put:∀ A':Around,A'.units<=A.units+5->PutsAt prog w A' s.heap.objs.size n P DK)
  (h:∀ h' tk,DK n h'->(∀ b o,s.heap.get? b=some o->h'.get? b=some o)->Q (.ref s.heap.objs.size) { s with heap:=h',toks:=tk }):wpAny (model prog w) A (call (.type "dict") [.ref r]) Q E s:=by
 refine callType_codes (Q₁:=fun obj s₁=>obj=.ref s.heap.objs.size/\s₁={ s with heap:=s.heap.push { cls:=.type "dict",data:=.dict #[] } }) F.kt_called_dict (F.kt_typeCall_dict_1 _) F.entry_dict_init (kt_code_dict_new _ ⟨rfl,rfl⟩) ?_
 rintro obj s₁ ⟨rfl,rfl⟩
 have k1:∀ b o,s.heap.get? b=some o->(s.heap.push { cls:=.type "dict",data:=.dict #[] }).get? b=some o:=fun b o e=>Heap.get?_push_of_some _ e
 have ok1:OK (s.heap.push { cls:=.type "dict",data:=.dict #[] }):=K.keep _ _ hok fun o e=>k1 _ o e
 have hT0:(Shared.TypeIs { s with heap:=s.heap.push { cls:=.type "dict",data:=.dict #[] } } (.ref s.heap.objs.size) "dict"):=⟨_,Heap.get?_push_size _ rfl,rfl⟩
 refine⟨hT0,F.args_dict_init_2 _ _,?_⟩
 unfold Builtin.«dict.__init__»
 refine wpAny_bind ?_
 unfold Builtin.Dict.selfAndRest
 refine wpAny_bind (wpAny_notOrdered_dict hT0 ?_)
 show wpAny _ _ (pure (s.heap.objs.size,[Value.ref r])) _ _ _
 refine wpAny_pure ?_
 show wpAny _ _ (Builtin.Dict.updateFrom "dict.__init__" s.heap.objs.size (.ref r) [] .none) _ _ _
 unfold Builtin.Dict.updateFrom
 refine wpAny_bind (wpAny_typeOf (K.type _ ok1) ?_)
 rw[if_pos K.notDict]
 refine wpAny_bind (K.noKeys A.in1.in1 _ { s with heap:=s.heap.push { cls:=.type "dict",data:=.dict #[] } } _ hA ok1 fun h2 tk2 k2=>?_)
 simp only[Option.isNone_none,if_true]
 refine wpAny_bind (wpAny_rule ?_)
 have ok2:OK h2:=K.keep _ _ ok1 fun o e=>k2 _ o e
 obtain⟨oI,St,hit,W,st⟩:=K.iter A.in1.in1 { s with heap:=h2,toks:=tk2 } hA ok2
 have lt2:s.heap.objs.size<h2.objs.size:=Heap.lt_size (k2 _ _ (Heap.get?_push_size _ rfl))
 refine wpAny_bind (hit _ _ ?_)
 have hr:r<s.heap.objs.size:=K.there _ hok
 have loop:=codeAny_update_loop (A:=A.in1) (R:=wants (fun r' s₂=>r'=.none/\Q (.ref s.heap.objs.size) s₂) E) (DK:=DK) W s.heap.objs.size (by
   simp only[List.mem_cons,List.not_mem_nil,or_false,not_or]
   exact⟨Nat.ne_of_lt lt2,Nat.ne_of_gt hr⟩)
  (fun i h h' x k=>hfr i h h' h2.objs.size lt2 x fun b o hb e=>k b o (by simpa using hb) e) (put _ (by show A.units+1+1<=_;lia)) .none n 0 0 { s with heap:=h2.push oI,toks:=tk2 } rfl (Nat.zero_le _) st
  (hfr 0 _ _ h2.objs.size lt2 d0 fun b o _ e=>Heap.get?_push_of_some _ (k2 b o e)) (fun h' tk hD hk=>⟨rfl,h h' tk hD fun b o e=>hk b o (by
   have hb:=Heap.lt_size e
   simp only[List.mem_cons,List.not_mem_nil,or_false,not_or]
   exact⟨Nat.ne_of_lt hb,Nat.ne_of_lt (Nat.lt_trans hb lt2)⟩) (Heap.get?_push_of_some _ (k2 b o (k1 b o e)))⟩)
 first
  | exact wpAny_pure ⟨plainId_quiet plain_update_loop _,loop⟩
  | exact wpAny_pure (wpAny_pure ⟨plainId_quiet plain_update_loop _,loop⟩)
  | exact wpAny_bind (wpAny_pure (wpAny_pure ⟨plainId_quiet plain_update_loop _,loop⟩))
end
end L2
end
section
namespace L2
open PySem PySem.Spec PyProof.Rows PySem.W
def mergeG {κ:Type} [DecidableEq κ] (kvs more:List (κ×V)):List (κ×V):=more.foldl (fun acc kv=>putK acc kv.1 kv.2) kvs
theorem mergeG_len {κ:Type} [DecidableEq κ]:∀ (more kvs:List (κ×V)),(mergeG kvs more).length<=kvs.length+more.length
 | [],kvs=>by simp [mergeG]
 | p::more,kvs=>by
  have h1:=mergeG_len more (putK kvs p.1 p.2)
  have h2:=length_putK kvs p.1 p.2
  have e:mergeG kvs (p::more)=mergeG (putK kvs p.1 p.2) more:=rfl
  rw[e,List.length_cons]
  lia
theorem mergeG_take {κ:Type} [DecidableEq κ] {kvs:List (κ×V)}{i:Nat}{p:κ×V} (h:kvs[i]?=some p):mergeG [] (kvs.take (i+1))=putK (mergeG [] (kvs.take i)) p.1 p.2:=by
 rw[List.take_add_one,h]
 unfold mergeG
 rw[List.foldl_append]
 rfl
def PairsK (H:Hp):List (Key×V)->List V->Prop:=Paired fun kv x=>∃ a,x=.ref a/\H a=some (.tup [kV kv.1,kv.2])
theorem paired_get {α β:Type} {F:α->β->Prop}:∀ {l:List α}{m:List β}{i:Nat}{b:β},Paired F l m->m[i]?=some b->∃ a,l[i]?=some a/\F a b
 | _,_,_,_,.nil,e=>by simp at e
 | _,_,0,_,.cons r _,e=>by simp at e;subst e;exact⟨_,rfl,r⟩
 | _,_,i+1,_,.cons _ t,e=>by
  obtain⟨a,h1,h2⟩:=paired_get (i:=i) t (by simpa using e)
  exact⟨a,by simpa using h1,h2⟩
section
variable {X:Cx}
def SqA (H:Hp) (r:Addr) (xs:List V):Prop:=H r=some (.lst xs)\/H r=some (.tup xs)
theorem sqA_src {pins:List (Addr×Obj)}{s:Shared} {σ:St} {H:Hp}{r:Addr}{xs:List V} (I:Inv X pins σ H s) (h:SqA H r xs):∃ (T:String) (its:List Value) (OK:Heap->Prop),Vals xs its/\xs.length<=sizeLine/\OK s.heap/\PSrc X.prog X.w T r its.toArray.size (fun i v=>its.toArray[i]?=some v) OK:=by
 rcases h with h | h
 ·obtain⟨z,its,n,rv,ho⟩:=I.hok r _ h
  exact⟨_,its,_,rv,z,ho,psrc_list (k:=n)⟩
 ·obtain⟨z,its,rv,o,ho,hc,n,hd⟩:=I.hok r _ h
  exact⟨_,its,_,rv,z.1,⟨o,n,ho,hc,hd,z.2 o ho⟩,psrc_tup⟩
def rDictK:List V->Hp->VK->Prop:=fun ws H Q=>∃ (r:Addr) (xs:List V) (kvs:List (Key×V)),ws=[.ref r]/\SqA H r xs/\PairsK H kvs xs/\∀ p,H p=none->Q (.ref p) (upd H p (.dK (mergeG [] kvs)))
theorem call_dictK (hc:X.calm=true):CallR X (.type "dict") rDictK:=by
 intro pins s σ H ws us Q I r h
 obtain⟨a,xs,kvs,rfl,ha,hp,q⟩:=h
 obtain⟨u,rfl,ru⟩:=r.one
 cases ru
 have hh:=I.ok.hd hc
 obtain⟨T,its,OK,rv,hz,hok,S⟩:=sqA_src I ha
 have fr:H s.heap.objs.size=none:=I.hok.fresh (Nat.le_refl _)
 have lk:kvs.length=xs.length:=Paired.length hp
 refine call_dictP (DK:=fun i h=>HOk X.prog X.w H h/\∃ vs,KV (mergeG [] (kvs.take i)) vs/\h.DictOf (mixKind X.prog X.w) s.heap.objs.size vs) S hh hok ⟨I.hok.kept fun b o e=>Heap.get?_push_of_some _ e,[],.nil,Heap.DictOf.new _⟩ (fun i h h' it hit x k=>?_) (fun A' hA' i v s' hi hP hD=>?_) fun h' tk hD keep=>?_
 ·obtain⟨ok,vs,rel,o,es,ep,e,rest⟩:=x
  exact⟨ok.but (I.hok.fresh (Nat.le_of_lt hit)) k,vs,rel,o,es,ep,k _ _ (Nat.ne_of_lt hit) e,rest⟩
 ·obtain⟨ok,vs,rel,dd⟩:=hD
  have e1:its[i]?=some v:=by simpa using hP
  obtain⟨x,x1,x2⟩:=vals_get rv e1
  obtain⟨kv,k1,b,rfl,k3⟩:=paired_get hp x1
  cases x2
  obtain⟨_,its2,r2,o,ho,hcl,n,hd⟩:=ok b _ k3
  cases r2 with
  | @cons _ uk _ _ rk r3=>
  cases r3 with
  | @cons _ ux _ _ rx r4=>
  cases r4
  refine⟨b,o,_,n,uk,ux,rfl,ho,hcl,hd,rfl,fun Q E hq=>?_⟩
  have hv:vs.length<=sizeLine:=by
   rw[<- rel.length]
   have:=mergeG_len (kvs.take i) ([]:List (Key×V))
   rw[List.length_take,List.length_nil]at this
   lia
  refine wpAny_dictSet_pairs (hsz:=hv) (kV_is rk) dd fun h2 dd2 sb=>hq _ _ ⟨ok.but fr fun b o hb e=>sb.extBut b o hb e,_,?_,dd2⟩ sb
  rw[mergeG_take k1]
  exact rel.put kv.1 rx
 ·obtain⟨ok,vs,rel,dd⟩:=hD
  have ls:its.toArray.size=kvs.length:=by rw[List.size_toArray,<- rv.length,lk]
  rw[ls,List.take_length]at rel
  have big:(s.heap.objs.size == sysModules)=false:=by
   have:=I.big
   simp only[beq_eq_false_iff_ne]
   exact Nat.ne_of_gt this
  have hl:(mergeG [] kvs).length<=sizeLine:=by
   have:=mergeG_len kvs ([]:List (Key×V))
   rw[List.length_nil]at this
   lia
  exact⟨.ref s.heap.objs.size,_,I.laid (t':=tk) (o:=.dK (mergeG [] kvs)) keep (Nat.le_refl _) ⟨hl,big,vs,rel,dd⟩,rfl,q _ fr⟩
end
end L2
end
section
namespace L2
open PySem PySem.Spec PyProof.Rows PySem.W
open Kn (krun)
section
variable {X:Cx}
end
end L2
end
section
namespace L2
open PySem PySem.Spec PyProof.Rows PySem.W
section
variable {X:Cx}
end
end L2
end
section
namespace L2
open PySem PySem.Spec PyProof.Rows
section
open AutoSeq1 (wpAny_loadPart')
end
section
variable {prog:Program}{w:World}{A:Around}{E:Value->Shared->Prop}{s:Shared}
end
section
variable {X:Cx}
end
end L2
end
section
namespace L2
open PySem PySem.Spec PyProof.Rows PySem.W
section
variable {X:Cx}
end
end L2
end
section
namespace L2
open PySem PySem.Spec PyProof.Rows PySem.W
section
variable {prog:Program}{w:World}{A:Around}{E:Value->Shared->Prop}{s:Shared}
end
section
variable {X:Cx}
end
end L2
end
section
namespace L2
open PySem PySem.Spec PyProof.Rows PySem.W
section
variable {X:Cx}{e o:Expr}{te to:TE}
end
end L2
end
section
namespace Kn
open PySem L2
inductive At where
 | int (i:Int)
 | txt (s:Str)
inductive Tr where
 | row (ps:List (Str×Tr))
 | node (w:Str) (as:List At) (ps:List Tr)
end Kn
end
section
namespace Kn
open PySem L2
def HM:List Str:=[Str.ofString "num",Str.ofString "word",Str.ofString "var",Str.ofString "table",Str.ofString "none",Str.ofString "at",Str.ofString "times",Str.ofString "for",Str.ofString "let"]
def bnd:Tr->Nat->List Str
 | .node w [.txt s] _,1=>if w=Str.ofString "for"\/w=Str.ofString "let" then [s] else []
 | _,_=>[]
end Kn
end
section
namespace K09
open PySem L2
def lamE:Expr:=match defBody (top 2) with
 | [.Return (some (.Call _ [_,_,e] _ _)) _]=>e
 | _=>.Name "" ⟨0,0,0,0⟩
def lamP:Arguments:=match lamE with
 | .Lambda p _ _ _=>p
 | _=>defArgs (.Pass ⟨0,0,0,0⟩)
def lamB:Expr:=match lamE with
 | .Lambda _ b _ _=>b
 | e=>e
def lamS:Scope:=match lamE with
 | .Lambda _ _ s _=>s
 | _=>defScope (.Pass ⟨0,0,0,0⟩)
def lamQ:Pos:=match lamE with
 | .Lambda _ _ _ q=>q
 | _=>⟨0,0,0,0⟩
theorem sc_lam:FnScope ["bag"] ["bag"] lamS:=⟨rfl,rfl,rfl,by decide +kernel,rfl,by decide +kernel,by decide +kernel⟩
end K09
end
section
namespace K09
open PySem L2 Kn
theorem bag_at {H:Hp}{ps:List (Val×Int)}{u:V} (h:IsDt H (dat (.bag ps)) u):∃ a b xs,u=.ref a/\H a=some (.tup [.str "bag",.ref b])/\H b=some (.tup xs)/\IsDts H (datB ps) xs:=by
 rw[dat,IsDt]at h
 obtain⟨a,xs,rfl,h1,h2⟩:=h
 simp only[IsDts,IsDt]at h2
 obtain⟨_,_,rfl,rfl,_,_,rfl,⟨b,ys,rfl,h3,h4⟩,rfl⟩:=h2
 exact⟨a,b,ys,rfl,h1,h3,h4⟩
theorem pair_at {H:Hp}{ps:List (Val×Int)}{xs:List V}{i:Nat} (h:IsDts H (datB ps) xs) (hi:i<ps.length):∃ c v,xs[i]?=some (.ref c)/\H c=some (.tup [v,.int (ps[i]).2])/\IsDt H (dat (ps[i]).1) v:=by
 rw[datB_map]at h
 obtain⟨y,e1,e2⟩:=h.get (i:=i) (d:=.tup [dat (ps[i]).1,.int (ps[i]).2]) (by rw[List.getElem?_map,List.getElem?_eq_getElem hi];rfl)
 rw[IsDt]at e2
 obtain⟨c,zs,rfl,h1,h2⟩:=e2
 simp only[IsDts,IsDt]at h2
 obtain⟨v,_,rfl,h3,_,_,rfl,rfl,rfl⟩:=h2
 exact⟨c,v,e1,h1,h3⟩
theorem at0 {x:V}{xs:List V}:atI (x::xs) 0=some x:=(show atI (x::xs) ((0:Nat):Int)=_ from atI_nat rfl)
theorem at1 {x y:V}{xs:List V}:atI (x::y::xs) 1=some y:=(show atI (x::y::xs) ((1:Nat):Int)=_ from atI_nat rfl)
theorem at2 {a b c:V}{xs:List V}:atI (a::b::c::xs) 2=some c:=(show atI (a::b::c::xs) ((2:Nat):Int)=_ from atI_nat rfl)
theorem tallT {σ:St} {H:Hp}{A B:Hp->Prop} (h:A H):tAll σ H fun b H3=>if b=true then A H3 else B H3:=by
 show (if true=true then A H else B H)
 rw[if_pos rfl];exact h
def lamN:Str:=(Str.ofString "is_of"++".<locals>.")++"<lambda>"
def LamAt (pm:Value) (c:Addr) (ctv:Value) (f:Addr) (H:Hp):Prop:=H f=some (.ext (LamO lamN lamP lamB lamS pm c ctv f))/\H c=some (.ext (CodeO c lamN))
section
variable {P:Program}{w:World}{K:PySem.W.Frag}{mg:Str->Option Value}{base:Heap}{f c ZaV:Addr}{fd ZaW:FuncData}{pm ctv:Value}
def spRows (pm:Value) (c:Addr) (ctv:Value) (f:Addr):Sp:=fun vs H Q _=>LamAt pm c ctv f H/\∃ (u:V) (qs:List (Val×Int)),vs=[u]/\IsDt H (dat (.bag qs)) u/\qs.length<=1000000 /\
 ∀ (l:Addr) (xs:List V) (H':Hp),Same H H'->H' l=some (.lst xs)->IsDts H' (qs.map fun q=>dat q.1) xs->Q (.ref l) H'
theorem ok_rows (T:Tx mg):FnOk P w K mg base CX0 1 f (PySem.W.kla_fn "<lambda>" lamN lamP lamB lamS [] pm (.ref c) ctv) ["bag"] (spRows pm c ctv f):=by
 refine lam_ofH (k:=0) sc_lam (fun vs H Q E h=>?_) (fun vs H Q E h=>h.1) fun A out s H vs Q E hr h=>?_
 ·obtain⟨_,u,qs,rfl,_⟩:=h;rfl
 obtain⟨la,u,qs,rfl,iu,lq,fin⟩:=h
 have hu:=u110 hr
 have hu0:=u0 hr
 have hu1:=hu_of hr
 refine⟨_,(we_lc (Nt:=["row","count"]) (fr:=[]) (LcOk.of (sc:=lamS) (N:=["bag"]) rfl rfl (by decide +kernel)) rfl (wi_U (we_ix (ix_U hu1) (wv 0) we_int (fun _ _=>rfl))) (fun z=>wg_tup rfl (wgs_cons (wg_name (i:=0) (by show (["row","count"]:List Str).Nodup;decide +kernel) rfl (Or.inl rfl) (.inr rfl)) (wgs_cons (wg_name (i:=1) (by show (["row","count"]:List Str).Nodup;decide +kernel) rfl (Or.inl rfl) (.inr rfl)) wgs_nil))) (fun z=>tgt_two (by decide) (by decide)) (fun z=>wif_nil) (fun z=>(wv 0))),?_⟩
 obtain⟨a,b,bx,rfl,ha,hb,ibx⟩:=bag_at iu
 have lbx:bx.length=qs.length:=by rw[ibx.length,datB_map,List.length_map]
 refine .inr ⟨_,rfl,ixt (SqT.of ha) at1 ⟨b,rfl,⟨bx,SqT.of hb⟩,?_⟩⟩
 refine⟨fun i m zs H2=>m+i=qs.length/\H2=H/\IsDts H ((qs.take i).map fun q=>dat q.1) zs,⟨qs.length,rfl,rfl,.nil⟩,?_⟩
 rintro i m zs H2 ⟨hm,rfl,iz⟩
 refine⟨line1 (by rw[iz.length,List.length_map,List.length_take];lia),?_⟩
 by_cases hi:i<qs.length
 ·obtain⟨cb,v,e1,hcb,iv⟩:=pair_at ibx hi
  refine .inr ⟨⟨_,_,SqT.of hb,e1⟩,fun z x H3 hy=>?_⟩
  obtain⟨eH,hx⟩:=hy
  rw[eH]
  clear eH H3
  have e2:=hx _ (SqT.of hb)
  rw[e1]at e2
  cases e2
  refine⟨cb,_,rfl,SqT.of hcb,rfl,_,_,rfl,_,_,rfl,rfl,tallT ⟨_,rfl,m-1,by lia,by lia,rfl,?_⟩⟩
  rw[List.take_add_one,List.getElem?_eq_getElem hi,List.map_append]
  exact iz.append (.one iv)
 ·refine .inl ⟨⟨_,SqT.of hb,by lia⟩,fun l hl=>fin l zs _ (same_new hl _) upd_same ?_⟩
  rw[List.take_of_length_le (show qs.length<=i by lia)]at iz
  exact IsDts.mono (same_new hl _).tups iz
end
end K09
end
section
namespace L2
open PySem PySem.Spec PyProof.Rows
section
variable {X:Cx}
def rNeLL:R2:=fun x y H Q=>∃ a b xs ys ds es,x=.ref a/\y=.ref b/\H a=some (.lst xs)/\H b=some (.lst ys)/\IsDts H ds xs/\IsDts H es ys/\depL ds<=depMax/\Q (.bl (!decide (ds=es))) H
theorem all_get {ds es:List Dt} (hl:ds.length=es.length):((List.range ds.length).all fun j=>decide (ds[j]?=es[j]?))=decide (ds=es):=by
 rw[Bool.eq_iff_iff,List.all_eq_true,decide_eq_true_iff]
 constructor
 ·intro h
  refine List.ext_getElem? fun j=>?_
  by_cases z:j<ds.length
  ·exact of_decide_eq_true (h j (List.mem_range.mpr z))
  ·rw[List.getElem?_eq_none (by lia),List.getElem?_eq_none (by lia)]
 ·rintro rfl j _
  exact decide_eq_true rfl
theorem op_neLL (hu:X.A.units+110<cLine):OpR X (compareOp .NotEq) rNeLL:=by
 intro pins s σ H x y v u Q I rx ry h
 obtain⟨a,b,xs,ys,ds,es,rfl,rfl,ha,hb,h2,g2,hd,q⟩:=h
 cases rx
 cases ry
 obtain⟨its,r,p,_⟩:=I.list (SqL.of ha)
 obtain⟨its2,r2,p2,_⟩:=I.list (SqL.of hb)
 have l1:its.toArray.size=ds.length:=by rw[List.size_toArray,<- r.length,h2.length]
 have l2:its2.toArray.size=es.length:=by rw[List.size_toArray,<- r2.length,g2.length]
 by_cases hl:ds.length=es.length
 ·refine SeqAt.RcNeAt.lists (s:=s) (A:=X.A) (e:=fun j=>decide (ds[j]?=es[j]?)) p.isList p2.isList (by rw[l1,l2];exact hl) (by lia) (items_eq (n:=depMax) (A:=X.A.in1) I.hok hd (by show X.A.units+1+depMax<cLine;unfold depMax;lia) h2 g2 r r2) _ _ _ _ ?_
  rw[l1,all_get hl]
  exact⟨.bl _,H,I,rfl,q⟩
 ·refine SeqAt.RcNeAt.lists_lengths (A:=X.A) p.isList p2.isList (by rw[l1,l2];simpa using hl) (by lia) _ _ _ _ ⟨.bl true,H,I,rfl,?_⟩
  rw[decide_eq_false (fun z=>hl (by rw[z]))]at q
  exact q
theorem op_neY (hu:X.A.units+110<cLine):OpR X (compareOp .NotEq) (fun x y H Q=>(rNe x y H Q\/((∃ ds es,IsDt H (.tup ds) x/\IsDt H (.tup es) y/\depL ds<=depMax/\Q (.bl (!decide (ds=es))) H)\/rNeL x y H Q))\/rNeLL x y H Q):=(op_neU hu).or (op_neLL hu)
end
end L2
end
section
namespace K09
open PySem L2 Kn
inductive Kd where
 | num | word
 | row (fs:List (Str×Kd))
 | bag (k:Kd)
mutual
def kdD:Kd->Dt
 | .num=>.tup [.str "num"]
 | .word=>.tup [.str "word"]
 | .row fs=>.tup [.str "row",.tup (kdR fs)]
 | .bag k=>.tup [.str "bag",kdD k]
def kdR:List (Str×Kd)->List Dt
 | []=>[]
 | p::ps=>.tup [.str p.1,kdD p.2]::kdR ps
end
theorem kdR_map:∀ fs:List (Str×Kd),kdR fs=fs.map fun p=>.tup [.str p.1,kdD p.2]
 | []=>by rw[kdR];rfl
 | p::ps=>by rw[kdR,kdR_map ps];rfl
mutual
def conf:Val->Kd->Bool
 | .num _,.num=>true
 | .word _,.word=>true
 | .row ps,.row fs=>decide (ps.map (·.1)=fs.map (·.1)) && confR ps fs
 | .bag qs,.bag k=>confB qs k
 | _,_=>false
def confR:List (Str×Val)->List (Str×Kd)->Bool
 | p::ps,q::qs=>conf p.2 q.2 && confR ps qs
 | _,_=>true
def confB:List (Val×Int)->Kd->Bool
 | p::ps,k=>conf p.1 k && confB ps k
 | [],_=>true
end
mutual
def vz:Val->Nat
 | .num _=>1
 | .word _=>1
 | .row ps=>1+vzR ps
 | .bag qs=>1+vzB qs
def vzR:List (Str×Val)->Nat
 | []=>0
 | p::ps=>vz p.2+vzR ps
def vzB:List (Val×Int)->Nat
 | []=>0
 | p::ps=>vz p.1+vzB ps
end
mutual
def kw:Kd->Nat
 | .num=>1
 | .word=>1
 | .row fs=>1+kwR fs
 | .bag k=>1+kw k
def kwR:List (Str×Kd)->Nat
 | []=>0
 | p::ps=>max (kw p.2) (kwR ps+1)
end
theorem kwR_len:∀ fs:List (Str×Kd),fs.length<=kwR fs
 | []=>Nat.zero_le _
 | p::ps=>by rw[kwR,List.length_cons];exact Nat.le_trans (Nat.succ_le_succ (kwR_len ps)) (Nat.le_max_right _ _)
theorem kwR_mem:∀ {fs:List (Str×Kd)}{p:Str×Kd},p∈fs->kw p.2<=kwR fs
 | q::fs,p,h=>by
  rw[kwR]
  rcases List.mem_cons.mp h with rfl | h
  ·exact Nat.le_max_left _ _
  ·exact Nat.le_trans (kwR_mem h) (Nat.le_trans (Nat.le_succ _) (Nat.le_max_right _ _))
abbrev Stk:=List (Val×Kd)
def okS (st:Stk):Bool:=st.all fun p=>conf p.1 p.2
def szS (st:Stk):Nat:=(st.map fun p=>vz p.1).sum
theorem vz_pos:∀ v:Val,1<=vz v
 | .num _=>by rw[vz];exact Nat.le_refl _
 | .word _=>by rw[vz];exact Nat.le_refl _
 | .row ps=>by rw[vz];lia
 | .bag ps=>by rw[vz];lia
theorem okS_app (a b:Stk):okS (a++b)=(okS a && okS b):=List.all_append
theorem szS_app (a b:Stk):szS (a++b)=szS a+szS b:=by unfold szS;rw[List.map_append,List.sum_append]
theorem szS_one (v:Val) (k:Kd):szS [(v,k)]=vz v:=by simp [szS]
theorem len_sz:∀ st:Stk,st.length<=szS st
 | []=>Nat.zero_le _
 | p::st=>by
  have:=len_sz st
  have:=vz_pos p.1
  show st.length+1<=szS ([p]++st)
  rw[szS_app,szS_one]
  lia
def subR (ps:List (Str×Val)) (fs:List (Str×Kd)):Stk:=(ps.zip fs).map fun q=>(q.1.2,q.2.2)
def subB (qs:List (Val×Int)) (k:Kd):Stk:=qs.map fun q=>(q.1,k)
theorem subR_ok:∀ (ps:List (Str×Val)) (fs:List (Str×Kd)),okS (subR ps fs)=confR ps fs
 | [],fs=>by rw[confR];rfl;intros;simp_all
 | p::ps,[]=>by rw[confR];rfl;intros;simp_all
 | p::ps,q::fs=>by
  rw[confR,<- subR_ok ps fs];rfl
theorem subB_ok:∀ (qs:List (Val×Int)) (k:Kd),okS (subB qs k)=confB qs k
 | [],k=>by rw[confB];rfl
 | p::ps,k=>by rw[confB,<- subB_ok ps k];rfl
theorem subR_sz:∀ (ps:List (Str×Val)) (fs:List (Str×Kd)),szS (subR ps fs)<=vzR ps
 | [],fs=>Nat.zero_le _
 | p::ps,[]=>Nat.zero_le _
 | p::ps,q::fs=>by
  have:=subR_sz ps fs
  show szS ([(p.2,q.2)]++subR ps fs)<=_
  rw[szS_app,szS_one,vzR]
  lia
theorem subB_sz:∀ (qs:List (Val×Int)) (k:Kd),szS (subB qs k)=vzB qs
 | [],k=>by rw[vzB];rfl
 | p::ps,k=>by
  show szS ([(p.1,k)]++subB ps k)=_
  rw[szS_app,szS_one,vzB,subB_sz ps k]
def Prs (H:Hp) (g:Nat->Dt) (ns:List Str) (xs:List V):Prop:=xs.length=ns.length/\∀ i (hi:i<ns.length),∃ c y,xs[i]?=some (.ref c)/\H c=some (.tup [.str (ns[i]),y])/\IsDt H (g i) y
theorem prs_of {H:Hp} {α:Type} {F:α->Dt}{ps:List (Str×α)}{xs:List V} (h:IsDts H (ps.map fun p=>.tup [.str p.1,F p.2]) xs) (g:Nat->Dt) (hg:∀ i (hi:i<ps.length),g i=F (ps[i]).2):Prs H g (ps.map (·.1)) xs:=by
 refine⟨by rw[h.length,List.length_map,List.length_map],fun i hi=>?_⟩
 rw[List.length_map]at hi
 obtain⟨y,e1,e2⟩:=h.get (i:=i) (d:=.tup [.str (ps[i]).1,F (ps[i]).2]) (by rw[List.getElem?_map,List.getElem?_eq_getElem hi];rfl)
 rw[IsDt]at e2
 obtain⟨c,zs,rfl,h1,h2⟩:=e2
 rw[IsDts]at h2
 obtain⟨y1,r1,rfl,h3,h4⟩:=h2
 rw[IsDts]at h4
 obtain⟨y2,r2,rfl,h5,h6⟩:=h4
 rw[IsDts]at h6
 rw[IsDt]at h3
 subst h3 h6
 exact⟨c,y2,e1,by rw[List.getElem_map];exact h1,by rw[hg i hi];exact h5⟩
section
variable {P:Program}{w:World}{K:PySem.W.Frag}{mg:Str->Option Value}{base:Heap}{f:Addr}{fd:FuncData}
theorem Zbm:FnScope ["row"] ["row"] (defScope (top 1)):=⟨rfl,rfl,rfl,by decide +kernel,rfl,by decide +kernel,by decide +kernel⟩
def spFields:Sp:=fun vs H Q _=>∃ (a b:Addr) (xs:List V) (g:Nat->Dt) (ns:List Str),vs=[.ref a]/\H a=some (.tup [.str "row",.ref b])/\H b=some (.tup xs)/\Prs H g ns xs/\ns.length<=1000000 /\
 ∀ (l:Addr) (ys:List V) (H':Hp),Same H H'->H' l=some (.lst ys)->IsDts H' (ns.map .str) ys->Q (.ref l) H'
theorem ok_fields (T:Tx mg) (D:Df K mg "fields_of" (top 1) f fd ["row"]):FnOk P w K mg base CX0 1 f fd ["row"] spFields:=by
 refine D.fn.okH (k:=0) Zbm (fun vs H Q E h=>?_) (fun cdv A outer s H vs Q E hr h=>?_)
 ·obtain⟨a,b,xs,g,ns,rfl,_⟩:=h;rfl
 obtain⟨a,b,xs,g,ns,rfl,ha,hb,pr,ln,fin⟩:=h
 have hu:=u110 hr
 have hu0:=u0 hr
 have hu1:=hu_of hr
 refine⟨_,(wss_one (ws_ret (we_lc (Nt:=["field","part"]) (fr:=[]) (LcOk.of (sc:=defScope (top 1)) (N:=["row"]) rfl rfl (by decide +kernel)) rfl (wi_U (we_ix (ix_U hu1) (wv 0) we_int (fun _ _=>rfl))) (fun z=>wg_tup rfl (wgs_cons (wg_name (i:=0) (by show (["field","part"]:List Str).Nodup;decide +kernel) rfl (Or.inl rfl) (.inr rfl)) (wgs_cons (wg_name (i:=1) (by show (["field","part"]:List Str).Nodup;decide +kernel) rfl (Or.inl rfl) (.inr rfl)) wgs_nil))) (fun z=>tgt_two (by decide) (by decide)) (fun z=>wif_nil) (fun z=>(wv 0))))),?_⟩
 refine .inr ⟨_,rfl,ixt (SqT.of ha) at1 ⟨b,rfl,⟨xs,SqT.of hb⟩,?_⟩⟩
 refine⟨fun i m zs H2=>m+i=ns.length/\H2=H/\IsDts H ((ns.take i).map .str) zs,⟨ns.length,rfl,rfl,.nil⟩,?_⟩
 rintro i m zs H2 ⟨hm,rfl,iz⟩
 refine⟨line1 (by rw[iz.length,List.length_map,List.length_take];lia),?_⟩
 by_cases hi:i<ns.length
 ·obtain⟨cb,v,e1,hcb,iv⟩:=pr.2 i hi
  refine .inr ⟨⟨_,_,SqT.of hb,e1⟩,fun z x H3 hy=>?_⟩
  obtain⟨eH,hx⟩:=hy
  rw[eH]
  clear eH H3
  have e2:=hx _ (SqT.of hb)
  rw[e1]at e2
  cases e2
  refine⟨cb,_,rfl,SqT.of hcb,rfl,_,_,rfl,_,_,rfl,rfl,tallT ⟨_,rfl,m-1,by lia,by lia,rfl,?_⟩⟩
  rw[List.take_add_one,List.getElem?_eq_getElem hi,List.map_append]
  exact iz.append (.one (isDt_str _))
 ·refine .inl ⟨⟨_,SqT.of hb,by rw[pr.1];lia⟩,fun l hl=>fin l zs _ (same_new hl _) upd_same ?_⟩
  rw[List.take_of_length_le (show ns.length<=i by lia)]at iz
  exact IsDts.mono (same_new hl _).tups iz
end
end K09
end
section
namespace K09
open PySem L2 Kn
theorem last_cat (l:List V) (y:V):(l++[y])[(l++[y]).length-1]?=some y:=by simp
theorem iteP {c A B:Prop} [Decidable c] (h:c) (x:A):if c then A else B:=by rw[if_pos h];exact x
theorem iteN {c A B:Prop} [Decidable c] (h:¬c) (x:B):if c then A else B:=by rw[if_neg h];exact x
theorem wh_hideD {Nx:St->Hp->Prop}{tb:TS}{D:Ends} {σ:St} {H:Hp} (b:∀ E:Ends,(∀ σ H,Nx σ H->E.nx σ H)->(∀ v H,D.rt v H->E.rt v H)->tb E σ H):∃ N:St->Hp->Prop,(∀ σ' H',N σ' H'->Nx σ' H')/\tb { D with nx:=N,ct:=N,bk:=D.nx } σ H:=⟨Nx,fun _ _ h=>h,b _ (fun _ _ h=>h) (fun _ _ h=>h)⟩
theorem veq {a:V}:decide (a=a)=true:=decide_eq_true rfl
theorem vne {a b:Str} (h:a≠b):¬(decide (V.str a=V.str b)=true):=fun z=>h (by have:=of_decide_eq_true z;injection this)
def stD (st:Stk):List Dt:=st.map fun p=>Dt.tup [dat p.1,kdD p.2]
def ExL (l:Addr) (H H':Hp):Prop:=∀ b o,b≠l->H b=some o->H' b=some o
theorem ExL.tups {l:Addr}{H H':Hp}{xs:List V} (hl:H l=some (.lst xs)) (e:ExL l H H'):Tups H H':=fun a zs h=>e a _ (fun z=>by rw[z,hl]at h;cases h) h
def tagV:Val->Str
 | .num _=>Str.ofString "num"
 | .word _=>Str.ofString "word"
 | .row _=>Str.ofString "row"
 | .bag _=>Str.ofString "bag"
def tagK:Kd->Str
 | .num=>Str.ofString "num"
 | .word=>Str.ofString "word"
 | .row _=>Str.ofString "row"
 | .bag _=>Str.ofString "bag"
theorem tag_val {H:Hp}{v:Val}{u:V} (h:IsDt H (dat v) u):∃ a y,u=.ref a/\H a=some (.tup [.str (tagV v),y]):=by
 cases v <;> (rw[dat,IsDt]at h;obtain⟨a,xs,rfl,h1,h2⟩:=h;rw[IsDts]at h2;obtain⟨y1,r1,rfl,h3,h4⟩:=h2;rw[IsDts]at h4;obtain⟨y2,r2,rfl,h5,h6⟩:=h4;rw[IsDts]at h6;rw[IsDt]at h3;subst h3 h6;exact⟨a,y2,rfl,h1⟩)
theorem tag_kd {H:Hp}{k:Kd}{u:V} (h:IsDt H (kdD k) u):∃ a r,u=.ref a/\H a=some (.tup (.str (tagK k)::r)):=by
 cases k <;> (rw[kdD,IsDt]at h;obtain⟨a,xs,rfl,h1,h2⟩:=h;rw[IsDts]at h2;obtain⟨y1,r1,rfl,h3,h4⟩:=h2;rw[IsDt]at h3;subst h3;exact⟨a,r1,rfl,h1⟩)
theorem conf_tag {v:Val}{k:Kd} (h:tagV v≠tagK k):conf v k=false:=by
 cases v <;> cases k <;> first | exact absurd rfl h | (rw[conf];all_goals (intros;simp_all))
theorem row_at {H:Hp}{ps:List (Str×Val)}{u:V} (h:IsDt H (dat (.row ps)) u):∃ a b xs,u=.ref a/\H a=some (.tup [.str "row",.ref b])/\H b=some (.tup xs)/\IsDts H (ps.map fun p=>.tup [.str p.1,dat p.2]) xs:=by
 rw[dat,IsDt,datR_map]at h
 obtain⟨a,xs,rfl,h1,h2⟩:=h
 rw[IsDts]at h2;obtain⟨y1,r1,rfl,h3,h4⟩:=h2;rw[IsDts]at h4;obtain⟨y2,r2,rfl,h5,h6⟩:=h4;rw[IsDts]at h6;rw[IsDt]at h3;subst h3 h6
 rw[IsDt]at h5
 obtain⟨b,ys,rfl,h7,h8⟩:=h5
 exact⟨a,b,ys,rfl,h1,h7,h8⟩
theorem krow_at {H:Hp}{fs:List (Str×Kd)}{u:V} (h:IsDt H (kdD (.row fs)) u):∃ a b xs,u=.ref a/\H a=some (.tup [.str "row",.ref b])/\H b=some (.tup xs)/\IsDts H (fs.map fun p=>.tup [.str p.1,kdD p.2]) xs:=by
 rw[kdD,IsDt,kdR_map]at h
 obtain⟨a,xs,rfl,h1,h2⟩:=h
 rw[IsDts]at h2;obtain⟨y1,r1,rfl,h3,h4⟩:=h2;rw[IsDts]at h4;obtain⟨y2,r2,rfl,h5,h6⟩:=h4;rw[IsDts]at h6;rw[IsDt]at h3;subst h3 h6
 rw[IsDt]at h5
 obtain⟨b,ys,rfl,h7,h8⟩:=h5
 exact⟨a,b,ys,rfl,h1,h7,h8⟩
theorem kbag_at {H:Hp}{k:Kd}{u:V} (h:IsDt H (kdD (.bag k)) u):∃ a y,u=.ref a/\H a=some (.tup [.str "bag",y])/\IsDt H (kdD k) y:=by
 rw[kdD,IsDt]at h
 obtain⟨a,xs,rfl,h1,h2⟩:=h
 rw[IsDts]at h2;obtain⟨y1,r1,rfl,h3,h4⟩:=h2;rw[IsDts]at h4;obtain⟨y2,r2,rfl,h5,h6⟩:=h4;rw[IsDts]at h6;rw[IsDt]at h3;subst h3 h6
 exact⟨a,y2,rfl,h1,h5⟩
theorem split2 {H:Hp}{es:List Dt}:∀ {ds:List Dt}{xs:List V},IsDts H (ds++es) xs->∃ ys zs,xs=ys++zs/\IsDts H ds ys/\IsDts H es zs
 | [],xs,h=>⟨[],xs,rfl,.nil,h⟩
 | d::ds,xs,h=>by
  rw[List.cons_append,IsDts]at h
  obtain⟨y,r,rfl,h1,h2⟩:=h
  obtain⟨ys,zs,rfl,h3,h4⟩:=split2 h2
  exact⟨y::ys,zs,rfl,.cons h1 h3,h4⟩
theorem st_last {H:Hp}{st:Stk}{v:Val}{k:Kd}{xs:List V} (h:IsDts H (stD (st++[(v,k)])) xs):∃ ys a pv pk,xs=ys++[.ref a]/\IsDts H (stD st) ys/\H a=some (.tup [pv,pk])/\IsDt H (dat v) pv/\IsDt H (kdD k) pk:=by
 unfold stD at h
 rw[List.map_append]at h
 obtain⟨ys,zs,rfl,h1,h2⟩:=split2 h
 rw[show List.map (fun p:Val×Kd=>Dt.tup [dat p.1,kdD p.2]) [(v,k)]=[Dt.tup [dat v,kdD k]] from rfl,IsDts]at h2
 obtain⟨y,r,rfl,h3,h4⟩:=h2
 rw[IsDts]at h4
 subst h4
 rw[IsDt]at h3
 obtain⟨a,xs,rfl,h5,h6⟩:=h3
 rw[IsDts]at h6;obtain⟨y1,r1,rfl,h7,h8⟩:=h6;rw[IsDts]at h8;obtain⟨y2,r2,rfl,h9,h10⟩:=h8;rw[IsDts]at h10;subst h10
 exact⟨ys,a,y1,y2,rfl,h1,h5,h7,h9⟩
end K09
end
section
namespace K09
open PySem L2 Kn
theorem vzR_len:∀ ps:List (Str×Val),ps.length<=vzR ps
 | []=>Nat.zero_le _
 | p::ps=>by have:=vzR_len ps;have:=vz_pos p.2;rw[vzR,List.length_cons];lia
theorem depL_str:∀ ns:List Str,depL (ns.map Dt.str)=0
 | []=>by rw[List.map_nil,depL]
 | n::ns=>by rw[List.map_cons,depL,depL_str ns,Dt.dep];rfl
theorem str_inj:∀ {a b:List Str},a.map Dt.str=b.map Dt.str->a=b
 | [],[],_=>rfl
 | [],_::_,h=>by cases h
 | _::_,[],h=>by cases h
 | x::a,y::b,h=>by
  rw[List.map_cons,List.map_cons]at h
  injection h with h1 h2
  injection h1 with h1
  rw[h1,str_inj h2]
theorem Prs.mono {H H':Hp} (t:Tups H H') {g:Nat->Dt}{ns:List Str}{xs:List V} (h:Prs H g ns xs):Prs H' g ns xs:=⟨h.1,fun i hi=>by obtain⟨c,y,e1,e2,e3⟩:=h.2 i hi;exact⟨c,y,e1,t _ _ e2,IsDt.mono t e3⟩⟩
theorem gallW {i:Nat}{x:V} {σ:St} {H:Hp}{A B:St->Hp->Prop} (h:A (σ.set i (some x)) H):gName i x σ H fun σ2 H2=>tAll σ2 H2 fun b H3=>if b=true then A σ2 H3 else B σ2 H3:=by
 show (if true=true then A (σ.set i (some x)) H else B (σ.set i (some x)) H)
 rw[if_pos rfl];exact h
def CL (f:Addr) (sp:Sp):Prop:=∃ (pm:Value) (c:Addr) (ctv:Value),sp=spRows pm c ctv f
section
variable {P:Program}{w:World}{K:PySem.W.Frag}{mg:Str->Option Value}{base:Heap}{f f_fields:Addr}{fd fd_fields:FuncData}
theorem heldL (T:Tx mg):∀ f sp,CL f sp->∃ (c:Addr) (qual:Str) (params:Arguments) (body:Expr) (scope:Scope) (pm ctv:Value) (ps:List Str),
  FnOk P w K mg base CX0 1 f (PySem.W.kla_fn "<lambda>" qual params body scope [] pm (.ref c) ctv) ps sp/\Binds K (PySem.W.kla_fn "<lambda>" qual params body scope [] pm (.ref c) ctv) ps []/\∀ vs H Q E,sp vs H Q E->H f=some (.ext (LamO qual params body scope pm c ctv f)):=by
 rintro f sp ⟨pm,c,ctv,rfl⟩
 exact⟨c,lamN,lamP,lamB,lamS,pm,ctv,["bag"],ok_rows T,.all fun us hl=>(by obtain⟨a,rfl⟩:=List.length_eq_one_iff.mp hl;rfl),fun vs H Q E h=>h.1.1⟩
theorem ZaX:FnScope ["whole","kind","rows_of","waiting","part","wanted"] ["whole","kind","rows_of"] (defScope (top 3)):=⟨rfl,rfl,rfl,by decide +kernel,rfl,by decide +kernel,by decide +kernel⟩
def spFits:Sp:=fun vs H Q _=>∃ (pm:Value) (c:Addr) (ctv:Value) (fl:Addr) (u uk:V) (v:Val) (k:Kd),vs=[u,uk,.ref fl]/\LamAt pm c ctv fl H/\IsDt H (dat v) u/\IsDt H (kdD k) uk/\vz v<=1000000/\kw k<=1000000/\∀ H',Same H H'->Q (.bl (conf v k)) H'
theorem ok_fits (T:Tx mg) (D:Df K mg "fits" (top 3) f fd ["whole","kind","rows_of"]) (Zav:Df K mg "fields_of" (top 1) f_fields fd_fields ["row"]) (Zbb:FnOk P w K mg base CX0 1 f_fields fd_fields ["row"] spFields) :
  FnOk P w K mg base CX0 2 f fd ["whole","kind","rows_of"] spFits:=by
 have hC:=heldL (P:=P) (w:=w) (K:=K) (base:=base) T
 refine D.fn.okH (k:=1) ZaX (fun vs H Q E h=>?_) (fun cdv A outer s H vs Q E hr h=>?_)
 ·obtain⟨pm,c,ctv,fl,u,uk,v,k,rfl,_⟩:=h;rfl
 obtain⟨pm,c,ctv,fl,u,uk,v,k,rfl,la,iu,ik,lz,lkk,fin⟩:=h
 have hu:=u110 hr
 have hu0:=u0 hr
 have hu1:=hu_of hr
 refine⟨_,(wss_cons (ws_set (i:=3) ZaX.nd rfl (Or.inl rfl) (we_lst (wa_cons (we_tup (wa_cons (wv 0) (wa_cons (wv 1) wa_nil))) wa_nil)))
   (wss_cons (ws_while PassesOwn.never (wt_truth (wv 3) (fun _=>rfl)) (wss_cons (ws_asg (we_bm0 PySem.F.plainAttrs_list PySem.F.slot_list_pop PySem.F.type_list_pop mt_pop (wv 3)) (wg_tup rfl (wgs_cons (wg_name (i:=4) ZaX.nd rfl (Or.inl rfl)) (wgs_cons (wg_name (i:=5) ZaX.nd rfl (Or.inr rfl)) wgs_nil))))
   (wss_cons (ws_if (wt_cmpR (op_neY hu) (we_ix (ix_U hu1) (wv 4) we_int (fun _ _=>rfl)) (we_ix (ix_U hu1) (wv 5) we_int (fun _ _=>rfl)) (nomark _)) (wss_one (ws_ret we_bl)) wss_nil)
   (wss_cons (ws_if (wt_cmpR (op_eqU hu) (we_ix (ix_U hu1) (wv 4) we_int (fun _ _=>rfl)) we_str (nomark _)) (wss_cons (ws_if (wt_cmpR (op_neY hu) (we_call Zbb (hr.mono (by lia)) rfl Zav.mg Zav.kp Zav.b .nil pass0 (wa_cons (wv 4) wa_nil)) (we_call Zbb (hr.mono (by lia)) rfl Zav.mg Zav.kp Zav.b .nil pass0 (wa_cons (wv 5) wa_nil)) (nomark _)) (wss_one (ws_ret we_bl)) wss_nil)
   (wss_one (ws_expr (we_bm PySem.F.plainAttrs_list PySem.F.slot_list_extend PySem.F.type_list_extend mt_extend (wv 3) (wa_cons (we_lc (Nt:=["ours","theirs"]) (fr:=[]) (LcOk.of (sc:=defScope (top 3)) (N:=["whole","kind","rows_of","waiting","part","wanted"]) rfl rfl (by decide +kernel)) rfl (wi_zip rfl T.z_zip (wa_cons (we_ix (ix_U hu1) (wv 4) we_int (fun _ _=>rfl)) (wa_cons (we_ix (ix_U hu1) (wv 5) we_int (fun _ _=>rfl)) wa_nil))) (fun z=>wg_tup rfl (wgs_cons (wg_name (i:=0) (by show (["ours","theirs"]:List Str).Nodup;decide +kernel) rfl (Or.inl rfl) (.inr rfl)) (wgs_cons (wg_name (i:=1) (by show (["ours","theirs"]:List Str).Nodup;decide +kernel) rfl (Or.inl rfl) (.inr rfl)) wgs_nil))) (fun z=>tgt_two (by decide) (by decide)) (fun z=>wif_nil) (fun z=>(we_tup (wa_cons (we_ix (ix_U hu1) (wv 0) we_int (fun _ _=>rfl)) (wa_cons (we_ix (ix_U hu1) (wv 1) we_int (fun _ _=>rfl)) wa_nil))))) wa_nil))))) wss_nil)
   (wss_one (ws_if (wt_cmpR (op_eqU hu) (we_ix (ix_U hu1) (wv 4) we_int (fun _ _=>rfl)) we_str (nomark _)) (wss_one (ws_expr (we_bm PySem.F.plainAttrs_list PySem.F.slot_list_extend PySem.F.type_list_extend mt_extend (wv 3) (wa_cons (we_lc (Nt:=["row"]) (fr:=[("wanted",5)]) (LcOk.of (sc:=defScope (top 3)) (N:=["whole","kind","rows_of","waiting","part","wanted"]) rfl rfl (by decide +kernel)) rfl (wi_U (we_callL hC (hr.mono (by lia)) pass0 (wv 2) (wa_cons (wv 4) wa_nil))) (fun z=>wg_name (i:=0) (by show (["row","wanted"]:List Str).Nodup;decide +kernel) rfl (Or.inl rfl) (.inr rfl)) (fun z=>tgt_name (by decide)) (fun z=>wif_nil) (fun z=>(we_tup (wa_cons (wv 0) (wa_cons (we_ix (ix_U hu1) (wv 1) we_int (fun _ _=>rfl)) wa_nil))))) wa_nil)))) wss_nil))))))
   (wss_one (ws_ret we_bl)))),?_⟩
 refine seqH fun N1 to1=>⟨_,rfl,_,rfl,(by show 2<=sizeLine;decide),fun t ht=>⟨(by show 1<=sizeLine;decide),fun l hl=>to1 _ _ ?_⟩⟩
 have s1:=(same_new ht (.tup [u,uk])).trans (same_new hl (.lst [.ref t]))
 have hn:H l=none:=by
  cases e:H l with
  | none=>rfl
  | some o=>have:=same_new ht (.tup [u,uk]) _ _ e;rw[hl]at this;cases this
 have st1:IsDts (upd (upd H t (.tup [u,uk])) l (.lst [.ref t])) (stD [(v,k)]) [.ref t]:=.one (isDt_tup (same_new hl _ _ _ upd_same) (.cons (IsDt.mono s1.tups iu) (.one (IsDt.mono s1.tups ik))))
 have hl1:(upd (upd H t (.tup [u,uk])) l (.lst [.ref t])) l=some (.lst [.ref t]):=upd_same
 obtain⟨H1,e1⟩:∃ H1,H1=upd (upd H t (.tup [u,uk])) l (.lst [.ref t]):=⟨_,rfl⟩
 rw[<- e1]at s1 st1 hl1 ⊢
 clear e1 hl ht
 have la1:LamAt pm c ctv fl H1:=⟨s1 _ _ la.1,s1 _ _ la.2⟩
 have nf:fl≠l:=fun z=>by have:=la.1;rw[z,hn]at this;cases this
 have nc:c≠l:=fun z=>by have:=la.2;rw[z,hn]at this;cases this
 refine seqH fun N2 to2=>?_
 refine⟨fun m σ H'=>∃ (xs:List V) (st:Stk) (o4 o5:Option V),σ=[some u,some uk,some (.ref fl),some (.ref l),o4,o5]/\ExL l H1 H'/\H' l=some (.lst xs)/\IsDts H' (stD st) xs/\okS st=conf v k/\szS st=m/\m<=1000000/\∀ p∈st,kw p.2<=1000000,
  ⟨vz v,[.ref t],[(v,k)],none,none,rfl,fun _ _ _ e=>e,hl1,st1,by simp [okS],szS_one v k,lz,fun p hp=>by rw[List.mem_singleton.mp hp];exact lkk⟩,?_⟩
 rintro m σ H2 ⟨xs,st,o4,o5,rfl,ex2,hl2,ix,ok,rfl,lm,kb⟩
 have back:∀ H',ExL l H1 H'->Same H H':=fun H' e b o q=>e b o (ne_of_none q hn) (s1 _ _ q)
 refine⟨_,rfl,_,.inl ⟨xs,SqL.of hl2,rfl⟩,?_⟩
 rcases List.eq_nil_or_concat st with rfl | ⟨st',⟨v',k'⟩,rfl⟩
 ·have ex:xs=[]:=by
   have:=ix.length
   rw[show (stD []).length=0 from rfl]at this
   exact List.length_eq_zero_iff.mp this
  subst ex
  refine iteN (by simp) (to2 _ _ ?_)
  have e:conf v k=true:=ok.symm
  rw[e]at fin
  exact fin _ (back _ ex2)
 rw[List.concat_eq_append]at ix ok lm kb ⊢
 obtain⟨ys,a,pv,pk,rfl,iy,ha,iv,ikk⟩:=st_last ix
 refine iteP (by simp) ?_
 refine wh_hideD fun E' toN rtE=>?_
 refine seqH fun M1 m1=>?_
 refine⟨_,rfl,.inl ⟨rfl,_,SqL.of hl2⟩,l,ys++[.ref a],.ref a,rfl,rfl,hl2,last_cat _ _,?_⟩
 rw[List.dropLast_concat]
 have ex3:ExL l H2 (upd H2 l (.lst ys)):=fun b o nb e=>by rw[upd_ne nb];exact e
 have hl3:(upd H2 l (.lst ys)) l=some (.lst ys):=upd_same
 obtain⟨H3,e3⟩:∃ H3,H3=upd H2 l (.lst ys):=⟨_,rfl⟩
 rw[<- e3]at ex3 hl3 ⊢
 clear e3
 have t3:=ExL.tups hl2 ex3
 refine⟨a,_,rfl,SqT.of (t3 _ _ ha),rfl,_,_,rfl,_,_,rfl,rfl,m1 _ _ ?_⟩
 replace iv:=IsDt.mono t3 iv
 replace ikk:=IsDt.mono t3 ikk
 replace iy:=IsDts.mono t3 iy
 have ex13:ExL l H1 H3:=fun b o nb e=>ex3 b o nb (ex2 b o nb e)
 have la3:LamAt pm c ctv fl H3:=⟨ex13 _ _ nf la1.1,ex13 _ _ nc la1.2⟩
 clear ex3 t3 hl2 ix ha ex2 hl1 st1
 have lys:ys.length=st'.length:=by rw[iy.length];unfold stD;rw[List.length_map]
 rw[szS_app,szS_one]at lm
 have lst:=len_sz st'
 have bad:conf v' k'=false->∀ H',ExL l H3 H'->E'.rt (.bl false) H':=fun cf H' e=>by
  have z:conf v k=false:=by rw[<- ok,okS_app];simp [okS,cf]
  rw[z]at fin
  exact rtE _ _ (fin _ (back _ fun b o nb q=>e b o nb (ex13 b o nb q)))
 have fine:∀ (H4:Hp) (zs:List V) (sb:Stk),ExL l H3 H4->H4 l=some (.lst (ys++zs))->IsDts H4 (stD sb) zs->okS sb=conf v' k'->szS sb+1<=vz v'->(∀ p∈sb,kw p.2<=1000000)->E'.nx [some u,some uk,some (.ref fl),some (.ref l),some pv,some pk] H4:=fun H4 zs sb e h4 i4 o4 z4 k4=>by
  refine toN _ _ ⟨szS (st'++sb),?_,ys++zs,st'++sb,_,_,rfl,fun b o nb q=>e b o nb (ex13 b o nb q),h4,?_,?_,rfl,?_,fun p hp=>(List.mem_append.mp hp).elim (fun h=>kb p (List.mem_append_left _ h)) (k4 p)⟩
  ·rw[szS_app,szS_app,szS_one];lia
  ·unfold stD;rw[List.map_append];exact (IsDts.mono (ExL.tups hl3 e) iy).append i4
  ·rw[<- ok,okS_app,okS_app,o4];simp [okS]
  ·rw[szS_app];lia
 obtain⟨pa,py,rfl,hpa⟩:=tag_val iv
 obtain⟨pb,pr,rfl,hpb⟩:=tag_kd ikk
 refine seqH fun M2 m2=>⟨_,rfl,ixt (SqT.of hpa) at0 ⟨_,rfl,ixt (SqT.of hpb) at0 (.inl (.inl ⟨rfl,_,rfl,ite2 (fun e=>?_) (fun e=>m2 _ _ ?_)⟩))⟩⟩
 ·exact bad (conf_tag fun z=>by rw[z]at e;simp at e) _ fun _ _ _ q=>q
 have et:tagV v'=tagK k':=Classical.byContradiction fun z=>e (by rw[decide_eq_false (fun y=>z (by injection y))];rfl)
 clear e
 cases v' with
 | num i=>
  cases k' with
  | num=>
   refine seqH fun M3 m3=>⟨_,rfl,ixt (SqT.of hpa) at0 (.inl ⟨rfl,_,rfl,iteN (vne (by simp only[tagV];decide +kernel)) (m3 _ _ ?_)⟩)⟩
   exact⟨_,rfl,ixt (SqT.of hpa) at0 (.inl ⟨rfl,_,rfl,iteN (vne (by simp only[tagV];decide +kernel)) (fine _ [] [] (fun _ _ _ q=>q) (by rw[List.append_nil];exact hl3) .nil (by rw[conf];rfl) (by rw[vz];exact Nat.le_refl _) (fun _ h=>(nomatch h)))⟩)⟩
  | _=>exact absurd et (by simp only[tagV,tagK];decide +kernel)
 | word i=>
  cases k' with
  | word=>
   refine seqH fun M3 m3=>⟨_,rfl,ixt (SqT.of hpa) at0 (.inl ⟨rfl,_,rfl,iteN (vne (by simp only[tagV];decide +kernel)) (m3 _ _ ?_)⟩)⟩
   exact⟨_,rfl,ixt (SqT.of hpa) at0 (.inl ⟨rfl,_,rfl,iteN (vne (by simp only[tagV];decide +kernel)) (fine _ [] [] (fun _ _ _ q=>q) (by rw[List.append_nil];exact hl3) .nil (by rw[conf];rfl) (by rw[vz];exact Nat.le_refl _) (fun _ h=>(nomatch h)))⟩)⟩
  | _=>exact absurd et (by simp only[tagV,tagK];decide +kernel)
 | row ps=>
  cases k' with
  | row fs=>
   obtain⟨a',b',bx,ea,hba,hbb,ibx⟩:=row_at iv
   cases ea
   obtain⟨a2,b2,fx,ea,hka,hkb,ifx⟩:=krow_at ikk
   cases ea
   rw[vz]at lm
   have lp:ps.length<=vzR ps:=vzR_len ps
   have kf:kwR fs<=1000000:=by have:=kb (.row ps,.row fs) (List.mem_append_right _ List.mem_cons_self);rw[kw]at this;lia
   have lfx:fx.length=fs.length:=by rw[ifx.length,List.length_map]
   have lbx:bx.length=ps.length:=by rw[ibx.length,List.length_map]
   have pr1:=prs_of (g:=fun i=>if h:i<ps.length then dat (ps[i]).2 else .int 0) ibx (fun i hi=>dif_pos hi)
   have pr2:=prs_of (g:=fun i=>if h:i<fs.length then kdD (fs[i]).2 else .int 0) ifx (fun i hi=>dif_pos hi)
   refine seqH fun M3 m3=>⟨_,rfl,ixt (SqT.of hpa) at0 (.inl ⟨rfl,_,rfl,iteP veq ?_⟩)⟩
   refine seqH fun M4 m4=>⟨_,rfl,pa,b',bx,_,_,rfl,hba,hbb,pr1,by rw[List.length_map];lia,fun l4 y4 H4 s4 hl4 i4=>⟨_,rfl,pb,b2,fx,_,_,rfl,s4 _ _ hka,s4 _ _ hkb,pr2.mono s4.tups,by rw[List.length_map];exact Nat.le_trans (kwR_len fs) kf,fun l5 y5 H5 s5 hl5 i5=>?_⟩⟩
   have s35:=s4.trans s5
   refine .inr ⟨l4,l5,y4,y5,_,_,rfl,rfl,s5 _ _ hl4,hl5,IsDts.mono s5.tups i4,i5,Nat.le_trans (Nat.le_of_eq (depL_str _)) (Nat.zero_le _),_,rfl,ite2 (fun e=>?_) (fun e=>m4 _ _ ?_)⟩
   ·refine bad ?_ _ fun b o _ q=>s35 _ _ q
    have ne:¬(ps.map (·.1)=fs.map (·.1)):=fun z=>by rw[z]at e;simp at e
    rw[conf,decide_eq_false ne,Bool.false_and]
   have en:ps.map (·.1)=fs.map (·.1):=Classical.byContradiction fun z=>e (by rw[decide_eq_false (fun y=>z (str_inj y))];rfl)
   have ln:ps.length=fs.length:=by have:=congrArg List.length en;rw[List.length_map,List.length_map]at this;exact this
   have lsb:(subR ps fs).length=ps.length:=by unfold subR;rw[List.length_map,List.length_zip];lia
   refine⟨_,rfl,.inl ⟨rfl,_,SqL.of (s35 _ _ hl3)⟩,_,rfl,ixt (SqT.of (s35 _ _ hba)) at1 ⟨_,rfl,ixt (SqT.of (s35 _ _ hka)) at1 ⟨b',b2,bx,fx,rfl,SqT.of (s35 _ _ hbb),SqT.of (s35 _ _ hkb),?_⟩⟩⟩
   refine⟨fun i m zs H6=>m+i=ps.length/\Same H5 H6/\IsDts H6 (stD ((subR ps fs).take i)) zs,⟨ps.length,rfl,fun _ _ q=>q,.nil⟩,?_⟩
   rintro i m zs H6 ⟨hm,s6,iz⟩
   refine⟨line1 (by rw[iz.length];unfold stD;rw[List.length_map,List.length_take];lia),?_⟩
   have s36:=s35.trans s6
   by_cases hi:i<ps.length
   ·obtain⟨c1,y1,e1,hc1,iy1⟩:=pr1.2 i (by rw[List.length_map];exact hi)
    obtain⟨c2,y2,e2,hc2,iy2⟩:=pr2.2 i (by rw[List.length_map];lia)
    have iy1:IsDt H3 (dat (ps[i]).2) y1:=by dsimp only at iy1;rw[dif_pos hi]at iy1;exact iy1
    have iy2:IsDt H3 (kdD (fs[i]'(by lia)).2) y2:=by dsimp only at iy2;rw[dif_pos (show i<fs.length by lia)]at iy2;exact iy2
    refine .inr ⟨⟨_,_,_,_,SqT.of (s36 _ _ hbb),SqT.of (s36 _ _ hkb),e1,e2⟩,fun z x H7 hy=>?_⟩
    obtain⟨p7,rfl,hp7,x1,x2,hx1,hx2,eH⟩:=hy
    have q1:=hx1 _ (SqT.of (s36 _ _ hbb))
    have q2:=hx2 _ (SqT.of (s36 _ _ hkb))
    rw[e1]at q1
    rw[e2]at q2
    cases q1
    cases q2
    subst eH
    have s7:=same_new hp7 (.tup [.ref c1,.ref c2])
    have hp:(upd H6 p7 (.tup [.ref c1,.ref c2])) p7=some (.tup [.ref c1,.ref c2]):=upd_same
    obtain⟨H7,e7⟩:∃ H7,H7=upd H6 p7 (.tup [.ref c1,.ref c2]):=⟨_,rfl⟩
    rw[<- e7]at s7 hp ⊢
    clear e7
    have s37:=s36.trans s7
    refine⟨p7,_,rfl,SqT.of hp,rfl,_,_,rfl,_,_,rfl,rfl,tallT ⟨_,rfl,ixt (SqT.of (s37 _ _ hc1)) at1 ⟨_,rfl,ixt (SqT.of (s37 _ _ hc2)) at1 ⟨(by show 2<=sizeLine;decide),fun t2 ht2=>⟨m-1,by lia,by lia,s6.trans (s7.trans (same_new ht2 _)),?_⟩⟩⟩⟩⟩
    have s8:=same_new ht2 (.tup [y1,y2])
    have tk:(subR ps fs).take (i+1)=(subR ps fs).take i++[((ps[i]).2,(fs[i]'(by lia)).2)]:=by
     rw[List.take_add_one,List.getElem?_eq_getElem (by rw[lsb];exact hi)];unfold subR;rw[List.getElem_map,List.getElem_zip];rfl
    rw[tk]
    unfold stD
    rw[List.map_append]
    exact (IsDts.mono s8.tups (IsDts.mono s7.tups iz)).append (.one (isDt_tup upd_same (.cons (IsDt.mono s8.tups (IsDt.mono s37.tups iy1)) (.one (IsDt.mono s8.tups (IsDt.mono s37.tups iy2))))))
   ·refine .inl ⟨⟨_,_,SqT.of (s36 _ _ hbb),SqT.of (s36 _ _ hkb),.inl (by lia)⟩,fun l8 hl8=>?_⟩
    rw[List.take_of_length_le (show (subR ps fs).length<=i by lia)]at iz
    have s8:=s36.trans (same_new hl8 (.lst zs))
    have hl8':=s8 _ _ hl3
    have lzs:zs.length=ps.length:=by rw[iz.length];unfold stD;rw[List.length_map,lsb]
    refine⟨l,l8,ys,zs,rfl,rfl,hl8',upd_same,Nat.le_of_lt (line1 (by lia)),m3 _ _ ?_⟩
    have ex9:ExL l H3 (upd (upd H6 l8 (.lst zs)) l (.lst (ys++zs))):=fun b o nb q=>by rw[upd_ne nb];exact s8 _ _ q
    have t9:=ExL.tups hl3 ex9
    refine⟨_,rfl,ixt (SqT.of (t9 _ _ hpa)) at0 (.inl ⟨rfl,_,rfl,iteN (vne (by simp only[tagV];decide +kernel)) (fine _ zs (subR ps fs) ex9 upd_same ?_ ?_ ?_ ?_)⟩)⟩
    ·exact IsDts.mono (ExL.tups hl8' (fun b o nb q=>by rw[upd_ne nb];exact q)) (IsDts.mono (same_new hl8 _).tups iz)
    ·rw[conf,subR_ok,decide_eq_true en,Bool.true_and]
    ·have:=subR_sz ps fs;rw[vz];lia
    ·intro p hp
     obtain⟨q,hq,rfl⟩:=List.mem_map.mp hp
     exact Nat.le_trans (kwR_mem (List.of_mem_zip hq).2) kf
  | _=>exact absurd et (by simp only[tagV,tagK];decide +kernel)
 | bag qs=>
  cases k' with
  | bag kk=>
   obtain⟨a',b',bx,ea,hba,hbb,ibx⟩:=bag_at iv
   cases ea
   obtain⟨a2,ky,ea,hka,iky⟩:=kbag_at ikk
   cases ea
   rw[vz]at lm
   have lq:qs.length<=vzB qs:=by have:=len_sz (subB qs kk);rw[subB_sz]at this;unfold subB at this;rw[List.length_map]at this;exact this
   refine seqH fun M3 m3=>⟨_,rfl,ixt (SqT.of hpa) at0 (.inl ⟨rfl,_,rfl,iteN (vne (by simp only[tagV];decide +kernel)) (m3 _ _ ?_)⟩)⟩
   refine⟨_,rfl,ixt (SqT.of hpa) at0 (.inl ⟨rfl,_,rfl,iteP veq ?_⟩)⟩
   refine⟨_,rfl,.inl ⟨rfl,_,SqL.of hl3⟩,.inl ⟨_,rfl,fl,_,rfl,⟨pm,c,ctv,rfl⟩,_,rfl,la3,.ref pa,qs,rfl,iv,by lia,fun l1 xs1 H4 s4 hl4 i4=>⟨l1,rfl,⟨_,SqL.of hl4⟩,?_⟩⟩⟩
   have lx1:xs1.length=qs.length:=by rw[i4.length,List.length_map]
   refine⟨fun i m zs H5=>m+i=qs.length/\Same H4 H5/\IsDts H5 (stD ((subB qs kk).take i)) zs,⟨qs.length,rfl,fun _ _ q=>q,.nil⟩,?_⟩
   rintro i m zs H5 ⟨hm,s5,iz⟩
   have lsb:(subB qs kk).length=qs.length:=by unfold subB;rw[List.length_map]
   refine⟨line1 (by rw[iz.length];unfold stD;rw[List.length_map,List.length_take];lia),?_⟩
   by_cases hi:i<qs.length
   ·obtain⟨y,ey,iyy⟩:=i4.get (i:=i) (d:=dat (qs[i]).1) (by rw[List.getElem?_map,List.getElem?_eq_getElem hi];rfl)
    refine .inr ⟨⟨_,_,SqL.of (s5 _ _ hl4),ey⟩,fun z x H6 hy=>?_⟩
    obtain⟨eH,hx⟩:=hy
    rw[eH]
    clear eH H6
    have e2:=hx _ (SqL.of (s5 _ _ hl4))
    rw[ey]at e2
    cases e2
    refine gallW ⟨_,rfl,_,rfl,ixt (SqT.of (s5 _ _ (s4 _ _ hka))) at1 ⟨(by show 2<=sizeLine;decide),fun t2 ht2=>⟨m-1,by lia,by lia,s5.trans (same_new ht2 _),?_⟩⟩⟩
    have s6:=same_new ht2 (.tup [y,ky])
    have tk:(subB qs kk).take (i+1)=(subB qs kk).take i++[((qs[i]).1,kk)]:=by
     rw[List.take_add_one,List.getElem?_eq_getElem (by rw[lsb];exact hi)];unfold subB;rw[List.getElem_map];rfl
    rw[tk]
    unfold stD
    rw[List.map_append]
    exact (IsDts.mono s6.tups iz).append (.one (isDt_tup upd_same (.cons (IsDt.mono s6.tups (IsDt.mono s5.tups iyy)) (.one (IsDt.mono s6.tups (IsDt.mono s5.tups (IsDt.mono s4.tups iky)))))))
   ·refine .inl ⟨⟨_,SqL.of (s5 _ _ hl4),by lia⟩,fun l8 hl8=>?_⟩
    rw[List.take_of_length_le (show (subB qs kk).length<=i by lia)]at iz
    have s8:=(s4.trans s5).trans (same_new hl8 (.lst zs))
    have hl8':=s8 _ _ hl3
    have n8:l8≠l:=fun z=>by have:=(s4.trans s5) _ _ hl3;rw[<- z,hl8]at this;cases this
    have lzs:zs.length=qs.length:=by rw[iz.length];unfold stD;rw[List.length_map,lsb]
    refine⟨l,l8,ys,zs,rfl,rfl,hl8',upd_same,Nat.le_of_lt (line1 (by lia)),fine _ zs (subB qs kk) (fun b o nb q=>by rw[upd_ne nb];exact s8 _ _ q) upd_same ?_ (by rw[conf,subB_ok]) (by rw[subB_sz,vz];lia) ?_⟩
    case refine_2=>
     intro p hp
     obtain⟨q,_,rfl⟩:=List.mem_map.mp hp
     have:=kb (.bag qs,.bag kk) (List.mem_append_right _ List.mem_cons_self)
     rw[kw]at this
     exact Nat.le_trans (Nat.le_add_left _ _) this
    exact IsDts.mono (ExL.tups hl8' (fun b o nb q=>by rw[upd_ne nb];exact q)) (IsDts.mono (same_new hl8 _).tups iz)
  | _=>exact absurd et (by simp only[tagV,tagK];decide +kernel)
end
end K09
end
section
namespace K09
open PySem L2 Kn
section
variable {P:Program}{w:World}{K:PySem.W.Frag}{mg:Str->Option Value}{base:Heap}{f c T0 ZaV:Addr}{fd ZaW:FuncData}
theorem Zbn:FnScope ["value","kind"] ["value","kind"] (defScope (top 2)):=⟨rfl,rfl,rfl,by decide +kernel,rfl,by decide +kernel,by decide +kernel⟩
def spIsOf (T0:Addr):Sp:=fun vs H Q _=>∃ (u uk:V) (v:Val) (k:Kd),vs=[u,uk]/\LamT H T0 lamQ lamN/\IsDt H (dat v) u/\IsDt H (kdD k) uk/\vz v<=1000000/\kw k<=1000000 /\
 ∀ H',(∀ b o,b≠T0->H b=some o->H' b=some o)->LamT H' T0 lamQ lamN->Q (.bl (conf v k)) H'
theorem ok_isOf (LM:LmK K mg c T0) (D:Df K mg "is_of" (top 2) f fd ["value","kind"]) (hc:fd.code=.ref c) (ZaF:Df K mg "fits" (top 3) ZaV ZaW ["whole","kind","rows_of"]) (Zbo:FnOk P w K mg base CX0 2 ZaV ZaW ["whole","kind","rows_of"] spFits) :
  FnOk P w K mg base CX0 3 f fd ["value","kind"] (spIsOf T0):=by
 refine D.fn.okC (k:=2) hc Zbn (fun vs H Q E h=>?_) (fun A outer s H vs Q E hr h=>?_)
 ·obtain⟨u,uk,v,k,rfl,_⟩:=h;rfl
 obtain⟨u,uk,v,k,rfl,lt,iu,ik,lz,lkk,fin⟩:=h
 have hu:=u110 hr
 have hu0:=u0 hr
 have hu1:=hu_of hr
 refine⟨_,(wss_one (ws_ret (we_call Zbo (hr.mono (by lia)) rfl ZaF.mg ZaF.kp ZaF.b .nil pass0 (wa_cons (wv 0) (wa_cons (wv 1) (wa_cons (we_lam LM) wa_nil)))))),?_⟩
 refine⟨_,rfl,_,rfl,lt,fun fl c' ctv H' hf h1 h2 h3 ex=>?_⟩
 have tp:Tups H H':=fun a zs q=>ex a _ (fun z=>by rcases lt with e | ⟨_,e,_⟩ <;> (rw[z,e]at q;cases q)) q
 exact⟨_,c',ctv,fl,u,uk,v,k,rfl,⟨h1,h2⟩,IsDt.mono tp iu,IsDt.mono tp ik,lz,lkk,fun H'' s=>fin H'' (fun b o nb q=>s _ _ (ex b o nb q)) (.inr ⟨c',s _ _ h3,s _ _ h2⟩)⟩
end
end K09
end
section
namespace K09
open PySem L2 Kn
section
variable {P:Program}{w:World}{K:PySem.W.Frag}{mg:Str->Option Value}{base:Heap}{f:Addr}{fd:FuncData}
theorem lc_names {te:TE} {σ:St} {H:Hp}{Q:VK}{b:Addr}{xs:List V}{g:Nat->Dt}{ns:List Str} (ht:∀ R:VK,R (.ref b) H->te σ H R) (hb:H b=some (.tup xs)) (pr:Prs H g ns xs) (ln:ns.length<=1000000)
  (fin:∀ (l:Addr) (ys:List V) (H':Hp),Same H H'->H' l=some (.lst ys)->IsDts H' (ns.map .str) ys->Q (.ref l) H') :
  tLC (fun σ H R=>iList K te σ H R\/iTup K te σ H R) 2 [] (fun _=>gTup K 2 (gCons (gName 0) (gCons (gName 1) gNil))) (fun _=>tAll) (fun _=>tVar 0) σ H Q:=by
 refine .inr (ht _ ⟨b,rfl,⟨xs,SqT.of hb⟩,?_⟩)
 refine⟨fun i m zs H2=>m+i=ns.length/\H2=H/\IsDts H ((ns.take i).map .str) zs,⟨ns.length,rfl,rfl,.nil⟩,?_⟩
 rintro i m zs H2 ⟨hm,rfl,iz⟩
 refine⟨line1 (by rw[iz.length,List.length_map,List.length_take];lia),?_⟩
 by_cases hi:i<ns.length
 ·obtain⟨cb,v,e1,hcb,iv⟩:=pr.2 i hi
  refine .inr ⟨⟨_,_,SqT.of hb,e1⟩,fun z x H3 hy=>?_⟩
  obtain⟨eH,hx⟩:=hy
  rw[eH]
  clear eH H3
  have e2:=hx _ (SqT.of hb)
  rw[e1]at e2
  cases e2
  refine⟨cb,_,rfl,SqT.of hcb,rfl,_,_,rfl,_,_,rfl,rfl,tallT ⟨_,rfl,m-1,by lia,by lia,rfl,?_⟩⟩
  rw[List.take_add_one,List.getElem?_eq_getElem hi,List.map_append]
  exact iz.append (.one (isDt_str _))
 ·refine .inl ⟨⟨_,SqT.of hb,by rw[pr.1];lia⟩,fun l hl=>fin l zs _ (same_new hl _) upd_same ?_⟩
  rw[List.take_of_length_le (show ns.length<=i by lia)]at iz
  exact IsDts.mono (same_new hl _).tups iz
theorem ZaY:FnScope ["value","kind","left","one","due"] ["value","kind"] (defScope (top 21)):=⟨rfl,rfl,rfl,by decide +kernel,rfl,by decide +kernel,by decide +kernel⟩
def spLawIs:Sp:=fun vs H Q _=>∃ (u uk:V) (v:Val) (k:Kd),vs=[u,uk]/\IsDt H (dat v) u/\IsDt H (kdD k) uk/\vz v<=1000000/\kw k<=1000000/\∀ H',Same H H'->Q (.bl (conf v k)) H'
theorem ok_lawIs (T:Tx mg) (D:Df K mg "_law_is_of" (top 21) f fd ["value","kind"]):FnOk P w K mg base CX0 1 f fd ["value","kind"] spLawIs:=by
 refine D.fn.okH (k:=0) ZaY (fun vs H Q E h=>?_) (fun cdv A outer s H vs Q E hr h=>?_)
 ·obtain⟨u,uk,v,k,rfl,_⟩:=h;rfl
 obtain⟨u,uk,v,k,rfl,iu,ik,lz,lkk,fin⟩:=h
 have hu:=u110 hr
 have hu0:=u0 hr
 have hu1:=hu_of hr
 refine⟨_,(wss_cons (ws_set (i:=2) ZaY.nd rfl (Or.inl rfl) (we_lst (wa_cons (we_tup (wa_cons (wv 0) (wa_cons (wv 1) wa_nil))) wa_nil)))
   (wss_cons (ws_while PassesOwn.never (wt_cmpR (op_neY hu) (wv 2) (we_lst wa_nil) (nomark _)) (wss_cons (ws_asg (we_bm0 PySem.F.plainAttrs_list PySem.F.slot_list_pop PySem.F.type_list_pop mt_pop (wv 2)) (wg_tup rfl (wgs_cons (wg_name (i:=3) ZaY.nd rfl (Or.inr rfl)) (wgs_cons (wg_name (i:=4) ZaY.nd rfl (Or.inr rfl)) wgs_nil))))
   (wss_cons (ws_if (wt_cmpR (op_neY hu) (we_ix (ix_U hu1) (wv 3) we_int (fun _ _=>rfl)) (we_ix (ix_U hu1) (wv 4) we_int (fun _ _=>rfl)) (nomark _)) (wss_one (ws_ret we_bl)) wss_nil)
   (wss_cons (ws_if (wt_cmpR (op_eqU hu) (we_ix (ix_U hu1) (wv 3) we_int (fun _ _=>rfl)) we_str (nomark _)) (wss_one (ws_expr (we_bm PySem.F.plainAttrs_list PySem.F.slot_list_extend PySem.F.type_list_extend mt_extend (wv 2) (wa_cons (we_lc (Nt:=["row","count"]) (fr:=[("due",4)]) (LcOk.of (sc:=defScope (top 21)) (N:=["value","kind","left","one","due"]) rfl rfl (by decide +kernel)) rfl (wi_U (we_ix (ix_U hu1) (wv 3) we_int (fun _ _=>rfl))) (fun z=>wg_tup rfl (wgs_cons (wg_name (i:=0) (by show (["row","count","due"]:List Str).Nodup;decide +kernel) rfl (Or.inl rfl) (.inr rfl)) (wgs_cons (wg_name (i:=1) (by show (["row","count","due"]:List Str).Nodup;decide +kernel) rfl (Or.inl rfl) (.inr rfl)) wgs_nil))) (fun z=>tgt_two (by decide) (by decide)) (fun z=>wif_nil) (fun z=>(we_tup (wa_cons (wv 0) (wa_cons (we_ix (ix_U hu1) (wv 2) we_int (fun _ _=>rfl)) wa_nil))))) wa_nil)))) wss_nil)
   (wss_one (ws_if (wt_cmpR (op_eqU hu) (we_ix (ix_U hu1) (wv 3) we_int (fun _ _=>rfl)) we_str (nomark _)) (wss_cons (ws_if (wt_cmpR (op_neY hu) (we_lc (Nt:=["field","part"]) (fr:=[]) (LcOk.of (sc:=defScope (top 21)) (N:=["value","kind","left","one","due"]) rfl rfl (by decide +kernel)) rfl (wi_U (we_ix (ix_U hu1) (wv 3) we_int (fun _ _=>rfl))) (fun z=>wg_tup rfl (wgs_cons (wg_name (i:=0) (by show (["field","part"]:List Str).Nodup;decide +kernel) rfl (Or.inl rfl) (.inr rfl)) (wgs_cons (wg_name (i:=1) (by show (["field","part"]:List Str).Nodup;decide +kernel) rfl (Or.inl rfl) (.inr rfl)) wgs_nil))) (fun z=>tgt_two (by decide) (by decide)) (fun z=>wif_nil) (fun z=>(wv 0))) (we_lc (Nt:=["field","part"]) (fr:=[]) (LcOk.of (sc:=defScope (top 21)) (N:=["value","kind","left","one","due"]) rfl rfl (by decide +kernel)) rfl (wi_U (we_ix (ix_U hu1) (wv 4) we_int (fun _ _=>rfl))) (fun z=>wg_tup rfl (wgs_cons (wg_name (i:=0) (by show (["field","part"]:List Str).Nodup;decide +kernel) rfl (Or.inl rfl) (.inr rfl)) (wgs_cons (wg_name (i:=1) (by show (["field","part"]:List Str).Nodup;decide +kernel) rfl (Or.inl rfl) (.inr rfl)) wgs_nil))) (fun z=>tgt_two (by decide) (by decide)) (fun z=>wif_nil) (fun z=>(wv 0))) (nomark _)) (wss_one (ws_ret we_bl)) wss_nil)
   (wss_one (ws_expr (we_bm PySem.F.plainAttrs_list PySem.F.slot_list_extend PySem.F.type_list_extend mt_extend (wv 2) (wa_cons (we_lc (Nt:=["k"]) (fr:=[("one",3),("due",4)]) (LcOk.of (sc:=defScope (top 21)) (N:=["value","kind","left","one","due"]) rfl rfl (by decide +kernel)) rfl (wi_range1 rfl T.z_range (wa_cons (we_callB call_lenU rfl T.z_len bt_len (wa_cons (we_ix (ix_U hu1) (wv 4) we_int (fun _ _=>rfl)) wa_nil)) wa_nil)) (fun z=>wg_name (i:=0) (by show (["k","one","due"]:List Str).Nodup;decide +kernel) rfl (Or.inl rfl) (.inr rfl)) (fun z=>tgt_name (by decide)) (fun z=>wif_nil) (fun z=>(we_tup (wa_cons (we_ix (ix_U hu1) (we_ix (ix_U hu1) (we_ix (ix_U hu1) (wv 1) we_int (fun _ _=>rfl)) (wv 0) (fun _ _=>rfl)) we_int (fun _ _=>rfl)) (wa_cons (we_ix (ix_U hu1) (we_ix (ix_U hu1) (we_ix (ix_U hu1) (wv 2) we_int (fun _ _=>rfl)) (wv 0) (fun _ _=>rfl)) we_int (fun _ _=>rfl)) wa_nil))))) wa_nil))))) wss_nil))))))
   (wss_one (ws_ret we_bl)))),?_⟩
 refine seqH fun N1 to1=>⟨_,rfl,_,rfl,(by show 2<=sizeLine;decide),fun t ht=>⟨(by show 1<=sizeLine;decide),fun l hl=>to1 _ _ ?_⟩⟩
 have s1:=(same_new ht (.tup [u,uk])).trans (same_new hl (.lst [.ref t]))
 have hn:H l=none:=by
  cases e:H l with
  | none=>rfl
  | some o=>have:=same_new ht (.tup [u,uk]) _ _ e;rw[hl]at this;cases this
 have st1:IsDts (upd (upd H t (.tup [u,uk])) l (.lst [.ref t])) (stD [(v,k)]) [.ref t]:=.one (isDt_tup (same_new hl _ _ _ upd_same) (.cons (IsDt.mono s1.tups iu) (.one (IsDt.mono s1.tups ik))))
 have hl1:(upd (upd H t (.tup [u,uk])) l (.lst [.ref t])) l=some (.lst [.ref t]):=upd_same
 obtain⟨H1,e1⟩:∃ H1,H1=upd (upd H t (.tup [u,uk])) l (.lst [.ref t]):=⟨_,rfl⟩
 rw[<- e1]at s1 st1 hl1 ⊢
 clear e1 hl ht
 refine seqH fun N2 to2=>?_
 refine⟨fun m σ H'=>∃ (xs:List V) (st:Stk) (o4 o5:Option V),σ=[some u,some uk,some (.ref l),o4,o5]/\ExL l H1 H'/\H' l=some (.lst xs)/\IsDts H' (stD st) xs/\okS st=conf v k/\szS st=m/\m<=1000000/\∀ p∈st,kw p.2<=1000000,
  ⟨vz v,[.ref t],[(v,k)],none,none,rfl,fun _ _ _ e=>e,hl1,st1,by simp [okS],szS_one v k,lz,fun p hp=>by rw[List.mem_singleton.mp hp];exact lkk⟩,?_⟩
 rintro m σ H2 ⟨xs,st,o4,o5,rfl,ex2,hl2,ix,ok,rfl,lm,kb⟩
 have back:∀ H',ExL l H1 H'->Same H H':=fun H' e b o q=>e b o (ne_of_none q hn) (s1 _ _ q)
 refine⟨_,rfl,(by show 0<=sizeLine;decide),fun l0 hl0=>?_⟩
 have s0:=same_new hl0 (.lst [])
 replace ex2:ExL l H1 (upd H2 l0 (.lst [])):=fun b o nb q=>s0 _ _ (ex2 b o nb q)
 have hl2':=s0 _ _ hl2
 replace ix:=IsDts.mono s0.tups ix
 have hz:(upd H2 l0 (.lst [])) l0=some (.lst []):=upd_same
 obtain⟨H2',e2⟩:∃ H2',H2'=upd H2 l0 (.lst []):=⟨_,rfl⟩
 rw[<- e2]at ex2 hl2' ix hz ⊢
 clear e2 s0 hl0 hl2
 have hl2:=hl2'
 clear hl2'
 refine .inl (.inr (.inr ⟨l,l0,xs,rfl,rfl,hl2,hz,_,rfl,?_⟩))
 rcases List.eq_nil_or_concat st with rfl | ⟨st',⟨v',k'⟩,rfl⟩
 ·have ex:xs=[]:=by
   have:=ix.length
   rw[show (stD []).length=0 from rfl]at this
   exact List.length_eq_zero_iff.mp this
  subst ex
  refine iteN (by simp) (to2 _ _ ?_)
  have e:conf v k=true:=ok.symm
  rw[e]at fin
  exact fin _ (back _ ex2)
 rw[List.concat_eq_append]at ix ok lm kb ⊢
 obtain⟨ys,a,pv,pk,rfl,iy,ha,iv,ikk⟩:=st_last ix
 refine iteP (by simp) ?_
 refine wh_hideD fun E' toN rtE=>?_
 refine seqH fun M1 m1=>?_
 refine⟨_,rfl,.inl ⟨rfl,_,SqL.of hl2⟩,l,ys++[.ref a],.ref a,rfl,rfl,hl2,last_cat _ _,?_⟩
 rw[List.dropLast_concat]
 have ex3:ExL l H2' (upd H2' l (.lst ys)):=fun b o nb e=>by rw[upd_ne nb];exact e
 have hl3:(upd H2' l (.lst ys)) l=some (.lst ys):=upd_same
 obtain⟨H3,e3⟩:∃ H3,H3=upd H2' l (.lst ys):=⟨_,rfl⟩
 rw[<- e3]at ex3 hl3 ⊢
 clear e3
 have t3:=ExL.tups hl2 ex3
 refine⟨a,_,rfl,SqT.of (t3 _ _ ha),rfl,_,_,rfl,_,_,rfl,rfl,m1 _ _ ?_⟩
 replace iv:=IsDt.mono t3 iv
 replace ikk:=IsDt.mono t3 ikk
 replace iy:=IsDts.mono t3 iy
 have ex13:ExL l H1 H3:=fun b o nb e=>ex3 b o nb (ex2 b o nb e)
 clear ex3 t3 hl2 ix ha ex2 hl1 st1
 have lys:ys.length=st'.length:=by rw[iy.length];unfold stD;rw[List.length_map]
 rw[szS_app,szS_one]at lm
 have lst:=len_sz st'
 have bad:conf v' k'=false->∀ H',ExL l H3 H'->E'.rt (.bl false) H':=fun cf H' e=>by
  have z:conf v k=false:=by rw[<- ok,okS_app];simp [okS,cf]
  rw[z]at fin
  exact rtE _ _ (fin _ (back _ fun b o nb q=>e b o nb (ex13 b o nb q)))
 have fine:∀ (H4:Hp) (zs:List V) (sb:Stk),ExL l H3 H4->H4 l=some (.lst (ys++zs))->IsDts H4 (stD sb) zs->okS sb=conf v' k'->szS sb+1<=vz v'->(∀ p∈sb,kw p.2<=1000000)->E'.nx [some u,some uk,some (.ref l),some pv,some pk] H4:=fun H4 zs sb e h4 i4 o4 z4 k4=>by
  refine toN _ _ ⟨szS (st'++sb),?_,ys++zs,st'++sb,_,_,rfl,fun b o nb q=>e b o nb (ex13 b o nb q),h4,?_,?_,rfl,?_,fun p hp=>(List.mem_append.mp hp).elim (fun h=>kb p (List.mem_append_left _ h)) (k4 p)⟩
  ·rw[szS_app,szS_app,szS_one];lia
  ·unfold stD;rw[List.map_append];exact (IsDts.mono (ExL.tups hl3 e) iy).append i4
  ·rw[<- ok,okS_app,okS_app,o4];simp [okS]
  ·rw[szS_app];lia
 obtain⟨pa,py,rfl,hpa⟩:=tag_val iv
 obtain⟨pb,pr,rfl,hpb⟩:=tag_kd ikk
 refine seqH fun M2 m2=>⟨_,rfl,ixt (SqT.of hpa) at0 ⟨_,rfl,ixt (SqT.of hpb) at0 (.inl (.inl ⟨rfl,_,rfl,ite2 (fun e=>?_) (fun e=>m2 _ _ ?_)⟩))⟩⟩
 ·exact bad (conf_tag fun z=>by rw[z]at e;simp at e) _ fun _ _ _ q=>q
 have et:tagV v'=tagK k':=Classical.byContradiction fun z=>e (by rw[decide_eq_false (fun y=>z (by injection y))];rfl)
 clear e
 cases v' with
 | num i=>
  cases k' with
  | num=>
   refine seqH fun M3 m3=>⟨_,rfl,ixt (SqT.of hpa) at0 (.inl ⟨rfl,_,rfl,iteN (vne (by simp only[tagV];decide +kernel)) (m3 _ _ ?_)⟩)⟩
   exact⟨_,rfl,ixt (SqT.of hpa) at0 (.inl ⟨rfl,_,rfl,iteN (vne (by simp only[tagV];decide +kernel)) (fine _ [] [] (fun _ _ _ q=>q) (by rw[List.append_nil];exact hl3) .nil (by rw[conf];rfl) (by rw[vz];exact Nat.le_refl _) (fun _ h=>(nomatch h)))⟩)⟩
  | _=>exact absurd et (by simp only[tagV,tagK];decide +kernel)
 | word i=>
  cases k' with
  | word=>
   refine seqH fun M3 m3=>⟨_,rfl,ixt (SqT.of hpa) at0 (.inl ⟨rfl,_,rfl,iteN (vne (by simp only[tagV];decide +kernel)) (m3 _ _ ?_)⟩)⟩
   exact⟨_,rfl,ixt (SqT.of hpa) at0 (.inl ⟨rfl,_,rfl,iteN (vne (by simp only[tagV];decide +kernel)) (fine _ [] [] (fun _ _ _ q=>q) (by rw[List.append_nil];exact hl3) .nil (by rw[conf];rfl) (by rw[vz];exact Nat.le_refl _) (fun _ h=>(nomatch h)))⟩)⟩
  | _=>exact absurd et (by simp only[tagV,tagK];decide +kernel)
 | row ps=>
  cases k' with
  | row fs=>
   obtain⟨a',b',bx,ea,hba,hbb,ibx⟩:=row_at iv
   cases ea
   obtain⟨a2,b2,fx,ea,hka,hkb,ifx⟩:=krow_at ikk
   cases ea
   rw[vz]at lm
   have lp:ps.length<=vzR ps:=vzR_len ps
   have kf:kwR fs<=1000000:=by have:=kb (.row ps,.row fs) (List.mem_append_right _ List.mem_cons_self);rw[kw]at this;lia
   have lfx:fx.length=fs.length:=by rw[ifx.length,List.length_map]
   have lbx:bx.length=ps.length:=by rw[ibx.length,List.length_map]
   have pr1:=prs_of (g:=fun i=>if h:i<ps.length then dat (ps[i]).2 else .int 0) ibx (fun i hi=>dif_pos hi)
   have pr2:=prs_of (g:=fun i=>if h:i<fs.length then kdD (fs[i]).2 else .int 0) ifx (fun i hi=>dif_pos hi)
   refine seqH fun M3 m3=>⟨_,rfl,ixt (SqT.of hpa) at0 (.inl ⟨rfl,_,rfl,iteN (vne (by simp only[tagV];decide +kernel)) (m3 _ _ ?_)⟩)⟩
   refine⟨_,rfl,ixt (SqT.of hpa) at0 (.inl ⟨rfl,_,rfl,iteP veq ?_⟩)⟩
   refine seqH fun M4 m4=>?_
   dsimp only[tIfS,tTest,tOp]
   refine lc_names (K:=K) (fun R q=>⟨_,rfl,ixt (SqT.of hba) at1 q⟩) hbb pr1 (by rw[List.length_map];lia) fun l4 y4 H4 s4 hl4 i4=>?_
   refine lc_names (K:=K) (fun R q=>⟨_,rfl,ixt (SqT.of (s4 _ _ hka)) at1 q⟩) (s4 _ _ hkb) (pr2.mono s4.tups) (by rw[List.length_map];exact Nat.le_trans (kwR_len fs) kf) fun l5 y5 H5 s5 hl5 i5=>?_
   have s35:=s4.trans s5
   refine .inr ⟨l4,l5,y4,y5,_,_,rfl,rfl,s5 _ _ hl4,hl5,IsDts.mono s5.tups i4,i5,Nat.le_trans (Nat.le_of_eq (depL_str _)) (Nat.zero_le _),_,rfl,ite2 (fun e=>?_) (fun e=>m4 _ _ ?_)⟩
   ·refine bad ?_ _ fun b o _ q=>s35 _ _ q
    have ne:¬(ps.map (·.1)=fs.map (·.1)):=fun z=>by rw[z]at e;simp at e
    rw[conf,decide_eq_false ne,Bool.false_and]
   have en:ps.map (·.1)=fs.map (·.1):=Classical.byContradiction fun z=>e (by rw[decide_eq_false (fun y=>z (str_inj y))];rfl)
   have ln:ps.length=fs.length:=by have:=congrArg List.length en;rw[List.length_map,List.length_map]at this;exact this
   have lsb:(subR ps fs).length=ps.length:=by unfold subR;rw[List.length_map,List.length_zip];lia
   refine⟨_,rfl,.inl ⟨rfl,_,SqL.of (s35 _ _ hl3)⟩,_,rfl,ixt (SqT.of (s35 _ _ hka)) at1 (.inl ⟨b2,fx,rfl,.inr (SqT.of (s35 _ _ hkb)),_,rfl,by lia,Int.lt_of_le_of_lt (show (fx.length:Int)<=1000000 by have:=kwR_len fs;lia) (by decide),?_⟩)⟩
   refine⟨fun i m zs H6=>m+i=ps.length/\Same H5 H6/\IsDts H6 (stD ((subR ps fs).take i)) zs,⟨ps.length,rfl,fun _ _ q=>q,.nil⟩,?_⟩
   rintro i m zs H6 ⟨hm,s6,iz⟩
   refine⟨line1 (by rw[iz.length];unfold stD;rw[List.length_map,List.length_take];lia),?_⟩
   have s36:=s35.trans s6
   by_cases hi:i<ps.length
   ·obtain⟨c1,y1,e1,hc1,iy1⟩:=pr1.2 i (by rw[List.length_map];exact hi)
    obtain⟨c2,y2,e2,hc2,iy2⟩:=pr2.2 i (by rw[List.length_map];lia)
    have iy1:IsDt H3 (dat (ps[i]).2) y1:=by dsimp only at iy1;rw[dif_pos hi]at iy1;exact iy1
    have iy2:IsDt H3 (kdD (fs[i]'(by lia)).2) y2:=by dsimp only at iy2;rw[dif_pos (show i<fs.length by lia)]at iy2;exact iy2
    refine .inr ⟨(show i<(fx.length:Int).toNat by lia),fun z x H7 hy=>?_⟩
    obtain⟨eH,rfl⟩:=hy
    rw[eH]
    clear eH H7
    have a1:atI bx (0+(i:Int))=some (.ref c1):=by rw[Int.zero_add];exact atI_nat e1
    have a2':atI fx (0+(i:Int))=some (.ref c2):=by rw[Int.zero_add];exact atI_nat e2
    refine gallW ⟨_,rfl,ixt (SqT.of (s36 _ _ hba)) at1 ⟨_,rfl,ixt (SqT.of (s36 _ _ hbb)) a1 (ixt (SqT.of (s36 _ _ hc1)) at1 ⟨_,rfl,ixt (SqT.of (s36 _ _ hka)) at1 ⟨_,rfl,ixt (SqT.of (s36 _ _ hkb)) a2' (ixt (SqT.of (s36 _ _ hc2)) at1 ⟨(by show 2<=sizeLine;decide),fun t2 ht2=>⟨m-1,by lia,by lia,s6.trans (same_new ht2 _),?_⟩⟩)⟩⟩)⟩⟩
    have s8:=same_new ht2 (.tup [y1,y2])
    have tk:(subR ps fs).take (i+1)=(subR ps fs).take i++[((ps[i]).2,(fs[i]'(by lia)).2)]:=by
     rw[List.take_add_one,List.getElem?_eq_getElem (by rw[lsb];exact hi)];unfold subR;rw[List.getElem_map,List.getElem_zip];rfl
    rw[tk]
    unfold stD
    rw[List.map_append]
    exact (IsDts.mono s8.tups iz).append (.one (isDt_tup upd_same (.cons (IsDt.mono s8.tups (IsDt.mono s36.tups iy1)) (.one (IsDt.mono s8.tups (IsDt.mono s36.tups iy2))))))
   ·refine .inl ⟨(show (fx.length:Int).toNat<=i by lia),fun l8 hl8=>?_⟩
    rw[List.take_of_length_le (show (subR ps fs).length<=i by lia)]at iz
    have s8:=s36.trans (same_new hl8 (.lst zs))
    have hl8':=s8 _ _ hl3
    have lzs:zs.length=ps.length:=by rw[iz.length];unfold stD;rw[List.length_map,lsb]
    refine⟨l,l8,ys,zs,rfl,rfl,hl8',upd_same,Nat.le_of_lt (line1 (by lia)),fine _ zs (subR ps fs) (fun b o nb q=>by rw[upd_ne nb];exact s8 _ _ q) upd_same ?_ ?_ ?_ ?_⟩
    ·exact IsDts.mono (ExL.tups hl8' (fun b o nb q=>by rw[upd_ne nb];exact q)) (IsDts.mono (same_new hl8 _).tups iz)
    ·rw[conf,subR_ok,decide_eq_true en,Bool.true_and]
    ·have:=subR_sz ps fs;rw[vz];lia
    ·intro p hp
     obtain⟨q,hq,rfl⟩:=List.mem_map.mp hp
     exact Nat.le_trans (kwR_mem (List.of_mem_zip hq).2) kf
  | _=>exact absurd et (by simp only[tagV,tagK];decide +kernel)
 | bag qs=>
  cases k' with
  | bag kk=>
   obtain⟨a',b',bx,ea,hba,hbb,ibx⟩:=bag_at iv
   cases ea
   obtain⟨a2,ky,ea,hka,iky⟩:=kbag_at ikk
   cases ea
   rw[vz]at lm
   have lq:qs.length<=vzB qs:=by have:=len_sz (subB qs kk);rw[subB_sz]at this;unfold subB at this;rw[List.length_map]at this;exact this
   refine seqH fun M3 m3=>⟨_,rfl,ixt (SqT.of hpa) at0 (.inl ⟨rfl,_,rfl,iteP veq ?_⟩)⟩
   refine⟨_,rfl,.inl ⟨rfl,_,SqL.of hl3⟩,.inr ⟨_,rfl,ixt (SqT.of hba) at1 ⟨b',rfl,⟨bx,SqT.of hbb⟩,?_⟩⟩⟩
   have lbx:bx.length=qs.length:=by rw[ibx.length,datB_map,List.length_map]
   refine⟨fun i m zs H5=>m+i=qs.length/\Same H3 H5/\IsDts H5 (stD ((subB qs kk).take i)) zs,⟨qs.length,rfl,fun _ _ q=>q,.nil⟩,?_⟩
   rintro i m zs H5 ⟨hm,s5,iz⟩
   have lsb:(subB qs kk).length=qs.length:=by unfold subB;rw[List.length_map]
   refine⟨line1 (by rw[iz.length];unfold stD;rw[List.length_map,List.length_take];lia),?_⟩
   by_cases hi:i<qs.length
   ·obtain⟨cb,y,ey,hcb,iyy⟩:=pair_at ibx hi
    refine .inr ⟨⟨_,_,SqT.of (s5 _ _ hbb),ey⟩,fun z x H6 hy=>?_⟩
    obtain⟨eH,hx⟩:=hy
    rw[eH]
    clear eH H6
    have e2:=hx _ (SqT.of (s5 _ _ hbb))
    rw[ey]at e2
    cases e2
    refine⟨cb,_,rfl,SqT.of (s5 _ _ hcb),rfl,_,_,rfl,_,_,rfl,rfl,tallT ⟨_,rfl,_,rfl,ixt (SqT.of (s5 _ _ hka)) at1 ⟨(by show 2<=sizeLine;decide),fun t2 ht2=>⟨m-1,by lia,by lia,s5.trans (same_new ht2 _),?_⟩⟩⟩⟩
    have s6:=same_new ht2 (.tup [y,ky])
    have tk:(subB qs kk).take (i+1)=(subB qs kk).take i++[((qs[i]).1,kk)]:=by
     rw[List.take_add_one,List.getElem?_eq_getElem (by rw[lsb];exact hi)];unfold subB;rw[List.getElem_map];rfl
    rw[tk]
    unfold stD
    rw[List.map_append]
    exact (IsDts.mono s6.tups iz).append (.one (isDt_tup upd_same (.cons (IsDt.mono s6.tups (IsDt.mono s5.tups iyy)) (.one (IsDt.mono s6.tups (IsDt.mono s5.tups iky))))))
   ·refine .inl ⟨⟨_,SqT.of (s5 _ _ hbb),by lia⟩,fun l8 hl8=>?_⟩
    rw[List.take_of_length_le (show (subB qs kk).length<=i by lia)]at iz
    have s8:=s5.trans (same_new hl8 (.lst zs))
    have hl8':=s8 _ _ hl3
    have lzs:zs.length=qs.length:=by rw[iz.length];unfold stD;rw[List.length_map,lsb]
    refine⟨l,l8,ys,zs,rfl,rfl,hl8',upd_same,Nat.le_of_lt (line1 (by lia)),m3 _ _ ?_⟩
    have ex9:ExL l H3 (upd (upd H5 l8 (.lst zs)) l (.lst (ys++zs))):=fun b o nb q=>by rw[upd_ne nb];exact s8 _ _ q
    refine⟨_,rfl,ixt (SqT.of (ExL.tups hl3 ex9 _ _ hpa)) at0 (.inl ⟨rfl,_,rfl,iteN (vne (by simp only[tagV];decide +kernel)) (fine _ zs (subB qs kk) ex9 upd_same ?_ (by rw[conf,subB_ok]) (by rw[subB_sz,vz];lia) ?_)⟩)⟩
    case refine_2=>
     intro p hp
     obtain⟨q,_,rfl⟩:=List.mem_map.mp hp
     have:=kb (.bag qs,.bag kk) (List.mem_append_right _ List.mem_cons_self)
     rw[kw]at this
     exact Nat.le_trans (Nat.le_add_left _ _) this
    exact IsDts.mono (ExL.tups hl8' (fun b o nb q=>by rw[upd_ne nb];exact q)) (IsDts.mono (same_new hl8 _).tups iz)
  | _=>exact absurd et (by simp only[tagV,tagK];decide +kernel)
end
end K09
end
section
namespace K09
open PySem L2 Kn
section
variable {P:Program}{w:World}{K:PySem.W.Frag}{mg:Str->Option Value}{base:Heap}{f f_next:Addr}{fd fd_next:FuncData}
theorem Zbc:FnScope ["deck","field","part","way"] ["deck","field","part"] (defScope (top 22)):=⟨rfl,rfl,rfl,by decide +kernel,rfl,by decide +kernel,by decide +kernel⟩
def spOther:Sp:=fun vs H Q _=>∃ (p:Addr) (n r:Int) (fl:Str) (u:V) (x:Val),vs=[.ref p,.str fl,u]/\Dk H p n r/\n<1000000000000/\fl.length<=1000/\IsDt H (dat x) u /\
 ∀ (t:Addr) (fl':Str) (u':V) (x':Val) (H':Hp),Ex p H H'->Dk H' p (n+1) r->H' t=some (.tup [.str fl',u'])->IsDt H' (dat x') u'->vz x'<=max (vz x) 1->fl'.length<=fl.length+1->(Bd 7 0 x->Bd 7 0 x')->Q (.ref t) H'
theorem ok_other (T:Tx mg) (D:Df K mg "_law_other_part" (top 22) f fd ["deck","field","part"]) (Zaa:Df K mg "_law_next" (top 7) f_next fd_next ["deck","many"]) (Zab:FnOk P w K mg base CX0 1 f_next fd_next ["deck","many"] spNext) :
  FnOk P w K mg base CX0 2 f fd ["deck","field","part"] spOther:=by
 refine D.fn.okH (k:=1) Zbc (fun vs H Q E h=>?_) (fun cdv A outer s H vs Q E hr h=>?_)
 ·obtain⟨p,n,r,fl,u,x,rfl,_⟩:=h;rfl
 obtain⟨p,n,r,fl,u,x,rfl,dk,hn,lf,iu,fin⟩:=h
 have hu:=u110 hr
 have hu0:=u0 hr
 have hu1:=hu_of hr
 refine⟨_,(wss_cons (ws_set (i:=3) Zbc.nd rfl (Or.inl rfl) (we_call Zab (hr.mono (by lia)) rfl Zaa.mg Zaa.kp Zaa.b .nil pass0 (wa_cons (wv 0) (wa_cons we_int wa_nil))))
   (wss_cons (ws_if (wt_cmpR (op_eqU hu) (wv 3) we_int (nomark _)) (wss_one (ws_ret (we_tup (wa_cons (we_op op_plus (wv 1) we_str) (wa_cons (wv 2) wa_nil))))) wss_nil)
   (wss_one (ws_ret (we_tup (wa_cons (wv 1) (wa_cons (we_ix (ix_U hu1) (we_lst (wa_cons (wv 2) (wa_cons (we_tup (wa_consts rfl)) (wa_cons (we_tup (wa_consts rfl)) (wa_cons (we_tup (wa_cons we_str (wa_cons (we_tup wa_nil) wa_nil))) wa_nil))))) (wv 3) (fun _ _=>rfl)) wa_nil))))))),?_⟩
 refine seqH fun N1 to1=>⟨_,rfl,p,n,r,4,rfl,dk,hn,by decide,by decide,fun i H1 i0 i1 ex1 dk1=>to1 _ _ ?_⟩
 have iu1:=IsDt.mono (dk.tups ex1) iu
 refine seqH fun N2 to2=>⟨_,rfl,.inl ⟨rfl,_,rfl,ite2 (fun e=>?_) (fun e=>to2 _ _ ?_)⟩⟩
 ·refine⟨_,rfl,.inr (.inl ⟨_,_,rfl,rfl,Nat.le_of_lt (Nat.lt_of_le_of_lt (Nat.add_le_add_right lf _) (by decide +kernel)),_,rfl,(by show 2<=sizeLine;decide),fun t ht=>fin t _ u x _ (ex1.trans (ex_new ht)) (dk1.new ht) upd_same (IsDt.mono (same_new ht _).tups iu1) (Nat.le_max_left _ _) (by rw[len_app];exact Nat.add_le_add_left (by decide +kernel) _) (fun h=>h)⟩)⟩
 have i9:¬i=0:=fun z=>e (by rw[z];exact decide_eq_true rfl)
 refine⟨_,rfl,_,rfl,(by show 2<=sizeLine;decide),fun t1 h1=>⟨(by show 2<=sizeLine;decide),fun t2 h2=>⟨(by show 0<=sizeLine;decide),fun t3 h3=>⟨(by show 2<=sizeLine;decide),fun t4 h4=>⟨(by show 4<=sizeLine;decide),fun l hl=>⟨_,rfl,?_⟩⟩⟩⟩⟩⟩
 have d1:=isDt_new (ds:=[.str (Str.ofString "num"),.int 5]) h1 (.cons (isDt_str _) (.one (isDt_int _)))
 have s2:=same_new h2 (.tup [.str "word",.str "ab"])
 have d2:=isDt_new (ds:=[.str (Str.ofString "word"),.str (Str.ofString "ab")]) h2 (.cons (isDt_str _) (.one (isDt_str _)))
 have s3:=same_new h3 (.tup [])
 have d3:=isDt_new (ds:=[]) h3 .nil
 have s4:=same_new h4 (.tup [.str "bag",.ref t3])
 have d4:=isDt_new (ds:=[.str (Str.ofString "bag"),.tup []]) h4 (.cons (isDt_str _) (.one d3))
 have sl:=same_new hl (.lst [u,.ref t1,.ref t2,.ref t4])
 have sa:=((((same_new h1 (.tup [.str "num",.int 5])).trans s2).trans s3).trans s4).trans sl
 have key:∃ (u':V) (x':Val),atI [u,.ref t1,.ref t2,.ref t4] i=some u'/\IsDt (upd (upd (upd (upd (upd H1 t1 (.tup [.str "num",.int 5])) t2 (.tup [.str "word",.str "ab"])) t3 (.tup [])) t4 (.tup [.str "bag",.ref t3])) l (.lst [u,.ref t1,.ref t2,.ref t4])) (dat x') u'/\vz x'<=max (vz x) 1/\Bd 7 0 x':=by
  rcases (show i=1\/i=2\/i=3 by lia) with rfl | rfl | rfl
  ·exact⟨.ref t1,.num 5,atI_nat (j:=1) rfl,by rw[dat];exact IsDt.mono (((s2.trans s3).trans s4).trans sl).tups d1,by rw[vz];exact Nat.le_max_right _ _,bd_num⟩
  ·exact⟨.ref t2,.word (Str.ofString "ab"),atI_nat (j:=2) rfl,by rw[dat];exact IsDt.mono ((s3.trans s4).trans sl).tups d2,by rw[vz];exact Nat.le_max_right _ _,bd_word (by decide +kernel)⟩
  ·exact⟨.ref t4,.bag [],atI_nat (j:=3) rfl,by rw[dat,datB];exact IsDt.mono sl.tups d4,by rw[vz,vzB];exact Nat.le_max_right _ _,bd_bag0⟩
 obtain⟨u',x',ea,ix,lx,bx⟩:=key
 exact ixl (SqL.of upd_same) ea ⟨(by show 2<=sizeLine;decide),fun t ht=>fin t fl u' x' _ (fun b o nb q=>same_new ht _ _ _ (sa _ _ (ex1 b o nb q))) ((dk1.keep sa).new ht) upd_same (IsDt.mono (same_new ht _).tups ix) lx (Nat.le_succ _) (fun _=>bx)⟩
end
end K09
end
section
namespace K09
open PySem L2 Kn
theorem lc_map {K:PySem.W.Frag}{te:TE}{e:ZC->TE}{fr:List (Str×Nat)} {σ:St} {H:Hp}{Q:VK}{xs:List V}{ds:List Dt} (F:Dt->Dt)
  (ht:∀ R:VK,(∀ (l:Addr) (H0:Hp),Same H H0->H0 l=some (.lst xs)->R (.ref l) H0)->te σ H R) (ix:IsDts H ds xs) (ln:ds.length<=1000000)
  (he:∀ (z:ZC) (v:V) (d:Dt) (H1:Hp) (R:VK),Same H H1->IsDt H1 d v->d∈ds->(∀ y H2,Same H1 H2->IsDt H2 (F d) y->R y H2)->e z (some v::fr.map fun q=>(σ[q.2]?).join) H1 R)
  (fin:∀ (l':Addr) (ys:List V) (H':Hp),Same H H'->H' l'=some (.lst ys)->IsDts H' (ds.map F) ys->Q (.ref l') H') :
  tLC (fun σ H R=>iList K te σ H R\/iTup K te σ H R) 1 fr (fun _=>gName 0) (fun _=>tAll) e σ H Q:=by
 refine .inl (ht _ fun l H0 s0 hl=>⟨l,rfl,⟨xs,SqL.of hl⟩,?_⟩)
 replace ix:=IsDts.mono s0.tups ix
 refine⟨fun i m zs H2=>m+i=ds.length/\Same H0 H2/\IsDts H2 ((ds.take i).map F) zs,⟨ds.length,rfl,fun _ _ q=>q,.nil⟩,?_⟩
 rintro i m zs H2 ⟨hm,s2,iz⟩
 have lx:xs.length=ds.length:=ix.length
 refine⟨line1 (by rw[iz.length,List.length_map,List.length_take];lia),?_⟩
 by_cases hi:i<ds.length
 ·obtain⟨y,ey,iy⟩:=ix.get (i:=i) (List.getElem?_eq_getElem hi)
  refine .inr ⟨⟨_,_,SqL.of (s2 _ _ hl),ey⟩,fun z x H3 hy=>?_⟩
  obtain⟨eH,hx⟩:=hy
  rw[eH]
  clear eH H3
  have e2:=hx _ (SqL.of (s2 _ _ hl))
  rw[ey]at e2
  cases e2
  refine gallW (he z _ _ H2 _ (s0.trans s2) (IsDt.mono s2.tups iy) (List.getElem_mem hi) fun w H4 s4 iw=>⟨m-1,by lia,by lia,s2.trans s4,?_⟩)
  rw[List.take_add_one,List.getElem?_eq_getElem hi,List.map_append]
  exact (IsDts.mono s4.tups iz).append (.one iw)
 ·refine .inl ⟨⟨_,SqL.of (s2 _ _ hl),by lia⟩,fun l' hl'=>fin l' zs _ (s0.trans (s2.trans (same_new hl' _))) upd_same ?_⟩
  rw[List.take_of_length_le (show ds.length<=i by lia)]at iz
  exact IsDts.mono (same_new hl' _).tups iz
end K09
end
section
namespace K09
open PySem L2 Kn
theorem for_rangeH {lo:Int}{n:Nat}{g:TG}{tb:TS}{D:Ends} {σ:St} {H:Hp} (Pv:Nat->St->Hp->Prop) (h0:Pv 0 σ H)
  (hs:∀ (E:Ends) i σ H,i<n->Pv i σ H->(∀ σ H,Pv (i+1) σ H->E.nx σ H)->(∀ v H,D.rt v H->E.rt v H)->g (.int (lo+i)) σ H fun σ2 H2=>tb E σ2 H2) (hd:∀ σ H,Pv n σ H->D.nx σ H) :
  ∃ W:Nat->Nat->St->Hp->Prop,(∃ m,W 0 m σ H)/\∀ i m σ H,W i m σ H ->
   ((Itr lo n).stop i H/\D.nx σ H)\/((Itr lo n).go i H/\∃ N:St->Hp->Prop,(∀ σ' H',N σ' H'->∃ m',m'<m/\W (i+1) m' σ' H')/\∀ x H',(Itr lo n).yld i H x H'->g x σ H' fun σ2 H2=>tb { D with nx:=N,ct:=N,bk:=D.nx } σ2 H2):=
 for_range Pv h0 (fun i σ H hi q=>hs _ i σ H hi q (fun _ _ h=>h) fun _ _ h=>h) hd
def rowF (nm:Str) (d:Dt):Dt:=.tup [.str (Str.ofString "row"),.tup [.tup [.str nm,d]]]
def bagF (d:Dt):Dt:=.tup [.str (Str.ofString "bag"),.tup [.tup [d,.int 1]]]
theorem rowF_v (nm:Str) (v:Val):rowF nm (dat v)=dat (.row [(nm,v)]):=by rw[dat,datR_map];rfl
theorem rowF_k (nm:Str) (k:Kd):rowF nm (kdD k)=kdD (.row [(nm,k)]):=by rw[kdD,kdR_map];rfl
theorem bagF_v (v:Val):bagF (dat v)=dat (.bag [(v,1)]):=by rw[dat,datB_map];rfl
section
variable {P:Program}{w:World}{K:PySem.W.Frag}{mg:Str->Option Value}{base:Heap}{f f_next f_name:Addr}{fd fd_next fd_name:FuncData}
theorem ZaG:FnScope ["deck","chains","k","name"] ["deck"] (defScope (top 25)):=⟨rfl,rfl,rfl,by decide +kernel,rfl,by decide +kernel,by decide +kernel⟩
def Chn (H:Hp) (l:Addr) (b:Nat):Prop:=∃ (u1 u2 u3:V) (v1 v2:Val) (k:Kd),H l=some (.lst [u1,u2,u3])/\IsDt H (dat v1) u1/\IsDt H (dat v2) u2/\IsDt H (kdD k) u3/\vz v1<=b/\vz v2<=b/\kw k<=b
def spChains:Sp:=fun vs H Q _=>∃ (p:Addr) (n r:Int),vs=[.ref p]/\Dk H p n r/\n+200<1000000000000 /\
 ∀ (l:Addr) (H':Hp),Ex p H H'->Dk H' p (n+144) r->Chn H' l 100->Q (.ref l) H'
theorem ok_chains (T:Tx mg) (D:Df K mg "_law_chains" (top 25) f fd ["deck"]) (Zaa:Df K mg "_law_next" (top 7) f_next fd_next ["deck","many"]) (Zab:FnOk P w K mg base CX0 1 f_next fd_next ["deck","many"] spNext)
  (Zac:Df K mg "_law_name" (top 10) f_name fd_name ["deck"]) (Zai:FnOk P w K mg base CX0 2 f_name fd_name ["deck"] spName):FnOk P w K mg base CX0 3 f fd ["deck"] spChains:=by
 refine D.fn.okH (k:=2) ZaG (fun vs H Q E h=>?_) (fun cdv A outer s H vs Q E hr h=>?_)
 ·obtain⟨p,n,r,rfl,_⟩:=h;rfl
 obtain⟨p,n,r,rfl,dk,hn,fin⟩:=h
 have hu:=u110 hr
 have hu0:=u0 hr
 have hu1:=hu_of hr
 refine⟨_,(wss_cons (ws_set (i:=1) ZaG.nd rfl (Or.inl rfl) (we_lst (wa_cons (we_tup (wa_consts rfl)) (wa_cons (we_ix (ix_U hu1) (we_lst (wa_cons (we_tup (wa_consts rfl)) (wa_cons (we_tup (wa_cons we_str (wa_cons (we_tup wa_nil) wa_nil))) (wa_cons (we_tup (wa_cons we_str (wa_cons (we_tup wa_nil) wa_nil))) wa_nil)))) (we_call Zab (hr.mono (by lia)) rfl Zaa.mg Zaa.kp Zaa.b .nil pass0 (wa_cons (wv 0) (wa_cons we_int wa_nil))) (fun _ _=>rfl)) (wa_cons (we_tup (wa_cons we_str wa_nil)) wa_nil)))))
   (wss_cons (ws_for PassesOwn.never rfl (wi_range1 rfl T.z_range (wa_cons we_int wa_nil)) (wg_name (i:=2) ZaG.nd rfl (Or.inl rfl)) (wss_one (ws_if (wt_cmpR (op_eqU hu) (we_call Zab (hr.mono (by lia)) rfl Zaa.mg Zaa.kp Zaa.b .nil pass0 (wa_cons (wv 0) (wa_cons we_int wa_nil))) we_int (nomark _)) (wss_cons (ws_set (i:=3) ZaG.nd rfl (Or.inr rfl) (we_call Zai (hr.mono (by lia)) rfl Zac.mg Zac.kp Zac.b .nil pass0 (wa_cons (wv 0) wa_nil)))
   (wss_one (ws_lc (j:=1) (hN:=ZaG.nd) (hj:=rfl) (hy:=(Or.inl rfl)) (Nt:=["one"]) (fr:=[("name",3)]) (LcOk.of (sc:=defScope (top 25)) (N:=["deck","chains","k","name"]) rfl rfl (by decide +kernel)) rfl (wi_U (wv 1)) (fun z=>wg_name (i:=0) (by show (["one","name"]:List Str).Nodup;decide +kernel) rfl (Or.inl rfl) (.inr rfl)) (fun z=>tgt_name (by decide)) (fun z=>wif_nil) (fun z=>(we_tup (wa_cons we_str (wa_cons (we_tup (wa_cons (we_tup (wa_cons (wv 1) (wa_cons (wv 0) wa_nil))) wa_nil)) wa_nil))))))) (wss_one (ws_set (i:=1) ZaG.nd rfl (Or.inl rfl) (we_op op_plus (we_lc (Nt:=["one"]) (fr:=[]) (LcOk.of (sc:=defScope (top 25)) (N:=["deck","chains","k","name"]) rfl rfl (by decide +kernel)) rfl (wi_U (we_slice sl_U (wv 1) wo_none (wo_some we_int))) (fun z=>wg_name (i:=0) (by show (["one"]:List Str).Nodup;decide +kernel) rfl (Or.inl rfl) (.inr rfl)) (fun z=>tgt_name (by decide)) (fun z=>wif_nil) (fun z=>(we_tup (wa_cons we_str (wa_cons (we_tup (wa_cons (we_tup (wa_cons (wv 0) (wa_cons we_int wa_nil))) wa_nil)) wa_nil))))) (we_lst (wa_cons (we_tup (wa_cons we_str (wa_cons (we_ix (ix_U hu1) (wv 1) we_int (fun _ _=>rfl)) wa_nil))) wa_nil))))))))
   (wss_one (ws_ret (wv 1))))),?_⟩
 refine seqH fun N1 to1=>?_
 have start:∀ (l:Addr) (H1:Hp),Ex p H H1->Dk H1 p (n+1) r->Chn H1 l 1->N1 [some (.ref p),some (.ref l),none,none] H1:=by
  intro l H1 ex1 dk1 ch1
  refine to1 _ _ (seqH fun N2 to2=>⟨_,rfl,by decide,by decide,?_⟩)
  refine for_rangeH (n:=(11:Int).toNat) (fun i σ H'=>(∃ (l:Addr) (o2 o3:Option V),σ=[some (.ref p),some (.ref l),o2,o3]/\Chn H' l (1+9 * i))/\Ex p H H'/\Dk H' p (n+1+13 * i) r) ⟨⟨l,none,none,rfl,ch1⟩,ex1,by simpa using dk1⟩ ?turn ?done
  case done=>
   rintro σ H' ⟨⟨l,o2,o3,rfl,ch⟩,ex,dk'⟩
   exact to2 _ _ ⟨_,rfl,fin l H' ex (by have e:n+1+13 * (((11:Int).toNat:Nat):Int)=n+144:=(by lia);rw[e]at dk';exact dk') (by obtain⟨u1,u2,u3,v1,v2,k,a1,a2,a3,a4,a5,a6,a7⟩:=ch;exact⟨u1,u2,u3,v1,v2,k,a1,a2,a3,a4,Nat.le_trans a5 (by decide),Nat.le_trans a6 (by decide),Nat.le_trans a7 (by decide)⟩)⟩
  case turn=>
   rintro E3 i σ H2 hi ⟨⟨l,o2,o3,rfl,u1,u2,u3,v1,v2,k,a1,a2,a3,a4,a5,a6,a7⟩,ex2,dk2⟩ toE _
   dsimp only[gName,List.set]
   have nlp:l≠p:=fun z=>by obtain⟨c1,c2,c3,c4,e,_⟩:=dk2;rw[z,e]at a1;cases a1
   refine⟨_,rfl,p,_,r,2,rfl,dk2,by lia,by decide,by decide,fun x H3 x0 x1 ex3 dk3=>.inl ⟨rfl,_,rfl,ite2 (fun _=>?_) (fun _=>?_)⟩⟩
   ·have hl3:=ex3 _ _ nlp a1
    have t3:=dk2.tups ex3
    refine seqH fun M1 m1=>⟨_,rfl,p,_,r,rfl,dk3,by lia,fun nm H4 ln lt ex4 dk4=>m1 _ _ ?_⟩
    have hl4:=ex4 _ _ nlp hl3
    have t4:=dk3.tups ex4
    have b2:=IsDt.mono t4 (IsDt.mono t3 a2)
    have b3:=IsDt.mono t4 (IsDt.mono t3 a3)
    have b4:=IsDt.mono t4 (IsDt.mono t3 a4)
    refine lc_map (K:=K) (Q:=fun v H'=>E3.nx [some (.ref p),some v,some (.int (0+(i:Int))),some (.str nm)] H') (rowF nm) (fun R q=>⟨_,rfl,q _ _ (fun _ _ q=>q) hl4⟩) (.cons b2 (.cons b3 (.one b4))) (by show 3<=1000000;decide) (fun z v d H5 R s5 iv _ k5=>?_) fun l5 y5 H5 s5 hl5 i5=>?_
    ·refine⟨_,rfl,_,rfl,(by show 2<=sizeLine;decide),fun t ht=>⟨(by show 1<=sizeLine;decide),fun t2 ht2=>⟨(by show 2<=sizeLine;decide),fun t5 ht5=>k5 _ _ ((same_new ht _).trans ((same_new ht2 _).trans (same_new ht5 _))) ?_⟩⟩⟩
     exact isDt_new ht5 (.cons (isDt_str _) (.one (isDt_new ht2 (.one (isDt_new ht (.cons (isDt_str _) (.one iv)))))))
    ·rw[List.map_cons,List.map_cons,List.map_cons,List.map_nil,rowF_v,rowF_v,rowF_k,IsDts]at i5
     obtain⟨w1,r1,rfl,c1,i5⟩:=i5
     rw[IsDts]at i5
     obtain⟨w2,r2,rfl,c2,i5⟩:=i5
     rw[IsDts]at i5
     obtain⟨w3,r3,rfl,c3,i5⟩:=i5
     rw[IsDts]at i5
     subst i5
     refine toE _ _ ⟨⟨l5,_,_,rfl,w1,w2,w3,.row [(nm,v1)],.row [(nm,v2)],.row [(nm,k)],hl5,c1,c2,c3,?_,?_,?_⟩,fun b o nb q=>s5 _ _ (ex4 b o nb (ex3 b o nb (ex2 b o nb q))),?_⟩
     ·rw[vz,vzR,vzR];show 1+(vz v1+0)<=_;lia
     ·rw[vz,vzR,vzR];show 1+(vz v2+0)<=_;lia
     ·rw[kw,kwR,kwR];show 1+max (kw k) (0+1)<=_;have:=Nat.max_le.mpr ⟨Nat.le_add_right (kw k) 1,Nat.le_add_left 1 (kw k)⟩;lia
     ·exact (dk4.keep s5).mono (by lia)
   ·have hl3:=ex3 _ _ nlp a1
    have t3:=dk2.tups ex3
    have b2:=IsDt.mono t3 a2
    have b3:=IsDt.mono t3 a3
    have b4:=IsDt.mono t3 a4
    dsimp only[tAsg,tOp]
    refine lc_map (K:=K) (xs:=[u1,u2]) bagF (fun R q=>⟨_,rfl,_,rfl,.inl ⟨l,_,rfl,SqL.of hl3,fun l4 hl4=>q _ _ (same_new hl4 _) upd_same⟩⟩) (.cons b2 (.one b3)) (by show 2<=1000000;decide) (fun z v d H5 R s5 iv _ k5=>?_) fun l5 y5 H5 s5 hl5 i5=>?_
    ·refine⟨_,rfl,(by show 2<=sizeLine;decide),fun t ht=>⟨(by show 1<=sizeLine;decide),fun t2 ht2=>⟨(by show 2<=sizeLine;decide),fun t5 ht5=>k5 _ _ ((same_new ht _).trans ((same_new ht2 _).trans (same_new ht5 _))) ?_⟩⟩⟩
     exact isDt_new ht5 (.cons (isDt_str _) (.one (isDt_new ht2 (.one (isDt_new ht (.cons iv (.one (isDt_int _))))))))
    ·rw[List.map_cons,List.map_cons,List.map_nil,bagF_v,bagF_v,IsDts]at i5
     obtain⟨w1,r1,rfl,c1,i5⟩:=i5
     rw[IsDts]at i5
     obtain⟨w2,r2,rfl,c2,i5⟩:=i5
     rw[IsDts]at i5
     subst i5
     refine⟨_,rfl,ixl (SqL.of (s5 _ _ hl3)) (atI_nat (j:=2) rfl) ⟨(by show 2<=sizeLine;decide),fun t ht=>⟨(by show 1<=sizeLine;decide),fun l6 hl6=>.inr (.inr (.inl ⟨l5,l6,[w1,w2],[.ref t],rfl,rfl,same_new hl6 _ _ _ (same_new ht _ _ _ hl5),upd_same,(by show 3<=sizeLine;decide),fun l7 hl7=>?_⟩))⟩⟩⟩
     have st:=same_new ht (.tup [.str "bag",u3])
     have s6:=(same_new hl6 (.lst [.ref t])).trans (same_new hl7 (.lst ([w1,w2]++[.ref t])))
     have d3:IsDt (upd H5 t (.tup [.str "bag",u3])) (kdD (.bag k)) (.ref t):=by rw[kdD];exact isDt_new ht (.cons (isDt_str _) (.one (IsDt.mono s5.tups b4)))
     have s56:=(s5.trans st).trans s6
     refine toE _ _ ⟨⟨l7,_,_,rfl,w1,w2,.ref t,.bag [(v1,1)],.bag [(v2,1)],.bag k,upd_same,IsDt.mono (st.trans s6).tups c1,IsDt.mono (st.trans s6).tups c2,IsDt.mono s6.tups d3,?_,?_,?_⟩,fun b o nb q=>s56 _ _ (ex3 b o nb (ex2 b o nb q)),?_⟩
     ·rw[vz,vzB,vzB];show 1+(vz v1+0)<=_;lia
     ·rw[vz,vzB,vzB];show 1+(vz v2+0)<=_;lia
     ·rw[kw];lia
     ·exact (dk3.keep s56).mono (by lia)
 refine⟨(by show 2<=sizeLine;decide),fun t1 h1=>⟨(by show 2<=sizeLine;decide),fun t2 h2=>⟨(by show 0<=sizeLine;decide),fun t3 h3=>⟨(by show 2<=sizeLine;decide),fun t4 h4=>⟨(by show 0<=sizeLine;decide),fun t5 h5=>⟨(by show 2<=sizeLine;decide),fun t6 h6=>⟨(by show 3<=sizeLine;decide),fun l0 hl0=>?_⟩⟩⟩⟩⟩⟩⟩
 have d1:=isDt_new (ds:=[.str (Str.ofString "num"),.int 7]) h1 (.cons (isDt_str _) (.one (isDt_int _)))
 have s2:=same_new h2 (.tup [.str "word",.str "x"])
 have d2:=isDt_new (ds:=[.str (Str.ofString "word"),.str (Str.ofString "x")]) h2 (.cons (isDt_str _) (.one (isDt_str _)))
 have s3:=same_new h3 (.tup [])
 have s4:=same_new h4 (.tup [.str "bag",.ref t3])
 have d4:=isDt_new (ds:=[.str (Str.ofString "bag"),.tup []]) h4 (.cons (isDt_str _) (.one (isDt_new (ds:=[]) h3 .nil)))
 have s5:=same_new h5 (.tup [])
 have s6:=same_new h6 (.tup [.str "row",.ref t5])
 have d6:=isDt_new (ds:=[.str (Str.ofString "row"),.tup []]) h6 (.cons (isDt_str _) (.one (isDt_new (ds:=[]) h5 .nil)))
 have sl:=same_new hl0 (.lst [.ref t2,.ref t4,.ref t6])
 have s16:=((((s2.trans s3).trans s4).trans s5).trans s6).trans sl
 have sa:=(same_new h1 (.tup [.str "num",.int 7])).trans s16
 have hl1:(upd (upd (upd (upd (upd (upd (upd H t1 (.tup [.str "num",.int 7])) t2 (.tup [.str "word",.str "x"])) t3 (.tup [])) t4 (.tup [.str "bag",.ref t3])) t5 (.tup [])) t6 (.tup [.str "row",.ref t5])) l0 (.lst [.ref t2,.ref t4,.ref t6])) l0=some (.lst [.ref t2,.ref t4,.ref t6]):=upd_same
 replace d1:=IsDt.mono s16.tups d1
 replace d2:=IsDt.mono ((((s3.trans s4).trans s5).trans s6).trans sl).tups d2
 replace d4:=IsDt.mono ((s5.trans s6).trans sl).tups d4
 replace d6:=IsDt.mono sl.tups d6
 obtain⟨H1,e1⟩:∃ H1,H1=upd (upd (upd (upd (upd (upd (upd H t1 (.tup [.str "num",.int 7])) t2 (.tup [.str "word",.str "x"])) t3 (.tup [])) t4 (.tup [.str "bag",.ref t3])) t5 (.tup [])) t6 (.tup [.str "row",.ref t5])) l0 (.lst [.ref t2,.ref t4,.ref t6]):=⟨_,rfl⟩
 rw[<- e1]at sa hl1 d1 d2 d4 d6 ⊢
 clear e1 s16 sl
 have dk1:=dk.keep sa
 have nl:l0≠p:=fun z=>by obtain⟨c1,c2,c3,c4,e,_⟩:=dk1;rw[z,e]at hl1;cases hl1
 refine⟨_,rfl,p,n,r,3,rfl,dk1,by lia,by decide,by decide,fun i H2 i0 i1 ex2 dk2=>?_⟩
 have t2':=dk1.tups ex2
 have key:∃ (u':V) (x':Val),atI [.ref t2,.ref t4,.ref t6] i=some u'/\IsDt H2 (dat x') u'/\vz x'<=1:=by
  rcases (show i=0\/i=1\/i=2 by lia) with rfl | rfl | rfl
  ·exact⟨.ref t2,.word (Str.ofString "x"),atI_nat (j:=0) rfl,by rw[dat];exact IsDt.mono t2' d2,by rw[vz];exact Nat.le_refl _⟩
  ·exact⟨.ref t4,.bag [],atI_nat (j:=1) rfl,by rw[dat,datB];exact IsDt.mono t2' d4,by rw[vz,vzB];exact Nat.le_refl _⟩
  ·exact⟨.ref t6,.row [],atI_nat (j:=2) rfl,by rw[dat,datR];exact IsDt.mono t2' d6,by rw[vz,vzR];exact Nat.le_refl _⟩
 obtain⟨u',x',ea,ix,lx⟩:=key
 refine ixl (SqL.of (ex2 _ _ nl hl1)) ea ⟨(by show 1<=sizeLine;decide),fun t7 h7=>⟨(by show 3<=sizeLine;decide),fun l hl=>start l _ (fun b o nb q=>same_new hl _ _ _ (same_new h7 _ _ _ (ex2 b o nb (sa _ _ q)))) ((dk2.new h7).new hl) ⟨.ref t1,u',.ref t7,.num 7,x',.num,upd_same,?_,?_,?_,by rw[vz];exact Nat.le_refl _,lx,by rw[kw];exact Nat.le_refl _⟩⟩⟩
 ·rw[dat];exact IsDt.mono (same_new hl _).tups (IsDt.mono (same_new h7 _).tups (IsDt.mono t2' d1))
 ·exact IsDt.mono (same_new hl _).tups (IsDt.mono (same_new h7 _).tups ix)
 ·rw[kdD];exact IsDt.mono (same_new hl _).tups (isDt_new h7 (.one (isDt_str _)))
end
end K09
end
section
namespace K09
open PySem L2 Kn
def KB:Nat->Kd->Prop
 | _,.num=>True
 | _,.word=>True
 | 0,.row fs=>fs=[]
 | 0,.bag _=>False
 | d+1,.row fs=>fs.length<=7/\∀ p∈fs,KB d p.2
 | d+1,.bag k=>KB d k
theorem kb_num {d:Nat}:KB d .num:=by cases d <;> rw[KB] <;> trivial
theorem kb_word {d:Nat}:KB d .word:=by cases d <;> rw[KB] <;> trivial
theorem KB.up:∀ {d:Nat}{k:Kd},KB d k->KB (d+1) k
 | _,.num,_=>kb_num
 | _,.word,_=>kb_word
 | 0,.row fs,h=>by rw[KB]at h;subst h;rw[KB];exact⟨by decide,fun p hp=>(nomatch hp)⟩
 | 0,.bag k,h=>by rw[KB]at h;exact h.elim
 | d+1,.row fs,h=>by rw[KB]at h ⊢;exact⟨h.1,fun p hp=>(h.2 p hp).up⟩
 | d+1,.bag k,h=>by rw[KB]at h ⊢;exact h.up
theorem KB.le {d e:Nat}{k:Kd} (h:KB d k) (l:d<=e):KB e k:=by
 induction l with
 | refl=>exact h
 | step _ ih=>exact ih.up
theorem kwR_le {B:Nat}:∀ {fs:List (Str×Kd)},(∀ p∈fs,kw p.2<=B)->kwR fs<=B+fs.length
 | [],_=>by rw[kwR];exact Nat.zero_le _
 | p::ps,h=>by
  have h1:=h p List.mem_cons_self
  have h2:=kwR_le (fs:=ps) fun q hq=>h q (List.mem_cons_of_mem _ hq)
  rw[kwR,List.length_cons]
  exact Nat.max_le.mpr ⟨by lia,by lia⟩
theorem KB.kw:∀ {d:Nat}{k:Kd},KB d k->kw k<=1+9 * d
 | _,.num,_=>by rw[K09.kw];lia
 | _,.word,_=>by rw[K09.kw];lia
 | 0,.row fs,h=>by rw[KB]at h;subst h;rw[K09.kw,kwR];exact Nat.le_refl _
 | 0,.bag k,h=>by rw[KB]at h;exact h.elim
 | d+1,.row fs,h=>by
  rw[KB]at h
  have:=kwR_le (B:=1+9 * d) fun p hp=>(h.2 p hp).kw
  have:=h.1
  rw[K09.kw];lia
 | d+1,.bag k,h=>by rw[KB]at h;have:=h.kw;rw[K09.kw];lia
def AllK (H:Hp) (d:Nat) (kvs:List (Key×V)):Prop:=∀ kv∈kvs,∃ (s:Str) (k:Kd),kv.1=Sum.inr s/\KB d k/\IsDt H (kdD k) kv.2
theorem AllK.mono {H H':Hp}{d:Nat}{kvs:List (Key×V)} (t:Tups H H') (h:AllK H d kvs):AllK H' d kvs:=fun kv hk=>by
 obtain⟨s,k,e1,e2,e3⟩:=h kv hk;exact⟨s,k,e1,e2,IsDt.mono t e3⟩
theorem AllK.put {H:Hp}{d:Nat}{kvs:List (Key×V)} (h:AllK H d kvs) {s:Str}{k:Kd}{v:V} (e2:KB d k) (e3:IsDt H (kdD k) v):AllK H d (putK kvs (Sum.inr s) v):=fun kv hk=>by
 rcases put_mem hk with q | rfl
 ·exact h kv q
 ·exact⟨s,k,rfl,e2,e3⟩
theorem AllK.pick {H:Hp}{d:Nat}{kvs:List (Key×V)} (h:AllK H d kvs):∃ g:Str->Kd,∀ s v,valV kvs (Sum.inr s)=some v->KB d (g s)/\IsDt H (kdD (g s)) v:=by
 have:∀ s:Str,∃ k:Kd,∀ v,valV kvs (Sum.inr s)=some v->KB d k/\IsDt H (kdD k) v:=fun s=>by
  cases e:valV kvs (Sum.inr s) with
  | none=>exact⟨.num,fun v q=>(nomatch q)⟩
  | some v=>
   obtain⟨kv,h1,h2,h3⟩:=valV_mem (valV_in e)
   obtain⟨s',k,e1,e2,e3⟩:=h kv h1
   rw[e]at h3
   injection h3 with h3
   exact⟨k,fun w q=>by injection q with q;rw[<- q,h3];exact⟨e2,e3⟩⟩
 exact⟨fun s=>(this s).choose,fun s=>(this s).choose_spec⟩
theorem lc_rowK {K:PySem.W.Frag}{te:TE}{e:ZC->TE}{fr:List (Str×Nat)} {σ:St} {H:Hp}{Q:VK}{c:Addr}{kvs:List (Key×V)}{d:Nat} (hc:H c=some (.dK kvs)) (ln:kvs.length<=7) (ak:AllK H d kvs)
  (ht:∀ R:VK,(∀ (p:Addr) (ys:List Str),H p=none->(ys.map (Sum.inr:Str->Key)).Perm (kvs.map (·.1))->PyProof.Rows.sortedS ys=true->R (.ref p) (upd H p (.lst (ys.map V.str))))->te σ H R)
  (he:∀ (z:ZC) (s:Str) (v:V) (H1:Hp) (R:VK),Same H H1->DGet H1 c (.str s) (some v)->(∀ t:Addr,H1 t=none->R (.ref t) (upd H1 t (.tup [.str s,v])))->e z (some (.str s)::fr.map fun q=>(σ[q.2]?).join) H1 R)
  (fin:∀ (l:Addr) (ys:List V) (H':Hp) (fs:List (Str×Kd)),Same H H'->H' l=some (.lst ys)->IsDts H' (kdR fs) ys->KB (d+1) (.row fs)->fs.length<=7->Q (.ref l) H') :
  tLC (fun σ H R=>iList K te σ H R\/iTup K te σ H R) 1 fr (fun _=>gName 0) (fun _=>tAll) e σ H Q:=by
 refine .inl (ht _ fun p ys hp perm _=>⟨p,rfl,⟨_,SqL.of upd_same⟩,?_⟩)
 obtain⟨g,hg⟩:=ak.pick
 have ly:ys.length=kvs.length:=by have:=perm.length_eq;simpa using this
 have sa:=same_new hp (.lst (ys.map V.str))
 have hA:(upd H p (.lst (ys.map V.str))) p=some (.lst (ys.map V.str)):=upd_same
 obtain⟨HA,eA⟩:∃ HA,HA=upd H p (.lst (ys.map V.str)):=⟨_,rfl⟩
 rw[<- eA]at sa hA ⊢
 refine⟨fun i m zs H2=>Same HA H2/\m+i=ys.length/\IsDts H2 (kdR ((ys.take i).map fun y=>(y,g y))) zs,⟨ys.length,fun _ _ q=>q,rfl,by rw[List.take_zero,List.map_nil,kdR];exact .nil⟩,?_⟩
 rintro i m zs H2 ⟨s2,hm,iq⟩
 have nz:zs.length=min i ys.length:=by rw[iq.length,kdR_map,List.length_map,List.length_map,List.length_take]
 refine⟨line1 (by lia),?_⟩
 have hA2:=s2 _ _ hA
 by_cases hi:i<ys.length
 ·have hyi:(ys.map V.str)[i]?=some (.str ys[i]):=by rw[List.getElem?_map,List.getElem?_eq_getElem hi];rfl
  refine .inr ⟨⟨_,_,SqL.of hA2,hyi⟩,fun z x H5 hy=>?_⟩
  obtain⟨eH,hx⟩:=hy
  rw[eH]
  clear eH H5
  obtain rfl:V.str ys[i]=x:=by have:=hx _ (SqL.of hA2);rw[hyi]at this;injection this
  obtain⟨kv,hkm,hk1,hk2⟩:=valV_mem (kvs:=kvs) (k:=Sum.inr ys[i]) (perm.mem_iff.mp (List.mem_map.mpr ⟨_,List.getElem_mem hi,rfl⟩))
  have gg:DGet H2 c (.str ys[i]) (some kv.2):=by rw[<- hk2];exact DGet.k (k:=Sum.inr ys[i]) (s2 _ _ (sa _ _ hc))
  refine gallW (he z _ _ H2 _ (sa.trans s2) gg fun t ht=>⟨m-1,by lia,s2.trans (same_new ht _),by lia,?_⟩)
  rw[List.take_add_one,List.getElem?_eq_getElem hi,List.map_append,kdR_map,List.map_append,<- kdR_map]
  exact (IsDts.mono (same_new ht _).tups iq).append (.one (isDt_new ht (.cons (isDt_str _) (.one (IsDt.mono (sa.trans s2).tups (hg _ _ hk2).2)))))
 ·refine .inl ⟨⟨_,SqL.of hA2,by rw[List.length_map];lia⟩,fun l hl=>?_⟩
  rw[List.take_of_length_le (by lia)]at iq
  refine fin l zs _ (ys.map fun y=>(y,g y)) ((sa.trans s2).trans (same_new hl _)) upd_same (IsDts.mono (same_new hl _).tups iq) ?_ (by rw[List.length_map];lia)
  rw[KB,List.length_map]
  refine⟨by lia,fun q hq=>?_⟩
  obtain⟨y,hy,rfl⟩:=List.mem_map.mp hq
  obtain⟨kv,hkm,hk1,hk2⟩:=valV_mem (kvs:=kvs) (k:=Sum.inr y) (perm.mem_iff.mp (List.mem_map.mpr ⟨_,hy,rfl⟩))
  exact (hg _ _ hk2).1
section
variable {P:Program}{w:World}{K:PySem.W.Frag}{mg:Str->Option Value}{base:Heap}{f f_next f_name:Addr}{fd fd_next fd_name:FuncData}
def spKind (d:Nat):Sp:=fun vs H Q _=>∃ (p:Addr) (n r:Int),vs=[.ref p,.int d]/\Dk H p n r/\0<=n/\n+cst d<1000000000000 /\
 ∀ (x:Kd) (v:V) (H':Hp) (r':Int),KB d x->IsDt H' (kdD x) v->Ex p H H'->Dk H' p (n+cst d) r'->Q v H'
theorem ZaZ:FnScope ["deck","deep","kind","parts","k"] ["deck","deep"] (defScope (top 17)):=⟨rfl,rfl,rfl,by decide +kernel,rfl,by decide +kernel,by decide +kernel⟩
theorem ok_kind {k d:Nat} (hk:2<=k) (hd:d<=20) (T:Tx mg) (Zae:Df K mg "_law_kind" (top 17) f fd ["deck","deep"]) (Zap:FnOk P w K mg base CX0 k f fd ["deck","deep"] (pre spKind d))
  (Zaa:Df K mg "_law_next" (top 7) f_next fd_next ["deck","many"]) (Zab:FnOk P w K mg base CX0 1 f_next fd_next ["deck","many"] spNext)
  (Zac:Df K mg "_law_name" (top 10) f_name fd_name ["deck"]) (Zai:FnOk P w K mg base CX0 2 f_name fd_name ["deck"] spName) :
  FnOk P w K mg base CX0 (k+1) f fd ["deck","deep"] (spKind d):=by
 refine Zae.fn.okH ZaZ (fun vs H Q E h=>?_) (fun cdv A outer s H vs Q E hr h=>?_)
 ·obtain⟨p,n,r,rfl,_⟩:=h;rfl
 obtain⟨p,n,r,rfl,dk,n0,hn,fin⟩:=h
 have hu:=u110 hr
 have hu0:=u0 hr
 have hu1:=hu_of hr
 have hC:=cst_pos d
 refine⟨_,(wss_cons (ws_asg (we_op op_sub (we_ix (ix_U hu1) (wv 0) we_int (fun _ _=>rfl)) we_int) (wg_sub (wv 0) we_int (set_U hu1)))
   (wss_cons (ws_set (i:=2) ZaZ.nd rfl (Or.inl rfl) (we_call Zab (hr.mono (by lia)) rfl Zaa.mg Zaa.kp Zaa.b .nil pass0 (wa_cons (wv 0) (wa_cons we_int wa_nil))))
   (wss_cons (ws_if (wt_pw (ww_or (wt_cmpR (op_ltU hu0) (wv 1) we_int (nomark _)) (ww_or (wt_cmpR (op_ltU hu0) (wv 2) we_int (nomark _)) (ww_or1 (wt_cmpR (op_ltU hu0) (we_ix (ix_U hu1) (wv 0) we_int (fun _ _=>rfl)) we_int (nomark _)))))) (wss_one (ws_ret (we_ix (ix_U hu1) (we_lst (wa_cons (we_tup (wa_cons we_str wa_nil)) (wa_cons (we_tup (wa_cons we_str wa_nil)) wa_nil))) (we_call Zab (hr.mono (by lia)) rfl Zaa.mg Zaa.kp Zaa.b .nil pass0 (wa_cons (wv 0) (wa_cons we_int wa_nil))) (fun _ _=>rfl)))) wss_nil)
   (wss_cons (ws_if (wt_cmpR (op_ltU hu0) (wv 2) we_int (nomark _)) (wss_one (ws_ret (we_tup (wa_cons we_str (wa_cons (we_call Zap (hr.mono (by lia)) rfl Zae.mg Zae.kp Zae.b .nil pass0 (wa_cons (wv 0) (wa_cons (we_op op_sub (wv 1) we_int) wa_nil))) wa_nil))))) wss_nil)
   (wss_cons (ws_set (i:=3) ZaZ.nd rfl (Or.inr rfl) we_dnewK)
   (wss_cons (ws_for PassesOwn.never rfl (wi_range1 rfl T.z_range (wa_cons (we_ix (ix_U hu1) (we_lst (wa_consts rfl)) (we_call Zab (hr.mono (by lia)) rfl Zaa.mg Zaa.kp Zaa.b .nil pass0 (wa_cons (wv 0) (wa_cons we_int wa_nil))) (fun _ _=>rfl)) wa_nil)) (wg_name (i:=4) ZaZ.nd rfl (Or.inl rfl)) (wss_one (ws_asg (we_call Zap (hr.mono (by lia)) rfl Zae.mg Zae.kp Zae.b .nil pass0 (wa_cons (wv 0) (wa_cons (we_op op_sub (wv 1) we_int) wa_nil))) (wg_sub (wv 3) (we_call Zai (hr.mono (by lia)) rfl Zac.mg Zac.kp Zac.b .nil pass0 (wa_cons (wv 0) wa_nil)) (set_U hu1)))))
   (wss_one (ws_ret (we_tup (wa_cons we_str (wa_cons (we_callTy call_tuple_of rfl T.z_tuple bt_tuple (wa_cons (we_lc (Nt:=["field"]) (fr:=[("parts",3)]) (LcOk.of (sc:=defScope (top 17)) (N:=["deck","deep","kind","parts","k"]) rfl rfl (by decide +kernel)) rfl (wi_U (we_callB (call_sortD rfl) rfl T.z_sorted bt_sorted (wa_cons (wv 3) wa_nil))) (fun z=>wg_name (i:=0) (by show (["field","parts"]:List Str).Nodup;decide +kernel) rfl (Or.inl rfl) (.inr rfl)) (fun z=>tgt_name (by decide)) (fun z=>wif_nil) (fun z=>(we_tup (wa_cons (wv 0) (wa_cons (we_ix (ix_U hu1) (wv 1) (wv 0) (fun _ _=>rfl)) wa_nil))))) wa_nil)) wa_nil))))))))))),?_⟩
 obtain⟨c,f0,m,c0,hp,hm0,hmn⟩:=dk
 refine⟨_,rfl,.inl ⟨p,_,3,_,rfl,rfl,SqL.of hp,rfl,_,_,rfl,rfl,_,rfl,.inl ⟨p,_,3,3,rfl,rfl,hp,rfl,?_⟩⟩⟩
 have dkA:Dk (upd H p (.lst [.int c,.int f0,.int m,.int (r-1),.int c0])) p n (r-1):=⟨c,f0,m,c0,upd_same,hm0,hmn⟩
 refine⟨_,rfl,p,n,_,_,rfl,dkA,by lia,by decide,by decide,fun kd H1 k0 k1 ex1 dk1=>?_⟩
 have exA:Ex p H H1:=(ex_upd).trans ex1
 refine⟨_,rfl,.inl ⟨_,_,rfl,rfl,_,rfl,?_⟩⟩
 refine ite2 (fun e1=>?lf1) (fun e1=>?r1)
 case' lf1=>refine iteT ?_
 case' r1=>
  refine⟨_,rfl,.inl ⟨_,_,rfl,rfl,_,rfl,?_⟩⟩
  refine ite2 (fun e2=>?lf2) (fun e2=>?r2)
 case' lf2=>refine iteT ?_
 case' r2=>
  obtain⟨c',f',m',c0',hp1,hm1,hmn1⟩:=id dk1
  refine⟨_,rfl,.inl ⟨p,_,3,_,rfl,rfl,SqL.of hp1,rfl,.inl ⟨_,_,rfl,rfl,_,rfl,?_⟩⟩⟩
  refine ite2 (fun e3=>?lf3) (fun e3=>?r3)
 case lf1 | lf2 | lf3=>
  refine⟨(by show 1<=sizeLine;decide),fun t1 ht1=>⟨(by show 1<=sizeLine;decide),fun t2 ht2=>⟨(by show 2<=sizeLine;decide),fun l hl=>?_⟩⟩⟩
  have d1:=dk1.new (o:=.tup [.str "num"]) ht1
  have d2:=d1.new (o:=.tup [.str "word"]) ht2
  have d3:=d2.new (o:=.lst [.ref t1,.ref t2]) hl
  have nl:l≠p:=d2.ne hl
  have i1:IsDt (upd (upd H1 t1 (.tup [.str "num"])) t2 (.tup [.str "word"])) (kdD .num) (.ref t1):=IsDt.mono (Tups.new ht2 _) (by rw[kdD];exact isDt_new ht1 (.one (by rw[IsDt])))
  have i2:IsDt (upd (upd H1 t1 (.tup [.str "num"])) t2 (.tup [.str "word"])) (kdD .word) (.ref t2):=by rw[kdD];exact isDt_new ht2 (.one (by rw[IsDt]))
  refine⟨_,rfl,p,n+1,_,_,rfl,d3,by lia,by decide,by decide,fun x H2 h0 h1 ex2 dk2=>?_⟩
  obtain⟨v,hv,hm⟩:=atI_mem (xs:=[V.ref t1,.ref t2]) h0 h1
  refine .inl ⟨l,_,x,v,rfl,rfl,SqL.of (ex2 l _ nl upd_same),hv,?_⟩
  have tt:=(Tups.new hl (.lst [.ref t1,.ref t2])).trans (d3.tups ex2)
  have exN:Ex p H H2:=exA.trans ((ex_new ht1).trans ((ex_new ht2).trans ((ex_new hl).trans ex2)))
  simp only[List.mem_cons,List.not_mem_nil,or_false]at hm
  rcases hm with rfl | rfl
  ·exact fin .num _ H2 (r-1) kb_num (IsDt.mono tt i1) exN (dk2.mono (by lia))
  ·exact fin .word _ H2 (r-1) kb_word (IsDt.mono tt i2) exN (dk2.mono (by lia))
 case r3=>
 have d1:1<=d:=by have:¬((d:Int)<1):=fun z=>e1 (decide_eq_true z);lia
 cases d with
 | zero=>lia
 | succ d=>
 have hS:=cst_succ d
 have hC0:=cst_pos d
 have ed:((d+1:Nat):Int)-1=d:=by lia
 refine⟨_,rfl,.inl ⟨_,_,rfl,rfl,_,rfl,?_⟩⟩
 refine ite2 (fun e4=>?_) (fun e4=>?_)
 ·refine⟨_,rfl,_,rfl,_,_,rfl,rfl,p,n+1,r-1,(show [V.ref p,V.int (((d+1:Nat):Int)-1)]=[V.ref p,.int d] by rw[ed]),dk1,by lia,by lia,fun x v H2 r' kb ix ex2 dk2=>⟨(by show 2<=sizeLine;decide),fun t ht=>?_⟩⟩
  exact fin (.bag x) _ _ r' (by rw[KB];exact kb) (by rw[kdD];exact isDt_new ht (.cons (by rw[IsDt]) (.one ix))) (exA.trans (ex2.trans (ex_new ht))) ((dk2.new ht).mono (by lia))
 intro c hc
 refine⟨(by show 8<=sizeLine;decide),fun l hl=>?_⟩
 have ncp:c≠p:=dk1.ne hc
 have dk0:=(dk1.new (o:=.dK []) hc).new (o:=.lst [.int 0,.int 1,.int 2,.int 3,.int 1,.int 2,.int 6,.int 3]) hl
 have nl:l≠p:=(dk1.new (o:=.dK []) hc).ne hl
 have ncl:c≠l:=fun z=>by rw[<- z,upd_same]at hl;cases hl
 have hc0:H c=none:=by
  cases e:H c with
  | none=>rfl
  | some o=>rw[exA c o ncp e]at hc;cases hc
 refine⟨_,rfl,p,n+1,_,_,rfl,dk0,by lia,by decide,by decide,fun x H2 h0 h1 ex2 dk2=>?_⟩
 obtain⟨v,hv,hm⟩:=atI_mem (xs:=[V.int 0,.int 1,.int 2,.int 3,.int 1,.int 2,.int 6,.int 3]) h0 h1
 have fj:∃ j:Nat,v=.int j/\j<=6:=by
  simp only[List.mem_cons,List.not_mem_nil,or_false]at hm
  rcases hm with rfl | rfl | rfl | rfl | rfl | rfl | rfl | rfl
  ·exact⟨0,rfl,by decide⟩
  ·exact⟨1,rfl,by decide⟩
  ·exact⟨2,rfl,by decide⟩
  ·exact⟨3,rfl,by decide⟩
  ·exact⟨1,rfl,by decide⟩
  ·exact⟨2,rfl,by decide⟩
  ·exact⟨6,rfl,by decide⟩
  ·exact⟨3,rfl,by decide⟩
 obtain⟨j,rfl,hj⟩:=fj
 have mulC:∀ i:Nat,i<=6->(i:Int) * (12+cst d)<=6 * (12+cst d):=fun i hi=>Int.mul_le_mul_of_nonneg_right (by lia) (by lia)
 have mul0:∀ i:Nat,0<=(i:Int) * (12+cst d):=fun i=>Int.mul_nonneg (by lia) (by lia)
 refine .inl ⟨l,_,x,_,rfl,rfl,SqL.of (ex2 l _ nl upd_same),hv,j,rfl,by lia,by lia,for_range (n:=((j:Int)).toNat) (fun i σ H'=>∃ (o4:Option V) (kvs:List (Key×V)) (q:Int),σ=[some (.ref p),some (.int ((d+1:Nat):Int)),some (.int kd),some (.ref c),o4]/\Ex p H H'/\Dk H' p (n+2+i * (12+cst d)) q/\H' c=some (.dK kvs)/\kvs.length<=i/\AllK H' d kvs)
  ⟨none,[],r-1,rfl,exA.trans ((ex_new hc).trans ((ex_new hl).trans ex2)),dk2.mono (by simp;lia),ex2 c _ ncp (by rw[upd_ne ncl];exact upd_same),Nat.le_refl _,fun kv h=>(nomatch h)⟩ ?_ ?_⟩
 ·rintro i σ H' hi ⟨o4,kvs,q,rfl,ex,dk',hkv,lk,ak⟩
  have hi6:i+1<=6:=by lia
  have m1:=mulC (i+1) hi6
  have m0:=mul0 i
  have ms:((i+1:Nat):Int) * (12+cst d)=i * (12+cst d)+(12+cst d):=by rw[Int.natCast_add,Int.add_mul];simp
  refine⟨_,rfl,_,rfl,_,_,rfl,rfl,p,_,q,(show [V.ref p,V.int (((d+1:Nat):Int)-1)]=[V.ref p,.int d] by rw[ed]),dk',by lia,by lia,fun x v H3 r' kb ix ex3 dk3=>⟨_,rfl,_,rfl,p,_,r',rfl,dk3,by lia,fun s H4 ls ll ex4 dk4=>?_⟩⟩
  have t2:=dk'.tups ex3
  have t3:=dk3.tups ex4
  have hc3:=ex4 c _ ncp (ex3 c _ ncp hkv)
  have tu:Tups H4 (upd H4 c (.dK (putK kvs (Sum.inr s) v))):=fun b ys e=>by rw[upd_ne (fun z=>by rw[z,hc3]at e;cases e)];exact e
  refine .inr ⟨c,_,rfl,DPut.k (k:=Sum.inr s) hc3 (Nat.lt_of_le_of_lt (show kvs.length<=1000 by lia) (by decide)),?_⟩
  exact⟨_,_,r',rfl,(ex.trans (ex3.trans ex4)).upd' hc0,(dk4.off (fun z=>ncp z.symm)).mono (by lia),upd_same,Nat.le_trans (length_putK _ _ _) (by lia),((ak.mono (t2.trans t3)).mono tu).put kb (IsDt.mono tu (IsDt.mono t3 ix))⟩
 ·rintro σ H' ⟨o4,kvs,q,rfl,ex,dk',hkv,lk,ak⟩
  have hj6:kvs.length<=6:=by lia
  have mm:=mulC ((j:Int)).toNat (by lia)
  dsimp only[tSeq,tRet,tTup,tCons,tC,tCB]
  refine lc_rowK (K:=K) hkv (by lia) ak (fun R q=>⟨_,rfl,c,kvs,rfl,hkv,(fun kv h=>let ⟨s,_,e,_⟩:=ak kv h;⟨s,e⟩),by lia,q⟩) (fun z s v H1 R s1 gg k=>⟨_,rfl,_,rfl,_,rfl,ixd gg ⟨(by show 2<=sizeLine;decide),k⟩⟩) fun l2 zs H2 fs s2 hl2 iz kb lf=>?_
  refine⟨l2,zs,rfl,.inl ⟨SqL.of hl2,fun t ht=>⟨(by show 2<=sizeLine;decide),fun t2 ht2=>?_⟩⟩⟩
  have sZ:=s2.trans ((same_new ht (.tup zs)).trans (same_new ht2 (.tup [.str "row",.ref t])))
  refine fin (.row fs) _ _ q kb ?_ (ex.trans (fun b o nb z=>sZ b o z)) ((dk'.keep sZ).mono (by lia))
  rw[kdD]
  exact isDt_new ht2 (.cons (by rw[IsDt]) (.one (isDt_new ht iz)))
theorem kind_all (T:Tx mg) (Zae:Df K mg "_law_kind" (top 17) f fd ["deck","deep"])
  (Zaa:Df K mg "_law_next" (top 7) f_next fd_next ["deck","many"]) (Zab:FnOk P w K mg base CX0 1 f_next fd_next ["deck","many"] spNext)
  (Zac:Df K mg "_law_name" (top 10) f_name fd_name ["deck"]) (Zai:FnOk P w K mg base CX0 2 f_name fd_name ["deck"] spName):∀ d:Nat,d<=20->FnOk P w K mg base CX0 (d+3) f fd ["deck","deep"] (spKind d)
 | 0,h=>ok_kind (k:=2) (by decide) h T Zae ⟨fun _ _ _ _ h=>h.elim,fun _ _ _ _ _ _ _ _ _ _ _ _ _ h=>h.elim⟩ Zaa Zab Zac Zai
 | d+1,h=>ok_kind (k:=d+3) (by lia) h T Zae (kind_all T Zae Zaa Zab Zac Zai d (by lia)) Zaa Zab Zac Zai
end
end K09
end
section
namespace K09
open PySem L2 Kn
theorem lc_two {K:PySem.W.Frag}{Kz:ZC->PySem.W.Frag}{te:TE}{e:ZC->TE}{fr:List (Str×Nat)} {σ:St} {H:Hp}{Q:VK}{b:Addr}{xs:List V} (J:Nat->List V->Hp->Prop)
  (ht:∀ R:VK,R (.ref b) H->te σ H R) (j0:J 0 [] H) (stay:∀ i zs H',J i zs H'->H' b=some (.tup xs)/\zs.length<=1000000)
  (step:∀ z i zs H',J i zs H'->i<xs.length->∃ c a1 a2,xs[i]?=some (.ref c)/\H' c=some (.tup [a1,a2])/\∀ R:VK,(∀ y H2,J (i+1) (zs++[y]) H2->R y H2)->e z (some a1::some a2::fr.map fun q=>(σ[q.2]?).join) H' R)
  (fin:∀ (l:Addr) (zs:List V) (H':Hp),J xs.length zs H'->H' l=none->Q (.ref l) (upd H' l (.lst zs))) :
  tLC (fun σ H R=>iList K te σ H R\/iTup K te σ H R) 2 fr (fun z=>gTup (Kz z) 2 (gCons (gName 0) (gCons (gName 1) gNil))) (fun _=>tAll) e σ H Q:=by
 refine .inr (ht _ ⟨b,rfl,⟨xs,SqT.of (stay _ _ _ j0).1⟩,?_⟩)
 refine⟨fun i m zs H2=>m+i=xs.length/\J i zs H2,⟨xs.length,rfl,j0⟩,?_⟩
 rintro i m zs H2 ⟨hm,j⟩
 obtain⟨hb,lz⟩:=stay _ _ _ j
 refine⟨line1 (by lia),?_⟩
 by_cases hi:i<xs.length
 ·refine .inr ⟨⟨_,_,SqT.of hb,List.getElem?_eq_getElem hi⟩,fun z x H3 hy=>?_⟩
  obtain⟨eH,hx⟩:=hy
  rw[eH]
  clear eH H3
  obtain⟨c,a1,a2,e1,hc,k⟩:=step z i zs H2 j hi
  have e2:=hx _ (SqT.of hb)
  rw[e1]at e2
  cases e2
  refine⟨c,_,rfl,SqT.of hc,rfl,_,_,rfl,_,_,rfl,rfl,tallT ?_⟩
  exact k _ fun y H4 q=>⟨m-1,by lia,by lia,q⟩
 ·have ei:i=xs.length:=by lia
  exact .inl ⟨⟨_,SqT.of hb,by lia⟩,fun l hl=>fin l zs _ (ei ▸ j) hl⟩
section
variable {P:Program}{w:World}{K:PySem.W.Frag}{mg:Str->Option Value}{base:Heap}{f f_next f_kind:Addr}{fd fd_next fd_kind:FuncData}
def ca (d:Nat):Int:=5000 * 8 ^ d
theorem ca_pos (d:Nat):5000<=ca d:=by
 unfold ca
 have:(1:Int)<=8 ^ d:=by exact_mod_cast Nat.one_le_pow d 8 (by decide)
 lia
theorem ca_succ (d:Nat):ca (d+1)=8 * ca d:=by unfold ca;rw[Int.pow_succ];lia
def spAlong (d:Nat):Sp:=fun vs H Q _=>∃ (u:V) (v:Val) (p:Addr) (n r:Int),vs=[u,.ref p]/\IsDt H (dat v) u/\Bd 7 d v/\Dk H p n r/\0<=n/\n+ca d<1000000000000 /\
 ∀ (k:Kd) (uk:V) (H':Hp) (r':Int),KB (d+3) k->IsDt H' (kdD k) uk->Ex p H H'->Dk H' p (n+ca d) r'->Q uk H'
theorem Za5:FnScope ["value","deck","word","what"] ["value","deck"] (defScope (top 18)):=⟨rfl,rfl,rfl,by decide +kernel,rfl,by decide +kernel,by decide +kernel⟩
theorem ok_along {k d:Nat} (hk:5<=k) (hd:d<=20) (T:Tx mg) (Zaf:Df K mg "_law_kind_along" (top 18) f fd ["value","deck"]) (ZaB:FnOk P w K mg base CX0 k f fd ["value","deck"] (pre spAlong d))
  (Zaa:Df K mg "_law_next" (top 7) f_next fd_next ["deck","many"]) (Zab:FnOk P w K mg base CX0 1 f_next fd_next ["deck","many"] spNext)
  (Zae:Df K mg "_law_kind" (top 17) f_kind fd_kind ["deck","deep"]) (Zap:FnOk P w K mg base CX0 5 f_kind fd_kind ["deck","deep"] (spKind 2)) :
  FnOk P w K mg base CX0 (k+1) f fd ["value","deck"] (spAlong d):=by
 refine Zaf.fn.okH Za5 (fun vs H Q E h=>?_) (fun cdv A outer s H vs Q E hr h=>?_)
 ·obtain⟨u,v,p,n,r,rfl,_⟩:=h;rfl
 obtain⟨u,v,p,n,r,rfl,iu,bd,dk,n0,hn,fin⟩:=h
 have hu:=u110 hr
 have hu0:=u0 hr
 have hu1:=hu_of hr
 have hC:=ca_pos d
 refine⟨_,(wss_cons (ws_asg (wv 0) (wg_tup rfl (wgs_cons (wg_name (i:=2) Za5.nd rfl (Or.inl rfl)) (wgs_cons (wg_name (i:=3) Za5.nd rfl (Or.inl rfl)) wgs_nil))))
   (wss_cons (ws_if (wt_cmpR (op_inU hu) (wv 2) (we_tup (wa_consts rfl)) (by with_unfolding_all rfl)) (wss_one (ws_ret (we_tup (wa_cons (wv 2) wa_nil)))) wss_nil)
   (wss_cons (ws_if (wt_cmpR (op_eqU hu) (wv 2) we_str (nomark _)) (wss_one (ws_ret (we_tup (wa_cons (wv 2) (wa_cons (we_callTy call_tuple_of rfl T.z_tuple bt_tuple (wa_cons (we_lc (Nt:=["field","part"]) (fr:=[("deck",1)]) (LcOk.of (sc:=defScope (top 18)) (N:=["value","deck","word","what"]) rfl rfl (by decide +kernel)) rfl (wi_U (wv 3)) (fun z=>wg_tup rfl (wgs_cons (wg_name (i:=0) (by show (["field","part","deck"]:List Str).Nodup;decide +kernel) rfl (Or.inl rfl) (.inr rfl)) (wgs_cons (wg_name (i:=1) (by show (["field","part","deck"]:List Str).Nodup;decide +kernel) rfl (Or.inl rfl) (.inr rfl)) wgs_nil))) (fun z=>tgt_two (by decide) (by decide)) (fun z=>wif_nil) (fun z=>(we_tup (wa_cons (wv 0) (wa_cons (we_call ZaB (hr.mono (by lia)) rfl Zaf.mg Zaf.kp Zaf.b .nil pass0 (wa_cons (wv 1) (wa_cons (wv 2) wa_nil))) wa_nil))))) wa_nil)) wa_nil))))) wss_nil)
   (wss_cons (ws_if (wt_cmpR (op_eqU hu) (wv 3) (we_tup wa_nil) (nomark _)) (wss_one (ws_ret (we_tup (wa_cons (wv 2) (wa_cons (we_call Zap (hr.mono (by lia)) rfl Zae.mg Zae.kp Zae.b .nil pass0 (wa_cons (wv 1) (wa_cons we_int wa_nil))) wa_nil))))) wss_nil)
   (wss_one (ws_ret (we_tup (wa_cons (wv 2) (wa_cons (we_call ZaB (hr.mono (by lia)) rfl Zaf.mg Zaf.kp Zaf.b .nil pass0 (wa_cons (we_ix (ix_U hu1) (we_ix (ix_U hu1) (wv 3) (we_call Zab (hr.mono (by lia)) rfl Zaa.mg Zaa.kp Zaa.b .nil pass0 (wa_cons (wv 1) (wa_cons (we_callB call_lenU rfl T.z_len bt_len (wa_cons (wv 3) wa_nil)) wa_nil))) (fun _ _=>rfl)) we_int (fun _ _=>rfl)) (wa_cons (wv 1) wa_nil))) wa_nil))))))))),?_⟩
 have t2:=iu
 rw[dat_two]at t2
 obtain⟨a,y1,what,rfl,ha,ht,hw⟩:=dt_two t2
 rw[IsDt]at ht
 subst ht
 clear t2
 refine seqH fun N1 to1=>⟨_,rfl,a,_,rfl,SqT.of ha,rfl,_,_,rfl,_,_,rfl,rfl,to1 _ _ ?_⟩
 refine seqH fun N2 to2=>⟨_,rfl,(by show 2<=sizeLine;decide),fun t ht=>.inl ⟨t,_,rfl,.inr (SqT.of upd_same),rfl,rfl,_,rfl,?_⟩⟩
 have st:=same_new ht (.tup [.str "num",.str "word"])
 have dk0:=dk.new (o:=.tup [.str "num",.str "word"]) ht
 obtain⟨H0,e0⟩:∃ H0,H0=upd H t (.tup [.str "num",.str "word"]):=⟨_,rfl⟩
 rw[<- e0]at st dk0 ⊢
 clear e0 ht
 replace hw:=IsDt.mono st.tups hw
 have fin':∀ (k:Kd) (uk:V) (H':Hp) (r' m:Int),KB (d+3) k->IsDt H' (kdD k) uk->Ex p H0 H'->Dk H' p m r'->m<=n+ca d->Q uk H':=fun k uk H' r' m h1 h2 h3 h4 h5=>fin k uk H' r' h1 h2 (fun b o nb q=>h3 b o nb (st _ _ q)) (h4.mono h5)
 clear fin dk iu ha st
 have ttl:∀ {H':Hp},Ex p H0 H'->Tups H0 H':=fun e=>dk0.tups e
 cases v with
 | num i=>exact iteP (by simp only[tagS];decide +kernel) ⟨_,rfl,(by show 1<=sizeLine;decide),fun t2 ht2=>fin' .num _ _ r n kb_num (by rw[kdD];exact isDt_new ht2 (.one (isDt_str _))) (ex_new ht2) (dk0.new ht2) (by lia)⟩
 | word i=>exact iteP (by simp only[tagS];decide +kernel) ⟨_,rfl,(by show 1<=sizeLine;decide),fun t2 ht2=>fin' .word _ _ r n kb_word (by rw[kdD];exact isDt_new ht2 (.one (isDt_str _))) (ex_new ht2) (dk0.new ht2) (by lia)⟩
 | row ps=>
  refine iteN (by simp only[tagS];decide +kernel) (to2 _ _ ?_)
  refine seqH fun N3 to3=>⟨_,rfl,.inl ⟨rfl,_,rfl,iteP (by simp only[tagS];decide +kernel) ?_⟩⟩
  rw[restD,IsDt]at hw
  obtain⟨b,bx,rfl,hb,ib⟩:=hw
  rw[datR_map]at ib
  have lb:bx.length=ps.length:=by rw[ib.length,List.length_map]
  have pr:=prs_of (g:=fun i=>if h:i<ps.length then dat (ps[i]).2 else .int 0) ib (fun i hi=>dif_pos hi)
  have lp:ps.length<=7:=by cases d <;> rw[Bd]at bd <;> first | (rw[bd];decide) | exact bd.1
  have nbp:b≠p:=fun z=>by obtain⟨c1,c2,c3,c4,e,_⟩:=dk0;rw[z,e]at hb;cases hb
  have mulC:∀ i:Nat,i<=7->(i:Int) * ca (d-1)<=7 * ca (d-1):=fun i hi=>Int.mul_le_mul_of_nonneg_right (by lia) (by have:=ca_pos (d-1);lia)
  have mul0:∀ i:Nat,0<=(i:Int) * ca (d-1):=fun i=>Int.mul_nonneg (by lia) (by have:=ca_pos (d-1);lia)
  refine⟨_,rfl,?_⟩
  dsimp only[tCB,tCons]
  refine lc_two (K:=K) (b:=b) (xs:=bx) (fun i zs H'=>Ex p H0 H'/\(∃ r',Dk H' p (n+i * ca (d-1)) r')/\i<=ps.length/\∃ fs:List (Str×Kd),fs.length=i/\(∀ q∈fs,KB (d+2) q.2)/\IsDts H' (kdR fs) zs) (fun R q=>⟨_,rfl,q⟩)
   ⟨fun _ _ _ q=>q,⟨r,dk0.mono (by simp)⟩,Nat.zero_le _,[],rfl,fun q hq=>(nomatch hq),by rw[kdR];exact .nil⟩ ?stay ?step ?fin
  case stay=>
   rintro i zs H' ⟨ex,_,li,fs,lf,_,iz⟩
   exact⟨ex _ _ nbp hb,by rw[iz.length,kdR_map,List.length_map];lia⟩
  case step=>
   rintro z i zs H' ⟨ex,⟨r',dk'⟩,li,fs,lf,kb,iz⟩ hi
   rw[lb]at hi
   obtain⟨c,y,e1,e2,e3⟩:=pr.2 i (by rw[List.length_map];exact hi)
   have e3:IsDt H0 (dat (ps[i]).2) y:=by dsimp only at e3;rw[dif_pos hi]at e3;exact e3
   refine⟨c,_,y,e1,ttl ex _ _ e2,fun R q=>?_⟩
   cases d with
   | zero=>rw[Bd]at bd;subst bd;cases hi
   | succ d=>
   have bd':Bd 7 d (ps[i]).2:=by rw[Bd]at bd;exact (bd.2 _ (List.getElem_mem hi)).2
   have m1:=mulC (i+1) (by lia)
   have hS:=ca_succ d
   have m0:=mul0 i
   rw[show d+1-1=d from rfl]at m1 m0 dk'
   have ms:((i+1:Nat):Int) * ca d=i * ca d+ca d:=by rw[Int.natCast_add,Int.add_mul];simp
   refine⟨_,rfl,_,rfl,_,rfl,_,_,p,_,r',rfl,IsDt.mono (ttl ex) e3,bd',dk',by lia,by lia,fun k uk H2 r2 kb2 ik ex2 dk2=>⟨(by show 2<=sizeLine;decide),fun t2 ht2=>q _ _ ⟨ex.trans (ex2.trans (ex_new ht2)),⟨r2,(dk2.new ht2).mono ?_⟩,by lia,fs++[((ps.map (·.1))[i]'(by rw[List.length_map];exact hi),k)],by rw[List.length_append,lf];rfl,fun x hx=>?_,?_⟩⟩⟩
   ·rw[show d+1-1=d from rfl];lia
   ·rcases List.mem_append.mp hx with h | h
    ·exact kb x h
    ·rw[List.mem_singleton.mp h];exact kb2
   ·rw[kdR_map,List.map_append,<- kdR_map]
    exact (IsDts.mono ((dk'.tups ex2).trans (Tups.new ht2 _)) iz).append (.one (isDt_new ht2 (.cons (isDt_str _) (.one ik))))
  case fin=>
   rintro l zs H' ⟨ex,⟨r',dk'⟩,li,fs,lf,kb,iz⟩ hl
   refine⟨l,zs,rfl,.inl ⟨SqL.of upd_same,fun t2 ht2=>⟨(by show 2<=sizeLine;decide),fun t3 ht3=>?_⟩⟩⟩
   have m1:=mulC bx.length (by lia)
   have hS:7 * ca (d-1)<=ca d\/bx.length=0:=by
    cases d with
    | zero=>rw[Bd]at bd;subst bd;exact .inr lb
    | succ d=>have:=ca_succ d;have:=ca_pos d;left;rw[show d+1-1=d from rfl];lia
   have hm:(bx.length:Int) * ca (d-1)<=ca d:=by
    rcases hS with h | h
    ·lia
    ·rw[h];simp;lia
   refine fin' (.row fs) _ _ r' _ ?_ ?_ (ex.trans ((ex_new hl).trans ((ex_new ht2).trans (ex_new ht3)))) (((dk'.new hl).new ht2).new ht3) (by lia)
   ·rw[KB];exact⟨by lia,kb⟩
   ·rw[kdD];exact isDt_new ht3 (.cons (isDt_str _) (.one (isDt_new ht2 (IsDts.mono (Tups.new hl _) iz))))
 | bag qs=>
  refine iteN (by simp only[tagS];decide +kernel) (to2 _ _ ?_)
  refine seqH fun N3 to3=>⟨_,rfl,.inl ⟨rfl,_,rfl,iteN (vne (by simp only[tagS];decide +kernel)) (to3 _ _ ?_)⟩⟩
  have dp:(restD (.bag qs)).dep<=depMax:=by
   have:=dep_dat bd
   rw[dat_two,Dt.dep,depL,depL,depL]at this
   unfold depMax
   lia
  have ib:=hw
  rw[restD,IsDt]at ib
  obtain⟨b,bx,rfl,hb,ib⟩:=ib
  have lb:bx.length=qs.length:=by rw[ib.length,datB_map,List.length_map]
  refine seqH fun N4 to4=>⟨_,rfl,(by show 0<=sizeLine;decide),fun t2 ht2=>.inr ⟨_,.tup [],IsDt.mono (Tups.new ht2 _) hw,isDt_new ht2 .nil,dp,_,rfl,ite2 (fun e=>?_) (fun e=>to4 _ _ ?_)⟩⟩
  ·refine⟨_,rfl,_,rfl,p,n,r,rfl,dk0.new ht2,n0,by have:cst 2=4900:=rfl;lia,fun k uk H2 r2 kb ik ex2 dk2=>⟨(by show 2<=sizeLine;decide),fun t3 ht3=>?_⟩⟩
   exact fin' (.bag k) _ _ r2 _ (by rw[KB];exact kb.le (by lia)) (by rw[kdD];exact isDt_new ht3 (.cons (isDt_str _) (.one ik))) ((ex_new ht2).trans (ex2.trans (ex_new ht3))) (dk2.new ht3) (by have:cst 2=4900:=rfl;lia)
  ·have q0:0<qs.length:=by
    cases qs with
    | nil=>exact absurd (by rw[restD,datB];exact decide_eq_true rfl) e
    | cons=>exact Nat.succ_pos _
   have l7:qs.length<=7:=by cases d <;> rw[Bd]at bd <;> first | (rw[bd];decide) | exact bd.1
   have dk2:=dk0.new (o:=.tup []) ht2
   have hb2:=same_new ht2 (.tup []) _ _ hb
   have nbp:b≠p:=fun z=>by obtain⟨c1,c2,c3,c4,e,_⟩:=dk2;rw[z,e]at hb2;cases hb2
   refine⟨_,rfl,_,rfl,_,rfl,_,rfl,.inl ⟨b,bx,rfl,.inr (SqT.of hb2),p,n,r,_,rfl,dk2,by lia,by lia,by lia,fun x H3 x0 x1 ex3 dk3=>?_⟩⟩
   have t3:=(Tups.new ht2 (.tup [])).trans (dk2.tups ex3)
   obtain⟨j,rfl⟩:∃ j:Nat,x=j:=⟨x.toNat,by lia⟩
   have hj:j<qs.length:=by lia
   obtain⟨c,v,e1,e2,e3⟩:=pair_at ib hj
   refine ixt (SqT.of (ex3 _ _ nbp hb2)) (atI_nat e1) (ixt (SqT.of (t3 _ _ e2)) at0 ?_)
   cases d with
   | zero=>rw[Bd]at bd;subst bd;cases hj
   | succ d=>
   have bd':Bd 7 d (qs[j]).1:=by rw[Bd]at bd;exact bd.2 _ (List.getElem_mem hj)
   have hS:=ca_succ d
   have:=ca_pos d
   refine⟨_,rfl,_,_,p,_,r,rfl,IsDt.mono t3 e3,bd',dk3,by lia,by lia,fun k uk H4 r4 kb ik ex4 dk4=>⟨(by show 2<=sizeLine;decide),fun t4 ht4=>?_⟩⟩
   exact fin' (.bag k) _ _ r4 _ (by rw[KB];exact kb) (by rw[kdD];exact isDt_new ht4 (.cons (isDt_str _) (.one ik))) ((ex_new ht2).trans (ex3.trans (ex4.trans (ex_new ht4)))) (dk4.new ht4) (by lia)
theorem along_all (T:Tx mg) (Zaf:Df K mg "_law_kind_along" (top 18) f fd ["value","deck"])
  (Zaa:Df K mg "_law_next" (top 7) f_next fd_next ["deck","many"]) (Zab:FnOk P w K mg base CX0 1 f_next fd_next ["deck","many"] spNext)
  (Zae:Df K mg "_law_kind" (top 17) f_kind fd_kind ["deck","deep"]) (Zap:FnOk P w K mg base CX0 5 f_kind fd_kind ["deck","deep"] (spKind 2)):∀ d:Nat,d<=20->FnOk P w K mg base CX0 (d+6) f fd ["value","deck"] (spAlong d)
 | 0,h=>ok_along (k:=5) (by decide) h T Zaf ⟨fun _ _ _ _ h=>h.elim,fun _ _ _ _ _ _ _ _ _ _ _ _ _ h=>h.elim⟩ Zaa Zab Zae Zap
 | d+1,h=>ok_along (k:=d+6) (by lia) h T Zaf (along_all T Zaf Zaa Zab Zae Zap d (by lia)) Zaa Zab Zae Zap
end
end K09
end
section
namespace K09
open PySem L2 Kn
theorem Bd.vz {d:Nat}:∀ {v:Val},Bd 7 d v->K09.vz v<=8 ^ d:=by
 induction d with
 | zero=>intro v h;cases v <;> (rw[Bd]at h;try subst h) <;> rw[K09.vz] <;> first | exact Nat.le_refl _ | (rw[vzR];exact Nat.le_refl _) | (rw[vzB];exact Nat.le_refl _)
 | succ d ih=>
  intro v h
  have hp:8 ^ (d+1)=8 * 8 ^ d:=by rw[Nat.pow_succ,Nat.mul_comm]
  have h1:1<=8 ^ d:=Nat.one_le_pow d 8 (by decide)
  cases v with
  | num i=>rw[K09.vz];lia
  | word i=>rw[K09.vz];lia
  | row ps=>
   rw[Bd]at h
   have key:∀ l:List (Str×Val),(∀ p∈l,Bd 7 d p.2)->vzR l<=l.length * 8 ^ d:=by
    intro l
    induction l with
    | nil=>intro _;rw[vzR];exact Nat.zero_le _
    | cons p l il=>intro hl;have:=il fun q hq=>hl q (List.mem_cons_of_mem _ hq);have:=ih (hl p List.mem_cons_self);rw[vzR,List.length_cons,Nat.succ_mul];lia
   have h2:=key ps fun p hp=>(h.2 p hp).2
   have h3:=Nat.mul_le_mul_right (8 ^ d) h.1
   rw[K09.vz];lia
  | bag ps=>
   rw[Bd]at h
   have key:∀ l:List (Val×Int),(∀ p∈l,Bd 7 d p.1)->vzB l<=l.length * 8 ^ d:=by
    intro l
    induction l with
    | nil=>intro _;rw[vzB];exact Nat.zero_le _
    | cons p l il=>intro hl;have:=il fun q hq=>hl q (List.mem_cons_of_mem _ hq);have:=ih (hl p List.mem_cons_self);rw[vzB,List.length_cons,Nat.succ_mul];lia
   have h2:=key ps fun p hp=>h.2 p hp
   have h3:=Nat.mul_le_mul_right (8 ^ d) h.1
   rw[K09.vz];lia
theorem lcset {wi:TI}{k:Nat}{fr:List (Str×Nat)}{g:ZC->TG}{tc:ZC->TT}{te:ZC->TE}{j:Nat}{D:Ends} {σ:St} {H:Hp} (h:tLC wi k fr g tc te σ H fun v H'=>D.nx (σ.set j (some v)) H'):tLCset wi k fr g tc te j D σ H:=h
theorem lc_keep {K:PySem.W.Frag}{te:TE}{tz:ZC->TT}{fr:List (Str×Nat)} {σ:St} {H:Hp}{Q:VK}{b:Addr}{xs:List V} (J:Nat->List V->Hp->Prop)
  (ht:∀ R:VK,R (.ref b) H->te σ H R) (j0:J 0 [] H) (stay:∀ i zs H',J i zs H'->H' b=some (.lst xs)/\zs.length<=1000000)
  (step:∀ z i zs H',J i zs H'->(hi:i<xs.length)->∀ R:Bool->Hp->Prop,(∀ H2,J (i+1) (zs++[xs[i]]) H2->R true H2)->(∀ H2,J (i+1) zs H2->R false H2)->tz z (some xs[i]::fr.map fun q=>(σ[q.2]?).join) H' R)
  (fin:∀ (l:Addr) (zs:List V) (H':Hp),J xs.length zs H'->H' l=none->Q (.ref l) (upd H' l (.lst zs))) :
  tLC (fun σ H R=>iList K te σ H R\/iTup K te σ H R) 1 fr (fun z=>gName 0) tz (fun _=>tVar 0) σ H Q:=by
 refine .inl (ht _ ⟨b,rfl,⟨xs,SqL.of (stay _ _ _ j0).1⟩,?_⟩)
 refine⟨fun i m zs H2=>m+i=xs.length/\J i zs H2,⟨xs.length,rfl,j0⟩,?_⟩
 rintro i m zs H2 ⟨hm,j⟩
 obtain⟨hb,lz⟩:=stay _ _ _ j
 refine⟨line1 (by lia),?_⟩
 by_cases hi:i<xs.length
 ·refine .inr ⟨⟨_,_,SqL.of hb,List.getElem?_eq_getElem hi⟩,fun z x H3 hy=>?_⟩
  obtain⟨eH,hx⟩:=hy
  rw[eH]
  clear eH H3
  have e2:=hx _ (SqL.of hb)
  rw[List.getElem?_eq_getElem hi]at e2
  cases e2
  refine step z i zs H2 j hi _ (fun H4 q=>?_) fun H4 q=>?_
  ·rw[if_pos rfl];exact⟨_,rfl,m-1,by lia,by lia,q⟩
  ·rw[if_neg (by decide)];exact⟨m-1,by lia,by lia,q⟩
 ·have ei:i=xs.length:=by lia
  exact .inl ⟨⟨_,SqL.of hb,by lia⟩,fun l hl=>fin l zs _ (ei ▸ j) hl⟩
section
variable {P:Program}{w:World}{K:PySem.W.Frag}{mg:Str->Option Value}{base:Heap}{f f_along f_bag f_is:Addr}{fd fd_along fd_bag fd_is:FuncData}
def spEven (d:Nat):Sp:=fun vs H Q _=>∃ (u:V) (v:Val) (p:Addr) (n r:Int),vs=[u,.ref p]/\IsDt H (dat v) u/\Bd 7 d v/\Dk H p n r/\0<=n/\n+ca d<1000000000000 /\
 ∀ (x:Val) (ux:V) (H':Hp) (r':Int),Bd 7 d x->IsDt H' (dat x) ux->Ex p H H'->Dk H' p (n+ca d) r'->Q ux H'
theorem ZaR:FnScope ["value","deck","word","what","pairs","kind"] ["value","deck"] (defScope (top 19)):=⟨rfl,rfl,rfl,by decide +kernel,rfl,by decide +kernel,by decide +kernel⟩
theorem ok_even {k d:Nat} (hd:d<=7) (hk:1<=k) (T:Tx mg) (Zak:Df K mg "_law_even_bags" (top 19) f fd ["value","deck"]) (Za0:FnOk P w K mg base CX0 k f fd ["value","deck"] (pre spEven d))
  (Zaf:Df K mg "_law_kind_along" (top 18) f_along fd_along ["value","deck"]) (ZaB:FnOk P w K mg base CX0 k f_along fd_along ["value","deck"] (pre spAlong d))
  (Zad:Df K mg "_law_bag" (top 13) f_bag fd_bag ["pairs"]) (ZaA:FnOk P w K mg base CX0 k f_bag fd_bag ["pairs"] (pre spBag d))
  (Zah:Df K mg "_law_is_of" (top 21) f_is fd_is ["value","kind"]) (Zau:FnOk P w K mg base CX0 1 f_is fd_is ["value","kind"] spLawIs) :
  FnOk P w K mg base CX0 (k+1) f fd ["value","deck"] (spEven d):=by
 refine Zak.fn.okH ZaR (fun vs H Q E h=>?_) (fun cdv A outer s H vs Q E hr h=>?_)
 ·obtain⟨u,v,p,n,r,rfl,_⟩:=h;rfl
 obtain⟨u,v,p,n,r,rfl,iu,bd,dk,n0,hn,fin⟩:=h
 have hu:=u110 hr
 have hu0:=u0 hr
 have hu1:=hu_of hr
 have hC:=ca_pos d
 refine⟨_,(wss_cons (ws_asg (wv 0) (wg_tup rfl (wgs_cons (wg_name (i:=2) ZaR.nd rfl (Or.inl rfl)) (wgs_cons (wg_name (i:=3) ZaR.nd rfl (Or.inl rfl)) wgs_nil))))
   (wss_cons (ws_if (wt_cmpR (op_eqU hu) (wv 2) we_str (nomark _)) (wss_one (ws_ret (we_tup (wa_cons (wv 2) (wa_cons (we_callTy call_tuple_of rfl T.z_tuple bt_tuple (wa_cons (we_lc (Nt:=["field","part"]) (fr:=[("deck",1)]) (LcOk.of (sc:=defScope (top 19)) (N:=["value","deck","word","what","pairs","kind"]) rfl rfl (by decide +kernel)) rfl (wi_U (wv 3)) (fun z=>wg_tup rfl (wgs_cons (wg_name (i:=0) (by show (["field","part","deck"]:List Str).Nodup;decide +kernel) rfl (Or.inl rfl) (.inr rfl)) (wgs_cons (wg_name (i:=1) (by show (["field","part","deck"]:List Str).Nodup;decide +kernel) rfl (Or.inl rfl) (.inr rfl)) wgs_nil))) (fun z=>tgt_two (by decide) (by decide)) (fun z=>wif_nil) (fun z=>(we_tup (wa_cons (wv 0) (wa_cons (we_call Za0 (hr.mono (by lia)) rfl Zak.mg Zak.kp Zak.b .nil pass0 (wa_cons (wv 1) (wa_cons (wv 2) wa_nil))) wa_nil))))) wa_nil)) wa_nil))))) wss_nil)
   (wss_cons (ws_if (wt_pw (ww_and (wt_cmpR (op_eqU hu) (wv 2) we_str (nomark _)) (ww_and1 (wt_cmpR (op_neU hu) (wv 3) (we_tup wa_nil) (nomark _))))) (wss_cons (ws_lc (j:=4) (hN:=ZaR.nd) (hj:=rfl) (hy:=(Or.inl rfl)) (Nt:=["row","count"]) (fr:=[("deck",1)]) (LcOk.of (sc:=defScope (top 19)) (N:=["value","deck","word","what","pairs","kind"]) rfl rfl (by decide +kernel)) rfl (wi_U (wv 3)) (fun z=>wg_tup rfl (wgs_cons (wg_name (i:=0) (by show (["row","count","deck"]:List Str).Nodup;decide +kernel) rfl (Or.inl rfl) (.inr rfl)) (wgs_cons (wg_name (i:=1) (by show (["row","count","deck"]:List Str).Nodup;decide +kernel) rfl (Or.inl rfl) (.inr rfl)) wgs_nil))) (fun z=>tgt_two (by decide) (by decide)) (fun z=>wif_nil) (fun z=>(we_tup (wa_cons (we_call Za0 (hr.mono (by lia)) rfl Zak.mg Zak.kp Zak.b .nil pass0 (wa_cons (wv 0) (wa_cons (wv 2) wa_nil))) (wa_cons (wv 1) wa_nil)))))
   (wss_cons (ws_set (i:=5) ZaR.nd rfl (Or.inr rfl) (we_call ZaB (hr.mono (by lia)) rfl Zaf.mg Zaf.kp Zaf.b .nil pass0 (wa_cons (we_ix (ix_U hu1) (we_ix (ix_U hu1) (wv 4) we_int (fun _ _=>rfl)) we_int (fun _ _=>rfl)) (wa_cons (wv 1) wa_nil))))
   (wss_one (ws_ret (we_call ZaA (hr.mono (by lia)) rfl Zad.mg Zad.kp Zad.b .nil pass0 (wa_cons (we_lc (Nt:=["pair"]) (fr:=[("kind",5)]) (LcOk.of (sc:=defScope (top 19)) (N:=["value","deck","word","what","pairs","kind"]) rfl rfl (by decide +kernel)) rfl (wi_U (wv 4)) (fun z=>wg_name (i:=0) (by show (["pair","kind"]:List Str).Nodup;decide +kernel) rfl (Or.inl rfl) (.inr rfl)) (fun z=>tgt_name (by decide)) (fun z=>wif_one (wt_val (we_call Zau (hr.mono (by lia)) rfl Zah.mg Zah.kp Zah.b .nil pass0 (wa_cons (we_ix (ix_U hu1) (wv 0) we_int (fun _ _=>rfl)) (wa_cons (wv 1) wa_nil))))) (fun z=>(wv 0))) wa_nil)))))) wss_nil)
   (wss_one (ws_ret (wv 0)))))),?_⟩
 have t2:=iu
 rw[dat_two]at t2
 obtain⟨a,y1,what,rfl,ha,ht,hw⟩:=dt_two t2
 rw[IsDt]at ht
 subst ht
 clear t2
 refine seqH fun N1 to1=>⟨_,rfl,a,_,rfl,SqT.of ha,rfl,_,_,rfl,_,_,rfl,rfl,to1 _ _ ?_⟩
 have mulC:∀ i:Nat,i<=7->(i:Int) * ca (d-1)<=7 * ca (d-1):=fun i hi=>Int.mul_le_mul_of_nonneg_right (by lia) (by have:=ca_pos (d-1);lia)
 have mul0:∀ i:Nat,0<=(i:Int) * ca (d-1):=fun i=>Int.mul_nonneg (by lia) (by have:=ca_pos (d-1);lia)
 have ttl:∀ {H':Hp},Ex p H H'->Tups H H':=fun e=>dk.tups e
 have same:Q (.ref a) H:=fin v _ H r bd iu (.refl _ _) (dk.mono (by lia))
 cases v with
 | num i=>
  refine seqH fun N2 to2=>⟨_,rfl,.inl ⟨rfl,_,rfl,iteN (vne (by simp only[tagS];decide +kernel)) (to2 _ _ ?_)⟩⟩
  exact seqH fun N3 to3=>⟨_,rfl,.inl ⟨rfl,_,rfl,iteN (vne (by simp only[tagS];decide +kernel)) (iteF (to3 _ _ ⟨_,rfl,same⟩))⟩⟩
 | word i=>
  refine seqH fun N2 to2=>⟨_,rfl,.inl ⟨rfl,_,rfl,iteN (vne (by simp only[tagS];decide +kernel)) (to2 _ _ ?_)⟩⟩
  exact seqH fun N3 to3=>⟨_,rfl,.inl ⟨rfl,_,rfl,iteN (vne (by simp only[tagS];decide +kernel)) (iteF (to3 _ _ ⟨_,rfl,same⟩))⟩⟩
 | row ps=>
  refine seqH fun N3 to3=>⟨_,rfl,.inl ⟨rfl,_,rfl,iteP veq ?_⟩⟩
  rw[restD,IsDt]at hw
  obtain⟨b,bx,rfl,hb,ib⟩:=hw
  rw[datR_map]at ib
  have lb:bx.length=ps.length:=by rw[ib.length,List.length_map]
  have pr:=prs_of (g:=fun i=>if h:i<ps.length then dat (ps[i]).2 else .int 0) ib (fun i hi=>dif_pos hi)
  have lp:ps.length<=7:=by cases d <;> rw[Bd]at bd <;> first | (rw[bd];decide) | exact bd.1
  have nbp:b≠p:=fun z=>by obtain⟨c1,c2,c3,c4,e,_⟩:=dk;rw[z,e]at hb;cases hb
  refine⟨_,rfl,?_⟩
  dsimp only[tCB,tCons]
  refine lc_two (K:=K) (b:=b) (xs:=bx) (fun i zs H'=>Ex p H H'/\(∃ r',Dk H' p (n+i * ca (d-1)) r')/\i<=ps.length/\∃ fs:List (Str×Val),fs.length=i/\(∀ q∈fs,q.1.length<=100/\Bd 7 (d-1) q.2)/\IsDts H' (datR fs) zs) (fun R q=>⟨_,rfl,q⟩)
   ⟨fun _ _ _ q=>q,⟨r,dk.mono (by simp)⟩,Nat.zero_le _,[],rfl,fun q hq=>(nomatch hq),by rw[datR];exact .nil⟩ ?stay ?step ?fin
  case stay=>
   rintro i zs H' ⟨ex,_,li,fs,lf,_,iz⟩
   exact⟨ex _ _ nbp hb,by rw[iz.length,datR_map,List.length_map];lia⟩
  case step=>
   rintro z i zs H' ⟨ex,⟨r',dk'⟩,li,fs,lf,kb,iz⟩ hi
   rw[lb]at hi
   obtain⟨c,y,e1,e2,e3⟩:=pr.2 i (by rw[List.length_map];exact hi)
   have e3:IsDt H (dat (ps[i]).2) y:=by dsimp only at e3;rw[dif_pos hi]at e3;exact e3
   refine⟨c,_,y,e1,ttl ex _ _ e2,fun R q=>?_⟩
   cases d with
   | zero=>rw[Bd]at bd;subst bd;cases hi
   | succ d=>
   have bd':=by rw[Bd]at bd;exact (bd.2 _ (List.getElem_mem hi))
   have m1:=mulC (i+1) (by lia)
   have hS:=ca_succ d
   have m0:=mul0 i
   rw[show d+1-1=d from rfl]at m1 m0 dk'
   have ms:((i+1:Nat):Int) * ca d=i * ca d+ca d:=by rw[Int.natCast_add,Int.add_mul];simp
   refine⟨_,rfl,_,rfl,_,rfl,_,_,p,_,r',rfl,IsDt.mono (ttl ex) e3,bd'.2,dk',by lia,by lia,fun k uk H2 r2 kb2 ik ex2 dk2=>⟨(by show 2<=sizeLine;decide),fun t2 ht2=>q _ _ ⟨ex.trans (ex2.trans (ex_new ht2)),⟨r2,(dk2.new ht2).mono ?_⟩,by lia,fs++[((ps.map (·.1))[i]'(by rw[List.length_map];exact hi),k)],by rw[List.length_append,lf];rfl,fun x hx=>?_,?_⟩⟩⟩
   ·rw[show d+1-1=d from rfl];lia
   ·rcases List.mem_append.mp hx with h | h
    ·exact kb x h
    ·rw[List.mem_singleton.mp h];exact⟨by rw[List.getElem_map];exact bd'.1,kb2⟩
   ·rw[datR_map,List.map_append,<- datR_map]
    exact (IsDts.mono ((dk'.tups ex2).trans (Tups.new ht2 _)) iz).append (.one (isDt_new ht2 (.cons (isDt_str _) (.one ik))))
  case fin=>
   rintro l zs H' ⟨ex,⟨r',dk'⟩,li,fs,lf,kb,iz⟩ hl
   refine⟨l,zs,rfl,.inl ⟨SqL.of upd_same,fun t2 ht2=>⟨(by show 2<=sizeLine;decide),fun t3 ht3=>?_⟩⟩⟩
   have m1:=mulC bx.length (by lia)
   have hS:7 * ca (d-1)<=ca d\/bx.length=0:=by
    cases d with
    | zero=>rw[Bd]at bd;subst bd;exact .inr lb
    | succ d=>have:=ca_succ d;have:=ca_pos d;left;rw[show d+1-1=d from rfl];lia
   have hm:(bx.length:Int) * ca (d-1)<=ca d:=by
    rcases hS with h | h
    ·lia
    ·rw[h];simp;lia
   refine fin (.row fs) _ _ r' ?_ ?_ (ex.trans ((ex_new hl).trans ((ex_new ht2).trans (ex_new ht3)))) ((((dk'.new hl).new ht2).new ht3).mono (by lia))
   ·cases d with
    | zero=>rw[Bd]at bd;subst bd;rw[Bd];exact List.length_eq_zero_iff.mp (by rw[lf,lb];rfl)
    | succ d=>rw[Bd];exact⟨by lia,kb⟩
   ·rw[dat];exact isDt_new ht3 (.cons (isDt_str _) (.one (isDt_new ht2 (IsDts.mono (Tups.new hl _) iz))))
 | bag qs=>
  refine seqH fun N2 to2=>⟨_,rfl,.inl ⟨rfl,_,rfl,iteN (vne (by simp only[tagS];decide +kernel)) (to2 _ _ ?_)⟩⟩
  have dp:depL (datB qs)<=depMax:=by
   have:=dep_dat bd
   rw[dat_two,Dt.dep,depL,depL,depL]at this
   have h2:(restD (.bag qs)).dep<=depMax:=by unfold depMax;lia
   rw[restD,Dt.dep]at h2
   lia
  have ib:=hw
  rw[restD]at hw
  rw[restD,IsDt]at ib
  obtain⟨b,bx,rfl,hb,ib⟩:=ib
  have lb:bx.length=qs.length:=by rw[ib.length,datB_map,List.length_map]
  refine seqH fun N3 to3=>⟨_,rfl,.inl ⟨rfl,_,rfl,iteP veq ⟨_,rfl,(by show 0<=sizeLine;decide),fun t2 ht2=>.inr (.inl ⟨_,[],IsDt.mono (Tups.new ht2 _) hw,isDt_new ht2 .nil,dp,_,rfl,ite2 (fun e=>?_) (fun e=>to3 _ _ ⟨_,rfl,?_⟩)⟩)⟩⟩⟩
  ·have q0:0<qs.length:=by
    cases qs with
    | nil=>exact absurd e (by rw[datB];decide +kernel)
    | cons=>exact Nat.succ_pos _
   have l7:qs.length<=7:=by cases d <;> rw[Bd]at bd <;> first | (rw[bd];decide) | exact bd.1
   cases d with
   | zero=>rw[Bd]at bd;subst bd;cases q0
   | succ d=>
   rw[show d+1-1=d from rfl]at mulC mul0
   have hS:=ca_succ d
   have hC0:=ca_pos d
   have dk2:=dk.new (o:=.tup []) ht2
   have hb2:=same_new ht2 (.tup []) _ _ hb
   have nbp:b≠p:=fun z=>by obtain⟨c1,c2,c3,c4,e,_⟩:=dk2;rw[z,e]at hb2;cases hb2
   have exA:Ex p H (upd H t2 (.tup [])):=ex_new ht2
   obtain⟨H0,e0⟩:∃ H0,H0=upd H t2 (.tup []):=⟨_,rfl⟩
   rw[<- e0]at dk2 hb2 exA ⊢
   clear e0 e to3
   refine seqH fun N4 to4=>lcset ?_
   refine lc_two (K:=K) (b:=b) (xs:=bx) (fun i zs H'=>Ex p H H'/\(∃ r',Dk H' p (n+i * ca d) r')/\H' b=some (.tup bx)/\i<=qs.length/\∃ ys:List (Val×Int),ys.length=i/\(∀ q∈ys,Bd 7 d q.1)/\IsDts H' (datB ys) zs) (fun R q=>⟨_,rfl,q⟩)
    ⟨exA,⟨r,dk2.mono (by simp)⟩,hb2,Nat.zero_le _,[],rfl,fun q hq=>(nomatch hq),by rw[datB];exact .nil⟩ ?stay ?step ?fin
   case stay=>
    rintro i zs H' ⟨ex,_,hb',li,ys,lf,_,iz⟩
    exact⟨hb',by rw[iz.length,datB_map,List.length_map];lia⟩
   case step=>
    rintro z i zs H' ⟨ex,⟨r',dk'⟩,hb',li,ys,lf,kb,iz⟩ hi
    rw[lb]at hi
    obtain⟨c,y,e1,e2,e3⟩:=pair_at ib hi
    refine⟨c,y,_,e1,ttl ex _ _ e2,fun R q=>?_⟩
    have bd':Bd 7 d (qs[i]).1:=by rw[Bd]at bd;exact (bd.2 _ (List.getElem_mem hi))
    have m1:=mulC (i+1) (by lia)
    have m0:=mul0 i
    have ms:((i+1:Nat):Int) * ca d=i * ca d+ca d:=by rw[Int.natCast_add,Int.add_mul];simp
    refine⟨_,rfl,_,rfl,_,_,p,_,r',rfl,IsDt.mono (ttl ex) e3,bd',dk',by lia,by lia,fun k uk H2 r2 kb2 ik ex2 dk2=>⟨_,rfl,(by show 2<=sizeLine;decide),fun t2 ht2=>q _ _ ⟨ex.trans (ex2.trans (ex_new ht2)),⟨r2,(dk2.new ht2).mono ?_⟩,same_new ht2 _ _ _ (ex2 _ _ nbp hb'),by lia,ys++[(k,(qs[i]).2)],by rw[List.length_append,lf];rfl,fun x hx=>?_,?_⟩⟩⟩
    ·lia
    ·rcases List.mem_append.mp hx with h | h
     ·exact kb x h
     ·rw[List.mem_singleton.mp h];exact kb2
    ·rw[datB_map,List.map_append,<- datB_map]
     exact (IsDts.mono ((dk'.tups ex2).trans (Tups.new ht2 _)) iz).append (.one (isDt_new ht2 (.cons ik (.one (isDt_int _)))))
   case fin=>
    rintro l zs H' ⟨ex,⟨r',dk'⟩,hb',li,ys,lf,kb,iz⟩ hl
    have nlp:l≠p:=dk'.ne hl
    have m1:=mulC bx.length (by lia)
    have exB:Ex p H (upd H' l (.lst zs)):=ex.trans (ex_new hl)
    have dkB:=dk'.new (o:=.lst zs) hl
    have hlB:(upd H' l (.lst zs)) l=some (.lst zs):=upd_same
    have izB:=IsDts.mono (Tups.new hl (.lst zs)) iz
    obtain⟨HB,eB⟩:∃ HB,HB=upd H' l (.lst zs):=⟨_,rfl⟩
    rw[<- eB]at exB dkB hlB izB ⊢
    clear eB hl iz dk' ex hb' H'
    have lz:zs.length=qs.length:=by rw[izB.length,datB_map,List.length_map];lia
    obtain⟨c0,u0',e1,e2,e3⟩:=pair_at izB (i:=0) (by lia)
    refine to4 _ _ (seqH fun N5 to5=>⟨_,rfl,ixl (SqL.of hlB) (atI_nat (j:=0) e1) (ixt (SqT.of e2) at0 ⟨_,rfl,_,_,p,_,r',rfl,e3,kb _ (List.getElem_mem (by lia)),dkB,by have:=mul0 bx.length;lia,by lia,fun k uk H2 r2 kb2 ik ex2 dk2=>to5 _ _ ?_⟩)⟩)
    have hl2:=ex2 _ _ nlp hlB
    have iz2:=IsDts.mono (dkB.tups ex2) izB
    dsimp only[tRet,tCall,tCons]
    refine lc_keep (K:=K) (b:=l) (xs:=zs) (fun i ws H'=>Same H2 H'/\ws.length<=i/\i<=zs.length/\∃ xs:List (Val×Int),xs.length=ws.length/\(∀ q∈xs,Bd 7 d q.1)/\IsDts H2 (datB xs) ws) (fun R q=>⟨_,rfl,q⟩)
     ⟨fun _ _ q=>q,Nat.le_refl _,Nat.zero_le _,[],rfl,fun q hq=>(nomatch hq),by rw[datB];exact .nil⟩ ?stay ?step ?fin
    case stay=>
     rintro i ws H' ⟨sm,lw,li,xs,lx,_,ix⟩
     exact⟨sm _ _ hl2,by lia⟩
    case step=>
     rintro z i ws H' ⟨sm,lw,li,xs,lx,kx,ix⟩ hi R yes no
     have hy:i<ys.length:=by lia
     obtain⟨c,y,e1,e2,e3⟩:=pair_at iz2 hy
     have ez:zs[i]=.ref c:=by rw[List.getElem?_eq_getElem hi]at e1;injection e1
     have b1:=Bd.vz (kb _ (List.getElem_mem hy))
     have b2:8 ^ d<=8 ^ 6:=Nat.pow_le_pow_right (by decide) (by lia)
     have b3:=kb2.kw
     rw[ez]at yes ⊢
     refine⟨_,rfl,ixt (SqT.of (sm _ _ e2)) at0 ⟨_,rfl,y,uk,(ys[i]).1,k,rfl,IsDt.mono sm.tups e3,IsDt.mono sm.tups ik,Nat.le_trans b1 (Nat.le_trans b2 (by decide)),by lia,fun H3 s3=>⟨_,rfl,?_⟩⟩⟩
     cases conf (ys[i]).1 k with
     | false=>exact no _ ⟨sm.trans s3,by lia,by lia,xs,lx,kx,ix⟩
     | true=>
      refine yes _ ⟨sm.trans s3,by rw[List.length_append];show ws.length+1<=_;lia,by lia,xs++[ys[i]],by rw[List.length_append,List.length_append,lx];rfl,fun q hq=>?_,?_⟩
      ·rcases List.mem_append.mp hq with h | h
       ·exact kx q h
       ·rw[List.mem_singleton.mp h];exact kb _ (List.getElem_mem hy)
      ·rw[datB_map,List.map_append,<- datB_map]
       exact ix.append (.one (isDt_tup e2 (.cons e3 (.one (isDt_int _)))))
    case fin=>
     rintro l2 ws H' ⟨sm,lw,li,xs,lx,kx,ix⟩ hl2
     refine⟨l2,ws,xs,rfl,⟨_,upd_same,.inl rfl⟩,IsDts.mono (sm.trans (same_new hl2 _)).tups ix,by lia,kx,by lia,fun v H3 rs s3 iv lr mem _=>?_⟩
     refine fin (.bag rs) _ _ r2 ?_ iv (exB.trans (ex2.trans fun b o nb q=>s3 _ _ (same_new hl2 _ _ _ (sm _ _ q)))) ((dk2.keep ((sm.trans (same_new hl2 _)).trans s3)).mono (by lia))
     rw[Bd]
     exact⟨by lia,fun q hq=>by obtain⟨q',h1,h2⟩:=mem q hq;rw[h2];exact kx _ h1⟩
  ·exact fin (.bag qs) _ _ r bd (IsDt.mono (Tups.new ht2 _) iu) (ex_new ht2) ((dk.new ht2).mono (by lia))
theorem even_all (T:Tx mg) (Zak:Df K mg "_law_even_bags" (top 19) f fd ["value","deck"]) {f_next f_kind f_side f_pair:Addr}{fd_next fd_kind fd_side fd_pair:FuncData}
  (Zaa:Df K mg "_law_next" (top 7) f_next fd_next ["deck","many"]) (Zab:FnOk P w K mg base CX0 1 f_next fd_next ["deck","many"] spNext)
  (Zae:Df K mg "_law_kind" (top 17) f_kind fd_kind ["deck","deep"]) (Zap:FnOk P w K mg base CX0 5 f_kind fd_kind ["deck","deep"] (spKind 2))
  (Zaf:Df K mg "_law_kind_along" (top 18) f_along fd_along ["value","deck"])
  (Zad:Df K mg "_law_bag" (top 13) f_bag fd_bag ["pairs"]) (Zag:Df K mg "_law_side" (top 11) f_side fd_side ["one","other"]) (Zan:Df K mg "_law_pair_side" (top 12) f_pair fd_pair ["word","a","b"])
  (Zah:Df K mg "_law_is_of" (top 21) f_is fd_is ["value","kind"]) (Zau:FnOk P w K mg base CX0 1 f_is fd_is ["value","kind"] spLawIs):∀ d:Nat,d<=7->FnOk P w K mg base CX0 (2 * d+6) f fd ["value","deck"] (spEven d)
 | 0,h=>ok_even (k:=5) h (by decide) T Zak ⟨fun _ _ _ _ h=>h.elim,fun _ _ _ _ _ _ _ _ _ _ _ _ _ h=>h.elim⟩ Zaf ⟨fun _ _ _ _ h=>h.elim,fun _ _ _ _ _ _ _ _ _ _ _ _ _ h=>h.elim⟩ Zad ⟨fun _ _ _ _ h=>h.elim,fun _ _ _ _ _ _ _ _ _ _ _ _ _ h=>h.elim⟩ Zah Zau
 | d+1,h=>ok_even (k:=2 * d+7) h (by lia) T Zak ((even_all T Zak Zaa Zab Zae Zap Zaf Zad Zag Zan Zah Zau d (by lia)).mono (by lia))
   Zaf ((along_all T Zaf Zaa Zab Zae Zap d (by lia)).mono (by lia)) Zad ((ok_bag (k:=2 * d+1) T Zad Zag (side_all T Zag Zan d)).mono (by lia)) Zah Zau
end
end K09
end
section
namespace K09
open PySem L2 Kn
theorem cut_take (us:List V) {k:Nat} (h:k<=us.length):cutV us none (some (k:Int))=us.take k:=by
 unfold cutV
 rw[HT.sIx_none,HT.sIx_nat,Nat.min_eq_left h];simp
theorem cut_drop (us:List V) {k:Nat} (h:k<us.length):cutV us (some ((k:Int)+1)) none=us.drop (k+1):=by
 show cutV us (some ((k+1:Nat):Int)) none=_
 unfold cutV
 rw[HT.sIx_none,HT.sIx_nat,Nat.min_eq_left (by lia)]
 rw[List.take_of_length_le (by rw[List.length_drop];exact Nat.le_refl _)]
theorem sl_any {K:PySem.W.Frag}{H:Hp}{a:Addr}{us:List V}{lo hi:Option Int}{Q:VK} (h:H a=some (.tup us)) (q:∀ p H',Same H H'->H' p=some (.tup (cutV us lo hi))->Q (.ref p) H') :
  rSlL K (.ref a) lo hi H Q\/(rSlT K (.ref a) lo hi H Q\/(rSlW K (.ref a) lo hi H Q\/rSlS (.ref a) lo hi H Q)):=by
 by_cases f:HT.sIx us.length 0 lo=0/\HT.sIx us.length us.length hi=us.length
 ·refine .inr (.inr (.inl ⟨a,us,rfl,SqT.of h,f.1,f.2,q a H (fun _ _ z=>z) ?_⟩))
  rw[h];unfold cutV;rw[f.1,f.2];simp
 ·exact .inr (.inl ⟨a,us,rfl,SqT.of h,f,fun p hp=>q p _ (same_new hp _) upd_same⟩)
theorem cat_any {K:PySem.W.Frag}{H:Hp}{a b:Addr}{us ws:List V}{Q:VK} (h:H a=some (.tup us)) (k:H b=some (.tup ws)) (l:us.length+ws.length<=1000) (q:∀ q H',Same H H'->H' q=some (.tup (us++ws))->Q (.ref q) H') :
  rI0 (fun i j=>.int (i+j)) (.ref a) (.ref b) H Q\/((∃ i j,V.ref a=.str i/\V.ref b=.str j/\i.length+j.length<=sizeLine/\Q (.str (i++j)) H)\/(rCat (.ref a) (.ref b) H Q\/rCatT' K (.ref a) (.ref b) H Q)):=
 .inr (.inr (.inr ⟨a,b,us,ws,rfl,rfl,h,k,Nat.le_of_lt (line1 (by lia)),fun p H' s hp=>q p H' s hp⟩))
def PrK (H:Hp) (d:Nat) (us:List V):Prop:=∀ u∈us,∃ (c:Addr) (s:Str) (k:Kd) (y:V),u=.ref c/\H c=some (.tup [.str s,y])/\KB d k/\IsDt H (kdD k) y
theorem PrK.mono {H H':Hp} (t:Tups H H') {d:Nat}{us:List V} (h:PrK H d us):PrK H' d us:=fun u hu=>by
 obtain⟨c,s,k,y,e1,e2,e3,e4⟩:=h u hu
 exact⟨c,s,k,y,e1,t _ _ e2,e3,IsDt.mono t e4⟩
theorem prk_of {H:Hp}{d:Nat}{fs:List (Str×Kd)}{us:List V} (h:IsDts H (kdR fs) us) (kb:∀ p∈fs,KB d p.2):PrK H d us:=fun u hu=>by
 obtain⟨i,hi,e⟩:=List.mem_iff_getElem.mp hu
 rw[kdR_map]at h
 have lf:i<fs.length:=by rw[h.length,List.length_map]at hi;exact hi
 obtain⟨y,e1,e2⟩:=h.get (i:=i) (d:=.tup [.str (fs[i]).1,kdD (fs[i]).2]) (by rw[List.getElem?_map,List.getElem?_eq_getElem lf];rfl)
 obtain⟨c,y1,y2,rfl,h1,h2,h3⟩:=dt_two e2
 rw[IsDt]at h2
 subst h2
 rw[List.getElem?_eq_getElem hi,e]at e1
 injection e1 with e1
 exact⟨c,_,_,y2,e1,h1,kb _ (List.getElem_mem lf),h3⟩
theorem prk_pairs {H:Hp}{d:Nat}:∀ {us:List V},PrK H d us->∃ kvs:List (Key×V),PairsK H kvs us/\AllK H d kvs/\kvs.length=us.length
 | [],_=>⟨[],.nil,fun kv h=>(nomatch h),rfl⟩
 | u::us,h=>by
  obtain⟨kvs,h1,h2,h3⟩:=prk_pairs (us:=us) fun v hv=>h v (List.mem_cons_of_mem _ hv)
  obtain⟨c,s,k,y,e1,e2,e3,e4⟩:=h u List.mem_cons_self
  refine⟨(Sum.inr s,y)::kvs,.cons ⟨c,e1,e2⟩ h1,fun kv hk=>?_,by rw[List.length_cons,List.length_cons,h3]⟩
  rcases List.mem_cons.mp hk with rfl | hk
  ·exact⟨s,k,rfl,e3,e4⟩
  ·exact h2 kv hk
theorem merge_all {H:Hp}{d:Nat}:∀ {more kvs:List (Key×V)},AllK H d kvs->AllK H d more->AllK H d (mergeG kvs more)
 | [],kvs,h,_=>h
 | p::more,kvs,h,g=>by
  obtain⟨s,k,e1,e2,e3⟩:=g p List.mem_cons_self
  show AllK H d (mergeG (putK kvs p.1 p.2) more)
  rw[e1]
  exact merge_all (h.put e2 e3) fun kv hk=>g kv (List.mem_cons_of_mem _ hk)
theorem tag_isB {k:Kd} (h:decide (V.str (tagK k)=V.str "bag")=true):∃ k1,k=.bag k1:=by
 have e:tagK k=Str.ofString "bag":=by have:=of_decide_eq_true h;injection this
 cases k with
 | bag k1=>exact⟨k1,rfl⟩
 | _=>exact absurd e (by simp only[tagK];decide +kernel)
theorem tag_isR {k:Kd} (h:decide (V.str (tagK k)=V.str "row")=true):∃ fs,k=.row fs:=by
 have e:tagK k=Str.ofString "row":=by have:=of_decide_eq_true h;injection this
 cases k with
 | row fs=>exact⟨fs,rfl⟩
 | _=>exact absurd e (by simp only[tagK];decide +kernel)
theorem KB.dep:∀ {d:Nat}{k:Kd},KB d k->(kdD k).dep<=3 * d+2
 | _,.num,_=>by rw[kdD,Dt.dep,depL,Dt.dep,depL];lia
 | _,.word,_=>by rw[kdD,Dt.dep,depL,Dt.dep,depL];lia
 | 0,.row fs,h=>by rw[KB]at h;subst h;rw[kdD,kdR,Dt.dep,depL,Dt.dep,depL,depL,Dt.dep,depL];decide
 | 0,.bag k,h=>by rw[KB]at h;exact h.elim
 | d+1,.row fs,h=>by
  rw[KB]at h
  have key:depL (kdR fs)<=3 * d+3:=depL_le fun t ht=>by
   rw[kdR_map]at ht
   obtain⟨q,hq,rfl⟩:=List.mem_map.mp ht
   have:=(h.2 q hq).dep
   rw[Dt.dep,depL,depL,depL,Dt.dep]
   lia
  rw[kdD,Dt.dep,depL,depL,depL,Dt.dep,Dt.dep]
  lia
 | d+1,.bag k,h=>by
  rw[KB]at h
  have:=h.dep
  rw[kdD,Dt.dep,depL,depL,depL,Dt.dep]
  lia
section
variable {P:Program}{w:World}{K:PySem.W.Frag}{mg:Str->Option Value}{base:Heap}{f f_next f_name:Addr}{fd fd_next fd_name:FuncData}
def co (d:Nat):Int:=20 * d+20
def spOtherK (d:Nat):Sp:=fun vs H Q _=>∃ (uk:V) (k:Kd) (p:Addr) (n r:Int),vs=[uk,.ref p]/\IsDt H (kdD k) uk/\KB d k/\Dk H p n r/\0<=n/\n+co d<1000000000000 /\
 ∀ (k':Kd) (u':V) (H':Hp) (r':Int),KB (d+2) k'->IsDt H' (kdD k') u'->Ex p H H'->Dk H' p (n+co d) r'->Q u' H'
theorem ZaH:FnScope ["kind","deck","way","at","field","part","rest"] ["kind","deck"] (defScope (top 20)):=⟨rfl,rfl,rfl,by decide +kernel,rfl,by decide +kernel,by decide +kernel⟩
theorem ok_otherK {k d:Nat} (hk:2<=k) (hd:d<=20) (T:Tx mg) (Zal:Df K mg "_law_other_kind" (top 20) f fd ["kind","deck"]) (Za1:FnOk P w K mg base CX0 k f fd ["kind","deck"] (pre spOtherK d))
  (Zaa:Df K mg "_law_next" (top 7) f_next fd_next ["deck","many"]) (Zab:FnOk P w K mg base CX0 1 f_next fd_next ["deck","many"] spNext)
  (Zac:Df K mg "_law_name" (top 10) f_name fd_name ["deck"]) (Zai:FnOk P w K mg base CX0 2 f_name fd_name ["deck"] spName) :
  FnOk P w K mg base CX0 (k+1) f fd ["kind","deck"] (spOtherK d):=by
 refine Zal.fn.okH ZaH (fun vs H Q E h=>?_) (fun cdv A outer s H vs Q E hr h=>?_)
 ·obtain⟨uk,k,p,n,r,rfl,_⟩:=h;rfl
 obtain⟨uk,kd,p,n,r,rfl,iu,kb,dk,n0,hn,fin⟩:=h
 have hu:=u110 hr
 have hu0:=u0 hr
 have hu1:=hu_of hr
 unfold co at hn fin
 refine⟨_,(wss_cons (ws_set (i:=2) ZaH.nd rfl (Or.inl rfl) (we_call Zab (hr.mono (by lia)) rfl Zaa.mg Zaa.kp Zaa.b .nil pass0 (wa_cons (wv 1) (wa_cons we_int wa_nil))))
   (wss_cons (ws_if (wt_pw (ww_and (wt_cmpR (op_eqU hu) (we_ix (ix_U hu1) (wv 0) we_int (fun _ _=>rfl)) we_str (nomark _)) (ww_and1 (wt_cmpR op_gt (wv 2) we_int (nomark _))))) (wss_one (ws_ret (we_ix (ix_U hu1) (we_lst (wa_cons (we_tup (wa_cons we_str (wa_cons (we_call Za1 (hr.mono (by lia)) rfl Zal.mg Zal.kp Zal.b .nil pass0 (wa_cons (we_ix (ix_U hu1) (wv 0) we_int (fun _ _=>rfl)) (wa_cons (wv 1) wa_nil))) wa_nil))) (wa_cons (we_ix (ix_U hu1) (wv 0) we_int (fun _ _=>rfl)) wa_nil))) (we_callTy call_int1 rfl T.z_int bt_int (wa_cons (we_cmpR (op_eqU hu) (wv 2) we_int (nomark _)) wa_nil)) (fun _ _=>rfl)))) wss_nil)
   (wss_cons (ws_if (wt_pw (ww_and (wt_cmpR (op_eqU hu) (we_ix (ix_U hu1) (wv 0) we_int (fun _ _=>rfl)) we_str (nomark _)) (ww_and (wt_cmpR (op_neU hu) (we_ix (ix_U hu1) (wv 0) we_int (fun _ _=>rfl)) (we_tup wa_nil) (nomark _)) (ww_and1 (wt_cmpR op_gt (wv 2) we_int (nomark _)))))) (wss_cons (ws_set (i:=3) ZaH.nd rfl (Or.inl rfl) (we_call Zab (hr.mono (by lia)) rfl Zaa.mg Zaa.kp Zaa.b .nil pass0 (wa_cons (wv 1) (wa_cons (we_callB call_lenU rfl T.z_len bt_len (wa_cons (we_ix (ix_U hu1) (wv 0) we_int (fun _ _=>rfl)) wa_nil)) wa_nil))))
   (wss_cons (ws_asg (we_ix (ix_U hu1) (we_ix (ix_U hu1) (wv 0) we_int (fun _ _=>rfl)) (wv 3) (fun _ _=>rfl)) (wg_tup rfl (wgs_cons (wg_name (i:=4) ZaH.nd rfl (Or.inl rfl)) (wgs_cons (wg_name (i:=5) ZaH.nd rfl (Or.inl rfl)) wgs_nil))))
   (wss_cons (ws_set (i:=6) ZaH.nd rfl (Or.inr rfl) (we_callTy (call_dictK rfl) rfl T.z_dict bt_dict (wa_cons (we_op op_plus (we_slice sl_U (we_ix (ix_U hu1) (wv 0) we_int (fun _ _=>rfl)) wo_none (wo_some (wv 3))) (we_slice sl_U (we_ix (ix_U hu1) (wv 0) we_int (fun _ _=>rfl)) (wo_some (we_op op_plus (wv 3) we_int)) wo_none)) wa_nil)))
   (wss_cons (ws_if (wt_cmpR (op_eqU hu) (wv 2) we_int (nomark _)) (wss_one (ws_asg (wv 5) (wg_sub (wv 6) (we_call Zai (hr.mono (by lia)) rfl Zac.mg Zac.kp Zac.b .nil pass0 (wa_cons (wv 1) wa_nil)) (set_U hu1)))) (wss_one (ws_if (wt_cmpR (op_ltU hu0) (wv 2) we_int (nomark _)) (wss_one (ws_asg (we_call Za1 (hr.mono (by lia)) rfl Zal.mg Zal.kp Zal.b .nil pass0 (wa_cons (wv 5) (wa_cons (wv 1) wa_nil))) (wg_sub (wv 6) (wv 4) (set_U hu1)))) wss_nil)))
   (wss_one (ws_ret (we_tup (wa_cons we_str (wa_cons (we_callTy call_tuple_of rfl T.z_tuple bt_tuple (wa_cons (we_lc (Nt:=["name"]) (fr:=[("rest",6)]) (LcOk.of (sc:=defScope (top 20)) (N:=["kind","deck","way","at","field","part","rest"]) rfl rfl (by decide +kernel)) rfl (wi_U (we_callB (call_sortD rfl) rfl T.z_sorted bt_sorted (wa_cons (wv 6) wa_nil))) (fun z=>wg_name (i:=0) (by show (["name","rest"]:List Str).Nodup;decide +kernel) rfl (Or.inl rfl) (.inr rfl)) (fun z=>tgt_name (by decide)) (fun z=>wif_nil) (fun z=>(we_tup (wa_cons (wv 0) (wa_cons (we_ix (ix_U hu1) (wv 1) (wv 0) (fun _ _=>rfl)) wa_nil))))) wa_nil)) wa_nil))))))))) wss_nil)
   (wss_one (ws_ret (we_ix (ix_U hu1) (we_lst (wa_cons (we_tup (wa_cons we_str (wa_cons (wv 0) wa_nil))) (wa_cons (we_tup (wa_cons we_str wa_nil)) (wa_cons (we_tup (wa_cons we_str wa_nil)) (wa_cons (we_tup (wa_cons we_str (wa_cons (we_tup wa_nil) wa_nil))) (wa_cons (we_tup (wa_cons we_str (wa_cons (we_tup (wa_cons (we_tup (wa_cons we_str (wa_cons (wv 0) wa_nil))) wa_nil)) wa_nil))) wa_nil)))))) (we_call Zab (hr.mono (by lia)) rfl Zaa.mg Zaa.kp Zaa.b .nil pass0 (wa_cons (wv 1) (wa_cons we_int wa_nil))) (fun _ _=>rfl))))))),?_⟩
 refine seqH fun N1 to1=>⟨_,rfl,p,n,r,5,rfl,dk,by lia,by decide,by decide,fun way H1 w0 w1 ex1 dk1=>to1 _ _ ?_⟩
 have iu1:=IsDt.mono (dk.tups ex1) iu
 have fin':∀ (k':Kd) (u':V) (H':Hp) (r' m:Int),KB (d+2) k'->IsDt H' (kdD k') u'->Ex p H1 H'->Dk H' p m r'->m<=n+(20 * d+20)->Q u' H':=fun k' u' H' r' m h1 h2 h3 h4 h5=>fin k' u' H' r' h1 h2 (ex1.trans h3) (h4.mono h5)
 obtain⟨a,rs,rfl,ha⟩:=tag_kd iu1
 refine seqH fun N2 to2=>?_
 have second:N2 [some (.ref a),some (.ref p),some (.int way),none,none,none,none] H1:=by
  refine to2 _ _ (seqH fun N3 to3=>?_)
  have third:∀ H2,Same H1 H2->N3 [some (.ref a),some (.ref p),some (.int way),none,none,none,none] H2:=by
   intro H2 s2
   refine to3 _ _ ?_
   refine⟨_,rfl,(by show 2<=sizeLine;decide),fun t1 h1=>⟨(by show 1<=sizeLine;decide),fun t2 h2=>⟨(by show 1<=sizeLine;decide),fun t3 h3=>⟨(by show 0<=sizeLine;decide),fun t4 h4=>⟨(by show 2<=sizeLine;decide),fun t5 h5=>⟨_,rfl,(by show 2<=sizeLine;decide),fun t6 h6=>⟨(by show 1<=sizeLine;decide),fun t7 h7=>⟨(by show 2<=sizeLine;decide),fun t8 h8=>⟨(by show 5<=sizeLine;decide),fun l hl=>?_⟩⟩⟩⟩⟩⟩⟩⟩⟩
   have iu2:=IsDt.mono s2.tups iu1
   have s3:=same_new h1 (.tup [.str "bag",.ref a])
   have s4:=same_new h2 (.tup [.str "num"])
   have s5:=same_new h3 (.tup [.str "word"])
   have s6:=same_new h4 (.tup [])
   have s7:=same_new h5 (.tup [.str "row",.ref t4])
   have s8:=same_new h6 (.tup [.str "a",.ref a])
   have s9:=same_new h7 (.tup [.ref t6])
   have s10:=same_new h8 (.tup [.str "row",.ref t7])
   have s11:=same_new hl (.lst [.ref t1,.ref t2,.ref t3,.ref t5,.ref t8])
   have d1:IsDt (upd H2 t1 (.tup [.str "bag",.ref a])) (kdD (.bag kd)) (.ref t1):=by rw[kdD];exact isDt_new h1 (.cons (isDt_str _) (.one iu2))
   have d2:IsDt (upd (upd H2 t1 (.tup [.str "bag",.ref a])) t2 (.tup [.str "num"])) (kdD .num) (.ref t2):=by rw[kdD];exact isDt_new h2 (.one (isDt_str _))
   have d3:IsDt (upd (upd (upd H2 t1 (.tup [.str "bag",.ref a])) t2 (.tup [.str "num"])) t3 (.tup [.str "word"])) (kdD .word) (.ref t3):=by rw[kdD];exact isDt_new h3 (.one (isDt_str _))
   have d5:IsDt (upd (upd (upd (upd (upd H2 t1 (.tup [.str "bag",.ref a])) t2 (.tup [.str "num"])) t3 (.tup [.str "word"])) t4 (.tup [])) t5 (.tup [.str "row",.ref t4])) (kdD (.row [])) (.ref t5):=by rw[kdD,kdR];exact isDt_new h5 (.cons (isDt_str _) (.one (isDt_new h4 .nil)))
   have d8:IsDt (upd (upd (upd (upd (upd (upd (upd (upd H2 t1 (.tup [.str "bag",.ref a])) t2 (.tup [.str "num"])) t3 (.tup [.str "word"])) t4 (.tup [])) t5 (.tup [.str "row",.ref t4])) t6 (.tup [.str "a",.ref a])) t7 (.tup [.ref t6])) t8 (.tup [.str "row",.ref t7])) (kdD (.row [(Str.ofString "a",kd)])) (.ref t8):=by
    rw[kdD,kdR_map]
    exact isDt_new h8 (.cons (isDt_str _) (.one (isDt_new h7 (.one (isDt_new h6 (.cons (isDt_str _) (.one (IsDt.mono ((((s3.trans s4).trans s5).trans s6).trans s7).tups iu2))))))))
   replace d1:=IsDt.mono ((((((((s4.trans s5).trans s6).trans s7).trans s8).trans s9).trans s10).trans s11)).tups d1
   replace d2:=IsDt.mono (((((((s5.trans s6).trans s7).trans s8).trans s9).trans s10).trans s11)).tups d2
   replace d3:=IsDt.mono ((((((s6.trans s7).trans s8).trans s9).trans s10).trans s11)).tups d3
   replace d5:=IsDt.mono (((s8.trans s9).trans s10).trans s11).tups d5
   replace d8:=IsDt.mono s11.tups d8
   have sa:=s2.trans (((((((((s3.trans s4).trans s5).trans s6).trans s7).trans s8).trans s9).trans s10).trans s11))
   have dkL:=dk1.keep sa
   have hlL:(upd (upd (upd (upd (upd (upd (upd (upd (upd H2 t1 (.tup [.str "bag",.ref a])) t2 (.tup [.str "num"])) t3 (.tup [.str "word"])) t4 (.tup [])) t5 (.tup [.str "row",.ref t4])) t6 (.tup [.str "a",.ref a])) t7 (.tup [.ref t6])) t8 (.tup [.str "row",.ref t7])) l (.lst [.ref t1,.ref t2,.ref t3,.ref t5,.ref t8])) l=some (.lst [.ref t1,.ref t2,.ref t3,.ref t5,.ref t8]):=upd_same
   obtain⟨HL,eL⟩:∃ HL,HL=upd (upd (upd (upd (upd (upd (upd (upd (upd H2 t1 (.tup [.str "bag",.ref a])) t2 (.tup [.str "num"])) t3 (.tup [.str "word"])) t4 (.tup [])) t5 (.tup [.str "row",.ref t4])) t6 (.tup [.str "a",.ref a])) t7 (.tup [.ref t6])) t8 (.tup [.str "row",.ref t7])) l (.lst [.ref t1,.ref t2,.ref t3,.ref t5,.ref t8]):=⟨_,rfl⟩
   rw[<- eL]at d1 d2 d3 d5 d8 sa dkL hlL ⊢
   clear eL s3 s4 s5 s6 s7 s8 s9 s10 s11
   have nl:l≠p:=fun z=>by obtain⟨c1,c2,c3,c4,e,_⟩:=id dkL;rw[z,e]at hlL;cases hlL
   refine⟨_,rfl,p,n+1,r,5,rfl,dkL,by lia,by decide,by decide,fun i H3 i0 i1 ex3 dk3=>?_⟩
   have key:∃ (u':V) (k':Kd),atI [.ref t1,.ref t2,.ref t3,.ref t5,.ref t8] i=some u'/\IsDt HL (kdD k') u'/\KB (d+2) k':=by
    rcases (show i=0\/i=1\/i=2\/i=3\/i=4 by lia) with rfl | rfl | rfl | rfl | rfl
    ·exact⟨_,_,atI_nat (j:=0) rfl,d1,by rw[KB];exact kb.up⟩
    ·exact⟨_,_,atI_nat (j:=1) rfl,d2,kb_num⟩
    ·exact⟨_,_,atI_nat (j:=2) rfl,d3,kb_word⟩
    ·exact⟨_,_,atI_nat (j:=3) rfl,d5,by rw[KB];exact⟨by decide,fun q hq=>(nomatch hq)⟩⟩
    ·exact⟨_,_,atI_nat (j:=4) rfl,d8,by rw[KB];exact⟨by show 1<=7;decide,fun q hq=>by rw[List.mem_singleton.mp hq];exact kb.up⟩⟩
   obtain⟨u',k',ea,ik,kb'⟩:=key
   exact ixl (SqL.of (ex3 _ _ nl hlL)) ea (fin' k' u' H3 r _ kb' (IsDt.mono (dkL.tups ex3) ik) (fun b o nb q=>ex3 _ _ nb (sa _ _ q)) dk3 (by lia))
  refine⟨_,rfl,ixt (SqT.of ha) at0 (.inl ⟨rfl,_,rfl,ite2 (fun e=>?_) (fun _=>iteF (third _ fun _ _ q=>q))⟩)⟩
  obtain⟨fs,rfl⟩:=tag_isR e
  obtain⟨a',b,bx,ea,ha',hb,ib⟩:=krow_at iu1
  cases ea
  have dp:depL (kdR fs)<=depMax:=by
   have:=kb.dep
   rw[kdD,Dt.dep,depL,depL,depL,Dt.dep,Dt.dep]at this
   unfold depMax;lia
  have iw:IsDt H1 (.tup (kdR fs)) (.ref b):=isDt_tup hb (by rw[kdR_map];exact ib)
  refine⟨_,rfl,ixt (SqT.of ha') at1 ⟨(by show 0<=sizeLine;decide),fun t2 ht2=>.inr (.inl ⟨_,[],IsDt.mono (Tups.new ht2 _) iw,isDt_new ht2 .nil,dp,_,rfl,ite2 (fun e=>?_) (fun e=>iteF (third _ (same_new ht2 _)))⟩)⟩⟩
  refine⟨_,rfl,_,_,rfl,rfl,_,rfl,ite2 (fun e2=>?_) (fun _=>third _ (same_new ht2 _))⟩
  have f0:0<fs.length:=by
   cases fs with
   | nil=>exact absurd e (by rw[kdR];decide +kernel)
   | cons=>exact Nat.succ_pos _
  cases d with
  | zero=>rw[KB]at kb;subst kb;cases f0
  | succ d=>
  have kb0:=kb
  rw[KB]at kb
  have lb:bx.length=fs.length:=by rw[ib.length,List.length_map]
  have sA:=same_new ht2 (.tup [])
  have dk2:=dk1.new (o:=.tup []) ht2
  have haA:=sA _ _ ha'
  have hbA:=sA _ _ hb
  have prA:PrK (upd H1 t2 (.tup [])) d bx:=(prk_of (by rw[kdR_map];exact ib) kb.2).mono sA.tups
  obtain⟨HA,eA⟩:∃ HA,HA=upd H1 t2 (.tup []):=⟨_,rfl⟩
  rw[<- eA]at sA dk2 haA hbA prA ⊢
  clear eA third to3 e
  have nap:a≠p:=fun z=>by obtain⟨c1,c2,c3,c4,e,_⟩:=id dk2;rw[z,e]at haA;cases haA
  have nbp:b≠p:=fun z=>by obtain⟨c1,c2,c3,c4,e,_⟩:=id dk2;rw[z,e]at hbA;cases hbA
  refine seqH fun N4 to4=>⟨_,rfl,_,rfl,ixt (SqT.of haA) at1 (.inl ⟨b,bx,rfl,.inr (SqT.of hbA),p,n+1,r,_,rfl,dk2,by lia,by lia,by lia,fun x H3 x0 x1 ex3 dk3=>to4 _ _ ?_⟩)⟩
  obtain⟨j,rfl⟩:∃ j:Nat,x=j:=⟨x.toNat,by lia⟩
  have hj:j<bx.length:=by lia
  have ha3:=ex3 _ _ nap haA
  have hb3:=ex3 _ _ nbp hbA
  have pr3:=prA.mono (dk2.tups ex3)
  have exB:Ex p H1 H3:=fun b o nb q=>ex3 _ _ nb (sA _ _ q)
  clear to4 ex3 hbA haA prA dk2 sA HA
  obtain⟨c,fl,kp,yp,ec,hc3,kbp,ip⟩:=pr3 _ (List.getElem_mem hj)
  refine seqH fun N5 to5=>⟨_,rfl,ixt (SqT.of ha3) at1 ⟨_,rfl,ixt (SqT.of hb3) (atI_nat (j:=j) (by rw[List.getElem?_eq_getElem hj,ec])) ⟨c,_,rfl,SqT.of hc3,rfl,_,_,rfl,_,_,rfl,rfl,to5 _ _ ?_⟩⟩⟩
  refine seqH fun N6 to6=>⟨_,rfl,ixt (SqT.of ha3) at1 ⟨_,rfl,_,rfl,sl_any hb3 fun q1 H4 s4 hq1=>⟨_,rfl,ixt (SqT.of (s4 _ _ ha3)) at1 ⟨_,rfl,.inl ⟨_,_,rfl,rfl,_,rfl,sl_any (s4 _ _ hb3) fun q2 H5 s5 hq2=>?_⟩⟩⟩⟩⟩
  rw[cut_take _ (Nat.le_of_lt hj)]at hq1
  rw[cut_drop _ hj]at hq2
  refine cat_any (s5 _ _ hq1) hq2 (by rw[List.length_take,List.length_drop];lia) fun q3 H6 s6 hq3=>?_
  have s36:=(s4.trans s5).trans s6
  have pr6:PrK H6 d (bx.take j++bx.drop (j+1)):=fun u hu=>(pr3.mono s36.tups) u ((List.mem_append.mp hu).elim List.mem_of_mem_take List.mem_of_mem_drop)
  obtain⟨kvs,hk1,hk2,hk3⟩:=prk_pairs pr6
  have l6:kvs.length<=6:=by rw[hk3,List.length_append,List.length_take,List.length_drop];lia
  refine⟨q3,_,kvs,rfl,.inr hq3,hk1,fun rs hrs=>to6 _ _ ?_⟩
  have s7:=same_new hrs (.dK (mergeG [] kvs))
  have ak7:AllK (upd H6 rs (.dK (mergeG [] kvs))) (d+2) (mergeG [] kvs):=fun kv hk=>by
   obtain⟨s',k',e1,e2,e3⟩:=(merge_all (fun kv h=>(nomatch h)) hk2:AllK H6 d (mergeG [] kvs)) kv hk
   exact⟨s',k',e1,e2.le (by lia),IsDt.mono s7.tups e3⟩
  have l7:(mergeG [] kvs).length<=6:=by have:=mergeG_len kvs [];simp at this;lia
  have s37:=s36.trans s7
  have dk7:=dk3.keep s37
  have ex7:Ex p H1 (upd H6 rs (.dK (mergeG [] kvs))):=fun b o nb q=>s37 _ _ (exB b o nb q)
  have hr7:(upd H6 rs (.dK (mergeG [] kvs))) rs=some (.dK (mergeG [] kvs)):=upd_same
  have ip7:=IsDt.mono s37.tups ip
  obtain⟨kv7,ekv⟩:∃ kv7,kv7=mergeG [] kvs:=⟨_,rfl⟩
  rw[<- ekv]at ak7 l7 dk7 ex7 hr7 ip7 ⊢
  have nrp:rs≠p:=((dk3.keep s36).ne hrs)
  have hn1:H1 rs=none:=by
   cases e:H1 rs with
   | none=>rfl
   | some o=>have:=s36 _ _ (exB _ _ nrp e);rw[hrs]at this;cases this
  obtain⟨H7,e7⟩:∃ H7,H7=upd H6 rs (.dK kv7):=⟨_,rfl⟩
  rw[<- e7]at ak7 dk7 ex7 hr7 ip7 ⊢
  clear e7 s37 s7 hk3 l6 hk2 hk1 pr6 s36 hq3 s6 hq2 s5 hq1 s4 to6 to5 ekv
  refine seqH fun N7 to7=>?_
  have tl:∀ (H8:Hp) (kv8:List (Key×V)) (m r8:Int),H8 rs=some (.dK kv8)->kv8.length<=7->AllK H8 (d+2) kv8->Ex p H1 H8->Dk H8 p m r8->m<=n+(20 * ((d+1:Nat):Int)+20)->N7 [some (.ref a),some (.ref p),some (.int way),some (.int j),some (.str fl),some yp,some (.ref rs)] H8:=by
   intro H8 kv8 m r8 h8 l8 ak8 ex8 dk8 hm
   refine to7 _ _ ?_
   dsimp only[tRet,tTup,tCons,tC,tCB]
   refine lc_rowK (K:=K) h8 l8 ak8 (fun R q=>⟨_,rfl,rs,kv8,rfl,h8,(fun kv h=>let ⟨s,_,e,_⟩:=ak8 kv h;⟨s,e⟩),by lia,q⟩) (fun z s v H1 R s1 gg k=>⟨_,rfl,_,rfl,_,rfl,ixd gg ⟨(by show 2<=sizeLine;decide),k⟩⟩) fun l2 zs H2 fs s2 hl2 iz kb lf=>?_
   refine⟨l2,zs,rfl,.inl ⟨SqL.of hl2,fun t ht=>⟨(by show 2<=sizeLine;decide),fun t2 ht2=>?_⟩⟩⟩
   have sZ:=s2.trans ((same_new ht (.tup zs)).trans (same_new ht2 (.tup [.str "row",.ref t])))
   refine fin' (.row fs) _ _ r8 _ kb ?_ (ex8.trans (fun b o nb z=>sZ b o z)) (dk8.keep sZ) hm
   rw[kdD]
   exact isDt_new ht2 (.cons (isDt_str _) (.one (isDt_new ht iz)))
  refine⟨_,rfl,.inl ⟨rfl,_,rfl,ite2 (fun _=>?_) (fun _=>?_)⟩⟩
  ·refine⟨_,rfl,_,rfl,_,rfl,p,_,r,rfl,dk7,by lia,fun nm H8 ln lt ex8 dk8=>.inr ⟨rs,_,rfl,DPut.k (k:=Sum.inr nm) (ex8 _ _ nrp hr7) (Nat.lt_of_le_of_lt (show kv7.length<=1000 by lia) (by decide)),?_⟩⟩
   have hr8:=ex8 _ _ nrp hr7
   have t8:=dk7.tups ex8
   have tu:Tups H8 (upd H8 rs (.dK (putK kv7 (Sum.inr nm) yp))):=fun b ys e=>by rw[upd_ne (fun z=>by rw[z,hr8]at e;cases e)];exact e
   exact tl _ _ _ r upd_same (Nat.le_trans (length_putK _ _ _) (by lia)) (((ak7.mono t8).mono tu).put (kbp.le (by lia)) (IsDt.mono tu (IsDt.mono t8 ip7))) ((ex7.trans ex8).upd' hn1) (dk8.off (fun z=>nrp z.symm)) (by lia)
  ·refine⟨_,rfl,.inl ⟨_,_,rfl,rfl,_,rfl,ite2 (fun _=>?_) (fun _=>tl _ _ _ r hr7 (by lia) ak7 ex7 dk7 (by lia))⟩⟩
   refine⟨_,rfl,_,rfl,yp,kp,p,_,r,rfl,ip7,kbp,dk7,by lia,by unfold co;lia,fun k' u' H8 r8 kb8 ik8 ex8 dk8=>⟨_,rfl,_,rfl,.inr ⟨rs,_,rfl,DPut.k (k:=Sum.inr fl) (ex8 _ _ nrp hr7) (Nat.lt_of_le_of_lt (show kv7.length<=1000 by lia) (by decide)),?_⟩⟩⟩
   have hr8:=ex8 _ _ nrp hr7
   have t8:=dk7.tups ex8
   have tu:Tups H8 (upd H8 rs (.dK (putK kv7 (Sum.inr fl) u'))):=fun b ys e=>by rw[upd_ne (fun z=>by rw[z,hr8]at e;cases e)];exact e
   unfold co at dk8
   exact tl _ _ _ r8 upd_same (Nat.le_trans (length_putK _ _ _) (by lia)) (((ak7.mono t8).mono tu).put kb8 (IsDt.mono tu ik8)) ((ex7.trans ex8).upd' hn1) (dk8.off (fun z=>nrp z.symm)) (by lia)
 refine⟨_,rfl,ixt (SqT.of ha) at0 (.inl ⟨rfl,_,rfl,ite2 (fun e=>?_) (fun _=>iteF second)⟩)⟩
 refine⟨_,rfl,_,_,rfl,rfl,_,rfl,ite2 (fun e2=>?_) (fun _=>second)⟩
 obtain⟨k1,rfl⟩:=tag_isB e
 obtain⟨a',y,ea,ha',iy⟩:=kbag_at iu1
 cases ea
 cases d with
 | zero=>rw[KB]at kb;exact kb.elim
 | succ d=>
 rw[KB]at kb
 refine⟨_,rfl,ixt (SqT.of ha') at1 ⟨_,rfl,y,k1,p,n+1,r,rfl,iy,kb,dk1,by lia,by unfold co;lia,fun k' u' H2 r2 kb2 ik ex2 dk2=>⟨(by show 2<=sizeLine;decide),fun t1 h1=>⟨_,rfl,?_⟩⟩⟩⟩
 have nap:a≠p:=fun z=>by obtain⟨c1,c2,c3,c4,e,_⟩:=id dk1;rw[z,e]at ha';cases ha'
 refine ixt (SqT.of (same_new h1 _ _ _ (ex2 _ _ nap ha'))) at1 ⟨(by show 2<=sizeLine;decide),fun l hl=>⟨_,rfl,.inl ⟨rfl,.inr ⟨_,rfl,?_⟩⟩⟩⟩
 unfold co at dk2
 by_cases e1:way=1
 ·subst e1
  exact ixl (SqL.of upd_same) at1 (fin' k1 y _ r2 _ (kb.le (by lia)) (IsDt.mono (same_new hl _).tups (IsDt.mono (same_new h1 _).tups (IsDt.mono (dk1.tups ex2) iy))) (ex2.trans ((ex_new h1).trans (ex_new hl))) ((dk2.new h1).new hl) (by lia))
 ·rw[if_neg (by intro z;exact e1 (by have:=of_decide_eq_true z;injection this))]
  exact ixl (SqL.of upd_same) at0 (fin' (.bag k') _ _ r2 _ (by rw[KB];exact kb2) (IsDt.mono (same_new hl _).tups (by rw[kdD];exact isDt_new h1 (.cons (isDt_str _) (.one ik)))) (ex2.trans ((ex_new h1).trans (ex_new hl))) ((dk2.new h1).new hl) (by lia))
theorem otherK_all (T:Tx mg) (Zal:Df K mg "_law_other_kind" (top 20) f fd ["kind","deck"])
  (Zaa:Df K mg "_law_next" (top 7) f_next fd_next ["deck","many"]) (Zab:FnOk P w K mg base CX0 1 f_next fd_next ["deck","many"] spNext)
  (Zac:Df K mg "_law_name" (top 10) f_name fd_name ["deck"]) (Zai:FnOk P w K mg base CX0 2 f_name fd_name ["deck"] spName):∀ d:Nat,d<=20->FnOk P w K mg base CX0 (d+3) f fd ["kind","deck"] (spOtherK d)
 | 0,h=>ok_otherK (k:=2) (by decide) h T Zal ⟨fun _ _ _ _ h=>h.elim,fun _ _ _ _ _ _ _ _ _ _ _ _ _ h=>h.elim⟩ Zaa Zab Zac Zai
 | d+1,h=>ok_otherK (k:=d+3) (by lia) h T Zal (otherK_all T Zal Zaa Zab Zac Zai d (by lia)) Zaa Zab Zac Zai
end
end K09
end
section
namespace L2
open PySem PySem.Spec PyProof.Rows
def lcChk0 (scope:Scope):Bool:=(scope.kind == .function) && scope.names.all (fun y=>decide (y.2≠.cell)) && scope.names.all (fun y=>decide (y.2=.local->scope.names.lookup y.1=some .local)) && scope.names.all (fun y=>decide (y.2≠.free))
theorem LcOk.of0 {X:Cx}{scope:Scope}{Nt:List Str} (h:lcChk0 scope=true):LcOk X scope Nt []:=by
 unfold lcChk0 at h
 simp only[Bool.and_eq_true,List.all_eq_true,decide_eq_true_eq]at h
 obtain⟨⟨⟨a1,a2⟩,a3⟩,a4⟩:=h
 exact⟨eq_of_beq a1,a2,a3,fun y hy hf=>absurd hf (a4 y hy),fun p hp=>(nomatch hp)⟩
end L2
end
section
namespace K09
open PySem L2 Kn
theorem lc_rng {e:ZC->TE}{fr:List (Str×Nat)} {σ:St} {H1:Hp}{F:List V->Hp->Prop}{n:Int} (J:Nat->List V->Hp->Prop)
  (n0:0<=n) (n1:n<=1000000) (j0:J 0 [] H1) (stay:∀ i zs H',J i zs H'->zs.length<=1000000)
  (step:∀ z (i:Nat) zs H',J i zs H'->(i:Int)<n->∀ R:VK,(∀ y H2,J (i+1) (zs++[y]) H2->R y H2)->e z (some (.int i)::fr.map fun q=>(σ[q.2]?).join) H' R)
  (fin:∀ (zs:List V) (H':Hp),J n.toNat zs H'->F zs H') :
  ∃ j:Int,[V.int n]=[V.int j]/\-(2 ^ 62)<=j/\j<2 ^ 62/\∃ W:Nat->Nat->List V->Hp->Prop,(∃ m,W 0 m [] H1)/\lcStep (Itr 0 j.toNat) 1 fr (fun _=>gName 0) (fun _=>tAll) e σ W F:=by
 refine⟨n,rfl,by lia,by lia,?_⟩
 refine⟨fun i m zs H2=>m+i=n.toNat/\J i zs H2,⟨n.toNat,rfl,j0⟩,?_⟩
 rintro i m zs H2 ⟨hm,j⟩
 refine⟨line1 (Nat.le_trans (stay _ _ _ j) (by decide)),?_⟩
 by_cases hi:i<n.toNat
 ·refine .inr ⟨hi,fun z x H3 hy=>?_⟩
  obtain⟨eH,ex⟩:=hy
  rw[eH,ex]
  clear eH H3
  refine gallW ?_
  rw[Int.zero_add]
  exact step z i zs H2 j (by lia) _ fun y H4 q=>⟨m-1,by lia,by lia,q⟩
 ·have ei:i=n.toNat:=by lia
  exact .inl ⟨by show n.toNat<=i;lia,fin zs _ (ei ▸ j)⟩
theorem lc_one {K:PySem.W.Frag}{e:ZC->TE}{fr:List (Str×Nat)} {σ:St} {H1:Hp}{F:List V->Hp->Prop}{b:Addr}{xs:List V} (J:Nat->List V->Hp->Prop)
  (j0:J 0 [] H1) (stay:∀ i zs H',J i zs H'->H' b=some (.lst xs)/\zs.length<=1000000)
  (step:∀ z i zs H',J i zs H'->(hi:i<xs.length)->∀ R:VK,(∀ y H2,J (i+1) (zs++[y]) H2->R y H2)->e z (some xs[i]::fr.map fun q=>(σ[q.2]?).join) H' R)
  (fin:∀ (zs:List V) (H':Hp),J xs.length zs H'->F zs H') :
  ∃ q:Addr,V.ref b=V.ref q/\(∃ ys,SqL K H1 q ys)/\∃ W:Nat->Nat->List V->Hp->Prop,(∃ m,W 0 m [] H1)/\lcStep (Itl K q) 1 fr (fun _=>gName 0) (fun _=>tAll) e σ W F:=by
 refine⟨b,rfl,⟨xs,SqL.of (stay _ _ _ j0).1⟩,?_⟩
 refine⟨fun i m zs H2=>m+i=xs.length/\J i zs H2,⟨xs.length,rfl,j0⟩,?_⟩
 rintro i m zs H2 ⟨hm,j⟩
 obtain⟨hb,lz⟩:=stay _ _ _ j
 refine⟨line1 (by lia),?_⟩
 by_cases hi:i<xs.length
 ·refine .inr ⟨⟨_,_,SqL.of hb,List.getElem?_eq_getElem hi⟩,fun z x H3 hy=>?_⟩
  obtain⟨eH,hx⟩:=hy
  rw[eH]
  clear eH H3
  have e2:=hx _ (SqL.of hb)
  rw[List.getElem?_eq_getElem hi]at e2
  cases e2
  exact gallW (step z i zs H2 j hi _ fun y H4 q=>⟨m-1,by lia,by lia,q⟩)
 ·have ei:i=xs.length:=by lia
  exact .inl ⟨⟨_,SqL.of hb,by lia⟩,fin zs _ (ei ▸ j)⟩
def VLs (H:Hp) (vs:List Val) (us:List V):Prop:=(∀ v∈vs,Bd 7 1 v)/\IsDts H (vs.map dat) us
theorem VLs.mono {H H':Hp} (t:Tups H H') {vs:List Val}{us:List V} (h:VLs H vs us):VLs H' vs us:=⟨h.1,IsDts.mono t h.2⟩
theorem VLs.len {H:Hp}{vs:List Val}{us:List V} (h:VLs H vs us):us.length=vs.length:=by rw[h.2.length,List.length_map]
theorem VLs.app {H:Hp}{vs ws:List Val}{us xs:List V} (h:VLs H vs us) (g:VLs H ws xs):VLs H (vs++ws) (us++xs):=⟨fun v hv=>(List.mem_append.mp hv).elim (h.1 v) (g.1 v),by rw[List.map_append];exact h.2.append g.2⟩
theorem isDts_take {H:Hp}:∀ {ds:List Dt}{us:List V} (k:Nat),IsDts H ds us->IsDts H (ds.take k) (us.take k)
 | _,_,0,_=>by rw[List.take_zero,List.take_zero];exact .nil
 | [],us,k+1,h=>by rw[IsDts]at h;subst h;exact .nil
 | d::ds,us,k+1,h=>by
  rw[IsDts]at h
  obtain⟨y,r,rfl,h1,h2⟩:=h
  exact .cons h1 (isDts_take k h2)
theorem isDts_drop {H:Hp}:∀ {ds:List Dt}{us:List V} (k:Nat),IsDts H ds us->IsDts H (ds.drop k) (us.drop k)
 | _,_,0,h=>h
 | [],us,k+1,h=>by rw[IsDts]at h;subst h;exact .nil
 | d::ds,us,k+1,h=>by
  rw[IsDts]at h
  obtain⟨y,r,rfl,h1,h2⟩:=h
  exact isDts_drop k h2
theorem VLs.take {H:Hp}{vs:List Val}{us:List V} (k:Nat) (h:VLs H vs us):VLs H (vs.take k) (us.take k):=⟨fun v hv=>h.1 v (List.mem_of_mem_take hv),by rw[List.map_take];exact isDts_take k h.2⟩
theorem VLs.drop {H:Hp}{vs:List Val}{us:List V} (k:Nat) (h:VLs H vs us):VLs H (vs.drop k) (us.drop k):=⟨fun v hv=>h.1 v (List.mem_of_mem_drop hv),by rw[List.map_drop];exact isDts_drop k h.2⟩
theorem VLs.one {H:Hp}{v:Val}{u:V} (h:Bd 7 1 v) (i:IsDt H (dat v) u):VLs H [v] [u]:=⟨fun x hx=>by rw[List.mem_singleton.mp hx];exact h,.one i⟩
def rowAB (i:Int) (fl:Str) (x:Val):Val:=.row [(Str.ofString "a",.num i),(fl,x)]
theorem rowAB_bd {i:Int}{fl:Str}{x:Val} (l:fl.length<=100) (h:Bd 7 0 x):Bd 7 1 (rowAB i fl x):=by
 unfold rowAB
 rw[Bd]
 refine⟨by show 2<=7;decide,fun p hp=>?_⟩
 rcases List.mem_cons.mp hp with rfl | hp
 ·exact⟨by show (Str.ofString "a").length<=100;decide +kernel,bd_num⟩
 ·rw[List.mem_singleton.mp hp];exact⟨l,h⟩
theorem rowAB_d {H:Hp}{i:Int}{fl:Str}{x:Val}:dat (rowAB i fl x)=.tup [.str "row",.tup [.tup [.str "a",.tup [.str "num",.int i]],.tup [.str fl,dat x]]]:=by
 unfold rowAB
 rw[dat,datR_map,List.map_cons,List.map_cons,List.map_nil,dat]
theorem vzB_le {B:Nat}:∀ {l:List (Val×Int)},(∀ p∈l,vz p.1<=B)->vzB l<=l.length * B
 | [],_=>by rw[vzB];exact Nat.zero_le _
 | p::l,h=>by
  have:=vzB_le (l:=l) fun q hq=>h q (List.mem_cons_of_mem _ hq)
  have:=h p List.mem_cons_self
  rw[vzB,List.length_cons,Nat.succ_mul];lia
section
variable {P:Program}{w:World}{K:PySem.W.Frag}{mg:Str->Option Value}{base:Heap}{f f_next f_bag f_part:Addr}{fd fd_next fd_bag fd_part:FuncData}
def spWide:Sp:=fun vs H Q _=>∃ (p:Addr) (n r:Int),vs=[.ref p]/\Dk H p n r/\n+200<1000000000000 /\
 ∀ (l:Addr) (H':Hp),Ex p H H'->Dk H' p (n+144) r->Chn H' l 1000->Q (.ref l) H'
theorem ZaC:FnScope ["deck","rows","at","field","part","bent","kind"] ["deck"] (defScope (top 23)):=⟨rfl,rfl,rfl,by decide +kernel,rfl,by decide +kernel,by decide +kernel⟩
theorem ok_wide {k:Nat} (hk:2<=k) (T:Tx mg) (D:Df K mg "_law_wide" (top 23) f fd ["deck"]) (Zaa:Df K mg "_law_next" (top 7) f_next fd_next ["deck","many"]) (Zab:FnOk P w K mg base CX0 1 f_next fd_next ["deck","many"] spNext)
  (Zad:Df K mg "_law_bag" (top 13) f_bag fd_bag ["pairs"]) (ZaA:FnOk P w K mg base CX0 k f_bag fd_bag ["pairs"] (spBag 1))
  (Zaq:Df K mg "_law_other_part" (top 22) f_part fd_part ["deck","field","part"]) (Za6:FnOk P w K mg base CX0 2 f_part fd_part ["deck","field","part"] spOther):FnOk P w K mg base CX0 (k+1) f fd ["deck"] spWide:=by
 refine D.fn.okH ZaC (fun vs H Q E h=>?_) (fun cdv A outer s H vs Q E hr h=>?_)
 ·obtain⟨p,n,r,rfl,_⟩:=h;rfl
 obtain⟨p,n,r,rfl,dk,hn,fin⟩:=h
 have hu:=u110 hr
 have hu0:=u0 hr
 have hu1:=hu_of hr
 refine⟨_,(wss_cons (ws_lc (j:=1) (hN:=ZaC.nd) (hj:=rfl) (hy:=(Or.inl rfl)) (Nt:=["k"]) (fr:=[]) (LcOk.of (sc:=defScope (top 23)) (N:=["deck","rows","at","field","part","bent","kind"]) rfl rfl (by decide +kernel)) rfl (wi_range1 rfl T.z_range (wa_cons (we_op op_plus we_int (we_call Zab (hr.mono (by lia)) rfl Zaa.mg Zaa.kp Zaa.b .nil pass0 (wa_cons (wv 0) (wa_cons we_int wa_nil)))) wa_nil)) (fun z=>wg_name (i:=0) (by show (["k"]:List Str).Nodup;decide +kernel) rfl (Or.inl rfl) (.inr rfl)) (fun z=>tgt_name (by decide)) (fun z=>wif_nil) (fun z=>(we_tup (wa_cons we_str (wa_cons (we_tup (wa_cons (we_tup (wa_cons we_str (wa_cons (we_tup (wa_cons we_str (wa_cons (wv 0) wa_nil))) wa_nil))) (wa_cons (we_tup (wa_cons we_str (wa_cons (we_tup (wa_consts rfl)) wa_nil))) wa_nil))) wa_nil)))))
   (wss_cons (ws_set (i:=2) ZaC.nd rfl (Or.inl rfl) (we_call Zab (hr.mono (by lia)) rfl Zaa.mg Zaa.kp Zaa.b .nil pass0 (wa_cons (wv 0) (wa_cons (we_callB call_lenU rfl T.z_len bt_len (wa_cons (wv 1) wa_nil)) wa_nil))))
   (wss_cons (ws_asg (we_call Za6 (hr.mono (by lia)) rfl Zaq.mg Zaq.kp Zaq.b .nil pass0 (wa_cons (wv 0) (wa_cons we_str (wa_cons (we_tup (wa_consts rfl)) wa_nil)))) (wg_tup rfl (wgs_cons (wg_name (i:=3) ZaC.nd rfl (Or.inl rfl)) (wgs_cons (wg_name (i:=4) ZaC.nd rfl (Or.inl rfl)) wgs_nil))))
   (wss_cons (ws_set (i:=5) ZaC.nd rfl (Or.inl rfl) (we_op op_plus (we_op op_plus (we_slice sl_U (wv 1) wo_none (wo_some (wv 2))) (we_lst (wa_cons (we_tup (wa_cons we_str (wa_cons (we_tup (wa_cons (we_tup (wa_cons we_str (wa_cons (we_tup (wa_cons we_str (wa_cons (wv 2) wa_nil))) wa_nil))) (wa_cons (we_tup (wa_cons (wv 3) (wa_cons (wv 4) wa_nil))) wa_nil))) wa_nil))) wa_nil))) (we_slice sl_U (wv 1) (wo_some (we_op op_plus (wv 2) we_int)) wo_none)))
   (wss_cons (ws_set (i:=6) ZaC.nd rfl (Or.inl rfl) (we_tup (wa_cons we_str (wa_cons (we_tup (wa_cons we_str (wa_cons (we_tup (wa_cons (we_tup (wa_cons we_str (wa_cons (we_tup (wa_cons we_str wa_nil)) wa_nil))) (wa_cons (we_tup (wa_cons we_str (wa_cons (we_tup (wa_cons we_str wa_nil)) wa_nil))) wa_nil))) wa_nil))) wa_nil))))
   (wss_one (ws_ret (we_op op_plus (we_lc (Nt:=["some"]) (fr:=[]) (LcOk.of (sc:=defScope (top 23)) (N:=["deck","rows","at","field","part","bent","kind"]) rfl rfl (by decide +kernel)) rfl (wi_U (we_lst (wa_cons (wv 1) (wa_cons (wv 5) wa_nil)))) (fun z=>wg_name (i:=0) (by show (["some"]:List Str).Nodup;decide +kernel) rfl (Or.inl rfl) (.inr rfl)) (fun z=>tgt_name (by decide)) (fun z=>wif_nil) (fun z=>(we_call ZaA (hr.mono (by lia)) rfl Zad.mg Zad.kp Zad.b .nil pass0 (wa_cons (we_lc (Nt:=["row"]) (fr:=[]) (LcOk.of0 (by decide +kernel)) rfl (wi_U (wv 0)) (fun z=>wg_name (i:=0) (by show (["row"]:List Str).Nodup;decide +kernel) rfl (Or.inl rfl) (.inr rfl)) (fun z=>tgt_name (by decide)) (fun z=>wif_nil) (fun z=>(we_tup (wa_cons (wv 0) (wa_cons we_int wa_nil))))) wa_nil)))) (we_lst (wa_cons (wv 6) wa_nil)))))))))),?_⟩
 refine seqH fun N1 to1=>lcset ?_
 refine⟨_,rfl,p,n,r,36,rfl,dk,by lia,by decide,by decide,fun x H1 x0 x1 ex1 dk1=>.inl ⟨_,_,rfl,rfl,?_⟩⟩
 refine lc_rng (n:=5+x) (fun i zs H'=>Same H1 H'/\i<=41/\∃ vs:List Val,vs.length=i/\VLs H' vs zs) (by lia) (by lia) ⟨fun _ _ q=>q,by decide,[],rfl,fun v hv=>(nomatch hv),.nil⟩ ?stay ?step ?fin
 case stay=>
  rintro i zs H' ⟨_,li,vs,lv,iv⟩
  rw[iv.len];lia
 case step=>
  rintro z i zs H' ⟨sm,li,vs,lv,iv⟩ hi R q
  refine⟨_,rfl,(by show 2<=sizeLine;decide),fun t1 h1=>⟨(by show 2<=sizeLine;decide),fun t2 h2=>⟨(by show 2<=sizeLine;decide),fun t3 h3=>⟨(by show 2<=sizeLine;decide),fun t4 h4=>⟨(by show 2<=sizeLine;decide),fun t5 h5=>⟨(by show 2<=sizeLine;decide),fun t6 h6=>?_⟩⟩⟩⟩⟩⟩
  have sx:=(((((same_new h1 (.tup [.str "num",.int i])).trans (same_new h2 (.tup [.str "a",.ref t1]))).trans (same_new h3 (.tup [.str "word",.str "x"]))).trans (same_new h4 (.tup [.str "b",.ref t3]))).trans (same_new h5 (.tup [.ref t2,.ref t4]))).trans (same_new h6 (.tup [.str "row",.ref t5]))
  refine q _ _ ⟨sm.trans sx,by lia,vs++[rowAB i (Str.ofString "b") (.word (Str.ofString "x"))],by rw[List.length_append,lv];rfl,(iv.mono sx.tups).app (.one (rowAB_bd (by decide +kernel) (bd_word (by decide +kernel))) ?_)⟩
  rw[rowAB_d (H:=H),dat]
  refine isDt_new h6 (.cons (isDt_str _) (.one (isDt_new h5 (.cons ?_ (.one (isDt_new h4 (.cons (isDt_str _) (.one (isDt_new h3 (.cons (isDt_str _) (.one (isDt_str _))))))))))))
  exact IsDt.mono ((same_new h3 _).trans (same_new h4 _)).tups (isDt_new h2 (.cons (isDt_str _) (.one (isDt_new h1 (.cons (isDt_str _) (.one (isDt_int _)))))))
 case fin=>
 rintro zs H' ⟨sm,_,vs,lv,iv⟩ l hl
 have lv':vs.length<=41/\5<=vs.length:=by lia
 have exA:Ex p H (upd H' l (.lst zs)):=fun b o nb q=>same_new hl _ _ _ (sm _ _ (ex1 b o nb q))
 have dkA:=(dk1.keep sm).new (o:=.lst zs) hl
 have hlA:(upd H' l (.lst zs)) l=some (.lst zs):=upd_same
 have ivA:=iv.mono (same_new hl (.lst zs)).tups
 have nlp:l≠p:=(dk1.keep sm).ne hl
 obtain⟨HA,eA⟩:∃ HA,HA=upd H' l (.lst zs):=⟨_,rfl⟩
 rw[<- eA]at exA dkA hlA ivA ⊢
 clear eA hl iv sm lv H' dk1 ex1 x0 x1
 have lz:=ivA.len
 refine to1 _ _ (seqH fun N2 to2=>⟨_,rfl,_,rfl,.inl ⟨l,zs,rfl,.inl (SqL.of hlA),p,n+1,r,_,rfl,dkA,by lia,by lia,by lia,fun j H2 j0 j1 ex2 dk2=>to2 _ _ ?_⟩⟩)
 obtain⟨j,rfl⟩:∃ i:Nat,j=i:=⟨j.toNat,by lia⟩
 have hj:j<zs.length:=by lia
 have hl2:=ex2 _ _ nlp hlA
 have iv2:=ivA.mono (dkA.tups ex2)
 refine seqH fun N3 to3=>⟨_,rfl,(by show 2<=sizeLine;decide),fun t1 h1=>⟨p,n+1+1,r,_,_,.word (Str.ofString "y"),rfl,dk2.new h1,by lia,by decide +kernel,by rw[dat];exact isDt_new h1 (.cons (isDt_str _) (.one (isDt_str _))),fun t fl u' x' H3 ex3 dk3 ht iu' _ lfl bx=>⟨t,_,rfl,SqT.of ht,rfl,_,_,rfl,_,_,rfl,rfl,to3 _ _ ?_⟩⟩⟩
 have nl1:t1≠p:=dk2.ne h1
 have hl3:=ex3 _ _ nlp (same_new h1 _ _ _ hl2)
 have iv3:=iv2.mono ((Tups.new h1 _).trans ((dk2.new h1).tups ex3))
 have exC:Ex p H H3:=exA.trans (ex2.trans ((ex_new h1).trans ex3))
 have bx':=bx (bd_word (by decide +kernel))
 have lfl':fl.length<=100:=Nat.le_trans lfl (by decide +kernel)
 clear to3 to2 to1 ex3 ex2 exA h1 nl1 iv2 ivA hl2 hlA dkA dk2 bx lfl
 refine seqH fun N4 to4=>⟨_,rfl,_,rfl,_,rfl,.inl ⟨l,_,rfl,SqL.of hl3,fun q1 hq1=>⟨_,rfl,(by show 2<=sizeLine;decide),fun t1 h1=>⟨(by show 2<=sizeLine;decide),fun t2 h2=>⟨_,rfl,_,rfl,(by show 2<=sizeLine;decide),fun t3 h3=>⟨(by show 2<=sizeLine;decide),fun t4 h4=>⟨(by show 2<=sizeLine;decide),fun t5 h5=>⟨(by show 1<=sizeLine;decide),fun l2 hl2=>?_⟩⟩⟩⟩⟩⟩⟩⟩
 rw[cut_take _ (Nat.le_of_lt hj)]at *
 have s0:=same_new hq1 (.lst (zs.take j))
 have s1:=same_new h1 (.tup [.str "num",.int j])
 have s2:=same_new h2 (.tup [.str "a",.ref t1])
 have s3:=same_new h3 (.tup [.str fl,u'])
 have s4:=same_new h4 (.tup [.ref t2,.ref t3])
 have s5:=same_new h5 (.tup [.str "row",.ref t4])
 have s6:=same_new hl2 (.lst [.ref t5])
 have d5:IsDt (upd (upd (upd (upd (upd (upd H3 q1 (.lst (zs.take j))) t1 (.tup [.str "num",.int j])) t2 (.tup [.str "a",.ref t1])) t3 (.tup [.str fl,u'])) t4 (.tup [.ref t2,.ref t3])) t5 (.tup [.str "row",.ref t4])) (dat (rowAB j fl x')) (.ref t5):=by
  rw[rowAB_d (H:=H)]
  refine isDt_new h5 (.cons (isDt_str _) (.one (isDt_new h4 (.cons ?_ (.one (isDt_new h3 (.cons (isDt_str _) (.one (IsDt.mono ((s0.trans s1).trans s2).tups iu')))))))))
  exact IsDt.mono s3.tups (isDt_new h2 (.cons (isDt_str _) (.one (isDt_new h1 (.cons (isDt_str _) (.one (isDt_int _)))))))
 have s06:=(((((s0.trans s1).trans s2).trans s3).trans s4).trans s5).trans s6
 have hq1':=((((((s1.trans s2).trans s3).trans s4).trans s5).trans s6)) _ _ (upd_same:(upd H3 q1 (.lst (zs.take j))) q1=some (.lst (zs.take j)))
 have vl2:=VLs.one (rowAB_bd lfl' bx') (IsDt.mono s6.tups d5)
 have hl2':(upd (upd (upd (upd (upd (upd (upd H3 q1 (.lst (zs.take j))) t1 (.tup [.str "num",.int j])) t2 (.tup [.str "a",.ref t1])) t3 (.tup [.str fl,u'])) t4 (.tup [.ref t2,.ref t3])) t5 (.tup [.str "row",.ref t4])) l2 (.lst [.ref t5])) l2=some (.lst [.ref t5]):=upd_same
 obtain⟨H4,e4⟩:∃ H4,H4=upd (upd (upd (upd (upd (upd (upd H3 q1 (.lst (zs.take j))) t1 (.tup [.str "num",.int j])) t2 (.tup [.str "a",.ref t1])) t3 (.tup [.str fl,u'])) t4 (.tup [.ref t2,.ref t3])) t5 (.tup [.str "row",.ref t4])) l2 (.lst [.ref t5]):=⟨_,rfl⟩
 rw[<- e4]at s06 hq1' vl2 hl2' ⊢
 clear e4 d5 s6 s5 s4 s3 s2 s1 s0
 refine .inr (.inr (.inl ⟨q1,l2,_,_,rfl,rfl,hq1',hl2',(by rw[List.length_take];exact Nat.le_of_lt (line1 (by show min j zs.length+1<=_;lia))),fun q2 hq2=>⟨_,rfl,_,rfl,.inl ⟨_,_,rfl,rfl,_,rfl,.inl ⟨l,zs,rfl,SqL.of (same_new hq2 _ _ _ (s06 _ _ hl3)),fun q3 hq3=>.inr (.inr (.inl ⟨q2,q3,_,_,rfl,rfl,same_new hq3 _ _ _ upd_same,upd_same,?_,fun q4 hq4=>to4 _ _ ?_⟩))⟩⟩⟩⟩))
 ·rw[cut_drop _ hj,List.length_append,List.length_take,List.length_drop];exact Nat.le_of_lt (line1 (by show min j zs.length+1+_<=_;lia))
 rw[cut_drop _ hj]at *
 have s1:=same_new hq2 (.lst (zs.take j++[.ref t5]))
 have s2:=same_new hq3 (.lst (zs.drop (j+1)))
 have s3:=same_new hq4 (.lst (zs.take j++[.ref t5]++zs.drop (j+1)))
 have s35:=s06.trans ((s1.trans s2).trans s3)
 have vb:=(((iv3.take j).mono s06.tups).app vl2).app ((iv3.drop (j+1)).mono s06.tups)
 replace vb:=vb.mono ((s1.trans s2).trans s3).tups
 have lvb:(vs.take j++[rowAB j fl x']++vs.drop (j+1)).length<=41:=by rw[List.length_append,List.length_append,List.length_take,List.length_drop];show min j vs.length+1+_<=_;lia
 have hq4':(upd (upd (upd H4 q2 (.lst (zs.take j++[.ref t5]))) q3 (.lst (zs.drop (j+1)))) q4 (.lst (zs.take j++[.ref t5]++zs.drop (j+1)))) q4=some (.lst (zs.take j++[.ref t5]++zs.drop (j+1))):=upd_same
 obtain⟨H5,e5⟩:∃ H5,H5=upd (upd (upd H4 q2 (.lst (zs.take j++[.ref t5]))) q3 (.lst (zs.drop (j+1)))) q4 (.lst (zs.take j++[.ref t5]++zs.drop (j+1))):=⟨_,rfl⟩
 rw[<- e5]at s35 vb hq4' ⊢
 obtain⟨vb',eb⟩:∃ vb',vb'=vs.take j++[rowAB j fl x']++vs.drop (j+1):=⟨_,rfl⟩
 obtain⟨zb,ez⟩:∃ zb,zb=zs.take j++[.ref t5]++zs.drop (j+1):=⟨_,rfl⟩
 rw[<- eb]at vb lvb
 rw[<- ez]at vb hq4'
 have hl5:=s35 _ _ hl3
 have iv5:=iv3.mono s35.tups
 have dk5:=dk3.keep s35
 have ex5:Ex p H H5:=fun b o nb q=>s35 _ _ (exC b o nb q)
 clear eb ez e5 s3 s2 s1 to4 s06 hq1' hl2' vl2 hl2 h5 h4 h3 h2 h1 hq1 hq2 hq3 hq4 H4 s35 iv3 hl3 dk3 exC iu' ht
 refine seqH fun N5 to5=>⟨(by show 1<=sizeLine;decide),fun t1 h1=>⟨(by show 2<=sizeLine;decide),fun t2 h2=>⟨(by show 1<=sizeLine;decide),fun t3 h3=>⟨(by show 2<=sizeLine;decide),fun t4 h4=>⟨(by show 2<=sizeLine;decide),fun t6 h6=>⟨(by show 2<=sizeLine;decide),fun t7 h7=>⟨(by show 2<=sizeLine;decide),fun t8 h8=>to5 _ _ ?_⟩⟩⟩⟩⟩⟩⟩
 have d8:IsDt (upd (upd (upd (upd (upd (upd (upd H5 t1 (.tup [.str "num"])) t2 (.tup [.str "a",.ref t1])) t3 (.tup [.str "word"])) t4 (.tup [.str "b",.ref t3])) t6 (.tup [.ref t2,.ref t4])) t7 (.tup [.str "row",.ref t6])) t8 (.tup [.str "bag",.ref t7])) (kdD (.bag (.row [(Str.ofString "a",.num),(Str.ofString "b",.word)]))) (.ref t8):=by
  rw[kdD,kdD,kdR_map,List.map_cons,List.map_cons,List.map_nil,kdD,kdD]
  refine isDt_new h8 (.cons (isDt_str _) (.one (isDt_new h7 (.cons (isDt_str _) (.one (isDt_new h6 (.cons ?_ (.one (isDt_new h4 (.cons (isDt_str _) (.one (isDt_new h3 (.one (isDt_str _))))))))))))))
  exact IsDt.mono ((same_new h3 _).trans (same_new h4 _)).tups (isDt_new h2 (.cons (isDt_str _) (.one (isDt_new h1 (.one (isDt_str _))))))
 have s57:=((((((same_new h1 (.tup [.str "num"])).trans (same_new h2 (.tup [.str "a",.ref t1]))).trans (same_new h3 (.tup [.str "word"]))).trans (same_new h4 (.tup [.str "b",.ref t3]))).trans (same_new h6 (.tup [.ref t2,.ref t4]))).trans (same_new h7 (.tup [.str "row",.ref t6]))).trans (same_new h8 (.tup [.str "bag",.ref t7]))
 obtain⟨H7,e7⟩:∃ H7,H7=upd (upd (upd (upd (upd (upd (upd H5 t1 (.tup [.str "num"])) t2 (.tup [.str "a",.ref t1])) t3 (.tup [.str "word"])) t4 (.tup [.str "b",.ref t3])) t6 (.tup [.ref t2,.ref t4])) t7 (.tup [.str "row",.ref t6])) t8 (.tup [.str "bag",.ref t7]):=⟨_,rfl⟩
 rw[<- e7]at d8 s57 ⊢
 clear e7 to5
 dsimp only[tRet,tOp]
 refine .inl ⟨_,rfl,_,rfl,(by show 2<=sizeLine;decide),fun l9 hl9=>?_⟩
 have s79:=same_new hl9 (.lst [.ref l,.ref q4])
 have s59:=s57.trans s79
 refine lc_one (xs:=[.ref l,.ref q4]) (fun i ws H'=>Same (upd H7 l9 (.lst [.ref l,.ref q4])) H'/\i<=2/\∃ bs:List Val,bs.length=i/\(∀ v∈bs,vz v<=1000)/\IsDts H' (bs.map dat) ws) ⟨fun _ _ q=>q,by decide,[],rfl,fun v hv=>(nomatch hv),.nil⟩ ?stay ?step ?fin
 case stay=>
  rintro i ws H' ⟨sm,li,bs,lb,_,ib⟩
  exact⟨sm _ _ upd_same,by rw[ib.length,List.length_map];lia⟩
 case step=>
  rintro z i ws H' ⟨sm,li,bs,lb,vb2,ib⟩ hi R q
  have s5:=s59.trans sm
  have hi2:i<2:=hi
  have key:∃ (la:Addr) (us:List V) (ys:List Val),([.ref l,.ref q4]:List V)[i]=.ref la/\H' la=some (.lst us)/\VLs H' ys us/\ys.length<=41:=by
   match i,hi with
   | 0,_=>exact⟨l,zs,vs,rfl,s5 _ _ hl5,iv5.mono s5.tups,lv'.1⟩
   | 1,_=>exact⟨q4,zb,vb',rfl,s5 _ _ hq4',vb.mono s5.tups,lvb⟩
  obtain⟨la,us,ys,ei,hla,vy,ly⟩:=key
  rw[ei]
  dsimp only[tCall,tCons]
  refine lc_map (xs:=us) (ds:=ys.map dat) (fun d=>.tup [d,.int 1]) (fun R q=>⟨_,rfl,q _ _ (fun _ _ q=>q) hla⟩) vy.2 (by rw[List.length_map];lia) (fun z v d H2 R s2 iv _ k=>⟨_,rfl,(by show 2<=sizeLine;decide),fun t ht=>k _ _ (same_new ht _) (isDt_new ht (.cons iv (.one (isDt_int _))))⟩) fun l' xs H2 s2 hl' ix=>?_
  refine⟨l',xs,ys.map fun y=>(y,1),rfl,⟨_,hl',.inl rfl⟩,?_,by rw[List.length_map];lia,?_,by decide,fun v H3 qs s3 iv lq mem _=>q _ _ ⟨sm.trans (s2.trans s3),by lia,bs++[.bag qs],by rw[List.length_append,lb];rfl,?_,?_⟩⟩
  ·rw[datB_map,List.map_map];rw[List.map_map]at ix;exact ix
  ·intro q hq
   obtain⟨y,hy,rfl⟩:=List.mem_map.mp hq
   exact vy.1 y hy
  ·intro v hv
   rcases List.mem_append.mp hv with h | h
   ·exact vb2 v h
   ·rw[List.mem_singleton.mp h,vz]
    have:=vzB_le (B:=8) (l:=qs) fun q hq=>by
     obtain⟨r',h1,h2⟩:=mem q hq
     obtain⟨y,hy,rfl⟩:=List.mem_map.mp h1
     rw[h2]
     exact Bd.vz (vy.1 y hy)
    rw[List.length_map]at lq
    lia
  ·rw[List.map_append];exact (IsDts.mono (s2.trans s3).tups ib).append (.one iv)
 case fin=>
  rintro ws H' ⟨sm,_,bs,lb,vb2,ib⟩ l10 hl10
  match bs,lb with
  | [b1,b2],_=>
  rw[List.map_cons,List.map_cons,List.map_nil,IsDts]at ib
  obtain⟨w1,r1,rfl,i1,ib⟩:=ib
  rw[IsDts]at ib
  obtain⟨w2,r2,rfl,i2,ib⟩:=ib
  rw[IsDts]at ib
  subst ib
  have s10:=same_new hl10 (.lst [w1,w2])
  refine⟨_,rfl,(by show 1<=sizeLine;decide),fun l11 hl11=>.inr (.inr (.inl ⟨l10,l11,_,_,rfl,rfl,same_new hl11 _ _ _ upd_same,upd_same,(by show 3<=sizeLine;decide),fun l12 hl12=>?_⟩))⟩
  have s12:=(s10.trans (same_new hl11 (.lst [.ref t8]))).trans (same_new hl12 (.lst ([w1,w2]++[.ref t8])))
  have s512:=s59.trans (sm.trans s12)
  refine fin l12 _ (fun b o nb q=>s512 _ _ (ex5 b o nb q)) ((dk5.keep s512).mono (by lia)) ⟨w1,w2,.ref t8,b1,b2,_,upd_same,IsDt.mono s12.tups i1,IsDt.mono s12.tups i2,IsDt.mono (s79.trans (sm.trans s12)).tups d8,vb2 _ (by simp),vb2 _ (by simp),by decide⟩
end
end K09
end
section
namespace K09
open PySem L2 Kn
theorem lc_str {e:ZC->TE}{fr:List (Str×Nat)} {σ:St} {H1:Hp}{F:List V->Hp->Prop}{x:Str} (J:Nat->List V->Hp->Prop)
  (asc:x.cps.all (·<128)=true) (j0:J 0 [] H1) (stay:∀ i zs H',J i zs H'->zs.length<=1000000)
  (step:∀ z (i:Nat) zs H' (c:Nat),J i zs H'->i<x.cps.size->∀ R:VK,(∀ y H2,J (i+1) (zs++[y]) H2->R y H2)->e z (some (.str ⟨#[c]⟩)::fr.map fun q=>(σ[q.2]?).join) H' R)
  (fin:∀ (zs:List V) (H':Hp),J x.cps.size zs H'->F zs H') :
  ∃ y,V.str x=.str y/\y.cps.all (·<128)=true/\∃ W:Nat->Nat->List V->Hp->Prop,(∃ m,W 0 m [] H1)/\lcStep (Its y) 1 fr (fun _=>gName 0) (fun _=>tAll) e σ W F:=by
 refine⟨x,rfl,asc,?_⟩
 refine⟨fun i m zs H2=>m+i=x.cps.size/\J i zs H2,⟨x.cps.size,rfl,j0⟩,?_⟩
 rintro i m zs H2 ⟨hm,j⟩
 refine⟨line1 (Nat.le_trans (stay _ _ _ j) (by decide)),?_⟩
 by_cases hi:i<x.cps.size
 ·refine .inr ⟨hi,fun z y H3 hy=>?_⟩
  obtain⟨eH,c,_,ex⟩:=hy
  rw[eH,ex]
  clear eH H3
  exact gallW (step z i zs H2 c j hi _ fun y H4 q=>⟨m-1,by lia,by lia,q⟩)
 ·have ei:i=x.cps.size:=by lia
  exact .inl ⟨by show x.cps.size<=i;lia,fin zs _ (ei ▸ j)⟩
theorem vzR_le {B:Nat}:∀ {l:List (Str×Val)},(∀ p∈l,vz p.2<=B)->vzR l<=l.length * B
 | [],_=>by rw[vzR];exact Nat.zero_le _
 | p::l,h=>by
  have:=vzR_le (l:=l) fun q hq=>h q (List.mem_cons_of_mem _ hq)
  have:=h p List.mem_cons_self
  rw[vzR,List.length_cons,Nat.succ_mul];lia
def PLs (H:Hp) (ps:List (Str×Val)) (us:List V):Prop:=(∀ q∈ps,vz q.2<=1)/\IsDts H (ps.map fun q=>.tup [.str q.1,dat q.2]) us
theorem PLs.mono {H H':Hp} (t:Tups H H') {vs:List (Str×Val)}{us:List V} (h:PLs H vs us):PLs H' vs us:=⟨h.1,IsDts.mono t h.2⟩
theorem PLs.len {H:Hp}{vs:List (Str×Val)}{us:List V} (h:PLs H vs us):us.length=vs.length:=by rw[h.2.length,List.length_map]
theorem PLs.app {H:Hp}{vs ws:List (Str×Val)}{us xs:List V} (h:PLs H vs us) (g:PLs H ws xs):PLs H (vs++ws) (us++xs):=⟨fun v hv=>(List.mem_append.mp hv).elim (h.1 v) (g.1 v),by rw[List.map_append];exact h.2.append g.2⟩
theorem PLs.take {H:Hp}{vs:List (Str×Val)}{us:List V} (k:Nat) (h:PLs H vs us):PLs H (vs.take k) (us.take k):=⟨fun v hv=>h.1 v (List.mem_of_mem_take hv),by rw[List.map_take];exact isDts_take k h.2⟩
theorem PLs.drop {H:Hp}{vs:List (Str×Val)}{us:List V} (k:Nat) (h:PLs H vs us):PLs H (vs.drop k) (us.drop k):=⟨fun v hv=>h.1 v (List.mem_of_mem_drop hv),by rw[List.map_drop];exact isDts_drop k h.2⟩
theorem PLs.one {H:Hp}{v:Str×Val}{u:V} (h:vz v.2<=1) (i:IsDt H (.tup [.str v.1,dat v.2]) u):PLs H [v] [u]:=⟨fun x hx=>by rw[List.mem_singleton.mp hx];exact h,.one i⟩
theorem isDts_strs {H:Hp}:∀ ns:List Str,IsDts H (ns.map Dt.str) (ns.map V.str)
 | []=>.nil
 | n::ns=>.cons (isDt_str n) (isDts_strs ns)
section
variable {P:Program}{w:World}{K:PySem.W.Frag}{mg:Str->Option Value}{base:Heap}{f f_next f_part:Addr}{fd fd_next fd_part:FuncData}
theorem ZaD:FnScope ["deck","names","parts","at","bent","kind"] ["deck"] (defScope (top 24)):=⟨rfl,rfl,rfl,by decide +kernel,rfl,by decide +kernel,by decide +kernel⟩
theorem ok_long (T : Tx mg) (D : Df K mg "_law_long_row" (top 24) f fd ["deck"]) (Zaa : Df K mg "_law_next" (top 7) f_next fd_next ["deck", "many"]) (Zab : FnOk P w K mg base CX0 1 f_next fd_next ["deck", "many"] spNext)
    (Zaq : Df K mg "_law_other_part" (top 22) f_part fd_part ["deck", "field", "part"]) (Za6 : FnOk P w K mg base CX0 2 f_part fd_part ["deck", "field", "part"] spOther) : FnOk P w K mg base CX0 3 f fd ["deck"] spWide := by
  refine D.fn.okH (k := 2) ZaD (fun vs H Q E h => ?_) (fun cdv A outer s H vs Q E hr h => ?_)
  · obtain ⟨p, n, r, rfl, _⟩ := h; rfl
  obtain ⟨p, n, r, rfl, dk, hn, fin⟩ := h
  have hu := u110 hr
  have hu0 := u0 hr
  have hu1 := hu_of hr
  refine ⟨_, (wss_cons (ws_set (i := 1) ZaD.nd rfl (Or.inl rfl) (we_slice sl_U (we_lc (Nt := ["letter"]) (fr := []) (LcOk.of (sc := defScope (top 24)) (N := ["deck", "names", "parts", "at", "bent", "kind"]) rfl rfl (by decide +kernel)) rfl (wi_str we_str) (fun z => wg_name (i := 0) (by show (["letter"] : List Str).Nodup; decide +kernel) rfl (Or.inl rfl) (.inr rfl)) (fun z => tgt_name (by decide)) (fun z => wif_nil) (fun z => (we_op op_plus we_str (wv 0)))) wo_none (wo_some (we_op op_plus we_int (we_call Zab (hr.mono (by lia)) rfl Zaa.mg Zaa.kp Zaa.b .nil pass0 (wa_cons (wv 0) (wa_cons we_int wa_nil)))))))
      (wss_cons (ws_lc (j := 2) (hN := ZaD.nd) (hj := rfl) (hy := (Or.inl rfl)) (Nt := ["name"]) (fr := []) (LcOk.of (sc := defScope (top 24)) (N := ["deck", "names", "parts", "at", "bent", "kind"]) rfl rfl (by decide +kernel)) rfl (wi_U (wv 1)) (fun z => wg_name (i := 0) (by show (["name"] : List Str).Nodup; decide +kernel) rfl (Or.inl rfl) (.inr rfl)) (fun z => tgt_name (by decide)) (fun z => wif_nil) (fun z => (we_tup (wa_cons (wv 0) (wa_cons (we_tup (wa_consts rfl)) wa_nil)))))
      (wss_cons (ws_set (i := 3) ZaD.nd rfl (Or.inl rfl) (we_call Zab (hr.mono (by lia)) rfl Zaa.mg Zaa.kp Zaa.b .nil pass0 (wa_cons (wv 0) (wa_cons (we_callB call_lenU rfl T.z_len bt_len (wa_cons (wv 2) wa_nil)) wa_nil))))
      (wss_cons (ws_set (i := 4) ZaD.nd rfl (Or.inl rfl) (we_op op_plus (we_op op_plus (we_slice sl_U (wv 2) wo_none (wo_some (wv 3))) (we_lst (wa_cons (we_call Za6 (hr.mono (by lia)) rfl Zaq.mg Zaq.kp Zaq.b .nil pass0 (wa_cons (wv 0) (wa_cons (we_ix (ix_U hu1) (wv 1) (wv 3) (fun _ _ => rfl)) (wa_cons (we_tup (wa_consts rfl)) wa_nil)))) wa_nil))) (we_slice sl_U (wv 2) (wo_some (we_op op_plus (wv 3) we_int)) wo_none)))
      (wss_cons (ws_if (wt_cmpR (op_eqU hu) (we_call Zab (hr.mono (by lia)) rfl Zaa.mg Zaa.kp Zaa.b .nil pass0 (wa_cons (wv 0) (wa_cons we_int wa_nil))) we_int (nomark _)) (wss_one (ws_set (i := 4) ZaD.nd rfl (Or.inl rfl) (we_op op_plus (we_slice sl_U (wv 2) wo_none (wo_some (wv 3))) (we_slice sl_U (wv 2) (wo_some (we_op op_plus (wv 3) we_int)) wo_none)))) wss_nil)
      (wss_cons (ws_set (i := 5) ZaD.nd rfl (Or.inl rfl) (we_tup (wa_cons we_str (wa_cons (we_callTy call_tuple_of rfl T.z_tuple bt_tuple (wa_cons (we_lc (Nt := ["name"]) (fr := []) (LcOk.of (sc := defScope (top 24)) (N := ["deck", "names", "parts", "at", "bent", "kind"]) rfl rfl (by decide +kernel)) rfl (wi_U (wv 1)) (fun z => wg_name (i := 0) (by show (["name"] : List Str).Nodup; decide +kernel) rfl (Or.inl rfl) (.inr rfl)) (fun z => tgt_name (by decide)) (fun z => wif_nil) (fun z => (we_tup (wa_cons (wv 0) (wa_cons (we_tup (wa_cons we_str wa_nil)) wa_nil))))) wa_nil)) wa_nil))))
      (wss_one (ws_ret (we_lst (wa_cons (we_tup (wa_cons we_str (wa_cons (we_callTy call_tuple_of rfl T.z_tuple bt_tuple (wa_cons (wv 2) wa_nil)) wa_nil))) (wa_cons (we_tup (wa_cons we_str (wa_cons (we_callTy call_tuple_of rfl T.z_tuple bt_tuple (wa_cons (wv 4) wa_nil)) wa_nil))) (wa_cons (wv 5) wa_nil)))))))))))), ?_⟩
  refine seqH fun N1 to1 => ?_
  dsimp only [tAsg, tSl]
  refine lc_str (fun i zs H' => H' = H /\ i <= 12 /\ ∃ ns : List Str, zs = ns.map V.str /\ ns.length = i /\ ∀ s ∈ ns, s.length <= 10) (by decide +kernel) ⟨rfl, by decide, [], rfl, rfl, fun s hs => (nomatch hs)⟩ ?stay ?step ?fin
  case stay =>
    rintro i zs H' ⟨_, li, ns, rfl, ln, _⟩
    rw [List.length_map]; lia
  case step =>
    rintro z i zs H' c ⟨rfl, li, ns, rfl, ln, lns⟩ hi R q
    refine ⟨_, rfl, .inr (.inl ⟨_, _, rfl, rfl, ?_, q _ _ ⟨rfl, ?_, ns ++ [Str.ofString "f" ++ ⟨#[c]⟩], by rw [List.map_append]; rfl, by rw [List.length_append, ln]; rfl, fun s hs => ?_⟩⟩)⟩
    · exact Nat.le_of_lt (line1 (by show (Str.ofString "f").length + 1 <= _; decide +kernel))
    · have : (Str.ofString "abcdefghijkl").cps.size = 12 := by decide +kernel
      lia
    · rcases List.mem_append.mp hs with h | h
      · exact lns s h
      · rw [List.mem_singleton.mp h, len_app]; show (Str.ofString "f").length + 1 <= _; decide +kernel
  case fin =>
  rintro zs H' ⟨rfl, _, ns, rfl, ln, lns⟩ l0 hl0
  have ln12 : ns.length = 12 := by rw [ln]; decide +kernel
  clear ln
  refine ⟨_, rfl, p, n, r, 9, rfl, dk.new hl0, by lia, by decide, by decide, fun x H1 x0 x1 ex1 dk1 => .inl ⟨_, _, rfl, rfl, _, rfl, .inl ⟨l0, _, rfl, SqL.of (ex1 _ _ (dk.ne hl0) upd_same), fun l hl => to1 _ _ ?_⟩⟩⟩
  obtain ⟨j0, rfl⟩ : ∃ i : Nat, x = i := ⟨x.toNat, by lia⟩
  have ec : cutV (ns.map V.str) none (some (4 + (j0 : Int))) = (ns.take (4 + j0)).map V.str := by
    rw [show (4 + (j0 : Int)) = ((4 + j0 : Nat) : Int) by lia, cut_take _ (by rw [List.length_map]; lia), List.map_take]
  rw [ec]
  have lms : (ns.take (4 + j0)).length <= 12 /\ 4 <= (ns.take (4 + j0)).length := by rw [List.length_take]; lia
  have lm10 : ∀ s ∈ ns.take (4 + j0), s.length <= 10 := fun s hs => lns s (List.mem_of_mem_take hs)
  obtain ⟨ms, em⟩ : ∃ ms, ms = ns.take (4 + j0) := ⟨_, rfl⟩
  rw [<- em] at lms lm10 ⊢
  have exA : Ex p H' (upd H1 l (.lst (ms.map V.str))) := (ex_new hl0).trans (ex1.trans (ex_new hl))
  have dkA := dk1.new (o := .lst (ms.map V.str)) hl
  have hlA : (upd H1 l (.lst (ms.map V.str))) l = some (.lst (ms.map V.str)) := upd_same
  have nlp : l ≠ p := dk1.ne hl
  obtain ⟨HA, eA⟩ : ∃ HA, HA = upd H1 l (.lst (ms.map V.str)) := ⟨_, rfl⟩
  rw [<- eA] at exA dkA hlA ⊢
  clear eA em ec hl dk1 ex1 hl0 ln12 lns
  refine seqH fun N2 to2 => lcset ?_
  refine lc_map (xs := ms.map V.str) (ds := ms.map Dt.str) (fun d => .tup [d, .tup [.str "num", .int 3]]) (fun R q => ⟨_, rfl, q _ _ (fun _ _ q => q) hlA⟩) (isDts_strs _) (by rw [List.length_map]; lia) (fun z v d H2 R s2 iv _ k => ⟨_, rfl, (by show 2 <= sizeLine; decide), fun t ht => ⟨(by show 2 <= sizeLine; decide), fun t2 ht2 => k _ _ ((same_new ht _).trans (same_new ht2 _)) (isDt_new ht2 (.cons (IsDt.mono (same_new ht _).tups iv) (.one (isDt_new ht (.cons (isDt_str _) (.one (isDt_int _)))))))⟩⟩) fun l2 us HB sB hl2 ix => to2 _ _ ?_
  have plB : PLs HB (ms.map fun m => (m, .num 3)) us := ⟨fun q hq => by obtain ⟨m, _, rfl⟩ := List.mem_map.mp hq; rw [vz]; exact Nat.le_refl _, by
    rw [List.map_map] at ix ⊢
    have : (fun m : Str => Dt.tup [.str m, .tup [.str "num", .int 3]]) = ((fun q : Str × Val => Dt.tup [.str q.1, dat q.2]) ∘ fun m => (m, .num 3)) := by funext m; show _ = Dt.tup [.str m, dat (.num 3)]; rw [dat]
    rw [<- this]; exact ix⟩
  have lps : (ms.map fun m => ((m, .num 3) : Str × Val)).length = ms.length := List.length_map _
  obtain ⟨ps, ep⟩ : ∃ ps, ps = ms.map fun m => ((m, .num 3) : Str × Val) := ⟨_, rfl⟩
  rw [<- ep] at plB lps
  clear ep
  have lus := plB.len
  have hlB := sB _ _ hlA
  have dkB := dkA.keep sB
  have exB : Ex p H' HB := fun b o nb q => sB _ _ (exA b o nb q)
  have nl2 : l2 ≠ p := fun z => by obtain ⟨c1, c2, c3, c4, e, _⟩ := id dkB; rw [z, e] at hl2; have h9 : us = [.int c1, .int c2, .int c3, .int r, .int c4] := by injection hl2 with q; injection q with q; exact q.symm
                                   obtain ⟨w, e1, e2⟩ := plB.2.get (i := 0) (d := .tup [.str (ps[0]'(by lia)).1, dat (ps[0]'(by lia)).2]) (by rw [List.getElem?_map, List.getElem?_eq_getElem (by lia)]; rfl)
                                   rw [h9] at e1; injection e1 with e1; rw [<- e1, IsDt] at e2; obtain ⟨_, _, q, _⟩ := e2; cases q
  clear sB hlA dkA exA ix
  refine seqH fun N3 to3 => ⟨_, rfl, _, rfl, .inl ⟨l2, us, rfl, .inl (SqL.of hl2), p, n + 1, r, _, rfl, dkB, by lia, by lia, by lia, fun j H2 j0' j1 ex2 dk2 => to3 _ _ ?_⟩⟩
  obtain ⟨j, rfl⟩ : ∃ i : Nat, j = i := ⟨j.toNat, by lia⟩
  have hj : j < us.length := by lia
  have hl2C := ex2 _ _ nl2 hl2
  have hlC := ex2 _ _ nlp hlB
  have plC := plB.mono (dkB.tups ex2)
  have exC : Ex p H' H2 := exB.trans ex2
  clear ex2 exB dkB hlB plB hl2 to2 to1 to3
  have hjm : j < ms.length := by lia
  refine seqH fun N4 to4 => ⟨_, rfl, _, rfl, _, rfl, .inl ⟨l2, _, rfl, SqL.of hl2C, fun q1 hq1 => ⟨_, rfl, _, rfl, _, rfl, ixl (SqL.of (same_new hq1 _ _ _ hlC)) (atI_nat (j := j) (by rw [List.getElem?_map, List.getElem?_eq_getElem hjm]; rfl)) ⟨(by show 2 <= sizeLine; decide), fun t1 h1 => ⟨p, n + 1 + 1, r, _, _, .num 4, rfl, (dk2.new hq1).new h1, by lia, Nat.le_trans (lm10 _ (List.getElem_mem hjm)) (by decide), by rw [dat]; exact isDt_new h1 (.cons (isDt_str _) (.one (isDt_int _))), fun t fl u' x' H3 ex3 dk3 ht iu' vx lfl bx => ⟨(by show 1 <= sizeLine; decide), fun l3 hl3 => ?_⟩⟩⟩⟩⟩⟩
  rw [cut_take _ (Nat.le_of_lt hj)] at *
  have nq1 : q1 ≠ p := dk2.ne hq1
  have tt := ((Tups.new hq1 (.lst (us.take j))).trans (Tups.new h1 _)).trans (((dk2.new hq1).new h1).tups ex3)
  have hq13 := ex3 _ _ nq1 (same_new h1 _ _ _ upd_same)
  have hl23 := ex3 _ _ nl2 (same_new h1 _ _ _ (same_new hq1 _ _ _ hl2C))
  have hlm3 := ex3 _ _ nlp (same_new h1 _ _ _ (same_new hq1 _ _ _ hlC))
  have pl3 := plC.mono tt
  have exD : Ex p H' H3 := exC.trans ((ex_new hq1).trans ((ex_new h1).trans ex3))
  have vx' : vz x' <= 1 := by rw [vz] at vx; exact vx
  have po : PLs H3 [(fl, x')] [.ref t] := .one vx' (isDt_tup ht (.cons (isDt_str _) (.one iu')))
  clear ex3 tt plC hl2C hlC exC h1 hq1 bx lfl vx dk2
  have s1 := same_new hl3 (.lst [.ref t])
  refine .inr (.inr (.inl ⟨q1, l3, _, _, rfl, rfl, s1 _ _ hq13, upd_same, (by rw [List.length_take]; exact Nat.le_of_lt (line1 (by show min j us.length + 1 <= _; lia))), fun q2 hq2 => ⟨_, rfl, _, rfl, .inl ⟨_, _, rfl, rfl, _, rfl, .inl ⟨l2, us, rfl, SqL.of (same_new hq2 _ _ _ (s1 _ _ hl23)), fun q3 hq3 => .inr (.inr (.inl ⟨q2, q3, _, _, rfl, rfl, same_new hq3 _ _ _ upd_same, upd_same, ?_, fun q4 hq4 => to4 _ _ ?_⟩))⟩⟩⟩⟩))
  · rw [cut_drop _ hj, List.length_append, List.length_take, List.length_drop]; exact Nat.le_of_lt (line1 (by show min j us.length + 1 + _ <= _; lia))
  rw [cut_drop _ hj] at *
  have s2 := same_new hq2 (.lst (us.take j ++ [.ref t]))
  have s3 := same_new hq3 (.lst (us.drop (j + 1)))
  have s4 := same_new hq4 (.lst (us.take j ++ [.ref t] ++ us.drop (j + 1)))
  have s35 := s1.trans ((s2.trans s3).trans s4)
  have plb := (((pl3.take j).app po).app (pl3.drop (j + 1))).mono s35.tups
  have lb5 : (ps.take j ++ [(fl, x')] ++ ps.drop (j + 1)).length <= 12 := by rw [List.length_append, List.length_append, List.length_take, List.length_drop]; show min j ps.length + 1 + _ <= _; lia
  have hq4' : (upd (upd (upd (upd H3 l3 (.lst [.ref t])) q2 (.lst (us.take j ++ [.ref t]))) q3 (.lst (us.drop (j + 1)))) q4 (.lst (us.take j ++ [.ref t] ++ us.drop (j + 1)))) q4 = some (.lst (us.take j ++ [.ref t] ++ us.drop (j + 1))) := upd_same
  obtain ⟨H5, e5⟩ : ∃ H5, H5 = upd (upd (upd (upd H3 l3 (.lst [.ref t])) q2 (.lst (us.take j ++ [.ref t]))) q3 (.lst (us.drop (j + 1)))) q4 (.lst (us.take j ++ [.ref t] ++ us.drop (j + 1))) := ⟨_, rfl⟩
  rw [<- e5] at s35 plb hq4' ⊢
  have nq4 : q4 ≠ p := fun z => by
    rw [z] at hq4
    obtain ⟨c1, c2, c3, c4, e, _⟩ := dk3
    have := ((s1.trans s2).trans s3) _ _ e
    rw [hq4] at this; cases this
  have hl5 := s35 _ _ hl23
  have hlm5 := s35 _ _ hlm3
  have pl5 := pl3.mono s35.tups
  have dk5 := dk3.keep s35
  have ex5 : Ex p H' H5 := fun b o nb q => s35 _ _ (exD b o nb q)
  clear e5 s4 s3 s2 s1 s35 to4 hq4 hq3 hq2 hl3 hq13 hl23 hlm3 pl3 po exD dk3 ht iu' vx'
  obtain ⟨pb, epb⟩ : ∃ pb, pb = ps.take j ++ [(fl, x')] ++ ps.drop (j + 1) := ⟨_, rfl⟩
  obtain ⟨ub, eub⟩ : ∃ ub, ub = us.take j ++ [.ref t] ++ us.drop (j + 1) := ⟨_, rfl⟩
  rw [<- epb] at plb lb5
  rw [<- eub] at plb hq4'
  clear epb eub
  refine seqH fun N5 to5 => ?_
  have tl : ∀ (H8 : Hp) (q8 : Addr) (u8 : List V) (p8 : List (Str × Val)), H8 q8 = some (.lst u8) -> PLs H8 p8 u8 -> p8.length <= 12 -> H8 l2 = some (.lst us) -> PLs H8 ps us -> H8 l = some (.lst (ms.map V.str)) -> Ex p H' H8 -> Dk H8 p (n + 144) r -> N5 [some (.ref p), some (.ref l), some (.ref l2), some (.int j), some (.ref q8), none] H8 := by
    intro H8 q8 u8 p8 h8 pl8 lp8 h2 pl2 hm ex8 dk8
    refine to5 _ _ (seqH fun N6 to6 => ?_)
    dsimp only [tAsg, tTup, tCons, tC, tCB]
    refine lc_map (xs := ms.map V.str) (ds := ms.map Dt.str) (fun d => .tup [d, .tup [.str "num"]]) (fun R q => ⟨_, rfl, q _ _ (fun _ _ q => q) hm⟩) (isDts_strs _) (by rw [List.length_map]; lia) (fun z v d H2 R s2 iv _ k => ⟨_, rfl, (by show 1 <= sizeLine; decide), fun t ht => ⟨(by show 2 <= sizeLine; decide), fun t2 ht2 => k _ _ ((same_new ht _).trans (same_new ht2 _)) (isDt_new ht2 (.cons (IsDt.mono (same_new ht _).tups iv) (.one (isDt_new ht (.one (isDt_str _))))))⟩⟩) fun l9 u9 H9 s9 hl9 ix => ?_
    refine ⟨l9, u9, rfl, .inl ⟨SqL.of hl9, fun t1 h1 => ⟨(by show 2 <= sizeLine; decide), fun t2 h2' => to6 _ _ ?_⟩⟩⟩
    have dk9 : IsDt (upd (upd H9 t1 (.tup u9)) t2 (.tup [.str "row", .ref t1])) (kdD (.row (ms.map fun m => (m, .num)))) (.ref t2) := by
      rw [kdD, kdR_map]
      refine isDt_new h2' (.cons (isDt_str _) (.one (isDt_new h1 ?_)))
      rw [List.map_map] at ix ⊢
      have : (fun m : Str => Dt.tup [.str m, .tup [.str "num"]]) = ((fun q : Str × Kd => Dt.tup [.str q.1, kdD q.2]) ∘ fun m => (m, .num)) := by funext m; show _ = Dt.tup [.str m, kdD .num]; rw [kdD]
      rw [<- this]; exact ix
    have sA := s9.trans ((same_new h1 (.tup u9)).trans (same_new h2' (.tup [.str "row", .ref t1])))
    obtain ⟨HA, eA⟩ : ∃ HA, HA = upd (upd H9 t1 (.tup u9)) t2 (.tup [.str "row", .ref t1]) := ⟨_, rfl⟩
    rw [<- eA] at dk9 sA ⊢
    refine ⟨_, rfl, l2, us, rfl, .inl ⟨SqL.of (sA _ _ h2), fun t3 h3 => ⟨(by show 2 <= sizeLine; decide), fun t4 h4 => ⟨_, rfl, q8, u8, rfl, .inl ⟨SqL.of (same_new h4 _ _ _ (same_new h3 _ _ _ (sA _ _ h8))), fun t5 h5 => ⟨(by show 2 <= sizeLine; decide), fun t6 h6 => ⟨_, rfl, (by show 3 <= sizeLine; decide), fun l10 hl10 => ?_⟩⟩⟩⟩⟩⟩⟩
    have s3 := same_new h3 (.tup us)
    have s4 := same_new h4 (.tup [.str "row", .ref t3])
    have s5 := same_new h5 (.tup u8)
    have s6 := same_new h6 (.tup [.str "row", .ref t5])
    have s7 := same_new hl10 (.lst [.ref t4, .ref t6, .ref t2])
    have sZ := sA.trans ((((s3.trans s4).trans s5).trans s6).trans s7)
    have d1 : IsDt _ (dat (.row ps)) (.ref t4) := IsDt.mono ((s5.trans s6).trans s7).tups (by rw [dat, datR_map]; exact isDt_new h4 (.cons (isDt_str _) (.one (isDt_new h3 (pl2.mono sA.tups).2))) : IsDt (upd (upd HA t3 (.tup us)) t4 (.tup [.str "row", .ref t3])) (dat (.row ps)) (.ref t4))
    have d2 : IsDt _ (dat (.row p8)) (.ref t6) := IsDt.mono s7.tups (by rw [dat, datR_map]; exact isDt_new h6 (.cons (isDt_str _) (.one (isDt_new h5 (pl8.mono (sA.trans (s3.trans s4)).tups).2))) : IsDt (upd (upd (upd (upd HA t3 (.tup us)) t4 (.tup [.str "row", .ref t3])) t5 (.tup u8)) t6 (.tup [.str "row", .ref t5])) (dat (.row p8)) (.ref t6))
    refine fin l10 _ (fun b o nb q => sZ _ _ (ex8 b o nb q)) (dk8.keep sZ) ⟨_, _, _, _, _, _, upd_same, d1, d2, IsDt.mono ((((s3.trans s4).trans s5).trans s6).trans s7).tups dk9, ?_, ?_, ?_⟩
    · have := vzR_le pl2.1; rw [vz]; lia
    · have := vzR_le pl8.1; rw [vz]; lia
    · have := kwR_le (B := 1) (fs := ms.map fun m => (m, Kd.num)) fun q hq => by obtain ⟨m, _, rfl⟩ := List.mem_map.mp hq; rw [kw]; exact Nat.le_refl _
      rw [List.length_map] at this
      rw [kw]; lia
  refine ⟨_, rfl, p, n + 1 + 1 + 1, r, 4, rfl, dk5, by lia, by decide, by decide, fun y H6 y0 y1 ex6 dk6 => .inl ⟨rfl, _, rfl, ite2 (fun _ => ?_) (fun _ => ?_)⟩⟩
  · have hl6 := ex6 _ _ nl2 hl5
    refine ⟨_, rfl, _, rfl, _, rfl, .inl ⟨l2, us, rfl, SqL.of hl6, fun q5 hq5 => ⟨_, rfl, _, rfl, .inl ⟨_, _, rfl, rfl, _, rfl, .inl ⟨l2, us, rfl, SqL.of (same_new hq5 _ _ _ hl6), fun q6 hq6 => .inr (.inr (.inl ⟨q5, q6, _, _, rfl, rfl, same_new hq6 _ _ _ upd_same, upd_same, ?_, fun q7 hq7 => ?_⟩))⟩⟩⟩⟩⟩
    · rw [cut_drop _ hj, cut_take _ (Nat.le_of_lt hj), List.length_take, List.length_drop]; exact Nat.le_of_lt (line1 (by lia))
    rw [cut_drop _ hj, cut_take _ (Nat.le_of_lt hj)] at *
    have s67 := ((same_new hq5 (.lst (us.take j))).trans (same_new hq6 (.lst (us.drop (j + 1))))).trans (same_new hq7 (.lst (us.take j ++ us.drop (j + 1))))
    have pl6 := (pl5.mono (dk5.tups ex6)).mono s67.tups
    exact tl _ _ _ _ upd_same ((pl6.take j).app (pl6.drop (j + 1))) (by rw [List.length_append, List.length_take, List.length_drop]; lia) (s67 _ _ hl6) pl6 (s67 _ _ (ex6 _ _ nlp hlm5)) (fun b o nb q => s67 _ _ (ex6 b o nb (ex5 b o nb q))) ((dk6.keep s67).mono (by lia))
  · have t6 := dk5.tups ex6
    exact tl _ _ _ _ (ex6 _ _ nq4 hq4') (plb.mono t6) lb5 (ex6 _ _ nl2 hl5) (pl5.mono t6) (ex6 _ _ nlp hlm5) (ex5.trans ex6) (dk6.mono (by lia))
end
end K09
end
section
namespace K09
open PySem L2 Kn
theorem for_list {K:PySem.W.Frag}{b:Addr}{xs:List V}{g:TG}{tb:TS}{D:Ends} {σ:St} {H:Hp} (Pv:Nat->St->Hp->Prop) (h0:Pv 0 σ H) (stay:∀ i σ H',Pv i σ H'->H' b=some (.lst xs))
  (hs:∀ (E:Ends) i (hi:i<xs.length) σ H',Pv i σ H'->(∀ σ H,Pv (i+1) σ H->E.nx σ H)->(∀ v H,D.rt v H->E.rt v H)->g xs[i] σ H' fun σ2 H2=>tb E σ2 H2) (hd:∀ σ H,Pv xs.length σ H->D.nx σ H) :
  ∃ q,V.ref b=V.ref q/\(∃ ys,SqL K H q ys)/\∃ W:Nat->Nat->St->Hp->Prop,(∃ m,W 0 m σ H)/\∀ i m σ H,W i m σ H ->
   ((Itl K q).stop i H/\D.nx σ H)\/((Itl K q).go i H/\∃ N:St->Hp->Prop,(∀ σ' H',N σ' H'->∃ m',m'<m/\W (i+1) m' σ' H')/\∀ x H',(Itl K q).yld i H x H'->g x σ H' fun σ2 H2=>tb { D with nx:=N,ct:=N,bk:=D.nx } σ2 H2):=by
 refine⟨b,rfl,⟨xs,SqL.of (stay _ _ _ h0)⟩,fun i m σ H=>m+i=xs.length/\Pv i σ H,⟨xs.length,rfl,h0⟩,?_⟩
 rintro i m σ H ⟨hm,p⟩
 have hb:=stay _ _ _ p
 by_cases hi:i<xs.length
 ·refine .inr ⟨⟨_,_,SqL.of hb,List.getElem?_eq_getElem hi⟩,fun σ' H'=>Pv (i+1) σ' H',fun σ' H' h=>⟨m-1,by lia,by lia,h⟩,fun x H' hy=>?_⟩
  obtain⟨eH,hx⟩:=hy
  rw[eH]
  clear eH H'
  have e2:=hx _ (SqL.of hb)
  rw[List.getElem?_eq_getElem hi]at e2
  cases e2
  exact hs _ i hi σ H p (fun _ _ h=>h) fun _ _ h=>h
 ·have ei:i=xs.length:=by lia
  exact .inl ⟨⟨_,SqL.of hb,by lia⟩,hd σ H (ei ▸ p)⟩
def ExT (T0:Addr) (H H':Hp):Prop:=∀ b o,b≠T0->H b=some o->H' b=some o
theorem lamT_tbl {H:Hp}{T0:Addr}{q:Pos}{n:Str} (h:LamT H T0 q n):∃ ps,H T0=some (.tbl ps):=by
 rcases h with e | ⟨_,e,_⟩ <;> exact⟨_,e⟩
theorem ExT.tups {T0:Addr}{H H':Hp}{q:Pos}{n:Str} (h:LamT H T0 q n) (e:ExT T0 H H'):Tups H H':=fun a zs p=>e a _ (fun z=>by obtain⟨ps,e⟩:=lamT_tbl h;rw[z,e]at p;cases p) p
theorem lamT_ex {H H':Hp}{T0 p:Addr}{q:Pos}{nm:Str}{n r:Int} (h:LamT H T0 q nm) (d:Dk H p n r) (e:Ex p H H'):LamT H' T0 q nm:=by
 have np:∀ a o,H a=some o->(∀ xs,o≠.lst xs)->a≠p:=fun a o h1 h2 z=>by obtain⟨c1,c2,c3,c4,e,_⟩:=d;rw[z,e]at h1;cases h1;exact h2 _ rfl
 rcases h with e1 | ⟨c,e1,e2⟩
 ·exact .inl (e _ _ (np _ _ e1 fun _ z=>by cases z) e1)
 ·exact .inr ⟨c,e _ _ (np _ _ e1 fun _ z=>by cases z) e1,e _ _ (np _ _ e2 fun _ z=>by cases z) e2⟩
theorem lamT_same {H H':Hp}{T0:Addr}{q:Pos}{nm:Str} (h:LamT H T0 q nm) (s:Same H H'):LamT H' T0 q nm:=by
 rcases h with e1 | ⟨c,e1,e2⟩
 ·exact .inl (s _ _ e1)
 ·exact .inr ⟨c,s _ _ e1,s _ _ e2⟩
theorem Chn.mono {H H':Hp}{l:Addr}{b c:Nat} (h:Chn H l b) (t:Tups H H') (k:∀ xs,H l=some (.lst xs)->H' l=some (.lst xs)) (bc:b<=c):Chn H' l c:=by
 obtain⟨u1,u2,u3,v1,v2,kd,h1,h2,h3,h4,h5,h6,h7⟩:=h
 exact⟨u1,u2,u3,v1,v2,kd,k _ h1,IsDt.mono t h2,IsDt.mono t h3,IsDt.mono t h4,Nat.le_trans h5 bc,Nat.le_trans h6 bc,Nat.le_trans h7 bc⟩
section
variable {P:Program}{w:World}{K:PySem.W.Frag}{mg:Str->Option Value}{base:Heap}{f T0 f_wide f_long f_chains f_isof f_is:Addr}{fd fd_wide fd_long fd_chains fd_isof fd_is:FuncData}
theorem Za2:FnScope ["deck","some","one","found"] ["deck"] (defScope (top 26)):=⟨rfl,rfl,rfl,by decide +kernel,rfl,by decide +kernel,by decide +kernel⟩
def spFar (T0:Addr):Sp:=fun vs H Q _=>∃ (p:Addr) (r:Int),vs=[.ref p]/\Dk H p 0 r/\LamT H T0 lamQ lamN /\
 ∀ H',(∀ b o,b≠p->b≠T0->H b=some o->H' b=some o)->LamT H' T0 lamQ lamN->Q (.bl true) H'
theorem ok_farR {k:Nat} (hk:3<=k) (T:Tx mg) (D:Df K mg "_law_far_right" (top 26) f fd ["deck"]) (ZaI:Df K mg "_law_wide" (top 23) f_wide fd_wide ["deck"]) (Zbp:FnOk P w K mg base CX0 k f_wide fd_wide ["deck"] spWide)
  (ZaJ:Df K mg "_law_long_row" (top 24) f_long fd_long ["deck"]) (Zbq:FnOk P w K mg base CX0 3 f_long fd_long ["deck"] spWide)
  (ZaK:Df K mg "_law_chains" (top 25) f_chains fd_chains ["deck"]) (Zbr:FnOk P w K mg base CX0 3 f_chains fd_chains ["deck"] spChains)
  (Zao:Df K mg "is_of" (top 2) f_isof fd_isof ["value","kind"]) (Za3:FnOk P w K mg base CX0 3 f_isof fd_isof ["value","kind"] (spIsOf T0))
  (Zah:Df K mg "_law_is_of" (top 21) f_is fd_is ["value","kind"]) (Zau:FnOk P w K mg base CX0 1 f_is fd_is ["value","kind"] spLawIs):FnOk P w K mg base CX0 (k+1) f fd ["deck"] (spFar T0):=by
 refine D.fn.okH Za2 (fun vs H Q E h=>?_) (fun cdv A outer s H vs Q E hr h=>?_)
 ·obtain⟨p,r,rfl,_⟩:=h;rfl
 obtain⟨p,r,rfl,dk,lt,fin⟩:=h
 have hu:=u110 hr
 have hu0:=u0 hr
 have hu1:=hu_of hr
 refine⟨_,(wss_cons (ws_for PassesOwn.never rfl (wi_U (we_lst (wa_cons (we_call Zbp (hr.mono (by lia)) rfl ZaI.mg ZaI.kp ZaI.b .nil pass0 (wa_cons (wv 0) wa_nil)) (wa_cons (we_call Zbq (hr.mono (by lia)) rfl ZaJ.mg ZaJ.kp ZaJ.b .nil pass0 (wa_cons (wv 0) wa_nil)) (wa_cons (we_call Zbr (hr.mono (by lia)) rfl ZaK.mg ZaK.kp ZaK.b .nil pass0 (wa_cons (wv 0) wa_nil)) wa_nil))))) (wg_name (i:=1) Za2.nd rfl (Or.inl rfl)) (wss_one (ws_for PassesOwn.never rfl (wi_U (we_slice sl_U (wv 1) wo_none (wo_some we_int))) (wg_name (i:=2) Za2.nd rfl (Or.inl rfl)) (wss_cons (ws_set (i:=3) Za2.nd rfl (Or.inl rfl) (we_call Za3 (hr.mono (by lia)) rfl Zao.mg Zao.kp Zao.b .nil pass0 (wa_cons (wv 2) (wa_cons (we_ix (ix_U hu1) (wv 1) we_int (fun _ _=>rfl)) wa_nil))))
   (wss_one (ws_if (wt_pw (ww_or (wt_not (wt_val (we_callB call_isi rfl T.z_isinstance bt_isinstance (wa_cons (wv 3) (wa_cons (we_bltn rfl T.z_bool bt_bool (relv_ty _)) wa_nil))))) (ww_or1 (wt_cmpR (op_neU hu) (wv 3) (we_call Zau (hr.mono (by lia)) rfl Zah.mg Zah.kp Zah.b .nil pass0 (wa_cons (wv 2) (wa_cons (we_ix (ix_U hu1) (wv 1) we_int (fun _ _=>rfl)) wa_nil))) (nomark _))))) (wss_one (ws_ret we_bl)) wss_nil))))))
   (wss_one (ws_ret we_bl))),?_⟩
 refine seqH fun N1 to1=>.inl ⟨_,rfl,p,0,r,rfl,dk,by decide,fun l1 H1 ex1 dk1 ch1=>⟨_,rfl,p,_,r,rfl,dk1,by decide,fun l2 H2 ex2 dk2 ch2=>⟨_,rfl,p,_,r,rfl,dk2,by decide,fun l3 H3 ex3 dk3 ch3=>⟨(by show 3<=sizeLine;decide),fun l4 hl4=>?_⟩⟩⟩⟩
 have ne:∀ {H:Hp}{l:Addr}{b:Nat}{n:Int},Dk H p n r->Chn H l b->l≠p:=fun d c z=>by
  obtain⟨c1,c2,c3,c4,e,_⟩:=d
  obtain⟨u1,u2,u3,v1,v2,k,h1,h2,_⟩:=c
  rw[z,e]at h1
  cases h1
 have ch13:Chn (upd H3 l4 (.lst [.ref l1,.ref l2,.ref l3])) l1 1000:=ch1.mono ((dk1.tups ex2).trans ((dk2.tups ex3).trans (Tups.new hl4 _))) (fun xs h=>same_new hl4 _ _ _ (ex3 _ _ (ne dk1 ch1) (ex2 _ _ (ne dk1 ch1) h))) (by decide)
 have ch23:Chn (upd H3 l4 (.lst [.ref l1,.ref l2,.ref l3])) l2 1000:=ch2.mono ((dk2.tups ex3).trans (Tups.new hl4 _)) (fun xs h=>same_new hl4 _ _ _ (ex3 _ _ (ne dk2 ch2) h)) (by decide)
 have ch33:Chn (upd H3 l4 (.lst [.ref l1,.ref l2,.ref l3])) l3 1000:=ch3.mono (Tups.new hl4 _) (fun xs h=>same_new hl4 _ _ _ h) (by decide)
 have exA:Ex p H (upd H3 l4 (.lst [.ref l1,.ref l2,.ref l3])):=ex1.trans (ex2.trans (ex3.trans (ex_new hl4)))
 have ltA:LamT (upd H3 l4 (.lst [.ref l1,.ref l2,.ref l3])) T0 lamQ lamN:=lamT_same (lamT_ex (lamT_ex (lamT_ex lt dk ex1) dk1 ex2) dk2 ex3) (same_new hl4 _)
 have hlA:(upd H3 l4 (.lst [.ref l1,.ref l2,.ref l3])) l4=some (.lst [.ref l1,.ref l2,.ref l3]):=upd_same
 obtain⟨HA,eA⟩:∃ HA,HA=upd H3 l4 (.lst [.ref l1,.ref l2,.ref l3]):=⟨_,rfl⟩
 rw[<- eA]at ch13 ch23 ch33 exA ltA hlA ⊢
 clear eA hl4 ch3 ch2 ch1 dk3 dk2 dk1 ex3 ex2 ex1
 refine for_list (xs:=[.ref l1,.ref l2,.ref l3]) (fun i σ H'=>ExT T0 HA H'/\LamT H' T0 lamQ lamN/\∃ o1 o2 o3:Option V,σ=[some (.ref p),o1,o2,o3]) ⟨fun _ _ _ q=>q,ltA,none,none,none,rfl⟩ ?stay ?step ?done
 case stay=>
  rintro i σ H' ⟨e,lt',_⟩
  exact e _ _ (fun z=>by obtain⟨ps,e⟩:=lamT_tbl ltA;rw[z,e]at hlA;cases hlA) hlA
 case done=>
  rintro σ H' ⟨e,lt',o1,o2,o3,rfl⟩
  exact to1 _ _ (fin H' (fun b o nb nt q=>e b o nt (exA b o nb q)) lt')
 case step=>
  rintro E1 i hi σ H4 ⟨e4,lt4,o1,o2,o3,rfl⟩ toE rtE
  have key:∃ la,([.ref l1,.ref l2,.ref l3]:List V)[i]=.ref la/\Chn HA la 1000:=by
   match i,hi with
   | 0,_=>exact⟨l1,rfl,ch13⟩
   | 1,_=>exact⟨l2,rfl,ch23⟩
   | 2,_=>exact⟨l3,rfl,ch33⟩
  obtain⟨la,ei,u1,u2,u3,v1,v2,kd,h1,i1,i2,i3,b1,b2,b3⟩:=key
  rw[ei]
  dsimp only[gName,List.set]
  have nT:∀ {a:Addr}{xs:List V},HA a=some (.lst xs)->a≠T0:=fun q z=>by obtain⟨ps,e⟩:=lamT_tbl ltA;rw[z,e]at q;cases q
  have h14:=e4 _ _ (nT h1) h1
  refine .inl ⟨_,rfl,_,rfl,.inl ⟨la,_,rfl,SqL.of h14,fun l5 hl5=>?_⟩⟩
  have s5:=same_new hl5 (.lst (cutV [u1,u2,u3] none (some 2)))
  rw[show cutV [u1,u2,u3] none (some 2)=[u1,u2] from cut_take (k:=2) _ (by show 2<=3;decide)]at s5 ⊢
  have hl5':(upd H4 l5 (.lst [u1,u2])) l5=some (.lst [u1,u2]):=upd_same
  have e5:ExT T0 HA (upd H4 l5 (.lst [u1,u2])):=fun b o nt q=>s5 _ _ (e4 b o nt q)
  have lt5:=lamT_same lt4 s5
  have h15:=s5 _ _ h14
  obtain⟨H5,eH⟩:∃ H5,H5=upd H4 l5 (.lst [u1,u2]):=⟨_,rfl⟩
  rw[<- eH]at hl5' e5 lt5 h15 ⊢
  clear eH s5 e4 lt4 h14
  have nT5:∀ {a:Addr}{xs:List V},H5 a=some (.lst xs)->a≠T0:=fun q z=>by obtain⟨ps,e⟩:=lamT_tbl lt5;rw[z,e]at q;cases q
  refine for_list (xs:=[u1,u2]) (fun i σ H'=>ExT T0 H5 H'/\LamT H' T0 lamQ lamN/\∃ o2 o3:Option V,σ=[some (.ref p),some (.ref la),o2,o3]) ⟨fun _ _ _ q=>q,lt5,_,_,rfl⟩ ?stay ?step ?done
  case stay=>
   rintro i σ H' ⟨e,lt',_⟩
   exact e _ _ (nT5 hl5') hl5'
  case done=>
   rintro σ H' ⟨e,lt',o2,o3,rfl⟩
   exact toE _ _ ⟨fun b o nt q=>e b o nt (e5 b o nt q),lt',_,_,_,rfl⟩
  case step=>
   rintro E2 j hj σ H6 ⟨e6,lt6,o2,o3,rfl⟩ toE2 rtE2
   have key:∃ v,IsDt HA (dat v) (([u1,u2]:List V)[j])/\vz v<=1000:=by
    match j,hj with
    | 0,_=>exact⟨v1,i1,b1⟩
    | 1,_=>exact⟨v2,i2,b2⟩
   obtain⟨v,iv,bv⟩:=key
   have e06:ExT T0 HA H6:=fun b o nt q=>e6 b o nt (e5 b o nt q)
   have t6:=e06.tups ltA
   have h16:=e6 _ _ (nT5 h15) h15
   generalize ([u1,u2]:List V)[j]=ux at iv ⊢
   dsimp only[gName,List.set]
   refine seqH fun M1 m1=>⟨_,rfl,_,rfl,ixl (SqL.of h16) at2 ⟨ux,u3,v,kd,rfl,lt6,IsDt.mono t6 iv,IsDt.mono t6 i3,Nat.le_trans bv (by decide),Nat.le_trans b3 (by decide),fun H7 e7 lt7=>m1 _ _ ?_⟩⟩
   have e67:ExT T0 HA H7:=fun b o nt q=>e7 b o nt (e06 b o nt q)
   have t7:=e67.tups ltA
   have h17:=e7 _ _ (fun z=>by obtain⟨ps,e⟩:=lamT_tbl lt6;rw[z,e]at h16;cases h16) h16
   refine⟨_,rfl,_,_,_,rfl,.inr ⟨rfl,⟨_,rfl⟩,rfl⟩,_,rfl,iteF ⟨_,rfl,_,rfl,_,rfl,ixl (SqL.of h17) at2 ⟨ux,u3,v,kd,rfl,IsDt.mono t7 iv,IsDt.mono t7 i3,Nat.le_trans bv (by decide),Nat.le_trans b3 (by decide),fun H8 s8=>.inl ⟨rfl,_,rfl,iteN (by simp) (toE2 _ _ ?_)⟩⟩⟩⟩
   exact⟨fun b o nt q=>s8 _ _ (e7 b o nt (e6 b o nt q)),lamT_same lt7 s8,_,_,rfl⟩
end
end K09
end
section
namespace K09
open PySem L2 Kn
theorem cut_ints (ns:List Int) (lo hi:Option Int):∃ cs:List Int,cutV (ns.map V.int) lo hi=cs.map V.int/\cs.length<=ns.length:=by
 refine⟨(ns.drop (HT.sIx ns.length 0 lo)).take (HT.sIx ns.length ns.length hi-HT.sIx ns.length 0 lo),?_,?_⟩
 ·unfold cutV;rw[List.length_map,List.map_take,List.map_drop]
 ·rw[List.length_take,List.length_drop];lia
theorem sq_ext {K:PySem.W.Frag}{H H':Hp}{a T0:Addr}{xs:List V}{q:Pos}{n:Str} (h:SqL K H a xs) (l:LamT H T0 q n) (e:ExT T0 H H'):SqL K H' a xs:=by
 obtain⟨ps,et⟩:=lamT_tbl l
 rcases h with (h | ⟨o,h⟩) | h
 ·exact .inl (.inl (e _ _ (fun z=>by rw[z,et]at h;cases h) h))
 ·exact .inl (.inr ⟨o,e _ _ (fun z=>by rw[z,et]at h;cases h) h⟩)
 ·exact .inr h
theorem confB_all {k:Kd}:∀ {qs:List (Val×Int)},(∀ q∈qs,conf q.1 k=true)->confB qs k=true
 | [],_=>by rw[confB]
 | q::qs,h=>by rw[confB,h q List.mem_cons_self,confB_all fun r hr=>h r (List.mem_cons_of_mem _ hr)];rfl
def VAt (H:Hp) (u:V):Prop:=∃ v,IsDt H (dat v) u/\Bd 7 6 v
def KAt (H:Hp) (u:V):Prop:=∃ k,IsDt H (kdD k) u/\KB 11 k
theorem bd_vz6 {v:Val} (h:Bd 7 6 v):vz v<=262144:=Bd.vz h
theorem kb_kw11 {k:Kd} (h:KB 11 k):kw k<=1000000:=Nat.le_trans h.kw (by decide)
section
variable {P:Program}{w:World}{K:PySem.W.Frag}{mg:Str->Option Value}{base:Heap}{f T0 f_cell f_deck f_far f_value f_even f_along f_other f_kind f_isof f_is f_bag:Addr}{fd fd_cell fd_deck fd_far fd_value fd_even fd_along fd_other fd_kind fd_isof fd_is fd_bag:FuncData}
theorem Zar:FnScope ["script","cell","deck","value","even","kind","other","due","one","found"] ["script"] (defScope (top 27)):=⟨rfl,rfl,rfl,by decide +kernel,rfl,by decide +kernel,by decide +kernel⟩
def spLaw (K:PySem.W.Frag) (T0:Addr):Sp:=fun vs H Q _=>∃ (a:Addr) (ns:List Int),vs=[.ref a]/\SqL K H a (ns.map V.int)/\ns.length<=63/\LamT H T0 lamQ lamN/\∀ H',Q (.bl true) H'
theorem ok_law (T:Tx mg) (D:Df K mg "law" (top 27) f fd ["script"])
  (Zaw:Df K mg "_law_cell_at" (top 5) f_cell fd_cell ["script","k"]) (Zbd:FnOk P w K mg base CX0 1 f_cell fd_cell ["script","k"] (spCell K))
  (Zax:Df K mg "_law_deck" (top 6) f_deck fd_deck ["cell","room"]) (Zbe:FnOk P w K mg base CX0 1 f_deck fd_deck ["cell","room"] spDeck)
  (ZaL:Df K mg "_law_far_right" (top 26) f_far fd_far ["deck"]) (Zbs:FnOk P w K mg base CX0 6 f_far fd_far ["deck"] (spFar T0))
  (Zaj:Df K mg "_law_value" (top 16) f_value fd_value ["deck","deep"]) (ZaO:FnOk P w K mg base CX0 17 f_value fd_value ["deck","deep"] (spVal 6))
  (Zak:Df K mg "_law_even_bags" (top 19) f_even fd_even ["value","deck"]) (Za0:FnOk P w K mg base CX0 18 f_even fd_even ["value","deck"] (spEven 6))
  (Zaf:Df K mg "_law_kind_along" (top 18) f_along fd_along ["value","deck"]) (ZaB:FnOk P w K mg base CX0 12 f_along fd_along ["value","deck"] (spAlong 6))
  (Zal:Df K mg "_law_other_kind" (top 20) f_other fd_other ["kind","deck"]) (Za1:FnOk P w K mg base CX0 12 f_other fd_other ["kind","deck"] (spOtherK 9))
  (Zae:Df K mg "_law_kind" (top 17) f_kind fd_kind ["deck","deep"]) (Zap:FnOk P w K mg base CX0 7 f_kind fd_kind ["deck","deep"] (spKind 4))
  (Zao:Df K mg "is_of" (top 2) f_isof fd_isof ["value","kind"]) (Za3:FnOk P w K mg base CX0 3 f_isof fd_isof ["value","kind"] (spIsOf T0))
  (Zah:Df K mg "_law_is_of" (top 21) f_is fd_is ["value","kind"]) (Zau:FnOk P w K mg base CX0 1 f_is fd_is ["value","kind"] spLawIs)
  (Zad:Df K mg "_law_bag" (top 13) f_bag fd_bag ["pairs"]) (ZaA:FnOk P w K mg base CX0 14 f_bag fd_bag ["pairs"] (spBag 6)):FnOk P w K mg base CX0 19 f fd ["script"] (spLaw K T0):=by
 refine D.fn.okH (k:=18) Zar (fun vs H Q E h=>?_) (fun cdv A outer s H vs Q E hr h=>?_)
 ·obtain⟨a,ns,rfl,_⟩:=h;rfl
 obtain⟨a,ns,rfl,hS,h63,lt,fin⟩:=h
 have hu:=u110 hr
 have hu0:=u0 hr
 have hu1:=hu_of hr
 refine⟨_,(wss_cons (ws_for PassesOwn.never rfl (wi_U (we_op op_plus (we_lst (wa_cons (we_call Zbd (hr.mono (by lia)) rfl Zaw.mg Zaw.kp Zaw.b .nil pass0 (wa_cons (wv 0) (wa_cons we_int wa_nil))) wa_nil)) (we_slice sl_U (wv 0) (wo_some we_int) (wo_some we_int)))) (wg_name (i:=1) Zar.nd rfl (Or.inl rfl)) (wss_one (ws_if (wt_not (wt_val (we_call Zbs (hr.mono (by lia)) rfl ZaL.mg ZaL.kp ZaL.b .nil pass0 (wa_cons (we_call Zbe (hr.mono (by lia)) rfl Zax.mg Zax.kp Zax.b .nil pass0 (wa_cons (wv 1) (wa_cons we_int wa_nil))) wa_nil)))) (wss_one (ws_ret we_bl)) wss_nil)))
   (wss_cons (ws_for PassesOwn.never rfl (wi_U (we_op op_plus (we_lst (wa_cons (we_call Zbd (hr.mono (by lia)) rfl Zaw.mg Zaw.kp Zaw.b .nil pass0 (wa_cons (wv 0) (wa_cons we_int wa_nil))) wa_nil)) (we_slice sl_U (wv 0) (wo_some we_int) (wo_some we_int)))) (wg_name (i:=1) Zar.nd rfl (Or.inl rfl)) (wss_cons (ws_set (i:=2) Zar.nd rfl (Or.inl rfl) (we_call Zbe (hr.mono (by lia)) rfl Zax.mg Zax.kp Zax.b .nil pass0 (wa_cons (wv 1) (wa_cons we_int wa_nil))))
   (wss_cons (ws_set (i:=3) Zar.nd rfl (Or.inl rfl) (we_call ZaO (hr.mono (by lia)) rfl Zaj.mg Zaj.kp Zaj.b .nil pass0 (wa_cons (wv 2) (wa_cons we_int wa_nil))))
   (wss_cons (ws_set (i:=4) Zar.nd rfl (Or.inl rfl) (we_call Za0 (hr.mono (by lia)) rfl Zak.mg Zak.kp Zak.b .nil pass0 (wa_cons (wv 3) (wa_cons (wv 2) wa_nil))))
   (wss_cons (ws_asg we_int (wg_sub (wv 2) we_int (set_U hu1)))
   (wss_cons (ws_set (i:=5) Zar.nd rfl (Or.inl rfl) (we_call ZaB (hr.mono (by lia)) rfl Zaf.mg Zaf.kp Zaf.b .nil pass0 (wa_cons (wv 4) (wa_cons (wv 2) wa_nil))))
   (wss_cons (ws_set (i:=6) Zar.nd rfl (Or.inl rfl) (we_call Za1 (hr.mono (by lia)) rfl Zal.mg Zal.kp Zal.b .nil pass0 (wa_cons (wv 5) (wa_cons (wv 2) wa_nil))))
   (wss_cons (ws_asg we_int (wg_sub (wv 2) we_int (set_U hu1)))
   (wss_cons (ws_for PassesOwn.never rfl (wi_U (we_lst (wa_cons (wv 5) (wa_cons (wv 6) (wa_cons (we_call Zap (hr.mono (by lia)) rfl Zae.mg Zae.kp Zae.b .nil pass0 (wa_cons (wv 2) (wa_cons we_int wa_nil))) (wa_cons (we_call ZaB (hr.mono (by lia)) rfl Zaf.mg Zaf.kp Zaf.b .nil pass0 (wa_cons (wv 3) (wa_cons (wv 2) wa_nil))) (wa_cons (we_tup (wa_cons we_str (wa_cons (wv 5) wa_nil))) wa_nil))))))) (wg_name (i:=7) Zar.nd rfl (Or.inl rfl)) (wss_one (ws_for PassesOwn.never rfl (wi_U (we_lst (wa_cons (wv 3) (wa_cons (wv 4) (wa_cons (we_tup (wa_cons we_str (wa_cons (we_tup wa_nil) wa_nil))) (wa_cons (we_tup (wa_cons we_str (wa_cons (we_tup wa_nil) wa_nil))) wa_nil)))))) (wg_name (i:=8) Zar.nd rfl (Or.inl rfl)) (wss_cons (ws_set (i:=9) Zar.nd rfl (Or.inl rfl) (we_call Za3 (hr.mono (by lia)) rfl Zao.mg Zao.kp Zao.b .nil pass0 (wa_cons (wv 8) (wa_cons (wv 7) wa_nil))))
   (wss_one (ws_if (wt_pw (ww_or (wt_not (wt_val (we_callB call_isi rfl T.z_isinstance bt_isinstance (wa_cons (wv 9) (wa_cons (we_bltn rfl T.z_bool bt_bool (relv_ty _)) wa_nil))))) (ww_or1 (wt_cmpR (op_neU hu) (wv 9) (we_call Zau (hr.mono (by lia)) rfl Zah.mg Zah.kp Zah.b .nil pass0 (wa_cons (wv 8) (wa_cons (wv 7) wa_nil))) (nomark _))))) (wss_one (ws_ret we_bl)) wss_nil))))))
   (wss_one (ws_if (wt_pw (ww_and (wt_val (we_call Zau (hr.mono (by lia)) rfl Zah.mg Zah.kp Zah.b .nil pass0 (wa_cons (wv 4) (wa_cons (wv 5) wa_nil)))) (ww_and1 (wt_not (wt_val (we_call Za3 (hr.mono (by lia)) rfl Zao.mg Zao.kp Zao.b .nil pass0 (wa_cons (we_call ZaA (hr.mono (by lia)) rfl Zad.mg Zad.kp Zad.b .nil pass0 (wa_cons (we_lst (wa_cons (we_tup (wa_cons (wv 4) (wa_cons we_int wa_nil))) wa_nil)) wa_nil)) (wa_cons (we_tup (wa_cons we_str (wa_cons (wv 5) wa_nil))) wa_nil)))))))) (wss_one (ws_ret we_bl)) wss_nil)))))))))))
   (wss_one (ws_ret we_bl)))),?_⟩
 refine seqH fun N1 to1=>?_
 refine .inl ⟨_,rfl,a,ns,0,rfl,hS,by decide,fun c0=>⟨(by show 1<=sizeLine;decide),fun l hl=>?_⟩⟩
 have s1:=same_new hl (.lst [.int c0])
 refine⟨_,rfl,_,rfl,_,rfl,.inl ⟨a,_,rfl,s1.seq hS,fun q hq=>?_⟩⟩
 obtain⟨cs,ecs,lcs⟩:=cut_ints ns (some 30) (some 36)
 rw[ecs]at *
 refine .inr (.inr (.inl ⟨l,q,_,_,rfl,rfl,same_new hq _ _ _ upd_same,upd_same,Nat.le_of_lt (line1 (by rw[List.length_map];show 1+cs.length<=_;lia)),fun o ho=>?_⟩))
 have hO:=(upd_same:(upd (upd (upd H l (.lst [.int c0])) q (.lst (cs.map V.int))) o (.lst ([.int c0]++cs.map V.int))) o=some (.lst ([.int c0]++cs.map V.int)))
 have s2:=(s1.trans (same_new hq (.lst (cs.map V.int)))).trans (same_new ho (.lst ([.int c0]++cs.map V.int)))
 obtain⟨HA,eA⟩:∃ HA,HA=upd (upd (upd H l (.lst [.int c0])) q (.lst (cs.map V.int))) o (.lst ([.int c0]++cs.map V.int)):=⟨_,rfl⟩
 rw[<- eA]at hO s2 ⊢
 rw[show ([.int c0]++cs.map V.int:List V)=(c0::cs).map V.int from rfl]at hO
 clear eA ho hq hl s1 ecs
 have ltA:=lamT_same lt s2
 have hSA:=s2.seq hS
 have nTA:∀ {a:Addr}{xs:List V},HA a=some (.lst xs)->a≠T0:=fun q z=>by obtain⟨ps,e⟩:=lamT_tbl ltA;rw[z,e]at q;cases q
 refine for_list (xs:=(c0::cs).map V.int) (fun i σ H'=>ExT T0 HA H'/\LamT H' T0 lamQ lamN/\∃ o1:Option V,σ=[some (.ref a),o1,none,none,none,none,none,none,none,none]) ⟨fun _ _ _ q=>q,ltA,_,rfl⟩ ?stay ?step ?done
 case stay=>
  rintro i σ H' ⟨e,_⟩
  exact e _ _ (nTA hO) hO
 case step=>
  rintro E1 i hi σ H1 ⟨e1,lt1,o1,rfl⟩ toE rtE
  rw[List.getElem_map]
  generalize (c0::cs)[i]'(by rw[List.length_map]at hi;exact hi)=c
  dsimp only[gName,List.set]
  refine⟨_,rfl,c,24,rfl,fun p H2 hp s2 dk2=>⟨p,24,rfl,dk2,lamT_same lt1 s2,fun H3 e3 lt3=>⟨_,rfl,iteN (by simp) (toE _ _ ⟨fun b o nt q=>?_,lt3,_,rfl⟩)⟩⟩⟩
  exact e3 _ _ (ne_of_none (e1 b o nt q) hp) nt (s2 _ _ (e1 b o nt q))
 case done=>
 rintro σ HB ⟨eB,ltB,o1,rfl⟩
 have hSB:=sq_ext hSA ltA eB
 refine to1 _ _ (seqH fun N2 to2=>?_)
 clear to1 eB nTA hSA ltA hO s2 lcs cs
 refine .inl ⟨_,rfl,a,ns,0,rfl,hSB,by decide,fun c0=>⟨(by show 1<=sizeLine;decide),fun l hl=>?_⟩⟩
 have s1:=same_new hl (.lst [.int c0])
 refine⟨_,rfl,_,rfl,_,rfl,.inl ⟨a,_,rfl,s1.seq hSB,fun q hq=>?_⟩⟩
 obtain⟨cs,ecs,lcs⟩:=cut_ints ns (some 1) (some 30)
 rw[ecs]at *
 refine .inr (.inr (.inl ⟨l,q,_,_,rfl,rfl,same_new hq _ _ _ upd_same,upd_same,Nat.le_of_lt (line1 (by rw[List.length_map];show 1+cs.length<=_;lia)),fun o ho=>?_⟩))
 have hO:=(upd_same:(upd (upd (upd HB l (.lst [.int c0])) q (.lst (cs.map V.int))) o (.lst ([.int c0]++cs.map V.int))) o=some (.lst ([.int c0]++cs.map V.int)))
 have s2:=(s1.trans (same_new hq (.lst (cs.map V.int)))).trans (same_new ho (.lst ([.int c0]++cs.map V.int)))
 obtain⟨HC,eC⟩:∃ HC,HC=upd (upd (upd HB l (.lst [.int c0])) q (.lst (cs.map V.int))) o (.lst ([.int c0]++cs.map V.int)):=⟨_,rfl⟩
 rw[<- eC]at hO s2 ⊢
 rw[show ([.int c0]++cs.map V.int:List V)=(c0::cs).map V.int from rfl]at hO
 clear eC ho hq hl s1 ecs
 have ltC:=lamT_same ltB s2
 have nTC:∀ {a:Addr}{xs:List V},HC a=some (.lst xs)->a≠T0:=fun q z=>by obtain⟨ps,e⟩:=lamT_tbl ltC;rw[z,e]at q;cases q
 refine for_list (xs:=(c0::cs).map V.int) (fun i σ H'=>ExT T0 HC H'/\LamT H' T0 lamQ lamN/\∃ o1 o2 o3 o4 o5 o6 o7 o8 o9:Option V,σ=[some (.ref a),o1,o2,o3,o4,o5,o6,o7,o8,o9]) ⟨fun _ _ _ q=>q,ltC,_,_,_,_,_,_,_,_,_,rfl⟩ ?stay ?step ?done
 case stay=>
  rintro i σ H' ⟨e,_⟩
  exact e _ _ (nTC hO) hO
 case done=>
  rintro σ H' ⟨_,_,o1,o2,o3,o4,o5,o6,o7,o8,o9,rfl⟩
  exact to2 _ _ (fin _)
 case step=>
 rintro E1 i hi σ H1 ⟨e1,lt1,o1,o2,o3,o4,o5,o6,o7,o8,o9,rfl⟩ toE rtE
 rw[List.getElem_map]
 generalize (c0::cs)[i]'(by rw[List.length_map]at hi;exact hi)=c
 dsimp only[gName,List.set]
 have c6:cst 6=11764900:=rfl
 have c4:cst 4=240100:=rfl
 have a6:ca 6=1310720000:=rfl
 have co9:co 9=200:=rfl
 refine seqH fun M1 m1=>⟨_,rfl,c,24,rfl,fun p H2 hp s2 dk2=>m1 _ _ ?_⟩
 have lt2:=lamT_same lt1 s2
 refine seqH fun M2 m2=>⟨_,rfl,p,0,24,rfl,dk2,by decide,by rw[c6];decide,fun x ux H3 r3 bx _ ix ex3 dk3 _ _ _=>m2 _ _ ?_⟩
 have lt3:=lamT_ex lt2 dk2 ex3
 have bx7:Bd 7 6 x:=bx.mono (by decide)
 have ix3:IsDt H3 (dat x) ux:=ix
 refine seqH fun M3 m3=>⟨_,rfl,_,rfl,ux,x,p,_,r3,rfl,ix3,bx7,dk3,by rw[c6];decide,by rw[c6,a6];decide,fun e ue H4 r4 be ie ex4 dk4=>m3 _ _ ?_⟩
 have lt4:=lamT_ex lt3 dk3 ex4
 have ix4:=IsDt.mono (dk3.tups ex4) ix3
 rw[c6,a6]at dk4
 obtain⟨d1,d2,d3,d4,hp4,hm0,hmn⟩:=id dk4
 refine seqH fun M4 m4=>⟨_,rfl,.inl ⟨p,_,3,3,rfl,rfl,hp4,rfl,m4 _ _ ?_⟩⟩
 have dk5:Dk (upd H4 p (.lst [.int d1,.int d2,.int d3,.int 24,.int d4])) p (0+11764900+1310720000) 24:=⟨d1,d2,d3,d4,upd_same,hm0,hmn⟩
 have ex5:Ex p H4 (upd H4 p (.lst [.int d1,.int d2,.int d3,.int 24,.int d4])):=ex_upd
 have lt5:=lamT_ex lt4 dk4 ex5
 have ix5:=IsDt.mono (dk4.tups ex5) ix4
 have ie5:=IsDt.mono (dk4.tups ex5) ie
 show tSeq _ _ _ _ (upd H4 p (.lst [.int d1,.int d2,.int d3,.int 24,.int d4]))
 obtain⟨H5,e5⟩:∃ H5,H5=upd H4 p (.lst [.int d1,.int d2,.int d3,.int 24,.int d4]):=⟨_,rfl⟩
 rw[<- e5]at dk5 ex5 lt5 ix5 ie5 ⊢
 clear e5 hp4 hm0 hmn
 refine seqH fun M5 m5=>⟨_,rfl,_,rfl,ue,e,p,_,24,rfl,ie5,be,dk5,by decide,by rw[a6];decide,fun kd uk H6 r6 kb ik ex6 dk6=>m5 _ _ ?_⟩
 have lt6:=lamT_ex lt5 dk5 ex6
 have t56:=dk5.tups ex6
 have ix6:=IsDt.mono t56 ix5
 have ie6:=IsDt.mono t56 ie5
 rw[a6]at dk6
 refine seqH fun M6 m6=>⟨_,rfl,_,rfl,uk,kd,p,_,r6,rfl,ik,kb,dk6,by decide,by rw[co9];decide,fun ko uo H7 r7 kbo io ex7 dk7=>m6 _ _ ?_⟩
 have lt7:=lamT_ex lt6 dk6 ex7
 have t67:=dk6.tups ex7
 have ix7:=IsDt.mono t67 ix6
 have ie7:=IsDt.mono t67 ie6
 have ik7:=IsDt.mono t67 ik
 rw[co9]at dk7
 obtain⟨d1,d2,d3,d4,hp7,hm0,hmn⟩:=id dk7
 refine seqH fun M7 m7=>⟨_,rfl,.inl ⟨p,_,3,3,rfl,rfl,hp7,rfl,m7 _ _ ?_⟩⟩
 have dk8:Dk (upd H7 p (.lst [.int d1,.int d2,.int d3,.int 24,.int d4])) p (0+11764900+1310720000+1310720000+200) 24:=⟨d1,d2,d3,d4,upd_same,hm0,hmn⟩
 have ex8:Ex p H7 (upd H7 p (.lst [.int d1,.int d2,.int d3,.int 24,.int d4])):=ex_upd
 have lt8:=lamT_ex lt7 dk7 ex8
 have t78:=dk7.tups ex8
 have ix8:=IsDt.mono t78 ix7
 have ie8:=IsDt.mono t78 ie7
 have ik8:=IsDt.mono t78 ik7
 have io8:=IsDt.mono t78 io
 have exA:Ex p H1 (upd H7 p (.lst [.int d1,.int d2,.int d3,.int 24,.int d4])):=fun b o nb q=>ex8 b o nb (ex7 b o nb (ex6 b o nb (ex5 b o nb (ex4 b o nb (ex3 b o nb (s2 _ _ q))))))
 show tSeq _ _ _ _ (upd H7 p (.lst [.int d1,.int d2,.int d3,.int 24,.int d4]))
 obtain⟨H8,e8⟩:∃ H8,H8=upd H7 p (.lst [.int d1,.int d2,.int d3,.int 24,.int d4]):=⟨_,rfl⟩
 rw[<- e8]at dk8 lt8 ix8 ie8 ik8 io8 exA ⊢
 clear e8 hp7 hm0 hmn m1 m2 m3 m4 m5 m6 m7 ex3 ex4 ex5 ex6 ex7 ex8 dk3 dk4 dk5 dk6 dk7 lt3 lt4 lt5 lt6 lt7 ix3 ix4 ix5 ix6 ix7 ie5 ie6 ie7 ik7 t56 t67 t78
 refine seqH fun M8 m8=>?_
 refine .inl ⟨_,rfl,_,rfl,_,rfl,p,_,24,rfl,dk8,by decide,by rw[c4];decide,fun k3 u3 H9 r9 kb3 i3 ex9 dk9=>⟨_,rfl,_,rfl,ux,x,p,_,r9,rfl,IsDt.mono (dk8.tups ex9) ix8,bx7,dk9,by rw[c4];decide,by rw[c4,a6];decide,fun k4 u4 H10 r10 kb4 i4 ex10 dk10=>⟨_,rfl,(by show 2<=sizeLine;decide),fun t5 h5=>⟨(by show 5<=sizeLine;decide),fun l5 hl5=>?_⟩⟩⟩⟩
 have t89:=dk8.tups ex9
 have t910:=dk9.tups ex10
 have s11:=(same_new h5 (.tup [.str "bag",uk])).trans (same_new hl5 (.lst [uk,uo,u3,u4,.ref t5]))
 have ik10:=IsDt.mono (t89.trans t910) ik8
 have tD:=(t89.trans t910).trans s11.tups
 have ixD:=IsDt.mono tD ix8
 have ieD:=IsDt.mono tD ie8
 have ikD:=IsDt.mono tD ik8
 have ioD:=IsDt.mono tD io8
 have i3D:=IsDt.mono (t910.trans s11.tups) i3
 have i4D:=IsDt.mono s11.tups i4
 have i5D:IsDt (upd (upd H10 t5 (.tup [.str "bag",uk])) l5 (.lst [uk,uo,u3,u4,.ref t5])) (kdD (.bag kd)) (.ref t5):=IsDt.mono (same_new hl5 _).tups (by rw[kdD];exact isDt_new h5 (.cons (isDt_str _) (.one ik10)))
 have ltD:=lamT_same (lamT_ex (lamT_ex lt8 dk8 ex9) dk9 ex10) s11
 have exD:Ex p H1 (upd (upd H10 t5 (.tup [.str "bag",uk])) l5 (.lst [uk,uo,u3,u4,.ref t5])):=fun b o nb q=>s11 _ _ (ex10 b o nb (ex9 b o nb (exA b o nb q)))
 have hlD:(upd (upd H10 t5 (.tup [.str "bag",uk])) l5 (.lst [uk,uo,u3,u4,.ref t5])) l5=some (.lst [uk,uo,u3,u4,.ref t5]):=upd_same
 obtain⟨HD,eD⟩:∃ HD,HD=upd (upd H10 t5 (.tup [.str "bag",uk])) l5 (.lst [uk,uo,u3,u4,.ref t5]):=⟨_,rfl⟩
 rw[<- eD]at ixD ieD ikD ioD i3D i4D i5D ltD exD hlD ⊢
 clear eD tD s11 t89 t910 ik10 hl5 h5 i3 i4 ix8 ie8 ik8 io8 exA lt8 dk8 dk9 dk10 ex9 ex10
 have nTD:∀ {a:Addr}{xs:List V},HD a=some (.lst xs)->a≠T0:=fun q z=>by obtain⟨ps,e⟩:=lamT_tbl ltD;rw[z,e]at q;cases q
 refine for_list (xs:=[uk,uo,u3,u4,.ref t5]) (fun i σ H'=>ExT T0 HD H'/\LamT H' T0 lamQ lamN/\∃ o7 o8 o9:Option V,σ=[some (.ref a),some (.int c),some (.ref p),some ux,some ue,some uk,some uo,o7,o8,o9]) ⟨fun _ _ _ q=>q,ltD,_,_,_,rfl⟩ ?stay ?step ?done
 case stay=>
  rintro i σ H' ⟨e,_⟩
  exact e _ _ (nTD hlD) hlD
 case done=>
  rintro σ H11 ⟨e11,lt11,o7,o8,o9,rfl⟩
  have t11:=e11.tups ltD
  have ie11:=IsDt.mono t11 ieD
  have ik11:=IsDt.mono t11 ikD
  have back:∀ H',ExT T0 H11 H'->ExT T0 HC H':=fun H' q b o nt z=>q b o nt (e11 b o nt (exD b o (ne_of_none (e1 b o nt z) hp) (e1 b o nt z)))
  have kw9:kw kd<=1000000:=Nat.le_trans kb.kw (by decide)
  refine m8 _ _ ⟨_,rfl,_,rfl,ue,uk,e,kd,rfl,ie11,ik11,Nat.le_trans (bd_vz6 be) (by decide),kw9,fun H12 s12=>⟨_,rfl,ite2 (fun ec=>?_) (fun ec=>iteF (toE _ _ ⟨back _ fun b o _ q=>s12 _ _ q,lamT_same lt11 s12,_,_,_,_,_,_,_,_,_,rfl⟩))⟩⟩
  refine⟨_,rfl,(by show 2<=sizeLine;decide),fun t6 h6=>⟨(by show 1<=sizeLine;decide),fun l6 hl6=>?_⟩⟩
  have s13:=(same_new h6 (.tup [ue,.int 2])).trans (same_new hl6 (.lst [.ref t6]))
  refine⟨l6,[.ref t6],[(e,2)],rfl,⟨_,upd_same,.inl rfl⟩,?_,by show 1<=100;decide,fun q hq=>by rw[List.mem_singleton.mp hq];exact be,by decide,fun vb H14 qs s14 iv lq mem _=>⟨_,rfl,(by show 2<=sizeLine;decide),fun t7 h7=>?_⟩⟩
  ·rw[datB_map]
   exact .one (isDt_tup (same_new hl6 _ _ _ upd_same) (.cons (IsDt.mono (s12.trans s13).tups ie11) (.one (isDt_int _))))
  have s15:=same_new h7 (.tup [.str "bag",uk])
  have sAll:=(s12.trans s13).trans (s14.trans s15)
  have cb:conf (.bag qs) (.bag kd)=true:=by
   rw[conf]
   refine confB_all fun q hq=>?_
   obtain⟨q',h1,h2⟩:=mem q hq
   rw[h2,List.mem_singleton.mp h1]
   exact ec
  have vzb:vz (.bag qs)<=1000000:=by
   have:=vzB_le (B:=262144) (l:=qs) fun q hq=>by
    obtain⟨q',h1,h2⟩:=mem q hq
    rw[h2,List.mem_singleton.mp h1]
    exact bd_vz6 be
   have l1:qs.length<=1:=lq
   have:qs.length * 262144<=1 * 262144:=Nat.mul_le_mul_right _ l1
   rw[vz];lia
  refine⟨vb,.ref t7,.bag qs,.bag kd,rfl,lamT_same lt11 sAll,IsDt.mono s15.tups iv,?_,vzb,?_,fun H16 e16 lt16=>?_⟩
  ·rw[kdD];exact isDt_new h7 (.cons (isDt_str _) (.one (IsDt.mono ((s12.trans s13).trans s14).tups ik11)))
  ·rw[kw];have:=kb.kw;lia
  rw[cb]
  exact⟨_,rfl,iteN (by simp) (toE _ _ ⟨back _ fun b o nt q=>e16 b o nt (sAll _ _ q),lt16,_,_,_,_,_,_,_,_,_,rfl⟩)⟩
 case step=>
  rintro E2 j hj σ H11 ⟨e11,lt11,o7,o8,o9,rfl⟩ toE2 rtE2
  have key:KAt HD (([uk,uo,u3,u4,.ref t5]:List V)[j]):=by
   match j,hj with
   | 0,_=>exact⟨kd,ikD,kb.le (by decide)⟩
   | 1,_=>exact⟨ko,ioD,kbo⟩
   | 2,_=>exact⟨k3,i3D,kb3.le (by decide)⟩
   | 3,_=>exact⟨k4,i4D,kb4.le (by decide)⟩
   | 4,_=>exact⟨.bag kd,i5D,by rw[KB];exact kb.le (by decide)⟩
  generalize ([uk,uo,u3,u4,.ref t5]:List V)[j]=du at key
  obtain⟨kq,iq,kbq⟩:=key
  dsimp only[gName,List.set]
  have t11:=e11.tups ltD
  refine .inl ⟨_,rfl,_,rfl,(by show 0<=sizeLine;decide),fun t1 h1=>⟨(by show 2<=sizeLine;decide),fun t2 h2=>⟨(by show 0<=sizeLine;decide),fun t3 h3=>⟨(by show 2<=sizeLine;decide),fun t4 h4=>⟨(by show 4<=sizeLine;decide),fun l6 hl6=>?_⟩⟩⟩⟩⟩
  have s1:=(same_new h1 (.tup [])).trans (same_new h2 (.tup [.str "bag",.ref t1]))
  have s3:=(same_new h3 (.tup [])).trans (same_new h4 (.tup [.str "row",.ref t3]))
  have s6:=same_new hl6 (.lst [ux,ue,.ref t2,.ref t4])
  have sE:=(s1.trans s3).trans s6
  have v1:VAt _ ux:=⟨x,IsDt.mono (t11.trans sE.tups) ixD,bx7⟩
  have v2:VAt _ ue:=⟨e,IsDt.mono (t11.trans sE.tups) ieD,be⟩
  have v3:VAt (upd (upd (upd (upd (upd H11 t1 (.tup [])) t2 (.tup [.str "bag",.ref t1])) t3 (.tup [])) t4 (.tup [.str "row",.ref t3])) l6 (.lst [ux,ue,.ref t2,.ref t4])) (.ref t2):=⟨.bag [],IsDt.mono (s3.trans s6).tups (by rw[dat,datB];exact isDt_new h2 (.cons (isDt_str _) (.one (isDt_new h1 .nil)))),bd_bag0⟩
  have v4:VAt (upd (upd (upd (upd (upd H11 t1 (.tup [])) t2 (.tup [.str "bag",.ref t1])) t3 (.tup [])) t4 (.tup [.str "row",.ref t3])) l6 (.lst [ux,ue,.ref t2,.ref t4])) (.ref t4):=⟨.row [],IsDt.mono s6.tups (by rw[dat,datR];exact isDt_new h4 (.cons (isDt_str _) (.one (isDt_new h3 .nil)))),bd_row0⟩
  have iqE:=IsDt.mono (t11.trans sE.tups) iq
  have ltE:=lamT_same lt11 sE
  have eE:ExT T0 HD (upd (upd (upd (upd (upd H11 t1 (.tup [])) t2 (.tup [.str "bag",.ref t1])) t3 (.tup [])) t4 (.tup [.str "row",.ref t3])) l6 (.lst [ux,ue,.ref t2,.ref t4])):=fun b o nt q=>sE _ _ (e11 b o nt q)
  have hlE:(upd (upd (upd (upd (upd H11 t1 (.tup [])) t2 (.tup [.str "bag",.ref t1])) t3 (.tup [])) t4 (.tup [.str "row",.ref t3])) l6 (.lst [ux,ue,.ref t2,.ref t4])) l6=some (.lst [ux,ue,.ref t2,.ref t4]):=upd_same
  obtain⟨HE,eHE⟩:∃ HE,HE=upd (upd (upd (upd (upd H11 t1 (.tup [])) t2 (.tup [.str "bag",.ref t1])) t3 (.tup [])) t4 (.tup [.str "row",.ref t3])) l6 (.lst [ux,ue,.ref t2,.ref t4]):=⟨_,rfl⟩
  rw[<- eHE]at v1 v2 v3 v4 iqE ltE eE hlE ⊢
  clear eHE sE s6 s3 s1 hl6 h4 h3 h2 h1 t11 e11 lt11 iq
  have nTE:∀ {a:Addr}{xs:List V},HE a=some (.lst xs)->a≠T0:=fun q z=>by obtain⟨ps,e⟩:=lamT_tbl ltE;rw[z,e]at q;cases q
  refine for_list (xs:=[ux,ue,.ref t2,.ref t4]) (fun i σ H'=>ExT T0 HE H'/\LamT H' T0 lamQ lamN/\∃ o8 o9:Option V,σ=[some (.ref a),some (.int c),some (.ref p),some ux,some ue,some uk,some uo,some du,o8,o9]) ⟨fun _ _ _ q=>q,ltE,_,_,rfl⟩ ?stay ?step ?done
  case stay=>
   rintro i σ H' ⟨e,_⟩
   exact e _ _ (nTE hlE) hlE
  case done=>
   rintro σ H' ⟨e',lt',o8,o9,rfl⟩
   exact toE2 _ _ ⟨fun b o nt q=>e' b o nt (eE b o nt q),lt',_,_,_,rfl⟩
  case step=>
   rintro E3 j2 hj2 σ H12 ⟨e12,lt12,o8,o9,rfl⟩ toE3 rtE3
   have key:VAt HE (([ux,ue,.ref t2,.ref t4]:List V)[j2]):=by
    match j2,hj2 with
    | 0,_=>exact v1
    | 1,_=>exact v2
    | 2,_=>exact v3
    | 3,_=>exact v4
   generalize ([ux,ue,.ref t2,.ref t4]:List V)[j2]=on at key
   obtain⟨vo,io,bo⟩:=key
   dsimp only[gName,List.set]
   have t12:=e12.tups ltE
   refine seqH fun N9 to9=>⟨_,rfl,_,rfl,on,du,vo,kq,rfl,lt12,IsDt.mono t12 io,IsDt.mono t12 iqE,Nat.le_trans (bd_vz6 bo) (by decide),kb_kw11 kbq,fun H13 e13 lt13=>to9 _ _ ?_⟩
   have e03:ExT T0 HE H13:=fun b o nt q=>e13 b o nt (e12 b o nt q)
   have t13:=e03.tups ltE
   refine⟨_,rfl,_,_,_,rfl,.inr ⟨rfl,⟨_,rfl⟩,rfl⟩,_,rfl,iteF ⟨_,rfl,_,rfl,_,rfl,on,du,vo,kq,rfl,IsDt.mono t13 io,IsDt.mono t13 iqE,Nat.le_trans (bd_vz6 bo) (by decide),kb_kw11 kbq,fun H14 s14=>.inl ⟨rfl,_,rfl,iteN (by simp) (toE3 _ _ ?_)⟩⟩⟩
   exact⟨fun b o nt q=>s14 _ _ (e03 b o nt q),lamT_same lt13 s14,_,_,rfl⟩
end
end K09
end
section
namespace K09
open PySem L2 Kn
/-- a def that stands at the program's top -/
def DefAt (K:PySem.W.Frag) (x:Str) (st:Stmt):Prop:=∃ (f:Addr) (fd:FuncData),PySem.W.nsIn K mainGlobals x=some (some (.ref f))/\Fun K x x st f fd
theorem len_0 {us:List Value} (h:us.length=0):us=[]:=List.length_eq_zero_iff.mp h
theorem len_1 {us:List Value} (h:us.length=1):∃ a,us=[a]:=List.length_eq_one_iff.mp h
theorem len_2 {us:List Value} (h:us.length=2):∃ a b,us=[a,b]:=by
 cases us with
 | nil=>cases h
 | cons a t=>
  obtain⟨b,rfl⟩:=len_1 (us:=t) (by simpa using h)
  exact⟨a,b,rfl⟩
theorem len_3 {us:List Value} (h:us.length=3):∃ a b c,us=[a,b,c]:=by
 cases us with
 | nil=>cases h
 | cons a t=>
  obtain⟨b,c,rfl⟩:=len_2 (us:=t) (by simpa using h)
  exact⟨a,b,c,rfl⟩
theorem len_4 {us:List Value} (h:us.length=4):∃ a b c d,us=[a,b,c,d]:=by
 cases us with
 | nil=>cases h
 | cons a t=>
  obtain⟨b,c,d,rfl⟩:=len_3 (us:=t) (by simpa using h)
  exact⟨a,b,c,d,rfl⟩
theorem len_5 {us:List Value} (h:us.length=5):∃ a b c d e,us=[a,b,c,d,e]:=by
 cases us with
 | nil=>cases h
 | cons a t=>
  obtain⟨b,c,d,e,rfl⟩:=len_4 (us:=t) (by simpa using h)
  exact⟨a,b,c,d,e,rfl⟩
theorem defAt_mk {K:PySem.W.Frag}{x:Str}{st:Stmt}{f:Addr}{oc:Value}{od an:Option Addr}{osl:Array (Option Value)}{kV doc pm cdv ct:Value} (a:PySem.W.nsIn K mainGlobals x=some (some (.ref f)))
  (l:K.lookup f=some ⟨oc,od,.func (PySem.W.fnOf x x (defArgs st) (defBody st) (defScope st) .none kV doc pm an cdv ct),osl⟩) (c:PySem.W.codeIn K cdv x=true) (k:PySem.W.keepIn K (.ref f)=true):DefAt K x st:=⟨f,_,a,fun_mk l c k⟩
/-- a def that makes a function: its code,and the code's table at T0 -/
def MkAt (K:PySem.W.Frag) (x:Str) (st:Stmt) (T0:Addr):Prop:=∃ (f c:Addr) (fd:FuncData),PySem.W.nsIn K mainGlobals x=some (some (.ref f))/\Fun K x x st f fd/\fd.code=.ref c/\PySem.W.codeHdIn K c T0=true
theorem mkAt_mk {K:PySem.W.Frag}{x:Str}{st:Stmt}{f c T0:Addr}{oc:Value}{od an:Option Addr}{osl:Array (Option Value)}{kV doc pm ct:Value} (a:PySem.W.nsIn K mainGlobals x=some (some (.ref f)))
  (l:K.lookup f=some ⟨oc,od,.func (PySem.W.fnOf x x (defArgs st) (defBody st) (defScope st) .none kV doc pm an (.ref c) ct),osl⟩) (cd:PySem.W.codeIn K (.ref c) x=true) (k:PySem.W.keepIn K (.ref f)=true) (hd:PySem.W.codeHdIn K c T0=true):MkAt K x st T0:=⟨f,c,_,a,fun_mk l cd k,rfl,hd⟩
/-- the module of the built-in names -/
def BltAt (K:PySem.W.Frag) (T0:Addr):Prop:=∃ (bm:Addr) (ob:Obj),PySem.W.nsIn K mainGlobals "__builtins__"=some (some (.ref bm))/\K.lookup bm=some ob/\bm≠builtinsNs/\bm≠mainGlobals/\bm≠T0/\ob.cls=.type "module"/\ob.dict=some builtinsNs/\ob.data=.plain
theorem blt_mk {K:PySem.W.Frag}{T0 bm:Addr}{ob:Obj} (a:PySem.W.nsIn K mainGlobals "__builtins__"=some (some (.ref bm))) (l:K.lookup bm=some ob) (h1:bm≠builtinsNs) (h2:bm≠mainGlobals) (h3:bm≠T0) (h4:ob.cls=.type "module") (h5:ob.dict=some builtinsNs) (h6:ob.data=.plain):BltAt K T0:=⟨bm,ob,a,l,h1,h2,h3,h4,h5,h6⟩
theorem DefAt.df {K:PySem.W.Frag}{h:Heap}{mg:Str->Option Value}{x:Str}{st:Stmt} (d:DefAt K x st) (X:K.In h) (G:h.Ns mainGlobals mg) (ps:List Str) (b:∀ (kV doc pm:Value) (an:Option Addr) (cdv ct:Value) (us:List Value),us.length=ps.length->bindArgs (PySem.W.fnOf x x (defArgs st) (defBody st) (defScope st) .none kV doc pm an cdv ct) ⟨us,[]⟩=pure (ps.zip us)) :
  ∃ (f:Addr) (fd:FuncData),PySem.W.nsIn K mainGlobals x=some (some (.ref f))/\Df K mg x st f fd ps:=by
 obtain⟨f,fd,a,F⟩:=d
 exact⟨f,fd,a,F,F.binds b,PySem.W.mg_of X G a⟩
theorem all_mk {l:PySem.W.OpenLaw}{w:World}{K:PySem.W.Frag}{h:Heap}{mg:Str->Option Value}{fa T0:Addr} (X:K.In h) (G:h.Ns mainGlobals mg) (hfa:mg "law"=some (.ref fa)) (gT:mainGlobals≠T0)
  (Zbt:DefAt K "fields_of" (top 1)) (Zbu:DefAt K "fits" (top 3)) (Zbv:DefAt K "_law_cell_at" (top 5)) (Zbw:DefAt K "_law_deck" (top 6)) (Zbx:DefAt K "_law_next" (top 7)) (Zby:DefAt K "_law_far" (top 8)) (Zbz:DefAt K "_law_number" (top 9)) (ZbA:DefAt K "_law_name" (top 10)) (ZbB:DefAt K "_law_side" (top 11)) (ZbC:DefAt K "_law_pair_side" (top 12)) (ZbD:DefAt K "_law_bag" (top 13)) (ZbE:DefAt K "_law_row_parts" (top 14)) (ZbF:DefAt K "_law_count" (top 15)) (ZbG:DefAt K "_law_value" (top 16)) (ZbH:DefAt K "_law_kind" (top 17)) (ZbI:DefAt K "_law_kind_along" (top 18)) (ZbJ:DefAt K "_law_even_bags" (top 19)) (ZbK:DefAt K "_law_other_kind" (top 20)) (ZbL:DefAt K "_law_is_of" (top 21)) (ZbM:DefAt K "_law_other_part" (top 22)) (ZbN:DefAt K "_law_wide" (top 23)) (ZbO:DefAt K "_law_long_row" (top 24)) (ZbP:DefAt K "_law_chains" (top 25)) (ZbQ:DefAt K "_law_far_right" (top 26)) (ZbR:DefAt K "law" (top 27))
  (hI:MkAt K "is_of" (top 2) T0) (hB:BltAt K T0)
  (z1:PySem.W.nsIn K mainGlobals "len"=some none) (z2:PySem.W.nsIn K mainGlobals "int"=some none) (z3:PySem.W.nsIn K mainGlobals "tuple"=some none) (z4:PySem.W.nsIn K mainGlobals "range"=some none) (z5:PySem.W.nsIn K mainGlobals "isinstance"=some none) (z6:PySem.W.nsIn K mainGlobals "zip"=some none) (z7:PySem.W.nsIn K mainGlobals "sorted"=some none) (z8:PySem.W.nsIn K mainGlobals "abs"=some none) (z9:PySem.W.nsIn K mainGlobals "str"=some none) (z10:PySem.W.nsIn K mainGlobals "enumerate"=some none) (z11:PySem.W.nsIn K mainGlobals "dict"=some none) (z12:PySem.W.nsIn K mainGlobals "bool"=some none) :
  ∃ fd:FuncData,(∀ (s:Shared) (v:Value),BindsTo s fd ⟨[v],[]⟩ [("script",v)])/\∀ base:Heap,K.In base->base.Ns mainGlobals mg->FnOk l.prog w K mg base CX0 19 fa fd ["script"] (spLaw K T0):=by
 have T:Tx mg:=⟨PySem.W.mg_none_of X G z1,PySem.W.mg_none_of X G z2,PySem.W.mg_none_of X G z3,PySem.W.mg_none_of X G z4,PySem.W.mg_none_of X G z5,PySem.W.mg_none_of X G z6,PySem.W.mg_none_of X G z7,PySem.W.mg_none_of X G z8,PySem.W.mg_none_of X G z9,PySem.W.mg_none_of X G z10,PySem.W.mg_none_of X G z11,PySem.W.mg_none_of X G z12⟩
 obtain⟨ZbY,ZbZ,Zb0,Zav⟩:=Zbt.df X G ["row"] fun _ _ _ _ _ _ us hl=>by obtain⟨_,rfl⟩:=len_1 hl;rfl
 obtain⟨ZaV,ZaW,Zb1,ZaF⟩:=Zbu.df X G ["whole","kind","rows_of"] fun _ _ _ _ _ _ us hl=>by obtain⟨_,_,_,rfl⟩:=len_3 hl;rfl
 obtain⟨Zb2,Zb3,Zb4,Zaw⟩:=Zbv.df X G ["script","k"] fun _ _ _ _ _ _ us hl=>by obtain⟨_,_,rfl⟩:=len_2 hl;rfl
 obtain⟨Zb5,Zb6,Zb7,Zax⟩:=Zbw.df X G ["cell","room"] fun _ _ _ _ _ _ us hl=>by obtain⟨_,_,rfl⟩:=len_2 hl;rfl
 obtain⟨Zb8,Zb9,Zca,Zaa⟩:=Zbx.df X G ["deck","many"] fun _ _ _ _ _ _ us hl=>by obtain⟨_,_,rfl⟩:=len_2 hl;rfl
 obtain⟨Zcb,Zcc,Zcd,ZaE⟩:=Zby.df X G ["deck"] fun _ _ _ _ _ _ us hl=>by obtain⟨_,rfl⟩:=len_1 hl;rfl
 obtain⟨Zce,Zcf,Zcg,Zam⟩:=Zbz.df X G ["deck"] fun _ _ _ _ _ _ us hl=>by obtain⟨_,rfl⟩:=len_1 hl;rfl
 obtain⟨Zch,Zci,Zcj,Zac⟩:=ZbA.df X G ["deck"] fun _ _ _ _ _ _ us hl=>by obtain⟨_,rfl⟩:=len_1 hl;rfl
 obtain⟨Zck,Zcl,Zcm,Zag⟩:=ZbB.df X G ["one","other"] fun _ _ _ _ _ _ us hl=>by obtain⟨_,_,rfl⟩:=len_2 hl;rfl
 obtain⟨Zcn,Zco,Zcp,Zan⟩:=ZbC.df X G ["word","a","b"] fun _ _ _ _ _ _ us hl=>by obtain⟨_,_,_,rfl⟩:=len_3 hl;rfl
 obtain⟨Zcq,Zcr,Zcs,Zad⟩:=ZbD.df X G ["pairs"] fun _ _ _ _ _ _ us hl=>by obtain⟨_,rfl⟩:=len_1 hl;rfl
 obtain⟨Zct,Zcu,Zcv,Zat⟩:=ZbE.df X G ["deck","deep"] fun _ _ _ _ _ _ us hl=>by obtain⟨_,_,rfl⟩:=len_2 hl;rfl
 obtain⟨Zcw,Zcx,Zcy,Zas⟩:=ZbF.df X G ["deck"] fun _ _ _ _ _ _ us hl=>by obtain⟨_,rfl⟩:=len_1 hl;rfl
 obtain⟨Zcz,ZcA,ZcB,Zaj⟩:=ZbG.df X G ["deck","deep"] fun _ _ _ _ _ _ us hl=>by obtain⟨_,_,rfl⟩:=len_2 hl;rfl
 obtain⟨ZcC,ZcD,ZcE,Zae⟩:=ZbH.df X G ["deck","deep"] fun _ _ _ _ _ _ us hl=>by obtain⟨_,_,rfl⟩:=len_2 hl;rfl
 obtain⟨ZcF,ZcG,ZcH,Zaf⟩:=ZbI.df X G ["value","deck"] fun _ _ _ _ _ _ us hl=>by obtain⟨_,_,rfl⟩:=len_2 hl;rfl
 obtain⟨ZcI,ZcJ,ZcK,Zak⟩:=ZbJ.df X G ["value","deck"] fun _ _ _ _ _ _ us hl=>by obtain⟨_,_,rfl⟩:=len_2 hl;rfl
 obtain⟨ZcL,ZcM,ZcN,Zal⟩:=ZbK.df X G ["kind","deck"] fun _ _ _ _ _ _ us hl=>by obtain⟨_,_,rfl⟩:=len_2 hl;rfl
 obtain⟨ZcO,ZcP,ZcQ,Zah⟩:=ZbL.df X G ["value","kind"] fun _ _ _ _ _ _ us hl=>by obtain⟨_,_,rfl⟩:=len_2 hl;rfl
 obtain⟨ZcR,ZcS,ZcT,Zaq⟩:=ZbM.df X G ["deck","field","part"] fun _ _ _ _ _ _ us hl=>by obtain⟨_,_,_,rfl⟩:=len_3 hl;rfl
 obtain⟨ZcU,ZcV,ZcW,ZaI⟩:=ZbN.df X G ["deck"] fun _ _ _ _ _ _ us hl=>by obtain⟨_,rfl⟩:=len_1 hl;rfl
 obtain⟨ZcX,ZcY,ZcZ,ZaJ⟩:=ZbO.df X G ["deck"] fun _ _ _ _ _ _ us hl=>by obtain⟨_,rfl⟩:=len_1 hl;rfl
 obtain⟨Zc0,Zc1,Zc2,ZaK⟩:=ZbP.df X G ["deck"] fun _ _ _ _ _ _ us hl=>by obtain⟨_,rfl⟩:=len_1 hl;rfl
 obtain⟨Zc3,Zc4,Zc5,ZaL⟩:=ZbQ.df X G ["deck"] fun _ _ _ _ _ _ us hl=>by obtain⟨_,rfl⟩:=len_1 hl;rfl
 obtain⟨ZbS,c_is_of,ZbT,ZbU,Zbf,ec,hcd⟩:=hI
 have Zao:Df K mg "is_of" (top 2) ZbS ZbT ["value","kind"]:=⟨Zbf,Zbf.binds (ps:=["value","kind"]) fun _ _ _ _ _ _ us hl=>by obtain⟨_,_,rfl⟩:=len_2 hl;rfl,PySem.W.mg_of X G ZbU⟩
 obtain⟨bm,ob,b1,b2,b3,b4,b5,b6,b7,b8⟩:=hB
 have LM:LmK K mg c_is_of T0:=⟨hcd,⟨bm,ob,PySem.W.mg_of X G b1,b2,b3,b4,b5,b6,b7,b8⟩,gT⟩
 obtain⟨Zc6,Zbg,ZbV,Za7⟩:=ZbR
 have e:=hfa.symm.trans (PySem.W.mg_of X G ZbV)
 cases e
 have ZbW:Df K mg "law" (top 27) fa Zbg ["script"]:=⟨Za7,Za7.binds (ps:=["script"]) fun _ _ _ _ _ _ us hl=>by obtain⟨_,rfl⟩:=len_1 hl;rfl,hfa⟩
 refine⟨Zbg,?_,fun base _ _=>?_⟩
 ·obtain⟨oc,od,kV,doc,pm,an,cdv,ct,osl,rfl,lk,hcd⟩:=Za7.ex
  exact fun s v=>.of_eq rfl
 have g_cell:=ok_cell (P:=l.prog) (w:=w) (base:=base) T Zaw
 have g_deck:=ok_deck (P:=l.prog) (w:=w) (base:=base) T Zax
 have g_next:=ok_next (P:=l.prog) (w:=w) (base:=base) T Zaa
 have g_name:=ok_name T Zac Zaa g_next
 have g_far:=ok_far T ZaE Zaa g_next
 have g_number:=ok_number T Zam Zaa g_next ZaE g_far
 have g_count:=ok_count T Zas Zaa g_next Zam g_number
 have g_value:=value_all T Zaj Zaa g_next Zac g_name Zam g_number Zas g_count Zat Zad Zag Zan 6 (by decide)
 have g_fields:=ok_fields (P:=l.prog) (w:=w) (base:=base) T Zav
 have ZbX:=ok_fits T ZaF Zav g_fields
 have g_isof:=ok_isOf LM Zao ec ZaF ZbX
 have g_is:=ok_lawIs (P:=l.prog) (w:=w) (base:=base) T Zah
 have g_kind:=kind_all T Zae Zaa g_next Zac g_name
 have g_along:=along_all T Zaf Zaa g_next Zae (g_kind 2 (by decide)) 6 (by decide)
 have g_even:=even_all T Zak Zaa g_next Zae (g_kind 2 (by decide)) Zaf Zad Zag Zan Zah g_is 6 (by decide)
 have g_other:=otherK_all T Zal Zaa g_next Zac g_name 9 (by decide)
 have g_part:=ok_other T Zaq Zaa g_next
 have g_bag1:=ok_bag (k:=3) T Zad Zag (side_all (P:=l.prog) (w:=w) (base:=base) T Zag Zan 1)
 have g_bag6:=ok_bag (k:=13) T Zad Zag (side_all (P:=l.prog) (w:=w) (base:=base) T Zag Zan 6)
 have g_wide:=ok_wide (k:=4) (by decide) T ZaI Zaa g_next Zad g_bag1 Zaq g_part
 have g_long:=ok_long T ZaJ Zaa g_next Zaq g_part
 have g_chains:=ok_chains T ZaK Zaa g_next Zac g_name
 have g_farR:=ok_farR (k:=5) (by decide) T ZaL ZaI g_wide ZaJ g_long ZaK g_chains Zao g_isof Zah g_is
 exact ok_law T ZbW Zaw g_cell Zax g_deck ZaL g_farR Zaj g_value Zak g_even Zaf g_along Zal g_other Zae (g_kind 4 (by decide)) Zao g_isof Zah g_is Zad g_bag6
theorem walk {l:PySem.W.OpenLaw}{q:Program}{loose:List Str}{XP:(Str->Option Value)->Heap->Prop}{YP:World->Heap->Prop}{d:DefRec}{K:Params->PySem.W.Frag}{T0:Addr} (hn:l.most=some 63) (hdf:d.params.defaults=[])
  (hY:∀ (w:World) (h:Heap),YP w h->(K w.params).In h/\∀ P∈[T0],h.get? P=some (PySem.W.tabObj #[]))
  (hKT:∀ (w:World),∀ P∈[T0],(K w.params).lookup P=none/\∃ c,PySem.W.codeHdIn (K w.params) c P=true)
  (F:∀ (w:World) (mg:Str->Option Value) (fa:Addr) (h:Heap),(K w.params).In h->h.Ns mainGlobals mg->mg d.name=some (.ref fa) ->
   ∃ fd:FuncData,(∀ (s:Shared) (u:Value),BindsTo s fd ⟨[u],[]⟩ [("script",u)])/\∀ base:Heap,(K w.params).In base->base.Ns mainGlobals mg->FnOk l.prog w (K w.params) mg base CX0 19 fa fd ["script"] (spLaw (K w.params) T0)) :
  PySem.W.WalkO q loose XP YP l.row.toRowW d [] (fun f vs=>PySem.call f vs):=
 L2.walk_ofT (n:=63) (k:=19) (x:="script") (ts:=[T0]) (CX:=fun _=>CX0) (sp:=fun w=>spLaw (K w.params) T0) hn (by decide) hdf ⟨rfl,by decide,by decide⟩ hY hKT F (fun _ _ a ns hl hO hS=>⟨a,ns,rfl,hS,hl,.inl (hO.1 T0 List.mem_cons_self),fun _=>rfl⟩) fun _ _ _ _ _ z=>z
end K09
open PySem PySem.W PyProof.Rows
set_option maxRecDepth 100000 in
set_option maxHeartbeats 0 in
theorem PySem.Challenge.cw_keptnest_k09_is_of_holds : PySem.Challenge.rw_keptnest_k09_is_of.Holds := by
 w_on
 refine PySem.W.holds_law K09.zS fun said=>?_
 refine PySem.W.holds_open (q:=K09.zV) (loose:=K09.zL) (Xt:=fun s=>PySem.W.xlAt K09.zV [] s && PySem.W.recOk (PySem.W.RowW.records (PySem.W.OpenRow.toRowW PySem.Challenge.rw_keptnest_k09_is_of.row)) s) (XP:=PySem.W.XL K09.zV []) (Yf:=PySem.W.Hook.obs (PySem.W.kmHook K09.zK K09.zA K09.zE K09.zTs)) (Ya:=PySem.W.Hook.val (PySem.W.kmHook K09.zK K09.zA K09.zE K09.zTs)) (YP:=PySem.W.Hook.says (PySem.W.kmHook K09.zK K09.zA K09.zE K09.zTs)) (N:=1700) (Hq.left_two "special-get-raises" K09.zR_false K09.zR_true) (PySem.W.Hook.of _) (PySem.W.Hook.keeps _) (fun s e=>PySem.W.xl_of s (Bool.and_eq_true_iff.mp e).1) PySem.W.XL.keeps (by rfl) (by rfl) (by rfl) (fun s e=>PySem.W.recFacts_of (Bool.and_eq_true_iff.mp e).2) (by rfl) (by first | assumption | decide +kernel) (by decide +kernel) ⟨rfl,rfl,rfl,rfl,rfl,by decide +kernel⟩ ?hw ?hc
 case hw=>w_witness2
 k_fill
 refine K09.walk (l:=PySem.Challenge.rw_keptnest_k09_is_of) (T0:=21) rfl rfl (fun w h Y=>⟨PySem.W.km_in_of Y,PySem.W.km_tabs_of Y⟩) ?KT ?F
 case KT=>
  intro w P hP
  cases List.mem_singleton.mp hP
  exact⟨by kernel_rfl,25,by kernel_rfl⟩
 case F=>
  intro w mg fa h KX G hmg
  refine' K09.all_mk KX G hmg (by decide) ?_ ?_ ?_ ?_ ?_ ?_ ?_ ?_ ?_ ?_ ?_ ?_ ?_ ?_ ?_ ?_ ?_ ?_ ?_ ?_ ?_ ?_ ?_ ?_ ?_ ?hI ?hB ?z1 ?z2 ?z3 ?z4 ?z5 ?z6 ?z7 ?z8 ?z9 ?z10 ?z11 ?z12
  iterate 25 (focus (refine' K09.defAt_mk ?_ ?_ ?_ ?_;any_goals k_is))
  case hI=>refine' K09.mkAt_mk ?a ?l ?c ?k ?d;(case a=>k_is);(case l=>k_is);(case c=>k_is);(case k=>k_is);(case d=>kernel_rfl)
  case hB=>refine' K09.blt_mk ?a ?l ?h1 ?h2 ?h3 ?h4 ?h5 ?h6;(case a=>k_is);(case l=>k_is);(case h1=>decide);(case h2=>decide);(case h3=>decide);(case h4=>rfl);(case h5=>rfl);(case h6=>rfl)
  (case z1=>k_is);(case z2=>k_is);(case z3=>k_is);(case z4=>k_is);(case z5=>k_is);(case z6=>k_is);(case z7=>k_is);(case z8=>k_is);(case z9=>k_is);(case z10=>k_is);(case z11=>k_is);(case z12=>k_is)
#print axioms PySem.Challenge.cw_keptnest_k09_is_of_holds
end
