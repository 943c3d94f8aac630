import PyProof.Rows.All
import Wide.All
import OpenK.AllK
import Wide.FinOn
import PySem.Challenge.RW_keptnest_k97_whole_alternating_sums
import Lean
import PyProof.EqAt
import PyProof.EqKinds
import PyProof.TupleCall
import PyProof.ZipIter
import PyProof.NeKinds
import PyProof.Draws
import KE.KRevIter
import PyProof.SeqI3
import KE.KUnpack
import KE.KTupSum
import PyProof.ConsumeS
import PyProof.AutoSeq1
import PyProof.AttrMissHeap
import KE.KItemsList
import KE.KDictOf
import PyProof.Rows.SortStr
import PyProof.Rows.SetFrom
import KE.KPairComp
import KE.KSortAsk
import KE.KSortTup
import PyProof.ListIndex
import KE.KNestM
import KE.KLam
import KE.KNest
set_option Elab.async false
set_option linter.all false
set_option maxRecDepth 100000
set_option maxHeartbeats 4000000
open PySem renaming wpAny_bind->Y4,wpAny_pure->Y',wpAny_holding->ZP,wpAny_call_entry->ZW,wpAny_newObj_type->Z5,wpAny_Call_Name_kw->Z7,wpAny_setState_of->aaa,builtinLookup_eq_fast->aab,codeAny_builtin->aap,wpAny_callSpecial?_slot->aay,plainId_quiet->aaz,codeAny_mono->aaJ,wpAny_rule->aaR,wpAny_ite_split->aaS,typeLookup_type->aaT,sizeLine_eq->aaX,wpAny_mono->aa1,isSubtype_type->aa2,wpAny_passesOwn->aa8
open List renaming getElem?_eq_getElem->Y5,length_map->Y6,mem_cons_self->Za,size_toArray->Zb,mem_cons_of_mem->Zc,length_cons->Zg,map_cons->Zh,length_append->Zi,append_assoc->Zl,getD_eq_getElem?_getD->Zm,getElem?_map->Zr,map_append->Zt,append_nil->Zu,getElem?_append_right->Zy,drop_eq_getElem_cons->Zz,take_append_drop->ZA,not_mem_nil->ZF,mem_append_left->ZG,getElem?_append_left->ZH,range->ZL,mem_cons->ZN,pairwise_singleton->ZT,lookup_cons->ZU,take_add_one->ZV,length_range->Z1,mem_of_getElem?->Z4,map_map->Z6,getElem_mem->Z8,cons_append->Z9,map_nil->Z',zip_cons_cons->aad,mem_of_mem_take->aah,map_congr_left->aak,nil_append->aaw,getElem_of_mem->aax,drop_of_length_le->aaA,any_cons->aaF,length->aaI,mem_of_mem_drop->aaK,reverse_cons->aaM,length_take->aaU,perm_append_comm->aa3,of_mem_zip->aa4,mem_append->aa5,take_length->aba,reverse_append->abc
open PySem.Heap renaming get?_push_of_some->Y7,get?_push_size->Ze,lt_size->Zv,size_push->ZZ,get?_update_self->aaG,SameBut->aaN,get?_update_other->aaW
open Nat renaming le_refl->Y8,le_trans->Y9,lt_of_le_of_lt->Zd,zero_le->Zj,lt_of_lt_of_le->Zq,ne_of_lt->Zw,pow_le_pow_right->Zx,mul_le_mul_right->ZE,le_max_left->ZI,le_max_right->ZQ,le_add_right->Z0,le_succ->aag,le_of_lt->aaj,lt_irrefl->aar,lt_succ_of_lt->aat,le_of_succ_le_succ->aaB,lt_trans->aaQ,lt_succ_self->aaV
open Bool renaming and_eq_true->Zf,false_ne_true->ZY,eq_iff_iff->aal,false_eq_true->aam,noConfusion->abb
open PyProof.Rows renaming wpS_bind->Zk,wpS_pure->Zs,wpS_forRange->Z2,slot_tuple_getitem->aaD,wpS_mono->aaO,callWith_type1->aaP,mirror_perm->aa9
open Array renaming length_toList->Zn,getElem_toList->Zo,getElem?_eq_getElem->Zp,toList_append->ZD,getElem?_toList->ZS,toList_push->aas,getD_eq_getD_getElem?->aav,getElem_extract->aa0,toList_reverse->aa7
open Option.some renaming inj->ZJ,injEq->aaf
open Option renaming some_ne_none->ZK
open PySem.Obj renaming mapSeq->ZM
open Ne renaming symm->ZO
open List.Perm renaming append_left->ZR
open Int renaming le_refl->ZX,toNat_natCast->aau
open PySem.Around renaming under_plainId->Z3
open PySem.Value renaming none->aac,ref->aaq
open Sum renaming inr->aae
open List.Pairwise renaming sublist->aai
open PySem.Heap.SameBut renaming update->aan
open PySem.AutoSeq1 renaming wpAny_loadPart'->aao
open PySem.NameKind renaming free->aaC
open PySem.Builtin.List renaming listTooLong->aaE
open ForInStep renaming yield->aaH
open Classical renaming propDecidable->aaL
open Sum.inr renaming inj->aaY
open PySem.Builtin.Slice renaming slicePlaces->aaZ
open PySem.Builtin.Tuple renaming tupleExact->aa6
open PySem.Calls renaming call_function_entry->aa'
section
namespace Hq
open PySem PySem.W
def vS(s:PySem.Str)(n:Tok):Value:=.str s n
def vI(i:Int)(n:Tok):Value:=.int i n
def vR(a:Addr):Value:=.ref a
def vN:Value:=.none
def Ww(s:String):PySem.Str:=PySem.Str.ofString s
def eN(P:Params)(k:PySem.Str)(n:Tok)(v:Value):DictEntry:=⟨PyData.keyHash P k,.str k n,v⟩
def Xl(s:Stmt):Arguments:=match s with
 |.FunctionDef _ a _ _ _ _ _ _ _ _=>a
 |_=>{ posonlyargs:=[],args:=[],vararg:=none,kwonlyargs:=[],kw_defaults:=[],kwarg:=none,defaults:=[] }
def dB(s:Stmt):List Stmt:=match s with
 |.FunctionDef _ _ b _ _ _ _ _ _ _=>b
 |_=>[]
def Xm(s:Stmt):Scope:=match s with
 |.FunctionDef _ _ _ _ _ _ sc _ _ _=>sc
 |_=>{ kind:=.function,names:=[],isGenerator:=false,isCoroutine:=false }
def Xn(s:Stmt):List Stmt:=match s with
 |.ClassDef _ _ _ b _ _ _ _ _ _ _=>b
 |_=>[]
def fO(nm qual:PySem.Str)(st:Stmt)(m cd:Value):Obj:={ cls:=.type "function",data:=.func (PySem.W.fnOf nm qual (Xl st) (dB st) (Xm st) .none .none .none m none cd .none) }
def lA(p q:Program)(loose:List PySem.Str)(Xt:Shared->Bool){α:Type}(Yf:Shared->α)(Ya:World->α)(N:Nat)(row:String)(b:Bool):Prop:=
 ∀w:World,(fencedOpening treeTable p w N).map (λs₀=>(topFrom treeTable p (w.withFollow row b) N s₀).map λs=>(openSeen q loose (importedModules p.main.body) Xt true s,Yf s))=some (some (openGood q loose,Ya (w.withFollow row b)))
theorem left_two{p q:Program}{loose:List PySem.Str}{Xt:Shared->Bool}{α:Type}{Yf:Shared->α}{Ya:World->α}{N:Nat}(row:String)(h0:lA p q loose Xt Yf Ya N row false)(h1:lA p q loose Xt Yf Ya N row true):LeftO p q loose Xt Yf Ya N:=λw=>by
 obtain⟨s₀,a,b1⟩:=Option.map_eq_some_iff.mp (h0 w);obtain⟨s₁,Vc,b2⟩:=Option.map_eq_some_iff.mp (h1 w);rw[a]at Vc;cases Vc;have e:=World.withFollow_self w row;unfold openEnds;rw[a];cases hb:w.params.followText row <;> rw[hb]at e
 ·rw[e]at b1;exact b1
 ·rw[e]at b2;exact b2
end Hq
end
section
set_option maxHeartbeats 0
namespace K97
open PySem Hq
def zT(i:Nat):Stmt:=PySem.Challenge.pw_keptnest_k97_whole_alternating_sums.main.body.getD i (.Pass ⟨0,0,0,0⟩)
def zM(i j:Nat):Stmt:=(Xn (zT i)).getD j (.Pass ⟨0,0,0,0⟩)
def zC(a b:PySem.Str)(t:Nat)(l n:Int)(c r:Addr)(x y z:Value)(s:Addr)(e:Nat):Obj:={ cls:=PySem.Value.type "code",data:=PySem.Data.fields #[vS a t,vS b (t+1),vS "/claim/cut.py" (t+2),vI l 0,vI n 0,vI 0 0,vI 0 0,vI 3 0,vR c,PySem.Value.bool Bool.true,vI 181 0,vR r,x,y,z,vR s,vI e 0,vI l 0,vS "/claim/cut.py" (e+1)] }
def zK(P:Params):PySem.W.Frag:=(nat_lit 3,{ cls:=PySem.Value.type "dict",data:=PySem.Data.dict #[eN P "__name__" 165 (vS "law_keptnest_k97_whole_alternating_sums" 332),eN P "__doc__" 166 (vN),eN P "__package__" 167 (vN),eN P "__loader__" 168 (PySem.Value.builtin "__main__.__loader__#opaque"),eN P "__spec__" 169 (vN),eN P "__annotations__" 170 (vR 6),eN P "__builtins__" 171 (vR 4),eN P "__file__" 173 (vS "/claim/cut.py" 172),eN P "__cached__" 174 (vN),eN P "HAVE_MORE" 198 (vR 15),eN P "under" 204 (vR 20),eN P "knots" 214 (vR 27),eN P "tables" 220 (vR 32),eN P "Walk" 285 (vR 75),eN P "folded" 294 (vR 86),eN P "unfold" 304 (vR 93),eN P "fold" 313 (vR 100),eN P "is_even" 321 (vR 105),eN P "degree" 331 (vR 112),eN P "_law_cell_at" 341 (vR 119),eN P "_law_seed" 349 (vR 126),eN P "_law_draw" 359 (vR 133),eN P "_law_key" 365 (vR 138),eN P "_law_bag" 371 (vR 143),eN P "_law_add" 382 (vR 150),eN P "_law_truth" 394 (vR 157),eN P "_law_bound" 408 (vR 164),eN P "_law_answer" 414 (vR 169),eN P "_law_value" 420 (vR 174),eN P "_law_kinds" 428 (vR 181),eN P "_law_store" 438 (vR 188),eN P "_law_seen" 448 (vR 195),eN P "_law_held" 454 (vR 200),eN P "_law_small" 460 (vR 205),eN P "_law_claim" 473 (vR 212),eN P "_law_over" 479 (vR 217),eN P "_law_taken" 485 (vR 222),eN P "_law_asked" 491 (vR 227),eN P "_law_change" 503 (vR 234),eN P "_law_with" 514 (vR 241),eN P "_law_under" 525 (vR 248),eN P "_law_stock" 535 (vR 255),eN P "_law_names" 545 (vR 262),eN P "_law_question" 554 (vR 269),eN P "_law_first_even" 565 (vR 276),eN P "law" 571 (vR 281)] 46 }) ::
 (nat_lit 4,{ cls:=PySem.Value.type "module",data:=PySem.Data.plain,dict:=some 0 }) ::
 (nat_lit 15,{ cls:=PySem.Value.type "tuple",data:=PySem.Data.seq #[vS "num" 189,vS "word" 190,vS "var" 191,vS "table" 192,vS "none" 193,vS "at" 194,vS "times" 195,vS "for" 196,vS "let" 197] }) ::
 (nat_lit 19,zC "under" "under" 199 3 1 16 17 vN vN vN 18 202) ::
 (nat_lit 20,fO "under" "under" (zT 2) (vS "keptnest.asks.questions" 187) (vR 19)) ::
 (nat_lit 26,zC "knots" "knots" 205 7 1 21 22 vN (vR 23) (vR 24) 25 212) ::
 (nat_lit 27,fO "knots" "knots" (zT 3) (vS "keptnest.asks.questions" 187) (vR 26)) ::
 (nat_lit 31,zC "tables" "tables" 215 15 1 28 29 vN vN vN 30 218) ::
 (nat_lit 32,fO "tables" "tables" (zT 4) (vS "keptnest.asks.questions" 187) (vR 31)) ::
 (nat_lit 45,zC "__init__" "Walk.__init__" 235 20 1 40 41 vN (vR 42) (vR 43) 44 239) ::
 (nat_lit 46,fO "__init__" "Walk.__init__" (zM 6 0) (vS "keptnest.asks.walks" 221) (vR 45)) ::
 (nat_lit 52,zC "later" "Walk.later" 242 24 4 47 48 vN (vR 49) (vR 50) 51 249) ::
 (nat_lit 53,fO "later" "Walk.later" (zM 6 1) (vS "keptnest.asks.walks" 221) (vR 52)) ::
 (nat_lit 59,zC "tell" "Walk.tell" 252 27 2 54 55 vN (vR 56) (vR 57) 58 257) ::
 (nat_lit 60,fO "tell" "Walk.tell" (zM 6 2) (vS "keptnest.asks.walks" 221) (vR 59)) ::
 (nat_lit 64,zC "take" "Walk.take" 260 30 2 61 62 vN vN vN 63 263) ::
 (nat_lit 65,fO "take" "Walk.take" (zM 6 3) (vS "keptnest.asks.walks" 221) (vR 64)) ::
 (nat_lit 71,zC "run" "Walk.run" 266 34 1 66 67 vN (vR 68) (vR 69) 70 273) ::
 (nat_lit 72,fO "run" "Walk.run" (zM 6 4) (vS "keptnest.asks.walks" 221) (vR 71)) ::
 (nat_lit 74,{ cls:=PySem.Value.type "dict",data:=PySem.Data.dict #[eN P "__module__" 230 (vS "keptnest.asks.walks" 221),eN P "__firstlineno__" 234 (vI 18 233),eN P "__init__" 241 (vR 46),eN P "later" 251 (vR 53),eN P "tell" 259 (vR 60),eN P "take" 265 (vR 65),eN P "run" 275 (vR 72),eN P "__static_attributes__" 278 (vR 73),eN P "__dict__" 280 (vR 76),eN P "__weakref__" 282 (vR 77),eN P "__doc__" 283 (vN)] 4 }) ::
 (nat_lit 75,{ cls:=PySem.Value.type "type",data:=PySem.Data.cls { name:=Ww "Walk",bases:=[PySem.Value.type "object"],mro:=[vR 75,PySem.Value.type "object"],ns:=74,qualname:=Ww "Walk" },slots:=#[Option.none,Option.none,Option.some (vS "Walk" 223),Option.some (vS "Walk" 231),Option.some (PySem.Value.builtin "object.__new__"),Option.some (PySem.Value.bool Bool.true)] }) ::
 (nat_lit 85,zC "folded" "folded" 286 39 2 80 81 vN (vR 82) (vR 83) 84 292) ::
 (nat_lit 86,fO "folded" "folded" (zT 7) (vS "keptnest.asks.walks" 221) (vR 85)) ::
 (nat_lit 92,zC "unfold" "unfold" 295 43 3 87 88 vN (vR 89) (vR 90) 91 302) ::
 (nat_lit 93,fO "unfold" "unfold" (zT 8) (vS "keptnest.asks.walks" 221) (vR 92)) ::
 (nat_lit 99,zC "fold" "fold" 305 47 3 94 95 vN (vR 96) (vR 97) 98 311) ::
 (nat_lit 100,fO "fold" "fold" (zT 9) (vS "keptnest.asks.walks" 221) (vR 99)) ::
 (nat_lit 104,zC "is_even" "is_even" 316 50 1 101 102 vN vN vN 103 319) ::
 (nat_lit 105,fO "is_even" "is_even" (zT 11) (vS "keptnest.changes.degrees" 314) (vR 104)) ::
 (nat_lit 111,zC "degree" "degree" 322 53 2 106 107 vN (vR 108) (vR 109) 110 329) ::
 (nat_lit 112,fO "degree" "degree" (zT 12) (vS "keptnest.changes.degrees" 314) (vR 111)) ::
 (nat_lit 118,zC "_law_cell_at" "_law_cell_at" 334 68 2 113 114 vN (vR 115) (vR 116) 117 339) ::
 (nat_lit 119,fO "_law_cell_at" "_law_cell_at" (zT 14) (vS "law_keptnest_k97_whole_alternating_sums" 332) (vR 118)) ::
 (nat_lit 125,zC "_law_seed" "_law_seed" 342 72 1 120 121 vN (vR 122) (vR 123) 124 347) ::
 (nat_lit 126,fO "_law_seed" "_law_seed" (zT 15) (vS "law_keptnest_k97_whole_alternating_sums" 332) (vR 125)) ::
 (nat_lit 132,zC "_law_draw" "_law_draw" 350 75 2 127 128 vN (vR 129) (vR 130) 131 357) ::
 (nat_lit 133,fO "_law_draw" "_law_draw" (zT 16) (vS "law_keptnest_k97_whole_alternating_sums" 332) (vR 132)) ::
 (nat_lit 137,zC "_law_key" "_law_key" 360 84 1 134 135 vN vN vN 136 363) ::
 (nat_lit 138,fO "_law_key" "_law_key" (zT 17) (vS "law_keptnest_k97_whole_alternating_sums" 332) (vR 137)) ::
 (nat_lit 142,zC "_law_bag" "_law_bag" 366 90 1 139 140 vN vN vN 141 369) ::
 (nat_lit 143,fO "_law_bag" "_law_bag" (zT 18) (vS "law_keptnest_k97_whole_alternating_sums" 332) (vR 142)) ::
 (nat_lit 149,zC "_law_add" "_law_add" 372 97 3 144 145 vN (vR 146) (vR 147) 148 380) ::
 (nat_lit 150,fO "_law_add" "_law_add" (zT 19) (vS "law_keptnest_k97_whole_alternating_sums" 332) (vR 149)) ::
 (nat_lit 156,zC "_law_truth" "_law_truth" 383 100 3 151 152 vN (vR 153) (vR 154) 155 392) ::
 (nat_lit 157,fO "_law_truth" "_law_truth" (zT 20) (vS "law_keptnest_k97_whole_alternating_sums" 332) (vR 156)) ::
 (nat_lit 163,zC "_law_bound" "_law_bound" 395 113 3 158 159 vN (vR 160) (vR 161) 162 406) ::
 (nat_lit 164,fO "_law_bound" "_law_bound" (zT 21) (vS "law_keptnest_k97_whole_alternating_sums" 332) (vR 163)) ::
 (nat_lit 168,zC "_law_answer" "_law_answer" 409 124 3 165 166 vN vN vN 167 412) ::
 (nat_lit 169,fO "_law_answer" "_law_answer" (zT 22) (vS "law_keptnest_k97_whole_alternating_sums" 332) (vR 168)) ::
 (nat_lit 173,zC "_law_value" "_law_value" 415 153 3 170 171 vN vN vN 172 418) ::
 (nat_lit 174,fO "_law_value" "_law_value" (zT 23) (vS "law_keptnest_k97_whole_alternating_sums" 332) (vR 173)) ::
 (nat_lit 180,zC "_law_kinds" "_law_kinds" 421 166 0 175 176 vN (vR 177) (vR 178) 179 426) ::
 (nat_lit 181,fO "_law_kinds" "_law_kinds" (zT 24) (vS "law_keptnest_k97_whole_alternating_sums" 332) (vR 180)) ::
 (nat_lit 187,zC "_law_store" "_law_store" 429 170 1 182 183 vN (vR 184) (vR 185) 186 436) ::
 (nat_lit 188,fO "_law_store" "_law_store" (zT 25) (vS "law_keptnest_k97_whole_alternating_sums" 332) (vR 187)) ::
 (nat_lit 194,zC "_law_seen" "_law_seen" 439 176 1 189 190 vN (vR 191) (vR 192) 193 446) ::
 (nat_lit 195,fO "_law_seen" "_law_seen" (zT 26) (vS "law_keptnest_k97_whole_alternating_sums" 332) (vR 194)) ::
 (nat_lit 199,zC "_law_held" "_law_held" 449 182 2 196 197 vN vN vN 198 452) ::
 (nat_lit 200,fO "_law_held" "_law_held" (zT 27) (vS "law_keptnest_k97_whole_alternating_sums" 332) (vR 199)) ::
 (nat_lit 204,zC "_law_small" "_law_small" 455 190 4 201 202 vN vN vN 203 458) ::
 (nat_lit 205,fO "_law_small" "_law_small" (zT 28) (vS "law_keptnest_k97_whole_alternating_sums" 332) (vR 204)) ::
 (nat_lit 211,zC "_law_claim" "_law_claim" 461 202 3 206 207 vN (vR 208) (vR 209) 210 471) ::
 (nat_lit 212,fO "_law_claim" "_law_claim" (zT 29) (vS "law_keptnest_k97_whole_alternating_sums" 332) (vR 211)) ::
 (nat_lit 216,zC "_law_over" "_law_over" 474 215 3 213 214 vN vN vN 215 477) ::
 (nat_lit 217,fO "_law_over" "_law_over" (zT 30) (vS "law_keptnest_k97_whole_alternating_sums" 332) (vR 216)) ::
 (nat_lit 221,zC "_law_taken" "_law_taken" 480 228 4 218 219 vN vN vN 220 483) ::
 (nat_lit 222,fO "_law_taken" "_law_taken" (zT 31) (vS "law_keptnest_k97_whole_alternating_sums" 332) (vR 221)) ::
 (nat_lit 226,zC "_law_asked" "_law_asked" 486 234 4 223 224 vN vN vN 225 489) ::
 (nat_lit 227,fO "_law_asked" "_law_asked" (zT 32) (vS "law_keptnest_k97_whole_alternating_sums" 332) (vR 226)) ::
 (nat_lit 233,zC "_law_change" "_law_change" 492 265 3 228 229 vN (vR 230) (vR 231) 232 501) ::
 (nat_lit 234,fO "_law_change" "_law_change" (zT 33) (vS "law_keptnest_k97_whole_alternating_sums" 332) (vR 233)) ::
 (nat_lit 240,zC "_law_with" "_law_with" 504 274 2 235 236 vN (vR 237) (vR 238) 239 512) ::
 (nat_lit 241,fO "_law_with" "_law_with" (zT 34) (vS "law_keptnest_k97_whole_alternating_sums" 332) (vR 240)) ::
 (nat_lit 261,zC "_law_names" "_law_names" 536 293 2 256 257 vN (vR 258) (vR 259) 260 543) ::
 (nat_lit 262,fO "_law_names" "_law_names" (zT 37) (vS "law_keptnest_k97_whole_alternating_sums" 332) (vR 261)) ::
 (nat_lit 275,zC "_law_first_even" "_law_first_even" 555 303 1 270 271 vN (vR 272) (vR 273) 274 563) ::
 (nat_lit 276,fO "_law_first_even" "_law_first_even" (zT 39) (vS "law_keptnest_k97_whole_alternating_sums" 332) (vR 275)) ::
 (nat_lit 280,zC "law" "law" 566 311 1 277 278 vN vN vN 279 569) ::
 (nat_lit 281,fO "law" "law" (zT 40) (vS "law_keptnest_k97_whole_alternating_sums" 332) (vR 280))::[]
def zA:List Addr:=[3,4,15,19,20,26,27,31,32,45,46,52,53,59,60,64,65,71,72,74,75,85,86,92,93,99,100,104,105,111,112,118,119,125,126,132,133,137,138,142,143,149,150,156,157,163,164,168,169,173,174,180,181,187,188,194,195,199,200,204,205,211,212,216,217,221,222,226,227,233,234,240,241,261,262,275,276,280,281]
def zV:Program:={ PySem.Challenge.pw_keptnest_k97_whole_alternating_sums with main:={ PySem.Challenge.pw_keptnest_k97_whole_alternating_sums.main with body:=[1,2,3,4,6,7,8,9,11,12,14,15,16,17,18,19,20,21,22,23,24,25,26,27,28,29,30,31,32,33,34,35,36,37,38,39,40].filterMap λi=>PySem.Challenge.pw_keptnest_k97_whole_alternating_sums.main.body[i]? } }
theorem zE:∀P,zA=(zK P).map (·.1):=λ_=>rfl
def zTs:List Addr:=[107]
def zL:List PySem.Str:=[]
end K97
end
section
namespace Hq
open PySem PySem.W
def nZ(st:SharedT->Thread->Option (SharedT×Thread))(ok:Thread->Bool):Nat->SharedT->Thread->Option SharedT
 | 0,_,_=>none
 |n+1,s,t=>match through t with
  |true=>some s
  |false=>match ok t with
   |false=>none
   |true=>match st s t with
    |some (s',t')=>nZ st ok n s' t'
    |none=>none
theorem wx{tb:String->Option Builtin}{p:Program}{w:World}{n₀:Nat}{qH:Option Value}:∀{n:Nat}{s s':SharedT}{t:Thread},nZ (stepT (denote tb) p w) (stepOk n₀ qH) n s t=some s'->topRun tb p w n₀ qH n s.abs t=some s'.abs
 | 0,_,_,_,h=>by cases h
 |n+1,s,s',t,h=>by
  unfold nZ at h;unfold topRun;cases he:through t with
  |true=>rw[he]at h;cases h;rfl
  |false=>
   rw[he]at h;cases hk:stepOk n₀ qH t with
   |false=>rw[hk]at h;cases h
   |true=>
    rw[hk]at h;cases hs:stepT (denote tb) p w s t with
    |none=>rw[hs]at h;cases h
    |some r=>obtain⟨s₂,t₂⟩:=r;rw[hs]at h;rw[stepT_spec hs];exact wx h
def n0:List Obj->BT->Nat->Option (BT×Nat)
 |[],t,n=>some (t,n)
 |o::l,t,n=>match ((t.ins n o).get n).isSome with
  |true=>n0 l (t.ins n o) (n+1)
  |false=>none
theorem wy{life:Life}:∀{l:List Obj}{t t':BT}{n n':Nat},n0 l t n=some (t',n')->absHeap t' n' life=⟨(absHeap t n life).objs++l.toArray,life⟩
 |[],t,t',n,n',h=>by cases h;simp;rfl
 |o::l,t,t',n,n',h=>by
  unfold n0 at h;cases e:((t.ins n o).get n).isSome with
  |false=>rw[e]at h;cases h
  |true=>
   rw[e]at h;rw[wy h,absHeap_ins e];unfold Heap.push;simp
def wz(s:Shared):Option SharedT:=(n0 s.heap.objs.toList .nil 0).map λx=>⟨x.1,x.2,s.heap.life,s.gens,s.drawn,s.toks,s.os⟩
theorem EX{s:Shared}{T:SharedT}(h:wz s=some T):T.abs=s:=by
 obtain⟨x,a,b⟩:=Option.map_eq_some_iff.mp h;obtain⟨t,n⟩:=x;cases b;have:=wy (life:=s.heap.life) a;unfold SharedT.abs;obtain⟨⟨objs,life⟩,gens,drawn,toks,os⟩:=s;simp only at this ⊢;rw[this];simp [absHeap,BT.list]
def qI(st:SharedT->Thread->Option (SharedT×Thread))(sk:Nat->Option Value->Thread->Bool)(p:Program)(N:Nat){β:Type}(F:Shared->β)(s₀:Shared):Option β:=
 match s₀.heap.isNs mainGlobals && s₀.gens.size == 0 with
 | true=>(wz s₀).bind λT₀=>(nZ st (sk s₀.heap.objs.size (s₀.heap.nsMap mainGlobals "__annotations__")) N T₀ (topStub p)).bind λT₁=>match staticsOk (importedModules p.main.body) s₀.heap T₁.abs.heap && namesBound p T₁.abs.heap && gensDone T₁.abs && laidKept s₀.heap T₁.abs.heap with
   |true=>some (F T₁.abs)
   |false=>none
 |false=>none
theorem EY{tb:String->Option Builtin}{p:Program}{w:World}{N:Nat}{β:Type}{F:Shared->β}{s₀:Shared}{y:β}(h:qI (stepT (denote tb) p w) stepOk p N F s₀=some y):(topFrom tb p w N s₀).map F=some y:=by
 unfold qI at h;unfold topFrom;cases e:(s₀.heap.isNs mainGlobals && s₀.gens.size == 0) with
 |false=>rw[e]at h;cases h
 |true=>
  rw[e]at h;obtain⟨T₀,a,h⟩:=Option.bind_eq_some_iff.mp h;obtain⟨T₁,b,h⟩:=Option.bind_eq_some_iff.mp h;have b':=wx b;rw[EX a]at b';dsimp only;rw[b'];dsimp only[Option.bind_some];cases q:(staticsOk (importedModules p.main.body) s₀.heap T₁.abs.heap && namesBound p T₁.abs.heap && gensDone T₁.abs && laidKept s₀.heap T₁.abs.heap) with
  |false=>rw[q]at h;cases h
  |true=>rw[q]at h;exact h
def n3(Xo:Program->World->Nat->Shared->Thread->Option Shared)(Wx:Program->Shared×Thread)(VP:Program->Shared->Option Shared)(st:Program->World->SharedT->Thread->Option (SharedT×Thread))(sk:Nat->Option Value->Thread->Bool)(p:Program){β:Type}(F:Shared->β)(y:World->β)(N:Nat)(row:String)(b:Bool):Prop:=
 ∀w:World,((Xo (opening p) w N (Wx (opening p)).1 (Wx (opening p)).2).bind (VP p)).bind (qI (st p (w.withFollow row b)) sk p N F)=some (y (w.withFollow row b))
theorem n3.to{p:Program}{β:Type}{F:Shared->β}{y:World->β}{N:Nat}{row:String}{b:Bool}(h:n3 (importEnds treeTable) start fenceModules? (stepT (denote treeTable)) stepOk p F y N row b)(w:World):(fencedOpening treeTable p w N).map (λs₀=>(topFrom treeTable p (w.withFollow row b) N s₀).map F)=some (some (y (w.withFollow row b))):=by
 obtain⟨s₀,a,e⟩:=Option.bind_eq_some_iff.mp (h w);unfold fencedOpening;rw[a,Option.map_some,EY e]
open Fast in
abbrev fV{β:Type}(p:Program)(F:Shared->β)(y:World->β)(N:Nat)(row:String)(b:Bool):Prop:=n3 (tw10274390034422433532 tw14364793385576792824) tw1435165496053646825 tw14289696077712309145 (tw10156331382660048174 (tw11892475500146522536 tw14364793385576792824)) tw6613529449190102663 p F y N row b
open Fast in
theorem fV.to{p:Program}{β:Type}{F:Shared->β}{y:World->β}{N:Nat}{row:String}{b:Bool}(h:fV p F y N row b):n3 (importEnds treeTable) start fenceModules? (stepT (denote treeTable)) stepOk p F y N row b:=by
 rw[te10274390034422433532,te14364793385576792824,te1435165496053646825,te14289696077712309145,te10156331382660048174,te11892475500146522536,te6613529449190102663];exact h
open Fast in
theorem fV.eH{p q:Program}{loose:List PySem.Str}{Xt:Shared->Bool}{α:Type}{Yf:Shared->α}{Ya:World->α}{N:Nat}{row:String}{b:Bool}(h:fV p (openSeen q loose (importedModules p.main.body) Xt true) (λ_=>openGood q loose) N row b)(h':fV p Yf Ya N row b):lA p q loose Xt Yf Ya N row b:=λw=>by
 have a:=h.to.to w;have b':=h'.to.to w;obtain⟨s₀,e,a⟩:=Option.map_eq_some_iff.mp a;rw[e,Option.map_some]at b' ⊢;obtain⟨s₁,e',a⟩:=Option.map_eq_some_iff.mp a;rw[e',Option.map_some]at b' ⊢;rw[a,ZJ (ZJ b')]
end Hq
end
section
set_option maxHeartbeats 0
namespace K97
open PySem Hq
theorem EZ:fV PySem.Challenge.pw_keptnest_k97_whole_alternating_sums (PySem.W.openSeen zV zL (importedModules PySem.Challenge.pw_keptnest_k97_whole_alternating_sums.main.body) (λs=>PySem.W.xlAt zV [] s && PySem.W.recOk (PySem.W.RowW.records (PySem.W.OpenRow.toRowW PySem.Challenge.rw_keptnest_k97_whole_alternating_sums.row)) s) true) (λ_=>PySem.W.openGood zV zL) 3032 "special-get-raises" false:=by
 intro w
 kernel_rfl
theorem E0:fV PySem.Challenge.pw_keptnest_k97_whole_alternating_sums (PySem.W.Hook.obs (PySem.W.kmHook zK zA zE zTs)) (PySem.W.Hook.val (PySem.W.kmHook zK zA zE zTs)) 3032 "special-get-raises" false:=by
 intro w
 kernel_rfl
theorem zR_false:lA PySem.Challenge.pw_keptnest_k97_whole_alternating_sums zV zL (λs=>PySem.W.xlAt zV [] s && PySem.W.recOk (PySem.W.RowW.records (PySem.W.OpenRow.toRowW PySem.Challenge.rw_keptnest_k97_whole_alternating_sums.row)) s) (PySem.W.Hook.obs (PySem.W.kmHook zK zA zE zTs)) (PySem.W.Hook.val (PySem.W.kmHook zK zA zE zTs)) 3032 "special-get-raises" false:=EZ.eH E0
theorem E1:fV PySem.Challenge.pw_keptnest_k97_whole_alternating_sums (PySem.W.openSeen zV zL (importedModules PySem.Challenge.pw_keptnest_k97_whole_alternating_sums.main.body) (λs=>PySem.W.xlAt zV [] s && PySem.W.recOk (PySem.W.RowW.records (PySem.W.OpenRow.toRowW PySem.Challenge.rw_keptnest_k97_whole_alternating_sums.row)) s) true) (λ_=>PySem.W.openGood zV zL) 3032 "special-get-raises" true:=by
 intro w
 kernel_rfl
theorem E2:fV PySem.Challenge.pw_keptnest_k97_whole_alternating_sums (PySem.W.Hook.obs (PySem.W.kmHook zK zA zE zTs)) (PySem.W.Hook.val (PySem.W.kmHook zK zA zE zTs)) 3032 "special-get-raises" true:=by
 intro w
 kernel_rfl
theorem zR_true:lA PySem.Challenge.pw_keptnest_k97_whole_alternating_sums zV zL (λs=>PySem.W.xlAt zV [] s && PySem.W.recOk (PySem.W.RowW.records (PySem.W.OpenRow.toRowW PySem.Challenge.rw_keptnest_k97_whole_alternating_sums.row)) s) (PySem.W.Hook.obs (PySem.W.kmHook zK zA zE zTs)) (PySem.W.Hook.val (PySem.W.kmHook zK zA zE zTs)) 3032 "special-get-raises" true:=E1.eH E2
theorem zS:PySem.Challenge.rw_keptnest_k97_whole_alternating_sums.wellSaid=true:=by kernel_rfl
end K97
end
section
namespace L2
open PySem PySem.Spec PyProof.Rows
abbrev Key:=Sum Int Str
noncomputable def gT:Key->Value->Bool
 |.inl k,v=>Value.isInt k v
 |.inr x,v=>Value.isStrOf x v
noncomputable def E3(w:World):Key->Int
 |.inl k=>hashInt k
 |.inr x=>hashStr w x
theorem ed:∀{k:Key}{v:Value},gT k v=true->(∃i t,k=Sum.inl i/\v=Value.int i t)\/(∃x t,k=aae x/\v=Value.str x t)
 |.inl i,v,h=>by
  obtain⟨t,e⟩:=Value.isInt_shape (k:=i) (v:=v) h;exact .inl ⟨i,t,rfl,e⟩
 |.inr x,v,h=>by
  obtain⟨t,e⟩:=Value.isStrOf_shape (x:=x) (v:=v) h;exact .inr ⟨x,t,rfl,e⟩
theorem E4(i:Int)(t:Tok):gT (.inl i) (.int i t)=true:=by simp [gT,Value.isInt]
theorem E5(x:Str)(t:Tok):gT (.inr x) (.str x t)=true:=by simp [gT,Value.isStrOf]
theorem E6(a b:Int):decide ((Sum.inl a:Key)=Sum.inl b)=(a == b):=by
 by_cases e:a=b
 ·subst e;simp
 ·have h:¬(Sum.inl a:Key)=Sum.inl b:=λq=>e (Sum.inl.inj q);rw[decide_eq_false h];exact (beq_eq_false_iff_ne.mpr e).symm
theorem E7(a b:Str):decide ((aae a:Key)=aae b)=decide (a=b):=by
 by_cases e:a=b
 ·subst e;simp
 ·have h:¬(aae a:Key)=aae b:=λq=>e (aaY q);rw[decide_eq_false h,decide_eq_false e]
theorem E8(a:Int)(b:Str):decide ((Sum.inl a:Key)=aae b)=false:=decide_eq_false (λq=>nomatch q)
theorem E9(a:Str)(b:Int):decide ((aae a:Key)=Sum.inl b)=false:=decide_eq_false (λq=>nomatch q)
noncomputable def bR(prog:Program)(w:World):PySem.KeyKind prog w Key where
 is:=gT
 hash:=E3 w
 inj:=λv a b ha hb=>by
  rcases ed ha with ⟨i,t,rfl,rfl⟩ |⟨x,t,rfl,rfl⟩
  ·rcases ed hb with ⟨j,u,rfl,e⟩ |⟨y,u,rfl,e⟩
   ·injection e with e1 _;rw[e1]
   ·exact nomatch e
  ·rcases ed hb with ⟨j,u,rfl,e⟩ |⟨y,u,rfl,e⟩
   ·exact nomatch e
   ·injection e with e1 _;rw[e1]
 byValue:=λk v h=>by
  rcases ed h with ⟨i,t,rfl,rfl⟩ |⟨x,t,rfl,rfl⟩ <;> rfl
 pyHash:=λhv h=>by
  rcases ed hv with ⟨i,t,rfl,rfl⟩ |⟨x,t,rfl,rfl⟩
  ·exact wpAny_pyHash_int h
  ·exact wpAny_pyHash_str h
 eqBool:=λhu hv h=>by
  rcases ed hu with ⟨i,t,rfl,rfl⟩ |⟨x,t,rfl,rfl⟩
  ·rcases ed hv with ⟨j,u,rfl,rfl⟩ |⟨y,u,rfl,rfl⟩
   ·rw[E6]at h;exact wpAny_eqBool_int h
   ·rw[E8]at h;exact SeqAt.EqAt.int_str i t y u _ _ _ _ h
  ·rcases ed hv with ⟨j,u,rfl,rfl⟩ |⟨y,u,rfl,rfl⟩
   ·rw[E9]at h;exact SeqAt.EqAt.str_int x t j u _ _ _ _ h
   ·rw[E7]at h;exact wpAny_eqBool_str h
 «strs»:=λk x t v h=>by
  rcases ed h with ⟨i,u,rfl,e⟩ |⟨y,u,rfl,e⟩
  ·exact nomatch e
  ·injection e with e1 _;subst e1;cases v <;> rfl
end L2
namespace L2
open PySem PySem.Spec PyProof.Rows
def jt(sc:Scope)(x:Str):Prop:=sc.names.lookup x=some .local\/sc.names.lookup x=some .cell\/sc.names.lookup x=some .free
def iq(sc:Scope)(x:Str):Prop:=sc.names.lookup x=some .local\/sc.names.lookup x=some .cell
def ju(env:Env)(h:Heap)(m:Str->Option Value)(x:Str)(u:Value):Prop:=
 (env.kindOf x=some .local/\m x=some u)\/((env.kindOf x=some .cell\/env.kindOf x=some .free)/\∃c,env.cells.lookup x=some c/\h.IsCell c (some u))
section
variable{X:Cx}{aR:List (Addr×Obj)}{σ:List (Option V)}{H YG:Hp}{s:Shared}{h':Heap}
theorem Fb{N:List Str}(hN:N.Nodup){i j:Nat}{x:Str}(a:N[i]?=some x)(b:N[j]?=some x):i=j:=by
 obtain⟨h1,e1⟩:=List.getElem?_eq_some_iff.mp a;obtain⟨h2,e2⟩:=List.getElem?_eq_some_iff.mp b;exact (List.getElem_inj hN).mp (e1.trans e2.symm)
end
end L2
namespace L2
open PySem PySem.Spec PyProof.Rows
theorem qJ{M:Model}{A:Around}{E:Value->Shared->Prop}{s:Shared}{tg:Expr}{it:Addr}{u:Value}{o:Obj}{n:String}{vs:Array Value}{Q:Unit->Shared->Prop}(ho:s.heap.get? it=some o)(hc:o.cls=.type n)(hd:o.data=.fields vs)
    (hn:["enumerate","zip","dict_itemiterator","dict_reverseitemiterator","odict_iterator","itertools.zip_longest","itertools.pairwise"].contains n=false) (hQ:Q () s):wpAny M A (letOwnedTupleGo tg (.ref it) u) Q E s:=by
  unfold letOwnedTupleGo;cases tg <;> first
    |exact Y' hQ
    | (cases u <;> first
        |exact Y' hQ
        | (refine Y4 (wpAny_load ho ?_)
           rw[hc,hd];show wpAny M A (if (["enumerate","zip","dict_itemiterator","dict_reverseitemiterator","odict_iterator","itertools.zip_longest","itertools.pairwise"].contains n && vs[0]? == some (rawInt _))=true then _ else _) Q E s
           rw[if_neg (by intro h;rw[hn,Bool.false_and]at h;cases h)];exact Y' hQ))
end L2
namespace L2
open PySem PySem.Spec PyProof.Rows
end L2
namespace L2
open PySem PySem.Spec PyProof.Rows
section
variable{prog:Program}{w:World}{A:Around}{E:Value->Shared->Prop}{s:Shared}
def Fc(q:Bool)(h:Heap)(a:Addr)(xs:Array Value):Prop:=match q with
 |true=>h.IsTuple a xs
 |false=>h.IsList a xs
noncomputable abbrev wA(q:Bool):String:=match q with
 |true=>"tuple_iterator"
 |false=>"list_iterator"
def qK(q:Bool)(h:Heap)(J t:Addr)(i:Nat):Prop:=∃o,h.get? J=some o/\o.cls=.type (wA q)/\o.data=.fields #[.ref t,.int i 0]
end
end L2
namespace L2
open PySem PySem.Spec PyProof.Rows
section
open AutoSeq1 (wpAny_loadPart')
end
section
variable{prog:Program}{w:World}{A:Around}{E:Value->Shared->Prop}{s:Shared}
end
end L2
namespace L2
open PySem PySem.Spec PyProof.Rows PySem.W
theorem wB:Manifest.owners.lookup (String.ofList ['d','e','s','r','e','v','e','r'].reverse)=some Manifest.sig_reversed:=by kernel_rfl
theorem lB:Slot "reversed" "__next__" "reversed.__next__":=
 .of (owner:="reversed") (n:="__next__") (by rw[aaT,aab];kernel_rfl) (by decide +kernel) (by decide +kernel) (by decide +kernel)
  (by first |exact .inl (by decide +kernel) |exact .inr (by decide +kernel)) (by rw[aa2];kernel_rfl)
theorem wC:entryFor table "reversed.__next__"=some Builtin.«reversed.__next__»:=entryFor_of_tree (by kernel_rfl)
theorem wD(a:Value):argsOk "reversed.__next__" ⟨[a],[]⟩:=by
 unfold argsOk;rw[signature?_of (id:="reversed.__next__") (n:=['_','_','t','x','e','n','_','_']) (o:=['d','e','s','r','e','v','e','r']) (by kernel_rfl) wB];kernel_rfl
theorem wF:Slot "reversed" "__iter__" "reversed.__iter__":=
 .of (owner:="reversed") (n:="__iter__") (by rw[aaT,aab];kernel_rfl) (by decide +kernel) (by decide +kernel) (by decide +kernel)
  (by first |exact .inl (by decide +kernel) |exact .inr (by decide +kernel)) (by rw[aa2];kernel_rfl)
theorem Fd(a:Value):argsOk "reversed.__iter__" ⟨[a],[]⟩:=by
 unfold argsOk;rw[signature?_of (id:="reversed.__iter__") (n:=['_','_','r','e','t','i','_','_']) (o:=['d','e','s','r','e','v','e','r']) (by kernel_rfl) wB];kernel_rfl
theorem Ff:entryFor table "reversed.__iter__"=some Builtin.«dict_keyiterator.__iter__»:=
 entryFor_alias (id':="dict_keyiterator.__iter__") (by kernel_rfl) (by first |rfl |decide +kernel |(unfold String.splitOn;simp +decide [String.splitOnAux])) (by decide +kernel) (by kernel_rfl)
theorem Fh:Slot "reversed" "__init__" "object.__init__":=
 .of (owner:="object") (n:="__init__") (by rw[aaT,aab];kernel_rfl) (by decide +kernel) (by decide +kernel) (by decide +kernel)
  (by first |exact .inl (by decide +kernel) |exact .inr (by decide +kernel)) (by rw[aa2];kernel_rfl)
theorem Fi:TypeCalled "reversed" "reversed.__new__" "object.__init__":=
 ⟨by decide +kernel,by decide +kernel,⟨_,_,F.mro_reversed⟩,F.made_reversed,by decide +kernel,by rw[aa2];kernel_rfl,Fh⟩
theorem Fj:typeLookup (.type "tuple") "__reversed__"=pure none:=by rw[aaT,aab];kernel_rfl
theorem Fl:isSubtype (.type "tuple") (.type "dict")=pure false:=by rw[aa2];kernel_rfl
section
open AutoSeq1 (wpAny_loadPart')
theorem Fm(l:Addr)(items:Array Value)(n:Nat)(au:Option Addr)(sl:Array (Option Value))(hz:items.size<=sizeLine):
  Meets (Builtin.«reversed.__new__» ⟨[.type "reversed",.ref l],[]⟩) (λ_ R s=>s.heap.get? l=some { cls:=.type "tuple",dict:=au,data:=.seq items n,slots:=sl } /\
   ∀tk,R (.ok (.ret (.ref s.heap.objs.size))) { s with heap:=s.heap.push { cls:=.type "reversed",data:=.fields #[.ref l,rawInt ((items.size:Int)-1)] },toks:=tk }):=
 .of_wp λprog w A R s h=>by
  obtain⟨hp,g,d,tk,os⟩:=s;obtain⟨hl,h⟩:=h;have hsub:=F.sub_reversed_self;have hL:Heap.IsTuple (Shared.heap ⟨hp,g,d,tk,os⟩) l items:=⟨_,hl,rfl,n,rfl⟩;have f1:=Fj;have f2:=Fl;have f3:=F.slot_tuple_getitem.lookup;have Fa:(items.size:Int)<2 ^ 63:=by have:items.size<=16777216:=hz;lia
  unfold Builtin.«reversed.__new__»;refine Y4 (wpAny_of_eq (newClass_reversed _) ?_);refine Y4 (wpAny_of_eq (a:=()) (by kernel_rfl) (Y4 (wpAny_of_eq (a:=()) (by kernel_rfl) ?_)));dsimp only;refine Y4 (wpAny_specialOf hL.typeIs f1 ?_);dsimp only;refine Y4 (aa1 (Q:=λb s'=>b=true/\s'=(⟨hp,g,d,tk,os⟩:Shared)) ?slot (λb s' hb=>?rest) λ_ _ x=>x)
  case slot=>
   wp_walk using aao hl
   exact⟨rfl,rfl⟩
  obtain⟨rfl,rfl⟩:=hb;rw[if_neg (by decide)];refine Y4 (PyProof.Rows.len_tuple hL Fa ?_)
  wp_walk using aao hl
  exact⟨_,rfl,h _⟩
end
section
variable{prog:Program}{w:World}{A:Around}{E:Value->Shared->Prop}{s:Shared}
def ee(h:Heap)(a l:Addr)(i:Int):Prop:=∃o,h.get? a=some o/\o.cls=.type "reversed"/\o.data=.fields #[.ref l,rawInt i]
theorem ee.typeIs{a l:Addr}{i:Int}(x:ee s.heap a l i):s.TypeIs (.ref a) "reversed":=let ⟨o,ho,hc,_⟩:=x;⟨o,ho,hc⟩
theorem ee.at{h h':Heap}{a l:Addr}{i:Int}(x:ee h a l i)(e:∀o,h.get? a=some o->h'.get? a=some o):ee h' a l i:=let ⟨o,ho,r⟩:=x;⟨o,e _ ho,r⟩
theorem Fs{l:Addr}{items:Array Value}{Q:Value->Shared->Prop}(hL:IsTup s.heap l items)(hz:items.size<=sizeLine)
  (h:∀h' tk,ee h' s.heap.objs.size l ((items.size:Int)-1)->h'.objs.size=s.heap.objs.size+1->(∀b o,s.heap.get? b=some o->h'.get? b=some o)->Q (.ref s.heap.objs.size) { s with heap:=h',toks:=tk }) :
  wpAny (model prog w) A (call (.type "reversed") [.ref l]) Q E s:=by
 obtain⟨⟨c,au,Vd,sl⟩,hl,hc,n,hd⟩:=hL;replace hc:c=.type "tuple":=hc;replace hd:Vd=.seq items n:=hd;subst hc hd;refine callType_new Fi (by decide) (F.typeCall_reversed_1 _) (F.newCall_reversed_1 _) (λobj=>F.args_object_init_2 obj _) F.entry_reversed_new
  (Fm l items n au sl hz) ⟨hl,λtk=>?_⟩
 have he:(s.heap.push { cls:=.type "reversed",data:=.fields #[.ref l,rawInt ((items.size:Int)-1)] }).get? s.heap.objs.size=some { cls:=.type "reversed",data:=.fields #[.ref l,rawInt ((items.size:Int)-1)] }:=Ze _ rfl;exact⟨⟨_,he,rfl⟩,h _ tk ⟨_,he,rfl,rfl⟩ (ZZ ..) λb o x=>Y7 _ x⟩
theorem Ft{it l:Addr}{i:Nat}{items:Array Value}{x:Value}{Q:Option Value->Shared->Prop}(bW:ee s.heap it l (i:Int))(hl:IsTup s.heap l items)(hz:items.size<=sizeLine)(U:items[i]?=some x)
  (q:∀h' tk,ee h' it l ((i:Int)-1)->aaN it s.heap h'->Q (some x) { s with heap:=h',toks:=tk }):wpAny (model prog w) A (pyNext (.ref it)) Q E s:=by
 have ty:=bW.typeIs;have hi:i<items.size:=(Array.getElem?_eq_some_iff.mp U).1;have gU:items.size<=16777216:=hz;obtain⟨ob,h1,h2,h3⟩:=bW;have Xp:seqIndex? (i:Int) items.size=some i:=by
  unfold seqIndex?;rw[if_neg (show ¬(i:Int)<0 by lia),if_pos (by rw[Zf];exact⟨decide_eq_true (by lia),decide_eq_true (by lia)⟩)];rfl
 unfold pyNext;refine Y4 (wpAny_attempt (aay (name:=Str.ofString "__next__") ty lB (ZW lB ty wC ?_ (wD _))));unfold Builtin.«reversed.__next__»;refine Y4 (wpAny_of_eq (a:=(aaq it,[])) rfl (Y4 (wpAny_field h1 h3 (x:=.ref l) rfl (Y4 (wpAny_field h1 h3 (x:=rawInt (i:Int)) rfl ?_)))));refine (show wpAny _ _ (if (i:Int)<0 then _ else specialOf (.ref l) "__getitem__" >>= _) _ _ s from ?_)
 rw[if_neg (by lia)];refine Y4 (wpAny_specialOf hl.typeIs F.slot_tuple_getitem.lookup (show wpAny _ _ (mkInt (i:Int) >>= _) _ _ s from Y4 (wpAny_mkInt (Y4 (wpAny_attempt (getItem_tuple (j:=i) (x:=x) (show IsTup s.heap l items from hl) (by lia) (by lia) Xp U ?_))))));refine (show wpAny _ _ (field (.ref it) 1 >>= _) _ _ _ from Y4 (wpAny_field (show s.heap.get? it=some ob from h1) h3 (x:=rawInt (i:Int)) rfl (show wpAny _ _ (setField (.ref it) 1 (rawInt ((i:Int)-1)) >>= _) _ _ _ from Y4 (wpAny_setField (show s.heap.get? it=some ob from h1) h3 (by simp) (Y' ⟨x,rfl,Y' (q _ _ ?_ (aan ..))⟩)))));refine⟨_,aaG _ h1 (Obj.isFreed_of_fields (Obj.data_mapFields h3 _)),Eq.trans (Obj.cls_mapFields ..) h2,?_⟩;rw[Obj.data_mapFields h3] <;> simp
theorem Fu{it l:Addr}{Q:Option Value->Shared->Prop}(hh:A.handled=none)(bW:ee s.heap it l (-1))
  (q:∀h' tk,Heap.ExtBut it s.heap h'->Q none { s with heap:=h',toks:=tk }):wpAny (model prog w) A (pyNext (.ref it)) Q E s:=by
 have ty:=bW.typeIs;obtain⟨⟨c,dd,data,sl⟩,h1,h2,h3⟩:=bW;simp only at h2 h3;subst h2 h3;unfold pyNext;refine Y4 (wpAny_attempt (aay (name:=Str.ofString "__next__") ty lB (ZW lB ty wC ?_ (wD _))));obtain⟨hp,g,d,tk,os⟩:=s
 wp_walk using AutoSeq1.wpAny_loadPart' h1
 unfold raiseNew;refine Y4 (wpAny_handled ?_);rw[show A.in1.handled=none from hh];refine Y4 (Y' (wpAny_throw ?_));refine Y4 (wpAny_isInstance (T:="StopIteration") (b:=true) ⟨_,Ze _ rfl,rfl⟩ isSubtype_stop (Y' (q _ _ ?_)));exact λb u nb e=>Y7 _ (Y7 _ ((aan ..).extBut b u nb ((aan ..).extBut b u nb e)))
theorem wG{it l:Addr}{i:Int}{Q:Value->Shared->Prop}(bW:ee s.heap it l i)(h:Q (.ref it) s):wpAny (model prog w) A (pyIter (.ref it)) Q E s:=by
 refine wpAny_pyIter_slot bW.typeIs wF (ZW wF bW.typeIs Ff ?_ (Fd _));show wpAny _ _ (ret (.ref it)) _ _ s;exact Y' ⟨_,rfl,"reversed",_,bW.typeIs,lB.lookup,h⟩
end
end L2
end
section
namespace N
open PySem PySem.Spec PyProof.Rows L2
inductive D where
 |az |bl (b:Bool) |int (i:Int) |str (x:Str) |ref (a:Addr) |ty (n:String)
 |tup (ds:List D) |lst (ds:List D) |au (ks:List Key) (ds:List D)
inductive Fo where
 |dat (o:Obj) |pin (o:Obj) |jv (o:Obj) |tab (p:Pos) (q:Str)
abbrev Fz:=Addr->Option Fo
structure Gx where
 P:Program
 w:World
 K:PySem.W.Frag
 mg:Str->Option Value
 base:Heap
 ex:Fz
def Le(F F':Fz):Prop:=∀a f,F a=some f->F' a=some f
theorem Le.rfl{F:Fz}:Le F F:=λ_ _ h=>h
theorem Le.tr{F F1 F2:Fz}(a:Le F F1)(b:Le F1 F2):Le F F2:=λc f h=>b c f (a c f h)
structure Bs(G:Gx)(F:Fz):Prop where
 b:∀b o,G.base.get? b=some o->F b=some (.dat o)
 x:Le G.ex F
theorem Bs.up{G:Gx}{F F':Fz}(h:Bs G F)(l:Le F F'):Bs G F':=⟨λb o e=>l b _ (h.b b o e),h.x.tr l⟩
def cn(F F':Fz):Prop:=∀a o,F a=some (.dat o)->F' a=some (.dat o)
theorem Le.d{F F':Fz}(l:Le F F'):cn F F':=λa o=>l a (.dat o)
section
variable{α:Type}
noncomputable def up(F:Addr->Option α)(a:Addr)(o:α):Addr->Option α:=λb=>if b=a then some o else F b
theorem ak{F:Addr->Option α}{a:Addr}{o:α}:up F a o a=some o:=if_pos rfl
theorem av{F:Addr->Option α}{a b:Addr}{o:α}(h:b≠a):up F a o b=F b:=if_neg h
noncomputable def rm(F:Addr->Option α)(a:Addr):Addr->Option α:=λb=>if b=a then none else F b
theorem n4{F:Addr->Option α}{a:Addr}:rm F a a=none:=if_pos rfl
theorem qL{F:Addr->Option α}{a b:Addr}(h:b≠a):rm F a b=F b:=if_neg h
theorem b7{F:Addr->Option α}{a b:Addr}{o:α}(h:F a=some o)(h':F b=none):a≠b:=λe=>by rw[e,h']at h;cases h
end
theorem Le.new{F:Fz}{a:Addr}{f:Fo}(h:F a=none):Le F (up F a f):=λb g e=>by rw[av (b7 e h)];exact e
structure n6(o:Obj)(us:List Value):Prop where
 cls:o.cls=.type "tuple"
 dict:o.dict=none
 data:∃n,o.data=.seq us.toArray n
 len:us.length<=sizeLine
noncomputable def bJ(us:List Value)(n:Nat):Obj:={ cls:=.type "list",data:=.seq us.toArray n }
structure n7(G:Gx)(o:Obj)(ks:List Key)(us:List Value):Prop where
 ex:o.ExactDict
 bX:∃es ep,o.data=.dict es ep/\KeysOf (bR G.P G.w) es/\Pairs (bR G.P G.w) es.toList (ks.zip us)
 nd:ks.Nodup
 len:us.length=ks.length
 sz:ks.length<=sizeLine
mutual
def aa(G:Gx)(F:Fz):D->Value->Prop
 |.az,u=>u=.none
 |.bl b,u=>u=.bool b
 |.int i,u=>∃t,u=.int i t
 |.str x,u=>∃t,u=.str x t
 |.ref a,u=>u=.ref a
 |.ty n,u=>u=.type n
 |.tup ds,u=>∃a o us,u=.ref a/\F a=some (.dat o)/\n6 o us/\af G F ds us
 |.lst ds,u=>∃a n us,u=.ref a/\F a=some (.dat (bJ us n))/\us.length<=sizeLine/\af G F ds us
 |.au ks ds,u=>∃a o us,u=.ref a/\F a=some (.dat o)/\n7 G o ks us/\(a == sysModules)=false/\af G F ds us
def af(G:Gx)(F:Fz):List D->List Value->Prop
 |[],us=>us=[]
 |d::ds,us=>∃u r,us=u::r/\aa G F d u/\af G F ds r
end
section
variable{G:Gx}{F F':Fz}
theorem af.nil:af G F [] []:=by rw[af]
theorem af.cons{d:D}{ds:List D}{u:Value}{us:List Value}(h:aa G F d u)(t:af G F ds us):af G F (d::ds) (u::us):=by rw[af];exact⟨u,us,rfl,h,t⟩
theorem af.p:∀{ds:List D}{us:List Value},af G F ds us->Paired (aa G F) ds us
 |[],us,h=>by rw[af]at h;subst h;exact .nil
 |d::ds,us,h=>by rw[af]at h;obtain⟨y,ys,rfl,h1,h2⟩:=h;exact .cons h1 h2.p
theorem af.len{ds:List D}{us:List Value}(h:af G F ds us):ds.length=us.length:=h.p.length
mutual
theorem aa.up(l:cn F F'):∀{d:D}{u:Value},aa G F d u->aa G F' d u
 |.az,u,h=>by rw[aa]at h ⊢;exact h
 |.bl _,u,h=>by rw[aa]at h ⊢;exact h
 |.int _,u,h=>by rw[aa]at h ⊢;exact h
 |.str _,u,h=>by rw[aa]at h ⊢;exact h
 |.ref _,u,h=>by rw[aa]at h ⊢;exact h
 |.ty _,u,h=>by rw[aa]at h ⊢;exact h
 |.tup ds,u,h=>by rw[aa]at h ⊢;obtain⟨a,o,us,e,h1,h2,h3⟩:=h;exact⟨a,o,us,e,l a o h1,h2,h3.up l⟩
 |.lst ds,u,h=>by rw[aa]at h ⊢;obtain⟨a,o,us,e,h1,h2,h3⟩:=h;exact⟨a,o,us,e,l a _ h1,h2,h3.up l⟩
 |.au ks ds,u,h=>by rw[aa]at h ⊢;obtain⟨a,o,us,e,h1,h2,h4,h3⟩:=h;exact⟨a,o,us,e,l a o h1,h2,h4,h3.up l⟩
theorem af.up(l:cn F F'):∀{ds:List D}{us:List Value},af G F ds us->af G F' ds us
 |[],us,h=>by rw[af]at h ⊢;exact h
 |d::ds,us,h=>by rw[af]at h ⊢;obtain⟨u,r,e,h1,h2⟩:=h;exact⟨u,r,e,h1.up l,h2.up l⟩
end
end
def fW(G:Gx)(F:Fz):Option D->Option Value->Prop
 |some d,some u=>aa G F d u
 |none,none=>True
 |_,_=>False
theorem fW.up{G:Gx}{F F':Fz}(l:cn F F'){d:Option D}{u:Option Value}(h:fW G F d u):fW G F' d u:=by
 cases d with
 |none=>cases u with
  |none=>trivial
  |some u=>exact h
 |some d=>cases u with
  |none=>exact h
  |some u=>exact aa.up l h
def KV{κ:Type}(G:Gx)(F:Fz):List (κ×D)->List (κ×Value)->Prop:=Paired λp q=>p.1=q.1/\aa G F p.2 q.2
theorem Paired.VQ{α β:Type}{P Q:α->β->Prop}(f:∀a b,P a b->Q a b):∀{l:List α}{m:List β},Paired P l m->Paired Q l m
 |_,_,.nil=>.nil
 |_,_,.cons r t=>.cons (f _ _ r) (Paired.VQ f t)
theorem KV.up{κ:Type}{G:Gx}{F F':Fz}(l:cn F F'){a:List (κ×D)}{b:List (κ×Value)}(h:KV G F a b):KV G F' a b:=Paired.VQ (λ_ _ r=>⟨r.1,r.2.up l⟩) h
inductive MO where
 |lst (ds:List D) |au (kvs:List (Key×D)) |ins (C dx:Addr) (fs:List (Str×D)) |own (x:Addr) |lC (ps:Array Value)
abbrev Mp:=Addr->Option MO
def ef(G:Gx)(F:Fz)(M:Mp)(h:Heap)(a:Addr):MO->Prop
 |.lst ds=>ds.length<=sizeLine/\∃us n,af G F ds us/\h.get? a=some (bJ us n)
 |.au kvs=>kvs.length<=sizeLine/\(a == sysModules)=false/\∃vs,KV G F kvs vs/\h.DictOf (bR G.P G.w) a vs
 |.ins C dx fs=>M dx=some (.own a)/\fs.length<=1000/\dx≠a/\h.get? a=some (PySem.W.instObj C dx)/\∃mA,h.Ns1 dx mA/\(∀f,fW G F (fs.lookup f) (mA f))/\PySem.Within mA (fs.map (·.1))
 |.own _=>∃o,h.get? a=some o
 |.lC ps=>h.get? a=some { cls:=.none,data:=.fields ps }
def Fo.At(h:Heap)(a:Addr):Fo->Prop
 |.dat o=>h.get? a=some o
 |.pin o=>h.get? a=some o
 |.jv o=>∃sl,h.get? a=some { o with slots:=sl }
 |.tab _ _=>∃ps,h.get? a=some { cls:=.none,data:=.fields ps }
def gV(o:Obj)(q:Str):Prop:=∃vs t,o.data=.fields vs/\vs[1]?=some (.str q t)
def Fv(F:Fz)(h:Heap)(T:Addr)(p:Pos)(q:Str):Prop:=h.get? T=some { cls:=.none,data:=.fields #[] }\/∃c o,h.get? T=some { cls:=.none,data:=.fields #[rawInt p.line,rawInt p.col,.ref c] }/\F c=some (.dat o)/\gV o q
def n8(F:Fz)(h:Heap):Prop:=∀T p q,F T=some (.tab p q)->Fv F h T p q
structure ay(G:Gx)(F:Fz)(M:Mp)(h:Heap):Prop where
 fz:∀a f,F a=some f->f.At h a
 ob:∀a o,M a=some o->F a=none/\ef G F M h a o
 tb:n8 F h
section
variable{G:Gx}{F F':Fz}{M M':Mp}{h h':Heap}{a:Addr}{o:MO}{f:Fo}
theorem ef.lt(x:ef G F M h a o):a<h.objs.size:=by
 cases o with
 |lst xs=>obtain⟨_,_,_,_,e⟩:=x;exact Zv e
 |au kvs=>obtain⟨_,_,_,_,o,_,_,e,_⟩:=x;exact Zv e
 |ins C dx fs=>obtain⟨_,_,_,e,_⟩:=x;exact Zv e
 |own y=>obtain⟨_,e⟩:=x;exact Zv e
 |lC ps=>exact Zv (show h.get? a=some _ from x)
theorem Fo.At.lt(x:f.At h a):a<h.objs.size:=by
 cases f with
 |dat o=>exact Zv (show h.get? a=some o from x)
 |pin o=>exact Zv (show h.get? a=some o from x)
 |jv o=>obtain⟨_,e⟩:=x;exact Zv e
 |tab p q=>obtain⟨_,e⟩:=x;exact Zv e
def bk(h h':Heap)(b:Addr):Prop:=∀o,h.get? b=some o->h'.get? b=some o
theorem Fo.At.go(x:f.At h a)(k:bk h h' a):f.At h' a:=by
 cases f with
 |dat o=>exact k _ x
 |pin o=>exact k _ x
 |jv o=>obtain⟨sl,e⟩:=x;exact⟨sl,k _ e⟩
 |tab p q=>obtain⟨sl,e⟩:=x;exact⟨sl,k _ e⟩
theorem n8.go(x:n8 F h)(b:∀T p q,F' T=some (.tab p q)->F T=some (.tab p q))(l:cn F F')(k:∀T p q,F' T=some (.tab p q)->bk h h' T):n8 F' h':=λT p q e=>by
 rcases x T p q (b T p q e) with y |⟨c,o,h1,h2,h3⟩
 ·exact .inl (k T p q e _ y)
 ·exact .inr ⟨c,o,k T p q e _ h1,l c o h2,h3⟩
theorem ef.go(x:ef G F M h a o)(l:cn F F')(k:∀b,b=a\/M b=some (.own a)->bk h h' b)(ho:∀b,M b=some (.own a)->M' b=some (.own a)):ef G F' M' h' a o:=by
 cases o with
 |lst xs=>obtain⟨z,us,n,r,e⟩:=x;exact⟨z,us,n,r.up l,k a (.inl rfl) _ e⟩
 |au kvs=>obtain⟨z,y,vs,r,ob,es,ep,e,c⟩:=x;exact⟨z,y,vs,r.up l,ob,es,ep,k a (.inl rfl) _ e,c⟩
 |ins C dx fs=>
  obtain⟨d,z,ne,e,mA,⟨od,es,ep,e2,c⟩,r1,r2⟩:=x;exact⟨ho _ d,z,ne,k a (.inl rfl) _ e,mA,⟨od,es,ep,k dx (.inr d) _ e2,c⟩,λf=>(r1 f).up l,r2⟩
 |own y=>obtain⟨ob,e⟩:=x;exact⟨ob,k a (.inl rfl) _ e⟩
 |lC ps=>exact k a (.inl rfl) _ x
theorem ay.cU(x:ay G F M h)(e:h.objs.size<=a):F a=none:=by
 cases q:F a with
 |none=>rfl
 |some u=>exact absurd (Zq (x.fz a u q).lt e) (aar _)
theorem ay.dk(x:ay G F M h)(e:h.objs.size<=a):M a=none:=by
 cases q:M a with
 |none=>rfl
 |some u=>exact absurd (Zq (x.ob a u q).2.lt e) (aar _)
theorem ay.keep(x:ay G F M h)(k:∀b,F b≠none\/M b≠none->bk h h' b):ay G F M h':=
 ⟨λb f e=>(x.fz b f e).go (k b (.inl (by rw[e];exact ZK f))),λb o e=>⟨(x.ob b o e).1,(x.ob b o e).2.go Le.rfl.d (λc hc=>k c (.inr (by
  rcases hc with rfl |hc
  ·rw[e];exact ZK o
  ·rw[hc];exact ZK _))) λ_ q=>q⟩,x.tb.go (λ_ _ _ e=>e) Le.rfl.d λT p q e=>k T (.inl (by rw[e];exact ZK _))⟩
theorem ay.lD(x:ay G F M h)(k:∀b,bk h h' b)(hp:h.objs.size<=a)(new:ef G F (up M a o) h' a o):ay G F (up M a o) h':=
 ⟨λb f e=>(x.fz b f e).go (k b),λb u e=>by
  by_cases hb:b=a
  ·subst hb;rw[ak]at e;cases e;exact⟨x.cU hp,new⟩
  ·rw[av hb]at e;exact⟨(x.ob b u e).1,(x.ob b u e).2.go Le.rfl.d (λc _=>k c) λc q=>by rw[av (b7 q (x.dk hp))];exact q⟩,x.tb.go (λ_ _ _ e=>e) Le.rfl.d λT _ _ _=>k T⟩
theorem ay.wH(x:ay G F M h)(hF:F a=none)(hM:M a=none)(e:f.At h a)(nt:∀p q,f≠.tab p q:=by intro _ _ h;cases h):ay G (up F a f) M h:=by
 refine⟨λb g q=>?_,λb u q=>⟨by rw[av (b7 q hM)];exact (x.ob b u q).1,(x.ob b u q).2.go (Le.new hF).d (λ_ _ _ e=>e) λ_ e=>e⟩,x.tb.go (λT p q e=>?_) (Le.new hF).d λ_ _ _ _ _ e=>e⟩
 case refine_2=>
  by_cases hb:T=a
  ·subst hb;rw[ak]at e;cases e;exact absurd rfl (nt p q)
  ·rw[av hb]at e;exact e
 by_cases hb:b=a
 ·subst hb;rw[ak]at q;cases q;exact e
 ·rw[av hb]at q;exact x.fz b g q
theorem ay.lE(x:ay G F M h)(k:∀b,bk h h' b)(hp:h.objs.size<=a)(new:f.At h' a)(nt:∀p q,f≠.tab p q:=by intro _ _ h;cases h):ay G (up F a f) M h':=(x.keep λb _=>k b).wH (x.cU hp) (x.dk hp) new nt
noncomputable def MO.mut:MO->Bool
 |.own _=>false
 |.lC _=>false
 |_=>true
theorem ay.put{x e:Addr}{o':MO}(ok:ay G F M h)(U:M x=some o)(VR:o.mut=true)(he:e=x\/M e=some (.own x))(k:∀b,b≠e->bk h h' b)(qM:∃u,h'.get? e=some u)(new:ef G F (up M x o') h' x o'):ay G F (up M x o') h':=by
 have wv:∀c y,M c=some (.own y)->c≠x:=λc y r z=>by rw[z,U]at r;cases r;cases VR
 have hF:F e=none:=by
  rcases he with rfl |he
  ·exact (ok.ob _ _ U).1
  ·exact (ok.ob _ _ he).1
 refine⟨λb f q=>(ok.fz b f q).go (k b (b7 q hF)),λb u q=>?_,ok.tb.go (λ_ _ _ e=>e) Le.rfl.d λT _ _ q=>k T (b7 q hF)⟩;by_cases hb:b=x
 ·subst hb;rw[ak]at q;cases q;exact⟨(ok.ob _ _ U).1,new⟩
 ·rw[av hb]at q;refine⟨(ok.ob b u q).1,?_⟩;by_cases n9:b=e
  ·have q':M b=some (.own x):=he.elim (λz=>absurd (n9.trans z) hb) λz=>(by rw[n9];exact z);rw[q]at q';cases q';obtain⟨v,hv⟩:=qM;exact⟨v,by rw[n9];exact hv⟩
  ·refine (ok.ob b u q).2.go Le.rfl.d (λc hc=>k c ?_) λc r=>(by rw[av (wv c b r)];exact r);rcases hc with rfl |hc
   ·exact n9
   ·rintro rfl;rcases he with z |z
    ·exact wv c b hc z
    ·rw[hc]at z;cases z;exact hb rfl
end
noncomputable def aT(F P:Fz):Fz:=λb=>match P b with
 |some f=>some f
 |none=>F b
noncomputable def aK(F P:Fz):Fz:=λb=>match P b with
 |some _=>none
 |none=>F b
section
variable{G:Gx}{F F' P:Fz}{M:Mp}{h h':Heap}{b:Addr}{f:Fo}
theorem dz(e:P b=some f):aT F P b=some f:=by unfold aT;rw[e]
theorem fu(e:P b=none):aT F P b=F b:=by unfold aT;rw[e]
theorem fv(e:P b=some f):aK F P b=none:=by unfold aK;rw[e]
theorem fx(e:P b=none):aK F P b=F b:=by unfold aK;rw[e]
theorem Le.pin(d:∀b,P b≠none->F b=none):Le F (aT F P):=λb f e=>by
 cases q:P b with
 |none=>rw[fu q];exact e
 |some g=>rw[d b (by rw[q];exact ZK g)]at e;cases e
theorem Le.aK(d:∀b,P b≠none->F b=none)(l:Le (aT F P) F'):Le F (aK F' P):=λb f e=>by
 cases q:P b with
 |none=>rw[fx q];exact l b f (by rw[fu q];exact e)
 |some g=>rw[d b (by rw[q];exact ZK g)]at e;cases e
def oa(P:Fz):Prop:=∀b o,P b≠some (.dat o)
theorem cn.aK(n:oa P)(l:Le (aT F P) F'):cn F' (aK F' P):=λb o e=>by
 cases q:P b with
 |none=>rw[fx q];exact e
 |some g=>
  have:=l b g (dz q);rw[e]at this;cases this;exact absurd q (n b o)
theorem ay.pin(x:ay G F M h)(p:∀b f,P b=some f->f.At h b/\M b=none)(d:∀b,P b≠none->F b=none)(nt:∀b p q,P b≠some (.tab p q)):ay G (aT F P) M h:=by
 refine⟨λb f e=>?_,λb o e=>⟨?_,(x.ob b o e).2.go (Le.pin d).d (λ_ _ _ q=>q) λ_ q=>q⟩,x.tb.go (λT a b e=>?_) (Le.pin d).d λ_ _ _ _ _ e=>e⟩
 case refine_3=>
  cases q:P T with
  |none=>rw[fu q]at e;exact e
  |some g=>rw[dz q]at e;cases e;exact absurd q (nt _ _ _)
 ·cases q:P b with
  |none=>rw[fu q]at e;exact x.fz b f e
  |some g=>rw[dz q]at e;cases e;exact (p b _ q).1
 ·rw[fu];exact (x.ob b o e).1;cases q:P b with
  |none=>rfl
  |some g=>have:=(p b _ q).2;rw[e]at this;cases this
theorem ay.aK(x:ay G F' M h)(n:oa P)(l:Le (aT F P) F'):ay G (aK F' P) M h:=by
 refine⟨λb f e=>?_,λb o e=>⟨?_,(x.ob b o e).2.go (cn.aK n l) (λ_ _ _ q=>q) λ_ q=>q⟩,x.tb.go (λT a b e=>?_) (cn.aK n l) λ_ _ _ _ _ e=>e⟩
 case refine_3=>
  cases q:P T with
  |none=>rw[fx q]at e;exact e
  |some g=>rw[fv q]at e;cases e
 ·cases q:P b with
  |none=>rw[fx q]at e;exact x.fz b f e
  |some g=>rw[fv q]at e;cases e
 ·cases q:P b with
  |none=>rw[fx q];exact (x.ob b o e).1
  |some g=>exact fv q
end
abbrev St:=List (Option D)
structure Z where
 F:Fz
 M:Mp
 s:Shared
structure qN where
 C:Value
 fs:List (Str×D)
structure Mod(G:Gx):Prop where
 gW:G.K.In G.base
 eI:G.base.Ns mainGlobals G.mg
 lF:∃b,G.base.Ns builtinsNs b/\∀x:Str,x≠"__name__"->b x=bootBuiltins x
 lG:G.base.NoLimit
structure Cx where
 G:Gx
 A:Around
 N:List Str
 os:OsState
 env:Env
 outer:List Env
 stk:List Env
 fn:Str->Bool
 calm:Bool
 x:qN->St->Mp->Prop
structure Cx.Ok(X:Cx):Prop where
 mod:Mod X.G
 kind:X.env.scope.kind=.function
 eI:X.env.globals=mainGlobals
 lF:X.env.builtins=builtinsNs
 inj:∀x y c,X.env.cells.lookup x=some c->X.env.cells.lookup y=some c->x=y
 has:∀x,(X.env.kindOf x=some .cell\/X.env.kindOf x=some .free)->∃c,X.env.cells.lookup x=some c
 hd:X.calm=true->X.A.handled=none
 frames:X.A.frames=some X.stk
 stk:X.stk=X.outer\/(X.stk=X.env::X.outer/\X.env.frame=some X.env.locals)
def jw(G:Gx)(F:Fz)(env:Env):Prop:=env.scope.kind≠.module/\∃L o,env.frame=some L/\F L=some (.jv o)/\G.base.get? L=none/\∀vs,o.data≠.fields vs
structure ab(X:Cx)(τ:St)(z:Z):Prop where
 ok:X.Ok
 bs:Bs X.G z.F
 os:z.s.os=X.os
 bare:AllBare z.s.gens
 cp:∀env∈X.outer,jw X.G z.F env
 loc:∃m,z.s.heap.Ns X.env.locals m/\∀(i:Nat)(x:Str)(d:D),X.N[i]?=some x->τ[i]?=some (some d)->jt X.env.scope x->∃u,aa X.G z.F d u/\ju X.env z.s.heap m x u
 cell:∀x c,X.env.cells.lookup x=some c->(∃v,z.s.heap.IsCell c v)/\z.M c=none/\((X.fn x=true/\z.F c=none)\/(X.fn x=false/\∃o,z.F c=some (.pin o)))
 free:z.F X.env.locals=none/\z.M X.env.locals=none
 hok:ay X.G z.F z.M z.s.heap
 len:τ.length=X.N.length
def wI(G:Gx)(z:Z)(x:qN)(e:Value):Prop:=False
def XE(X:Cx)(e:Value)(s:Shared):Prop:=∃x τ z,z.s=s/\ab X τ z/\wI X.G z x e/\X.x x τ z.M
theorem XE.no{X:Cx}{e:Value}{s:Shared}(h:XE X e s):False:=by obtain⟨_,_,_,_,_,h,_⟩:=h;exact h
def cV(X:Cx)(b:Addr):Prop:=b=X.env.locals\/∃x,X.env.cells.lookup x=some b
def wJ(h h':Heap)(b:Addr):Prop:=∀o,h.get? b=some o->∃sl,h'.get? b=some { o with slots:=sl }
theorem bk.s{h h':Heap}{b:Addr}(k:bk h h' b):wJ h h' b:=λo e=>⟨o.slots,k o e⟩
section
variable{X:Cx}{τ:St}{z z':Z}{h':Heap}{a b:Addr}
theorem ab.Uz(I:ab X τ z):∀b o,X.G.base.get? b=some o->z.s.heap.get? b=some o:=λb o e=>I.hok.fz b _ (I.bs.b b o e)
theorem ab.c8(I:ab X τ z):X.G.K.In z.s.heap:=I.ok.mod.gW.keeps I.Uz
theorem ab.dA(I:ab X τ z)(h:cV X b):z.M b=none:=by
 rcases h with rfl |⟨x,h⟩
 ·exact I.free.2
 ·exact (I.cell x b h).2.1
theorem ab.wK(I:ab X τ z)(h:cV X b):∃o,z.s.heap.get? b=some o:=by
 rcases h with rfl |⟨x,h⟩
 ·obtain⟨m,⟨o,_,_,e,_⟩,_⟩:=I.loc;exact⟨o,e⟩
 ·obtain⟨⟨v,o,e,_⟩,_⟩:=I.cell x b h;exact⟨o,e⟩
theorem ab.gX(I:ab X τ z)(h:cV X b):b<z.s.heap.objs.size:=let ⟨_,e⟩:=I.wK h;Zv e
theorem ab.jx(I:ab X τ z){x:Str}{c:Addr}(e:X.env.cells.lookup x=some c):c≠X.env.locals:=λq=>by
 obtain⟨⟨v,o,ho,hd⟩,_⟩:=I.cell x c e;obtain⟨m,⟨o',es,ep,Fk,lm,_⟩,_⟩:=I.loc;rw[q,Fk]at ho;cases ho;rw[lm]at hd;cases hd
theorem jw.go{G:Gx}{F F':Fz}{env:Env}(l:Le F F')(h:jw G F env):jw G F' env:=by
 obtain⟨h1,L,o,h2,h3,h4⟩:=h;exact⟨h1,L,o,h2,l L _ h3,h4⟩
theorem ab.go(I:ab X τ z)(l:Le z.F z'.F)(ok:ay X.G z'.F z'.M z'.s.heap)(own:∀b,cV X b->wJ z.s.heap z'.s.heap b/\z'.M b=none/\z'.F b=z.F b)(os:z'.s.os=z.s.os)(bare:AllBare z'.s.gens):ab X τ z':=by
 have hL:=own X.env.locals (.inl rfl);have ww:∀x c v,X.env.cells.lookup x=some c->z.s.heap.IsCell c v->z'.s.heap.IsCell c v:=λx c v e h=>by
  obtain⟨o,ho,hd⟩:=h;obtain⟨sl,q⟩:=(own c (.inr ⟨x,e⟩)).1 o ho;exact⟨_,q,hd⟩
 refine⟨I.ok,I.bs.up l,os.trans I.os,bare,λenv he=>(I.cp env he).go l,?_,λx c e=>?_,⟨hL.2.2.trans I.free.1,hL.2.1⟩,ok,I.len⟩
 ·obtain⟨m,⟨o,es,ep,ho,r⟩,hl⟩:=I.loc;obtain⟨sl,q⟩:=hL.1 o ho;refine⟨m,⟨_,es,ep,q,r⟩,λi x d e1 e2 e3=>?_⟩;obtain⟨u,r,k⟩:=hl i x d e1 e2 e3;refine⟨u,r.up l.d,?_⟩;rcases k with k |⟨k,c,e,y⟩
  ·exact .inl k
  ·exact .inr ⟨k,c,e,ww x c _ e y⟩
 ·obtain⟨⟨v,h1⟩,_,h3⟩:=I.cell x c e;have h:=own c (.inr ⟨x,e⟩);exact⟨⟨v,ww x c v e h1⟩,h.2.1,by rw[h.2.2];exact h3⟩
theorem ab.b8(I:ab X τ z){t:Nat}(k:∀b,bk z.s.heap h' b):ab X τ ⟨z.F,z.M,{ z.s with heap:=h',toks:=t }⟩:=
 I.go Le.rfl (I.hok.keep λb _=>k b) (λb hb=>⟨(k b).s,I.dA hb,rfl⟩) rfl I.bare
theorem ab.oe(I:ab X τ z)(t:Nat):ab X τ ⟨z.F,z.M,{ z.s with toks:=t }⟩:=I.b8 (h':=z.s.heap) λ_ _ e=>e
theorem ab.lD(I:ab X τ z){o:MO}{t:Nat}(k:∀b,bk z.s.heap h' b)(hp:z.s.heap.objs.size<=a)(new:ef X.G z.F (up z.M a o) h' a o):ab X τ ⟨z.F,up z.M a o,{ z.s with heap:=h',toks:=t }⟩:=
 I.go Le.rfl (I.hok.lD k hp new) (λb hb=>⟨(k b).s,(av (Zw (Zq (I.gX hb) hp))).trans (I.dA hb),rfl⟩) rfl I.bare
theorem ab.lE(I:ab X τ z){f:Fo}{t:Nat}(k:∀b,bk z.s.heap h' b)(hp:z.s.heap.objs.size<=a)(new:f.At h' a)(nt:∀p q,f≠.tab p q:=by intro _ _ h;cases h):ab X τ ⟨up z.F a f,z.M,{ z.s with heap:=h',toks:=t }⟩:=
 I.go (Le.new (I.hok.cU hp)) (I.hok.lE k hp new nt) (λb hb=>⟨(k b).s,I.dA hb,av (Zw (Zq (I.gX hb) hp))⟩) rfl I.bare
theorem ab.put(I:ab X τ z){x e:Addr}{o o':MO}{t:Nat}(U:z.M x=some o)(VR:o.mut=true)(he:e=x\/z.M e=some (.own x))(k:∀ b,b≠e->bk z.s.heap h' b)(qM:∃ u,h'.get? e=some u)(new:ef X.G z.F (up z.M x o') h' x o'):
  ab X τ ⟨z.F,up z.M x o',{ z.s with heap:=h',toks:=t }⟩:=by
 have ne:∀b,cV X b->b≠x:=λb hb q=>by have:=I.dA hb;rw[q,U]at this;cases this
 have Fw:∀b,cV X b->b≠e:=λb hb q=>by
  rcases he with r |r
  ·exact ne b hb (q.trans r)
  ·have:=I.dA hb;rw[q,r]at this;cases this
 exact I.go Le.rfl (I.hok.put U VR he k qM new) (λb hb=>⟨(k b (Fw b hb)).s,(av (ne b hb)).trans (I.dA hb),rfl⟩) rfl I.bare
theorem ab.turn(I:ab X τ z){t:Nat}(k:∀b,b≠a->bk z.s.heap h' b)(hF:z.F a=none)(hM:z.M a=none)(Xq:¬cV X a):ab X τ ⟨z.F,z.M,{ z.s with heap:=h',toks:=t }⟩:=
 I.go Le.rfl (I.hok.keep λb hb=>k b (by rintro rfl;rcases hb with h |h;exact h hF;exact h hM)) (λb hb=>⟨(k b (by rintro rfl;exact Xq hb)).s,I.dA hb,rfl⟩) rfl I.bare
theorem ab.Fx{τ':St}(I:ab X τ z)(hl:τ'.length=τ.length)(w:∀(i:Nat)d,τ'[i]?=some (some d)->τ[i]?=some (some d)):ab X τ' z:=
 ⟨I.ok,I.bs,I.os,I.bare,I.cp,let ⟨m,hn,wE⟩:=I.loc;⟨m,hn,λi x v e1 e2 e3=>wE i x v e1 (w i v e2) e3⟩,I.cell,I.free,I.hok,hl.trans I.len⟩
theorem af.get{G:Gx}{F:Fz}:∀{ds:List D}{us:List Value}{i:Nat}{d:D},af G F ds us->ds[i]?=some d->∃u,us[i]?=some u/\aa G F d u
 |[],us,i,d,h,e=>by simp at e
 |d'::ds,us,0,d,h,e=>by rw[af]at h;obtain⟨u,r,rfl,h1,_⟩:=h;cases e;exact⟨u,rfl,h1⟩
 |d'::ds,us,i+1,d,h,e=>by rw[af]at h;obtain⟨u,r,rfl,_,h2⟩:=h;exact af.get (i:=i) h2 e
end
open Classical in
noncomputable def Cx.aR(X:Cx)(h:Heap):Fz:=λb=>if b=X.env.locals then (h.get? b).map Fo.jv else if ∃x,X.fn x=true/\X.env.cells.lookup x=some b then (h.get? b).map Fo.pin else none
structure dV(G:Gx)(A:Around)(outer:List Env)(z:Z):Prop where
 frames:A.frames=some outer
 mod:Mod G
 bs:Bs G z.F
 cp:∀env∈outer,jw G z.F env
 hok:ay G z.F z.M z.s.heap
 bare:AllBare z.s.gens
section
variable{X:Cx}{τ:St}{z z':Z}{b:Addr}{f:Fo}
theorem Cx.qO{h:Heap}:oa (X.aR h):=λb o e=>by
 unfold Cx.aR at e;split at e
 ·cases q:h.get? b <;> rw[q]at e <;> cases e
 ·split at e
  ·cases q:h.get? b <;> rw[q]at e <;> cases e
  ·cases e
theorem Cx.Fy{h:Heap}(b:Addr)(p:Pos)(q:Str):X.aR h b≠some (.tab p q):=λe=>by
 unfold Cx.aR at e;split at e
 ·cases q:h.get? b <;> rw[q]at e <;> cases e
 ·split at e
  ·cases q:h.get? b <;> rw[q]at e <;> cases e
  ·cases e
theorem ab.fX(I:ab X τ z){h:Heap}(e:X.aR h b≠none):cV X b/\z.F b=none:=by
 unfold Cx.aR at e;split at e
 ·rename_i q;exact⟨.inl q,q ▸ I.free.1⟩
 ·split at e
  ·rename_i q;obtain⟨x,h1,h2⟩:=q;refine⟨.inr ⟨x,h2⟩,?_⟩;rcases (I.cell x b h2).2.2 with r |r
   ·exact r.2
   ·rw[h1]at r;cases r.1
  ·exact absurd rfl e
theorem wL{h:Heap}(e:X.aR h b=some f):f.At h b:=by
 unfold Cx.aR at e;split at e
 ·cases q:h.get? b with
  |none=>rw[q]at e;cases e
  |some o=>rw[q]at e;cases e;exact⟨o.slots,q⟩
 ·split at e
  ·cases q:h.get? b with
   |none=>rw[q]at e;cases e
   |some o=>rw[q]at e;cases e;exact q
  ·cases e
theorem ab.og(I:ab X τ z):ay X.G (aT z.F (X.aR z.s.heap)) z.M z.s.heap:=
 I.hok.pin (λb f e=>⟨wL e,I.dA (I.fX (h:=z.s.heap) (by rw[e];exact ZK f)).1⟩) (λb e=>(I.fX e).2) X.Fy
theorem ab.dC(I:ab X τ z):Le z.F (aT z.F (X.aR z.s.heap)):=Le.pin λb e=>(I.fX e).2
theorem ab.wM(I:ab X τ z):∃o es ep,z.s.heap.get? X.env.locals=some o/\o.data=.dict es ep/\X.aR z.s.heap X.env.locals=some (.jv o):=by
 obtain⟨m,⟨o,es,ep,ho,hd,_⟩,_⟩:=I.loc;refine⟨o,es,ep,ho,hd,?_⟩;unfold Cx.aR;rw[if_pos rfl,ho];rfl
theorem ab.qP(I:ab X τ z):dV X.G X.A X.stk ⟨aT z.F (X.aR z.s.heap),z.M,z.s⟩:=by
 refine⟨I.ok.frames,I.ok.mod,I.bs.up I.dC,λenv he=>?_,I.og,I.bare⟩;rcases I.ok.stk with e |⟨e,hf⟩
 ·rw[e]at he;exact (I.cp env he).go I.dC
 ·rw[e]at he;rcases List.mem_cons.mp he with rfl |he
  ·obtain⟨o,es,ep,ho,hd,hp⟩:=I.wM;refine⟨by rw[I.ok.kind];decide,_,o,hf,dz hp,?_,λvs q=>by rw[hd]at q;cases q⟩;cases q:X.G.base.get? X.env.locals with
   |none=>rfl
   |some ob=>have:=I.bs.b _ _ q;rw[I.free.1]at this;cases this
  ·exact (I.cp env he).go I.dC
theorem ab.after(I:ab X τ z)(l:Le (aT z.F (X.aR z.s.heap)) z'.F)(ok:ay X.G z'.F z'.M z'.s.heap)(os:z'.s.os=z.s.os)(bare:AllBare z'.s.gens):ab X τ ⟨aK z'.F (X.aR z.s.heap),z'.M,z'.s⟩:=by
 refine I.go (Le.aK (λb e=>(I.fX e).2) l) (ok.aK X.qO l) (λb hb=>?_) os bare;cases q:X.aR z.s.heap b with
 |some g=>
  have h1:=l b g (dz q);refine⟨λo e=>?_,?_,?_⟩
  ·have h2:=ok.fz b g h1;have h3:=wL q;unfold Cx.aR at q;rw[e]at q;split at q
   ·cases q;exact h2
   ·split at q
    ·cases q;exact⟨o.slots,h2⟩
    ·cases q
  ·cases r:z'.M b with
   |none=>rfl
   |some o=>have:=(ok.ob b o r).1;rw[h1]at this;cases this
  ·show aK z'.F _ b=_;rw[fv q,(I.fX (h:=z.s.heap) (by rw[q];exact ZK g)).2]
 |none=>
  -- a cell of io Tt Tu
  rcases hb with rfl |⟨x,U⟩
  ·obtain⟨o,_,_,_,_,hp⟩:=I.wM;rw[q]at hp;cases hp
  ·rcases (I.cell x b U).2.2 with ⟨r,_⟩ |⟨r,o,hF⟩
   ·exfalso;obtain⟨o,ho⟩:=I.wK (.inr ⟨x,U⟩:cV X b);unfold Cx.aR at q;rw[if_neg (I.jx U),if_pos ⟨x,r,U⟩,ho]at q;cases q
   ·have h1:=l b _ (by rw[fu q];exact hF);refine⟨λo' e=>?_,?_,?_⟩
    ·have h2:z'.s.heap.get? b=some o:=ok.fz b _ h1;have h3:z.s.heap.get? b=some o:=I.hok.fz b _ hF;rw[e]at h3;cases h3;exact⟨_,h2⟩
    ·cases r':z'.M b with
     |none=>rfl
     |some o'=>have:=(ok.ob b o' r').1;rw[h1]at this;cases this
    ·show aK z'.F _ b=_;rw[fx q,h1,hF]
end
abbrev W(X:Cx){α:Type}(t:Sem α)(R:α->Shared->Prop)(s:Shared):Prop:=wpAny (model X.G.P X.G.w) X.A t R (XE X) s
abbrev QK:=D->Mp->Prop
abbrev DE:=St->Mp->QK->Prop
abbrev DT:=St->Mp->(Bool->Mp->Prop)->Prop
abbrev DA:=St->Mp->(List D->Mp->Prop)->Prop
abbrev Q1:=D->Mp->QK->Prop
abbrev Q2:=D->D->Mp->QK->Prop
abbrev QN:=List D->Mp->QK->Prop
structure En where
 nx:St->Mp->Prop
 rt:QK
 Uz:St->Mp->Prop:=λ_ _=>False
 ct:St->Mp->Prop:=λ_ _=>False
abbrev DS:=En->St->Mp->Prop
abbrev KE(X:Cx)(τ:St)(F:Fz)(Q:QK)(R:Value->Shared->Prop):Prop:=∀d z u,Le F z.F->ab X τ z->aa X.G z.F d u->Q d z.M->R u z.s
abbrev KT(X:Cx)(τ:St)(F:Fz)(Q:Bool->Mp->Prop)(R:Bool->Shared->Prop):Prop:=∀b z,Le F z.F->ab X τ z->Q b z.M->R b z.s
abbrev KA(X:Cx)(τ:St)(F:Fz)(Q:List D->Mp->Prop)(R:List Value->Shared->Prop):Prop:=∀ds z us,Le F z.F->ab X τ z->af X.G z.F ds us->Q ds z.M->R us z.s
structure KS(X:Cx)(F:Fz)(e:En)(R:Flow->Shared->Prop):Prop where
 nx:∀ τ z,Le F z.F->ab X τ z->e.nx τ z.M->R .next z.s
 rt:∀d τ z u,Le F z.F->ab X τ z->aa X.G z.F d u->e.rt d z.M->R (.ret u) z.s
 Uz:∀ τ z,Le F z.F->ab X τ z->e.Uz τ z.M->R .brk z.s
 ct:∀ τ z,Le F z.F->ab X τ z->e.ct τ z.M->R .cont z.s
theorem KS.up{X:Cx}{F F':Fz}{e:En}{R:Flow->Shared->Prop}(k:KS X F e R)(l:Le F F'):KS X F' e R:=
 ⟨fun τ z l1=>k.nx τ z (l.tr l1),λd τ z u l1=>k.rt d τ z u (l.tr l1),fun τ z l1=>k.Uz τ z (l.tr l1),fun τ z l1=>k.ct τ z (l.tr l1)⟩
def PE(X:Cx)(e:Expr)(t:DE):Prop:=∀ τ z Q R,ab X τ z->t τ z.M Q->KE X τ z.F Q R->W X (eval e X.env) R z.s
def PT(X:Cx)(e:Expr)(t:DT):Prop:=∀ τ z Q R,ab X τ z->t τ z.M Q->KT X τ z.F Q R->W X (isTrue e X.env (eval e X.env)) R z.s
def PW(X:Cx)(e:Expr)(t:DT):Prop:=∀(ir:Sem Value)τ z Q R,ab X τ z->t τ z.M Q->KT X τ z.F Q R->W X (isTrue e X.env ir) R z.s
def PA(X:Cx)(es:List Expr)(t:DA):Prop:=∀(pos:Pos)τ z Q R,ab X τ z->t τ z.M Q->KA X τ z.F Q R->W X (spliced (backTo pos (starEach es X.env))) R z.s
def PS(X:Cx)(st:Stmt)(t:DS):Prop:=∀ τ z e R,ab X τ z->t e τ z.M->KS X z.F e R->W X (exec st X.env) R z.s
def fy(X:Cx)(st:List Stmt)(t:DS):Prop:=∀ τ z e R,ab X τ z->t e τ z.M->KS X z.F e R->W X (execs st X.env) R z.s
def O1(X:Cx)(f:Value->Sem Value)(r:Q1):Prop:=∀ τ z Q R d v,ab X τ z->aa X.G z.F d v->r d z.M Q->KE X τ z.F Q R->W X (f v) R z.s
def O2(X:Cx)(f:Value->Value->Sem Value)(r:Q2):Prop:=∀ τ z Q R d e v u,ab X τ z->aa X.G z.F d v->aa X.G z.F e u->r d e z.M Q->KE X τ z.F Q R->W X (f v u) R z.s
def ON(X:Cx)(f:List Value->Sem Value)(r:QN):Prop:=∀ τ z Q R ds us,ab X τ z->af X.G z.F ds us->r ds z.M Q->KE X τ z.F Q R->W X (f us) R z.s
def iu(i:Nat):DE:=fun τ M q=>match τ[i]? with
 |some (some d)=>q d M
 |_=>False
def lH(d:D)(k:Bool->Prop):Prop:=match d with
 |.bl b=>k b
 |_=>False
def cH(d:D)(k:Int->Prop):Prop:=match d with
 |.int i=>k i
 |_=>False
def oh(r:Q2)(ta tb:DE):DE:=fun τ M q=>ta τ M λx M1=>tb τ M1 λy M2=>r x y M2 q
def jy(r:Q1)(ta:DE):DE:=fun τ M q=>ta τ M λx M1=>r x M1 q
def iw:DA:=λ_ M q=>q [] M
def wQ(ta:DE)(tr:DA):DA:=fun τ M q=>ta τ M λx M1=>tr τ M1 λxs M2=>q (x::xs) M2
def wR(t:DA):DE:=fun τ M q=>t τ M λds M1=>ds.length<=sizeLine/\q (.tup ds) M1
def cE(ds:List D)(M:Mp)(q:QK):Prop:=q (.lst ds) M\/∀p,M p=none->q (.ref p) (up M p (.lst ds))
def wU(t:DA):DE:=fun τ M q=>t τ M λds M1=>ds.length<=sizeLine/\cE ds M1 q
def wV(ta tb:DE):DE:=fun τ M q=>ta τ M λx M1=>lH x λc=>if c=true then tb τ M1 q else q (.bl false) M1
def wW(ta tb:DE):DE:=fun τ M q=>ta τ M λx M1=>lH x λc=>if c=true then q (.bl true) M1 else tb τ M1 q
def wX(ta:DE):DE:=fun τ M q=>ta τ M λx M1=>lH x λc=>q (.bl (!c)) M1
def wY(t u:DT):DT:=fun τ M q=>t τ M λc M1=>if c=true then u τ M1 q else q false M1
def wZ(t u:DT):DT:=fun τ M q=>t τ M λc M1=>if c=true then q true M1 else u τ M1 q
def w4(t:DT):DT:=fun τ M q=>t τ M λc M1=>q (!c) M1
def w5(t:DT)(ta tb:DE):DE:=fun τ M q=>t τ M λc M1=>if c=true then ta τ M1 q else tb τ M1 q
def qQ(t u:DS):DS:=λe τ M=>t { e with nx:=u e } τ M
def w6(te:DE):DS:=λe τ M=>te τ M λ_ M1=>e.nx τ M1
def w8(te:DE):DS:=λe τ M=>te τ M e.rt
def w9(t:DT)(a b:DS):DS:=λe τ M=>t τ M λc M1=>if c=true then a e τ M1 else b e τ M1
section
variable{X:Cx}{τ:St}{z:Z}
theorem ab.xc{τ':St}{m:Str->Option Value}{e:Addr}{h':Heap}{t:Nat}(I:ab X τ z)(he:e=X.env.locals\/∃ x,X.env.cells.lookup x=some e/\z.F e=none)(hs:aaN e z.s.heap h')(hn:h'.Ns X.env.locals m)
  (hl:∀(i:Nat)(x:Str)(d:D),X.N[i]?=some x->τ'[i]?=some (some d)->jt X.env.scope x->∃u,aa X.G z.F d u/\ju X.env h' m x u) (hc:∀x,X.env.cells.lookup x=some e->∃v,h'.IsCell e v) (len:τ'.length=τ.length) :
  ab X τ' ⟨z.F,z.M,{ z.s with heap:=h',toks:=t }⟩:=by
 have hF:z.F e=none/\z.M e=none:=by
  rcases he with rfl |⟨x,h1,h2⟩
  ·exact I.free
  ·exact⟨h2,(I.cell x e h1).2.1⟩
 refine⟨I.ok,I.bs,I.os,I.bare,I.cp,⟨m,hn,hl⟩,λx c q=>⟨?_,(I.cell x c q).2⟩,I.free,I.hok.keep λb hb o q=>(hs.2 b ?_).trans q,len.trans I.len⟩
 ·by_cases h:c=e
  ·rw[h];exact hc x (h ▸ q)
  ·obtain⟨⟨v,k⟩,_⟩:=I.cell x c q;exact⟨v,k.sameBut hs h⟩
 ·rintro rfl;rcases hb with h |h;exact h hF.1;exact h hF.2
theorem oi{M:Model}{A:Around}{E:Value->Shared->Prop}{i:Nat}{x:Str}{d:D}{u:Value}{Q:Unit->Shared->Prop}(I:ab X τ z)(hN:X.N.Nodup)(hi:X.N[i]?=some x)(U:iq X.env.scope x)(hf:X.fn x=true\/X.env.scope.names.lookup x=some .local)(r:aa X.G z.F d u)
  (h:∀s',ab X (τ.set i (some d)) ⟨z.F,z.M,s'⟩->Q () s'):wpAny M A (storeName X.env x u) Q E z.s:=by
 obtain⟨m,hn,hl⟩:=id I.loc;have FA:(X.env.scope.kind == .class ||(X.env.scope.kind == .module && X.env.locals != X.env.globals))=false:=by rw[I.ok.kind];rfl
 have hiσ:i < τ.length:=by rw[I.len];exact (List.getElem?_eq_some_iff.mp hi).1
 have loc:∀{h':Heap}{m':Str->Option Value}{e:Addr},aaN e z.s.heap h'->ju X.env h' m' x u->(∀ y w,y≠x->ju X.env z.s.heap m y w->ju X.env h' m' y w) ->
   ∀(j:Nat)(y:Str)(d':D),X.N[j]?=some y->(τ.set i (some d))[j]?=some (some d')->jt X.env.scope y->∃u,aa X.G z.F d' u/\ju X.env h' m' y u:=λhs h1 h2 j y d' e1 e2 e3=>by
  by_cases hj:j=i
  ·subst hj;rw[hi]at e1;cases e1;rw[List.getElem?_set_self hiσ]at e2;cases e2;exact⟨u,r,h1⟩
  ·rw[List.getElem?_set_ne (ZO hj)]at e2;obtain⟨w,r',q⟩:=hl j y d' e1 e2 e3;exact⟨w,r',h2 y w (λe=>hj (Fb hN e1 (e ▸ hi))) q⟩
 rcases U with hk |hk
 ·refine wpAny_storeName_local hk hn (λh' qR hs=>h _ (I.xc (.inl rfl) hs qR (loc hs (.inl ⟨hk,if_pos rfl⟩) λy w ne q=>?_) (λy hy=>absurd rfl (I.jx hy)) (List.length_set ..))) FA;rcases q with ⟨k,e⟩ |⟨k,c,e,q⟩
  ·exact .inl ⟨k,(if_neg ne).trans e⟩
  ·exact .inr ⟨k,c,e,q.sameBut hs (I.jx e)⟩
 ·have qS:X.fn x=true:=hf.elim id λe=>by rw[e]at hk;cases hk
  obtain⟨c,hc⟩:=I.ok.has x (.inl hk);obtain⟨⟨w',q⟩,_,hF⟩:=I.cell x c hc;refine wpAny_storeName_cell I.ok.kind hk hc q λh' dm hs=>h _ (I.xc (.inr ⟨x,hc,hF.elim (·.2) λq=>by rw[qS]at q;cases q.1⟩) hs (hn.sameBut hs (ZO (I.jx hc))) (loc hs (.inr ⟨.inl hk,c,hc,dm⟩) λy w ne q=>?_) (λ_ _=>⟨_,dm⟩) (List.length_set ..));rcases q with q |⟨k,c',e,q⟩
  ·exact .inl q
  ·exact .inr ⟨k,c',e,q.sameBut hs λe'=>ne (I.ok.inj _ _ _ (e' ▸ e) hc)⟩
end
section
variable{X:Cx}{a b c:Expr}{ta tb:DE}{tA tB:DT}{pos:Pos}{rest:List Expr}
theorem FC{i:Nat}{x:Str}(hN:X.N[i]?=some x)(hv:jt X.env.scope x)(hd:(x == ("__debug__" : Str))=false)(eg:(x == ("__classdict__" : Str))=false):PE X (.Name x pos) (iu i):=by
 intro τ z Q R I h k;unfold iu at h;split at h
 ·rename_i d e;obtain⟨m,hn,hl⟩:=I.loc;obtain⟨u,r,l⟩:=hl i x d hN e hv;have fin:=k d z u Le.rfl I r h;rcases l with ⟨hk,hm⟩ |⟨hk,c,hc,oj⟩
  ·exact wpAny_Name (wpAny_loadName_local I.ok.kind hk hn hm fin) hd
  ·rcases hk with hk |hk
   ·exact wpAny_Name (wpAny_loadName_cell I.ok.kind hk hc oj fin) hd
   ·exact wpAny_Name (wpAny_loadName_free I.ok.kind hk hc oj fin eg) hd
 ·exact h.elim
def UO(d:D):DE:=λ_ M q=>q d M
theorem lI{G:Gx}{F:Fz}{b:Bool}:aa G F (.bl b) (.bool b):=by rw[aa]
theorem cI{G:Gx}{F:Fz}{i:Int}{t:Tok}:aa G F (.int i) (.int i t):=by rw[aa];exact⟨t,rfl⟩
theorem lJ{G:Gx}{F:Fz}{x:Str}{t:Tok}:aa G F (.str x) (.str x t):=by rw[aa];exact⟨t,rfl⟩
theorem qT{G:Gx}{F:Fz}{a:Addr}:aa G F (.ref a) (.ref a):=by rw[aa]
theorem ab.fin{τ:St}{z:Z}{F:Fz}{Q:QK}{R:Value->Shared->Prop}{d:D}{u:Value}(I:ab X τ z)(k:KE X τ F Q R)(l:Le F z.F)(r:aa X.G z.F d u)(q:Q d z.M)(t:Nat):R u { z.s with toks:=t }:=k d ⟨z.F,z.M,{ z.s with toks:=t }⟩ u l (I.oe t) r q
theorem xd{i j}:PE X (.Constant (.int i) j pos) (UO (.int i)):=fun τ z Q R I h k=>wpAny_Constant_int (I.fin k Le.rfl cI h _)
theorem FD{b j}:PE X (.Constant (.bool b) j pos) (UO (.bl b)):=fun τ z Q R I h k=>Constant_bool (k (.bl b) z _ Le.rfl I lI h)
theorem FE{x j}:PE X (.Constant (.str x) j pos) (UO (.str x)):=fun τ z Q R I h k=>Calls.Constant_str (I.fin k Le.rfl lJ h _)
def Gl(X:Cx)(x:Str):Prop:=X.env.kindOf x=some .globalImplicit
theorem jz{E:Value->Shared->Prop}{τ:St}{z:Z}{x:Str}{u:Value}{Q:Value->Shared->Prop}(I:ab X τ z)(hg:Gl X x)(hm:X.G.mg x=some u)(hd:(x == ("__debug__" : Str))=false)(h:Q u z.s):wpAny (model X.G.P X.G.w) X.A (eval (.Name x pos) X.env) Q E z.s:=
 Calls.Name_function_global I.ok.kind hg (Calls.loadGlobal_global (by rw[I.ok.eI];exact I.ok.mod.eI.keeps I.Uz) hm h) hd
theorem iy{E:Value->Shared->Prop}{τ:St}{z:Z}{x:Str}{u:Value}{Q:Value->Shared->Prop}(I:ab X τ z)(hg:Gl X x)(hm:X.G.mg x=none)(hv:bootBuiltins x=some u)(hn:x≠"__name__")(hd:(x == ("__debug__" : Str))=false)(h:Q u z.s):wpAny (model X.G.P X.G.w) X.A (eval (.Name x pos) X.env) Q E z.s:=by
 obtain⟨mb,h1,h2⟩:=I.ok.mod.lF;exact Calls.Name_function_global I.ok.kind hg (Calls.loadGlobal_builtin (by rw[I.ok.eI];exact I.ok.mod.eI.keeps I.Uz) hm (by rw[I.ok.lF];exact h1.keeps I.Uz) ((h2 x hn).trans hv) h) hd
theorem FF{x:Str}{d:D}{u:Value}(hg:Gl X x)(hm:X.G.mg x=some u)(hd:(x == ("__debug__" : Str))=false)(r:∀ τ z,ab X τ z->aa X.G z.F d u):PE X (.Name x pos) (UO d):=
 fun τ z Q R I h k=>jz I hg hm hd (k d z u Le.rfl I (r τ z I) h)
theorem FG{o:Operator}{r:Q2}(ho:O2 X (binaryOp o) r)(ha:PE X a ta)(hb:PE X b tb):PE X (.BinOp a o b pos) (oh r ta tb):=fun τ z Q R I h k=>
 wpAny_BinOp (ha τ z _ _ I h λx z1 v l1 I1 r1 q1=>hb τ z1 _ _ I1 q1 λy z2 u l2 I2 r2 q2=>ho τ z2 Q _ x y v u I2 (r1.up l2.d) r2 q2 λd z3 w l3=>k d z3 w (l1.tr (l2.tr l3)))
theorem FH(ha:PT X a tA):PW X (.BoolOp .And [a] pos) tA:=λwh τ z Q R I h k=>isTrue_and (ha τ z _ _ I h λb z1 l1 I1 q1=>by
 cases b with
 |true=>exact isTrue_and_nil (k true z1 l1 I1 q1)
 |false=>exact k false z1 l1 I1 q1)
theorem FI(ha:PT X a tA):PW X (.BoolOp .Or [a] pos) tA:=λwh τ z Q R I h k=>isTrue_or (ha τ z _ _ I h λb z1 l1 I1 q1=>by
 cases b with
 |true=>exact k true z1 l1 I1 q1
 |false=>exact isTrue_or_nil (k false z1 l1 I1 q1))
theorem FJ(ha:PT X a tA)(hb:PW X (.BoolOp .And (b::rest) pos) tB):PW X (.BoolOp .And (a::b::rest) pos) (wY tA tB):=λwh τ z Q R I h k=>isTrue_and (ha τ z _ _ I h λb z1 l1 I1 q1=>by
 cases b with
 |true=>exact hb wh τ z1 Q R I1 q1 λb z2 l2=>k b z2 (l1.tr l2)
 |false=>exact k false z1 l1 I1 q1)
theorem FK(ha:PT X a tA)(hb:PW X (.BoolOp .Or (b::rest) pos) tB):PW X (.BoolOp .Or (a::b::rest) pos) (wZ tA tB):=λwh τ z Q R I h k=>isTrue_or (ha τ z _ _ I h λb z1 l1 I1 q1=>by
 cases b with
 |true=>exact k true z1 l1 I1 q1
 |false=>exact hb wh τ z1 Q R I1 q1 λb z2 l2=>k b z2 (l1.tr l2))
theorem FL(ha:PT X a tA):PT X (.UnaryOp .Not a pos) (w4 tA):=fun τ z Q R I h k=>isTrue_not (ha τ z _ _ I h λb z1 l1 I1 q1=>k (!b) z1 l1 I1 q1)
theorem xf{op}(h:PE X a ta):PE X (.BoolOp op [a] pos) ta:=fun τ z Q R I q k=>BoolOp_one (h τ z Q R I q k)
theorem qU{d:D}{k:Bool->Prop}{G:Gx}{F:Fz}{u:Value}(h:lH d k)(r:aa G F d u):∃b,u=.bool b/\k b:=by
 unfold lH at h;split at h
 ·rw[aa]at r;exact⟨_,r,h⟩
 ·exact h.elim
theorem FN(ha:PE X a ta)(hb:PE X (.BoolOp .And (b::rest) pos) tb):PE X (.BoolOp .And (a::b::rest) pos) (wV ta tb):=fun τ z Q R I h k=>BoolOp_and (ha τ z _ _ I h λx z1 v l1 I1 r1 q1=>by
 obtain⟨c,rfl,q1⟩:=qU q1 r1;refine wpAny_truthy_bool ?_;cases c with
 |true=>exact hb τ z1 Q R I1 q1 λd z2 u l2=>k d z2 u (l1.tr l2)
 |false=>exact k (.bl false) z1 _ l1 I1 lI q1)
theorem FP(ha:PE X a ta)(hb:PE X (.BoolOp .Or (b::rest) pos) tb):PE X (.BoolOp .Or (a::b::rest) pos) (wW ta tb):=fun τ z Q R I h k=>BoolOp_or (ha τ z _ _ I h λx z1 v l1 I1 r1 q1=>by
 obtain⟨c,rfl,q1⟩:=qU q1 r1;refine wpAny_truthy_bool ?_;cases c with
 |false=>exact hb τ z1 Q R I1 q1 λd z2 u l2=>k d z2 u (l1.tr l2)
 |true=>exact k (.bl true) z1 _ l1 I1 lI q1)
theorem FQ(ha:PE X a ta):PE X (.UnaryOp .Not a pos) (wX ta):=fun τ z Q R I h k=>UnaryOp_ (ha τ z _ _ I h λx z1 v l1 I1 r1 q1=>by
 obtain⟨c,rfl,q1⟩:=qU q1 r1;exact not_of (wpAny_truthy_bool (k (.bl (!c)) z1 _ l1 I1 lI q1)))
theorem FR(hc:PT X c tA)(ha:PE X a ta)(hb:PE X b tb):PE X (.IfExp c a b pos) (w5 tA ta tb):=fun τ z Q R I h k=>wpAny_IfExp (hc τ z _ _ I h λd z1 l1 I1 q1=>by
 cases d with
 |true=>exact ha τ z1 Q R I1 q1 λd z2 u l2=>k d z2 u (l1.tr l2)
 |false=>exact hb τ z1 Q R I1 q1 λd z2 u l2=>k d z2 u (l1.tr l2))
theorem xg:PA X [] iw:=λ_ τ z Q R I h k=>Calls.spliced_nil (k [] z [] Le.rfl I .nil h)
theorem xh{es:List Expr}{t:DA}(ha:PE X a ta)(hr:PA X es t)(hs:starEach (a::es) X.env=(false,eval a X.env)::starEach es X.env):PA X (a::es) (wQ ta t):=by
 intro pos τ z Q R I h k;rw[hs];show W X (spliced ((false,eval a X.env)::backTo pos (starEach es X.env))) R z.s;exact Calls.spliced_cons (ha τ z _ _ I h λx z1 v l1 I1 r1 q1=>hr pos τ z1 _ _ I1 q1 λxs z2 us l2 I2 r2 q2=>k (x::xs) z2 (v::us) (l1.tr l2) I2 (.cons (r1.up l2.d) r2) q2)
theorem qV{G:Gx}{F:Fz}{ds:List D}{us:List Value}{a:Addr}{o:Obj}(h:F a=some (.dat o))(t:n6 o us)(r:af G F ds us):aa G F (.tup ds) (.ref a):=by rw[aa];exact⟨a,o,us,rfl,h,t,r⟩
theorem om{G:Gx}{F:Fz}{ds:List D}{us:List Value}{a:Addr}{n:Nat}(h:F a=some (.dat (bJ us n)))(t:us.length<=sizeLine)(r:af G F ds us):aa G F (.lst ds) (.ref a):=by rw[aa];exact⟨a,n,us,rfl,h,t,r⟩
theorem ab.tup{τ:St}{z:Z}{ds:List D}{us:List Value}{h':Heap}{a:Addr}{o:Obj}{t:Nat}{Q:QK}{R:Value->Shared->Prop}{F:Fz}(I:ab X τ z)(k:KE X τ F Q R)(l:Le F z.F)(r:af X.G z.F ds us)(kp:∀b,bk z.s.heap h' b)(hp:z.s.heap.objs.size<=a)(ho:h'.get? a=some o)(to:n6 o us)(q:Q (.tup ds) z.M):R (.ref a) { z.s with heap:=h',toks:=t }:=
 have l1:Le z.F (up z.F a (.dat o)):=Le.new (I.hok.cU hp)
 k (.tup ds) _ _ (l.tr l1) (I.lE (t:=t) (f:=.dat o) kp hp ho) (qV ak to (r.up l1.d)) q
theorem ab.lst{τ:St}{z:Z}{ds:List D}{us:List Value}{h':Heap}{a:Addr}{n t:Nat}{Q:QK}{R:Value->Shared->Prop}{F:Fz}(I:ab X τ z)(k:KE X τ F Q R)(l:Le F z.F)(r:af X.G z.F ds us)(kp:∀b,bk z.s.heap h' b)(hp:z.s.heap.objs.size<=a)(ho:h'.get? a=some (bJ us n))(hz:us.length<=sizeLine)(q:cE ds z.M Q):R (.ref a) { z.s with heap:=h',toks:=t }:=by
 rcases q with q |q
 ·have l1:Le z.F (up z.F a (.dat (bJ us n))):=Le.new (I.hok.cU hp);exact k (.lst ds) _ _ (l.tr l1) (I.lE (t:=t) (f:=.dat (bJ us n)) kp hp ho) (om ak hz (r.up l1.d)) q
 ·exact k (.ref a) ⟨z.F,_,_⟩ _ l (I.lD (t:=t) (o:=.lst ds) kp hp ⟨by rw[r.len];exact hz,us,n,r,ho⟩) qT (q a (I.hok.dk hp))
theorem FT{es:List Expr}{t:DA}{x1}(h:PA X es t):PE X (.Tuple es x1 pos) (wR t):=fun τ z Q R I hq k=>wpAny_Tuple_spliced (h pos τ z _ _ I hq λds z1 us l1 I1 r1 q1=>by
 have hz:us.length<=sizeLine:=by rw[<- r1.len];exact q1.1
 exact⟨hz,I1.tup (t:=z1.s.toks) k l1 r1 (λb o e=>Y7 _ e) (Y8 _) (Ze _ rfl) ⟨rfl,rfl,⟨_,rfl⟩,hz⟩ q1.2⟩)
theorem FU{es:List Expr}{t:DA}(h:PA X es t):PE X (.List es pos) (wU t):=fun τ z Q R I hq k=>wpAny_List_spliced (h pos τ z _ _ I hq λds z1 us l1 I1 r1 q1=>by
 have hz:us.length<=sizeLine:=by rw[<- r1.len];exact q1.1
 exact⟨hz,I1.lst (t:=z1.s.toks) (n:=0) k l1 r1 (λb o e=>Y7 _ e) (Y8 _) (Ze _ rfl) hz q1.2⟩)
variable{st:Stmt}{wP:List Stmt}{t u:DS}
theorem FV:fy X [] (λe τ M=>e.nx τ M):=fun τ z e R I h k=>wpAny_execs_nil (k.nx τ z Le.rfl I h)
theorem FW(h1:PS X st t)(h2:fy X wP u):fy X (st::wP) (qQ t u):=fun τ z e R I h k=>wpAny_execs_cons (h1 τ z { e with nx:=u e } _ I h
 ⟨fun τ1 z1 l1 I1 q=>h2 τ1 z1 e R I1 q (k.up l1),k.rt,k.Uz,k.ct⟩)
theorem FX(h1:PS X st t):fy X [st] t:=fun τ z e R I h k=>wpAny_execs_cons (h1 τ z e _ I h ⟨fun τ1 z1 l1 I1 q=>wpAny_execs_nil (k.nx τ1 z1 l1 I1 q),k.rt,k.Uz,k.ct⟩)
theorem ab.FY{τ:St}{z:Z}(I:ab X τ z):interactive X.env=false:=by simp [interactive,I.ok.kind]
theorem FZ(he:PE X a ta)(hs:swapsWith a none pos.line X.env=pure false):PS X (.Expr a pos) (w6 ta):=fun τ z e R I h k=>wpAny_Expr_any (he τ z _ _ I h λd z1 u l1 I1 r1 q1=>k.nx τ z1 l1 I1 q1) I.FY hs
theorem F3(he:PE X a ta):PS X (.Return (some a) pos) (w8 ta):=fun τ z e R I h k=>wpAny_Return_some (he τ z _ _ I h λd z1 u l1 I1 r1 q1=>k.rt d τ z1 u l1 I1 r1 q1)
theorem F4{xs ys:List Stmt}(hc:PT X c tA)(ha:fy X xs t)(hb:fy X ys u):PS X (.If c xs ys pos) (w9 tA t u):=fun τ z e R I h k=>wpAny_If (hc τ z _ _ I h λd z1 l1 I1 q1=>by
 cases d with
 |true=>exact ha τ z1 e R I1 q1 (k.up l1)
 |false=>exact hb τ z1 e R I1 q1 (k.up l1))
theorem dE:PS X st (λ_ _ _=>False):=λ_ _ _ _ _ h _=>h.elim
theorem lK:PE X a (λ_ _ _=>False):=λ_ _ _ _ _ h _=>h.elim
theorem qW:PT X a (λ_ _ _=>False):=λ_ _ _ _ _ h _=>h.elim
theorem xi:PW X a (λ_ _ _=>False):=λ_ _ _ _ _ _ h _=>h.elim
end
end N
end
section
set_option maxHeartbeats 1000000
namespace N
open PySem PySem.Spec PyProof.Rows L2
def a7(d:D)(M:Mp)(k:List D->Prop):Prop:=match d with
 |.lst ds=>k ds
 |.ref a=>∃ds,M a=some (.lst ds)/\k ds
 |_=>False
def dF(d:D)(M:Mp)(k:List D->Prop):Prop:=match d with
 |.tup ds=>k ds
 |d=>a7 d M k
structure eJ(G:Gx)(F:Fz)(h:Heap)(a:Addr)(ds:List D)(us:List Value)(n:Nat):Prop where
 e:h.get? a=some (bJ us n)
 r:af G F ds us
 z:us.length<=sizeLine
structure qX(G:Gx)(F:Fz)(h:Heap)(a:Addr)(ds:List D)(us:List Value)(o:Obj):Prop where
 e:h.get? a=some o
 t:n6 o us
 r:af G F ds us
section
variable{X:Cx}{τ:St}{z:Z}{d:D}{u:Value}{a:Addr}
theorem eJ.p{G:Gx}{F:Fz}{h:Heap}{ds:List D}{us:List Value}{n:Nat}(l:eJ G F h a ds us n):PlainL h a us.toArray:=⟨_,n,l.e,rfl,rfl,rfl⟩
theorem qX.p{G:Gx}{F:Fz}{h:Heap}{ds:List D}{us:List Value}{o:Obj}(l:qX G F h a ds us o):IsTup h a us.toArray:=⟨o,l.e,l.t.cls,l.t.data⟩
theorem ab.eK(I:ab X τ z){ds:List D}(h:z.M a=some (.lst ds)):∃us n,eJ X.G z.F z.s.heap a ds us n:=by
 obtain⟨_,h1,us,n,r,e⟩:=I.hok.ob a _ h;exact⟨us,n,e,r,by rw[<- r.len];exact h1⟩
theorem ab.gY(I:ab X τ z){ds:List D}(r:aa X.G z.F (.lst ds) u):∃a us n,u=.ref a/\eJ X.G z.F z.s.heap a ds us n:=by
 rw[aa]at r;obtain⟨a,n,us,e,h1,h2,h3⟩:=r;exact⟨a,us,n,e,I.hok.fz a _ h1,h3,h2⟩
theorem ab.fA(I:ab X τ z){ds:List D}(r:aa X.G z.F (.tup ds) u):∃a us o,u=.ref a/\qX X.G z.F z.s.heap a ds us o:=by
 rw[aa]at r;obtain⟨a,o,us,e,h1,h2,h3⟩:=r;exact⟨a,us,o,e,I.hok.fz a _ h1,h2,h3⟩
theorem ab.a7{k:List D->Prop}(I:ab X τ z)(r:aa X.G z.F d u)(h:a7 d z.M k):∃a ds us n,u=.ref a/\eJ X.G z.F z.s.heap a ds us n/\k ds:=by
 unfold N.a7 at h;split at h
 ·obtain⟨a,us,n,e,l⟩:=I.gY r;exact⟨a,_,us,n,e,l,h⟩
 ·rw[aa]at r;obtain⟨ds,h1,h2⟩:=h;obtain⟨us,n,l⟩:=I.eK h1;exact⟨_,ds,us,n,r,l,h2⟩
 ·exact h.elim
end
abbrev DG:=D->St->Mp->(St->Mp->Prop)->Prop
def PG(X:Cx)(tg:Expr)(t:DG):Prop:=∀ τ z d u Q R,ab X τ z->aa X.G z.F d u->t d τ z.M Q->(∀ τ' z',Le z.F z'.F->ab X τ' z'->Q τ' z'.M->R () z'.s)->W X (assign tg X.env u) R z.s
inductive G where
 |one (i:Nat)
 |many (is:List Nat)
noncomputable def fB:List Nat->List D->St->St
 |i::is,d::ds,τ=>fB is ds (τ.set i (some d))
 |_,_,τ=>τ
def cJ:G->DG
 |.one i=>λd τ M k=>k (τ.set i (some d)) M
 |.many is=>λd τ M k=>dF d M λds=>ds.length=is.length/\k (fB is ds τ) M
structure iz(X:Cx)(is:List Nat)(xs:List Str):Prop where
 nd:X.N.Nodup
 ok:∀i x,(i,x)∈is.zip xs->X.N[i]?=some x/\iq X.env.scope x/\(X.fn x=true\/X.env.scope.names.lookup x=some .local)
section
variable{X:Cx}{pos:Pos}
theorem xj{i:Nat}{x:Str}(h:iz X [i] [x]):PG X (.Name x pos) (cJ (.one i)):=fun τ z d u Q R I r q k=>
 have o:=h.ok i x (List.mem_singleton.mpr rfl)
 wpAny_assign_Name (oi I h.nd o.1 o.2.1 o.2.2 r λs' I'=>k _ ⟨z.F,z.M,s'⟩ Le.rfl I' q)
theorem F6{env:Env}{x:Str}{p:Pos}{es:List Expr}:(assignEach (.Name x p::es) env).map (·.2)=assign (.Name x p) env::(assignEach es env).map (·.2):=rfl
theorem F7:∀(is:List Nat)(es:List (Str×Pos))(ds:List D){τ:St}{z:Z}{us:List Value}{R:Unit->Shared->Prop},iz X is (es.map (·.1))->is.length=es.length->ds.length=is.length->ab X τ z->af X.G z.F ds us->(∀ s',ab X (fB is ds τ) ⟨z.F,z.M,s'⟩->R () s') ->
  W X (assignInOrder ((assignEach (es.map λp=>.Name p.1 p.2) X.env).map (·.2)) us) R z.s:=by
 intro is
 induction is with
 |nil=>
  intro es ds τ z us R h hl hd I r k;cases es with
  |cons _ _=>cases hl
  |nil=>cases ds with
   |cons _ _=>cases hd
   |nil=>rw[af]at r;subst r;exact assignInOrder_nil (k z.s I)
 |cons i is ih=>
  intro es ds τ z us R h hl hd I r k;cases es with
  |nil=>cases hl
  |cons p es=>cases ds with
   |nil=>cases hd
   |cons d ds=>
    rw[af]at r;obtain⟨u,us,rfl,r1,r2⟩:=r;have o:=h.ok i p.1 Za;rw[Zh,F6];exact assignInOrder_cons (wpAny_assign_Name (oi I h.nd o.1 o.2.1 o.2.2 r1 λs' I'=>ih es ds (z:=⟨z.F,z.M,s'⟩) ⟨h.nd,λj y hj=>h.ok j y (Zc _ hj)⟩ (Nat.succ.inj hl) (Nat.succ.inj hd) I' r2 k))
theorem xk{env:Env}:∀(es:List (Str×Pos)),(assignEach (es.map λp=>Expr.Name p.1 p.2) env).length=es.length/\(assignEach (es.map λp=>Expr.Name p.1 p.2) env).findIdx? (·.1)=none
 |[]=>⟨rfl,rfl⟩
 |p::es=>by
  obtain⟨h1,h2⟩:=xk (env:=env) es;refine⟨congrArg (·+1) h1,?_⟩;show List.findIdx? _ ((false,_)::assignEach (es.map λp=>Expr.Name p.1 p.2) env)=none;rw[List.findIdx?_cons,h2];rfl
theorem F8{is:List Nat}{es:List (Str×Pos)}{k:Nat}(hc:X.calm=true)(h:iz X is (es.map (·.1)))(hl:is.length=es.length):PG X (.Tuple (es.map λp=>.Name p.1 p.2) k pos) (cJ (.many is)):=by
 intro τ z d u Q R I r q kk;obtain⟨e1,e2⟩:=xk (env:=X.env) es;have fin:∀(ds:List D)(us:List Value),af X.G z.F ds us->ds.length=is.length->Q (fB is ds τ) z.M->∀ h',(∀ b o,b≠z.s.heap.objs.size->z.s.heap.get? b=some o->h'.get? b=some o) ->
   W X (assignInOrder ((assignEach (es.map λp=>.Name p.1 p.2) X.env).map (·.2)) us) R { z.s with heap:=h' }:=λds us r hd q h' ext=>
  F7 is es ds (z:=⟨z.F,z.M,{ z.s with heap:=h',toks:=z.s.toks }⟩) h hl hd (I.b8 λb o e=>ext b o (Zw (Zv e)) e) r λs' I'=>kk _ ⟨z.F,z.M,s'⟩ Le.rfl I' q
 have lst:∀{d:D}{p:List D->Prop},aa X.G z.F d u->a7 d z.M p->(∀ds,p ds->ds.length=is.length/\Q (fB is ds τ) z.M)->W X (assign (.Tuple (es.map λp=>.Name p.1 p.2) k pos) X.env u) R z.s:=λr q hk=>by
  obtain⟨a,ds,us,n,rfl,l,q⟩:=I.a7 r q;obtain⟨hd,q⟩:=hk ds q;have len:us.toArray.size=es.length:=by rw[Zb,<- l.r.len,hd,hl]
  rw[assign_Tuple];refine Y4 (wpAny_standAt ?_);unfold unpack;rw[e1,e2,<- len];exact Y4 (ZP (PySem.W.kun_itemsOf (I.ok.hd hc) l.p.isList λh' ext=>fin ds us l.r hd q h' ext))
 unfold cJ dF at q;cases d with
 |tup ds=>
  obtain⟨a,us,o,rfl,l⟩:=I.fA r;exact assign_Tuple_tuple (I.ok.hd hc) l.p (by rw[e1,Zb,<- l.r.len,q.1,hl]) e2 λh' U=>fin ds us l.r q.1 q.2 h' U
 |lst ds=>exact lst r q λ_ h=>h
 |ref a=>exact lst r q λ_ h=>h
 |_=>exact q.elim
abbrev QS:=D->D->D->Mp->(Mp->Prop)->Prop
def OS(X:Cx)(r:QS):Prop:=∀ τ z o i d ov iv u Q R,ab X τ z->aa X.G z.F o ov->aa X.G z.F i iv->aa X.G z.F d u->r o i d z.M Q->(∀z',Le z.F z'.F->ab X τ z'->Q z'.M->R () z'.s)->W X (setItem ov iv u) R z.s
def qY(r:QS)(to ti:DE):DG:=λd τ M Q=>to τ M λo M1=>ti τ M1 λi M2=>r o i d M2 λM3=>Q τ M3
theorem F9{o i : Expr}{to ti : DE}{r : QS}(ho : PE X o to)(hi : PE X i ti)(hs : OS X r)(ha : ∀ v, assign (.Subscript o i pos) X.env v = (do
      let ov <- holding [v] (eval o X.env)
      let iv <- holding [v,ov] (eval i X.env)
      standAt pos
      holding [v,ov,iv] (setItem ov iv v)
      release [v,ov,iv] [])):PG X (.Subscript o i pos) (qY r to ti):=by
  intro τ z d u Q R I rd q k;rw[ha];exact Y4 (ZP (ho τ z _ _ I q λx z1 v l1 I1 r1 q1=>Y4 (ZP (hi τ z1 _ _ I1 q1 λy z2 w l2 I2 r2 q2=>Y4 (wpAny_standAt (Y4 (ZP
    (hs τ z2 x y d v w u _ _ I2 (r1.up l2.d) r2 (rd.up (l1.tr l2).d) q2 λz3 l3 I3 q3=>wpAny_release (k τ z3 (l1.tr (l2.tr l3)) I3 q3)))))))))
def lL(te:DE)(g:DG):DS:=λe τ M=>te τ M λd M1=>g d τ M1 e.nx
theorem xl{tg e:Expr}{te:DE}{g:DG}(he:PE X e te)(hg:PG X tg g)(hs:swapsWithSole [tg] e pos.line X.env=pure false)(hw:swappedStores [tg] e X.env=pure none)(h1:(assignEach [tg] X.env).map (·.2)=[assign tg X.env]):PS X (.Assign [tg] e pos) (lL te g):=fun τ z e R I h k=>
 wpAny_Assign_stores (he τ z _ _ I h λd z1 u l1 I1 r1 q1=>by
  rw[h1];exact hg τ z1 d u _ _ I1 r1 q1 fun τ' z' l2 I2 q2=>k.nx τ' z' (l1.tr l2) I2 q2) hs hw
theorem xm{i:Nat}{x:Str}{e:Expr}{te:DE}{p:Pos}(h:iz X [i] [x])(he:PE X e te)(hs:swapsWith e (some (.Name x p)) pos.line X.env=pure false):PS X (.Assign [.Name x p] e pos) (lL te (cJ (.one i))):=fun τ z e R I q k=>
 have o:=h.ok i x (List.mem_singleton.mpr rfl)
 wpAny_Assign_Name (he τ z _ _ I q λd z1 u l1 I1 r1 q1=>oi I1 h.nd o.1 o.2.1 o.2.2 r1 λs' I'=>k.nx _ ⟨z1.F,z1.M,s'⟩ l1 I' q1) hs
def jA(t:DT)(tb:DS)(e:En):Nat->St->Mp->Prop
 | 0,_,_=>False
 |n+1,τ,M=>t τ M λc M1=>if c=true then tb { e with nx:=jA t tb e n,ct:=jA t tb e n,Uz:=e.nx } τ M1 else e.nx τ M1
def xo(t:DT)(tb:DS):DS:=λe τ M=>∃n,jA t tb e n τ M
theorem iA:PassesOwn (model X.G.P X.G.w) X.A X.env (XE X):=by
 have:XE X=λ_ _=>False:=funext λe=>funext λs=>propext ⟨XE.no,False.elim⟩;rw[this];exact PassesOwn.never
theorem Ga{c:Expr}{body:List Stmt}{tc:DT}{tb:DS}(hc:PT X c tc)(hb:fy X body tb):PS X (.While c body [] pos) (xo tc tb):=by
 intro τ z e R I h k;obtain⟨n,h⟩:=h;refine wpAny_While (codeAny_whileLoop (λn s'=>∃ τ' z',Le z.F z'.F/\ab X τ' z'/\jA tc tb e n τ' z'.M/\z'.s=s') ?_ n ⟨τ,z,Le.rfl,I,h,rfl⟩);rintro n s1 ⟨τ1,z1,l1,I1,w1,rfl⟩;cases n with
 |zero=>exact w1.elim
 |succ n=>
  refine aa8 iA (hc τ1 z1 _ _ I1 w1 λb z2 l2 I2 q2=>?_);cases b with
  |true=>
   rw[if_pos rfl];exact aa8 iA (hb τ1 z2 _ _ I2 q2 ⟨fun τ3 z3 l3 I3 q3=>⟨n,aaV n,τ3,z3,l1.tr (l2.tr l3),I3,q3,rfl⟩,λd τ3 z3 u l3=>k.rt d τ3 z3 u (l1.tr (l2.tr l3)),fun τ3 z3 l3=>k.nx τ3 z3 (l1.tr (l2.tr l3)),fun τ3 z3 l3 I3 q3=>⟨n,aaV n,τ3,z3,l1.tr (l2.tr l3),I3,q3,rfl⟩⟩)
  |false=>
   rw[if_neg ZY];exact wpAny_execs_nil (k.nx τ1 z2 (l1.tr l2) I2 q2)
end
end N
end
section
set_option maxHeartbeats 1000000
namespace N
open PySem PySem.Spec PyProof.Rows L2
structure Fp(X:Cx)(z:Z)(b:Addr):Prop where
 f:z.F b=none
 m:z.M b=none
 o:¬cV X b
inductive qZ(X:Cx)(τ:St)(z:Z)(d:D)(u:Value)(fp:List Addr)(tn:Nat->Heap->Prop)(i:Nat)(s:Shared):Prop
 |mk {F:Fz} (l:Le z.F F) (I:ab X τ ⟨F,z.M,s⟩) (r:aa X.G F d u) (t:tn i s.heap) (n:∀b∈fp,F b=none)
structure jB(G:Gx)(tg:Expr)(xs:List D)(ok:Mp->Prop)(F0:Fz)(fp:List Addr)(it:Addr)(tn:Nat->Heap->Prop):Prop where
 obj:∀i h,tn i h->∀b∈fp,∃o,h.get? b=some o
 keep:∀i h h',tn i h->(∀b∈fp,bk h h' b)->tn i h'
 item:∀(X:Cx),X.G=G->X.calm=true->∀i τ z d E,ab X τ z->Le F0 z.F->(∀b∈fp,Fp X z b)->tn i z.s.heap->ok z.M->xs[i]?=some d ->
  wpAny (model G.P G.w) X.A (pyNext (.ref it)) (λr s1=>∃u,r=some u/\wpAny (model G.P G.w) X.A (letOwnedTupleGo tg (.ref it) u) (λ_ s2=>qZ X τ z d u fp tn (i+1) s2) E s1) E z.s
 done:∀(X:Cx),X.G=G->X.calm=true->∀i τ z E,ab X τ z->Le F0 z.F->(∀b∈fp,Fp X z b)->tn i z.s.heap->ok z.M->xs.length<=i->wpAny (model G.P G.w) X.A (pyNext (.ref it)) (λr s1=>r=none/\ab X τ ⟨z.F,z.M,s1⟩) E z.s
 self:∀(A:Around)i(s:Shared)(Q E:Value->Shared->Prop),tn i s.heap->Q (.ref it) s->wpAny (model G.P G.w) A (pyIter (.ref it)) Q E s
inductive q5(X:Cx)(tg:Expr)(xs:List D)(ok:Mp->Prop)(z:Z)(it:Addr):Prop
 |mk {fp:List Addr}{tn:Nat->Heap->Prop} (T:jB X.G tg xs ok z.F fp it tn) (t:tn 0 z.s.heap) (f:∀b∈fp,Fp X z b)
abbrev DI:=St->Mp->(List D->(Mp->Prop)->Mp->Prop)->Prop
abbrev KI(X:Cx)(τ:St)(tg:Expr)(F:Fz)(k:List D->(Mp->Prop)->Mp->Prop)(R:Value->Shared->Prop):Prop:=∀xs ok z it,Le F z.F->ab X τ z->q5 X tg xs ok z it->k xs ok z.M->R (.ref it) z.s
def PI(X:Cx)(tg iter:Expr)(t:DI):Prop:=∀ τ z k R,ab X τ z->t τ z.M k->KI X τ tg z.F k R->W X (eval iter X.env) (λv s1=>W X (pyIter v) R s1) z.s
open Classical in
noncomputable def aM(fp:List Addr)(h:Heap):Fz:=λb=>if b∈fp then (h.get? b).map Fo.pin else none
section
variable{X:Cx}{τ τ':St}{z z':Z}{fp:List Addr}{h h':Heap}{b a:Addr}
theorem jC:oa (aM fp h):=λb o e=>by
 unfold aM at e;split at e
 ·cases q:h.get? b <;> rw[q]at e <;> cases e
 ·cases e
theorem oo{f:Fo}(e:aM fp h b=some f):b∈fp/\∃o,h.get? b=some o/\f=.pin o:=by
 unfold aM at e;split at e
 ·rename_i hb;cases q:h.get? b with
  |none=>rw[q]at e;cases e
  |some o=>rw[q]at e;cases e;exact⟨hb,o,rfl,rfl⟩
 ·cases e
theorem gZ{o:Obj}(hb:b∈fp)(e:h.get? b=some o):aM fp h b=some (.pin o):=by unfold aM;rw[if_pos hb,e];rfl
theorem lM(hb:b ∉ fp):aM fp h b=none:=if_neg hb
theorem ab.lN(I:ab X τ z)(hf:∀b∈fp,Fp X z b):Le z.F (aT z.F (aM fp z.s.heap))/\ab X τ ⟨aT z.F (aM fp z.s.heap),z.M,z.s⟩:=by
 have UC:∀b,aM fp z.s.heap b≠none->z.F b=none:=λb e=>by
  cases q:aM fp z.s.heap b with
  |none=>exact absurd q e
  |some f=>exact (hf b (oo q).1).f
 refine⟨Le.pin UC,I.go (Le.pin UC) (I.hok.pin (λb f e=>?_) UC λb p q e=>by obtain⟨_,_,_,z⟩:=oo e;cases z) (λb hb=>⟨bk.s λ_ e=>e,I.dA hb,fu (lM λm=>(hf b m).o hb)⟩) rfl I.bare⟩;obtain⟨hb,o,h1,rfl⟩:=oo e;exact⟨h1,(hf b hb).m⟩
theorem ab.jD(I:ab X τ' z'){F:Fz}(hf:∀ b∈fp,F b=none/\¬cV X b)(l:Le (aT F (aM fp h)) z'.F)(bs:Bs X.G F)(of:∀ env∈X.outer,jw X.G F env):
  Le F (aK z'.F (aM fp h))/\ab X τ' ⟨aK z'.F (aM fp h),z'.M,z'.s⟩:=by
 have UC:∀b,aM fp h b≠none->F b=none:=λb e=>by
  cases q:aM fp h b with
  |none=>exact absurd q e
  |some f=>exact (hf b (oo q).1).1
 have VS:=Le.aK UC l;have ld:=cn.aK (jC (fp:=fp) (h:=h)) l;have own:∀b,cV X b->aK z'.F (aM fp h) b=z'.F b:=λb hb=>fx (lM λm=>(hf b m).2 hb);refine⟨VS,⟨I.ok,bs.up VS,I.os,I.bare,λenv he=>(of env he).go VS,?_,λx c e=>?_,⟨(own _ (.inl rfl)).trans I.free.1,I.free.2⟩,I.hok.aK jC l,I.len⟩⟩
 ·obtain⟨m,h1,h2⟩:=I.loc;exact⟨m,h1,λi x d e1 e2 e3=>let ⟨u,r,k⟩:=h2 i x d e1 e2 e3;⟨u,r.up ld,k⟩⟩
 ·obtain⟨h1,h2,h3⟩:=I.cell x c e;exact⟨h1,h2,by show (_/\aK _ _ c=none)\/_/\∃o,aK _ _ c=_;rw[own c (.inr ⟨x,e⟩)];exact h3⟩
theorem ab.q8(I:ab X τ z)(hb:z.s.heap.objs.size<=b){s':Shared}:Fp X ⟨z.F,z.M,s'⟩ b:=⟨I.hok.cU hb,I.hok.dk hb,λo=>absurd (Zq (I.gX o) hb) (aar _)⟩
def fY(ok:Mp->Prop)(g:DG)(tb:DS)(e:En):List D->St->Mp->Prop
 |[],τ,M=>ok M/\e.nx τ M
 |x::xs,τ,M=>ok M/\g x τ M fun τ1 M1=>tb { e with nx:=fY ok g tb e xs,ct:=fY ok g tb e xs,Uz:=e.nx } τ1 M1
def q9(ti:DI)(g:DG)(tb:DS):DS:=λe τ M=>ti τ M λxs ok M1=>fY ok g tb e xs τ M1
theorem Gb{tg iter:Expr}{body:List Stmt}{ti:DI}{g:DG}{tb:DS}{pos:Pos}(hc:X.calm=true)(hi:PI X tg iter ti)(hg:PG X tg g)(hb:fy X body tb)(hs:∀x,foldedSetIterable iter X.env x=pure x):PS X (.For tg iter body [] pos) (q9 ti g tb):=by
 intro τ z e R I h k;refine wpAny_For (hi τ z _ _ I h λxs ok z1 it l1 I1 bW h1=>?_) hs;obtain⟨T,t0,f0⟩:=bW;rename_i fp tn;refine codeAny_forLoop_any (λn s'=>∃i τ' z',Le z1.F z'.F/\ab X τ' z'/\tn i z'.s.heap/\(∀b∈fp,Fp X z' b)/\fY ok g tb e (xs.drop i) τ' z'.M/\n+i=xs.length/\z'.s=s') ?_ xs.length ⟨0,τ,z1,Le.rfl,I1,t0,f0,h1,rfl,rfl⟩;rintro n s3 ⟨i,τ3,z3,l3,I3,t3,f3,w3,hn,rfl⟩;cases U:xs[i]? with
 |none=>
  have hl:xs.length<=i:=List.getElem?_eq_none_iff.mp U;rw[aaA hl]at w3;refine aa8 iA (aa1 (T.done X rfl hc i τ3 z3 (XE X) I3 l3 f3 t3 w3.1 hl) (λr s4 h4=>?_) λ_ _ q=>q);obtain⟨rfl,I4⟩:=h4;exact wpAny_execs_nil (k.nx τ3 ⟨z3.F,z3.M,s4⟩ (l1.tr l3) I4 w3.2)
 |some d=>
  obtain⟨a8,hd⟩:=List.getElem?_eq_some_iff.mp U;rw[Zz a8,hd]at w3;refine aa8 iA (aa1 (T.item X rfl hc i τ3 z3 d (XE X) I3 l3 f3 t3 w3.1 U) (λr s4 h4=>?_) λ_ _ q=>q);obtain⟨u,rfl,h4⟩:=h4;refine aa8 iA (aa1 h4 (λ_ s5 h5=>?_) λ_ _ q=>q);obtain⟨l5,I5,r5,t5,n5⟩:=h5;rename_i F5;have f5:∀b∈fp,Fp X ⟨F5,z3.M,s5⟩ b:=λb hb=>⟨n5 b hb,(f3 b hb).m,(f3 b hb).o⟩;obtain⟨lp,Ip⟩:=I5.lN f5;refine aa8 iA (hg τ3 _ d u _ _ Ip (r5.up lp.d) w3.2 fun τ6 z6 l6 I6 q6=>aa8 iA (hb τ6 z6 _ _ I6 q6 ?_));have iB:∀{τ7:St}{z7:Z},Le z6.F z7.F->ab X τ7 z7->Le z.F (aK z7.F (aM fp s5.heap))/\ab X τ7 ⟨aK z7.F (aM fp s5.heap),z7.M,z7.s⟩/\(Le z1.F (aK z7.F (aM fp s5.heap))/\tn (i+1) z7.s.heap/\∀b∈fp,Fp X ⟨aK z7.F (aM fp s5.heap),z7.M,z7.s⟩ b):=λ{τ7 z7}l7 I7=>by
   have l8:=l6.tr l7;obtain⟨u1,u2⟩:=I7.jD (fp:=fp) (h:=s5.heap) (F:=F5) (λb hb=>⟨n5 b hb,(f3 b hb).o⟩) l8 I5.bs I5.cp;have bX:∀b∈fp,∃o,s5.heap.get? b=some o/\z7.F b=some (.pin o):=λb hb=>by
    obtain⟨o,ho⟩:=T.obj _ _ t5 b hb;exact⟨o,ho,l8 b _ (dz (gZ hb ho))⟩
   refine⟨l1.tr (l3.tr (l5.tr u1)),u2,l3.tr (l5.tr u1),T.keep _ _ _ t5 λb hb o ho=>?_,λb hb=>?_⟩
   ·obtain⟨o',h1,h2⟩:=bX b hb;rw[ho]at h1;cases h1;exact I7.hok.fz b _ h2
   ·obtain⟨o',h1,h2⟩:=bX b hb;refine⟨fv (gZ hb h1),?_,(f3 b hb).o⟩;cases q:z7.M b with
    |none=>rfl
    |some m=>have:=(I7.hok.ob b m q).1;rw[h2]at this;cases this
  have again:∀ τ7 z7,Le z6.F z7.F->ab X τ7 z7->fY ok g tb e (xs.drop (i+1)) τ7 z7.M->∃m,m<n/\∃i τ' z',Le z1.F z'.F/\ab X τ' z'/\tn i z'.s.heap/\(∀b∈fp,Fp X z' b)/\fY ok g tb e (xs.drop i) τ' z'.M/\m+i=xs.length/\z'.s=z7.s:=fun τ7 z7 l7 I7 q7=>by
   obtain⟨_,u2,u3,u4,u5⟩:=iB l7 I7;exact⟨n-1,by lia,i+1,τ7,_,u3,u2,u4,u5,q7,by lia,rfl⟩
  exact⟨again,λXr τ7 z7 u7 l7 I7 r7 q7=>by
    obtain⟨u1,u2,_⟩:=iB l7 I7;exact k.rt Xr τ7 ⟨aK z7.F (aM fp s5.heap),z7.M,z7.s⟩ u7 u1 u2 (r7.up (cn.aK (F:=F5) jC (l6.tr l7))) q7,
   fun τ7 z7 l7 I7 q7=>by
    obtain⟨u1,u2,_⟩:=iB l7 I7;exact k.nx τ7 ⟨aK z7.F (aM fp s5.heap),z7.M,z7.s⟩ u1 u2 q7,again⟩
end
end N
end
section
set_option maxHeartbeats 1000000
namespace N
open PySem PySem.Spec PyProof.Rows L2
section
variable{X:Cx}{τ:St}{z:Z}{fp:List Addr}{h':Heap}{a:Addr}{t:Nat}
theorem ab.g5(I:ab X τ z)(hf:∀b∈fp,Fp X z b)(k:∀b,b ∉ fp->bk z.s.heap h' b):ab X τ ⟨z.F,z.M,{ z.s with heap:=h',toks:=t }⟩:=
 I.go Le.rfl (I.hok.keep λb hb=>k b λm=>hb.elim (λh=>h (hf b m).f) λh=>h (hf b m).m) (λb hb=>⟨(k b λm=>(hf b m).o hb).s,I.dA hb,rfl⟩) rfl I.bare
end
def rb(G:Gx)(F0:Fz)(q:Bool)(a:Addr)(xs:List D)(ok:Mp->Prop):Prop:=∀(X:Cx)τ z,X.G=G->ab X τ z->Le F0 z.F->ok z.M->∃us,af G z.F xs us/\us.length<=sizeLine/\Fc q z.s.heap a us.toArray
def lO(d:D)(M:Mp)(k:List D->(Mp->Prop)->Prop):Prop:=match d with
 |.tup ds=>k ds λ_=>True
 |.lst ds=>k ds λ_=>True
 |.ref a=>∃ds,M a=some (.lst ds)/\k ds λM'=>M' a=some (.lst ds)
 |_=>False
theorem ab.src{X:Cx}{τ:St}{z:Z}{d:D}{u:Value}{k:List D->(Mp->Prop)->Prop}(I:ab X τ z)(r:aa X.G z.F d u)(h:lO d z.M k):∃q a xs ok,u=.ref a/\rb X.G z.F q a xs ok/\ok z.M/\k xs ok:=by
 unfold lO at h;split at h
 ·rw[aa]at r;obtain⟨a,o,us,e,h1,h2,h3⟩:=r;exact⟨true,a,_,_,e,λX' τ' z' g I' l _=>⟨us,g ▸ h3.up l.d,h2.len,o,I'.hok.fz a _ (l a _ h1),h2.cls,h2.data⟩,trivial,h⟩
 ·rw[aa]at r;obtain⟨a,n,us,e,h1,h2,h3⟩:=r;exact⟨false,a,_,_,e,λX' τ' z' g I' l _=>⟨us,g ▸ h3.up l.d,h2,_,I'.hok.fz a _ (l a _ h1),rfl,n,rfl⟩,trivial,h⟩
 ·rw[aa]at r;obtain⟨ds,h1,h2⟩:=h;refine⟨false,_,ds,_,r,λX' τ' z' g I' l q=>?_,h1,h2⟩;obtain⟨us,n,e1,e2,e3⟩:=I'.eK q;exact⟨us,g ▸ e2,e3,_,e1,rfl,n,rfl⟩
 ·exact h.elim
section
variable{X:Cx}{tg:Expr}{G:Gx}{F0:Fz}{xs:List D}{ok:Mp->Prop}{a:Addr}
theorem jE{G:Gx}{F:Fz}{ds:List D}{us:List Value}{i:Nat}{d:D}(r:af G F ds us)(h:ds[i]?=some d):∃u,us.toArray[i]?=some u/\aa G F d u:=by
 obtain⟨u,h1,h2⟩:=r.get h;exact⟨u,by simpa using h1,h2⟩
theorem xp{G:Gx}{F:Fz}{ds:List D}{us:List Value}{i:Nat}(r:af G F ds us)(h:ds.length<=i):us.toArray[i]?=none:=by
 rw[r.len]at h;simpa using h
theorem oq{it b:Addr}(hb:b∈[it]):b=it:=by simpa using hb
theorem Ge{q:Bool}{it:Addr}(S:rb G F0 q a xs ok):jB G tg xs ok F0 [it] it (λi h=>qK q h it a i) where
 obj:=λi h st b hb=>by obtain⟨o,e,_⟩:=st;exact⟨o,by rw[oq hb];exact e⟩
 keep:=λi h h' st k=>by obtain⟨o,e,c⟩:=st;exact⟨o,k it (List.mem_singleton.mpr rfl) _ e,c⟩
 item:=by
  intro X hG hc i τ z d E I l hf st hok hd;subst hG;obtain⟨us,r,hz,hq⟩:=S X τ z rfl I l hok;obtain⟨u,hu,ru⟩:=jE r hd;have fin:∀h',qK q h' it a (i+1)->aaN it z.s.heap h'->∃u',(some u:Option Value)=some u'/\wpAny (model X.G.P X.G.w) X.A (letOwnedTupleGo tg (.ref it) u') (λ_ s2=>qZ X τ z d u' [it] (λi h=>qK q h it a i) (i+1) s2) E { z.s with heap:=h' }:=λh' st' sb=>by
   obtain⟨o,e,c,Vd⟩:=id st';refine⟨u,rfl,qJ (s:={ z.s with heap:=h' }) e c Vd (by cases q <;> decide) ⟨Le.rfl,I.g5 (t:=z.s.toks) hf (λb hb o' e'=>(sb.2 b λq=>hb (List.mem_singleton.mpr q)).trans e'),ru,st',λb hb=>(hf b hb).f⟩⟩
  cases q with
  |true=>exact wpAny_pyNext_tuple_item st hq hu fin
  |false=>exact wpAny_pyNext_list_item st hq hu fin
 done:=by
  intro X hG hc i τ z E I l hf st hok hd;subst hG;obtain⟨us,r,hz,hq⟩:=S X τ z rfl I l hok;have fin:∀h',Heap.ExtBut it z.s.heap h'->(none:Option Value)=none/\ab X τ ⟨z.F,z.M,{ z.s with heap:=h' }⟩:=λh' eb=>⟨rfl,I.g5 (t:=z.s.toks) hf λb hb o e=>eb b o (λq=>hb (List.mem_singleton.mpr q)) e⟩;cases q with
  |true=>exact wpAny_pyNext_tuple_end (I.ok.hd hc) st hq (xp r hd) fin
  |false=>exact wpAny_pyNext_list_end (I.ok.hd hc) st hq (xp r hd) fin
 self:=λ_ _ _ _ _ st h=>by
  cases q with
  |true=>exact wpAny_pyIter_tupleiter st h
  |false=>exact wpAny_pyIter_listiter st h
noncomputable def cF(lo:Int)(n:Nat):List D:=(ZL n).map λi:Nat=>.int (lo+(i:Int))
theorem Gf{it:Addr}{lo:Int}{n:Nat}:jB G tg (cF lo n) ok F0 [it] it (λi h=>IsRangeIter h it (lo+(i:Nat) * 1) ((n:Int)-(i:Nat)) 1) where
 obj:=λi h st b hb=>by rw[oq hb];exact⟨_,st⟩
 keep:=λi h h' st k=>k it (List.mem_singleton.mpr rfl) _ st
 item:=by
  intro X hG hc i τ z d E I l hf st hok hd;subst hG;unfold cF at hd;rw[Zr]at hd;obtain⟨j,hj,rfl⟩:=Option.map_eq_some_iff.mp hd;obtain⟨hi,e⟩:=List.getElem?_eq_some_iff.mp hj;rw[Z1]at hi;rw[List.getElem_range]at e;subst e;refine (Walks.range (prog:=X.G.P) (w:=X.G.w) (I.ok.hd hc) it lo 1 n).item i z.s _ _ hi st λv h' tk hv st' kk=>?_;obtain⟨t,rfl⟩:=hv;refine⟨_,rfl,qJ (s:={ z.s with heap:=h',toks:=tk }) (n:="range_iterator") st' rfl rfl (by decide) ⟨Le.rfl,I.g5 hf λb hb o e=>kk b o hb e,?_,st',λb hb=>(hf b hb).f⟩⟩;rw[Int.mul_one];exact cI
 done:=by
  intro X hG hc i τ z E I l hf st hok hd;subst hG;unfold cF at hd;rw[Y6,Z1]at hd;exact wpAny_pyNext_range_end (I.ok.hd hc) st (by lia) λh' eb=>⟨rfl,I.g5 (t:=z.s.toks) hf λb hb o e=>eb b o (λq=>hb (List.mem_singleton.mpr q)) e⟩
 self:=λ_ _ _ _ _ st h=>wpAny_pyIter_rangeiter st h
variable{e:Expr}{te:DE}
theorem ot{τ:St}{z:Z}{s':Shared}{it:Addr}{tn:Nat->Heap->Prop}(I:ab X τ z)(h:z.s.heap.objs.size<=it)(T:jB X.G tg xs ok z.F [it] it tn)(t:tn 0 s'.heap):q5 X tg xs ok ⟨z.F,z.M,s'⟩ it:=.mk T t λb hb=>by rw[oq hb];exact I.q8 h
def xq(t:DE):DI:=fun τ M k=>t τ M λd M1=>cH d λn=>-(2 ^ 62)<=n/\n<2 ^ 62/\k (cF 0 n.toNat) (λ_=>True) M1
theorem dG{d:D}{k:Int->Prop}{G:Gx}{F:Fz}{u:Value}(h:cH d k)(r:aa G F d u):∃i t,u=.int i t/\k i:=by
 unfold cH at h;split at h
 ·rw[aa]at r;obtain⟨t,e⟩:=r;exact⟨_,t,e,h⟩
 ·exact h.elim
theorem Gg{τ:St}{z:Z}{F:Fz}{R:Value->Shared->Prop}{k:List D->(Mp->Prop)->Mp->Prop}{lo hi:Int}{t u v:Tok}{tk:Nat}(I:ab X τ z)(K:KI X τ tg F k R)(l:Le F z.F)(h:-(2 ^ 62)<=lo/\lo<2 ^ 62/\-(2 ^ 62)<=hi/\hi<2 ^ 62)(q:k (cF lo (hi-lo).toNat) (λ_=>True) z.M):
  W X (pyIter (.ref z.s.heap.objs.size)) R { z.s with heap:=z.s.heap.push { cls:=.type "range",data:=.fields #[.int lo t,.int hi u,.int 1 v] },toks:=tk }:=by
 refine wpAny_pyIter_range (IsRange.new ..) (small_one h.1 h.2.1 h.2.2.1 h.2.2.2) ?_;have I1:ab X τ ⟨z.F,z.M,{ z.s with heap:=z.s.heap.push { cls:=.type "range",data:=.fields #[.int lo t,.int hi u,.int 1 v] },toks:=tk }⟩:=I.b8 λb o e=>Y7 _ e;refine K _ _ ⟨z.F,z.M,_⟩ _ l (I1.b8 (t:=tk) λb o e=>Y7 _ e) (ot I (by rw[ZZ];exact aag _) (Gf (n:=(hi-lo).toNat) (lo:=lo)) ?_) q;have e1:lo+((0:Nat):Int) * 1=lo:=by simp
 have e2:(((hi-lo).toNat:Nat):Int)-((0:Nat):Int)=Builtin.Range.rangeSize lo hi 1:=by rw[rangeSize_one];split <;> lia
 show IsRangeIter _ _ (lo+((0:Nat):Int) * 1) ((((hi-lo).toNat:Nat):Int)-((0:Nat):Int)) 1;rw[e1,e2];exact Ze _ rfl
variable{a b:Expr}{ta tb:DE}{p pos:Pos}
theorem xr(ha:PE X a ta)(hs:starEach [a] X.env=[(false,eval a X.env)])(pos:Pos){τ:St}{z:Z}{Q:QK}{R:List Value->Shared->Prop}(I:ab X τ z)(h:ta τ z.M Q)(k:∀d z' u,Le z.F z'.F->ab X τ z'->aa X.G z'.F d u->Q d z'.M->R [u] z'.s):W X (spliced (backTo pos (starEach [a] X.env))) R z.s:=by
 rw[hs];exact Calls.spliced_cons (ha τ z _ _ I h λd z1 u l1 I1 r1 q1=>Calls.spliced_nil (k d z1 u l1 I1 r1 q1))
theorem iC{G:Gx}{F:Fz}{d:D}{us:List Value}(h:af G F [d] us):∃u,us=[u]/\aa G F d u:=by
 rw[af]at h;obtain⟨u,r,rfl,h1,h2⟩:=h;rw[af]at h2;subst h2;exact⟨u,rfl,h1⟩
theorem xt{G:Gx}{F:Fz}{d e:D}{us:List Value}(h:af G F [d,e] us):∃u v,us=[u,v]/\aa G F d u/\aa G F e v:=by
 rw[af]at h;obtain⟨u,r,rfl,h1,h2⟩:=h;obtain⟨v,rfl,h3⟩:=iC h2;exact⟨u,v,rfl,h1,h3⟩
theorem Gh(hg:Gl X "range")(hm:X.G.mg "range"=none)(ha:PE X a ta)(hs:starEach [a] X.env=[(false,eval a X.env)]):PI X tg (.Call (.Name "range" p) [a] [] pos) (xq ta):=fun τ z k R I h K=>
 Call_ (iy I hg hm boot_range (by decide) (by decide) (aaP (xr ha hs pos I h λd z1 u l1 I1 r1 q1=>by
  obtain⟨i,t,rfl,h1,h2,q⟩:=dG q1 r1;exact call_range_1 (Gg I1 K l1 ⟨by decide,by decide,h1,h2⟩ (by simpa using q))) hs rfl))
end
section
variable{prog:Program}{w:World}{A:Around}{E:Value->Shared->Prop}{s:Shared}
end
section
variable{prog:Program}{w:World}{A:Around}{E:Value->Shared->Prop}{s:Shared}
end
end N
end
section
set_option maxHeartbeats 1000000
namespace N
open PySem PySem.Spec PyProof.Rows L2
section
variable{X:Cx}{G:Gx}{F0:Fz}{xs ys:List D}{ok Tv:Mp->Prop}{a b:Addr}{p q:Bool}{wS:List Expr}{kk:Nat}{tp:Pos}
variable{ea eb:Expr}{ta tb:DE}{pn pos:Pos}{tg:Expr}
def fZ(q:Bool)(h:Heap)(it a:Addr)(i:Int):Prop:=match q with
 |true=>ee h it a i
 |false=>h.IsRevIter it a i
theorem fZ.o{h:Heap}{it:Addr}{i:Int}(x:fZ q h it a i):∃o n vs,h.get? it=some o/\o.cls=.type n/\o.data=.fields vs/\["enumerate","zip","dict_itemiterator","dict_reverseitemiterator","odict_iterator","itertools.zip_longest","itertools.pairwise"].contains n=false:=by
 cases q with
 |true=>obtain⟨o,e,c,d⟩:=x;exact⟨o,_,_,e,c,d,by decide⟩
 |false=>obtain⟨o,e,c,d⟩:=x;exact⟨o,_,_,e,c,d,by decide⟩
theorem fZ.at{h h':Heap}{it:Addr}{i:Int}(x:fZ q h it a i)(k:bk h h' it):fZ q h' it a i:=by
 cases q with
 |true=>exact ee.at x k
 |false=>exact Heap.IsRevIter.at x k
theorem Gi{it:Addr}{n:Nat}(hn:n=xs.length)(S:rb G F0 q a xs ok):jB G tg xs.reverse ok F0 [it] it (λi h=>i<=n/\fZ q h it a ((n:Int)-1-(i:Int))) where
 obj:=λi h st b hb=>by rw[oq hb];obtain⟨o,_,_,e,_⟩:=st.2.o;exact⟨o,e⟩
 keep:=λi h h' st k=>⟨st.1,st.2.at (k it (List.mem_singleton.mpr rfl))⟩
 item:=by
  intro X hG hc i τ z d E I l hf st hok hd;subst hG;have hi:i<n:=by have:=(List.getElem?_eq_some_iff.mp hd).1;rw[List.length_reverse]at this;lia
  rw[List.getElem?_reverse (by lia),<- hn]at hd;obtain⟨us,r1,hz,h1⟩:=S X τ z rfl I l hok;obtain⟨u,hu,ru⟩:=jE r1 hd;have st2:=st.2;rw[show (n:Int)-1-(i:Int)=((n-1-i:Nat):Int) by lia]at st2;have fin:∀h' tk,fZ q h' it a (((n-1-i:Nat):Int)-1)->aaN it z.s.heap h'->∃u',(some u:Option Value)=some u'/\wpAny (model X.G.P X.G.w) X.A (letOwnedTupleGo tg (.ref it) u') (λ_ s2=>qZ X τ z d u' [it] (λi h=>i<=n/\fZ q h it a ((n:Int)-1-(i:Int))) (i+1) s2) E { z.s with heap:=h',toks:=tk }:=λh' tk st' sb=>by
   obtain⟨o,_,_,e,c,Vd,qR⟩:=st'.o;refine⟨u,rfl,qJ (s:={ z.s with heap:=h',toks:=tk }) e c Vd qR ⟨Le.rfl,I.g5 (t:=tk) hf (λb hb o' e'=>(sb.2 b λq=>hb (List.mem_singleton.mpr q)).trans e'),ru,⟨hi,?_⟩,λb hb=>(hf b hb).f⟩⟩;rw[show (n:Int)-1-((i+1:Nat):Int)=((n-1-i:Nat):Int)-1 by lia];exact st'
  cases q with
  |true=>exact Ft st2 h1 (by rw[Zb];exact hz) hu fin
  |false=>exact wpAny_pyNext_rev_item st2 h1 hu λh'=>fin h' z.s.toks
 done:=by
  intro X hG hc i τ z E I l hf st hok hd;subst hG;rw[List.length_reverse]at hd;have st2:=st.2;rw[show (n:Int)-1-(i:Int)=-1 by have:=st.1;lia]at st2
  have fin:∀h' tk,Heap.ExtBut it z.s.heap h'->(none:Option Value)=none/\ab X τ ⟨z.F,z.M,{ z.s with heap:=h',toks:=tk }⟩:=λh' tk eb=>⟨rfl,I.g5 hf λb hb o e=>eb b o (λq=>hb (List.mem_singleton.mpr q)) e⟩;cases q with
  |true=>exact Fu (I.ok.hd hc) st2 fin
  |false=>exact wpAny_pyNext_rev_end (I.ok.hd hc) st2 λh'=>fin h' z.s.toks
 self:=λ_ _ _ _ _ st h=>by
  cases q with
  |true=>exact wG st.2 h
  |false=>exact wpAny_pyIter_revIter st.2 h
def xu(t:DE):DI:=fun τ M k=>t τ M λd M1=>lO d M1 λxs ok=>k xs.reverse ok M1
theorem Gj(hg:Gl X "reversed")(hm:X.G.mg "reversed"=none)(ha:PE X ea ta)(hs:starEach [ea] X.env=[(false,eval ea X.env)]):PI X tg (.Call (.Name "reversed" pn) [ea] [] pos) (xu ta):=fun τ z k R I h K=>
 Call_ (iy I hg hm boot_reversed (by decide) (by decide) (aaP (xr ha hs pos I h λd z1 u l1 I1 r1 q1=>by
  obtain⟨q,x,xs,ok,rfl,S,hok,q1⟩:=I1.src r1 q1;obtain⟨us,rr,hz,h1⟩:=S X τ z1 rfl I1 Le.rfl hok;have e0:((us.toArray.size:Nat):Int)-1=(xs.length:Int)-1-((0:Nat):Int):=by rw[Zb,<- rr.len];simp
  have fin:∀h' tk,fZ q h' z1.s.heap.objs.size x ((us.toArray.size:Int)-1)->(∀b o,z1.s.heap.get? b=some o->h'.get? b=some o)->R (.ref z1.s.heap.objs.size) { z1.s with heap:=h',toks:=tk }:=λh' tk Z keep=>
   K _ _ ⟨z1.F,z1.M,_⟩ _ l1 (I1.b8 λb o e=>keep b o e) (ot I1 (Y8 _) (Gi rfl S) ⟨Zj _,by rw[<- e0];exact Z⟩) q1
  cases q with
  |true=>exact Fs h1 (by rw[Zb];exact hz) λh' tk Z n2 keep=>wG Z (fin h' tk Z keep)
  |false=>exact call_reversed_list h1 (wpAny_pyIter_revIter (l:=x) (i:=(us.toArray.size:Int)-1) ⟨_,Ze _ rfl,rfl,rfl⟩ (fin _ z1.s.toks ⟨_,Ze _ rfl,rfl,rfl⟩ λb o e=>Y7 _ e))) hs rfl))
end
end N
end
section
set_option maxHeartbeats 1000000
namespace N
open PySem PySem.Spec PyProof.Rows L2
noncomputable def rg:D->Option (List D)
 |.tup ds=>some ds
 |_=>none
noncomputable def rh:D->Option (List D)
 |.lst ds=>some ds
 |_=>none
noncomputable def oI:D->Option Int
 |.int i=>some i
 |.bl b=>some (if b then 1 else 0)
 |_=>none
noncomputable def lP:D->Option Str
 |.str x=>some x
 |_=>none
noncomputable def Gk:D->Bool
 |.az=>true
 |_=>false
mutual
noncomputable def aw:D->D->Bool
 |.az=>Gk
 |.bl a=>λe=>oI e == some (if a then 1 else 0)
 |.int a=>λe=>oI e == some a
 |.str a=>λe=>lP e == some a
 |.tup a=>λe=>(rg e).any (bo a)
 |.lst a=>λe=>(rh e).any (bo a)
 |.ref _=>λ_=>false
 |.ty _=>λ_=>false
 |.au _ _=>λ_=>false
noncomputable def bo:List D->List D->Bool
 |[]=>List.isEmpty
 |d::ds=>λes=>match es with
  |e::es=>aw d e && bo ds es
  |[]=>false
end
mutual
noncomputable def aF:D->Bool
 |.az=>true
 |.bl _=>true
 |.int _=>true
 |.str _=>true
 |.tup ds=>aP ds
 |.lst ds=>aP ds
 |.ref _=>false
 |.ty _=>false
 |.au _ _=>false
noncomputable def aP:List D->Bool
 |[]=>true
 |d::ds=>aF d && aP ds
end
mutual
noncomputable def aI:D->Nat
 |.tup ds=>aW ds+1
 |.lst ds=>aW ds+1
 |.az=>0
 |.bl _=>0
 |.int _=>0
 |.str _=>0
 |.ref _=>0
 |.ty _=>0
 |.au _ _=>0
noncomputable def aW:List D->Nat
 |[]=>0
 |d::ds=>max (aI d) (aW ds)
end
inductive Sh(G:Gx)(F:Fz)(s:Shared):D->Value->Prop
 |az:Sh G F s .az .none
 |bl {b}:Sh G F s (.bl b) (.bool b)
 |int {i t}:Sh G F s (.int i) (.int i t)
 |str {x t}:Sh G F s (.str x) (.str x t)
 |tup {ds us a} (h:s.heap.IsTuple a us.toArray) (r:af G F ds us) (k:aP ds=true):Sh G F s (.tup ds) (.ref a)
 |lst {ds us a} (h:s.heap.IsList a us.toArray) (r:af G F ds us) (k:aP ds=true):Sh G F s (.lst ds) (.ref a)
section
variable{G:Gx}{F:Fz}{M:Mp}{s:Shared}{A:Around}
theorem fC(ok:ay G F M s.heap){d:D}{u:Value}(r:aa G F d u)(h:aF d=true):Sh G F s d u:=by
 cases d with
 |az=>rw[aa]at r;subst r;exact .az
 |bl b=>rw[aa]at r;subst r;exact .bl
 |int i=>rw[aa]at r;obtain⟨t,rfl⟩:=r;exact .int
 |str i=>rw[aa]at r;obtain⟨t,rfl⟩:=r;exact .str
 |tup ds=>rw[aa]at r;obtain⟨a,o,us,rfl,h1,h2,h3⟩:=r;rw[aF]at h;exact .tup ⟨o,ok.fz a _ h1,h2.cls,h2.data⟩ h3 h
 |lst ds=>rw[aa]at r;obtain⟨a,n,us,rfl,h1,h2,h3⟩:=r;rw[aF]at h;exact .lst ⟨_,ok.fz a _ h1,rfl,n,rfl⟩ h3 h
 |ref a=>rw[aF]at h;cases h
 |ty n=>rw[aF]at h;cases h
 |au ks ds=>rw[aF]at h;cases h
theorem jF:∀{ds:List D}{i:Nat}{d:D},aP ds=true->ds[i]?=some d->aF d=true/\aI d<=aW ds
 |[],i,d,_,h=>by simp at h
 |c::ds,0,d,k,h=>by rw[aP,Zf]at k;cases h;exact⟨k.1,by rw[aW];exact ZI _ _⟩
 |c::ds,i+1,d,k,h=>by
  rw[aP,Zf]at k;obtain⟨h1,h2⟩:=jF (i:=i) (d:=d) k.2 h;exact⟨h1,by rw[aW];exact Y9 h2 (ZQ _ _)⟩
theorem iE:∀(ds es:List D),bo ds es=((ZL (min ds.length es.length)).all (λj=>((ds[j]?).bind λd=>(es[j]?).map (aw d)).getD false) && (ds.length == es.length))
 |[],[]=>rfl
 |[],e::es=>by rw[bo];rfl
 |d::ds,[]=>by rw[bo];rfl
 |d::ds,e::es=>by
  rw[bo];show (aw d e && bo ds es)=_;rw[iE ds es,Zg,Zg,Nat.succ_min_succ,List.range_succ_eq_map,List.all_cons,List.all_map];simp only[List.getElem?_cons_zero,Option.bind_some,Option.map_some,Option.getD_some,Bool.and_assoc]
  congr 1
  congr 1
  rw[aal];simp
mutual
theorem xv:∀(d:D){e:D}{u:Value},aa G F d u->aa G F e u->aF d=true->aF e=true->d=e
 |.az,e,u,r,r',k,k'=>by
  rw[aa]at r;subst r;cases e <;> first |rfl |(rw[aa]at r';first |(obtain⟨_,_,_,q,_⟩:=r';cases q;done) |(obtain⟨_,q⟩:=r';cases q;done) |(cases r';done))
 |.bl b,e,u,r,r',k,k'=>by
  rw[aa]at r;subst r;cases e <;> (rw[aa]at r';first |(obtain⟨_,_,_,q,_⟩:=r';cases q;done) |(obtain⟨_,q⟩:=r';cases q;done) |(cases r';done) |(cases r';rfl))
 |.int b,e,u,r,r',k,k'=>by
  rw[aa]at r;obtain⟨t,rfl⟩:=r;cases e <;> (rw[aa]at r';first |(obtain⟨_,_,_,q,_⟩:=r';cases q;done) |(obtain⟨_,q⟩:=r';cases q;done) |(cases r';done) |(obtain⟨_,q⟩:=r';cases q;rfl))
 |.str b,e,u,r,r',k,k'=>by
  rw[aa]at r;obtain⟨t,rfl⟩:=r;cases e <;> (rw[aa]at r';first |(obtain⟨_,_,_,q,_⟩:=r';cases q;done) |(obtain⟨_,q⟩:=r';cases q;done) |(cases r';done) |(obtain⟨_,q⟩:=r';cases q;rfl))
 |.tup ds,e,u,r,r',k,k'=>by
  rw[aa]at r;obtain⟨a,o,us,rfl,h1,h2,h3⟩:=r;cases e with
  |tup es=>
   rw[aa]at r';obtain⟨b,o',vs,q,g1,g2,g3⟩:=r';cases q;rw[h1]at g1;cases g1;obtain⟨n,e1⟩:=h2.data;obtain⟨n',e2⟩:=g2.data;rw[e1]at e2;injection e2 with e3 _;cases (show us=vs by simpa using congrArg Array.toList e3);rw[aF]at k k';rw[ou ds h3 g3 k k']
  |lst es=>
   rw[aa]at r';obtain⟨b,o',vs,q,g1,g2,g3⟩:=r';cases q;rw[h1]at g1;cases g1;have:=h2.cls;injection this with this;exact absurd this (by decide)
  |ref b=>rw[aF]at k';cases k'
  |au _ _=>rw[aF]at k';cases k'
  |ty _=>rw[aF]at k';cases k'
  |az=>rw[aa]at r';cases r'
  |bl _=>rw[aa]at r';cases r'
  |int _=>rw[aa]at r';obtain⟨_,q⟩:=r';cases q
  |str _=>rw[aa]at r';obtain⟨_,q⟩:=r';cases q
 |.lst ds,e,u,r,r',k,k'=>by
  rw[aa]at r;obtain⟨a,n,us,rfl,h1,h2,h3⟩:=r;cases e with
  |lst es=>
   rw[aa]at r';obtain⟨b,n',vs,q,g1,g2,g3⟩:=r';cases q;rw[h1]at g1;have e3:bJ us n=bJ vs n':=Fo.dat.inj (ZJ g1);unfold bJ at e3;injection e3 with _ _ e3 _;injection e3 with e3 _;cases (show us=vs by simpa using congrArg Array.toList e3);rw[aF]at k k';rw[ou ds h3 g3 k k']
  |tup es=>
   rw[aa]at r';obtain⟨b,o',vs,q,g1,g2,g3⟩:=r';cases q;rw[h1]at g1;cases g1;have:=g2.cls;injection this with this;exact absurd this (by decide)
  |ref b=>rw[aF]at k';cases k'
  |au _ _=>rw[aF]at k';cases k'
  |ty _=>rw[aF]at k';cases k'
  |az=>rw[aa]at r';cases r'
  |bl _=>rw[aa]at r';cases r'
  |int _=>rw[aa]at r';obtain⟨_,q⟩:=r';cases q
  |str _=>rw[aa]at r';obtain⟨_,q⟩:=r';cases q
 |.ref _,_,_,_,_,k,_=>by rw[aF]at k;cases k
 |.ty _,_,_,_,_,k,_=>by rw[aF]at k;cases k
 |.au _ _,_,_,_,_,k,_=>by rw[aF]at k;cases k
theorem ou:∀(ds:List D){es:List D}{us:List Value},af G F ds us->af G F es us->aP ds=true->aP es=true->ds=es
 |[],es,us,r,r',_,_=>by
  rw[af]at r;subst r;cases es with
  |nil=>rfl
  |cons e es=>rw[af]at r';obtain⟨_,_,q,_⟩:=r';cases q
 |d::ds,es,us,r,r',k,k'=>by
  rw[af]at r;obtain⟨u,us,rfl,r1,r2⟩:=r;cases es with
  |nil=>rw[af]at r';cases r'
  |cons e es=>
   rw[af]at r';obtain⟨_,_,q,g1,g2⟩:=r';cases q;rw[aP,Zf]at k k';rw[xv d r1 g1 k.1 k'.1,ou ds r2 g2 k.2 k'.2]
end
mutual
theorem lQ:∀(d:D),aF d=true->aw d d=true
 |.az,_=>by rw[aw];rfl
 |.bl b,_=>by rw[aw];simp [oI]
 |.int b,_=>by rw[aw];simp [oI]
 |.str b,_=>by rw[aw];simp [lP]
 |.tup ds,k=>by rw[aF]at k;rw[aw];exact ow ds k
 |.lst ds,k=>by rw[aF]at k;rw[aw];exact ow ds k
 |.ref _,k=>by rw[aF]at k;cases k
 |.ty _,k=>by rw[aF]at k;cases k
 |.au _ _,k=>by rw[aF]at k;cases k
theorem ow:∀(ds:List D),aP ds=true->bo ds ds=true
 |[],_=>rfl
 |d::ds,k=>by rw[aP,Zf]at k;rw[bo,Zf];exact⟨lQ d k.1,ow ds k.2⟩
end
theorem xw(ds:List D){es:List D}{us:List Value}(r:af G F ds us)(r':af G F es us)(k:aP ds=true)(k':aP es=true):bo ds es=true:=by
 cases ou ds r r' k k';exact ow ds k
end
end N
end
section
set_option maxHeartbeats 1000000
namespace N
open PySem PySem.Spec PyProof.Rows L2
noncomputable abbrev lR(ds es:List D)(j:Nat):Bool:=((ds[j]?).bind λd=>(es[j]?).map (aw d)).getD false
section
variable{G:Gx}{F:Fz}{M:Mp}{s:Shared}{A:Around}
theorem xx.inj{h:Heap}{a:Addr}{us vs:List Value}(x:h.IsList a us.toArray\/h.IsTuple a us.toArray)(y:h.IsList a vs.toArray\/h.IsTuple a vs.toArray):us=vs:=by
 have g:∀{ws:List Value},(h.IsList a ws.toArray\/h.IsTuple a ws.toArray)->∃o n,h.get? a=some o/\o.data=.seq ws.toArray n:=λq=>by
  rcases q with ⟨o,e,_,n,d⟩ |⟨o,e,_,n,d⟩ <;> exact⟨o,n,e,d⟩
 obtain⟨o,n,e,d⟩:=g x;obtain⟨o',n',e',d'⟩:=g y;rw[e]at e';cases e';rw[d]at d';injection d' with d' _;simpa using congrArg Array.toList d'
theorem lS:∀(n:Nat){A:Around}{d e:D}{u v:Value},ay G F M s.heap->Sh G F s d u->Sh G F s e v->aI d<=n->A.units+n<cLine->SeqAt.EqAt A s u v (aw d e):=by
 intro n
 induction n with
 |zero=>
  intro A d e u v ok hd he hn hu;have ac:A.units<cLine:=hu;cases hd with
  |tup h r k=>rw[aI]at hn;cases hn
  |lst h r k=>rw[aI]at hn;cases hn
  |az=>cases he with
   |az=>exact SeqAt.EqAt.same _
   |bl=>exact SeqAt.EqAt.none_bool _
   |int=>exact SeqAt.EqAt.none_int _ _
   |str=>exact SeqAt.EqAt.none_str _ _
   |tup h r k=>exact SeqAt.EqAt.none_tuple h ac
   |lst h r k=>exact SeqAt.EqAt.none_list h ac
  |@bl a=>cases he with
   |az=>exact SeqAt.EqAt.bool_none _
   |@bl b=>rw[show aw (.bl a) (.bl b)=(a == b) by rw[aw];cases a <;> cases b <;> rfl];exact SeqAt.EqAt.bool_bool _ _
   |@int b t=>rw[show aw (.bl a) (.int b)=((if a then 1 else 0) == b) by rw[aw,aal];simp [oI];exact eq_comm];exact SeqAt.EqAt.bool_int _ _ _
   |str=>exact SeqAt.EqAt.bool_str _ _ _
   |tup h r k=>exact SeqAt.EqAt.bool_tuple _ h ac
   |lst h r k=>exact SeqAt.EqAt.bool_list _ h ac
  |@int a t=>cases he with
   |az=>exact SeqAt.EqAt.int_none _ _
   |@bl b=>rw[show aw (.int a) (.bl b)=(a == (if b then 1 else 0)) by rw[aw,aal];simp [oI];exact eq_comm];exact SeqAt.EqAt.int_bool _ _ _
   |@int b t'=>rw[show aw (.int a) (.int b)=(a == b) by rw[aw,aal];simp [oI];exact eq_comm];exact SeqAt.EqAt.int_int _ _ _ _
   |str=>exact SeqAt.EqAt.int_str _ _ _ _
   |tup h r k=>exact SeqAt.EqAt.int_tuple _ _ h ac
   |lst h r k=>exact SeqAt.EqAt.int_list _ _ h ac
  |@str a t=>cases he with
   |az=>exact SeqAt.EqAt.str_none _ _
   |bl=>exact SeqAt.EqAt.str_bool _ _ _
   |int=>exact SeqAt.EqAt.str_int _ _ _ _
   |@str b t'=>rw[show aw (.str a) (.str b)=(a == b) by rw[aw,aal];simp [lP];exact eq_comm];exact SeqAt.EqAt.str_str _ _ _ _
   |tup h r k=>exact SeqAt.EqAt.str_tuple _ _ h ac
   |lst h r k=>exact SeqAt.EqAt.str_list _ _ h ac
 |succ n ih=>
  intro A d e u v ok hd he hn hu;have iF:aI d<=n->SeqAt.EqAt A s u v (aw d e):=λh=>ih ok hd he h (Nat.lt_of_succ_lt hu);have ac:A.units<cLine:=Zd (Z0 _ _) hu;have items:∀{ds es:List D}{us vs:List Value},af G F ds us->af G F es vs->aP ds=true->aP es=true->aW ds<=n->∀j(h1:j<us.toArray.size)(h2:j<vs.toArray.size),SeqAt.EqAt A.in1 s us.toArray[j] vs.toArray[j] (lR ds es j):=λ{ds es us vs}r1 r2 k1 k2 hd j h1 h2=>by
   have g1:j<ds.length:=(by rw[r1.len];simpa using h1);have g2:j<es.length:=(by rw[r2.len];simpa using h2);obtain⟨u,e1,q1⟩:=jE r1 (Y5 g1);obtain⟨v,e2,q2⟩:=jE r2 (Y5 g2);have m1:=jF k1 (Y5 g1);have m2:=jF k2 (Y5 g2);rw[(Array.getElem?_eq_some_iff.mp e1).2,(Array.getElem?_eq_some_iff.mp e2).2];unfold lR;rw[Y5 g1,Y5 g2];exact ih ok (fC ok q1 m1.1) (fC ok q2 m2.1) (Y9 m1.2 hd) (by show A.units+1+n<cLine;lia)
  cases hd with
  |az=>exact iF (Zj _)
  |bl=>exact iF (Zj _)
  |int=>exact iF (Zj _)
  |str=>exact iF (Zj _)
  |@tup ds us a h r k=>
   rw[aI]at hn;cases he with
   |az=>exact SeqAt.EqAt.tuple_none h ac
   |bl=>exact SeqAt.EqAt.tuple_bool _ h ac
   |int=>exact SeqAt.EqAt.tuple_int _ _ h ac
   |str=>exact SeqAt.EqAt.tuple_str _ _ h ac
   |lst h' r' k'=>exact SeqAt.EqAt.tuple_list h h' ac
   |@tup es vs b h' r' k'=>
    have e:aw (.tup ds) (.tup es)=bo ds es:=(by rw[aw];rfl);rw[e];by_cases iG:a=b
    ·subst iG;cases xx.inj (.inr h) (.inr h');rw[xw ds r r' k k'];exact SeqAt.EqAt.same _
    ·have q:=SeqAt.RcAt.tuples (A:=A) h h' ac (items r r' k k' (aaB hn));rw[Zb,Zb,<- r.len,<- r'.len,<- iE]at q;exact SeqAt.EqAt.of_refs iG q
  |@lst ds us a h r k=>
   rw[aI]at hn;cases he with
   |az=>exact SeqAt.EqAt.list_none h ac
   |bl=>exact SeqAt.EqAt.list_bool _ h ac
   |int=>exact SeqAt.EqAt.list_int _ _ h ac
   |str=>exact SeqAt.EqAt.list_str _ _ h ac
   |tup h' r' k'=>exact SeqAt.EqAt.list_tuple h h' ac
   |@lst es vs b h' r' k'=>
    have e:aw (.lst ds) (.lst es)=bo ds es:=(by rw[aw];rfl);rw[e];by_cases iG:a=b
    ·subst iG;cases xx.inj (.inl h) (.inl h');rw[xw ds r r' k k'];exact SeqAt.EqAt.same _
    ·refine SeqAt.EqAt.of_refs iG ?_;have l1:=r.len;have l2:=r'.len;by_cases hl:ds.length=es.length
     ·have q:=SeqAt.RcAt.lists (A:=A) h h' (by rw[Zb,Zb,<- l1,<- l2,hl]) ac (items r r' k k' (aaB hn));rw[Zb,<- l1]at q;rw[iE,<- hl,Nat.min_self,beq_self_eq_true,Bool.and_true];exact q
     ·rw[iE,beq_false_of_ne hl,Bool.and_false];exact SeqAt.RcAt.lists_lengths h h' (by rw[Zb,Zb,<- l1,<- l2];simpa using hl) ac
theorem Gm{ds es:List D}{us vs:List Value}{n:Nat}(ok:ay G F M s.heap)(r1:af G F ds us)(r2:af G F es vs)(k1:aP ds=true)(k2:aP es=true)(hd:aW ds<=n)(hu:A.units+n<cLine)(j:Nat)(h1:j<us.toArray.size)(h2:j<vs.toArray.size):SeqAt.EqAt A s us.toArray[j] vs.toArray[j] (lR ds es j):=by
 have g1:j<ds.length:=by rw[r1.len];simpa using h1
 have g2:j<es.length:=by rw[r2.len];simpa using h2
 obtain⟨u,e1,q1⟩:=jE r1 (Y5 g1);obtain⟨v,e2,q2⟩:=jE r2 (Y5 g2);have m1:=jF k1 (Y5 g1);have m2:=jF k2 (Y5 g2);rw[(Array.getElem?_eq_some_iff.mp e1).2,(Array.getElem?_eq_some_iff.mp e2).2];unfold lR;rw[Y5 g1,Y5 g2];exact lS n ok (fC ok q1 m1.1) (fC ok q2 m2.1) (Y9 m1.2 hd) hu
theorem Gq{n:Nat}{d e:D}{u v:Value}(ok:ay G F M s.heap)(hd:Sh G F s d u)(he:Sh G F s e v)(hn:aI d<=n+1)(hu:A.units+1+n<cLine):SeqAt.RcAt A s u v (aw d e)/\SeqAt.RcNeAt A s u v (!aw d e):=by
  have ac:A.units<cLine:=by lia
  have items:∀{ds es:List D}{us vs:List Value},af G F ds us->af G F es vs->aP ds=true->aP es=true->aW ds<=n->∀j(h1:j<us.toArray.size)(h2:j<vs.toArray.size),SeqAt.EqAt A.in1 s us.toArray[j] vs.toArray[j] (lR ds es j):=λr1 r2 k1 k2 hd=>Gm ok r1 r2 k1 k2 hd hu;cases hd with
  |az=>cases he with
   |az=>exact⟨SeqAt.RcAt.none_none,SeqAt.RcNeAt.none_none⟩
   |bl=>exact⟨SeqAt.RcAt.none_bool _,SeqAt.RcNeAt.none_bool _⟩
   |int=>exact⟨SeqAt.RcAt.none_int _ _,SeqAt.RcNeAt.none_int _ _⟩
   |str=>exact⟨SeqAt.RcAt.none_str _ _,SeqAt.RcNeAt.none_str _ _⟩
   |tup h r k=>exact⟨SeqAt.RcAt.none_tuple h ac,SeqAt.RcNeAt.none_tuple h ac⟩
   |lst h r k=>exact⟨SeqAt.RcAt.none_list h ac,SeqAt.RcNeAt.none_list h ac⟩
  |@bl a=>cases he with
   |az=>exact⟨SeqAt.RcAt.bool_none _,SeqAt.RcNeAt.bool_none _⟩
   |@bl b=>rw[show aw (.bl a) (.bl b)=(a == b) by rw[aw];cases a <;> cases b <;> rfl];exact⟨SeqAt.RcAt.bool_bool _ _,SeqAt.RcNeAt.bool_bool _ _⟩
   |@int b t'=>rw[show aw (.bl a) (.int b)=((if a then 1 else 0) == b) by rw[aw,aal];simp [oI];exact eq_comm];exact⟨SeqAt.RcAt.bool_int _ _ _,SeqAt.RcNeAt.bool_int _ _ _⟩
   |str=>exact⟨SeqAt.RcAt.bool_str _ _ _,SeqAt.RcNeAt.bool_str _ _ _⟩
   |tup h r k=>exact⟨SeqAt.RcAt.bool_tuple _ h ac,SeqAt.RcNeAt.bool_tuple _ h ac⟩
   |lst h r k=>exact⟨SeqAt.RcAt.bool_list _ h ac,SeqAt.RcNeAt.bool_list _ h ac⟩
  |@int a t=>cases he with
   |az=>exact⟨SeqAt.RcAt.int_none _ _,SeqAt.RcNeAt.int_none _ _⟩
   |@bl b=>rw[show aw (.int a) (.bl b)=(a == (if b then 1 else 0)) by rw[aw,aal];simp [oI];exact eq_comm];exact⟨SeqAt.RcAt.int_bool _ _ _,SeqAt.RcNeAt.int_bool _ _ _⟩
   |@int b t'=>rw[show aw (.int a) (.int b)=(a == b) by rw[aw,aal];simp [oI];exact eq_comm];exact⟨SeqAt.RcAt.int_int _ _ _ _,SeqAt.RcNeAt.int_int _ _ _ _⟩
   |str=>exact⟨SeqAt.RcAt.int_str _ _ _ _,SeqAt.RcNeAt.int_str _ _ _ _⟩
   |tup h r k=>exact⟨SeqAt.RcAt.int_tuple _ _ h ac,SeqAt.RcNeAt.int_tuple _ _ h ac⟩
   |lst h r k=>exact⟨SeqAt.RcAt.int_list _ _ h ac,SeqAt.RcNeAt.int_list _ _ h ac⟩
  |@str a t=>cases he with
   |az=>exact⟨SeqAt.RcAt.str_none _ _,SeqAt.RcNeAt.str_none _ _⟩
   |bl=>exact⟨SeqAt.RcAt.str_bool _ _ _,SeqAt.RcNeAt.str_bool _ _ _⟩
   |int=>exact⟨SeqAt.RcAt.str_int _ _ _ _,SeqAt.RcNeAt.str_int _ _ _ _⟩
   |@str b t'=>rw[show aw (.str a) (.str b)=(a == b) by rw[aw,aal];simp [lP];exact eq_comm];exact⟨SeqAt.RcAt.str_str _ _ _ _,SeqAt.RcNeAt.str_str _ _ _ _⟩
   |tup h r k=>exact⟨SeqAt.RcAt.str_tuple _ _ h ac,SeqAt.RcNeAt.str_tuple _ _ h ac⟩
   |lst h r k=>exact⟨SeqAt.RcAt.str_list _ _ h ac,SeqAt.RcNeAt.str_list _ _ h ac⟩
  |@tup ds us a h r k=>
   rw[aI]at hn;cases he with
   |az=>exact⟨SeqAt.RcAt.tuple_none h ac,SeqAt.RcNeAt.tuple_none h ac⟩
   |bl=>exact⟨SeqAt.RcAt.tuple_bool _ h ac,SeqAt.RcNeAt.tuple_bool _ h ac⟩
   |int=>exact⟨SeqAt.RcAt.tuple_int _ _ h ac,SeqAt.RcNeAt.tuple_int _ _ h ac⟩
   |str=>exact⟨SeqAt.RcAt.tuple_str _ _ h ac,SeqAt.RcNeAt.tuple_str _ _ h ac⟩
   |lst h' r' k'=>exact⟨SeqAt.RcAt.tuple_list h h' ac,SeqAt.RcNeAt.tuple_list h h' ac⟩
   |@tup es vs b h' r' k'=>
    have q1:=SeqAt.RcAt.tuples (A:=A) h h' ac (items r r' k k' (aaB hn));have q2:=SeqAt.RcNeAt.tuples (A:=A) h h' ac (items r r' k k' (aaB hn));rw[Zb,Zb,<- r.len,<- r'.len,<- iE]at q1 q2;rw[show aw (.tup ds) (.tup es)=bo ds es by rw[aw];rfl];exact⟨q1,q2⟩
  |@lst ds us a h r k=>
   rw[aI]at hn;cases he with
   |az=>exact⟨SeqAt.RcAt.list_none h ac,SeqAt.RcNeAt.list_none h ac⟩
   |bl=>exact⟨SeqAt.RcAt.list_bool _ h ac,SeqAt.RcNeAt.list_bool _ h ac⟩
   |int=>exact⟨SeqAt.RcAt.list_int _ _ h ac,SeqAt.RcNeAt.list_int _ _ h ac⟩
   |str=>exact⟨SeqAt.RcAt.list_str _ _ h ac,SeqAt.RcNeAt.list_str _ _ h ac⟩
   |tup h' r' k'=>exact⟨SeqAt.RcAt.list_tuple h h' ac,SeqAt.RcNeAt.list_tuple h h' ac⟩
   |@lst es vs b h' r' k'=>
    have l1:=r.len;have l2:=r'.len;rw[show aw (.lst ds) (.lst es)=bo ds es by rw[aw];rfl];by_cases hl:ds.length=es.length
    ·have hz:us.toArray.size=vs.toArray.size:=(by rw[Zb,Zb,<- l1,<- l2,hl]);have q1:=SeqAt.RcAt.lists (A:=A) h h' hz ac (items r r' k k' (aaB hn));have q2:=SeqAt.RcNeAt.lists (A:=A) h h' hz ac (items r r' k k' (aaB hn));rw[Zb,<- l1]at q1 q2;rw[iE,<- hl,Nat.min_self,beq_self_eq_true,Bool.and_true];exact⟨q1,q2⟩
    ·have hz:(us.toArray.size != vs.toArray.size)=true:=(by rw[Zb,Zb,<- l1,<- l2];simpa using hl);rw[iE,beq_false_of_ne hl,Bool.and_false];exact⟨SeqAt.RcAt.lists_lengths h h' hz ac,SeqAt.RcNeAt.lists_lengths h h' hz ac⟩
end
end N
end
section
namespace L2
open PySem PySem.Spec PyProof.Rows
theorem xy(prog:Program)(w:World)(i:Int)(t:Tok):(bR prog w).is (.inl i) (.int i t)=true:=E4 i t
theorem xA(prog:Program)(w:World)(x:Str)(t:Tok):(bR prog w).is (.inr x) (.str x t)=true:=E5 x t
end L2
namespace L2
open PySem PySem.Spec PyProof.Rows
section
variable{X:Cx}{a b c:Expr}{ta tb tc:TE}{pos:Pos}
def xB(i j:Int):Prop:=0<=j/\j<=1000000/\i.natAbs<2 ^ 64
def rj(i j:Int):Prop:=(-(2 ^ 64)<i/\i<2 ^ 64)\/(-(2 ^ 64)<j/\j<2 ^ 64)
theorem rj.ok{i j:Int}(h:rj i j):IntMulOk i j:=by
 rcases h with ⟨h1,h2⟩ |⟨h1,h2⟩
 ·exact .of_left (intBits_le_64 h1 h2)
 ·exact .of_right (intBits_le_64 h1 h2)
theorem Gr(k:Nat):(0:Int)<=2 ^ k:=by
 rw[two_pow_cast];exact Int.natCast_nonneg _
end
section
variable{X:Cx}{a b c:Expr}{ta tb tc:TE}{pos:Pos}
theorem lT:(sizeLine:Nat)<2 ^ 63:=by rw[aaX];decide
end
end L2
namespace HT
open PySem PyProof.Rows
section
variable{prog:Program}{w:World}{A:Around}{E:Value->Shared->Prop}{s:Shared}
theorem Gs{t b:Addr}{vs ws:List Value}{Q:Value->Shared->Prop}(ht:IsTup s.heap t vs.toArray)(hb:IsTup s.heap b ws.toArray)(hv:vs≠[])
  (h1:ws=[]->Q (.ref t) s) (h2:ws≠[]->Q (.ref s.heap.objs.size) { s with heap:=s.heap.push { cls:=.type "tuple",data:=.seq (vs++ws).toArray } })
  (hsz:vs.length+ws.length<=sizeLine):wpAny (model prog w) A (binaryOp .Add (.ref t) (.ref b)) Q E s:=by
 obtain⟨⟨cls,dd,data,sl⟩,ho,hc,n,hd⟩:=id ht;obtain⟨⟨wT,f6,xz,iH⟩,ho2,f7,n2,g7⟩:=id hb;simp only at hc hd f7 g7;subst hc hd f7 g7;have e:vs.toArray++ws.toArray=(vs++ws).toArray:=by simp
 by_cases hw:ws=[]
 ·exact concat_meets ⟨_,ho,rfl⟩ ⟨_,ho2,rfl⟩ noFill_tuple_add seq_tuple_add PySem.F.slot_tuple_add PySem.F.entry_tuple_add (PySem.F.args_tuple_add_2 _ _)
   (tuple_addW1 t b vs.toArray ws.toArray n n2 dd f6 sl iH (by simpa using hv) (by simp [hw])) ⟨ho,ho2,h1 hw⟩
 ·refine concat_meets ⟨_,ho,rfl⟩ ⟨_,ho2,rfl⟩ noFill_tuple_add seq_tuple_add PySem.F.slot_tuple_add PySem.F.entry_tuple_add (PySem.F.args_tuple_add_2 _ _)
   (tuple_addW2 t b vs.toArray ws.toArray n n2 dd f6 sl iH (by simpa using hv) (by simpa using hw) (by rw[Zb,Zb];exact hsz)) ⟨ho,ho2,?_⟩
  rw[e];exact h2 hw
end
end HT
namespace L2
open PySem PySem.Spec PyProof.Rows
noncomputable def eL(n:Nat)(i:Int):Option Nat:=if 0<=i then (if i<n then some i.toNat else none) else if -(n:Int)<=i then some (i+n).toNat else none
noncomputable def cK{α:Type}(xs:List α)(i:Int):Option α:=(eL xs.length i).bind λj=>xs[j]?
theorem xC{n:Nat}{i:Int}{j:Nat}(h:eL n i=some j):seqIndex? i n=some j/\j<n/\-(n:Int)<=i/\i<n:=by
 unfold eL at h;by_cases h0:0<=i
 ·rw[if_pos h0]at h;by_cases h1:i<n
  ·rw[if_pos h1]at h;have e:i.toNat=j:=ZJ h;exact⟨by rw[seqIndex_of h0 h1,e],by lia,by lia,h1⟩
  ·rw[if_neg h1]at h;cases h
 ·rw[if_neg h0]at h;by_cases h1:-(n:Int)<=i
  ·rw[if_pos h1]at h;have e:(i+n).toNat=j:=ZJ h;exact⟨by rw[seqIndex_neg (by lia) h1,e],by lia,h1,by lia⟩
  ·rw[if_neg h1]at h;cases h
theorem xD{α:Type}{xs:List α}{i:Int}{v:α}(h:cK xs i=some v):∃j,seqIndex? i xs.length=some j/\xs[j]?=some v/\j<xs.length/\-(xs.length:Int)<=i/\i<xs.length:=by
 unfold cK at h;cases e:eL xs.length i with
 |none=>rw[e]at h;cases h
 |some j=>
  rw[e]at h;obtain⟨h1,h2,h3,h4⟩:=xC e;exact⟨j,h1,h,h2,h3,h4⟩
section
variable{X:Cx}{a b:Expr}{ta tb:TE}{pos:Pos}
theorem xE(its:List Value)(n j:Nat)(u:Value):ZM (·.setIfInBounds j u) { cls:=.type "list",data:=.seq its.toArray n }={ cls:=.type "list",data:=.seq (its.set j u).toArray n }:=by
 simp [ZM]
variable{o e:Expr}{es:List Expr}{to:TE}{t:TA}{name:Str}{cr cpos:Pos}{T id:String}{r:V->List V->Hp->VK->Prop}
end
end L2
namespace L2
open PySem PySem.Spec PyProof.Rows
end L2
namespace L2
open PySem PySem.Spec PyProof.Rows
noncomputable def lU:Nat:=1000000
def Gu(i j:Int):Prop:=i.natAbs<2 ^ lU/\j.natAbs<2 ^ lU
theorem xF{a:Int}(h:a.natAbs<2 ^ lU):Builtin.Int.intBits a<=2 ^ 20:=by
 unfold Builtin.Int.intBits;split
 ·exact Zj _
 ·rename_i z;have hz:a.natAbs≠0:=by first |exact λe=>z (by simpa using e) |(intro e;apply z;lia)
  have:=(Nat.log2_lt hz).mpr h;have:lU=1000000:=rfl;lia
end L2
namespace L2
open PySem PySem.Spec PyProof.Rows
section
variable{X:Cx}{aR:List (Addr×Obj)}{σ:St}{H:Hp}{s:Shared}{l b:Addr}{xs ys zs:List V}
theorem xG{n:Nat}(h:n<=sizeLine):aaE n=false:=by
 unfold aaE;exact decide_eq_false (by lia)
end
section
variable{X:Cx}
end
end L2
namespace L2
open PySem PySem.Spec PyProof.Rows
end L2
namespace HT
open PySem PyProof.Rows
section
variable{prog:Program}{w:World}{A:Around}{E:Value->Shared->Prop}{s:Shared}
noncomputable def aB(n d:Nat):Option Int->Nat
 |none=>d
 |some v=>if v<0 then (v+(n:Int)).toNat else min v.toNat n
theorem Gv(n d:Nat)(hd:d<=n)(o:Option Int):aB n d o<=n:=by
 cases o with
 |none=>exact hd
 |some v=>
  show (if v<0 then (v+(n:Int)).toNat else min v.toNat n)<=n
  by_cases hv:v<0
  ·rw[if_pos hv];lia
  ·rw[if_neg hv];exact Nat.min_le_right _ _
theorem xH(v:Int)(n d:Nat):(if v<0 then max (v+(n:Int)) 0 else min v (n:Int))=((aB n d (some v):Nat):Int):=by
 show (if v<0 then max (v+(n:Int)) 0 else min v (n:Int))=(((if v<0 then (v+(n:Int)).toNat else min v.toNat n):Nat):Int)
 by_cases hv:v<0
 ·simp only[if_pos hv];lia
 ·simp only[if_neg hv];lia
theorem Gw(lo hi:Option Int)(n:Nat):Builtin.Slice.sliceAdjust lo hi 1 (n:Int)=(((aB n 0 lo:Nat):Int),((aB n n hi:Nat):Int)):=by
 have h1:¬((1:Int)<0):=by lia
 unfold Builtin.Slice.sliceAdjust;simp only[h1,if_false];refine Prod.ext ?_ ?_
 ·cases lo with
  |none=>rfl
  |some v=>exact xH v n 0
 ·cases hi with
  |none=>rfl
  |some v=>exact xH v n n
theorem Gy(i j:Nat):aaZ (i:Int) (j:Int) 1=j-i:=by
 unfold aaZ;have h1:(1:Int) > 0:=by lia
 simp only[h1,if_true,Int.ediv_one];split <;> lia
theorem xI{v:Value}{o:Option Int}{Q:Option Int->Shared->Prop}(p:IsPart v o)(h:Q o s):wpAny (model prog w) A (Builtin.Slice.slicePartIndex v) Q E s:=by
 cases p with
 |none=>exact slicePart_none h
 |int i t=>exact slicePart_int h
theorem xJ{sl:Addr}{vl vu:Value}{lo hi:Option Int}{n:Nat}{Q:Int×Int×Nat->Shared->Prop}(hs:s.heap.IsSliceOf sl vl vu .none)(pl:IsPart vl lo)(pu:IsPart vu hi)
  (h:Q (((aB n 0 lo:Nat):Int),1,aB n n hi-aB n 0 lo) s):wpAny (model prog w) A (Builtin.Slice.sliceApplied (.ref sl) (pure (n:Int))) Q E s:=by
 obtain⟨os,f8,on,lV⟩:=id hs;unfold Builtin.Slice.sliceApplied Builtin.Slice.sliceFields;refine Y4 (Y4 (wpAny_field f8 lV (x:=vl) rfl (Y4 (wpAny_field f8 lV (x:=vu) rfl (Y4 (wpAny_field f8 lV (x:=.none) rfl (Y' ?_)))))));refine Y4 (slicePart_none ?_);show wpAny _ _ (if ((1:Int) == 0)=true then _ else _) _ _ s
 rw[if_neg (by decide)];refine Y4 (xI pl (Y4 (xI pu (Y4 (Y' ?_)))));show wpAny _ _ (match Builtin.Slice.sliceAdjust lo hi 1 (n:Int) with |(lo,hi)=>pure (lo,(1:Int),aaZ lo hi 1)) _ _ s
 rw[Gw lo hi n];show wpAny _ _ (pure (((aB n 0 lo:Nat):Int),(1:Int),aaZ ((aB n 0 lo:Nat):Int) ((aB n n hi:Nat):Int) 1)) _ _ s;rw[Gy];exact Y' h
theorem Gz(xs:Array Value)(i k:Nat):((ZL k).filterMap λ(m:Nat)=>xs[((i:Int)+(m:Int) * 1).toNat]?).toArray=((xs.toList.drop i).take k).toArray:=by
 have e:(λ(m:Nat)=>xs[((i:Int)+(m:Int) * 1).toNat]?)=λm=>xs[i+m]?:=by
  funext m;have:((i:Int)+(m:Int) * 1).toNat=i+m:=by lia
  rw[this]
 rw[e];have:=pick_run xs i k;rw[List.filterMap_map]at this;have e2:((λx=>xs[x]?) ∘ λx=>i+x)=λm=>xs[i+m]?:=rfl;rw[e2]at this;rw[this]
theorem GA{t sl:Addr}{items:Array Value}{vl vu:Value}{lo hi:Option Int}{Q:Value->Shared->Prop}(ht:IsTup s.heap t items)(hs:s.heap.IsSliceOf sl vl vu .none)(pl:IsPart vl lo)(pu:IsPart vu hi)
  (hw:¬(aB items.size 0 lo=0/\aB items.size items.size hi=items.size))
  (h:Q (.ref s.heap.objs.size) { s with heap:=s.heap.push { cls:=.type "tuple",data:=.seq ((items.toList.drop (aB items.size 0 lo)).take (aB items.size items.size hi-aB items.size 0 lo)).toArray } })
  (hsz:items.size<=sizeLine):wpAny (model prog w) A (getItem (.ref t) (.ref sl)) Q E s:=by
 have ox:sizeOk (.seq ((items.toList.drop (aB items.size 0 lo)).take (aB items.size items.size hi-aB items.size 0 lo)).toArray):=by
  show ((items.toList.drop (aB items.size 0 lo)).take (aB items.size items.size hi-aB items.size 0 lo)).toArray.size<=sizeLine;rw[Zb,aaU,List.length_drop,Zn];lia
 have hj:aB items.size items.size hi<=items.size:=Gv _ _ (Y8 _) hi;obtain⟨os,f8,on,lV⟩:=id hs;have rl:s.TypeIs (.ref sl) "slice":=⟨os,f8,on⟩;unfold getItem
 try with_reducible refine ZP ?_
 first |refine Y4 (Y' ?_) |skip
 refine Y4 (wpAny_sequenceKey ht.typeIs (by decide) ?_);refine Y4 (aay (name:=Str.ofString "__getitem__") ht.typeIs aaD
  (ZW aaD ht.typeIs entry_tuple_getitem ?_ (args_tuple_getitem _ _)))
 show wpAny _ _ (Builtin.Tuple.tupleItemsOf (.ref t) >>= _) _ _ s;refine Y4 (tupleItemsOf_ ht ?_);refine Y4 (wpAny_typeOf rl ?_);rw[if_pos (by decide)];refine Y4 (xJ hs pl pu ?_);have FM:¬((((aB items.size 0 lo:Nat):Int) == 0 && (1:Int) == 1 && (aB items.size items.size hi-aB items.size 0 lo) == items.size)=true):=by
  intro q;rw[Zf,Zf]at q;have q1:((aB items.size 0 lo:Nat):Int)=0:=eq_of_beq q.1.1;have q2:aB items.size items.size hi-aB items.size 0 lo=items.size:=eq_of_beq q.2;exact hw ⟨by lia,by lia⟩
 show wpAny _ _ (if (((aB items.size 0 lo:Nat):Int) == 0 && (1:Int) == 1 && (aB items.size items.size hi-aB items.size 0 lo) == items.size)=true then _ else _) _ _ s
 rw[if_neg FM,Gz]
 first
  |exact Y4 (m:=aa6 _) (Z5 (Y' ⟨_,rfl,Y' h⟩) ox)
  |exact Y4 (m:=aa6 _) (Z5 (Y4 (Y' (Y' ⟨_,rfl,Y' h⟩))) ox)
  |exact Y4 (Y4 (m:=aa6 _) (Z5 (Y' (Y' ⟨_,rfl,Y' h⟩)) ox))
  |exact Y4 (Y4 (m:=aa6 _) (Z5 (Y' ⟨_,rfl,Y' h⟩) ox))
end
end HT
namespace L2
open PySem PySem.Spec PyProof.Rows
section
variable{X:Cx}{a b:Expr}{ta tb:TE}{pos:Pos}
theorem GB(lo hi:Option Int)(n:Nat):(sliceBounds lo hi none n).1=((HT.aB n 0 lo:Nat):Int)/\(sliceBounds lo hi none n).2.1=((HT.aB n n hi:Nat):Int)/\(sliceBounds lo hi none n).2.2=1:=by
 refine⟨?_,?_,rfl⟩
 ·cases lo with
  |none=>simp [sliceBounds,HT.aB]
  |some i=>
   simp only[sliceBounds,HT.aB,Option.getD_none,show (1:Int) > 0 by decide,if_true];by_cases h:i<0
   ·simp only[h,if_true] <;> lia
   ·simp only[h,if_false] <;> lia
 ·cases hi with
  |none=>simp [sliceBounds,HT.aB]
  |some i=>
   simp only[sliceBounds,HT.aB,Option.getD_none,show (1:Int) > 0 by decide,if_true];by_cases h:i<0
   ·simp only[h,if_true] <;> lia
   ·simp only[h,if_false] <;> lia
theorem GC(its:List Value)(lo hi:Option Int):slicePick its.toArray lo hi none=((its.drop (HT.aB its.length 0 lo)).take (HT.aB its.length its.length hi-HT.aB its.length 0 lo)).toArray:=by
 obtain⟨h1,h2,h3⟩:=GB lo hi its.toArray.size;unfold slicePick;rw[h1,h2,h3];simp only[sliceRange_one,pick_run,Zb] <;> rfl
variable{o e:Expr}{es:List Expr}{to:TE}{t:TA}{name:Str}{cr cpos:Pos}{T id:String}{r:V->List V->Hp->VK->Prop}
end
end L2
namespace L2
open PySem PySem.Spec PyProof.Rows
end L2
namespace L2
open PySem PySem.Spec PyProof.Rows
theorem eM{α:Type}{t:Sem α}{Q Q':α->Shared->Prop}{M:Model}{A:Around}{E:Value->Shared->Prop}{s:Shared}(h:wpAny M A t Q E s)(hQ:∀a s,Q a s->Q' a s):wpAny M A t Q' E s:=aa1 h hQ λ_ _ x=>x
end L2
namespace L2
open PySem PySem.Spec PyProof.Rows
end L2
namespace L2
open PySem PySem.Spec PyProof.Rows
section
variable{prog:Program}{w:World}{A:Around}{E:Value->Shared->Prop}{s:Shared}
theorem GD{t sl:Addr}{items:Array Value}{vl vu:Value}{lo hi:Option Int}{Q:Value->Shared->Prop}(ht:IsTup s.heap t items)(hs:s.heap.IsSliceOf sl vl vu .none)(pl:IsPart vl lo)(pu:IsPart vu hi)
  (hw:HT.aB items.size 0 lo=0/\HT.aB items.size items.size hi=items.size) (h:Q (.ref t) s):wpAny (model prog w) A (getItem (.ref t) (.ref sl)) Q E s:=by
 obtain⟨os,f8,on,lV⟩:=id hs;have rl:s.TypeIs (.ref sl) "slice":=⟨os,f8,on⟩;unfold getItem
 try with_reducible refine ZP ?_
 first |refine Y4 (Y' ?_) |skip
 refine Y4 (wpAny_sequenceKey ht.typeIs (by decide) ?_);refine Y4 (aay (name:=Str.ofString "__getitem__") ht.typeIs aaD
  (ZW aaD ht.typeIs entry_tuple_getitem ?_ (args_tuple_getitem _ _)))
 show wpAny _ _ (Builtin.Tuple.tupleItemsOf (.ref t) >>= _) _ _ s;refine Y4 (tupleItemsOf_ ht ?_);refine Y4 (wpAny_typeOf rl ?_);rw[if_pos (by decide)];refine Y4 (HT.xJ hs pl pu ?_);have FS:(((HT.aB items.size 0 lo:Nat):Int) == 0 && (1:Int) == 1 && (HT.aB items.size items.size hi-HT.aB items.size 0 lo) == items.size)=true:=by
  rw[hw.1,hw.2];simp
 show wpAny _ _ (if (((HT.aB items.size 0 lo:Nat):Int) == 0 && (1:Int) == 1 && (HT.aB items.size items.size hi-HT.aB items.size 0 lo) == items.size)=true then _ else _) _ _ s
 rw[if_pos FS];obtain⟨o,ho,hc,n,hd⟩:=id ht;have ex:wpAny (model prog w) A.in1 (Builtin.Tuple.tupleIsExact (.ref t)) (λb s'=>b=true/\s'=s) E s:=by
  unfold Builtin.Tuple.tupleIsExact
  first
   |exact Y4 (wpAny_typeOf ⟨o,ho,hc⟩ (Y' ⟨by rfl,rfl⟩))
   |exact Y4 (wpAny_load ho (Y' ⟨by rw[hc];rfl,rfl⟩))
 refine Y4 (eM ex λb s' hb=>?_);obtain⟨rfl,rfl⟩:=hb;rw[if_pos rfl];exact Y4 (aaR (Y' ⟨_,rfl,Y' h⟩))
end
end L2
namespace L2
open PySem
end L2
namespace L2
open PySem PySem.Spec PyProof.Rows
structure bx(k:Nat)(A:Around):Prop where
 hd:A.handled=none
 dp:A.depth+3 * k+5<recursionLimit
 un:A.units+16 * k+200<cLine
theorem bx.mono{j k:Nat}{A:Around}(r:bx k A)(h:j<=k):bx j A:=⟨r.hd,by have:=r.dp;lia,by have:=r.un;lia⟩
theorem bx.deeper{k:Nat}{A:Around}(r:bx (k+1) A)(env:Env):bx k (A.deeper env):=
 ⟨r.hd,by have:=r.dp;show A.depth+1+3 * k+5<_;lia,by have:=r.un;show A.units+3+16 * k+200<_;lia⟩
theorem GF{A:Around}{C:Addr}{us:List Value}{kw:List (Str×Value)}:(A.under (.builtin "type.__call__" ⟨.ref C::us,kw⟩)).depth=A.depth+1:=by
 first |rfl |simp [Around.under,Code.weight,Code.isCreation,Code.isGuard,Code.isCaller,Code.frames,Code.isFrame,Tw]
theorem GG{A:Around}{C:Addr}{us:List Value}{kw:List (Str×Value)}:(A.under (.builtin "type.__call__" ⟨.ref C::us,kw⟩)).units=A.units+1:=by
 first |rfl |simp [Around.under,Code.cUnits,Code.frames,Code.isFrame]
theorem bx.rq{k:Nat}{A:Around}(r:bx (k+1) A)(C:Addr)(us:List Value)(kw:List (Str×Value)):bx k (A.under (.builtin "type.__call__" ⟨.ref C::us,kw⟩)):=
 ⟨r.hd,by have:=r.dp;rw[GF];lia,by have:=r.un;rw[GG];lia⟩
theorem bx.depth{k:Nat}{A:Around}(r:bx k A):A.depth<recursionLimit:=by have:=r.dp;lia
def bS(K:PySem.W.Frag)(fd:FuncData)(ps:List Str)(ds:List Value):Prop:=
 ∀(s:Shared)(us:List Value),K.In s.heap->(us++ds).length=ps.length->BindsTo s fd ⟨us,[]⟩ (ps.zip (us++ds))
theorem bS.all{K:PySem.W.Frag}{fd:FuncData}{ps:List Str}(h:∀us:List Value,us.length=ps.length->bindArgs fd ⟨us,[]⟩=pure (ps.zip us)):bS K fd ps []:=λs us _ hl=>by
 rw[Zu]at hl ⊢;exact .of_eq (h us hl)
structure aO(N P:List Str)(sc:Scope):Prop where
 kind:sc.kind=.function
 co:sc.isCoroutine=false
 rx:sc.isGenerator=false
 nd:N.Nodup
 pre:N.take P.length=P
 xK:∀x∈P,sc.names.lookup x=some .local\/sc.names.lookup x=some .cell
 GH:∀y∈sc.names,y.2≠.free
theorem xM{kindOf:Str->Option NameKind}{x:Str}:∀{iI:List (Str×Value)}{m:Str->Option Value},(∀v,(x,v) ∉ iI)->bindL kindOf iI m x=m x
 |[],_,_=>rfl
 |(n,v)::r,m,h=>by
  unfold bindL;rw[xM λw hw=>h w (Zc _ hw)];split
  ·have:x≠n:=(by rintro rfl;exact h v Za);simp [this]
  ·rfl
theorem xN{kindOf:Str->Option NameKind}{x:Str}:∀{iI:List (Str×Value)}{m:Str->Option Value},(∀v,(x,v) ∉ iI)->bindC kindOf iI m x=m x
 |[],_,_=>rfl
 |(n,v)::r,m,h=>by
  unfold bindC;rw[xN λw hw=>h w (Zc _ hw)];split
  ·rfl
  ·have:x≠n:=(by rintro rfl;exact h v Za);simp [this]
theorem xO{kindOf:Str->Option NameKind}{x:Str}{v:Value}:∀{P:List Str}{vs:List Value}{i:Nat}{m:Str->Option Value},P.Nodup->P[i]?=some x->vs[i]?=some v->kindOf x=some .local ->
  bindL kindOf (P.zip vs) m x=some v
 |[],_,_,_,_,h,_,_=>by simp at h
 |_::_,[],_,_,_,_,h,_=>by simp at h
 |p::P,w::vs,0,m,nd,h1,h2,hk=>by
  simp at h1 h2;subst h1;subst h2;show bindL kindOf ((p,w)::P.zip vs) m p=_;unfold bindL;rw[xM λv hv=>(List.nodup_cons.mp nd).1 (aa4 hv).1,if_pos hk];simp
 |p::P,w::vs,i+1,m,nd,h1,h2,hk=>by
  show bindL kindOf ((p,w)::P.zip vs) m x=_;unfold bindL;exact xO (i:=i) (List.nodup_cons.mp nd).2 (by simpa using h1) (by simpa using h2) hk
theorem xP{kindOf:Str->Option NameKind}{x:Str}{v:Value}:∀{P:List Str}{vs:List Value}{i:Nat}{m:Str->Option Value},P.Nodup->P[i]?=some x->vs[i]?=some v->kindOf x≠some .local ->
  bindC kindOf (P.zip vs) m x=some v
 |[],_,_,_,_,h,_,_=>by simp at h
 |_::_,[],_,_,_,_,h,_=>by simp at h
 |p::P,w::vs,0,m,nd,h1,h2,hk=>by
  simp at h1 h2;subst h1;subst h2;show bindC kindOf ((p,w)::P.zip vs) m p=_;unfold bindC;rw[xN λv hv=>(List.nodup_cons.mp nd).1 (aa4 hv).1,if_neg hk];simp
 |p::P,w::vs,i+1,m,nd,h1,h2,hk=>by
  show bindC kindOf ((p,w)::P.zip vs) m x=_;unfold bindC;exact xP (i:=i) (List.nodup_cons.mp nd).2 (by simpa using h1) (by simpa using h2) hk
theorem xQ{sc:Scope}{n:Nat}{x:Str}(h:sc.names.lookup x=some .cell):∃c,(cellsFrom n sc.names []).lookup x=some c:=by
 have q:=PySem.W.cellsFrom_some sc.names n [] (.inl h);exact Option.isSome_iff_exists.mp q
end L2
namespace L2
open PySem PySem.Spec PyProof.Rows
end L2
namespace L2
open PySem PySem.Spec PyProof.Rows
structure iJ(h:Heap)(x dx C:Addr)(mA:Str->Option Value):Prop where
 obj:h.get? x=some (PySem.W.instObj C dx)
 ns:h.Ns1 dx mA
 ne:dx≠x
theorem GI{h:Heap}{dx:Addr}{mA:Str->Option Value}(n:h.Ns1 dx mA):∃od,h.get? dx=some od/\∀name,PySem.W.lookIn name od=some (mA name):=by
 obtain⟨o,es,ep,ho,hd,hk,_,hm⟩:=n;refine⟨o,ho,λname=>?_⟩;have e:=hm name;unfold nsFind findBy at e;rw[<- Array.find?_toList]at e;unfold PySem.W.lookIn;rw[hd];dsimp only;split
 ·rename_i y q;rw[q]at e;exact congrArg some e
 ·rename_i q;rw[q]at e;have a:es.toList.any (·.refKey)=false:=by
   rw[List.any_eq_false];intro y hy;obtain⟨z,t,oy⟩:=hk y (Array.mem_toList_iff.mp hy);simp [DictEntry.refKey,oy]
  have Vc:¬es.toList.any (·.refKey)=true:=by rw[a];exact ZY
  rw[if_neg Vc];exact congrArg some e
theorem iJ.rz{h:Heap}{x dx C:Addr}{mA:Str->Option Value}(I:iJ h x dx C mA):∃od,PySem.W.InstAt h x (PySem.W.instObj C dx) C (some od)/\∀name,PySem.W.lookIn name od=some (mA name):=
 let ⟨od,ho,hl⟩:=GI I.ns
 ⟨od,⟨I.obj,rfl,rfl,ho⟩,hl⟩
section
variable{prog:Program}{w:World}{A:Around}{E:Value->Shared->Prop}{s:Shared}{K:PySem.W.Frag}{x dx C f:Addr}{mA:Str->Option Value}{name:Str}{v:Value}
theorem GJ{Gc:Bool}{Q:Value->Shared->Prop}(X:K.In s.heap)(I:iJ s.heap x dx C mA)(hg:PySem.W.plainGet K C name=true)(hh:PySem.W.hasDictIn K C=true)
  (ha:PySem.W.findIn K (.ref C) name=some none) (hv:mA name=some v) (eO:PySem.W.handedIn v=true) (h:Q v { s with toks:=s.toks+1 }) :
  wpAny (model prog w) A (getAttr (.ref x) name Gc) Q E s:=by
 obtain⟨od,J,hl⟩:=I.rz;exact PySem.W.get_value X J (PySem.W.plainGet_of hg).1 (PySem.W.findObj_own hh ha rfl (by rw[hl,hv])) eO h
theorem GK{pl:Sem Bool}{Q:Value×List Value->Shared->Prop}(X:K.In s.heap)(I:iJ s.heap x dx C mA)(hg:PySem.W.plainGet K C name=true)
  (hf:PySem.W.findIn K (.ref C) name=some (some (.ref f))) (ht:PySem.W.isFn K (.ref f)=true) (hv:mA name=none) (h:Q (.ref f,[.ref x]) s) :
  wpAny (model prog w) A (getMethod (.ref x) name pl) Q E s:=by
 obtain⟨od,J,hl⟩:=I.rz;exact PySem.W.method_fn X J (PySem.W.plainGet_of hg).1 (PySem.W.plainGet_of hg).2 hf (beq_iff_eq.mp ht) (by show (PySem.W.lookIn name od).map (·.isSome)=some false;rw[hl,hv];rfl) h
theorem GL{ns:List Str}{Q:Unit->Shared->Prop}(X:K.In s.heap)(I:iJ s.heap x dx C mA)
  (hs:PySem.W.findIn K (.ref C) "__setattr__"=some (some (.builtin "object.__setattr__"))) (hp:PySem.W.plainOver K C=true) (ht:PySem.W.takerIn K C name=some none) (hh:PySem.W.hasDictIn K C=true)
  (hw:PySem.Within mA ns) (hsz:ns.length<=sizeLine)
  (h:∀h',iJ h' x dx C (λy=>if y=name then some v else mA y)->aaN dx s.heap h'->Q () { s with heap:=h',toks:=s.toks+2 }) :
  wpAny (model prog w) A (setAttr (.ref x) name v) Q E s:=by
 obtain⟨od,J,hl⟩:=I.rz;refine PySem.W.set_plain X J hs (PySem.W.osa_open (s:={ s with toks:=s.toks+1 }) (r:=none) X J hp ht λb=>?_);obtain⟨cd,hc,lm⟩:=PySem.W.any_some hh;have U:s.heap.get? x=some ⟨.ref C,some dx,.plain,#[]⟩:=I.obj;refine Y4 (Y' (Y4 (Y4 (wpAny_loadPart U (Y4 (PySem.W.Looks.here (s:={ s with toks:=s.toks+1 }) (PySem.W.looks_clsIn X hc) ?_))))));rw[lm];refine Y' (a:=some dx) (Y4 (Y' (Y4 ?_)));refine wpAny_nsSet1 (s:={ s with toks:=s.toks+1 }) I.ns λh' oz hs2=>?_;obtain⟨YH,Tx,Tz,Go,GN,GO⟩:=oz.count (PySem.Within.cons name v hw);refine Y4 (wpAny_lookBehind Go (by rw[GN];exact pastItsLine_dict (Y9 GO (by rw[Zg];lia))) ?_);exact Y' (h _ ⟨(hs2.2 _ (ZO I.ne)).trans I.obj,oz,I.ne⟩ hs2)
theorem GP{R:Result->Shared->Prop}{vs:List Value}{kw:List (Str×Value)}(X:K.In s.heap)(hm:PySem.W.makesIn K C=true)
  (hi:PySem.W.findIn K (.ref C) "__init__"=some (some (.ref f))) (hf:PySem.W.typeIn K (.ref f)=some (.type "function"))
  (h:codeAny (model prog w) (A.under (.builtin "type.__call__" ⟨.ref C::vs,kw⟩)) (.call (.ref f) ⟨.ref (s.heap.objs.size+1)::vs,kw⟩) (PySem.W.InitBack (s.heap.objs.size+1) R)
   { s with heap:=(s.heap.push PySem.W.emptyDict).push (PySem.W.instObj C s.heap.objs.size) }) :
  codeAny (model prog w) A (.call (.ref C) ⟨vs,kw⟩) R s:=by
 obtain⟨hh,g,d,t,os⟩:=s;exact PySem.W.make_core (PySem.W.makes_of X hm) (PySem.W.looks_findIn X hi) (λself=>PySem.W.bind_fn X self hf) (.inl rfl) h
end
structure c9(K:PySem.W.Frag)(C:Addr):Prop where
 Xs:PySem.W.plainGet K C Str.empty=true
 hd:PySem.W.hasDictIn K C=true
 Xu:PySem.W.plainOver K C=true
 sa:PySem.W.findIn K (.ref C) "__setattr__"=some (some (.builtin "object.__setattr__"))
theorem c9.get{K:PySem.W.Frag}{C:Addr}(c:c9 K C)(f:Str):PySem.W.plainGet K C f=true:=c.Xs
def eh(K:PySem.W.Frag)(C:Addr)(f:Str):Prop:=PySem.W.findIn K (.ref C) f=some none
theorem eh.GR{K:PySem.W.Frag}{C:Addr}{f:Str}(n:eh K C f):PySem.W.takerIn K C f=some none:=by
 unfold PySem.W.takerIn;rw[show PySem.W.findIn K (.ref C) f=some none from n];rfl
structure jG(K:PySem.W.Frag)(C:Addr)(m:Str)(f:Addr):Prop where
 bX:PySem.W.findIn K (.ref C) m=some (some (.ref f))
 fn:PySem.W.isFn K (.ref f)=true
 kp:PySem.W.keepIn K (.ref f)=true
section
variable{X:Cx}{aR:List (Addr×Obj)}{σ:St}{H:Hp}{s:Shared}{a C dx:Addr}{fs:List (Str×V)}{f:Str}{v:V}{A:Around}{E:Value->Shared->Prop}
theorem GS{prog:Program}{w:World}{env:Env}{e:Expr}{f:Str}{pos:Pos}{s:Shared}{Q:Value->Shared->Prop}(hb:attributeBase e f env (eval e env)=eval e env)
  (h:wpAny (model prog w) A (eval e env) (λo s₁=>wpAny (model prog w) A (getAttr o f true) Q E s₁) E s):wpAny (model prog w) A (eval (.Attribute e f pos) env) Q E s:=
 Attribute_any_ h (by rw[arm_eval_Attribute,hb])
end
end L2
namespace L2
open PySem PySem.Spec PyProof.Rows
section
variable{X:Cx}{YI:TB}{k:Nat}{f C:Addr}{fd:FuncData}{ps:List Str}{sp:Sp}{a':List V}{ds:List Value}{E:XK}{x m:Str}{p pos cr:Pos}{e o:Expr}{es:List Expr}{ta:TE}{t:TA}
structure Mk(K:PySem.W.Frag)(C f:Addr):Prop where
 GU:PySem.W.makesIn K C=true
 init:PySem.W.findIn K (.ref C) "__init__"=some (some (.ref f))
 fn:PySem.W.isFn K (.ref f)=true
 kp:PySem.W.keepIn K (.ref C)=true
end
end L2
namespace L2
open PySem PySem.Spec PyProof.Rows
end L2
namespace L2
open PySem PySem.Spec PyProof.Rows PySem.W
section
variable{prog:Program}{w:World}{A:Around}{E:Value->Shared->Prop}{s:Shared}
end
end L2
namespace L2
open PySem PySem.Spec PyProof.Rows
theorem GV{α:Type}(l:List α):l.eraseIdx (l.length-1)=l.dropLast:=by
 induction l with
 |nil=>rfl
 |cons a r ih=>
  cases r with
  |nil=>rfl
  |cons b r=>
   have e:(a::b::r).length-1=((b::r).length-1)+1:=by
    have h1:(a::b::r).length=r.length+2:=rfl;have h2:(b::r).length=r.length+1:=rfl;lia
   rw[e,List.eraseIdx_cons_succ,ih]
   all_goals rfl
end L2
namespace L2
open PySem PySem.Spec PyProof.Rows
end L2
end
section
set_option maxHeartbeats 1000000
namespace N
open PySem PySem.Spec PyProof.Rows L2
def fD(d:D)(M:Mp)(k:List (Key×D)->Prop):Prop:=match d with
 |.au ks ds=>k (ks.zip ds)
 |.ref a=>∃kvs,M a=some (.au kvs)/\k kvs
 |_=>False
structure rA(G:Gx)(F:Fz)(h:Heap)(a:Addr)(kvs:List (Key×D))(vs:List (Key×Value)):Prop where
 r:KV G F kvs vs
 d:h.DictOf (bR G.P G.w) a vs
 z:kvs.length<=sizeLine
 n:(a == sysModules)=false
theorem KV.zip{G:Gx}{F:Fz}:∀{ks:List Key}{ds:List D}{us:List Value},af G F ds us->KV G F (ks.zip ds) (ks.zip us)
 |[],ds,us,_=>by rw[List.zip_nil_left,List.zip_nil_left];exact .nil
 |k::ks,[],us,r=>by rw[af]at r;subst r;exact .nil
 |k::ks,d::ds,us,r=>by rw[af]at r;obtain⟨u,us,rfl,r1,r2⟩:=r;exact .cons ⟨rfl,r1⟩ (KV.zip r2)
section
variable{X:Cx}{τ:St}{z:Z}{d:D}{u:Value}{a:Addr}
theorem ab.rB(I:ab X τ z){kvs:List (Key×D)}(h:z.M a=some (.au kvs)):∃vs,rA X.G z.F z.s.heap a kvs vs:=by
 obtain⟨_,h1,h2,vs,r,dd⟩:=I.hok.ob a _ h;exact⟨vs,r,dd,h1,h2⟩
theorem ab.fD{k:List (Key×D)->Prop}(I:ab X τ z)(r:aa X.G z.F d u)(h:fD d z.M k):∃a kvs vs,u=.ref a/\rA X.G z.F z.s.heap a kvs vs/\k kvs:=by
 unfold N.fD at h;split at h
 ·rw[aa]at r;obtain⟨a,o,us,e,h1,h2,h4,h3⟩:=r;obtain⟨es,ep,g1,g2,g3⟩:=h2.bX;refine⟨a,_,_,e,⟨KV.zip h3,⟨o,es,ep,I.hok.fz a _ h1,h2.ex,g1,g2,g3,?_⟩,?_,h4⟩,h⟩
  ·rw[List.map_fst_zip (Nat.le_of_eq h2.len.symm)];exact h2.nd
  ·rw[List.length_zip];exact Y9 (Nat.min_le_left _ _) h2.sz
 ·rw[aa]at r;obtain⟨kvs,h1,h2⟩:=h;obtain⟨vs,l⟩:=I.rB h1;exact⟨_,kvs,vs,r,l,h2⟩
 ·exact h.elim
end
def fE(d:D)(k:Key->Prop):Prop:=match d with
 |.int i=>k (.inl i)
 |.str x=>k (.inr x)
 |_=>False
noncomputable def aX(kvs:List (Key×D))(k:Key):Option D:=(kvs.find? λkv=>decide (kv.1=k)).map (·.2)
noncomputable def aY(kvs:List (Key×D))(k:Key)(v:D):List (Key×D):=
 if (kvs.any λkv=>decide (kv.1=k))=true then kvs.map (λkv=>if kv.1=k then (kv.1,v) else kv) else kvs++[(k,v)]
theorem iK(kvs:List (Key×D))(k:Key)(v:D):(aY kvs k v).length<=kvs.length+1:=by
 unfold aY;split
 ·rw[Y6];exact aag _
 ·rw[Zi];exact Y8 _
theorem oA{G:Gx}{F:Fz}{P:Program}{w:World}{d:D}{k:Key->Prop}{u:Value}(h:fE d k)(r:aa G F d u):∃x,(bR P w).is x u=true/\k x:=by
 unfold fE at h;split at h
 ·rw[aa]at r;obtain⟨t,rfl⟩:=r;exact⟨_,xy P w _ t,h⟩
 ·rw[aa]at r;obtain⟨t,rfl⟩:=r;exact⟨_,xA P w _ t,h⟩
 ·exact h.elim
theorem KV.val{G:Gx}{F:Fz}{kvs:List (Key×D)}{vs:List (Key×Value)}(r:KV G F kvs vs)(k:Key):fW G F (aX kvs k) (valueAt vs k):=by
 unfold KV at r
 induction r with
 |nil=>exact True.intro
 |@cons p q ps qs h t ih=>
  by_cases e:p.1=k
  ·have e':q.1=k:=h.1.symm.trans e;rw[show valueAt (q::qs) k=some q.2 by simp [valueAt,List.find?_cons,e'],show aX (p::ps) k=some p.2 by simp [aX,List.find?_cons,e]];exact h.2
  ·have e':¬q.1=k:=λz=>e (h.1.trans z);rw[show valueAt (q::qs) k=valueAt qs k by simp [valueAt,List.find?_cons,e'],show aX (p::ps) k=aX ps k by simp [aX,List.find?_cons,e]];exact ih
theorem fW.so{G:Gx}{F:Fz}{o:Option D}{u:Option Value}(r:fW G F o u):o.isSome=u.isSome:=by
 cases o <;> cases u <;> first |rfl |exact r.elim
theorem KV.put{G:Gx}{F:Fz}{kvs:List (Key×D)}{vs:List (Key×Value)}(r:KV G F kvs vs)(k:Key){y:D}{u:Value}(ry:aa G F y u):KV G F (aY kvs k y) (stored vs k u):=by
 have any:(kvs.any λkv=>decide (kv.1=k))=vs.any λkv=>decide (kv.1=k):=by
  unfold KV at r
  induction r with
  |nil=>rfl
  |cons h t ih=>rw[aaF,aaF,h.1,ih]
 unfold aY stored;rw[any];by_cases e:(vs.any λkv=>decide (kv.1=k))=true
 ·rw[if_pos e,if_pos e];clear e any;unfold KV at r ⊢
  induction r with
  |nil=>exact .nil
  |@cons p q ps qs h t ih=>
   refine .cons ?_ ih;dsimp only;by_cases e:p.1=k
   ·rw[if_pos e,if_pos (h.1.symm.trans e)];exact⟨h.1,ry⟩
   ·rw[if_neg e,if_neg λz=>e (h.1.trans z)];exact h
 ·rw[if_neg e,if_neg e];exact Paired.snoc r ⟨rfl,ry⟩
def sI(C:Int->Int->Prop)(f:Int->Int->Int):Q2:=λx y M Q=>cH x λi=>cH y λj=>C i j/\Q (.int (f i j)) M
def rC(f:Int->Int->Int):Q2:=λx y M Q=>cH x λi=>cH y λj=>Q (.int (f i j)) M
def CM(i j:Int):Prop:=rj i j\/Gu i j
noncomputable def lW(a:Addr):Option MO->D
 |some (.lst ds)=>.lst ds
 |_=>.ref a
noncomputable def b9(d:D)(M:Mp):D:=match d with
 |.ref a=>lW a (M a)
 |d=>d
def rD:Q2:=λx y M Q=>match x,y with
 |.int i,.int j=>Q (.int (i+j)) M
 |.str a,.str b=>a.length+b.length<=sizeLine/\Q (.str (a++b)) M
 |.tup a,.tup b=>a.length+b.length<=sizeLine/\Q (.tup (a++b)) M
 |x,y=>a7 x M λa=>a7 y M λb=>a.length+b.length<=sizeLine/\cE (a++b) M Q
def rE:Q2:=λx y M Q=>match x with
 |.int i=>cH y λj=>CM i j/\Q (.int (i * j)) M
 |_=>False
def xR:Operator->Q2
 |.Add=>rD
 |.Sub=>rC λi j=>i-j
 |.Mult=>rE
 |.FloorDiv=>sI (λ_ j=>0<j/\j<2 ^ 200) λi j=>i / j
 |.Mod=>sI (λ_ j=>0<j) λi j=>i % j
 |.Pow=>sI xB λi j=>i ^ j.toNat
 |.LShift=>sI xB λi j=>i * 2 ^ j.toNat
 |.RShift=>sI (λ_ j=>0<=j) λi j=>i / 2 ^ j.toNat
 |.BitAnd=>rC λi j=>Builtin.bitAnd i j
 |_=>λ_ _ _ _=>False
section
variable{X:Cx}
theorem lX{f:Value->Value->Sem Value}{C:Int->Int->Prop}{g:Int->Int->Int}(rule:∀(i j:Int)(t u:Tok)(s:Shared)(Q E:Value->Shared->Prop),C i j->Q (.int (g i j) s.toks) { s with toks:=s.toks+1 }->wpAny (model X.G.P X.G.w) X.A (f (.int i t) (.int j u)) Q E s):O2 X f (sI C g):=fun τ z Q R d e v u I r1 r2 q k=>by
 obtain⟨i,t,rfl,q⟩:=dG q r1;obtain⟨j,t',rfl,hc,q⟩:=dG q r2;exact rule i j t t' z.s _ _ hc (I.fin k Le.rfl cI q _)
theorem xS{f:Value->Value->Sem Value}{g:Int->Int->Int}(rule:∀(i j:Int)(t u:Tok)(s:Shared)(Q E:Value->Shared->Prop),Q (.int (g i j) s.toks) { s with toks:=s.toks+1 }->wpAny (model X.G.P X.G.w) X.A (f (.int i t) (.int j u)) Q E s):O2 X f (rC g):=fun τ z Q R d e v u I r1 r2 q k=>by
 obtain⟨i,t,rfl,q⟩:=dG q r1;obtain⟨j,t',rfl,q⟩:=dG q r2;exact rule i j t t' z.s _ _ (I.fin k Le.rfl cI q _)
theorem af.app{G:Gx}{F:Fz}:∀{ds es:List D}{us vs:List Value},af G F ds us->af G F es vs->af G F (ds++es) (us++vs)
 |[],es,us,vs,r,r'=>by rw[af]at r;subst r;exact r'
 |d::ds,es,us,vs,r,r'=>by rw[af]at r;obtain⟨u,us,rfl,r1,r2⟩:=r;exact .cons r1 (af.app r2 r')
theorem af.nl{G:Gx}{F:Fz}{ds:List D}{us:List Value}(r:af G F ds us):us=[] ↔ ds=[]:=by
 rw[<- List.length_eq_zero_iff,<- List.length_eq_zero_iff,r.len]
theorem GW:O2 X (binaryOp .Add) rD:=fun τ z Q R d e v u I r1 r2 q k=>by
 have lst:∀{d e:D},aa X.G z.F d v->aa X.G z.F e u->(a7 d z.M λa=>a7 e z.M λb=>a.length+b.length<=sizeLine/\cE (a++b) z.M Q)->W X (binaryOp .Add v u) R z.s:=λr1 r2 q=>by
  obtain⟨a,ds,us,n,rfl,l,q⟩:=I.a7 r1 q;obtain⟨b,es,vs,n',rfl,l',hz,q⟩:=I.a7 r2 q;have gU:us.length+vs.length<=sizeLine:=by rw[<- l.r.len,<- l'.r.len];exact hz
  refine PySem.P.add_list l.e l'.e ?_ (by rw[Zb,Zb];exact gU);rw[show us.toArray++vs.toArray=(us++vs).toArray by simp];exact I.lst (t:=z.s.toks) (n:=0) k Le.rfl (l.r.app l'.r) (λb o e=>Y7 _ e) (Y8 _) (Ze _ rfl) (by rw[Zi];exact gU) q
 unfold rD at q;split at q
 ·rw[aa]at r1 r2;obtain⟨t,rfl⟩:=r1;obtain⟨t',rfl⟩:=r2;exact add_int (I.fin k Le.rfl cI q _)
 ·rw[aa]at r1 r2;obtain⟨t,rfl⟩:=r1;obtain⟨t',rfl⟩:=r2;exact add_str (λt' tk=>I.fin k Le.rfl lJ q.2 _) q.1
 ·obtain⟨a,us,o,rfl,l⟩:=I.fA r1;obtain⟨b,vs,o',rfl,l'⟩:=I.fA r2;rename_i ds es;have hz:us.length+vs.length<=sizeLine:=by rw[<- l.r.len,<- l'.r.len];exact q.1
  by_cases U:us=[]
  ·cases l.r.nl.mp U;subst U;obtain⟨⟨cls,dd,data,sl⟩,ho,hc,n,hd⟩:=id l.p;obtain⟨⟨wT,f6,xz,iH⟩,ho2,f7,n2,g7⟩:=id l'.p;simp only at hc hd f7 g7;subst hc hd f7 g7;exact concat_meets ⟨_,ho,rfl⟩ ⟨_,ho2,rfl⟩ noFill_tuple_add seq_tuple_add PySem.F.slot_tuple_add PySem.F.entry_tuple_add (PySem.F.args_tuple_add_2 _ _)
    (tuple_addW0 a b _ vs.toArray n n2 dd f6 sl iH (by simp)) ⟨ho,ho2,k (.tup es) z _ Le.rfl I r2 q.2⟩
  ·refine HT.Gs l.p l'.p U (λe=>?_) (λe=>?_) hz
   ·rw[l'.r.nl.mp e,Zu]at q;exact k (.tup ds) z _ Le.rfl I r1 q.2
   ·exact I.tup (t:=z.s.toks) k Le.rfl (l.r.app l'.r) (λb o e=>Y7 _ e) (Y8 _) (Ze _ rfl) ⟨rfl,rfl,⟨_,rfl⟩,by rw[Zi];exact hz⟩ q.2
 ·exact lst r1 r2 q
end
end N
end
section
set_option maxHeartbeats 1000000
namespace N
open PySem PySem.Spec PyProof.Rows L2
section
variable{X:Cx}
theorem GX:O2 X (binaryOp .Mult) rE:=fun τ z Q R d e v u I r1 r2 q k=>by
 unfold rE at q;cases d with
 |int i=>
  rw[aa]at r1;obtain⟨t,rfl⟩:=r1;obtain⟨j,t',rfl,hc,q⟩:=dG q r2;exact mul_int (I.fin k Le.rfl cI q _) (hc.elim (·.ok) λh=>.of_bits (xF h.1) (xF h.2))
 |_=>exact q.elim
theorem oB{f:Value->Value->Sem Value}:O2 X f λ_ _ _ _=>False:=λ_ _ _ _ _ _ _ _ _ _ _ q _=>q.elim
theorem GY:∀o:Operator,O2 X (binaryOp o) (xR o)
 |.Add=>GW
 |.Sub=>xS λ_ _ _ _ _ _ _ q=>sub_int q
 |.Mult=>GX
 |.FloorDiv=>lX λi j _ _ _ _ _ hc q=>by
  have h1:(0:Int)<j:=hc.1;have h2:j<2 ^ 200:=hc.2;have h3:j.natAbs<2 ^ 200:=by lia
  exact floordiv_int (by lia) (by rw[Int.fdiv_eq_ediv_of_nonneg i (by lia)];exact q) (.inl (PyProof.noPylong_of_log2 (Zq ((Nat.log2_lt (by lia)).mpr h3) (by decide))))
 |.Mod=>lX λi j _ _ _ _ _ hc q=>mod_int' (by lia) (by rw[Int.fmod_eq_emod_of_nonneg i (by lia)];exact q)
 |.Pow=>lX λ_ _ _ _ _ _ _ hc q=>pow_int_small hc.1 hc.2.1 hc.2.2 q
 |.LShift=>lX λ_ _ _ _ _ _ _ hc q=>lshift_int_small hc.1 hc.2.1 hc.2.2 q
 |.RShift=>lX λi j _ _ _ _ _ hc q=>rshift_int hc (by rw[Int.fdiv_eq_ediv_of_nonneg i (Gr _)];exact q)
 |.BitAnd=>xS λ_ _ _ _ _ _ _ q=>and_int q
 |.MatMult=>oB
 |.Div=>oB
 |.BitOr=>oB
 |.BitXor=>oB
noncomputable def xT:D->Bool
 |.lst []=>true
 |_=>false
inductive fF(ne:Bool)(x y:D)(M:Mp)(k:Bool->Prop):Prop
 |mk (h:(aF (b9 x M)=true/\aF (b9 y M)=true/\aI (b9 x M)<=100)\/((rh (b9 x M)).isSome=true/\xT (b9 y M)=true)) (q:k (aw (b9 x M) (b9 y M)))
noncomputable def ek(x:D)(ds:List D):Bool:=ds.any λd=>aw d x
def xU(x y:D)(M:Mp)(k:Bool->Prop):Prop:=match y with
 |.au _ _=>False
 |.str _=>False
 |.ref a=>(∃kvs,M a=some (.au kvs)/\fE x λc=>k (aX kvs c).isSome)\/∃ds,M a=some (.lst ds)/\aF x=true/\aP ds=true/\aW ds<=100/\k (ek x ds)
 |y=>dF y M λds=>aF x=true/\aP ds=true/\aW ds<=100/\k (ek x ds)
structure iL(x y:D)(M:Mp)(k:Bool->Prop):Prop where
 h:xU x y M k
def rF(x y:D)(k:Bool->Prop):Prop:=match x with
 |.int i=>cH y λj=>k (decide (i<j))
 |.str i=>match y with
  |.str j=>k (decide (i.cps.toList<j.cps.toList))
  |_=>False
 |_=>False
def oD(x y:D)(k:Int->Int->Prop):Prop:=cH x λi=>cH y λj=>k i j
def jH:CmpOp->D->D->Mp->(Bool->Prop)->Prop
 |.Eq=>λx y M k=>fF false x y M k
 |.NotEq=>λx y M k=>fF true x y M λb=>k (!b)
 |.Lt=>λx y M k=>rF x y k
 |.LtE=>λx y M k=>oD x y λi j=>k (decide (i<=j))
 |.Gt=>λx y M k=>oD x y λi j=>k (decide (j<i))
 |.GtE=>λx y M k=>oD x y λi j=>k (decide (j<=i))
 |.In=>λx y M k=>iL x y M k
 |.NotIn=>λx y M k=>iL x y M λb=>k (!b)
 |_=>λ_ _ _ _=>False
end
def OC(X:Cx)(f:Value->Value->Sem Value)(r:D->D->Mp->(Bool->Prop)->Prop):Prop:=∀ τ z(k:Bool->Prop)R d e v u,ab X τ z->aa X.G z.F d v->aa X.G z.F e u->r d e z.M k->(∀b t,k b->R (.bool b) { z.s with toks:=t })->W X (f v u) R z.s
def xV(r:D->D->Mp->(Bool->Prop)->Prop)(ta tb:DE):DE:=fun τ M q=>ta τ M λx M1=>tb τ M1 λy M2=>r x y M2 λb=>q (.bl b) M2
def xW(r:D->D->Mp->(Bool->Prop)->Prop)(ta tb:DE):DT:=fun τ M q=>ta τ M λx M1=>tb τ M1 λy M2=>r x y M2 λb=>q b M2
section
variable{X:Cx}{a b:Expr}{ta tb:DE}{pos:Pos}
theorem GZ{o:CmpOp}{r:D->D->Mp->(Bool->Prop)->Prop}(ho:OC X (compareOp o) r)(ha:PE X a ta)(hb:PE X b tb)(hm:behindInMarks o b=false):PE X (.Compare a [o] [b] pos) (xV r ta tb):=fun τ z Q R I h k=>
 wpAny_Compare1 (ha τ z _ _ I h λx z1 v l1 I1 r1 q1=>hb τ z1 _ _ I1 q1 λy z2 u l2 I2 r2 q2=>ho τ z2 _ _ x y v u I2 (r1.up l2.d) r2 q2 λb t q=>I2.fin k (l1.tr l2) lI q t) hm
theorem G0{o:CmpOp}{r:D->D->Mp->(Bool->Prop)->Prop}(ho:OC X (compareOp o) r)(ha:PE X a ta)(hb:PE X b tb)(hm:behindInMarks o b=false):PT X (.Compare a [o] [b] pos) (xW r ta tb):=fun τ z Q R I h k=>
 wpAny_isTrue_Compare1 (ha τ z _ _ I h λx z1 v l1 I1 r1 q1=>hb τ z1 _ _ I1 q1 λy z2 u l2 I2 r2 q2=>ho τ z2 _ _ x y v u I2 (r1.up l2.d) r2 q2 λb t q=>wpAny_truthy_bool (k b ⟨z2.F,z2.M,{ z2.s with toks:=t }⟩ (l1.tr l2) (I2.oe t) q)) hm
end
section
variable{X:Cx}
theorem ab.xX{τ:St}{z:Z}{d:D}{u:Value}(I:ab X τ z)(r:aa X.G z.F d u)(h:aF (b9 d z.M)=true):Sh X.G z.F z.s (b9 d z.M) u:=by
 cases d with
 |ref a=>
  change aF (lW a (z.M a))=true at h;show Sh X.G z.F z.s (lW a (z.M a)) u;rw[aa]at r;subst r;cases e:z.M a with
  |none=>rw[e]at h;cases h
  |some o=>cases o with
   |lst ds=>rw[e]at h;obtain⟨us,n,l⟩:=I.eK e;exact .lst l.p.isList l.r h
   |_=>rw[e]at h;cases h
 |_=>exact fC I.hok r h
theorem ab.xY{τ:St}{z:Z}{d:D}{u:Value}{ds:List D}(I:ab X τ z)(r:aa X.G z.F d u)(h:b9 d z.M=.lst ds):∃a us n,u=.ref a/\eJ X.G z.F z.s.heap a ds us n:=by
 cases d with
 |ref a=>
  change lW a (z.M a)=.lst ds at h;rw[aa]at r;cases e:z.M a with
  |none=>rw[e]at h;cases h
  |some o=>cases o with
   |lst es=>rw[e]at h;cases h;obtain⟨us,n,l⟩:=I.eK e;exact⟨a,us,n,r,l⟩
   |_=>rw[e]at h;cases h
 |lst es=>cases h;exact I.gY r
 |_=>cases h
theorem xZ(hu:X.A.units+110<cLine){τ:St}{z:Z}{d e:D}{v u:Value}{k:Bool->Prop}(I:ab X τ z)(r1:aa X.G z.F d v)(r2:aa X.G z.F e u)(h:(aF (b9 d z.M)=true/\aF (b9 e z.M)=true/\aI (b9 d z.M)<=100)\/((rh (b9 d z.M)).isSome=true/\xT (b9 e z.M)=true))(q:k (aw (b9 d z.M) (b9 e z.M))):∃b,SeqAt.RcAt X.A z.s v u b/\SeqAt.RcNeAt X.A z.s v u (!b)/\k b:=by
 rcases h with ⟨h1,h2,h3⟩ |⟨h1,h2⟩
 ·have c:=Gq (A:=X.A) (n:=100) I.hok (I.xX r1 h1) (I.xX r2 h2) (Nat.le_succ_of_le h3) (by lia);exact⟨_,c.1,c.2,q⟩
 ·cases e1:b9 d z.M with
  |lst ds=>cases e2:b9 e z.M with
   |lst es=>cases es with
    |nil=>
     obtain⟨a,us,n,rfl,l⟩:=I.xY r1 e1;obtain⟨b,vs,n',rfl,l'⟩:=I.xY r2 e2;have:=l'.r;rw[af]at this;subst this;rw[e1,e2]at q;cases ds with
     |nil=>
      have:=l.r;rw[af]at this;subst this;exact⟨true,SeqAt.RcAt.lists (e:=λ_=>true) l.p.isList l'.p.isList rfl (by lia) λj h1=>absurd h1 (Nat.not_lt_zero j),SeqAt.RcNeAt.lists (e:=λ_=>true) l.p.isList l'.p.isList rfl (by lia) λj h1=>absurd h1 (Nat.not_lt_zero j),q⟩
     |cons d ds=>
      have:=l.r;rw[af]at this;obtain⟨u,us,rfl,_⟩:=this;exact⟨false,SeqAt.RcAt.lists_lengths l.p.isList l'.p.isList (by simp) (by lia),SeqAt.RcNeAt.lists_lengths l.p.isList l'.p.isList (by simp) (by lia),q⟩
    |cons _ _=>rw[e2]at h2;cases h2
   |_=>rw[e2]at h2;cases h2
  |_=>rw[e1]at h1;cases h1
theorem G1(hu:X.A.units+110<cLine):OC X (compareOp .Eq) (jH .Eq):=fun τ z k R d e v u I r1 r2 q K=>by
 cases q with
 |mk h q=>
  obtain⟨b,h1,_,q⟩:=xZ hu I r1 r2 h q;exact h1 _ _ _ _ (K b z.s.toks q)
theorem G2(hu:X.A.units+110<cLine):OC X (compareOp .NotEq) (jH .NotEq):=fun τ z k R d e v u I r1 r2 q K=>by
 cases q with
 |mk h q=>
  obtain⟨b,_,h1,q⟩:=xZ (k:=λb=>k (!b)) hu I r1 r2 h q;exact h1 _ _ _ _ (K (!b) z.s.toks q)
open Classical in
theorem G3{τ:St}{z:Z}{x:D}{v:Value}{ds:List D}{us:List Value}(hu:X.A.units+110<cLine)(I:ab X τ z)(r:aa X.G z.F x v)(rs:af X.G z.F ds us)(h1:aF x=true)(h2:aP ds=true)(h3:aW ds<=100):
  ∃e:Value->Bool,(∀y,y∈us.toArray->SeqAt.EqAt X.A.in1 z.s y v (e y))/\us.toArray.any e=ek x ds:=by
 have key:∀{d:D}{y:Value},aa X.G z.F d y->aF d=true->decide (∃d',aa X.G z.F d' y/\aF d'=true/\aw d' x=true)=aw d x:=λ{d y}r k=>by
  rw[aal,decide_eq_true_eq];exact⟨λ⟨d',a,b,c⟩=>by rw[xv d r a k b];exact c,λc=>⟨d,r,k,c⟩⟩
 refine⟨λy=>decide (∃d',aa X.G z.F d' y/\aF d'=true/\aw d' x=true),λy hy=>?_,?_⟩
 ·obtain⟨i,hi⟩:=List.getElem?_of_mem (by simpa using hy:y∈us);have hl:i<ds.length:=by rw[rs.len];exact (List.getElem?_eq_some_iff.mp hi).1
  obtain⟨y',e,q⟩:=rs.get (Y5 hl);rw[hi]at e;cases e;have m:=jF h2 (Y5 hl);show SeqAt.EqAt X.A.in1 z.s y v (decide (∃d',aa X.G z.F d' y/\aF d'=true/\aw d' x=true));rw[key q m.1];exact lS 100 I.hok (fC I.hok q m.1) (fC I.hok r h1) (Y9 m.2 h3) (by show X.A.units+1+100<cLine;lia)
 ·rw[show us.toArray.any (λy=>decide (∃d',aa X.G z.F d' y/\aF d'=true/\aw d' x=true))=us.any (λy=>decide (∃d',aa X.G z.F d' y/\aF d'=true/\aw d' x=true)) by simp];clear h3;unfold ek
  induction ds generalizing us with
  |nil=>rw[af]at rs;subst rs;rfl
  |cons d ds ih=>
   rw[af]at rs;obtain⟨u,us,rfl,q1,q2⟩:=rs;rw[aP,Zf]at h2;rw[aaF,aaF,key q1 h2.1,ih q2 h2.2]
theorem x4(hu:X.A.units+110<cLine){τ:St}{z:Z}{d e:D}{v u:Value}{k:Bool->Prop}(I:ab X τ z)(r1:aa X.G z.F d v)(r2:aa X.G z.F e u)(h:iL d e z.M k):∃b,k b/\(∀Q E:Value->Shared->Prop,(∀t,Q (.bool b) { z.s with toks:=t })->wpAny (model X.G.P X.G.w) X.A (compareOp .In v u) Q E z.s)/\∀Q E:Value->Shared->Prop,(∀t,Q (.bool (!b)) { z.s with toks:=t })->wpAny (model X.G.P X.G.w) X.A (compareOp .NotIn v u) Q E z.s:=by
 have au:∀{e:D},aa X.G z.F e u->(fD e z.M λkvs=>fE d λc=>k (aX kvs c).isSome)->∃b,k b/\(∀Q E:Value->Shared->Prop,(∀t,Q (.bool b) { z.s with toks:=t })->wpAny (model X.G.P X.G.w) X.A (compareOp .In v u) Q E z.s)/\∀Q E:Value->Shared->Prop,(∀t,Q (.bool (!b)) { z.s with toks:=t })->wpAny (model X.G.P X.G.w) X.A (compareOp .NotIn v u) Q E z.s:=λr2 q=>by
  obtain⟨a,kvs,vs,rfl,l,q⟩:=I.fD r2 q;obtain⟨c,hc,q⟩:=oA (P:=X.G.P) (w:=X.G.w) q r1;have e:=(l.r.val c).so;exact⟨_,q,λQ E h=>wpAny_in_of hc l.n l.d.mapOf (by rw[<- e];exact h _),λQ E h=>wpAny_notIn_of hc l.n l.d.mapOf (by rw[<- e];exact h _)⟩
 have seq:∀{ds:List D}{us:List Value}{a:Addr},af X.G z.F ds us->u=.ref a->(z.s.heap.IsList a us.toArray\/z.s.heap.IsTuple a us.toArray)->aF d=true/\aP ds=true/\aW ds<=100/\k (ek d ds)->∃b,k b/\(∀Q E:Value->Shared->Prop,(∀t,Q (.bool b) { z.s with toks:=t })->wpAny (model X.G.P X.G.w) X.A (compareOp .In v u) Q E z.s)/\∀Q E:Value->Shared->Prop,(∀t,Q (.bool (!b)) { z.s with toks:=t })->wpAny (model X.G.P X.G.w) X.A (compareOp .NotIn v u) Q E z.s:=λrs Xv hs q=>by
  subst Xv;obtain⟨f,f1,f2⟩:=G3 hu I r1 rs q.1 q.2.1 q.2.2.1;refine⟨_,q.2.2.2,λQ E h=>?_,λQ E h=>?_⟩
  ·rcases hs with hs |hs
   ·exact SeqAt.in_listAt f hs f1 (by rw[f2];exact h z.s.toks)
   ·exact SeqAt.in_tupleAt f hs f1 (by rw[f2];exact h z.s.toks)
  ·rcases hs with hs |hs
   ·exact SeqAt.notIn_listAt f hs f1 (by rw[f2];exact h z.s.toks)
   ·exact SeqAt.notIn_tupleAt f hs f1 (by rw[f2];exact h z.s.toks)
 replace h:=h.h;unfold xU at h;cases e with
 |au ks ds=>exact h.elim
 |ref a=>
  rcases h with h |⟨ds,h1,h⟩
  ·exact au (e:=.ref a) r2 h
  ·rw[aa]at r2;obtain⟨us,n,l⟩:=I.eK h1;exact seq l.r r2 (.inl l.p.isList) h
 |lst ds=>obtain⟨a,us,n,e,l⟩:=I.gY r2;exact seq l.r e (.inl l.p.isList) h
 |tup ds=>obtain⟨a,us,o,e,l⟩:=I.fA r2;exact seq l.r e (.inr l.p) h
 |_=>exact h.elim
theorem rG{o:CmpOp}{f:Int->Int->Bool}(rule:∀(i j:Int)(t u:Tok)(s:Shared)(Q E:Value->Shared->Prop),Q (.bool (f i j)) s->wpAny (model X.G.P X.G.w) X.A (compareOp o (.int i t) (.int j u)) Q E s):OC X (compareOp o) (λx y _ k=>oD x y λi j=>k (f i j)):=fun τ z k R d e v u I r1 r2 q K=>by
 obtain⟨i,t,rfl,q⟩:=dG q r1;obtain⟨j,t',rfl,q⟩:=dG q r2;exact rule i j t t' z.s _ _ (K _ z.s.toks q)
theorem x5(hu:X.A.units+110<cLine):∀o:CmpOp,OC X (compareOp o) (jH o)
 |.Eq=>G1 hu
 |.NotEq=>G2 hu
 |.In=>fun τ z k R d e v u I r1 r2 q K=>by
  obtain⟨b,q,h,_⟩:=x4 hu I r1 r2 q;exact h _ _ λt=>K b t q
 |.NotIn=>fun τ z k R d e v u I r1 r2 q K=>by
  obtain⟨b,q,_,h⟩:=x4 (k:=λb=>k (!b)) hu I r1 r2 q;exact h _ _ λt=>K (!b) t q
 |.Lt=>fun τ z k R d e v u I r1 r2 q K=>by
  replace q:rF d e k:=q;unfold rF at q;cases d with
  |int i=>
   rw[aa]at r1;obtain⟨t,rfl⟩:=r1;obtain⟨j,t',rfl,q⟩:=dG q r2;exact lt_int (K _ z.s.toks q)
  |str i=>cases e with
   |str j=>
    rw[aa]at r1 r2;obtain⟨t,rfl⟩:=r1;obtain⟨t',rfl⟩:=r2;exact lt_str (K _ z.s.toks q)
   |_=>exact q.elim
  |_=>exact q.elim
 |.LtE=>rG λ_ _ _ _ _ _ _ q=>le_int q
 |.Gt=>rG λ_ _ _ _ _ _ _ q=>gt_int q
 |.GtE=>rG λ_ _ _ _ _ _ _ q=>ge_int q
 |.Is=>λ_ _ _ _ _ _ _ _ _ _ _ q _=>q.elim
 |.IsNot=>λ_ _ _ _ _ _ _ _ _ _ _ q _=>q.elim
end
end N
end
section
set_option maxHeartbeats 1000000
namespace N
open PySem PySem.Spec PyProof.Rows L2
def x6(x:D)(M:Mp)(k:Bool->Prop):Prop:=match x with
 |.bl b=>k b
 |.lst ds=>k (!ds.isEmpty)
 |.ref p=>∃xs,M p=some (.lst xs)/\k (!xs.isEmpty)
 |_=>False
section
variable{X:Cx}{a b:Expr}{ta tb:DE}{pos:Pos}
theorem G4{G:Gx}{F:Fz}{ds:List D}{us:List Value}(r:af G F ds us):(!us.toArray.isEmpty)=!ds.isEmpty:=by
 cases ds with
 |nil=>rw[af]at r;subst r;rfl
 |cons d ds=>rw[af]at r;obtain⟨u,us,rfl,_⟩:=r;rfl
theorem rH{n:Nat}(h:n<=sizeLine):(n:Int)<2 ^ 63:=by have:=lT;lia
theorem G5{τ:St}{z:Z}{d:D}{v:Value}{k:Bool->Prop}{R:Bool->Shared->Prop}(I:ab X τ z)(r:aa X.G z.F d v)(h:x6 d z.M k)(K:∀b t,k b->R b { z.s with toks:=t }):W X (truthy v) R z.s:=by
 have hl:=lT;have lst:∀{ds:List D}{us:List Value}{a:Addr}{n:Nat},eJ X.G z.F z.s.heap a ds us n->k (!ds.isEmpty)->W X (truthy (.ref a)) R z.s:=λl q=>wpAny_truthy_list l.p.isList (by rw[Zb];exact rH l.z) (by rw[G4 l.r];exact K _ _ q);cases d with
 |bl b=>rw[aa]at r;subst r;exact wpAny_truthy_bool (K _ z.s.toks h)
 |lst ds=>obtain⟨a,us,n,rfl,l⟩:=I.gY r;exact lst l h
 |ref a=>
  rw[aa]at r;subst r;obtain⟨xs,h1,h2⟩:=h;obtain⟨us,n,l⟩:=I.eK h1;exact lst l h2
 |_=>exact h.elim
def x7(ta:DE):DT:=fun τ M q=>ta τ M λx M1=>x6 x M1 λb=>q b M1
theorem G6(h:PE X a ta)(he:∀ir,isTrue a X.env ir=(do let v <- ir;standAt a.pos;holding [v] (truthy v))):PT X a (x7 ta):=fun τ z Q R I q k=>
 isTrue_plain (h τ z _ _ I q λd z1 u l1 I1 r1 q1=>G5 I1 r1 q1 λb t q=>k b ⟨z1.F,z1.M,{ z1.s with toks:=t }⟩ l1 (I1.oe t) q) (he _)
def aB:Q2:=λx y M Q=>match x with
 |.tup ds=>cH y λi=>∃d,cK ds i=some d/\Q d M
 |.lst ds=>cH y λi=>∃d,cK ds i=some d/\Q d M
 |.au ks ds=>fE y λc=>∃d,aX (ks.zip ds) c=some d/\Q d M
 |.ref a=>(∃ds,M a=some (.lst ds)/\cH y λi=>∃d,cK ds i=some d/\Q d M)\/∃kvs,M a=some (.au kvs)/\fE y λc=>∃d,aX kvs c=some d/\Q d M
 |_=>False
theorem G7(ha:PE X a ta)(hb:PE X b tb)(hs:∀o i,subscripted b false o i=operate [o,i] (getItem o i)):PE X (.Subscript a b pos) (oh aB ta tb):=fun τ z Q R I h k=>
 Subscript_ (ha τ z _ _ I h λx z1 v l1 I1 r1 q1=>hb τ z1 _ _ I1 q1 λy z2 u l2 I2 r2 q2=>by
  have hs:=hs v u;have r1:=r1.up l2.d;have l:=l1.tr l2;have hn:=lT;have lst:∀{ds:List D}{us:List Value}{c:Addr}{n:Nat},v=.ref c->eJ X.G z2.F z2.s.heap c ds us n->(cH y λi=>∃d,cK ds i=some d/\Q d z2.M)->W X (subscriptTail a b v u) R z2.s:=λ{ds us c n}e p q=>by
   subst e;obtain⟨i,t,rfl,d,hd,q⟩:=dG q r2;obtain⟨j,h1,h2,h3,h4,h5⟩:=xD hd;obtain⟨w,Vv,rI⟩:=p.r.get h2;have hl:=p.r.len;have hz:=p.z;have fin:=k d z2 w l I2 rI q;by_cases h0:0<=i
   ·have hj:i.toNat=j:=(by rw[seqIndex_of h0 h5]at h1;exact ZJ h1);exact item_listR p.p.isList h0 (by lia) (by rw[hj];simpa using Vv) fin hs
   ·have hj:(i+(us.toArray.size:Int)).toNat=j:=by
     rw[seqIndex_neg (by lia) h4]at h1;rw[Zb,<- hl];exact ZJ h1
    exact subscriptTail_builtinR (x:=w) p.p.isList.typeIs slot_list_getitem.lookup (wpAny_getItem_list_neg (Q:=λr s'=>r=w/\R r s') p.p.isList (by lia) (by rw[Zb];lia) (by lia) (by rw[hj];simpa using Vv) ⟨rfl,fin⟩) hs
  have au:∀{kvs:List (Key×D)}{vs:List (Key×Value)}{c:Addr},v=.ref c->rA X.G z2.F z2.s.heap c kvs vs->(fE y λc=>∃d,aX kvs c=some d/\Q d z2.M)->W X (subscriptTail a b v u) R z2.s:=λ{kvs vs c}e p q=>by
   subst e;obtain⟨c',hc,d,hd,q⟩:=oA (P:=X.G.P) (w:=X.G.w) q r2;have hv:=p.r.val c';rw[hd]at hv;cases e:valueAt vs c' with
   |none=>rw[e]at hv;exact hv.elim
   |some w=>
    rw[e]at hv;exact tail_any (ops:=[.ref c,u]) p.d.typeIs PySem.F.slot_dict_getitem.lookup (wpAny_getItem_of hc p.d.mapOf e (I2.fin k l hv q _)) hs
  cases x with
  |tup ds=>
   obtain⟨c,us,o,rfl,p⟩:=I2.fA r1;obtain⟨i,t,rfl,d,hd,q⟩:=dG q2 r2;obtain⟨j,h1,h2,h3,h4,h5⟩:=xD hd;obtain⟨w,Vv,rI⟩:=p.r.get h2;have hl:=p.r.len;have hz:=p.t.len;exact subscriptTail_builtinR (x:=w) p.p.typeIs slot_tuple_getitem.lookup (getItem_tuple (j:=j) (Q:=λr s'=>r=w/\R r s') p.p (by lia) (by lia) (by rw[Zb,<- hl];exact h1) (by simpa using Vv) ⟨rfl,k d z2 w l I2 rI q⟩) hs
  |lst ds=>obtain⟨c,us,n,e,p⟩:=I2.gY r1;exact lst e p q2
  |au ks ds=>obtain⟨c,kvs,vs,e,p,q⟩:=I2.fD (k:=λkvs=>fE y λc=>∃d,aX kvs c=some d/\Q d z2.M) r1 q2;exact au e p q
  |ref c=>
   rw[aa]at r1;rcases q2 with ⟨ds,h1,h2⟩ |⟨kvs,h1,h2⟩
   ·obtain⟨us,n,p⟩:=I2.eK h1;exact lst r1 p h2
   ·obtain⟨vs,p⟩:=I2.rB h1;exact au r1 p h2
  |_=>exact q2.elim)
def oE:QS:=λo i d M k=>match o with
 |.ref a=>(∃xs,M a=some (.lst xs)/\cH i λn=>∃j,eL xs.length n=some j/\k (up M a (.lst (xs.set j d))))\/∃kvs,M a=some (.au kvs)/\fE i λc=>kvs.length<sizeLine/\k (up M a (.au (aY kvs c d)))
 |_=>False
theorem af.set{G:Gx}{F:Fz}{d:D}{u:Value}(r:aa G F d u):∀{ds:List D}{us:List Value}(i:Nat),af G F ds us->af G F (ds.set i d) (us.set i u)
 |[],us,i,h=>by rw[af]at h;subst h;exact .nil
 |c::ds,us,0,h=>by rw[af]at h;obtain⟨v,us,rfl,_,h2⟩:=h;exact .cons r h2
 |c::ds,us,i+1,h=>by rw[af]at h;obtain⟨v,us,rfl,h1,h2⟩:=h;exact .cons h1 (af.set r i h2)
theorem ab.x8{τ:St}{z:Z}{p:Addr}{xs ys:List D}{us us':List Value}{n n' t:Nat}{h':Heap}(I:ab X τ z)(h:z.M p=some (.lst xs))(sb:∀ b,b≠p->bk z.s.heap h' b)(e:h'.get? p=some (bJ us' n'))(r:af X.G z.F ys us')(hz:us'.length<=sizeLine):
  ab X τ ⟨z.F,up z.M p (.lst ys),{ z.s with heap:=h',toks:=t }⟩:=I.put h rfl (.inl rfl) sb ⟨_,e⟩ ⟨by rw[r.len];exact hz,us',n',r,e⟩
theorem G8(hu:X.A.units+1<cLine):OS X oE:=fun τ z o i d ov iv u Q R I ro ri rd q k=>by
 unfold oE at q;cases o with
 |ref p=>
  rw[aa]at ro;subst ro;rcases q with ⟨xs,hp,q⟩ |⟨kvs,hp,q⟩
  ·obtain⟨n,t,rfl,j,hj,q⟩:=dG q ri;obtain⟨us,m,l⟩:=I.eK hp;obtain⟨h1,h2,h3,h4⟩:=xC hj;have hl:=l.r.len;have hn:=lT;have hz:=l.z;have e:(z.s.heap.update p (ZM (·.setIfInBounds j u))).get? p=some (bJ (us.set j u) m):=by
    rw[aaG _ l.e (by unfold bJ;rw[xE];rfl)];unfold bJ;rw[xE]
   have fin:R () { z.s with heap:=z.s.heap.update p (ZM (·.setIfInBounds j u)) }:=
    k ⟨z.F,_,_⟩ Le.rfl (I.x8 (us:=us) (n:=m) (t:=z.s.toks) hp (λb hb o q=>(aaW _ _ (ZO hb)).trans q) e (af.set rd j l.r) (by rw[List.length_set];exact hz)) q
   by_cases h0:0<=n
   ·have hk:n.toNat=j:=(by rw[seqIndex_of h0 h4]at h1;exact ZJ h1);exact PySem.W.ki_setAt l.e h0 (by lia) (by rw[Zb,<- hl];exact h4) (by rw[hk];exact fin)
   ·have hk:(n+(us.toArray.size:Int)).toNat=j:=by
     rw[seqIndex_neg (by lia) h3]at h1;rw[Zb,<- hl];exact ZJ h1
    exact PySem.W.ki_setBack l.e (by lia) (by rw[Zb,<- hl];exact h3) (by lia) (by rw[hk];exact fin)
  ·obtain⟨c,hc,hl,q⟩:=oA (P:=X.G.P) (w:=X.G.w) q ri;obtain⟨vs,l⟩:=I.rB hp;refine wpAny_setItem_pairs (hsz:=by rw[<- Paired.length l.r];exact l.z) hc l.d λh' oF hs=>?_;have he:∃q,h'.get? p=some q:=let ⟨q,_,_,hq,_⟩:=oF;⟨q,hq⟩
   exact k ⟨z.F,_,_⟩ Le.rfl (I.put (o':=.au (aY kvs c d)) hp rfl (.inl rfl) (λb hb o q=>(hs.2 b hb).trans q) he ⟨Y9 (iK _ _ _) hl,l.n,_,l.r.put c rd,oF⟩) q
 |_=>exact q.elim
end
end N
end
section
set_option maxHeartbeats 1000000
namespace N
open PySem PySem.Spec PyProof.Rows L2
abbrev XQ:=qN->Mp->Prop
abbrev Sp:=List D->Mp->QK->XQ->Prop
structure jI(G:Gx)(z z':Z)(s:Shared):Prop where
 s:z'.s=s
 l:Le z.F z'.F
 ok:ay G z'.F z'.M z'.s.heap
 os:z'.s.os=z.s.os
 bare:AllBare z'.s.gens
def CR(G:Gx)(z:Z)(Q:QK)(E:XQ)(r:Result)(s:Shared):Prop:=match r with
 |.ok (.ret u)=>∃d z',jI G z z' s/\aa G z'.F d u/\Q d z'.M
 |.ok _=>False
 |.error e=>∃x z',jI G z z' s/\wI G z' x e/\E x z'.M
structure bb(G:Gx)(k:Nat)(f:Addr)(fd:FuncData)(ps:List Str)(sp:Sp):Prop where
 len:∀ds M Q E,sp ds M Q E->ds.length=ps.length
 eH:∀(A:Around)(outer:List Env)(z:Z)(args:Args)(us:List Value)(ds:List D)(Q:QK)(E:XQ),bx k A->dV G A outer z->BindsTo z.s fd args (ps.zip us)->af G z.F ds us->sp ds z.M Q E ->
  codeAny (model G.P G.w) A (.call (.ref f) args) (CR G z Q E) z.s
section
variable{G:Gx}{F:Fz}{M:Mp}{h:Heap}{A:Around}{outer:List Env}{z z':Z}{s:Shared}(e:Fz)
theorem n7.xe{o:Obj}{ks:List Key}{us:List Value}(h:n7 G o ks us):n7 { G with ex:=e } o ks us:=⟨h.ex,h.bX,h.nd,h.len,h.sz⟩
mutual
theorem aa.xe:∀{d:D}{u:Value},aa G F d u->aa { G with ex:=e } F d u
 |.az,u,h=>by rw[aa]at h ⊢;exact h
 |.bl _,u,h=>by rw[aa]at h ⊢;exact h
 |.int _,u,h=>by rw[aa]at h ⊢;exact h
 |.str _,u,h=>by rw[aa]at h ⊢;exact h
 |.ref _,u,h=>by rw[aa]at h ⊢;exact h
 |.ty _,u,h=>by rw[aa]at h ⊢;exact h
 |.tup ds,u,h=>by rw[aa]at h ⊢;obtain⟨a,o,us,q,h1,h2,h3⟩:=h;exact⟨a,o,us,q,h1,h2,h3.xe⟩
 |.lst ds,u,h=>by rw[aa]at h ⊢;obtain⟨a,o,us,q,h1,h2,h3⟩:=h;exact⟨a,o,us,q,h1,h2,h3.xe⟩
 |.au ks ds,u,h=>by rw[aa]at h ⊢;obtain⟨a,o,us,q,h1,h2,h4,h3⟩:=h;exact⟨a,o,us,q,h1,h2.xe e,h4,h3.xe⟩
theorem af.xe:∀{ds:List D}{us:List Value},af G F ds us->af { G with ex:=e } F ds us
 |[],us,h=>by rw[af]at h ⊢;exact h
 |d::ds,us,h=>by rw[af]at h ⊢;obtain⟨u,r,q,h1,h2⟩:=h;exact⟨u,r,q,h1.xe,h2.xe⟩
end
theorem ay.xe(x:ay G F M h):ay { G with ex:=e } F M h:=⟨x.fz,λa o q=>⟨(x.ob a o q).1,by
 have y:=(x.ob a o q).2;cases o with
 |lst xs=>obtain⟨z,us,n,r,e1⟩:=y;exact⟨z,us,n,r.xe e,e1⟩
 |au kvs=>obtain⟨z,y,vs,r,c⟩:=y;exact⟨z,y,vs,Paired.VQ (λ_ _ r=>⟨r.1,r.2.xe e⟩) r,c⟩
 |ins C dx fs=>
  obtain⟨d,z,ne,e1,mA,e2,r1,r2⟩:=y;refine⟨d,z,ne,e1,mA,e2,λf=>?_,r2⟩;have:=r1 f;cases q1:fs.lookup f <;> cases q2:mA f <;> rw[q1,q2]at this
  ·trivial
  ·exact this
  ·exact this
  ·exact aa.xe e this
 |own y'=>exact y
 |lC ps=>exact y⟩,x.tb⟩
theorem jI.xe(x:jI G z z' s):jI { G with ex:=e } z z' s:=⟨x.s,x.l,x.ok.xe e,x.os,x.bare⟩
theorem dV.xe(x:dV G A outer z)(l:Le e z.F):dV { G with ex:=e } A outer z:=⟨x.frames,⟨x.mod.gW,x.mod.eI,x.mod.lF,x.mod.lG⟩,⟨x.bs.b,l⟩,x.cp,x.hok.xe e,x.bare⟩
theorem CR.xe{Q:QK}{E:XQ}{r:Result}(x:CR G z Q E r s):CR { G with ex:=e } z Q E r s:=by
 cases r with
 |error v=>obtain⟨y,z',h1,h2,h3⟩:=x;exact h2.elim
 |ok fl=>
  cases fl with
  |ret u=>obtain⟨d,z',h1,h2,h3⟩:=x;exact⟨d,z',h1.xe e,h2.xe e,h3⟩
  |next=>exact x
  |brk=>exact x
  |cont=>exact x
end
section
variable{G:Gx}{j k:Nat}{f:Addr}{fd:FuncData}{ps:List Str}{sp lY:Sp}{A:Around}{outer:List Env}{z:Z}
theorem bb.mono(F:bb G j f fd ps sp)(h:j<=k):bb G k f fd ps sp:=⟨F.len,λA outer z args us ds Q E hr=>F.eH A outer z args us ds Q E (hr.mono h)⟩
theorem bb.imp(F:bb G k f fd ps sp)(h:∀ds M Q E,lY ds M Q E->sp ds M Q E):bb G k f fd ps lY:=
 ⟨λds M Q E q=>F.len ds M Q E (h _ _ _ _ q),λA outer z args us ds Q E hr he hb hv hs=>F.eH A outer z args us ds Q E hr he hb hv (h _ _ _ _ hs)⟩
theorem dV.rq(e:dV G A outer z)(C:Addr)(us:List Value)(kw:List (Str×Value)):dV G (A.under (.builtin "type.__call__" ⟨.ref C::us,kw⟩)) outer z:=
 ⟨by first |exact e.frames |(simpa [Around.under,Code.envs,Code.isFrame,TC] using e.frames),e.mod,e.bs,e.cp,e.hok,e.bare⟩
theorem dV.Uz(e:dV G A outer z):∀b o,G.base.get? b=some o->z.s.heap.get? b=some o:=λb o q=>e.hok.fz b _ (e.bs.b b o q)
end
def rJ(sp:Sp)(a':List D)(E:XQ)(t:DA):DE:=fun τ M q=>t τ M λds M1=>sp (ds++a') M1 q E
def dW(X:Cx)(E:XQ):Prop:=∀x τ M,E x M->X.x x τ M
def eP(X:Cx)(ds:List D)(us:List Value):Prop:=∀ τ z,ab X τ z->af X.G z.F ds us
theorem af.append{G:Gx}{F:Fz}{ds es:List D}{us vs:List Value}(a:af G F ds us)(b:af G F es vs):af G F (ds++es) (us++vs):=by
 induction ds generalizing us with
 |nil=>rw[af]at a;subst a;exact b
 |cons d ds ih=>rw[af]at a;obtain⟨u,us,rfl,h1,h2⟩:=a;exact .cons h1 (ih h2)
section
variable{X:Cx}{k:Nat}{f C:Addr}{fd:FuncData}{ps:List Str}{sp:Sp}{a':List D}{ds:List Value}{E:XQ}{x m:Str}{p pos cr:Pos}{e o:Expr}{es:List Expr}{ta:DE}{t:DA}{τ:St}{z:Z}{Q:QK}{R:Value->Shared->Prop}
theorem ab.G9{z':Z}{s:Shared}(I:ab X τ z)(h:jI X.G ⟨aT z.F (X.aR z.s.heap),z.M,z.s⟩ z' s):∃z2:Z,z2.s=s/\z2.M=z'.M/\Le z.F z2.F/\ab X τ z2/\cn z'.F z2.F:=by
 obtain⟨rfl,l,ok,os,bare⟩:=h;exact⟨⟨N.aK z'.F (X.aR z.s.heap),z'.M,z'.s⟩,rfl,rfl,Le.aK (λb e=>(I.fX e).2) l,I.after l ok os bare,cn.aK X.qO l⟩
theorem x9{Q0:QK}{r:Result}{s':Shared}(U:dW X E)(I:ab X τ z)(h:CR X.G ⟨aT z.F (X.aR z.s.heap),z.M,z.s⟩ Q E r s')(K:∀ u d(z2:Z),z2.s=s'->Le z.F z2.F->ab X τ z2->aa X.G z2.F d u->Q d z2.M->R u s'):
  (match (generalizing:=false) r with |.ok (.ret u)=>R u s' |.ok _=>False |.error e=>XE X e s'):=by
 cases r with
 |error e=>obtain⟨_,_,_,h,_⟩:=h;exact h.elim
 |ok fl=>
  cases fl with
  |ret u=>
   obtain⟨d,z',h,r,q⟩:=h;obtain⟨z2,e1,e2,l,J,ld⟩:=I.G9 h;exact K u d z2 e1 l J (r.up ld) (by rw[e2];exact q)
  |next=>exact h.elim
  |brk=>exact h.elim
  |cont=>exact h.elim
theorem rK{K0:PySem.W.Frag}{x:Fz}{us:List Value}{vs:List D}(F:bb { X.G with ex:=x } k f fd ps sp)(hr:bx k X.A)(hb:bS K0 fd ps ds)(hd:eP X a' ds)(U:dW X E)(I:ab X τ z)(lx:Le x (aT z.F (X.aR z.s.heap)))(hk:K0.In z.s.heap)(r:af X.G z.F vs us)(h:sp (vs++a') z.M Q E)(K:KE X τ z.F Q R):W X (call (.ref f) us) R z.s:=by
 have r2:af X.G z.F (vs++a') (us++ds):=r.append (hd τ z I);have hl:(us++ds).length=ps.length:=by rw[<- r2.len];exact F.len _ _ _ _ h
 refine wpAny_call (aaJ (F.eH X.A X.stk ⟨aT z.F (X.aR z.s.heap),z.M,z.s⟩ ⟨us,[]⟩ (us++ds) (vs++a') Q E hr (I.qP.xe x lx) (hb z.s us hk hl) ((r2.up I.dC.d).xe x) h) λr s' hq=>?_);have:=x9 (Q0:=Q) U I (hq.xe X.G.ex) λu d z2 e l J r q=>e ▸ K d z2 u l J r q;cases r with
 |error e=>exact this
 |ok fl=>cases fl <;> exact this
theorem rL{us:List Value}{vs:List D}(F:bb X.G k f fd ps sp)(hr:bx k X.A)(hb:bS X.G.K fd ps ds)(hd:eP X a' ds)(U:dW X E)(I:ab X τ z)(r:af X.G z.F vs us)(h:sp (vs++a') z.M Q E)(K:KE X τ z.F Q R):W X (call (.ref f) us) R z.s:=
 rK (x:=X.G.ex) F hr hb hd U I (I.bs.x.tr I.dC) I.c8 r h K
theorem Ha(F:bb X.G k f fd ps sp)(hr:bx k X.A)(hg:Gl X x)(hm:X.G.mg x=some (.ref f))(hk:PySem.W.keepIn X.G.K (.ref f)=true)(hb:bS X.G.K fd ps ds)(hd:eP X a' ds)(U:dW X E)
  (ha:PA X (e::es) t) (dL:(x == ("__debug__" : Str))=false) (he:starEach (e::es) X.env=(false,eval e X.env)::starEach es X.env) (da:(backTo pos (starEach es X.env)).any (·.1)=false) :
  PE X (.Call (.Name x p) (e::es) [] pos) (rJ sp a' E t):=fun τ z Q R I h K=>
 Z7 (jz I hg hm dL (PySem.W.callWith_K (h₀:=X.G.base) I.ok.mod.gW hk (ha pos τ z _ _ I h λvs z1 us l1 I1 r q=>⟨I1.c8,rL F hr hb hd U I1 r q λd z2 u l2=>K d z2 u (l1.tr l2)⟩) he da))
theorem Hb(F:bb X.G k f fd ps sp)(hr:bx k X.A)(hg:Gl X x)(hm:X.G.mg x=some (.ref f))(hk:PySem.W.keepIn X.G.K (.ref f)=true)(hb:bS X.G.K fd ps ds)(hd:eP X a' ds)(U:dW X E)
  (dL:(x == ("__debug__" : Str))=false):PE X (.Call (.Name x p) [] [] pos) (rJ sp a' E iw):=fun τ z Q R I h K=>
 Z7 (jz I hg hm dL (PySem.W.callWith_K0 I.c8 hk (rL (us:=[]) F hr hb hd U I .nil h K)))
end
noncomputable def start(N:List Str)(ds:List D):St:=ds.map some++List.replicate (N.length-ds.length) none
noncomputable def el(G:Gx)(N:List Str)(qual:Str)(scope:Scope)(f:Addr)(cd:Value)(A:Around)(outer:List Env)(s:Shared)(E:XQ):Cx where
 G:=G
 A:=A.deeper (envOfC qual scope s.heap.objs.size f cd)
 N:=N
 os:=s.os
 env:=envOfC qual scope s.heap.objs.size f cd
 outer:=outer
 stk:=envOfC qual scope s.heap.objs.size f cd::outer
 fn:=λ_=>true
 calm:=true
 x:=λx _ M=>E x M
theorem Hc{G:Gx}{N ps:List Str}{qual:Str}{scope:Scope}{f:Addr}{cd:Value}{A:Around}{outer:List Env}{z:Z}{s1:Shared}{E:XQ}{us:List Value}{ds:List D}
  (S:aO N ps scope) (hd:A.handled=none) (e0:dV G A outer z) (hl:ds.length=ps.length) (r:af G z.F ds us)
  (x:InCallC z.s z.s.heap.objs.size (bindL (envOfC qual scope z.s.heap.objs.size f cd).kindOf (ps.zip us) λ_=>none) (cellsFrom (z.s.heap.objs.size+1) scope.names []) (bindC (envOfC qual scope z.s.heap.objs.size f cd).kindOf (ps.zip us) λ_=>none) s1) :
  ab (el G N qual scope f cd A outer z.s E) (start N ds) ⟨z.F,z.M,s1⟩:=by
 have da:ps.length<=N.length:=by have:=congrArg aaI S.pre;rw[aaU]at this;lia
 obtain⟨h1,tk,rfl,hk⟩:=x.done;refine⟨⟨e0.mod,S.kind,rfl,rfl,λy w c h1 h2=>?_,λy hy=>?_,λ_=>hd,Around.frames_deeper e0.frames,.inr ⟨rfl,rfl⟩⟩,e0.bs,rfl,e0.bare,e0.cp,⟨_,x.toInCall.ns,λi y v h1 h2 h3=>?_⟩,λy c h=>?_,⟨e0.hok.cU (Y8 _),e0.hok.dk (Y8 _)⟩,e0.hok.keep λb _ o q=>hk b o q,?_⟩
 ·exact name_of_addr x.apart (PySem.mem_of_lookup h1) (PySem.mem_of_lookup h2)
 ·have hy:scope.names.lookup y=some .cell\/scope.names.lookup y=some .free:=hy;rcases hy with hy |hy
  ·exact xQ hy
  ·exact absurd rfl (S.GH _ (PySem.mem_of_lookup hy))
 ·have hi:i<ds.length:=by
   unfold start at h2;by_cases hi:i<ds.length
   ·exact hi
   ·rw[Zy (by simpa using hi),List.getElem?_replicate]at h2;split at h2 <;> cases h2
  have ha:ds[i]?=some v:=by
   unfold start at h2;rw[ZH (by simpa using hi),Zr]at h2;cases e:ds[i]? with
   |none=>rw[e]at h2;cases h2
   |some a=>rw[e]at h2;cases h2;rfl
  obtain⟨u,hu,rv⟩:=r.get ha;have hp:ps[i]?=some y:=by rw[<- S.pre,List.getElem?_take_of_lt (by lia)];exact h1
  have xL:ps.Nodup:=by rw[<- S.pre];exact S.nd.sublist (List.take_sublist _ _)
  refine⟨u,rv,?_⟩;rcases S.xK y (Z4 hp) with k |k
  ·exact .inl ⟨k,xO xL hp hu k⟩
  ·obtain⟨c,e⟩:=xQ (n:=z.s.heap.objs.size+1) k;refine .inr ⟨.inl k,c,e,?_⟩;have q:=x.cell y c e;rw[xP xL hp hu (by show scope.names.lookup y≠_;rw[k];decide)]at q;exact q
 ·have:=aaj (x.above y c (PySem.mem_of_lookup h));exact⟨⟨_,x.cell y c h⟩,e0.hok.dk this,.inl ⟨rfl,e0.hok.cU this⟩⟩
 ·unfold start;show _=N.length;rw[Zi,Y6,List.length_replicate];lia
theorem x'{G:Gx}{k:Nat}{f:Addr}{name qual:Str}{params:Arguments}{body:List Stmt}{scope:Scope}{Vw kV doc pm a9 ct oc:Value}{Ux od:Option Addr}{cL:Array (Option Value)}{N ps:List Str}{sp:Sp}
  (lk:G.K.lookup f=some ⟨oc,od,.func (PySem.W.fnOf name qual params body scope Vw kV doc pm Ux a9 ct),cL⟩) (eg:PySem.W.codeIn G.K a9 qual=true) (S:aO N ps scope) (len:∀ds M Q E,sp ds M Q E->ds.length=ps.length)
  (Hd:∀(A:Around)(outer:List Env)(s:Shared)(M:Mp)(ds:List D)(Q:QK)(E:XQ),bx k (A.deeper (envOfC qual scope s.heap.objs.size f a9))->sp ds M Q E ->
   ∃t,fy (el G N qual scope f a9 A outer s E) body t/\t { nx:=λ_ M'=>Q .az M',rt:=Q } (start N ds) M) :
  bb G (k+1) f (PySem.W.fnOf name qual params body scope Vw kV doc pm Ux a9 ct) ps sp:=by
 refine⟨len,λA outer z args us ds Q E hr e0 hb r jp=>?_⟩;have hl:=len _ _ _ _ jp;have KX:G.K.In z.s.heap:=e0.mod.gW.keeps e0.Uz;have lG:z.s.heap.NoLimit:=e0.mod.lG.keeps e0.Uz;have He:∀y∈ps.zip us,scope.names.lookup y.1=some .local\/(scope.names.lookup y.1=some .cell/\((cellsFrom (z.s.heap.objs.size+1) scope.names []).lookup y.1).isSome=true):=λ⟨n,v⟩ hy=>by
  rcases S.xK n (aa4 hy).1 with q |q
  ·exact .inl q
  ·exact .inr ⟨q,PySem.W.cellsFrom_some _ _ _ (.inl q)⟩
 refine codeAny_call_function hr.depth (KX _ _ lk) rfl S.co S.rx rfl (PySem.W.codeRec_of KX eg) (hb _ _ _ _ ?_);refine wpAny_newFunctionEnv_cells S.kind He λenv he s1 x=>?_;subst he;refine⟨lG.keeps x.toInCall.keep,codeAny_func ?_⟩;obtain⟨t,ht,hq⟩:=Hd A outer z.s z.M ds Q E (hr.deeper _) jp;refine aa1 (ht (start N ds) ⟨z.F,z.M,s1⟩ _ (λfl s'=>match fl with |.ret u=>CR G z Q E (.ok (.ret u)) s' |.next=>CR G z Q E (.ok (.ret .none)) s' |_=>False) (Hc S hr.hd e0 hl r x) hq
  ⟨fun τ z1 l J q=>⟨.az,z1,⟨rfl,l,J.hok,J.os,J.bare⟩,by rw[aa],q⟩,λd τ z1 u l J rd q=>⟨d,z1,⟨rfl,l,J.hok,J.os,J.bare⟩,rd,q⟩,λ_ _ _ _ q=>q,λ_ _ _ _ q=>q⟩) (λfl s' hs=>?_) λe s' hs=>hs.no.elim
 cases fl <;> first |exact hs |exact False.elim hs
end N
end
section
set_option maxHeartbeats 1000000
namespace N
open PySem PySem.Spec PyProof.Rows L2
noncomputable def fG(f:Str)(d:D):List (Str×D)->List (Str×D)
 |[]=>[(f,d)]
 |p::r=>if p.1=f then (f,d)::r else p::fG f d r
theorem jJ(g:Str)(p:Str×D)(r:List (Str×D)):(p::r).lookup g=if g=p.1 then some p.2 else r.lookup g:=by
 by_cases h:g=p.1
 ·rw[if_pos h,List.lookup,beq_iff_eq.mpr h]
 ·rw[if_neg h,List.lookup,beq_eq_false_iff_ne.mpr h]
theorem rM(f g:Str)(d:D):∀fs:List (Str×D),(fG f d fs).lookup g=if g=f then some d else fs.lookup g
 |[]=>jJ g (f,d) []
 |p::r=>by
  unfold fG;by_cases h:p.1=f
  ·rw[if_pos h,jJ,jJ,h];by_cases q:g=f
   ·rw[if_pos q,if_pos q]
   ·rw[if_neg q,if_neg q,if_neg q]
  ·rw[if_neg h,jJ,jJ,rM f g d r];by_cases q:g=p.1
   ·rw[if_pos q,if_neg λe=>h (q.symm.trans e)];rw[if_pos q]
   ·rw[if_neg q,if_neg q]
theorem ya(f:Str)(d:D):∀fs:List (Str×D),(fG f d fs).length<=fs.length+1
 |[]=>Y8 _
 |p::r=>by
  unfold fG;split
  ·exact aag _
  ·exact Nat.succ_le_succ (ya f d r)
theorem yb{g:Str}:∀{fs:List (Str×D)},fs.lookup g≠none->g∈fs.map (·.1)
 |[],h=>absurd rfl h
 |p::r,h=>by
  rw[jJ]at h;by_cases q:g=p.1
  ·rw[q];exact Za
  ·rw[if_neg q]at h;exact Zc _ (yb h)
theorem Hf{G:Gx}{F:Fz}{d:D}{u:Value}(r:aa G F d u):PySem.W.handedIn u=true:=by
 cases d <;> rw[aa]at r <;> first |(subst r;rfl) |(obtain⟨t,rfl⟩:=r;rfl) |(obtain⟨a,_,_,rfl,_⟩:=r;rfl) |(obtain⟨a,_,rfl,_⟩:=r;rfl)
def dc(d:D)(M:Mp)(k:Addr->Addr->Addr->List (Str×D)->Prop):Prop:=match d with
 |.ref a=>∃C dx fs,M a=some (.ins C dx fs)/\k a C dx fs
 |_=>False
def rN(K:PySem.W.Frag)(f:Str):Q1:=λx M q=>dc x M λa C dx fs=>∃d,(c9 K C/\eh K C f)/\fs.lookup f=some d/\q d M
def rO(K:PySem.W.Frag)(f:Str)(o d:D)(M:Mp)(k:Mp->Prop):Prop:=dc o M λa C dx fs=>(c9 K C/\eh K C f)/\fs.length<1000/\k (up M a (.ins C dx (fG f d fs)))
def lZ(C:Addr)(m:Str)(sp:Sp)(a':List D)(E:XQ)(to:DE)(t:DA):DE:=fun τ M q=>to τ M λo M1=>dc o M1 λ_ C' _ fs=>C'=C/\fs.lookup m=none/\t τ M1 λds M2=>sp (o::(ds++a')) M2 q E
def rP(C:Addr)(sp:Sp)(a':List D)(E:XQ)(t:DA):DE:=fun τ M q=>t τ M λds M1=>∀x dx,M1 x=none->M1 dx=none->dx≠x ->
 sp (.ref x::(ds++a')) (up (up M1 dx (.own x)) x (.ins C dx [])) (λv M2=>v=.az/\q (.ref x) M2) E
section
variable{X:Cx}{τ:St}{z:Z}{C:Addr}{f m:Str}{o e value:Expr}{es:List Expr}{to tv:DE}{t:DA}{pos cr rQ TD p:Pos}{d:D}{v u:Value}
theorem ab.dc{k:Addr->Addr->Addr->List (Str×D)->Prop}(I:ab X τ z)(r:aa X.G z.F d u)(h:dc d z.M k):∃a C dx fs mA,u=.ref a/\z.M a=some (.ins C dx fs)/\iJ z.s.heap a dx C mA/\(∀f,fW X.G z.F (fs.lookup f) (mA f))/\PySem.Within mA (fs.map (·.1))/\z.M dx=some (.own a)/\k a C dx fs:=by
 unfold N.dc at h;split at h
 ·rename_i a;obtain⟨C,dx,fs,e,h⟩:=h;rw[aa]at r;obtain⟨d,_,ne,ob,mA,n,rr,q⟩:=(I.hok.ob a _ e).2;exact⟨a,C,dx,fs,mA,r,e,⟨ob,n,ne⟩,rr,q,d,h⟩
 ·exact h.elim
theorem Hg{b:Bool}:O1 X (λv=>getAttr v f b) (rN X.G.K f):=fun τ z Q R d v I r h k=>by
 obtain⟨a,C,dx,fs,mA,rfl,e,O,rr,_,_,d',⟨c,n⟩,l,q⟩:=I.dc r h;have rf:=rr f;rw[l]at rf;cases e':mA f with
 |none=>rw[e']at rf;exact rf.elim
 |some w=>rw[e']at rf;exact GJ I.c8 O (c.get f) c.hd n e' (Hf rf) (k d' ⟨z.F,z.M,_⟩ w Le.rfl (I.oe _) rf q)
theorem Hh{Q:Mp->Prop}{R:Unit->Shared->Prop}{od:D}{ov:Value}(I:ab X τ z)(ro:aa X.G z.F od ov)(rd:aa X.G z.F d u)(h:rO X.G.K f od d z.M Q)(k:∀z',z'.F=z.F->ab X τ z'->Q z'.M->R () z'.s):W X (setAttr ov f u) R z.s:=by
 obtain⟨a,C,dx,fs,mA,rfl,e,O,rr,wi,ho,⟨c,n⟩,hl,q⟩:=I.dc ro h;have hz:(fs.map (·.1)).length<=sizeLine:=by rw[Y6,aaX];lia
 refine GL I.c8 O c.sa c.Xu n.GR c.hd wi hz λh' O' sb=>k ⟨z.F,_,_⟩ rfl (I.put (o':=.ins C dx (fG f d fs)) e rfl (.inr ho) (λb hb o q=>(sb.2 b hb).trans q) (let ⟨o,_,_,e',_⟩:=O'.ns;⟨o,e'⟩) ?_) q
 refine⟨by rw[av O.ne];exact ho,Y9 (ya f d fs) hl,O.ne,O'.obj,_,O'.ns,λg=>?_,λg hg=>yb ?_⟩
 ·show fW _ _ ((fG f d fs).lookup g) (if g=f then some u else mA g)
  rw[rM];by_cases q:g=f
  ·rw[if_pos q,if_pos q];exact rd
  ·rw[if_neg q,if_neg q];exact rr g
 ·rw[rM];by_cases q:g=f
  ·rw[if_pos q];exact ZK d
  ·have hg:(if g=f then some u else mA g)≠none:=hg
   rw[if_neg q]at hg ⊢;have:=rr g;cases e1:fs.lookup g with
   |some _=>exact ZK _
   |none=>rw[e1]at this;cases e2:mA g with
    |none=>exact absurd e2 hg
    |some _=>rw[e2]at this;exact this.elim
variable{k:Nat}{g:Addr}{fd:FuncData}{ps:List Str}{sp:Sp}{a':List D}{ds:List Value}{E:XQ}{x:Str}
theorem yc{pl:Sem Bool}{args:List Expr}(ho:PE X o to)(c:c9 X.G.K C)(hm:jG X.G.K C m g)(F:bb X.G k g fd ps sp)(hr:bx k X.A)(hb:bS X.G.K fd ps ds)(hd:eP X a' ds)(U:dW X E)
  (ht:eval (.Call (.Attribute o m cr) args [] pos) X.env=(do
   let ov <- eval o X.env
   standAt cr.atName
   let (f,first) <- holding [ov] (getMethod ov m pl)
   callWith pos f first (backTo pos (starEach args X.env)) (backToKw pos (keywordEach [] X.env))))
  (ha:∀ τ z a R Q,ab X τ z->t τ z.M Q->(∀ds z' us,Le z.F z'.F->ab X τ z'->af X.G z'.F ds us->Q ds z'.M->W X (call (.ref g) (.ref a::us)) R z'.s)->W X (callWith pos (.ref g) [.ref a] (backTo pos (starEach args X.env)) (backToKw pos (keywordEach [] X.env))) R z.s) :
  PE X (.Call (.Attribute o m cr) args [] pos) (lZ C m sp a' E to t):=fun τ z Q R I h K=>
 PySem.W.methodCall_KW (pl:=pl) (ho τ z _ _ I h λod z1 u l1 I1 r1 q1=>by
  obtain⟨a,C',dx,fs,mA,rfl,e,O,rr,wi,ho,rfl,l,q⟩:=I1.dc r1 q1;have hn:mA m=none:=by have:=rr m;rw[l]at this;cases e2:mA m with
   |none=>rfl
   |some _=>rw[e2]at this;exact this.elim
  exact GK I1.c8 O (c.get m) hm.bX hm.fn hn (ha τ z1 a R _ I1 q λds z2 us l2 I2 r2 q2=>rL F hr hb hd U I2 (.cons (r1.up l2.d) r2) q2 λd z3 u l3=>K d z3 u (l1.tr (l2.tr l3)))) ht
theorem Hi{pl:Sem Bool}(ho:PE X o to)(c:c9 X.G.K C)(hm:jG X.G.K C m g)(F:bb X.G k g fd ps sp)(hr:bx k X.A)(hb:bS X.G.K fd ps ds)(hd:eP X a' ds)(U:dW X E)(ha:PA X (e::es) t)
  (dX:starEach (e::es) X.env=(false,eval e X.env)::starEach es X.env) (da:(backTo pos (starEach es X.env)).any (·.1)=false)
  (ht:eval (.Call (.Attribute o m cr) (e::es) [] pos) X.env=(do
   let ov <- eval o X.env
   standAt cr.atName
   let (f,first) <- holding [ov] (getMethod ov m pl)
   callWith pos f first (backTo pos (starEach (e::es) X.env)) (backToKw pos (keywordEach [] X.env)))):PE X (.Call (.Attribute o m cr) (e::es) [] pos) (lZ C m sp a' E to t):=
 yc ho c hm F hr hb hd U ht fun τ z a R Q I q K=>PySem.W.callWith_K (first:=[.ref a]) (h₀:=X.G.base) I.ok.mod.gW hm.kp (ha pos τ z _ _ I q λds z2 us l2 I2 r2 q2=>⟨I2.c8,K ds z2 us l2 I2 r2 q2⟩) dX da
theorem Hj{pl:Sem Bool}(ho:PE X o to)(c:c9 X.G.K C)(hm:jG X.G.K C m g)(F:bb X.G k g fd ps sp)(hr:bx k X.A)(hb:bS X.G.K fd ps ds)(hd:eP X a' ds)(U:dW X E)
  (ht:eval (.Call (.Attribute o m cr) [] [] pos) X.env=(do
   let ov <- eval o X.env
   standAt cr.atName
   let (f,first) <- holding [ov] (getMethod ov m pl)
   callWith pos f first (backTo pos (starEach [] X.env)) (backToKw pos (keywordEach [] X.env)))):PE X (.Call (.Attribute o m cr) [] [] pos) (lZ C m sp a' E to iw):=
 yc ho c hm F hr hb hd U ht fun τ z a R Q I q K=>PySem.W.callWith_K0 (first:=[.ref a]) I.c8 hm.kp (K [] z [] Le.rfl I .nil q)
theorem ab.made(I:ab X τ z):ab X τ ⟨z.F,up (up z.M z.s.heap.objs.size (.own (z.s.heap.objs.size+1))) (z.s.heap.objs.size+1) (.ins C z.s.heap.objs.size []),{ z.s with heap:=(z.s.heap.push PySem.W.emptyDict).push (PySem.W.instObj C z.s.heap.objs.size) }⟩:=by
 have e1:(z.s.heap.push PySem.W.emptyDict).get? z.s.heap.objs.size=some PySem.W.emptyDict:=Ze z.s.heap rfl;have e2:((z.s.heap.push PySem.W.emptyDict).push (PySem.W.instObj C z.s.heap.objs.size)).get? (z.s.heap.objs.size+1)=some (PySem.W.instObj C z.s.heap.objs.size):=by
  have:=Ze (z.s.heap.push PySem.W.emptyDict) (o:=PySem.W.instObj C z.s.heap.objs.size) rfl
  rwa [ZZ]at this
 have e3:(z.s.heap.push PySem.W.emptyDict).Ns z.s.heap.objs.size (λ_=>none):=⟨PySem.W.emptyDict,#[],_,e1,rfl,(λe he=>absurd he (by simp)),λ_=>rfl⟩;have ne:z.s.heap.objs.size≠z.s.heap.objs.size+1:=Zw (aaV _);have I1:=I.lD (a:=z.s.heap.objs.size) (o:=.own (z.s.heap.objs.size+1)) (h':=z.s.heap.push PySem.W.emptyDict) (t:=z.s.toks) (λb u q=>Y7 _ q) (Y8 _) ⟨_,e1⟩;exact I1.lD (a:=z.s.heap.objs.size+1) (o:=.ins C z.s.heap.objs.size []) (t:=z.s.toks) (λb u q=>Y7 _ q) (Nat.le_of_eq (ZZ _ _))
  ⟨by rw[av ne];exact ak,Zj _,ne,e2,λ_=>none,(Heap.Ns1.of_empty e3).at λo q=>Y7 _ q,λ_=>True.intro,λy hy=>absurd rfl hy⟩
theorem yd{us:List Value}{vs:List D}{Q:QK}{R:Value->Shared->Prop}(M:Mk X.G.K C g)(F:bb X.G k g fd ps sp)(hr:bx (k+1) X.A)(hb:bS X.G.K fd ps ds)(hd:eP X a' ds)(U:dW X E)(I:ab X τ z)(r:af X.G z.F vs us)
  (h:∀x dx,z.M x=none->z.M dx=none->dx≠x->sp (.ref x::(vs++a')) (up (up z.M dx (.own x)) x (.ins C dx [])) (λv M2=>v=.az/\Q (.ref x) M2) E) (K:KE X τ z.F Q R):W X (call (.ref C) us) R z.s:=by
 have hq:=h (z.s.heap.objs.size+1) z.s.heap.objs.size (I.hok.dk (aag _)) (I.hok.dk (Y8 _)) (Zw (aaV _));have I2:=ab.made (C:=C) I;have r2:af X.G z.F (D.ref (z.s.heap.objs.size+1)::(vs++a')) (aaq (z.s.heap.objs.size+1)::(us++ds)):=.cons (by rw[aa]) (r.append (hd τ z I));have hl:(aaq (z.s.heap.objs.size+1)::us++ds).length=ps.length:=by
  have e:=r2.len;rw[F.len _ _ _ _ hq]at e;exact e.symm
 refine wpAny_call (GP (f:=g) I.c8 M.GU M.init (beq_iff_eq.mp M.fn) (aaJ (F.eH _ X.stk _ ⟨aaq (z.s.heap.objs.size+1)::us,[]⟩ (aaq (z.s.heap.objs.size+1)::(us++ds)) _ _ E (hr.rq C us [])
  (I2.qP.rq C us []) (hb _ (aaq (z.s.heap.objs.size+1)::us) I2.c8 hl) (r2.up I2.dC.d) hq) λr s' hq'=>?_))
 have:=x9 (Q0:=Q) (R:=λu s'=>u=.none/\R (.ref (z.s.heap.objs.size+1)) s') U I2 hq' λu d z2 e l J r q=>by
  obtain⟨rfl,q⟩:=q;rw[aa]at r;exact⟨r,e ▸ K _ z2 _ l J (by rw[aa]) q⟩
 cases r with
 |error e=>exact this
 |ok fl=>cases fl <;> exact this
theorem Hk(M:Mk X.G.K C g)(F:bb X.G k g fd ps sp)(hr:bx (k+1) X.A)(hg:Gl X x)(hm:X.G.mg x=some (.ref C))(hb:bS X.G.K fd ps ds)(hd:eP X a' ds)(U:dW X E)
  (ha:PA X (e::es) t) (dL:(x == ("__debug__" : Str))=false) (he:starEach (e::es) X.env=(false,eval e X.env)::starEach es X.env) (da:(backTo pos (starEach es X.env)).any (·.1)=false) :
  PE X (.Call (.Name x p) (e::es) [] pos) (rP C sp a' E t):=fun τ z Q R I h K=>
 Z7 (jz I hg hm dL (PySem.W.callWith_K (h₀:=X.G.base) I.ok.mod.gW M.kp (ha pos τ z _ _ I h λvs z1 us l1 I1 r q=>⟨I1.c8,yd M F hr hb hd U I1 r q λd z2 u l2=>K d z2 u (l1.tr l2)⟩) he da))
theorem Hl(M:Mk X.G.K C g)(F:bb X.G k g fd ps sp)(hr:bx (k+1) X.A)(hg:Gl X x)(hm:X.G.mg x=some (.ref C))(hb:bS X.G.K fd ps ds)(hd:eP X a' ds)(U:dW X E)
  (dL:(x == ("__debug__" : Str))=false):PE X (.Call (.Name x p) [] [] pos) (rP C sp a' E iw):=fun τ z Q R I h K=>
 Z7 (jz I hg hm dL (PySem.W.callWith_K0 I.c8 M.kp (yd (us:=[]) M F hr hb hd U I .nil h K)))
end
end N
end
section
set_option maxHeartbeats 1000000
namespace N
open PySem PySem.Spec PyProof.Rows L2
def ye:Q1:=λx M q=>cH x λi=>q (.int (-i)) M
abbrev DO:=St->Mp->(Option Int->Mp->Prop)->Prop
def yf:DO:=λ_ M q=>q none M
def yg(t:DE):DO:=fun τ M q=>t τ M λx M1=>cH x λi=>q (some i) M1
noncomputable def eQ(xs:List D)(lo hi:Option Int):List D:=(xs.drop (HT.aB xs.length 0 lo)).take (HT.aB xs.length xs.length hi-HT.aB xs.length 0 lo)
def rR(x:D)(lo hi:Option Int)(M:Mp)(Q:QK):Prop:=match x with
 |.tup ds=>Q (.tup (eQ ds lo hi)) M
 |x=>a7 x M λxs=>cE (eQ xs lo hi) M Q
def yh(te:DE)(tl th:DO):DE:=fun τ M q=>te τ M λx M1=>tl τ M1 λl M2=>th τ M2 λh M3=>rR x l h M3 q
def yi:Q1:=λx M q=>a7 x M λds=>cE ds.reverse M q
section
variable{X:Cx}{e:Expr}{te:DE}{lo hi:Option Expr}{tl th:DO}{pos p2 VT p4:Pos}
theorem yj{op:UnaryOp}{r:Q1}(ho:O1 X (unaryOp op) r)(h:PE X e te):PE X (.UnaryOp op e pos) (jy r te):=fun τ z Q R I q k=>
 UnaryOp_ (h τ z _ _ I q λd z1 u l1 I1 r1 q1=>ho τ z1 Q R d u I1 r1 q1 λd z2 u l2=>k d z2 u (l1.tr l2))
theorem yk:O1 X (unaryOp .USub) ye:=fun τ z Q R d v I r q k=>by
 obtain⟨i,t,rfl,q⟩:=dG q r;exact neg_int (I.fin k Le.rfl cI q _)
def PO(X:Cx)(e:Option Expr)(t:DO):Prop:=∀ τ z Q R,ab X τ z->t τ z.M Q->(∀o z' u,Le z.F z'.F->ab X τ z'->IsPart u o->Q o z'.M->R u z'.s)->W X (evalPart e X.env) R z.s
theorem Hm:PO X none yf:=fun τ z Q R I h k=>by rw[evalPart_none];exact Y' (k none z .none Le.rfl I .none h)
theorem Hn(h:PE X e te):PO X (some e) (yg te):=fun τ z Q R I hw k=>by
 rw[evalPart_some];exact h τ z _ _ I hw λd z1 u l1 I1 r1 q1=>by
  obtain⟨i,t,rfl,q⟩:=dG q1 r1;exact k (some i) z1 _ l1 I1 (.int i t) q
theorem yl(xs:List D)(lo hi:Option Int):(eQ xs lo hi).length<=xs.length:=by
 unfold eQ;rw[aaU,List.length_drop];lia
theorem af.rS{G:Gx}{F:Fz}{ds:List D}{us:List Value}(r:af G F ds us)(i j:Nat):af G F ((ds.drop i).take j) ((us.drop i).take j):=by
 have VU:∀(i:Nat){ds:List D}{us:List Value},af G F ds us->af G F (ds.drop i) (us.drop i):=λi=>by
  induction i with
  |zero=>exact λr=>r
  |succ i ih=>intro ds us r;cases ds with
   |nil=>rw[af]at r;subst r;exact .nil
   |cons d ds=>rw[af]at r;obtain⟨u,us,rfl,_,r⟩:=r;exact ih r
 have tk:∀(i:Nat){ds:List D}{us:List Value},af G F ds us->af G F (ds.take i) (us.take i):=λi=>by
  induction i with
  |zero=>exact λr=>by rw[List.take_zero,List.take_zero];exact .nil
  |succ i ih=>intro ds us r;cases ds with
   |nil=>rw[af]at r;subst r;exact .nil
   |cons d ds=>rw[af]at r;obtain⟨u,us,rfl,h,r⟩:=r;exact .cons h (ih r)
 exact tk j (VU i r)
theorem af.rev{G:Gx}{F:Fz}:∀{ds:List D}{us:List Value},af G F ds us->af G F ds.reverse us.reverse
 |[],us,r=>by rw[af]at r;subst r;exact .nil
 |d::ds,us,r=>by rw[af]at r;obtain⟨u,us,rfl,h,r⟩:=r;rw[aaM,aaM];exact (af.rev r).app (.cons h .nil)
theorem Ho{τ:St}{z:Z}{x:D}{v vl vu:Value}{lo hi:Option Int}{sl:Addr}{Q:QK}{R:Value->Shared->Prop}(I:ab X τ z)(r:aa X.G z.F x v)(hs:z.s.heap.IsSliceOf sl vl vu .none)(pl:IsPart vl lo)(pu:IsPart vu hi)(q:rR x lo hi z.M Q)(K:KE X τ z.F Q R):
  ∃T id,typeLookup (.type T) "__getitem__"=pure (some (.builtin id))/\z.s.TypeIs v T/\W X (getItem v (.ref sl)) R z.s:=by
 have lst:(a7 x z.M λxs=>cE (eQ xs lo hi) z.M Q)->∃T id,typeLookup (.type T) "__getitem__"=pure (some (.builtin id))/\z.s.TypeIs v T/\W X (getItem v (.ref sl)) R z.s:=λq=>by
  obtain⟨a,ds,us,n,rfl,l,q⟩:=I.a7 r q;have hlen:=l.r.len;have hz:=l.z;have hc:(eQ ds lo hi).length<=sizeLine:=Y9 (yl ds lo hi) (by rw[hlen];exact hz);refine⟨"list",_,slot_list_getitem.lookup,l.p.isList.typeIs,wpAny_getItem_list_slice l.p.isList hs pl pu .none (by simp) ?_ (by rw[Zb] <;> lia)⟩;have rc:af X.G z.F (eQ ds lo hi) _:=l.r.rS (HT.aB ds.length 0 lo) (HT.aB ds.length ds.length hi-HT.aB ds.length 0 lo);rw[GC,<- hlen];exact I.lst (n:=0) (t:=z.s.toks) K Le.rfl rc (λb ob q=>Y7 _ q) (Y8 _) (Ze _ rfl) (by rw[<- rc.len];exact hc) q
 unfold rR at q;split at q
 ·rename_i ds;obtain⟨a,us,o,rfl,p⟩:=I.fA r;have hl:=p.r.len;have hlen:us.toArray.size=ds.length:=by rw[Zb];exact hl.symm
  refine⟨"tuple",_,PyProof.Rows.slot_tuple_getitem.lookup,p.p.typeIs,?_⟩;by_cases w:HT.aB ds.length 0 lo=0/\HT.aB ds.length ds.length hi=ds.length
  ·have e:eQ ds lo hi=ds:=by
    unfold eQ;rw[w.1,w.2,List.drop_zero,Nat.sub_zero,aba]
   rw[e]at q;exact GD p.p hs pl pu (by rw[hlen];exact w) (K _ z _ Le.rfl I r q)
  ·have rc:af X.G z.F (eQ ds lo hi) _:=p.r.rS (HT.aB ds.length 0 lo) (HT.aB ds.length ds.length hi-HT.aB ds.length 0 lo);refine HT.GA p.p hs pl pu (by rw[hlen];exact w) ?_ (by rw[Zb];exact p.t.len);rw[hlen];exact I.tup (t:=z.s.toks) K Le.rfl rc (λb ob q=>Y7 _ q) (Y8 _) (Ze _ rfl) ⟨rfl,rfl,⟨_,rfl⟩,by rw[<- rc.len];exact Y9 (yl ds lo hi) (by rw[hl];exact p.t.len)⟩ q
 ·exact lst q
theorem Hr(he:PE X e te)(hl:PO X lo tl)(hu:PO X hi th)(hs:∀o i,subscripted (.Slice lo hi none p2) false o i=operate [i,o] (getItem o i)):PE X (.Subscript e (.Slice lo hi none p2) pos) (yh te tl th):=fun τ z Q R I h K=>
 Subscript_ (he τ z _ _ I h λx z1 v l1 I1 r1 q1=>wpAny_Slice (hl τ z1 _ _ I1 q1 λl z2 vl l2 I2 pl q2=>hu τ z2 _ _ I2 q2 λu z3 vu l3 I3 pu q3=>by
  rw[evalPart_none];have I4:ab X τ ⟨z3.F,z3.M,{ z3.s with heap:=z3.s.heap.push { cls:=.type "slice",data:=.fields #[vl,vu,.none] } }⟩:=I3.b8 (t:=z3.s.toks) λb ob q=>Y7 _ q;obtain⟨T,id,hT,ht,hg⟩:=Ho I4 (r1.up (l2.tr l3).d) (Heap.IsSliceOf.new ..) pl pu q3 λd z u l=>K d z u ((l1.tr (l2.tr l3)).tr l);exact Y' (tail_any (ops:=[.ref z3.s.heap.objs.size,v]) ht hT hg (hs _ _))))
theorem Ht{k:Nat}(he:PE X e te)(hs:∀o i,subscripted (.Slice none none (some (.UnaryOp .USub (.Constant (.int 1) k VT) p4)) p2) false o i=operate [o,i] (getItem o i)):PE X (.Subscript e (.Slice none none (some (.UnaryOp .USub (.Constant (.int 1) k VT) p4)) p2) pos) (jy yi te):=fun τ z Q R I h K=>
 Subscript_ (he τ z _ _ I h λx z1 v l1 I1 r1 q1=>wpAny_Slice (by
  rw[evalPart_none];refine Y' (Y' ?_);rw[evalPart_some];refine yj yk (te:=UO (.int 1)) xd τ z1 (λy M=>y=.int (-1)/\M=z1.M) _ I1 ⟨rfl,rfl⟩ λy z2 u l2 I2 r2 q2=>?_;obtain⟨rfl,q2⟩:=q2;rw[aa]at r2;obtain⟨t,rfl⟩:=r2;have I4:ab X τ ⟨z2.F,z2.M,{ z2.s with heap:=z2.s.heap.push { cls:=.type "slice",data:=.fields #[.none,.none,.int (-1) t] } }⟩:=I2.b8 (t:=z2.s.toks) λb ob q=>Y7 _ q;have r1:=r1.up l2.d;have K:KE X τ z2.F Q R:=λd z u l=>K d z u ((l1.tr l2).tr l);rw[<- q2]at q1;have lst:(a7 x z2.M λds=>cE ds.reverse z2.M Q)->W X (subscriptTail e (.Slice none none (some (.UnaryOp .USub (.Constant (.int 1) k VT) p4)) p2) v (.ref z2.s.heap.objs.size)) R { z2.s with heap:=z2.s.heap.push { cls:=.type "slice",data:=.fields #[.none,.none,.int (-1) t] } }:=λq=>by
   obtain⟨a,ds,us,n,rfl,l,q⟩:=I4.a7 r1 q;have hz:=l.z;refine tail_any (ops:=[.ref a,.ref z2.s.heap.objs.size]) (T:="list") l.p.isList.typeIs slot_list_getitem.lookup ?_ (hs _ _);refine wpAny_getItem_list_slice l.p.isList (Heap.IsSliceOf.new ..) .none .none (.int (-1) t) (by simp) ?_ (by rw[Zb] <;> lia);rw[PySem.W.krv_pick];exact I4.lst (n:=0) (t:=z2.s.toks) K Le.rfl l.r.rev (λb ob q=>Y7 _ q) (Y8 _) (Ze _ rfl) (by rw[List.length_reverse];exact hz) q
  exact lst q1))
end
end N
end
section
set_option maxHeartbeats 1000000
namespace N
open PySem PySem.Spec PyProof.Rows L2 PyProof.V
def Hu(x:D)(M:Mp)(k:Nat->Prop):Prop:=match x with
 |.tup ds=>k ds.length
 |.lst ds=>k ds.length
 |.ref p=>∃xs,M p=some (.lst xs)/\k xs.length
 |_=>False
def n1(r:Q1):QN:=λds M q=>match ds with
 |[x]=>r x M q
 |_=>False
def ym:QN:=n1 λx M q=>Hu x M λn=>q (.int n) M
def yo:QN:=n1 λx M q=>dF x M λds=>q (.tup ds) M
def yp:QN:=n1 λx M q=>match x with
 |.bl b=>q (.int (if b then 1 else 0)) M
 |_=>False
def rT:QN:=λds M q=>match ds with
 |[.int i,.int j]=>q (.int (if j > i then j else i)) M
 |[x]=>a7 x M λds=>∃ns:List Int,ds=ns.map D.int/\0<ns.length/\∀m,m∈ns->(∀a∈ns,a<=m)->q (.int m) M
 |_=>False
def yq:QN:=n1 λx M q=>a7 x M λds=>∃ns:List Int,ds=ns.map D.int/\q (.int ns.sum) M
abbrev CB(X:Cx)(f:Value)(r:QN):Prop:=ON X (λus=>call f us) r
def UY(r:QN)(t:DA):DE:=fun τ M q=>t τ M λds M1=>r ds M1 q
section
variable{X:Cx}{x:Str}{p pos:Pos}{e:Expr}{es:List Expr}{t:DA}{id T:String}{r:QN}
theorem Hv(hc:CB X (.builtin id) r)(hg:Gl X x)(hm:X.G.mg x=none)(hv:bootBuiltins x=some (.builtin id))(ha:PA X (e::es) t)(hn:x≠"__name__")(dL:(x == ("__debug__" : Str))=false)
  (he:starEach (e::es) X.env=(false,eval e X.env)::starEach es X.env) (da:(backTo pos (starEach es X.env)).any (·.1)=false):PE X (.Call (.Name x p) (e::es) [] pos) (UY r t):=fun τ z Q R I h k=>
 Z7 (iy I hg hm hv hn dL (PyProof.Rows.callWith_builtin1 (ha pos τ z _ _ I h λds z1 us l1 I1 r1 q1=>hc τ z1 Q R ds us I1 r1 q1 λd z2 u l2=>k d z2 u (l1.tr l2)) he da))
theorem Hw(hc:CB X (.type T) r)(hg:Gl X x)(hm:X.G.mg x=none)(hv:bootBuiltins x=some (.type T))(ha:PA X (e::es) t)(hn:x≠"__name__")(dL:(x == ("__debug__" : Str))=false)
  (he:starEach (e::es) X.env=(false,eval e X.env)::starEach es X.env) (da:(backTo pos (starEach es X.env)).any (·.1)=false):PE X (.Call (.Name x p) (e::es) [] pos) (UY r t):=fun τ z Q R I h k=>
 Z7 (iy I hg hm hv hn dL (aaP (ha pos τ z _ _ I h λds z1 us l1 I1 r1 q1=>hc τ z1 Q R ds us I1 r1 q1 λd z2 u l2=>k d z2 u (l1.tr l2)) he da))
theorem g8{f:List Value->Sem Value}{r:Q1}(h:O1 X (λv=>f [v]) r):ON X f (n1 r):=fun τ z Q R ds us I rs q k=>by
 unfold n1 at q;split at q
 ·obtain⟨u,rfl,ru⟩:=iC rs;exact h τ z Q R _ u I ru q k
 ·exact q.elim
theorem Hx:CB X (.builtin "len") ym:=g8 fun τ z Q R d v I r q k=>by
 have fin:∀{n m:Nat}(t:Nat),n=m->Q (.int n) z.M->R (.int m z.s.toks) { z.s with toks:=t }:=λt e q=>I.fin k Le.rfl (e ▸ cI) q _;have lst:∀{ds:List D}{us:List Value}{a:Addr}{n:Nat},eJ X.G z.F z.s.heap a ds us n->Q (.int ds.length) z.M->W X (call (.builtin "len") [.ref a]) R z.s:=λl q=>Calls.call_len_list l.p.isList (by rw[Zb];exact rH l.z) (I.fin k Le.rfl (by rw[Zb,<- l.r.len];exact cI) q _);cases d with
 |tup ds=>obtain⟨a,us,o,rfl,l⟩:=I.fA r;exact len_tuple l.p (by rw[Zb];exact rH l.t.len) (I.fin k Le.rfl (by rw[Zb,<- l.r.len];exact cI) q _)
 |lst ds=>obtain⟨a,us,n,rfl,l⟩:=I.gY r;exact lst l q
 |ref a=>
  rw[aa]at r;subst r;obtain⟨xs,h1,h2⟩:=q;obtain⟨us,n,l⟩:=I.eK h1;exact lst l h2
 |_=>exact q.elim
theorem Hy:CB X (.type "int") yp:=g8 fun τ z Q R d v I r q k=>by
 cases d with
 |bl b=>rw[aa]at r;subst r;exact call_int_bool (I.fin k Le.rfl cI q _)
 |_=>exact q.elim
theorem ab.dF{τ:St}{z:Z}{d:D}{u:Value}{k:List D->Prop}(I:ab X τ z)(r:aa X.G z.F d u)(h:dF d z.M k):∃a ds us,u=.ref a/\k ds/\af X.G z.F ds us/\us.length<=sizeLine/\((∃n,z.s.heap.get? a=some (bJ us n))\/(d=.tup ds/\IsTup z.s.heap a us.toArray)):=by
 unfold N.dF at h;split at h
 ·obtain⟨a,us,o,rfl,l⟩:=I.fA r;exact⟨a,_,us,rfl,h,l.r,l.t.len,.inr ⟨rfl,l.p⟩⟩
 ·obtain⟨a,ds,us,n,rfl,l,q⟩:=I.a7 r h;exact⟨a,ds,us,rfl,q,l.r,l.z,.inl ⟨n,l.e⟩⟩
theorem Hz:CB X (.type "tuple") yo:=g8 fun τ z Q R d v I ru q k=>by
 obtain⟨a,ds,us,rfl,q,r,hz,h⟩:=I.dF ru q;rcases h with ⟨n,e⟩ |⟨rfl,p⟩
 ·refine call_tuple_list ⟨_,e,rfl,_,rfl⟩ (λh' kp=>?_) (by rw[Zb];exact hz);exact (I.b8 (t:=z.s.toks) kp).tup (t:=z.s.toks) k Le.rfl r (λb o e=>Y7 _ e) (Y8 _) (Ze _ rfl) ⟨rfl,rfl,⟨_,rfl⟩,hz⟩ q
 ·exact call_tuple_same p (k _ z _ Le.rfl I ru q)
theorem ints_of{G:Gx}{F:Fz}:∀{ns:List Int}{us:List Value},af G F (ns.map D.int) us->IntsAre us ns
 |[],us,r=>by rw[Z',af]at r;subst r;exact .nil
 |n::ns,us,r=>by rw[Zh,af]at r;obtain⟨u,us,rfl,h,r⟩:=r;rw[aa]at h;obtain⟨t,rfl⟩:=h;exact .cons n t (ints_of r)
theorem HA(hc:X.calm=true):CB X (.builtin "max") rT:=fun τ z Q R ds us I rs q k=>by
 unfold rT at q;split at q
 ·rename_i i j;obtain⟨u,v,rfl,h1,h2⟩:=xt rs;rw[aa]at h1 h2;obtain⟨t,rfl⟩:=h1;obtain⟨t',rfl⟩:=h2;refine max_two_ints (I.ok.hd hc) λh' tk kp=>k _ ⟨z.F,z.M,_⟩ _ Le.rfl (I.b8 (t:=tk) kp) ?_ q;by_cases hj:j > i
  ·rw[if_pos hj,if_pos hj];exact cI
  ·rw[if_neg hj,if_neg hj];exact cI
 ·obtain⟨u,rfl,ru⟩:=iC rs;obtain⟨a,ds,its,n,rfl,l,ns,rfl,h0,q⟩:=I.a7 ru q;have hi:IntsAre its ns:=ints_of l.r;have hl:z.s.heap.IsList a its.toArray:=l.p.isList;obtain⟨xs,U⟩:=hi.allInts.items;have hn:numsOf its.toArray.toList=ns:=by rw[show its.toArray.toList=its from rfl,hi.numsOf]
  rw[U]at hl hn;rw[nums_intItems]at hn;have hsz:0<xs.size:=by
   have:=congrArg aaI hn;rw[Y6,Zn]at this;lia
  refine max_intList (I.ok.hd hc) hl hsz λv h' tk hv hk=>?_;obtain⟨t,rfl⟩:=intItems_at hv;obtain⟨h1,h2⟩:=argBest_gt (numAt xs) (xs.size-1);refine k _ ⟨z.F,z.M,_⟩ _ Le.rfl (I.b8 (t:=tk) hk) cI (q _ ?_ λa ha=>?_)
  ·rw[<- hn,numAt_eq];exact getD_mem (by rw[Y6,Zn];lia)
  ·rw[<- hn]at ha;obtain⟨j,hj,rfl⟩:=mem_getD ha;rw[Y6,Zn]at hj;rw[<- numAt_eq];exact h2 j (by lia)
 ·exact q.elim
theorem ab.yr{τ:St}{z:Z}{s':Shared}(I:ab X τ z)(g:s'.gens=z.s.gens)(d:s'.drawn=z.s.drawn)(o:s'.os=z.s.os)(k:∀b ob,z.s.heap.get? b=some ob->s'.heap.get? b=some ob):ab X τ ⟨z.F,z.M,s'⟩:=by
 obtain⟨h',UZ,d',eR,rU⟩:=s';obtain rfl:UZ=z.s.gens:=g;obtain rfl:d'=z.s.drawn:=d;obtain rfl:rU=z.s.os:=o;exact I.b8 (t:=eR) k
theorem HB(hc:X.calm=true):CB X (.builtin "sum") yq:=g8 fun τ z Q R d v I ru q k=>by
 obtain⟨p,ds,its,n,rfl,l,ns,rfl,q⟩:=I.a7 ru q;have hi:IntsAre its ns:=ints_of l.r;have hl:z.s.heap.IsList p its.toArray:=l.p.isList;obtain⟨xs,U⟩:=hi.allInts.items;have hn:numsOf its.toArray.toList=ns:=by rw[show its.toArray.toList=its from rfl,hi.numsOf]
 rw[U]at hl hn;rw[nums_intItems]at hn;obtain⟨ob,o1,o2,_,o3⟩:=id hl;have ne:p≠z.s.heap.objs.size:=Zw (Zv o1);have W:=(Walks.list (prog:=X.G.P) (w:=X.G.w) (A:=X.A.in1) (I.ok.hd hc) z.s.heap.objs.size p ne (intItems xs)).toS;rw[show (intItems xs).size=xs.size by simp [intItems]]at W;refine call_sum_walkAnyS (wpAny_pyIter_list hl ?_);refine⟨z.s.heap.objs.size,_,_,_,_,_,_,numAt xs,rfl,W,⟨⟨_,Ze _ rfl,rfl,rfl⟩,hl.push _⟩,λb hb=>?_,λi v hP=>intItems_at hP,λs' t' hm=>?_⟩
 ·rcases List.mem_cons.mp hb with z |z
  ·rw[z];exact Zv (Ze _ rfl)
  ·rw[List.mem_singleton.mp z];exact Zv (Y7 _ o1)
 ·have J:=I.yr hm.gens hm.drawn hm.os λb o e=>hm.heap b o (λhb=>absurd (Zv e) ((List.mem_singleton.mp hb) ▸ aar _)) (Y7 _ e);refine k (.int ns.sum) ⟨z.F,z.M,s'⟩ _ Le.rfl J ?_ q;rw[preSum_eq,List.take_of_length_le (by simp),hn];exact cI
theorem yt(f:Bool->Bool):∀bs:List Bool,(ZL bs.length).map (λi=>bs.getD i false)=bs
 |[]=>rfl
 |b::bs=>by rw[Zg,List.range_succ_eq_map,Zh,Z6];exact congrArg (b::·) (yt f bs)
end
end N
end
section
namespace L2
open PySem PySem.Spec PyProof.Rows PySem.W
section
variable{X:Cx}
section
open PySem.AutoSeq1 (wpAny_loadPart')
open PySem.MeetsSeq PySem.MeetsSeq2 PySem.MeetsSeq3 PySem.SeqAt
theorem HC(l b:Addr)(xs ys:Array Value)(n m:Nat)(dd:Option Addr)(sl:Array (Option Value))(Wz:¬(!xs.isEmpty && aaE (xs.size+ys.size))=true)(c1:xs.size<=sizeLine)(c2:xs.size+ys.size<=sizeLine+1):
  Meets (Builtin.«list.extend» ⟨[.ref l,.ref b],[]⟩) (λ_ R s=>s.heap.get? l=some (seqObj "list" xs n)/\s.heap.get? b=some { cls:=.type "tuple",dict:=dd,data:=.seq ys m,slots:=sl }/\R (.ok (.ret .none)) { s with heap:=s.heap.update l (ZM (·++ys)),toks:=s.toks }):=
 .of_wp λprog w A R s ⟨h1,h2,h3⟩=>by
  obtain⟨hp,g,d,tk,os⟩:=s;have f1:=AutoSeq1.idx_int;have f2:=AutoSeq1.sub_tuple_tuple;have f3:=AutoSeq1.sub_list_list;have f4:=AutoSeq1.sub_tuple_list;have f5:=AutoSeq1.sub_list_tuple;have c3:(xs++ys).size<=sizeLine+1:=by rw[Array.size_append];exact c2
  wp_walk using (wpAny_updateSeq h1 rfl (hz:=c1) (_hz':=c3)),aao h1,aao h2
  exact⟨_,rfl,h3⟩
end
end
end L2
namespace L2
open PySem PySem.Spec PyProof.Rows
theorem rV{env:Env}:∀(names:List (Str×NameKind))(al:List (Str×Addr)),(∀ y∈names,y.2=.free->∃ c,env.cells.lookup y.1=some c) ->
  (∀x c,al.lookup x=some c->env.cells.lookup x=some c) ->
  ∃cl,(forIn names al (λy cs=>if (y.2 == aaC)=true then (cellOf env y.1 >>= λc=>pure (aaH ((y.1,c)::cs))) else pure (aaH cs)):Sem (List (Str×Addr)))=pure cl /\
   (∀x c,cl.lookup x=some c->env.cells.lookup x=some c)/\(∀y∈names,y.2=.free->∃c,cl.lookup y.1=some c)/\∀x c,al.lookup x=some c->∃c',cl.lookup x=some c'
 |[],al,_,ha=>⟨al,rfl,ha,λy hy=>(nomatch hy),λx c h=>⟨c,h⟩⟩
 |(n,k)::r,al,h,ha=>by
  by_cases hk:k=.free
  ·subst hk;obtain⟨c,hc⟩:=h (n,.free) Za rfl;have HD:∀ x c',((n,c)::al).lookup x=some c'->env.cells.lookup x=some c':=λx c' q=>by
    rw[ZU]at q;cases e:x == n with
    |true=>
     rw[e]at q;cases q;rw[eq_of_beq e];exact hc
    |false=>
     rw[e]at q;exact ha x c' q
   obtain⟨cl,e1,e2,e3,e4⟩:=rV r ((n,c)::al) (λy hy=>h y (Zc _ hy)) HD;refine⟨cl,?_,e2,λy hy hf=>?_,λx c' q=>?_⟩
   ·rw[List.forIn_cons];have UH:cellOf env n=pure c:=(by unfold cellOf;rw[hc]);simp only[beq_self_eq_true,if_true,UH,pure_bind];exact e1
   ·rcases List.mem_cons.mp hy with rfl |hy
    ·exact e4 n c (by simp)
    ·exact e3 y hy hf
   ·cases e:x == n with
    |true=>exact e4 x c (by rw[ZU,e])
    |false=>exact e4 x c' (by rw[ZU,e];exact q)
  ·obtain⟨cl,e1,e2,e3,e4⟩:=rV r al (λy hy=>h y (Zc _ hy)) ha;refine⟨cl,?_,e2,λy hy hf=>?_,e4⟩
   ·rw[List.forIn_cons];have hb:(k == aaC)=false:=(by simpa using hk);simp only[hb,aam,if_false,pure_bind];exact e1
   ·rcases List.mem_cons.mp hy with rfl |hy
    ·exact absurd hf hk
    ·exact e3 y hy hf
theorem yu{scope:Scope}{env:Env}(h:∀ y∈scope.names,y.2=.free->∃ c,env.cells.lookup y.1=some c):
  ∃cl,closureFor scope env=pure cl/\(∀x c,cl.lookup x=some c->env.cells.lookup x=some c)/\∀y∈scope.names,y.2=.free->∃c,cl.lookup y.1=some c:=by
 obtain⟨cl,e1,e2,e3,_⟩:=rV (env:=env) scope.names [] h (λx c q=>by simp at q);refine⟨cl,?_,e2,e3⟩;unfold closureFor
 first
  |exact e1
  |(simp only[bind_pure_comp,map_pure,bind_pure]at e1 ⊢;exact e1)
  |(rw[show (forIn scope.names [] _:Sem (List (Str×Addr)))=pure cl from e1];rfl)
theorem yv{env:Env}:∀{names:List (Str×NameKind)}{x:Str},names.lookup x=some .free ->
  let l:=(names.map λ(n,k)=>if (k == aaC && env.scope.kind == .function && env.kindOf n == some .cell) then (n,NameKind.cell) else (n,k)).lookup x
  l=some .cell\/l=some .free
 |[],_,h=>by simp at h
 |(n,k)::r,x,h=>by
  have ih:=@yv env r x;simp only at ih ⊢;rw[Zh];cases U:x == n with
  |true=>
   rw[ZU,U]at h;cases h;by_cases hc:(aaC == aaC && env.scope.kind == .function && env.kindOf n == some .cell)=true
   ·left;simp only[hc,if_true,ZU,U]
   ·right;simp only[if_neg hc,ZU,U]
  |false=>
   rw[ZU,U]at h;by_cases hc:(k == aaC && env.scope.kind == .function && env.kindOf n == some .cell)=true
   ·simp only[if_pos hc,ZU,U];exact ih h
   ·simp only[if_neg hc,ZU,U];exact ih h
theorem rW{env:Env}:∀{names:List (Str×NameKind)}{x:Str}{k':NameKind},(∀ y∈names,y.2≠.cell)->(k'=.cell\/k'=.free) ->
  (names.map λ(n,k)=>if (k == aaC && env.scope.kind == .function && env.kindOf n == some .cell) then (n,NameKind.cell) else (n,k)).lookup x=some k'->(x,aaC)∈names
 |[],_,_,_,_,h=>by simp at h
 |(n,k)::r,x,k',hn,hk,h=>by
  rw[Zh]at h;cases U:x == n with
  |true=>
   have e:x=n:=eq_of_beq U;subst e;by_cases hc:(k == aaC && env.scope.kind == .function && env.kindOf x == some .cell)=true
   ·have hf:k=.free:=by
     simp only[Zf,beq_iff_eq]at hc;exact hc.1.1
    subst hf;exact Za
   ·simp only[if_neg hc,ZU,U]at h;have e2:k=k':=ZJ h;subst e2;rcases hk with rfl |rfl
    ·exact absurd rfl (hn _ Za)
    ·exact Za
  |false=>
   have ih:=@rW env r x k' (λy hy=>hn y (Zc _ hy)) hk;by_cases hc:(k == aaC && env.scope.kind == .function && env.kindOf n == some .cell)=true
   ·simp only[if_pos hc,ZU,U]at h;exact Zc _ (ih h)
   ·simp only[if_neg hc,ZU,U]at h;exact Zc _ (ih h)
theorem HE{prog:Program}{w:World}{A:Around}{s:Shared}{bd tg iter:Expr}{bF:List Expr}{scope:Scope}{pos:Pos}{it al:Value}{env:Env}{P:Shared->Prop}{R:Result->Shared->Prop}
  (hR:∀s',P s'->R (.ok .next) s') (J:Nat->Shared->Prop)
  (turn:∀n s,J n s->wpAny (model prog w) A (pyNext it) (λr s1=>match r with
   |none=>P s1
   | some v=>wpAny (model prog w) A (letOwnedTupleGo tg it v) (λ_ s2=>wpAny (model prog w) A (assign tg env v) (λ_ s3=>
     wpAny (model prog w) A (forIn bF true λc r=>if r=true then do let ok <- isTrue c env (eval c env);pure (aaH ok) else pure (aaH r)) (λok s4=>
      if ok=true then wpAny (model prog w) A (eval bd env) (λx s5=>
       wpAny (model prog w) A (call (.builtin "list.append") [al,x]) (λ_ WA=>∃m,m<n/\J m WA) (λ_ _=>False) s5) (λ_ _=>False) s4
      else ∃m,m<n/\J m s4) (λ_ _=>False) s3) (λ_ _=>False) s2) (λ_ _=>False) s1) (λ_ _=>False) s)
  (n:Nat) (h:J n s):codeAny (model prog w) A (.compLoop (.ListComp bd [⟨tg,iter,bF,0⟩] scope pos) 0 it al env) R s:=by
 refine codeAny_loop rfl J (λn s Xw=>?_) n h;show wpAny _ A ((compTurn (.ListComp bd [⟨tg,iter,bF,0⟩] scope pos) 0 it al env).onRaise (λx=>do noteFrame x env;theTreesLotGoes x)) _ _ s
 refine wpAny_noted (aa1 (E:=λ_ _=>False) ?_ (λ_ _ q=>q) λ_ _ q=>q.elim);rw[compTurn_list];refine Y4 (wpAny_standAt (Y4 (eM (turn n s Xw) λr s1 h1=>?_)));cases r with
 |none=>exact Y' (hR _ h1)
 |some v=>
  refine Y4 (eM h1 λ_ s2 h2=>Y4 (eM h2 λ_ s3 h3=>Y4 (eM h3 λok s4 h4=>?_)));cases ok with
  |false=>exact Y' ⟨rfl,h4⟩
  |true=>exact Y4 (Y4 (eM h4 λx s5 h5=>Y4 (eM h5 λ_ WA h6=>Y' (Y' ⟨rfl,h6⟩))))
end L2
namespace L2
open PySem PySem.Spec PyProof.Rows PySem.W
end L2
namespace L2
open PySem PySem.Spec PyProof.Rows
noncomputable def dH:Expr->Bool
 |.Starred _ _=>false
 |_=>true
noncomputable def bB:List Expr->Bool
 |[]=>true
 |e::es=>dH e && bB es
theorem cW{env:Env}{e:Expr}{es:List Expr}(h:dH e=true):starEach (e::es) env=(false,eval e env)::starEach es env:=by
 cases e <;> first |rfl |exact absurd h ZY
theorem fH{env:Env}{pos:Pos}:∀{es:List Expr},bB es=true->(backTo pos (starEach es env)).any (·.1)=false
 |[],_=>rfl
 |e::es,h=>by
  have h':(dH e && bB es)=true:=h;rw[Zf]at h';rw[cW h'.1];show (false ||(backTo pos (starEach es env)).any (·.1))=false;rw[fH h'.2];rfl
end L2
namespace L2
open PySem PySem.Spec PyProof.Rows
section
variable{X:Cx}{pos:Pos}{a b c e o:Expr}{es:List Expr}{ta tb tc te to:TE}{t u:TS}{YJ tu:TT}{tA:TA}{st:Stmt}{rest:List Stmt}
theorem yw{env:Env}{cpos:Pos}{es:List Expr}(h:bB es=true)(hl:es.length<29):
  ((backTo cpos (starEach es env)).all (λx=>!x.1) && (backToKw cpos (keywordEach [] env)).all (λx=>x.1.isSome)
   && decide (es.length+([]:List Keyword).length+(if ([]:List Keyword).isEmpty then 0 else 1)<30))=true:=by
 have h1:(backTo cpos (starEach es env)).all (λx=>!x.1)=true:=by
  have:=fH (env:=env) (pos:=cpos) h;rw[List.all_eq_not_any_not];simpa using this
 have h2:(backToKw cpos (keywordEach [] env)).all (λx=>x.1.isSome)=true:=rfl;rw[h1,h2];simp;lia
variable{tg iter:Expr}{wi:TI}{g:TG}
variable{bF:List Expr}{scope:Scope}{Nt:List Str}{fr:List (Str×Nat)}{YK:ZC->TG}{YL:ZC->TT}{U0:ZC->TE}
end
end L2
namespace PL
open PySem L2
noncomputable def f9:Expr->Bool
 |.Call (.Name x _) [] [] _=>x == "super"
 |_=>false
theorem l0{o:Expr}{f:Str}{env:Env}{s:Sem Value}(h:f9 o=false):attributeBase o f env s=s:=by
 unfold attributeBase;split
 ·rename_i id _ _;have h:(id == ("super" : Str))=false:=h;have h':(id != ("super" : Str))=true:=by rw[bne,h];rfl
  rw[h',Bool.true_or,Bool.true_or,Bool.true_or];rfl
 ·rfl
end PL
namespace L2
open PySem
noncomputable def oG(sc:Scope)(N:List Str)(scope:Scope)(fr:List (Str×Nat)):Bool:=
 (scope.kind == .function) && scope.names.all (λy=>decide (y.2≠.cell)) && scope.names.all (λy=>decide (y.2=.local->scope.names.lookup y.1=some .local)) &&
  scope.names.all (λy=>decide (y.2=.free->sc.names.lookup y.1=some .cell)) && fr.all (λp=>decide (N[p.2]?=some p.1) && decide (scope.names.lookup p.1=some .free))
end L2
namespace L2
open PySem PySem.Spec PyProof.Rows
noncomputable def eS(s:Stmt):Arguments:=match s with
 |.FunctionDef _ a _ _ _ _ _ _ _ _=>a
 |_=>{ posonlyargs:=[],args:=[],vararg:=none,kwonlyargs:=[],kw_defaults:=[],kwarg:=none,defaults:=[] }
noncomputable def aH(s:Stmt):List Stmt:=match s with
 |.FunctionDef _ _ b _ _ _ _ _ _ _=>b
 |_=>[]
noncomputable def ao(s:Stmt):Scope:=match s with
 |.FunctionDef _ _ _ _ _ _ sc _ _ _=>sc
 |_=>{ kind:=.function,names:=[],isGenerator:=false,isCoroutine:=false }
structure eo(K:PySem.W.Frag)(x qual:Str)(st:Stmt)(f:Addr)(fd:FuncData):Prop where
 ex:∃(oc:Value)(od:Option Addr)(kV doc pm:Value)(Ux:Option Addr)(a9 ct:Value)(cL:Array (Option Value)),
  fd=PySem.W.fnOf x qual (eS st) (aH st) (ao st) .none kV doc pm Ux a9 ct/\K.lookup f=some ⟨oc,od,.func fd,cL⟩/\PySem.W.codeIn K a9 qual=true
 kp:PySem.W.keepIn K (.ref f)=true
section
variable{P:Program}{w:World}{K:PySem.W.Frag}{mg:Str->Option Value}{base:Heap}
theorem eo.iI{x qual:Str}{st:Stmt}{f:Addr}{fd:FuncData}{ps:List Str}(F:eo K x qual st f fd)
  (h:∀(kV doc pm:Value)(Ux:Option Addr)(a9 ct:Value)(us:List Value),us.length=ps.length->bindArgs (PySem.W.fnOf x qual (eS st) (aH st) (ao st) .none kV doc pm Ux a9 ct) ⟨us,[]⟩=pure (ps.zip us)):bS K fd ps []:=by
 obtain⟨oc,od,kV,doc,pm,Ux,a9,ct,cL,rfl,lk,eg⟩:=F.ex;exact .all (h kV doc pm Ux a9 ct)
theorem rX{x qual:Str}{st:Stmt}{f:Addr}{oc:Value}{od Ux:Option Addr}{cL:Array (Option Value)}{kV doc pm a9 ct:Value}(l:K.lookup f=some ⟨oc,od,.func (PySem.W.fnOf x qual (eS st) (aH st) (ao st) .none kV doc pm Ux a9 ct),cL⟩)
  (c:PySem.W.codeIn K a9 qual=true) (k:PySem.W.keepIn K (.ref f)=true):eo K x qual st f (PySem.W.fnOf x qual (eS st) (aH st) (ao st) .none kV doc pm Ux a9 ct):=⟨⟨oc,od,kV,doc,pm,Ux,a9,ct,cL,rfl,l,c⟩,k⟩
end
end L2
namespace L2
open PySem PySem.Spec PyProof.Rows
end L2
end
section
namespace L2
open PySem PySem.Spec PyProof.Rows
section
variable{prog:Program}{w:World}{A:Around}{R:Result->Shared->Prop}{I:Addr}{fp wr:List Addr}{G:Array GenState->Array GenState->Prop}{n:Nat}{P:Nat->Value->Prop}{St:Nat->Shared->Prop}
theorem HF(W:WalksS prog w A.in1 I fp wr G n P St)(tr:Nat->Bool)(Z:Shared->Prop)(hz:∀ s s',Moved wr G s s'->Z s->Z s')
  (HG:∀i v(s:Shared)(Q:Bool->Shared->Prop)(E:Value->Shared->Prop),P i v->Z s->Q (tr i) { s with toks:=s.toks+1+1 }->wpAny (model prog w) A.in1 (truthy v) Q E s) :
  ∀(k i:Nat)(s:Shared),n-i=k->i<=n->St i s->Z s ->
  (∀s',Moved wr G s s'->R (.ok (.ret (.bool (((ZL n).drop i).any tr)))) s')->codeAny (model prog w) A (.builtin "any.loop" ⟨[.ref I],[]⟩) R s:=by
 intro k
 induction k with
 |zero=>
  intro i s hk hi dX UP hR;obtain rfl:i=n:=by lia
  refine aap F.entry_any_loop ?_;rw[Z3 F.plain_any_loop _];show wpAny _ A.in1 (pyNext (.ref I) >>= _) _ _ s;refine Y4 (W.done s _ _ dX λs' hm=>?_);refine Y4 (aaR (Y' ?_));have:=hR s' hm;rw[aaA (by simp)]at this;exact this
 |succ k ih=>
  intro i s hk hi dX UP hR;have a8:i<n:=by lia
  have hd:(ZL n).drop i=i::(ZL n).drop (i+1):=by
   rw[Zz (by simpa using a8)];simp
  refine aap F.entry_any_loop ?_;rw[Z3 F.plain_any_loop _];show wpAny _ A.in1 (pyNext (.ref I) >>= _) _ _ s;refine Y4 (W.item i s _ _ a8 dX λv s' hP rY hm=>?_);have l9:Moved wr G s { s' with toks:=s'.toks+1+1 }:=hm.then_heap (by lia) λc o hc e=>e;refine Y4 (ZP (HG i v _ _ _ hP (hz _ _ hm UP) ?_));refine Y4 (wpAny_letGo ?_);cases hb:tr i with
  |false=>
   simp only[aam,if_false];refine Y' ⟨aaz F.plain_any_loop _,ih (i+1) _ (by lia) a8 (W.frame _ s' _ _ rY (by lia) λc hc o e=>e) (hz _ _ l9 UP) λHH jK=>?_⟩;have:=hR HH (l9.trans W.gtrans jK);rw[hd,aaF,hb,Bool.false_or]at this;exact this
  |true=>
   simp only[if_true];refine Y4 (aaR (Y' ?_));have:=hR _ l9;rw[hd,aaF,hb,Bool.true_or]at this;exact this
end
end L2
end
section
set_option maxHeartbeats 1000000
namespace N
open PySem PySem.Spec PyProof.Rows L2
def yx:QN:=n1 λx M q=>a7 x M λds=>∃ls:List (List D),ds=ls.map D.lst/\q (.bl (ls.any λl=>!l.isEmpty)) M
section
variable{X:Cx}
theorem yy{G:Gx}{F:Fz}:∀{ls:List (List D)}{us:List Value}{i:Nat}{v:Value},af G F (ls.map D.lst) us->us[i]?=some v->∃l,ls[i]?=some l/\aa G F (.lst l) v
 |[],us,i,v,r,e=>by rw[Z',af]at r;subst r;simp at e
 |l::ls,us,0,v,r,e=>by rw[Zh,af]at r;obtain⟨u,us,rfl,h,r⟩:=r;cases e;exact⟨l,rfl,h⟩
 |l::ls,us,i+1,v,r,e=>by rw[Zh,af]at r;obtain⟨u,us,rfl,h,r⟩:=r;exact yy (i:=i) r e
theorem HI(hc:X.calm=true):CB X (.builtin "any") yx:=g8 fun τ z Q R d v I ru q k=>by
 obtain⟨p,ds,its,n,rfl,l,ls,rfl,q⟩:=I.a7 ru q;have hl:z.s.heap.IsList p its.toArray:=l.p.isList;have ne:p≠z.s.heap.objs.size:=Zw (Zv l.e);have W:=(Walks.list (prog:=X.G.P) (w:=X.G.w) (A:=X.A.in1) (I.ok.hd hc) z.s.heap.objs.size p ne its.toArray).toS;have lb:its.length=ls.length:=by have:=l.r.len;rw[Y6]at this;exact this.symm
 refine call_function_tree PySem.F.kind_any PySem.F.plain_any PySem.F.entry_any (PySem.F.args_any1 _) ?_;unfold Builtin.«any»;refine Y4 (m:=oneArg "any" _) (Y' ?_);refine Y4 (wpAny_pyIter_list hl ?_);refine Y' ⟨aaz PySem.F.plain_any_loop _,HF W (λi=>(ls.map λl=>!l.isEmpty).getD i false) (λs'=>∀b o,z.s.heap.get? b=some o->s'.heap.get? b=some o) (λs1 s2 hm hz b o e=>hm.heap b o (λhb=>absurd (Zv e) ((List.mem_singleton.mp hb) ▸ aar _)) (hz b o e)) ?_ its.toArray.size 0 _ rfl (Zj _) ⟨⟨_,Ze _ rfl,rfl,rfl⟩,hl.push _⟩ (λb o e=>Y7 _ e) λs' hm=>?_⟩
 ·intro i v s' Q' E' hP UP hq';have e':its[i]?=some v:=by simpa using hP
  obtain⟨es,h1,h2⟩:=yy l.r e';have hi:i<ls.length:=(List.getElem?_eq_some_iff.mp h1).1;obtain⟨b,iM,n2,rfl,l2⟩:=I.gY h2;obtain⟨HJ,a1,a2,a3,a4⟩:=id l2.p.isList;have e1:=l2.r.len;have e2:sizeLine<2 ^ 63:=by decide
  have HK:(iM.toArray.size:Int)<2 ^ 63:=by have:=l2.z;rw[Zb];lia
  refine wpAny_truthy_list (items:=iM.toArray) ⟨HJ,UP _ _ a1,a2,a3,a4⟩ HK ?_;have Vx:(!iM.toArray.isEmpty)=!es.isEmpty:=by
   cases es with
   |nil=>cases iM with
    |nil=>rfl
    |cons _ _=>cases e1
   |cons _ _=>cases iM with
    |nil=>cases e1
    |cons _ _=>rfl
  have:(ls.map λl=>!l.isEmpty).getD i false=!es.isEmpty:=by rw[Zm,Zr,h1];rfl
  rw[Vx,<- this];exact hq'
 ·have keep:∀ b o,z.s.heap.get? b=some o->s'.heap.get? b=some o:=λb o e=>hm.heap b o (λhb=>absurd (Zv e) ((List.mem_singleton.mp hb) ▸ aar _)) (Y7 _ e);have J:=I.yr hm.gens hm.drawn hm.os keep;refine k (.bl (ls.any λl=>!l.isEmpty)) ⟨z.F,z.M,s'⟩ _ Le.rfl J ?_ q;have e:((ZL its.toArray.size).drop 0).any (λi=>(ls.map λl=>!l.isEmpty).getD i false)=ls.any λl=>!l.isEmpty:=by
   rw[Zb,lb,List.drop_zero];have e1:(ZL ls.length).any (λi=>(ls.map λl=>!l.isEmpty).getD i false)=((ZL (ls.map λl=>!l.isEmpty).length).map (λi=>(ls.map λl=>!l.isEmpty).getD i false)).any _root_.id:=(by rw[List.any_map,Y6];rfl);rw[e1,yt _root_.id,List.any_map];rfl
  rw[e,aa]
end
end N
end
section
set_option maxHeartbeats 1000000
namespace N
open PySem PySem.Spec PyProof.Rows L2
abbrev QM:=D->QN
def OM(X:Cx)(id:String)(r:QM):Prop:=∀ τ z Q R d v ds us,ab X τ z->aa X.G z.F d v->af X.G z.F ds us->r d ds z.M Q->KE X τ z.F Q R->W X (call (.builtin id) (v::us)) R z.s
def yz(T:String)(x:D)(M:Mp):Prop:=match x with
 |.lst _=>T="list"
 |.ref a=>T="list"/\∃xs,M a=some (.lst xs)
 |_=>False
def ma(T:String)(r:QM)(to:DE)(t:DA):DE:=fun τ M q=>to τ M λx M1=>yz T x M1/\t τ M1 λds M2=>r x ds M2 q
def f'(o:D)(M:Mp)(k:Addr->List D->Prop):Prop:=match o with
 |.ref l=>∃xs,M l=some (.lst xs)/\k l xs
 |_=>False
def rZ:QM:=λo ds M q=>match ds with
 |[y]=>f' o M λl xs=>xs.length<sizeLine/\q .az (up M l (.lst (xs++[y])))
 |_=>False
def r6:QM:=λo ds M q=>match ds with
 |[]=>f' o M λl xs=>∃y,xs[xs.length-1]?=some y/\q y (up M l (.lst xs.dropLast))
 |_=>False
def r8:QM:=λo ds M q=>match ds with
 |[y]=>f' o M λl xs=>dF y M λys=>xs.length+ys.length<=sizeLine/\q .az (up M l (.lst (xs++ys)))
 |_=>False
section
variable{X:Cx}{o e:Expr}{es:List Expr}{to:DE}{t:DA}{name:Str}{cr cpos:Pos}{T id:String}{r:QM}{τ:St}{z:Z}
theorem yA{x:D}{v:Value}(I:ab X τ z)(r:aa X.G z.F x v)(ty:yz T x z.M):z.s.TypeIs v T/\∀a,v=.ref a->∃ob,z.s.heap.get? a=some ob/\ob.dict=none:=by
 have lst:∀{ds:List D}{us:List Value}{a:Addr}{n:Nat},eJ X.G z.F z.s.heap a ds us n->z.s.TypeIs (.ref a) "list"/\∀b,aaq a=.ref b->∃ob,z.s.heap.get? b=some ob/\ob.dict=none:=λl=>⟨l.p.isList.typeIs,λb e=>by cases e;exact⟨_,l.e,rfl⟩⟩;cases x with
 |lst ds=>obtain⟨a,us,n,rfl,l⟩:=I.gY r;cases (show T="list" from ty);exact lst l
 |ref a=>
  rw[aa]at r;subst r;obtain⟨rfl,xs,h⟩:=ty;obtain⟨us,n,l⟩:=I.eK h;exact lst l
 |_=>exact ty.elim
theorem HL(pa:PlainAttrs T)(slot:Slot T name id)(r9:typeOf (.builtin id)=pure (.type "method_descriptor"))(hm:OM X id r)(ho:PE X o to)
  (iN:attributeBase o name X.env (eval o X.env)=eval o X.env) (db:(cr.endLine == cpos.line)=true):PE X (.Call (.Attribute o name cr) [] [] cpos) (ma T r to iw):=fun τ z Q R I h k=>
 wpAny_Call_method0_late iN db (ho τ z _ _ I h λx z1 v l1 I1 r1 q1=>by
  obtain⟨h1,h2⟩:=yA I1 r1 q1.1;exact⟨T,id,pa,slot,r9,h1,h2,Calls.callWith_builtin rfl (PySem.evalArgs_none (hm τ z1 Q R x v [] [] I1 r1 .nil q1.2 λd z2 u l2=>k d z2 u (l1.tr l2)))⟩)
theorem HM(pa:PlainAttrs T)(slot:Slot T name id)(r9:typeOf (.builtin id)=pure (.type "method_descriptor"))(hm:OM X id r)(ho:PE X o to)(ha:PA X (e::es) t)
  (iN:attributeBase o name X.env (eval o X.env)=eval o X.env)
  (HN:((backTo cpos (starEach (e::es) X.env)).all (λx=>!x.1) && (backToKw cpos (keywordEach [] X.env)).all (λx=>x.1.isSome)
   && decide ((e::es).length+([]:List Keyword).length+(if ([]:List Keyword).isEmpty then 0 else 1)<30))=true)
  (db:(cr.endLine == cpos.line)=true) (hs:starEach (e::es) X.env=(false,eval e X.env)::starEach es X.env) (HO:(backTo cpos (starEach es X.env)).any (·.1)=false) :
  PE X (.Call (.Attribute o name cr) (e::es) [] cpos) (ma T r to t):=fun τ z Q R I h k=>
 wpAny_Call_method_late iN HN db rfl (ho τ z _ _ I h λx z1 v l1 I1 r1 q1=>by
  obtain⟨h1,h2⟩:=yA I1 r1 q1.1;refine⟨T,id,pa,slot,r9,h1,h2,?_⟩;have hA:=ha cpos τ z1 _ (λus s=>W X (call (.builtin id) (v::us)) R s) I1 q1.2 λds z2 us l2 I2 r2 q2=>hm τ z2 Q R x v ds us I2 (r1.up l2.d) r2 q2 λd z3 u l3=>k d z3 u (l1.tr (l2.tr l3));rw[hs]at hA ⊢;exact Calls.callWith_builtin (by show (false ||(backTo cpos (starEach es X.env)).any (·.1))=false;rw[HO] <;> rfl) (Calls.evalArgs_plain hA))
theorem ab.f'{d:D}{u:Value}{k:Addr->List D->Prop}(I:ab X τ z)(r:aa X.G z.F d u)(h:f' d z.M k):∃a ds us n,u=.ref a/\z.M a=some (.lst ds)/\eJ X.G z.F z.s.heap a ds us n/\k a ds:=by
 unfold N.f' at h;split at h
 ·obtain⟨xs,h1,h2⟩:=h;rw[aa]at r;obtain⟨us,n,l⟩:=I.eK h1;exact⟨_,xs,us,n,r,h1,l,h2⟩
 ·exact h.elim
theorem ab.oH{a:Addr}{xs ys:List D}{us us':List Value}{n t:Nat}{f:Array Value->Array Value}(I:ab X τ z)(h:z.M a=some (.lst xs))(e:z.s.heap.get? a=some (bJ us n))(hf:f us.toArray=us'.toArray)(r:af X.G z.F ys us')(hz:us'.length<=sizeLine):
  ab X τ ⟨z.F,up z.M a (.lst ys),{ z.s with heap:=z.s.heap.update a (ZM f),toks:=t }⟩:=by
 have q:=PySem.IsL.update e f;rw[hf]at q;exact I.x8 (us:=us) (n:=n) h (λb hb o q=>(aaW _ _ (ZO hb)).trans q) q r hz
theorem HP:OM X "list.append" rZ:=fun τ z Q R d v ds us I rv rs h k=>by
 unfold rZ at h;split at h
 ·obtain⟨u,rfl,ru⟩:=iC rs;obtain⟨a,xs,its,n,rfl,hM,l,hz,q⟩:=I.f' rv h;have hl:=l.r.len;refine call_meets F.slot_list_append ⟨_,l.e,rfl⟩ F.entry_list_append (F.args_list_append_2 _ _) (PySem.list_append a its.toArray n u (by rw[Zb];lia)) ⟨l.e,?_⟩;exact k .az ⟨z.F,_,_⟩ _ Le.rfl (I.oH (us':=its++[u]) hM l.e (by simp) (l.r.app (.cons ru .nil)) (by rw[Zi,List.length_singleton];lia)) (by rw[aa]) q
 ·exact h.elim
theorem af.init{G:Gx}{F:Fz}{ds:List D}{us:List Value}(r:af G F ds us):af G F ds.dropLast us.dropLast:=by
 rw[List.dropLast_eq_take,List.dropLast_eq_take,<- r.len];exact r.rS 0 _
theorem HQ:OM X "list.pop" r6:=fun τ z Q R d v ds us I rv rs h k=>by
 unfold r6 at h;split at h
 ·rw[af]at rs;subst rs;obtain⟨a,xs,its,n,rfl,hM,l,y,hy,q⟩:=I.f' rv h;have hl:=l.r.len;have hz:=l.z;obtain⟨u,hu,ru⟩:=l.r.get hy;have HR:its.toArray[its.toArray.size-1]?=some u:=by
   show its.toArray[its.length-1]?=some u;rw[<- ZS,<- hl];exact hu
  refine call_meets F.slot_list_pop ⟨_,l.e,rfl⟩ F.entry_list_pop (F.args_list_pop_1 _) (MeetsSeq.list_pop_last a its.toArray n u HR (by rw[Zb];lia)) ⟨l.e,?_⟩;refine k y ⟨z.F,_,_⟩ _ Le.rfl (I.oH (us':=its.dropLast) hM l.e ?_ l.r.init (by rw[List.length_dropLast];lia)) ru q;show its.toArray.eraseIdxIfInBounds (its.toArray.size-1)=its.dropLast.toArray;rw[Zb,List.eraseIdxIfInBounds_toArray,GV]
 ·exact h.elim
end
end N
end
section
namespace L2
open PySem PySem.Spec PyProof.Rows PySem.W
section
variable{prog:Program}{w:World}{A:Around}{E:Value->Shared->Prop}{s:Shared}
theorem HS:typeLookup (.type "tuple") "keys"=pure none:=by rw[aaT,aab];kernel_rfl
theorem HU:typeLookup (.type "list") "keys"=pure none:=by rw[aaT,aab];kernel_rfl
theorem HV{a:Addr}{o:Obj}{xs:Array Value}{k:Nat}{Q:Option Value->Shared->Prop}(U:s.heap.get? a=some o)(hc:o.cls=.type "tuple")(iO:o.data=.seq xs k)(hd:o.dict=none)(hA:A.handled=none)
  (h:∀h' tk,(∀b o,s.heap.get? b=some o->h'.get? b=some o)->Q none { s with heap:=h',toks:=tk }):wpAny (model prog w) A (getAttr? (.ref a) "keys") Q E s:=by
 obtain⟨c,au,dat,sl⟩:=o;simp only at hc iO hd;subst hc iO hd;obtain⟨hp,g,d,tk,os⟩:=s;have hT:∀eR,(⟨hp,g,d,eR,os⟩:Shared).TypeIs (.ref a) "tuple":=λ_=>⟨_,U,rfl⟩;have f1:=sub_AttributeError;have f3:=F.slot_tuple_getattribute.lookup;have f4:=F.slot_tuple_getattribute.bind (.ref a);have f5:=am_tuple_getattr_none;have sd:(["__module__","__name__","__qualname__","__doc__","__annotations__"]:List Str).contains "keys"=false:=by decide
 unfold getAttr? getAttrBy? getAttrBy
 repeat (any_goals (first |assumption |exact hT _ |((with_reducible show wpAny _ _ (call (Value.builtin "tuple.__getattribute__") _ _) _ _ _);refine call_meets F.slot_tuple_getattribute (hT _) am_entry_tuple_getattribute (F.args_tuple_getattribute_2 _ _) (meets_getattribute_miss_tuple a xs k sl "keys" _ HS sd) ⟨U,hA,λh' eR e gc=>?_⟩) |wp_step))
 obtain⟨t',u',he⟩:=gc.there;show wpAny _ _ (getattributeRaised _ _ _ _ _ _ _) _ _ _;unfold getattributeRaised
 repeat (any_goals (first |assumption |wp_step))
 exact h _ _ gc.keeps
theorem HW{a:Addr}{o:Obj}{xs:Array Value}{k:Nat}{Q:Option Value->Shared->Prop}(U:s.heap.get? a=some o)(hc:o.cls=.type "list")(iO:o.data=.seq xs k)(hd:o.dict=none)(hA:A.handled=none)
  (h:∀h' tk,(∀b o,s.heap.get? b=some o->h'.get? b=some o)->Q none { s with heap:=h',toks:=tk }):wpAny (model prog w) A (getAttr? (.ref a) "keys") Q E s:=by
 obtain⟨c,au,dat,sl⟩:=o;simp only at hc iO hd;subst hc iO hd;obtain⟨hp,g,d,tk,os⟩:=s;have hT:∀eR,(⟨hp,g,d,eR,os⟩:Shared).TypeIs (.ref a) "list":=λ_=>⟨_,U,rfl⟩;have f1:=sub_AttributeError;have f3:=F.slot_list_getattribute.lookup;have f4:=F.slot_list_getattribute.bind (.ref a);have f5:=am_list_getattr_none;have sd:(["__module__","__name__","__qualname__","__doc__","__annotations__"]:List Str).contains "keys"=false:=by decide
 unfold getAttr? getAttrBy? getAttrBy
 repeat (any_goals (first |assumption |exact hT _ |((with_reducible show wpAny _ _ (call (Value.builtin "list.__getattribute__") _ _) _ _ _);refine call_meets F.slot_list_getattribute (hT _) am_entry_list_getattribute (F.args_list_getattribute_2 _ _) (meets_getattribute_miss_list a xs k sl "keys" _ HU sd) ⟨U,hA,λh' eR e gc=>?_⟩) |wp_step))
 obtain⟨t',u',he⟩:=gc.there;show wpAny _ _ (getattributeRaised _ _ _ _ _ _ _) _ _ _;unfold getattributeRaised
 repeat (any_goals (first |assumption |wp_step))
 exact h _ _ gc.keeps
theorem yB:entryFor table "dict.update.loop"=some Builtin.«dict.update.loop»:=entryFor_of_tree (by kernel_rfl)
theorem jL:plainId "dict.update.loop"=true:=by decide +kernel
variable{I:Addr}{fp wr:List Addr}{n:Nat}{P:Nat->Value->Prop}{St:Nat->Heap->Prop}
def yC(prog:Program)(w:World)(A:Around)(d:Addr)(n:Nat)(P:Nat->Value->Prop)(DK:Nat->Heap->Prop):Prop:=
 ∀(i:Nat)(v:Value)(s:Shared),i<n->P i v->DK i s.heap->∃(a:Addr)(o:Obj)(xs:Array Value)(m:Nat)(k x:Value),v=.ref a/\s.heap.get? a=some o/\o.cls=.type "tuple"/\o.data=.seq xs m/\xs.toList=[k,x] /\
  ∀(Q:Unit->Shared->Prop)(E:Value->Shared->Prop),(∀h' tk,DK (i+1) h'->aaN d s.heap h'->Q () { s with heap:=h',toks:=tk })->wpAny (model prog w) A (dictSet d k x) Q E s
theorem HX{R:Result->Shared->Prop}{DK:Nat->Heap->Prop}(W:Walks prog w A.in1 I fp wr n P St)(d:Addr)(jM:d ∉ fp)(hfr:∀ i h h',DK i h->(∀ b o,b ∉ wr->h.get? b=some o->h'.get? b=some o)->DK i h')(put:yC prog w A.in1 d n P DK)(res:Value):
  ∀(k i:Nat)(t:Tok)(s:Shared),n-i=k->i<=n->St i s.heap->DK i s.heap ->
  (∀h' tk,DK n h'->(∀b o,b ∉ d::wr->s.heap.get? b=some o->h'.get? b=some o)->R (.ok (.ret res)) { s with heap:=h',toks:=tk }) ->
  codeAny (model prog w) A (.builtin "dict.update.loop" ⟨[.ref d,.ref I,.int i t,res],[]⟩) R s:=by
 have TF:d ∉ wr:=λh=>jM (W.sub _ h);intro k
 induction k with
 |zero=>
  intro i t s hk hi dX hD hR;have HY:i=n:=by lia
  subst HY;refine aap yB ?_;rw[Z3 jL _];show wpAny _ A.in1 (pyNext (.ref I) >>= _) _ _ s;refine Y4 (W.done s _ _ dX λh' tk hm=>?_);dsimp only;unfold Builtin.Dict.addKeywords;refine Y4 (Y' ?_);exact Y' (hR h' tk (hfr _ _ _ hD hm) λb o hb e=>hm b o (λz=>hb (Zc _ z)) e)
 |succ k ih=>
  intro i t s hk hi dX hD hR;have a8:i<n:=by lia
  refine aap yB ?_;rw[Z3 jL _];show wpAny _ A.in1 (pyNext (.ref I) >>= _) _ _ s;refine Y4 (W.item i s _ _ a8 dX λv h' tk hP rY hm=>?_);dsimp only;obtain⟨a,o,xs,m,ky,x,rfl,ho,hc,iO,HZ,H0⟩:=put i v { s with heap:=h',toks:=tk } a8 hP (hfr _ _ _ hD hm);refine Y4 (ZP (Y4 (wpAny_tryCatch ?_)));unfold Builtin.Dict.pairItems;refine Y4 (wpAny_typeOf (T:="tuple") ⟨o,ho,hc⟩ ?_);rw[if_pos (by decide)];refine Y4 (wpAny_seqItems ho iO (Y' ?_));dsimp only[Option.getD_some];rw[HZ];dsimp only;refine ZP (H0 _ _ λse eR H1 hs=>?_);refine Y' ⟨aaz jL _,?_⟩;have:=ih (i+1) 0 { s with heap:=se,toks:=eR } (by lia) a8 (W.frame _ _ _ rY λb hb o e=>(hs.2 b (λz=>jM (z ▸ hb))).trans e) H1 (λh3 H3 H4 sf=>hR h3 H3 H4 λb o hb e=>sf b o hb ((hs.2 b (λz=>hb (by simp [z]))).trans (hm b o (λz=>hb (Zc _ z)) e)));exact this
end
end L2
namespace L2
open PySem PySem.Spec PyProof.Rows PySem.W
structure oJ(prog:Program)(w:World)(T:String)(r:Addr)(n:Nat)(P:Nat->Value->Prop)(OK:Heap->Prop):Prop where
 type:∀s:Shared,OK s.heap->s.TypeIs (.ref r) T
 there:∀h:Heap,OK h->r<h.objs.size
 keep:∀h h':Heap,OK h->(∀o,h.get? r=some o->h'.get? r=some o)->OK h'
 notDict:(Value.type T != Value.type "dict")=true
 sh:∀(A:Around)(E:Value->Shared->Prop)(s:Shared)(Q:Option Value->Shared->Prop),A.handled=none->OK s.heap->(∀h' tk,(∀b o,s.heap.get? b=some o->h'.get? b=some o)->Q none { s with heap:=h',toks:=tk })->wpAny (model prog w) A (getAttr? (.ref r) "keys") Q E s
 iter:∀(A:Around)(s:Shared),A.handled=none->OK s.heap->∃(oI:Obj)(St:Nat->Heap->Prop),
  (∀(E:Value->Shared->Prop)(Q:Value->Shared->Prop),Q (.ref s.heap.objs.size) { s with heap:=s.heap.push oI }->wpAny (model prog w) A (pyIter (.ref r)) Q E s) /\
  Walks prog w A s.heap.objs.size [s.heap.objs.size,r] [s.heap.objs.size] n P St/\St 0 (s.heap.push oI)
section
variable{prog:Program}{w:World}{A:Around}{E:Value->Shared->Prop}{s:Shared}{T:String}{r:Addr}{n:Nat}{P:Nat->Value->Prop}{OK:Heap->Prop}
theorem H5{k:Nat}{its:Array Value}:oJ prog w "list" r its.size (λi v=>its[i]?=some v) (λh=>h.get? r=some { cls:=.type "list",data:=.seq its k }) where
 type:=λs h=>⟨_,h,rfl⟩
 there:=λh e=>Zv e
 keep:=λh h' e k=>k _ e
 notDict:=by decide
 sh:=λA E s Q hA e q=>HW e rfl rfl rfl hA q
 iter:=λA s hA e=>by
  have hl:s.heap.IsList r its:=⟨_,e,rfl,k,rfl⟩;have ne:r≠s.heap.objs.size:=Zw (Zv e);exact⟨_,_,λ_ _ q=>wpAny_pyIter_list hl q,Walks.list hA s.heap.objs.size r ne its,⟨⟨_,Ze _ rfl,rfl,rfl⟩,hl.push _⟩⟩
theorem H6{its:Array Value}:oJ prog w "tuple" r its.size (λi v=>its[i]?=some v) (λh=>∃o k,h.get? r=some o/\o.cls=.type "tuple"/\o.data=.seq its k/\o.dict=none) where
 type:=λs ⟨o,k,h,c,_⟩=>⟨_,h,c⟩
 there:=λh ⟨o,k,e,_⟩=>Zv e
 keep:=λh h' ⟨o,k,e,c⟩ q=>⟨o,k,q _ e,c⟩
 notDict:=by decide
 sh:=λA E s Q hA ⟨o,k,e,c,d,z⟩ q=>HV e c d z hA q
 iter:=λA s hA ⟨o,k,e,c,d,z⟩=>by
  have hl:s.heap.IsTuple r its:=⟨o,e,c,k,d⟩;have ne:r≠s.heap.objs.size:=Zw (Zv e);exact⟨_,_,λ_ _ q=>wpAny_pyIter_tuple hl q,Walks.tuple hA s.heap.objs.size r ne its,⟨⟨_,Ze _ rfl,rfl,rfl⟩,hl.push _⟩⟩
theorem H7{DK:Nat->Heap->Prop}{Q:Value->Shared->Prop}(K:oJ prog w T r n P OK)(hA:A.handled=none)(hok:OK s.heap)(UQ:DK 0 (s.heap.push { cls:=.type "dict",data:=.dict #[] }))
  (hfr:∀i h h'(it:Addr),s.heap.objs.size<it->DK i h->(∀b o,b≠it->h.get? b=some o->h'.get? b=some o)->DK i h') (put:∀A':Around,A'.units<=A.units+5->yC prog w A' s.heap.objs.size n P DK)
  (h:∀h' tk,DK n h'->(∀b o,s.heap.get? b=some o->h'.get? b=some o)->Q (.ref s.heap.objs.size) { s with heap:=h',toks:=tk }):wpAny (model prog w) A (call (.type "dict") [.ref r]) Q E s:=by
 refine callType_codes (Q₁:=λobj s₁=>obj=.ref s.heap.objs.size/\s₁={ s with heap:=s.heap.push { cls:=.type "dict",data:=.dict #[] } }) F.kt_called_dict (F.kt_typeCall_dict_1 _) F.entry_dict_init (kt_code_dict_new _ ⟨rfl,rfl⟩) ?_;rintro obj s₁ ⟨rfl,rfl⟩;have k1:∀ b o,s.heap.get? b=some o->(s.heap.push { cls:=.type "dict",data:=.dict #[] }).get? b=some o:=λb o e=>Y7 _ e;have si:OK (s.heap.push { cls:=.type "dict",data:=.dict #[] }):=K.keep _ _ hok λo e=>k1 _ o e;have x0:(Shared.TypeIs { s with heap:=s.heap.push { cls:=.type "dict",data:=.dict #[] } } (.ref s.heap.objs.size) "dict"):=⟨_,Ze _ rfl,rfl⟩;refine⟨x0,F.args_dict_init_2 _ _,?_⟩;unfold Builtin.«dict.__init__»;refine Y4 ?_;unfold Builtin.Dict.selfAndRest;refine Y4 (wpAny_notOrdered_dict x0 ?_);show wpAny _ _ (pure (s.heap.objs.size,[aaq r])) _ _ _;refine Y' ?_;show wpAny _ _ (Builtin.Dict.updateFrom "dict.__init__" s.heap.objs.size (.ref r) [] .none) _ _ _;unfold Builtin.Dict.updateFrom;refine Y4 (wpAny_typeOf (K.type _ si) ?_);rw[if_pos K.notDict];refine Y4 (K.sh A.in1.in1 _ { s with heap:=s.heap.push { cls:=.type "dict",data:=.dict #[] } } _ hA si λh2 yD k2=>?_);simp only[Option.isNone_none,if_true];refine Y4 (aaR ?_);have H8:OK h2:=K.keep _ _ si λo e=>k2 _ o e;obtain⟨oI,St,bW,W,st⟩:=K.iter A.in1.in1 { s with heap:=h2,toks:=yD } hA H8;have oK:s.heap.objs.size<h2.objs.size:=Zv (k2 _ _ (Ze _ rfl));refine Y4 (bW _ _ ?_);have hr:r<s.heap.objs.size:=K.there _ hok;have loop:=HX (A:=A.in1) (R:=wants (λr' s₂=>r'=.none/\Q (.ref s.heap.objs.size) s₂) E) (DK:=DK) W s.heap.objs.size (by
   simp only[ZN,ZF,or_false,not_or];exact⟨Zw oK,Nat.ne_of_gt hr⟩)
  (λi h h' x k=>hfr i h h' h2.objs.size oK x λb o hb e=>k b o (by simpa using hb) e) (put _ (by show A.units+1+1<=_;lia)) .none n 0 0 { s with heap:=h2.push oI,toks:=yD } rfl (Zj _) st
  (hfr 0 _ _ h2.objs.size oK UQ λb o _ e=>Y7 _ (k2 b o e)) (λh' tk hD hk=>⟨rfl,h h' tk hD λb o e=>hk b o (by
   have hb:=Zv e;simp only[ZN,ZF,or_false,not_or];exact⟨Zw hb,Zw (aaQ hb oK)⟩) (Y7 _ (k2 b o (k1 b o e)))⟩)
 first
  |exact Y' ⟨aaz jL _,loop⟩
  |exact Y' (Y' ⟨aaz jL _,loop⟩)
  |exact Y4 (Y' (Y' ⟨aaz jL _,loop⟩))
end
end L2
end
section
set_option maxHeartbeats 1000000
namespace N
open PySem PySem.Spec PyProof.Rows L2
def gg(kvs:List (Key×D))(M:Mp)(q:QK):Prop:=q (.au (kvs.map (·.1)) (kvs.map (·.2))) M\/∀p,M p=none->q (.ref p) (up M p (.au kvs))
noncomputable def cM(kvs:List (Key×D)):List (Key×D):=kvs.foldl (λal kv=>aY al kv.1 kv.2) []
def yE:DE:=λ_ M q=>gg [] M q
def sj:List (DE×DE)->St->Mp->(List (Key×D)->Mp->Prop)->Prop
 |[],_,M,q=>q [] M
 |(tk,tv)::r,τ,M,q=>tk τ M λx M1=>fE x λc=>tv τ M1 λy M2=>sj r τ M2 λkvs M3=>q ((c,y)::kvs) M3
def yF(ps:List (DE×DE)):DE:=fun τ M q=>sj ps τ M λkvs M2=>gg (cM kvs) M2 q
noncomputable def g9:Key->D
 |.inl i=>.int i
 |.inr x=>.str x
noncomputable def fI(p:Key×D):D:=.tup [g9 p.1,p.2]
def sq:QN:=n1 λx M q=>(fD x M λkvs=>gg kvs M q)\/dF x M λds=>∃kvs:List (Key×D),ds=kvs.map fI/\gg (cM kvs) M q
section
variable{X:Cx}{τ:St}{z:Z}
theorem ab.er(I:ab X τ z):sysModules<z.s.heap.objs.size:=aaQ (by decide) (I.ok.mod.eI.keeps I.Uz).lt
theorem md{G:Gx}{F:Fz}:∀{kvs:List (Key×D)}{vs:List (Key×Value)},KV G F kvs vs->af G F (kvs.map (·.2)) (vs.map (·.2))/\kvs.map (·.1)=vs.map (·.1)
 |_,_,.nil=>⟨.nil,rfl⟩
 |_,_,.cons r t=>⟨.cons r.2 (md t).1,by rw[Zh,Zh,r.1,(md t).2]⟩
theorem yG(vs:List (Key×Value)):(vs.map (·.1)).zip (vs.map (·.2))=vs:=by
 induction vs with
 |nil=>rfl
 |cons p r ih=>rw[Zh,Zh,aad,ih]
theorem ay.H9{G:Gx}{F:Fz}{M:Mp}{h:Heap}{a:Addr}{o:MO}(x:ay G F M h)(hF:F a=none)(hM:M a=none)(new:ef G F (N.up M a o) h a o):ay G F (N.up M a o) h:=
 ⟨x.fz,λb u e=>by
  by_cases hb:b=a
  ·subst hb;rw[ak]at e;cases e;exact⟨hF,new⟩
  ·rw[av hb]at e;exact⟨(x.ob b u e).1,(x.ob b u e).2.go Le.rfl.d (λ_ _ _ q=>q) λc q=>by rw[av (b7 q hM)];exact q⟩,x.tb⟩
theorem ab.me{a:Addr}{o:Obj}(I:ab X τ z)(f:Fp X z a)(e:z.s.heap.get? a=some o):Le z.F (N.up z.F a (.dat o))/\ab X τ ⟨N.up z.F a (.dat o),z.M,z.s⟩:=
 ⟨Le.new f.f,I.go (Le.new f.f) (I.hok.wH f.f f.m e) (λb hb=>⟨bk.s λ_ e=>e,I.dA hb,av λq=>f.o (q ▸ hb)⟩) rfl I.bare⟩
theorem ab.take{a:Addr}{o:MO}(I:ab X τ z)(f:Fp X z a)(new:ef X.G z.F (N.up z.M a o) z.s.heap a o):ab X τ ⟨z.F,N.up z.M a o,z.s⟩:=
 I.go Le.rfl (I.hok.H9 f.f f.m new) (λb hb=>⟨bk.s λ_ e=>e,(av (show b≠a from λq=>f.o (q ▸ hb))).trans (I.dA hb),rfl⟩) rfl I.bare
theorem ab.yH{ds:List D}{us:List Value}{a:Addr}{n:Nat}{Q:QK}{R:Value->Shared->Prop}{F:Fz}(I:ab X τ z)(f:Fp X z a)(k:KE X τ F Q R)(l:Le F z.F)(r:af X.G z.F ds us)(ho:z.s.heap.get? a=some (bJ us n))(hz:us.length<=sizeLine)(q:cE ds z.M Q):R (.ref a) z.s:=by
 rcases q with q |q
 ·obtain⟨l1,J⟩:=I.me f ho;exact k (.lst ds) ⟨N.up z.F a (.dat (bJ us n)),z.M,z.s⟩ _ (l.tr l1) J (om ak hz (r.up l1.d)) q
 ·exact k (.ref a) ⟨z.F,N.up z.M a (.lst ds),z.s⟩ _ l (I.take (o:=.lst ds) f ⟨by rw[r.len];exact hz,us,n,r,ho⟩) qT (q a f.m)
theorem ab.yI{kvs:List (Key×D)}{vs:List (Key×Value)}{a:Addr}{Q:QK}{R:Value->Shared->Prop}{F:Fz}(I:ab X τ z)(f:Fp X z a)(er:(a == sysModules)=false)(k:KE X τ F Q R)(l:Le F z.F)(r:KV X.G z.F kvs vs)(ho:z.s.heap.DictOf (bR X.G.P X.G.w) a vs)(hz:kvs.length<=sizeLine)(q:gg kvs z.M Q):R (.ref a) z.s:=by
 rcases q with q |q
 ·obtain⟨o,es,ep,e,ex,g1,g2,g3,nd⟩:=ho;obtain⟨l1,J⟩:=I.me f e;obtain⟨k1,k2⟩:=md (r.up l1.d);refine k (.au (kvs.map (·.1)) (kvs.map (·.2))) ⟨N.up z.F a (.dat o),z.M,z.s⟩ _ (l.tr l1) J ?_ q;rw[aa];refine⟨a,o,vs.map (·.2),rfl,ak,⟨ex,⟨es,ep,g1,g2,?_⟩,by rw[k2];exact nd,by rw[k2,Y6,Y6],by rw[Y6];exact hz⟩,er,k1⟩;rw[k2,yG];exact g3
 ·exact k (.ref a) ⟨z.F,N.up z.M a (.au kvs),z.s⟩ _ l (I.take (o:=.au kvs) f ⟨hz,er,vs,r,ho⟩) qT (q a f.m)
theorem ab.yJ{a:Addr}(I:ab X τ z)(hp:z.s.heap.objs.size<=a):(a == sysModules)=false:=beq_eq_false_iff_ne.mpr (ZO (Zw (Zq I.er hp)))
theorem ab.au{kvs:List (Key×D)}{vs:List (Key×Value)}{h':Heap}{a:Addr}{t:Nat}{Q:QK}{R:Value->Shared->Prop}{F:Fz}(I:ab X τ z)(k:KE X τ F Q R)(l:Le F z.F)(r:KV X.G z.F kvs vs)(kp:∀b,bk z.s.heap h' b)(hp:z.s.heap.objs.size<=a)(ho:h'.DictOf (bR X.G.P X.G.w) a vs)(hz:kvs.length<=sizeLine)(q:gg kvs z.M Q):R (.ref a) { z.s with heap:=h',toks:=t }:=
 (I.b8 (t:=t) kp).yI (I.q8 hp) (I.yJ hp) k l r ho hz q
variable{pos:Pos}{eT:List (Option Expr)}{iP:List Expr}{ps:List (DE×DE)}{k v:Expr}{tk tv:DE}
theorem H':PE X (.Dict [] [] pos) yE:=fun τ z Q R I h k=>
 wpAny_Dict_empty (I.au (vs:=[]) (t:=z.s.toks) k Le.rfl .nil (λ_ _ q=>Y7 _ q) (Y8 _) (Heap.DictOf.new _) (Zj _) h)
def PP(X:Cx)(pos:Pos)(eT:List (Option Expr))(iP:List Expr)(ps:List (DE×DE)):Prop:=∀ τ z Q R,ab X τ z->sj ps τ z.M Q ->
 (∀kvs z' rs ws,Le z.F z'.F->ab X τ z'->Carries (bR X.G.P X.G.w) ws rs->KV X.G z'.F kvs rs->kvs.length=eT.length->Q kvs z'.M->R ws z'.s)->W X (evalPairs (pairTrees eT iP X.env pos)) R z.s
theorem Ia:PP X pos [] [] []:=fun τ z Q R I h k=>pairTrees_nil_walk (k [] z [] [] Le.rfl I True.intro .nil rfl h)
theorem Ib(hk:PE X k tk)(hv:PE X v tv)(hr:PP X pos eT iP ps):PP X pos (some k::eT) (v::iP) ((tk,tv)::ps):=fun τ z Q R I h K=>
 pairTrees_cons_walk (hk τ z _ _ I h λx z1 u l1 I1 r1 q1=>by
  obtain⟨c,hc,q1⟩:=oA (P:=X.G.P) (w:=X.G.w) q1 r1;exact hv τ z1 _ _ I1 q1 λy z2 w l2 I2 r2 q2=>hr τ z2 _ _ I2 q2 λkvs z3 rs ws l3 I3 ca rel hl q3=>K ((c,y)::kvs) z3 ((c,w)::rs) ((u,w)::ws) (l1.tr (l2.tr l3)) I3 ⟨hc,rfl,ca⟩ (.cons ⟨rfl,r2.up l3.d⟩ rel) (by rw[Zg,Zg,hl]) q3)
theorem KV.cM:∀{more:List (Key×D)}{rs:List (Key×Value)}{G:Gx}{F:Fz}{kvs:List (Key×D)}{vs:List (Key×Value)},KV G F more rs->KV G F kvs vs->KV G F (more.foldl (λal kv=>aY al kv.1 kv.2) kvs) (merged vs rs)/\(more.foldl (λal kv=>aY al kv.1 kv.2) kvs).length<=kvs.length+more.length:=by
 intro more rs G F kvs vs r;unfold KV at r
 induction r generalizing kvs vs with
 |nil=>intro q;exact⟨q,Y8 _⟩
 |@cons p q ps qs h t ih=>
  intro r0;have e:KV G F (aY kvs p.1 p.2) (stored vs q.1 q.2):=by
   have:=r0.put p.1 h.2;rw[<- h.1];exact this
  refine⟨(ih e).1,Y9 (ih e).2 ?_⟩;have:=iK kvs p.1 p.2;rw[Zg];lia
theorem Ic(h:PP X pos eT iP ps)(sn:eT.all (·.isSome)=true)(hl:eT.length=iP.length)(h0:eT≠[])(Ie:eT.length<=15):PE X (.Dict eT iP pos) (yF ps):=fun τ z Q R I q K=>by
 have hb:=Y8 z.s.heap.objs.size;have e0:(z.s.heap.push { cls:=.type "dict",data:=.dict #[] }).get? z.s.heap.objs.size=some { cls:=.type "dict",data:=.dict #[] }:=Ze _ rfl;have I1:ab X τ ⟨z.F,z.M,{ z.s with heap:=z.s.heap.push { cls:=.type "dict",data:=.dict #[] } }⟩:=I.b8 (t:=z.s.toks) λ_ _ q=>Y7 _ q;have fp:∀b∈[z.s.heap.objs.size],Fp X ⟨z.F,z.M,{ z.s with heap:=z.s.heap.push { cls:=.type "dict",data:=.dict #[] } }⟩ b:=λb m=>by rw[List.mem_singleton.mp m];exact I.q8 hb
 obtain⟨lp,I2⟩:=I1.lN fp;refine wpAny_Dict_walk (knd:=bR X.G.P X.G.w) sn hl h0 Ie (h τ _ _ _ I2 q λkvs z3 rs ws l3 I3 ca rel hk q3=>?_);have yK:=l3 _ _ (dz (gZ (List.mem_singleton.mpr rfl) e0));have h3:z3.s.heap.get? z.s.heap.objs.size=some { cls:=.type "dict",data:=.dict #[] }:=I3.hok.fz _ _ yK;obtain⟨l4,I4⟩:=I3.jD (F:=z.F) (λb m=>⟨(fp b m).f,(fp b m).o⟩) l3 I.bs I.cp;have Ig:=rel.up (cn.aK jC l3);obtain⟨rm,hm⟩:=KV.cM Ig (kvs:=[]) (vs:=[]) .nil;obtain⟨o,es,ep,e,rest⟩:=Heap.DictOf.new (knd:=bR X.G.P X.G.w) z.s.heap;rw[e0]at e;cases e;refine⟨rs,ca,⟨_,es,ep,h3,rest⟩,λh' oF hs=>?_⟩;have yL:z3.M z.s.heap.objs.size=none:=by
  cases r':z3.M z.s.heap.objs.size with
  |none=>rfl
  |some o'=>have:=(I3.hok.ob _ o' r').1;rw[yK]at this;cases this
 have f4:aK z3.F (aM [z.s.heap.objs.size] (z.s.heap.push { cls:=.type "dict",data:=.dict #[] })) z.s.heap.objs.size=none:=fv (gZ (List.mem_singleton.mpr rfl) e0);have nO:=(fp _ (List.mem_singleton.mpr rfl)).o;have I5:=I4.turn (t:=z3.s.toks+ws.length) (h':=h') (λb hb o q=>(hs.2 b hb).trans q) f4 yL nO;exact I5.yI (a:=z.s.heap.objs.size) ⟨f4,yL,nO⟩ (I.yJ hb) K l4 rm oF (Y9 hm (by rw[hk,aaX,List.length_nil];lia)) q3
theorem yM{kvs:List (Key×D)}{i:Nat}{p:Key×D}(h:kvs[i]?=some p):cM (kvs.take (i+1))=aY (cM (kvs.take i)) p.1 p.2:=by
 rw[ZV,h];unfold cM;rw[List.foldl_append];rfl
theorem Ih(kvs:List (Key×D))(k:Key)(v:D):(aY kvs k v).length<=kvs.length+1:=by
 unfold aY;split
 ·rw[Y6];lia
 ·rw[Zi];exact Y8 _
theorem sr(kvs:List (Key×D)):∀i,(cM (kvs.take i)).length<=i
 | 0=>by simp [cM]
 |i+1=>by
  have ih:=sr kvs i;cases h:kvs[i]? with
  |none=>rw[ZV,h,Option.toList_none,Zu];lia
  |some p=>rw[yM h];have:=Ih (cM (kvs.take i)) p.1 p.2;lia
theorem Ii{G:Gx}{F:Fz}{P:Program}{w:World}{k:Key}{u:Value}(r:aa G F (g9 k) u):(bR P w).is k u=true:=by
 cases k with
 |inl i=>rw[g9,aa]at r;obtain⟨t,rfl⟩:=r;exact xy P w _ t
 |inr x=>rw[g9,aa]at r;obtain⟨t,rfl⟩:=r;exact xA P w _ t
theorem yN{kvs:List (Key×D)}{its:List Value}{T:String}{a:Addr}{OK:Heap->Prop}{Q:QK}{R:Value->Shared->Prop}(hc:X.calm=true)(I:ab X τ z)(rs:af X.G z.F (kvs.map fI) its)(hz:its.length<=sizeLine)(hok:OK z.s.heap)(S:oJ X.G.P X.G.w T a its.toArray.size (λi v=>its.toArray[i]?=some v) OK)
  (q:gg (cM kvs) z.M Q) (k:KE X τ z.F Q R):W X (call (.type "dict") [.ref a]) R z.s:=by
 have lt:∀b,z.F b≠none\/z.M b≠none->b<z.s.heap.objs.size:=λb h=>by
  rcases h with h |h
  ·cases e:z.F b with
   |none=>exact absurd e h
   |some f=>exact (I.hok.fz b f e).lt
  ·cases e:z.M b with
   |none=>exact absurd e h
   |some f=>exact (I.hok.ob b f e).2.lt
 have lk:kvs.length=its.length:=by rw[<- rs.len,Y6]
 refine H7 (DK:=λi h=>ay X.G z.F z.M h/\∃vs,KV X.G z.F (cM (kvs.take i)) vs/\h.DictOf (bR X.G.P X.G.w) z.s.heap.objs.size vs) S (I.ok.hd hc) hok ⟨I.hok.keep λb _ o e=>Y7 _ e,[],.nil,Heap.DictOf.new _⟩ (λi h h' it bW x k=>?_) (λA' TH i v s' hi hP hD=>?_) λh' tk hD keep=>?_
 ·obtain⟨ok,vs,rel,o,es,ep,e,rest⟩:=x;exact⟨ok.keep λb hb o e=>k b o (Zw (aaQ (lt b hb) bW)) e,vs,rel,o,es,ep,k _ _ (Zw bW) e,rest⟩
 ·obtain⟨ok,vs,rel,dd⟩:=hD;have e1:its[i]?=some v:=by simpa using hP
  have hi':i<kvs.length:=by rw[lk];exact (List.getElem?_eq_some_iff.mp e1).1
  have jN:kvs[i]?=some kvs[i]:=Y5 hi';obtain⟨u,hu,r1⟩:=rs.get (i:=i) (d:=fI kvs[i]) (by rw[Zr,jN];rfl);rw[e1]at hu;cases hu;rw[fI,aa]at r1;obtain⟨b,o,us,rfl,h1,h2,h3⟩:=r1;obtain⟨Xx,Xy,rfl,q1,q2⟩:=xt h3;obtain⟨n,hd⟩:=h2.data;refine⟨b,o,_,n,Xx,Xy,rfl,ok.fz b _ h1,h2.cls,hd,rfl,λQ E hq=>?_⟩;have hv:vs.length<=sizeLine:=by
   rw[<- Paired.length rel];exact Y9 (sr kvs i) (by lia)
  refine wpAny_dictSet_pairs (hsz:=hv) (Ii q1) dd λh2 f6 sb=>hq _ _ ⟨ok.keep λb hb o e=>sb.extBut b o (Zw (lt b hb)) e,_,?_,f6⟩ sb;rw[yM jN];exact rel.put kvs[i].1 q2
 ·obtain⟨ok,vs,rel,dd⟩:=hD;have ls:its.toArray.size=kvs.length:=by rw[Zb,lk]
  rw[ls,aba]at rel;have hl:(cM kvs).length<=sizeLine:=by
   have:=sr kvs kvs.length;rw[aba]at this;lia
  exact I.au (t:=tk) k Le.rfl rel (λb o e=>keep b o e) (Y8 _) dd hl q
open PySem.W in
theorem Ij(hc:X.calm=true):CB X (.type "dict") sq:=g8 fun τ z Q R d v I r q k=>by
 rcases q with q |q
 ·obtain⟨a,kvs,vs,rfl,l,q⟩:=I.fD r q;refine kt_call_dict l.n l.d (by rw[<- Paired.length l.r];exact l.z) λh' hm hs=>?_;exact I.au (t:=z.s.toks) k Le.rfl l.r (λb o e=>hs.extBut b o (Zw (Zv e)) (Y7 _ e)) (Y8 _) hm l.z q
 ·unfold dF at q;split at q
  ·obtain⟨kvs,rfl,q⟩:=q;obtain⟨a,us,o,rfl,l⟩:=I.fA r;obtain⟨n,hd⟩:=l.t.data;exact yN hc I l.r l.t.len ⟨o,n,l.e,l.t.cls,hd,l.t.dict⟩ H6 q k
  ·obtain⟨a,ds,us,n,rfl,l,kvs,rfl,q⟩:=I.a7 r q;exact yN hc I l.r l.z l.e H5 q k
end
theorem Ik{X:Cx}:OM X "list.extend" r8:=fun τ z Q R d v ds us I rv rs h k=>by
 unfold r8 at h;split at h
 ·obtain⟨u,rfl,ru⟩:=iC rs;obtain⟨a,xs,its,n,rfl,hM,l,h⟩:=I.f' rv h;have hl:=l.r.len;unfold dF at h;split at h
  ·obtain⟨hz,q⟩:=h;obtain⟨b,ge,⟨cls,dd,data,sl⟩,rfl,l2⟩:=I.fA ru;obtain⟨e1,e2,⟨n2,e3⟩,_⟩:=l2.t;have hl2:=l2.r.len;have he:=l2.e;simp only at e1 e3;subst e1 e3;have hsz:its.toArray.size+ge.toArray.size<=sizeLine:=(by rw[Zb,Zb];lia);have su:¬(!its.toArray.isEmpty && aaE (its.toArray.size+ge.toArray.size))=true:=by
    rw[xG hsz,Bool.and_false];exact ZY
   refine call_meets F.slot_list_extend ⟨_,l.e,rfl⟩ F.entry_list_extend (F.args_list_extend_2 _ _) (HC a b its.toArray ge.toArray n n2 dd sl su (by rw[Zb];lia) (by lia)) ⟨l.e,he,?_⟩;exact k .az ⟨z.F,_,_⟩ _ Le.rfl (I.oH (us':=its++ge) hM l.e (by simp) (l.r.app l2.r) (by rw[Zi];lia)) (by rw[aa]) q
  ·obtain⟨b,ys,ge,n2,rfl,l2,hz,q⟩:=I.a7 ru h;have hl2:=l2.r.len;have hsz:its.toArray.size+ge.toArray.size<=sizeLine:=(by rw[Zb,Zb];lia);have su:¬(!its.toArray.isEmpty && aaE (its.toArray.size+ge.toArray.size))=true:=by
    rw[xG hsz,Bool.and_false];exact ZY
   refine call_meets F.slot_list_extend ⟨_,l.e,rfl⟩ F.entry_list_extend (F.args_list_extend_2 _ _) (AutoSeq1.list_extend_list_list_0 a its.toArray n b ge.toArray n2 su (by rw[Zb];lia) (by lia)) ⟨l.e,l2.e,?_⟩;exact k .az ⟨z.F,_,_⟩ _ Le.rfl (I.oH (us':=its++ge) hM l.e (by simp) (l.r.app l2.r) (by rw[Zi];lia)) (by rw[aa]) q
 ·exact h.elim
end N
end
section
set_option maxHeartbeats 1000000
namespace N
open PySem PySem.Spec PyProof.Rows L2
def et(ok:Mp->Prop)(g:G)(tc:DT)(te:DE)(τ:St)(k:List D->Mp->Prop):List D->List D->Mp->Prop
 |[],ys,M=>ok M/\ys.length<sizeLine/\k ys M
 |x::xs,ys,M=>ok M/\ys.length<sizeLine/\cJ g x τ M fun τ1 M0=>tc τ1 M0 λb M1=>if b=true then te τ1 M1 λy M2=>et ok g tc te τ k xs (ys++[y]) M2 else et ok g tc te τ k xs ys M1
noncomputable def dI(n:Nat)(fr:List (Str×Nat))(τ:St):St:=List.replicate n none++fr.map λp=>(τ[p.2]?).join
def sv(n:Nat)(fr:List (Str×Nat))(g:G)(ti:DI)(tc:DT)(te:DE):DE:=fun τ M q=>ti τ M λxs ok M1=>et ok g tc te (dI n fr τ) (λys M2=>cE ys M2 q) xs [] M1
def Il(n:Nat)(fr:List (Str×Nat))(g:G)(ti:DI)(tc:DT)(te:DE)(j:Nat):DS:=λe τ M=>ti τ M λxs ok M1=>et ok g tc te (dI n fr τ) (λys M2=>cE ys M2 λd M3=>e.nx (τ.set j (some d)) M3) xs [] M1
noncomputable def dJ(X:Cx)(scope:Scope)(N':List Str)(cl:List (Str×Addr))(C:Addr):Cx where
 G:=X.G
 A:=X.A
 N:=N'
 os:=X.os
 env:=compEnvC scope cl C X.env
 outer:=X.stk
 stk:=X.stk
 fn:=λ_=>false
 calm:=X.calm
 x:=λ_ _ _=>False
def PF(X:Cx)(bF:List Expr)(t:DT):Prop:=∀ τ z Q R,ab X τ z->t τ z.M Q->KT X τ z.F Q R ->
 W X (forIn bF true λc r=>if r=true then do let ok <- isTrue c X.env (eval c X.env);pure (aaH ok) else pure (aaH r)) R z.s
def oL:DT:=λ_ M q=>q true M
theorem Im{X:Cx}:PF X [] oL:=fun τ z Q R I h k=>wpAny_tests_nil (k true z Le.rfl I h)
theorem Io{X:Cx}{c:Expr}{t:DT}(h:PT X c t):PF X [c] t:=fun τ z Q R I q k=>wpAny_tests_one (h τ z Q R I q k)
noncomputable def G.lt(k:Nat):G->Bool
 |.one i=>decide (i<k)
 |.many is=>is.all λi=>decide (i<k)
theorem yO:∀(is:List Nat)(ds:List D)(τ:St)(k:Nat),(is.all λi=>decide (i<k))=true->(fB is ds τ).length=τ.length/\(fB is ds τ).drop k=τ.drop k
 |[],ds,τ,k,_=>by unfold fB;exact⟨rfl,rfl⟩
 |i::is,[],τ,k,_=>by unfold fB;exact⟨rfl,rfl⟩
 |i::is,d::ds,τ,k,h=>by
  rw[List.all_cons,Zf]at h;obtain⟨h1,h2⟩:=yO is ds (τ.set i (some d)) k h.2;unfold fB;exact⟨h1.trans List.length_set,h2.trans (List.drop_set_of_lt (of_decide_eq_true h.1))⟩
theorem Iq{g:G}{k:Nat}(h:g.lt k=true){x:D}{τ:St}{M:Mp}{Q:St->Mp->Prop}(q:cJ g x τ M Q):cJ g x τ M fun τ2 M2=>Q τ2 M2/\τ2.length=τ.length/\τ2.drop k=τ.drop k:=by
 cases g with
 |one i=>exact⟨q,List.length_set,List.drop_set_of_lt (of_decide_eq_true h)⟩
 |many is=>
  have imp:∀{k k':List D->Prop},(∀ds,k ds->k' ds)->dF x M k->dF x M k':=λ{k k'}f h=>by
   cases x <;> first |exact f _ h |exact h |(obtain⟨ds,h1,h2⟩:=h;exact⟨ds,h1,f _ h2⟩)
  exact imp (λds p=>⟨p.1,p.2,yO is ds τ k h⟩) q
structure iQ(X:Cx)(scope:Scope)(Nt:List Str)(fr:List (Str×Nat)):Prop where
 kind:scope.kind=.function
 cell:∀y∈scope.names,y.2≠.cell
 names:∀y∈scope.names,y.2=.local->scope.names.lookup y.1=some .local
 free:∀y∈scope.names,y.2=.free->X.env.kindOf y.1=some .cell
 fr:∀p∈fr,X.N[p.2]?=some p.1/\scope.names.lookup p.1=some .free
section
variable{X:Cx}{τ:St}{z:Z}{tg bd iter:Expr}{bF:List Expr}{scope:Scope}{pos:Pos}{Nt:List Str}{fr:List (Str×Nat)}{g:G}{tc:DT}{te:DE}{cl:List (Str×Addr)}{C:Addr}
theorem Ir{h1:Heap}{t1:Nat}{m:Str->Option Value}(L:iQ X scope Nt fr)(I:ab X τ z)(cN:∀ x c,cl.lookup x=some c->X.env.cells.lookup x=some c)(mf:∀ y∈scope.names,y.2=.free->∃ c,cl.lookup y.1=some c)
  (hC:z.s.heap.objs.size<=C) (jO:∀b,bk z.s.heap h1 b) (hn:h1.Ns C m):ab (dJ X scope (Nt++fr.map (·.1)) cl C) (dI Nt.length fr τ) ⟨aT z.F (X.aR z.s.heap),z.M,{ z.s with heap:=h1,toks:=t1 }⟩:=by
 have e0:=I.qP;refine⟨⟨I.ok.mod,L.kind,I.ok.eI,I.ok.lF,λx y c e1 e2=>I.ok.inj x y c (cN _ _ e1) (cN _ _ e2),λx U=>?_,I.ok.hd,I.ok.frames,.inl rfl⟩,e0.bs,I.os,I.bare,e0.cp,⟨m,hn,λi x v mi h2 h3=>?_⟩,λx c e=>?_,⟨I.og.cU hC,I.hok.dk hC⟩,I.og.keep λb _=>jO b,?_⟩
 ·have gc:((relabel scope X.env).names.lookup x=some .cell\/(relabel scope X.env).names.lookup x=some .free):=U;rcases gc with q |q
  ·exact mf _ (rW L.cell (.inl rfl) q) rfl
  ·exact mf _ (rW L.cell (.inr rfl) q) rfl
 ·have sw:(Nt++fr.map (·.1))[i]?=some x:=mi;have hi:¬i<Nt.length:=λhi=>by
   unfold dI at h2;rw[ZH (by simpa using hi),List.getElem?_replicate]at h2;split at h2 <;> cases h2
  unfold dI at h2;rw[Zy (by simpa using hi),List.length_replicate,Zr]at h2;rw[Zy (by lia),Zr]at sw;cases e:fr[i-Nt.length]? with
  |none=>rw[e]at h2;cases h2
  |some p=>
   rw[e]at h2 sw;have ex:p.1=x:=ZJ sw;have ev:(τ[p.2]?).join=some v:=ZJ h2;obtain⟨hN,hfr⟩:=L.fr p (Z4 e);have es:τ[p.2]?=some (some v):=by
    cases q:τ[p.2]? with
    |none=>rw[q]at ev;cases ev
    |some o=>rw[q]at ev;exact congrArg some ev
   have hkc:=L.free (p.1,.free) (PySem.mem_of_lookup hfr) rfl;obtain⟨YM,TJ,It⟩:=I.loc;obtain⟨u,ru,lk⟩:=It p.2 p.1 v hN es (.inr (.inl hkc));refine⟨u,ru.up I.dC.d,?_⟩;rcases lk with ⟨kk,_⟩ |⟨_,c,hc,oj⟩
   ·rw[hkc]at kk;cases kk
   ·obtain⟨c',dm⟩:=mf _ (PySem.mem_of_lookup hfr) rfl;have hcc:=cN _ _ dm;rw[hc]at hcc;cases hcc;subst ex;refine .inr ⟨yv hfr,c,dm,?_⟩;obtain⟨o,q1,q2⟩:=oj;exact⟨o,jO _ _ q1,q2⟩
 ·have hc:=cN x c e;obtain⟨⟨v,o,q1,q2⟩,hM,hF⟩:=I.cell x c hc;refine⟨⟨v,o,jO _ _ q1,q2⟩,hM,.inr ⟨rfl,?_⟩⟩;rcases hF with ⟨hf,hF⟩ |⟨hf,o',hF⟩
  ·refine⟨o,dz ?_⟩;unfold Cx.aR;rw[if_neg (I.jx hc),if_pos ⟨x,hf,hc⟩,q1];rfl
  ·exact⟨o',I.dC c _ hF⟩
 ·unfold dI;show _=(Nt++fr.map (·.1)).length;simp
end
end N
end
section
set_option maxHeartbeats 1000000
namespace N
open PySem PySem.Spec PyProof.Rows L2
section
variable{X:Cx}{τ:St}{z:Z}{tg bd iter:Expr}{bF:List Expr}{scope:Scope}{pos:Pos}{Nt:List Str}{fr:List (Str×Nat)}{g:G}{tc:DT}{te:DE}{cl:List (Str×Addr)}
structure yP(X:Cx)(τ:St)(z:Z)(fin:List D->Mp->Prop)(L C:Addr)(z':Z)(ys:List D)(its:List Value)(n:Nat)(m':Str->Option Value):Prop where
 le:Le z.F z'.F
 oM:ab X τ z'
 fl:Fp X z' L
 UJ:Fp X z' C
 ne:L≠C
 ns:z'.s.heap.Ns C m'
 obj:z'.s.heap.get? L=some (bJ its n)
 rel:af X.G z'.F ys its
 sz:its.length<=sizeLine
 fin:fin ys z'.M
theorem mj{a b:Addr}(h:b∈[a]):b=a:=List.mem_singleton.mp h
theorem sC{X:Cx}{τ:St}{z:Z}{b:Addr}{f:Fo}(I:ab X τ z)(h:z.F b=some f):z.M b=none:=by
 cases q:z.M b with
 |none=>rfl
 |some o=>have:=(I.hok.ob b o q).1;rw[h]at this;cases this
theorem yQ{it:Addr}{xs:List D}{ok:Mp->Prop}{fin:List D->Mp->Prop}{E:Value->Shared->Prop}{RR:Value->Addr->Result->Shared->Prop}
  (L:iQ X scope Nt fr) (ml:X.calm=true) (I:ab X τ z) (cN:∀x c,cl.lookup x=some c->X.env.cells.lookup x=some c) (mf:∀y∈scope.names,y.2=.free->∃c,cl.lookup y.1=some c)
  (bW:q5 X tg xs ok z it) (hg:∀C,PG (dJ X scope (Nt++fr.map (·.1)) cl C) tg (cJ g)) (mm:g.lt Nt.length=true) (hc:∀C,PF (dJ X scope (Nt++fr.map (·.1)) cl C) bF tc) (he:∀C,PE (dJ X scope (Nt++fr.map (·.1)) cl C) bd te)
  (w0:et ok g tc te (dI Nt.length fr τ) fin xs [] z.M)
  (Iu:∀A C z' ys its n m',yP X τ z fin A C z' ys its n m'->RR (.ref A) C (.ok .next) z'.s) :
  wpAny (model X.G.P X.G.w) X.A (newList []) (λal s3=>wpAny (model X.G.P X.G.w) X.A (newFunctionEnv scope X.env.globals cl [] X.env.qual none .none (some X.env)) (λyR s4=>
   codeAny (model X.G.P X.G.w) X.A (.compStart (.ListComp bd [⟨tg,iter,bF,0⟩] scope pos) 0 (.ref it) al { yR with scope:=relabel scope X.env }) (RR al yR.locals) s4) E s3) E z.s:=by
 obtain⟨T,t0,f0⟩:=bW;rename_i fp tn;refine Z5 (wpAny_newFunctionEnv L.cell (by intro y hy;simp at hy) (λh1 dK fJ=>?_) L.kind);dsimp only at dK fJ ⊢;generalize sD:z.s.heap.push { cls:=.type "list",dict:=none,data:=.seq ([]:List Value).toArray }=H2 at dK fJ ⊢;have hC:H2.objs.size=z.s.heap.objs.size+1:=by rw[<- sD,ZZ]
 have jO:∀b,bk z.s.heap h1 b:=λb o q=>
  fJ.extBut b o (by rw[hC];exact Zw (aat (Zv q))) (Y7 _ (sD ▸ Y7 _ q))
 have mo:z.s.heap.objs.size≠H2.objs.size:=by rw[hC];exact Zw (aaV _)
 have iR:h1.get? z.s.heap.objs.size=some (bJ [] 0):=fJ.extBut _ _ mo (Y7 _ (sD ▸ Ze _ rfl));have jP:z.s.heap.objs.size<=H2.objs.size:=by rw[hC];exact aag _
 have I0:=Ir (t1:=z.s.toks+([]:List (Str×Value)).length) (C:=H2.objs.size) L I cN mf jP jO dK;have am:tn 0 h1:=T.keep 0 _ _ t0 λb _=>jO b;have a8:∀b∈fp,b<z.s.heap.objs.size:=λb hb=>let ⟨o,q⟩:=T.obj 0 _ t0 b hb;Zv q
 generalize iS:z.s.heap.objs.size=a at mo iR jP a8;generalize H2.objs.size=C at mo dK fJ jP I0;generalize hX:dJ X scope (Nt++fr.map (·.1)) cl C=X' at I0;have Vy:X'.G=X.G:=by subst hX;rfl
 have WB:X'.A=X.A:=by subst hX;rfl
 have YN:X'.env=compEnvC scope cl C X.env:=by subst hX;rfl
 have WC:X'.calm=true:=by subst hX;exact ml
 have oN:PG X' tg (cJ g):=by subst hX;exact hg _
 have dm:PF X' bF tc:=by subst hX;exact hc _
 have Iw:PE X' bd te:=by subst hX;exact he _
 have go:∀{α:Type}{t:Env->Sem α}{R:α->Shared->Prop}{s:Shared},W X' (t X'.env) R s->wpAny (model X.G.P X.G.w) X.A (t (compEnvC scope cl C X.env)) R (λ_ _=>False) s:=λh=>by
  subst hX;exact aa1 h (λ_ _ q=>q) λ_ _ q=>q.no.elim
 have own:∀b,cV X' b->b=C\/cV X b:=λb hb=>by
  subst hX;rcases hb with h |⟨x,h⟩
  ·exact .inl h
  ·exact .inr (.inr ⟨x,cN x b h⟩)
 have oO:∀b∈fp,¬cV X' b:=λb hb o=>by
  rcases own b o with h |h
  ·exact absurd (Zq (a8 b hb) jP) (by rw[h];exact aar _)
  ·exact (f0 b hb).o h
 have sE:¬cV X' a:=λo=>by
  rcases own a o with h |h
  ·exact mo h
  ·exact absurd (I.gX h) (by rw[iS];exact aar _)
 have sF:∀b∈fp,b≠a:=λb hb=>Zw (a8 b hb)
 -- io state TK gh TL
 let J:Nat->Shared->Prop:=λn s'=>∃i ys its c z',z'.s=s'/\Le (aT z.F (X.aR z.s.heap)) z'.F/\ab X' (dI Nt.length fr τ) z'/\af X.G z'.F ys its/\tn i z'.s.heap/\(∀b∈fp,Fp X' z' b)/\Fp X' z' a/\z'.s.heap.get? a=some (bJ its c) /\
  et ok g tc te (dI Nt.length fr τ) fin (xs.drop i) ys z'.M/\n+i=xs.length
 have loop:∀ s3:Shared,s3={ z.s with heap:=h1,toks:=z.s.toks+([]:List (Str×Value)).length } ->
   codeAny (model X.G.P X.G.w) X.A (.compLoop (.ListComp bd [⟨tg,iter,bF,0⟩] scope pos) 0 (.ref it) (.ref a) (compEnvC scope cl C X.env)) (RR (.ref a) C) s3:=by
  rintro s3 rfl;refine HE (P:=λs'=>∃z' ys its n m',z'.s=s'/\yP X τ z fin a C z' ys its n m') (λs' ⟨z',ys,its,n,m',e,q⟩=>e ▸ Iu _ _ z' ys its n m' q) J ?_ xs.length
   ⟨0,[],[],0,⟨aT z.F (X.aR z.s.heap),z.M,_⟩,rfl,Le.rfl,I0,.nil,am,λb hb=>⟨?_,(f0 b hb).m,oO b hb⟩,⟨I.og.cU (Nat.le_of_eq iS),I.hok.dk (Nat.le_of_eq iS),sE⟩,iR,w0,rfl⟩
  ·rintro n s' ⟨i,ys,its,c,z1,rfl,l1,I1,rv,st,Vz,WD,Xz,w,hn⟩;have mq:∀b∈[a],Fp X' z1 b:=λb hb=>(by rw[mj hb];exact WD);obtain⟨lp,Ip⟩:=I1.lN mq;have pA:aM [a] z1.s.heap a=some (.pin (bJ its c)):=gZ (List.mem_singleton.mpr rfl) Xz;have yS:∀b∈fp,Fp X' ⟨aT z1.F (aM [a] z1.s.heap),z1.M,z1.s⟩ b:=λb hb=>⟨(fu (lM λm=>sF b hb (mj m))).trans (Vz b hb).f,(Vz b hb).m,(Vz b hb).o⟩;have lz:Le z.F (aT z1.F (aM [a] z1.s.heap)):=I.dC.tr (l1.tr lp);cases U:xs[i]? with
   |none=>
    have hl:xs.length<=i:=List.getElem?_eq_none_iff.mp U;rw[aaA hl]at w;have A1:=T.done X' Vy WC i _ ⟨aT z1.F (aM [a] z1.s.heap),z1.M,z1.s⟩ (λ_ _=>False) Ip lz yS st w.1 hl;rw[WB]at A1;refine eM A1 λr s1 ⟨hr,I2⟩=>?_;subst hr;obtain⟨l3,I3⟩:=I2.jD (F:=z1.F) (λb hb=>⟨(mq b hb).f,(mq b hb).o⟩) Le.rfl I1.bs I1.cp;have e2:s1.heap.get? a=some (bJ its c):=I2.hok.fz a _ (dz pA);have hL:X'.env.locals=C:=(by subst hX;rfl);obtain⟨m',jK,_⟩:=I3.loc;rw[hL]at jK;have l4:=l1.tr l3;have f8:s1.os=z.s.os:=by have:=I3.os;subst hX;exact this.trans I.os.symm
    have I5:=I.after (z':=⟨aK (aT z1.F (aM [a] z1.s.heap)) (aM [a] z1.s.heap),z1.M,s1⟩) l4 (by rw[<- Vy];exact I3.hok) f8 I3.bare;have Ix:aK (aT z1.F (aM [a] z1.s.heap)) (aM [a] z1.s.heap) a=none:=fv pA;have Iy:aK (aT z1.F (aM [a] z1.s.heap)) (aM [a] z1.s.heap) C=none:=by have:=I3.free.1;rw[hL]at this;exact this
    have Iz:z1.M C=none:=by have:=I3.free.2;rw[hL]at this;exact this
    have no:∀{b:Addr},z.s.heap.objs.size<=b->X.aR z.s.heap b=none:=λ{b}hb=>by
     cases q:X.aR z.s.heap b with
     |none=>rfl
     |some f=>exact absurd (Zq (I.gX (I.fX (h:=z.s.heap) (by rw[q];exact ZK f)).1) hb) (aar _)
    have nO:∀{b:Addr},z.s.heap.objs.size<=b->¬cV X b:=λhb o=>absurd (Zq (I.gX o) hb) (aar _);exact⟨_,ys,its,c,m',rfl,⟨Le.aK (λb e=>(I.fX e).2) l4,I5,⟨(fx (no (Nat.le_of_eq iS))).trans Ix,WD.m,nO (Nat.le_of_eq iS)⟩,⟨(fx (no (iS ▸ jP))).trans Iy,Iz,nO (iS ▸ jP)⟩,mo,jK,e2,
     (rv.up l3.d).up (cn.aK X.qO l4),by rw[<- rv.len];exact aaj w.2.1,w.2.2⟩⟩
   |some d=>
    obtain⟨IA,hd⟩:=List.getElem?_eq_some_iff.mp U;rw[Zz IA,hd]at w;have A1:=T.item X' Vy WC i _ ⟨aT z1.F (aM [a] z1.s.heap),z1.M,z1.s⟩ d (λ_ _=>False) Ip lz yS st w.1 U;rw[WB]at A1;refine eM A1 λr s1 ⟨u,hr,h4⟩=>?_;subst hr;refine eM h4 λ_ s5 h5=>?_;obtain⟨l5,I5,r5,t5,n5⟩:=h5;rename_i F5;have f5:∀b∈fp,Fp X' ⟨F5,z1.M,s5⟩ b:=λb hb=>⟨n5 b hb,(Vz b hb).m,oO b hb⟩;obtain⟨VA,XA⟩:=I5.lN f5
    -- io aR jQ TM iB,io list TN have grown
    have iB:∀{τ7:St}{z7:Z}{gi:List D}{oP:List Value}{c':Nat}{h9:Heap},Le (aT F5 (aM fp s5.heap)) z7.F->ab X' τ7 z7->τ7.length=(dI Nt.length fr τ).length->τ7.drop Nt.length=(dI Nt.length fr τ).drop Nt.length->(∀ b,b≠a->bk z7.s.heap h9 b)->h9.get? a=some (bJ oP c') ->
      (∀F,cn z7.F F->af X.G F gi oP)->et ok g tc te (dI Nt.length fr τ) fin (xs.drop (i+1)) gi z7.M->∃m,m<n/\J m { z7.s with heap:=h9 }:=λ{τ7 z7 gi oP c' h9}l7 I7 len VU kp o9 rel w7=>by
     obtain⟨u1,u2⟩:=I7.jD (fp:=fp) (h:=s5.heap) (F:=F5) (λb hb=>⟨n5 b hb,oO b hb⟩) l7 I5.bs I5.cp;have bX:∀b∈fp,∃o,s5.heap.get? b=some o/\z7.F b=some (.pin o):=λb hb=>by
      obtain⟨o,ho⟩:=T.obj _ _ t5 b hb;exact⟨o,ho,l7 b _ (dz (gZ hb ho))⟩
     have l8:Le (aT z1.F (aM [a] z1.s.heap)) (aK z7.F (aM fp s5.heap)):=l5.tr u1;obtain⟨v1,v2⟩:=u2.jD (fp:=[a]) (h:=z1.s.heap) (F:=z1.F) (λb hb=>⟨(mq b hb).f,(mq b hb).o⟩) l8 I1.bs I1.cp;have g0:=l8 a _ (dz pA);have nM:z7.M a=none:=sC (z:=⟨aK z7.F (aM fp s5.heap),z7.M,z7.s⟩) u2 g0;have nF:aK (aK z7.F (aM fp s5.heap)) (aM [a] z1.s.heap) a=none:=fv pA;have v3:=(v2.turn (t:=z7.s.toks) kp nF nM sE).Fx len.symm λk v q=>by
      have hk:¬k<Nt.length:=λhk=>by
       unfold dI at q;rw[ZH (by simpa using hk),List.getElem?_replicate]at q;split at q <;> cases q
      have y:∀l:St,l[k]?=(l.drop Nt.length)[k-Nt.length]?:=λl=>by
       rw[List.getElem?_drop]
       congr 1
       lia
      rw[y,VU,<- y];exact q
     refine⟨n-1,by lia,i+1,gi,oP,c',⟨_,_,_⟩,rfl,l1.tr v1,v3,rel _ λb o e=>cn.aK jC l8 b o (cn.aK jC l7 b o e),?_,λb hb=>?_,⟨nF,nM,sE⟩,o9,w7,by lia⟩
     ·refine T.keep _ _ _ t5 λb hb o ho=>kp b (sF b hb) o ?_;obtain⟨o',h1,h2⟩:=bX b hb;rw[ho]at h1;cases h1;exact I7.hok.fz b _ h2
     ·obtain⟨o',h1,h2⟩:=bX b hb;refine⟨(fx (lM λm=>sF b hb (mj m))).trans (fv (gZ hb h1)),sC (z:=z7) I7 h2,oO b hb⟩
    refine go (t:=λenv=>assign tg env u) (oN _ ⟨_,z1.M,s5⟩ d u _ _ XA (r5.up VA.d) (Iq mm w.2.2) fun τ6 z6 l6 I6 q6=>?_);obtain⟨q6,yT,yU⟩:=q6;refine go (t:=λenv=>forIn bF true λc r=>if r=true then do let ok <- isTrue c env (eval c env);pure (aaH ok) else pure (aaH r)) (dm τ6 z6 _ _ I6 q6 λIB z7 l7 I7 q7=>?_)
    have yV:∀{τ8:St}{z8:Z},Le (aT F5 (aM fp s5.heap)) z8.F->ab X' τ8 z8->z8.s.heap.get? a=some (bJ its c):=λl8 I8=>I8.hok.fz a _ (l8 a _ (VA a _ (l5 a _ (dz pA))));cases IB with
    |false=>
     rw[if_neg ZY]at q7 ⊢;exact iB (h9:=z7.s.heap) (l6.tr l7) I7 yT yU (λ_ _ _ e=>e) (yV (l6.tr l7) I7) (λF l=>rv.up λb o e=>l b o ((l6.tr l7) b _ (VA b _ (l5 b _ (lp b _ e))))) q7
    |true=>
     rw[if_pos rfl]at q7 ⊢;refine go (t:=λenv=>eval bd env) (Iw τ6 z7 _ _ I7 q7 λy z8 v l8 I8 XB XC=>?_);have l8:=l6.tr (l7.tr l8);refine append_at (hsz:=by rw[Zb,<- rv.len];exact aaj w.2.1) (yV l8 I8) λh9 sb o9=>?_;rw[show its.toArray.push v=(its++[v]).toArray by simp]at o9;exact iB (h9:=h9) l8 I8 yT yU (λb hb o q=>(sb.2 b hb).trans q) o9 (λF l=>(rv.up λb o e=>l b o (l8 b _ (VA b _ (l5 b _ (lp b _ e))))).app (.cons (by rw[<- Vy];exact XB.up l) .nil)) XC
  ·exact (fu (by
    cases q:X.aR z.s.heap b with
    |none=>rfl
    |some f=>exact absurd (I.fX (h:=z.s.heap) (by rw[q];exact ZK f)).1 (f0 b hb).o)).trans (f0 b hb).f
 exact codeAny_compStart_list (loop _ rfl) (T.self X.A 0 _ _ _ am (loop _ rfl))
theorem IC{ti:DI}(L:iQ X scope Nt fr)(ml:X.calm=true)(hi:PI X tg iter ti)(hg:∀ cl C,PG (dJ X scope (Nt++fr.map (·.1)) cl C) tg (cJ g))(mm:g.lt Nt.length=true)
  (hc:∀cl C,PF (dJ X scope (Nt++fr.map (·.1)) cl C) bF tc) (he:∀cl C,PE (dJ X scope (Nt++fr.map (·.1)) cl C) bd te) (hs:∀x,foldedSetIterable iter X.env x=pure x) :
  PE X (.ListComp bd [⟨tg,iter,bF,0⟩] scope pos) (sv Nt.length fr g ti tc te):=fun τ z Q R I h k=>by
 obtain⟨cl,e1,e2,e3⟩:=yu (scope:=scope) (env:=X.env) λy hy hf=>I.ok.has _ (.inl (L.free y hy hf));rw[eval_ListComp];refine wpAny_comprehension_free (use:=none) rfl hs e1 L.kind L.names (hi τ z _ _ I h λxs ok z2 it l2 I2 bW w0=>?_);refine yQ (RR:=λal C r s'=>compPost (model X.G.P X.G.w) X.A (XE X) none R al C r s') L ml I2 e2 e3 bW (hg cl) mm (hc cl) (he cl) w0 λA C z' ys its n m' q=>?_;refine⟨m',q.ns,λh' sb=>?_⟩;have J:=q.oM.turn (t:=z'.s.toks) (h':=h') (λb hb o e=>(sb.2 b hb).trans e) q.UJ.f q.UJ.m q.UJ.o;exact J.yH ⟨q.fl.f,q.fl.m,q.fl.o⟩ k (l2.tr q.le) q.rel ((sb.2 A q.ne).trans q.obj) q.sz q.fin
theorem ID{ti:DI}{y:Str}{j:Nat}{py jR:Pos}(L:iQ X scope Nt fr)(ml:X.calm=true)(hN:iz X [j] [y])(hi:PI X tg iter ti)(hg:∀ cl C,PG (dJ X scope (Nt++fr.map (·.1)) cl C) tg (cJ g))(mm:g.lt Nt.length=true)
  (hc:∀cl C,PF (dJ X scope (Nt++fr.map (·.1)) cl C) bF tc) (he:∀cl C,PE (dJ X scope (Nt++fr.map (·.1)) cl C) bd te) (hs:∀x,foldedSetIterable iter X.env x=pure x)
  (sG:swapsWith (.ListComp bd [⟨tg,iter,bF,0⟩] scope pos) (some (.Name y py)) jR.line X.env=pure true) :
  PS X (.Assign [.Name y py] (.ListComp bd [⟨tg,iter,bF,0⟩] scope pos) jR) (Il Nt.length fr g ti tc te j):=fun τ z e R I h k=>by
 obtain⟨cl,e1,e2,e3⟩:=yu (scope:=scope) (env:=X.env) λy hy hf=>I.ok.has _ (.inl (L.free y hy hf));rw[exec_Assign_Name_used _ _ _ _ sG];refine Y4 (wpAny_standAt (Y4 ?_));show W X (do let _ <- comprehension (.ListComp bd [⟨tg,iter,bF,0⟩] scope pos) scope X.env _ (newList []) false (eval iter X.env) (some (assign (.Name y py) X.env))) _ z.s
 refine Y4 (eM (wpAny_comprehension_free (use:=some (assign (.Name y py) X.env)) (Q:=λ_ s'=>R .next s') rfl hs e1 L.kind L.names (hi τ z _ _ I h λxs ok z2 it l2 I2 bW w0=>?_)) λ_ s' hq=>Y' (Y' hq));refine yQ (RR:=λal C r s'=>compPost (model X.G.P X.G.w) X.A (XE X) (some (assign (.Name y py) X.env)) (λ_ s'=>R .next s') al C r s') L ml I2 e2 e3 bW (hg cl) mm (hc cl) (he cl) w0 λA C z' ys its n m' q=>?_;obtain⟨oC,es,ep,IE,rest⟩:=id q.ns;have VV:∀b∈[C],Fp X z' b:=λb hb=>by rw[mj hb];exact q.UJ
 obtain⟨lp,Ip⟩:=q.oM.lN VV;have pC:aM [C] z'.s.heap C=some (.pin oC):=gZ (List.mem_singleton.mpr rfl) IE;have XD:Fp X ⟨aT z'.F (aM [C] z'.s.heap),z'.M,z'.s⟩ A:=⟨(fu (lM λm=>q.ne (mj m))).trans q.fl.f,q.fl.m,q.fl.o⟩;show W X (assign (.Name y py) X.env (.ref A)) (λ_ s'=>∃m,_/\_) z'.s;refine Ip.yH (R:=λv s'=>W X (assign (.Name y py) X.env v) _ s') XD (λd z3 u l3 I3 r3 q3=>?_) Le.rfl (q.rel.up lp.d) q.obj q.sz q.fin;refine xj hN τ z3 d u (fun τ' M'=>τ'=τ.set j (some d)/\M'=z3.M) _ I3 r3 ⟨rfl,rfl⟩ fun τ4 z4 l4 I4 q4=>?_;have g4:=(l3.tr l4) C _ (dz pC);have h4:z4.s.heap.get? C=some oC:=I4.hok.fz C _ g4;refine⟨m',⟨oC,es,ep,h4,rest⟩,λse sb=>?_⟩;obtain⟨u1,u2⟩:=I4.jD (fp:=[C]) (F:=z'.F) (λb hb=>⟨(VV b hb).f,(VV b hb).o⟩) (l3.tr l4) q.oM.bs q.oM.cp;have I6:=u2.turn (t:=z4.s.toks) (h':=se) (λb hb o e=>(sb.2 b hb).trans e) (fv pC) (sC (z:=z4) I4 g4) q.UJ.o;refine k.nx τ4 ⟨_,_,_⟩ ((l2.tr q.le).tr u1) I6 ?_;rw[q4.1];show e.nx _ z4.M;rw[q4.2];exact q3
end
end N
end
section
set_option maxHeartbeats 1000000
namespace N
open PySem PySem.Spec PyProof.Rows L2
def eU(G:Gx)(k:Nat)(f:Addr)(sp:Sp):Prop:=∃(fd:FuncData)(ps:List Str)(K:PySem.W.Frag),bb G k f fd ps sp/\PySem.W.keepIn K (.ref f)=true/\bS K fd ps []/\∀z:Z,Mod G->Bs G z.F->ay G z.F z.M z.s.heap->K.In z.s.heap
def yW(d:D)(k:Addr->Prop):Prop:=match d with
 |.ref a=>k a
 |_=>False
def yX(ca:Addr->Sp->Prop)(E:XQ)(ta:DE)(t:DA):DE:=fun τ M q=>ta τ M λx M1=>yW x λf=>∃sp,ca f sp/\t τ M1 λds M2=>sp ds M2 q E
section
variable{X:Cx}{x:Str}{pos:Pos}{T:String}
theorem IF{k:Nat}{ca:Addr->Sp->Prop}{E:XQ}{fe e:Expr}{es:List Expr}{ta:DE}{t:DA}(hC:∀ f sp,ca f sp->eU X.G k f sp)(hr:bx k X.A)(U:dW X E)(hf:PE X fe ta)(ha:PA X (e::es) t)
  (dX:starEach (e::es) X.env=(false,eval e X.env)::starEach es X.env) (da:(backTo pos (starEach es X.env)).any (·.1)=false)
  (IG:eval (.Call fe (e::es) [] pos) X.env=(do callWith pos (<- eval fe X.env) [] (backTo pos (starEach (e::es) X.env)) (backToKw pos (keywordEach [] X.env)))) :
  PE X (.Call fe (e::es) [] pos) (yX ca E ta t):=fun τ z Q R I h K=>
 Call_ (hf τ z _ _ I h λd z1 u l1 I1 r1 q1=>by
  unfold yW at q1;split at q1
  ·obtain⟨sp,hc,q1⟩:=q1;rw[aa]at r1;subst r1;obtain⟨fd,ps,K0,F,hk,hb,hi⟩:=hC _ sp hc;exact PySem.W.callWith_K (hi z1 I1.ok.mod I1.bs I1.hok) hk (ha pos τ z1 _ _ I1 q1 λvs z2 us l2 I2 r q=>⟨hi z2 I2.ok.mod I2.bs I2.hok,rK (x:=X.G.ex) (a':=[]) (ds:=[]) F hr hb (λ_ _ _=>.nil) U I2 (I2.bs.x.tr I2.dC) (hi z2 I2.ok.mod I2.bs I2.hok) r (by rw[Zu];exact q) λd z3 u l3=>K d z3 u (l1.tr (l2.tr l3))⟩) dX da
  ·exact q1.elim) IG
theorem jS{G:Gx}{F:Fz}:∀{us:List Value}{ys:List Str},StrsAre us ys->af G F (ys.map D.str) us
 |_,_,.nil=>.nil
 |_,_,.cons x t r=>.cons lJ (jS r)
end
end N
end
section
set_option maxHeartbeats 1000000
namespace N
open PySem PySem.Spec PyProof.Rows L2
open PySem.W (kdu_collect kdl_dict)
def yY:QN:=n1 λx M q=>fD x M λkvs=>∃ss:List Str,kvs.map (·.1)=ss.map aae/\ss.length<64/\∀ys:List Str,ys.Perm ss->sortedS ys=true->cE (ys.map D.str) M q
theorem yZ:∀{al:List Value}{ss:List Str},al.length=ss.length->(∀(i:Nat)(v:Value)(x:Str),al[i]?=some v->ss[i]?=some x->∃t,v=.str x t)->StrsAre al ss
 |[],[],_,_=>.nil
 |[],_::_,h,_=>by cases h
 |_::_,[],h,_=>by cases h
 |v::al,x::ss,h,g=>by
  obtain⟨t,rfl⟩:=g 0 v x rfl rfl;exact .cons x t (yZ (by simpa using h) λi v' XF h1 h2=>g (i+1) v' XF h1 h2)
theorem IH{X:Cx}(hc:X.calm=true):CB X (.builtin "sorted") yY:=g8 fun τ z Q R d v I r q k=>by
 obtain⟨a,kvs,vs,rfl,l,ss,hk,g',q⟩:=I.fD r q;obtain⟨ep,gj⟩:=l.d.dictAt;have hlen:kvs.length=vs.length:=Paired.length l.r;have jT:kvs.length=ss.length:=by have:=congrArg aaI hk;rw[Y6,Y6]at this;exact this
 have z0:=l.z;refine aa' kind_sorted plain_sorted entry_sorted (args_sorted1 _) ?_;unfold Builtin.«sorted»;refine Y4 (m:=checkCount "sorted" 1 1 _) (Y' ?_);refine Y4 (kdu_collect (A:=X.A.in1) (kdl_dict (knd:=bR X.G.P X.G.w) (kvs:=vs) (ep:=ep) l.n) (I.ok.hd hc) gj (by rw[<- hlen];exact z0) λh' tk al keep items=>?_);have hl:al.toList.length=vs.length:=by rw[Zn];exact items.1
 refine Y4 (wpAny_newList ?_ (by rw[hl,<- hlen];exact z0));have hS:StrsAre al.toList ss:=yZ (by rw[hl,<- hlen,jT]) λi v x h1 h2=>by
  obtain⟨c,y,U,II⟩:=items.2 i v (by rw[<- ZS];exact h1);have e1:(vs.map (·.1))[i]?=some c:=by rw[Zr,U];rfl
  rw[<- (md l.r).2,hk,Zr,h2]at e1;have e2:aae x=c:=ZJ e1;subst e2;rcases ed (show gT (aae x) _=true from II) with ⟨i,t,e1,_⟩ |⟨y,t,e1,e2⟩
  ·cases e1
  ·cases e1;exact⟨t,e2⟩
 have dr:(h'.push { cls:=.type "list",data:=.seq al.toList.toArray }).get? h'.objs.size=some (seqObj "list" al.toList.toArray 0):=Ze _ rfl;refine Y4 (ZP (ZW slot_list_sort ⟨_,dr,rfl⟩ entry_list_sort (list_sort_treeK strKind_oneLt dr hS.keysOf (λv₁ v₂ rest e=>keyKind_strs (by rw[<- e];exact hS)) (by rw[hl,<- hlen,jT];exact g') λst' a1 a2=>⟨_,rfl,?_⟩) (args_list_sort _)));obtain⟨ys,b1,b2,b3⟩:=sorted_out_str hS a1 a2;refine Y' ⟨_,rfl,?_⟩;obtain⟨e,sH⟩:=sortedHeap_at (out:=(arrOf st').map (·.2)) dr;have rs:=jS (G:=X.G) (F:=z.F) b1;have J:=I.b8 (t:=tk) keep;refine J.lst (n:=e) (t:=tk) k Le.rfl rs (λb o hb=>?_) (Y8 _) ?_ (by rw[<- rs.len,Y6,b2.length_eq,<- jT];exact z0) (q ys b2 b3)
 ·have a8:b<h'.objs.size:=Zv hb;rw[sortedHeap_old (Zw a8) (by rw[ZZ];exact aat a8)];exact Y7 _ hb
 ·rw[sH];rfl
end N
end
section
namespace L2
open PySem PySem.Spec PyProof.Rows
theorem IJ(t:SetTable)(n:Nat):(t.orStandIn n).led=t.led:=by
 unfold SetTable.orStandIn;split <;> rfl
theorem IK(t:SetTable)(es:Array (Int×Value))(h:Int)(x:Value):(layNew t es h x).2.1.led=t.led:=by
 unfold layNew;split
 ·exact IJ _ _
 ·rfl
theorem y0{y5 IL y6:Nat}{led plain:Bool}{hs:Array Int}{r:SetTable×Array Nat}(h:SetTable.laid y5 IL y6 led plain hs=some r):r.1.led=led/\r.1.plain=plain:=by
 unfold SetTable.laid at h;cases hc:SetTable.layClean y5 hs with
 |none=>rw[hc]at h;cases h
 |some YO=>rw[hc]at h;cases h;exact⟨rfl,rfl⟩
theorem IM(t:SetTable)(es:Array (Int×Value))(n:Nat):(relayAll t es n).2.1.led=t.led:=by
 unfold relayAll;cases hr:t.relaid (es.map (·.1)) n with
 |none=>rfl
 |some r=>
  obtain⟨t',y7⟩:=r;have:=y0 hr;dsimp only;split
  ·exact this.1
  ·rfl
theorem IP(t:SetTable)(es:Array (Int×Value))(n:Nat)(hp:t.plain=false):(relayAll t es n).2.1.plain=false:=by
 unfold relayAll;cases hr:t.relaid (es.map (·.1)) n with
 |none=>rfl
 |some r=>
  obtain⟨t',y7⟩:=r;have:=y0 hr;dsimp only;split
  ·exact this.2.trans hp
  ·rfl
noncomputable def eV:Value->Str
 |.str x _=>x
 |_=>Str.empty
noncomputable def eW(es:List (Int×Value)):List Str:=es.map λe=>eV e.2
def cX(prog:Program)(w:World)(h:Heap)(a:Addr)(zs:List Str):Prop:=
 ∃(es:Array (Int×Value))(ep:Nat)(t:SetTable),h.get? a=some { cls:=.type "set",dict:=none,data:=.set es ep t,slots:=#[] }/\ElemsOf (strKind prog w) es.toList/\t.fits es.size=true /\
  t.led=(!w.params.followText "set-order")/\(t.plain=false\/es=#[])/\es.size<4000/\(eW es.toList).Nodup/\∀x,x∈eW es.toList ↔ x∈zs
theorem cX.at{prog:Program}{w:World}{h h':Heap}{a:Addr}{zs:List Str}(S:cX prog w h a zs)(k:∀o,h.get? a=some o->h'.get? a=some o):cX prog w h' a zs:=by
 obtain⟨es,ep,t,ho,r⟩:=S;exact⟨es,ep,t,k _ ho,r⟩
section
variable{prog:Program}{w:World}{A:Around}{E:Value->Shared->Prop}{s:Shared}{a:Addr}{zs:List Str}
theorem y8{es:List (Int×Value)}(h:ElemsOf (strKind prog w) es){e:Int×Value}(he:e∈es):∃t,e.2=.str (eV e.2) t/\e.1=(strKind prog w).hash (eV e.2):=by
 obtain⟨⟨k,hk,hh⟩,_⟩:=h e he;obtain⟨t,ht⟩:=Value.isStrOf_shape (x:=k) (v:=e.2) hk;have:eV e.2=k:=by rw[ht];rfl
 exact⟨t,by rw[this];exact ht,by rw[this];exact hh⟩
theorem y9{es:List (Int×Value)}(h:ElemsOf (strKind prog w) es)(x:Str):(∃e∈es,(strKind prog w).is x e.2=true) ↔ x∈eW es:=by
 constructor
 ·rintro⟨e,he,U⟩;obtain⟨t,ht⟩:=Value.isStrOf_shape (x:=x) (v:=e.2) U;exact List.mem_map.mpr ⟨e,he,by rw[ht];rfl⟩
 ·intro U;obtain⟨e,he,rfl⟩:=List.mem_map.mp U;obtain⟨t,ht,_⟩:=y8 h he;refine⟨e,he,?_⟩;rw[ht];exact strKind_is _ _ _ _
theorem zc{es jU:Array (Int×Value)}{ep:Nat}{t t':SetTable}{Q:Unit->Shared->Prop}(ho:s.heap.get? a=some { cls:=.type "set",dict:=none,data:=.set es ep t,slots:=#[] })(hz:jU.size<4096)
  (h:∀h',aaN a s.heap h'->h'.get? a=some { cls:=.type "set",dict:=none,data:=.set jU (ep+1) t',slots:=#[] }->Q () { s with heap:=h' }):wpAny (model prog w) A (storeSet a jU t') Q E s:=by
 refine wpAny_storeSet_of (ep:=ep) (t:=t) ho rfl (h _ (aan s.heap a _) ?_) (fits_of_scanBound hz);have:=aaG (Obj.putSet jU t') ho (by rw[putSet_of (ep:=ep) (t:=t) jU t' rfl];rfl);rw[this,putSet_of (ep:=ep) (t:=t) jU t' rfl]
theorem IQ{l l':List Str}{x:Str}(p:List.Perm l' (l++[x]))(nd:l.Nodup)(h:x ∉ l):l'.Nodup:=by
 refine p.nodup_iff.mpr (List.nodup_append.mpr ⟨nd,by simp,λy hy z hz=>?_⟩);rw[List.mem_singleton.mp hz];exact λe=>h (e ▸ hy)
theorem IS{x:Str}{tk:Tok}{Q:Bool->Shared->Prop}(S:cX prog w s.heap a zs)(hl:zs.length<3900)
  (h:∀b h',aaN a s.heap h'->cX prog w h' a (zs++[x])->Q b { s with heap:=h' }):wpAny (model prog w) A (setAddHashed a (.str x tk) ((strKind prog w).hash x)) Q E s:=by
 obtain⟨es,ep,t,ho,fK,hf,jV,da,hsz,nd,hm⟩:=S;have TO:es.size<3950:=by
  have:=List.Nodup.length_le_of_subset nd λy hy=>(hm y).mp hy;rw[eW,Y6,Zn]at this;lia
 have oy:(strKind prog w).is x (.str x tk)=true:=strKind_is _ _ _ _;have eX:(Value.str x tk).scannable=true:=rfl;unfold setAddHashed setAddHashedIn;refine ZP (Y4 (aaa ho rfl hf ?_));dsimp only;rw[byScan_of eX (by show es.size<4096;lia) fK,if_pos rfl];unfold setAddByScan;refine Y4 (Y4 (aaR (Y4 (wpAny_setScan_of oy ho rfl hf fK ?_))));cases hr:List.findIdx? (λe=>(strKind prog w).is x e.2) es.toList with
 |some j=>
  obtain⟨hj,IN,_⟩:=List.findIdx?_eq_some_iff_getElem.mp hr;have U:x∈zs:=(hm x).mp ((y9 fK x).mp ⟨es.toList[j],Z8 hj,IN⟩);refine Y' (Y' ?_);refine h false s.heap (Heap.SameBut.refl a s.heap) ⟨es,ep,t,ho,fK,hf,jV,da,hsz,nd,λy=>?_⟩;rw[hm y,aa5,List.mem_singleton];exact⟨.inl,λz=>z.elim id λe=>e ▸ U⟩
 |none=>
  have U:x ∉ eW es.toList:=λz=>by
   obtain⟨e,he,q⟩:=(y9 fK x).mpr z;have:=List.findIdx?_eq_none_iff.mp hr e he;rw[q]at this;cases this
  have jW:=layNew_perm t es ((strKind prog w).hash x) (.str x tk);have jX:=layNew_fits t es ((strKind prog w).hash x) (.str x tk);have jY:=IK t es ((strKind prog w).hash x) (.str x tk);dsimp only;generalize layNew t es ((strKind prog w).hash x) (.str x tk)=L at jW jX jY ⊢;obtain⟨cY,t1,TP,TQ⟩:=L;dsimp only at jW jX jY ⊢;rw[aas]at jW;have zd:ElemsOf (strKind prog w) cY.toList:=(fK.push oy eX).perm jW;have dY:(eW cY.toList).Perm (eW es.toList++[x]):=by
   have:=jW.map (λe:Int×Value=>eV e.2);rw[Zt]at this;exact this
  have ze:=IQ dY nd U;have oQ:∀y,y∈eW cY.toList ↔ y∈zs++[x]:=λy=>by
   rw[dY.mem_iff,aa5,aa5,hm y]
  have hs1:cY.size=es.size+1:=by
   have:=jW.length_eq;rw[Zi,Zn,Zn]at this;simpa using this
  have WE:∀(b:Bool){s₁:Shared}{Q':Unit->Shared->Prop},Q' () s₁->wpAny (model prog w) A (match b with |true=>rule "set.scan.the-table-gave-way" |false=>pure ()) Q' E s₁:=λb s₁ Q' q=>by
   cases b
   ·exact Y' q
   ·exact aaR q
  refine Y4 (WE _ ?_);cases e:t1.plain
  case' false=>
   rw[if_neg ZY];refine Y4 (Y' ?_);simp only[if_true];have hf2:=jX;have hl2:t1.led=t.led:=jY;have mr:t1.plain=false:=e;clear e jX jY;generalize t1=t2 at hf2 hl2 mr ⊢
  case' true=>
   rw[if_pos rfl,hashByValue_scannable 8 eX];refine Y4 (Y' ?_);simp only[show plainKind (.str x tk)=false from rfl,aam,if_false];have hf2:=SetTable.fits_plain_off jX;have hl2:({ t1 with plain:=false }:SetTable).led=t.led:=jY;have mr:({ t1 with plain:=false }:SetTable).plain=false:=rfl;clear e jX jY;generalize ({ t1 with plain:=false }:SetTable)=t2 at hf2 hl2 mr ⊢
  all_goals
   refine Y4 (zc ho (by lia) λh1 zg zh=>?_);split
   ·have hp:=relayAll_perm t2 cY (SetTable.grown cY.size);have hfr:=relayAll_fits t2 cY (SetTable.grown cY.size);have hlr:=IM t2 cY (SetTable.grown cY.size);have sJ:=IP t2 cY (SetTable.grown cY.size) mr;generalize relayAll t2 cY (SetTable.grown cY.size)=R at hp hfr hlr sJ ⊢;obtain⟨sK,t3,g2⟩:=R;dsimp only at hp hfr hlr sJ ⊢;have hs2:sK.size=cY.size:=(by rw[<- Zn,hp.length_eq,Zn]);have eY:(eW sK.toList).Perm (eW cY.toList):=hp.map _;refine Y4 (WE _ (Y4 (zc (s:={ s with heap:=h1 }) zh (by lia) λh2 IT ho2=>Y' (Y' ?_))));exact h true h2 (zg.trans IT) ⟨sK,_,t3,ho2,zd.perm hp,hfr,by rw[hlr,hl2,jV],.inl sJ,by lia,eY.nodup_iff.mpr ze,λy=>(eY.mem_iff).trans (oQ y)⟩
   ·exact Y' (Y' (h true h1 zg ⟨cY,_,t2,zh,zd,hf2,by rw[hl2,jV],.inl mr,by lia,ze,oQ⟩))
end
end L2
namespace L2
open PySem PySem.Spec PyProof.Rows
theorem zm:∀{vs:List Value}{ss:List Str}{i:Nat}{v:Value},StrsAre vs ss->vs[i]?=some v->∃(x:Str)(t:Tok),ss[i]?=some x/\v=.str x t
 |_,_,i,v,.nil,e=>by simp at e
 |_,_,0,v,.cons x t _,e=>by simp at e;exact⟨x,t,rfl,e.symm⟩
 |_,_,i+1,v,.cons x t r,e=>by
  obtain⟨y,u,h1,h2⟩:=zm (i:=i) r (by simpa using e);exact⟨y,u,by simpa using h1,h2⟩
section
variable{prog:Program}{w:World}{A:Around}{E:Value->Shared->Prop}{s:Shared}
noncomputable def eZ(w:World):Obj:={ cls:=.type "set",dict:=none,data:=.set #[] 0 (.fresh 0 0 (!w.params.followText "set-order")) }
theorem IU{h:Heap}{a:Addr}(e:h.get? a=some (eZ w)):cX prog w h a []:=by
 refine⟨#[],0,_,e,λx U=>?_,by rfl,rfl,.inr rfl,by decide,List.nodup_nil,λx=>Iff.rfl⟩;simp at U
theorem IV(a:Value){Q₁:Value->Shared->Prop}(h:Q₁ (.ref s.heap.objs.size) { s with heap:=s.heap.push (eZ w) }):
  codeAny (model prog w) A (.call (.builtin "set.__new__") ⟨[.type "set",a],[]⟩) (wants Q₁ E) s:=by
 refine codeAny_of_tree ?_;show wpAny _ A.in1 (checkBuiltinCall "set.__new__" ⟨[.type "set",a],[]⟩ >>= λ_=>again (.builtin "set.__new__" ⟨[.type "set",a],[]⟩)) _ _ s;refine Y4 (wpAny_of_eq (F.newCall_set_1 a) (Y' ⟨aaz F.plain_set_new _,aap F.entry_set_new ?_⟩));rw[Z3 F.plain_set_new _];unfold Builtin.«set.__new__» Builtin.Frozenset.newClass;have hsub:=sub_set_self;obtain⟨hp,g,d,tk,os⟩:=s;dsimp only at h ⊢
 wp_walk
 refine wpAny_askSetting (Y' ?_);dsimp only;simp only[newObj];exact Y4 (wpAny_alloc (Y' (Y' h)))
end
end L2
namespace L2
open PySem PySem.Spec PyProof.Rows
theorem oR{ys N:List Str}(h:∀x∈ys,x∈N):∀x,x∈ys ↔ x∈N.filter (λz=>decide (z∈ys)):=λx=>by
 rw[List.mem_filter,decide_eq_true_iff];exact⟨λz=>⟨h x z,z⟩,λz=>z.2⟩
theorem cX.e5{prog:Program}{w:World}{h:Heap}{a:Addr}{zs zs':List Str}(S:cX prog w h a zs)(e:∀x,x∈zs ↔ x∈zs'):cX prog w h a zs':=by
 obtain⟨es,ep,t,ho,r1,r2,r3,r4,r5,WG,r7⟩:=S;exact⟨es,ep,t,ho,r1,r2,r3,r4,r5,WG,λx=>(r7 x).trans (e x)⟩
section
variable{prog:Program}{w:World}{A:Around}{R:Result->Shared->Prop}{I:Addr}{fp wr:List Addr}{G:Array GenState->Array GenState->Prop}{n:Nat}{P:Nat->Value->Prop}{St:Nat->Shared->Prop}
theorem IW(W:WalksS prog w A.in1 I fp wr G n P St)(S:Addr)(hS:S ∉ fp)(zs:List Str)(hn:n=zs.length)(IX:∀ i v,P i v->∃(x:Str)(t:Tok),zs[i]?=some x/\v=.str x t){N:List Str}(hN:N.length<3900)(hb:∀ x∈zs,x∈N):
  ∀(k i:Nat)(s:Shared),n-i=k->i<=n->St i s->cX prog w s.heap S (zs.take i)->(∀s',Moved (S::wr) G s s'->cX prog w s'.heap S zs->R (.ok (.ret .none)) s') ->
   codeAny (model prog w) A (.builtin "set.update.loop" ⟨[.ref S,.ref I],[]⟩) R s:=by
 have hw:S ∉ wr:=λh=>hS (W.sub _ h);have sub:∀b∈wr,b∈S::wr:=λb h=>Zc _ h;intro k
 induction k with
 |zero=>
  intro i s hk hi st hs q;obtain rfl:i=n:=by lia
  refine aap F.entry_set_update_loop ?_;rw[Z3 F.plain_set_update_loop _];show wpAny _ A.in1 (pyNext (.ref I) >>= _) _ _ s;refine Y4 (W.done s _ _ st λs' m=>?_);refine Y' (q s' (m.mono sub) ?_);rw[List.take_of_length_le (by lia)]at hs;exact hs.at λo e=>m.heap S o hw e
 |succ k ih=>
  intro i s hk hi st hs q;have lt:i<n:=by lia
  refine aap F.entry_set_update_loop ?_;rw[Z3 F.plain_set_update_loop _];show wpAny _ A.in1 (pyNext (.ref I) >>= _) _ _ s;refine Y4 (W.item i s _ _ lt st λv s1 hP am m=>?_);obtain⟨x,t,U,rfl⟩:=IX i v hP;have hs1:=hs.at (h':=s1.heap) λo e=>m.heap S o hw e;show wpAny _ A.in1 (holding [Value.str x t] (setAdd S (.str x t)) >>= _) _ _ s1;unfold setAdd;refine Y4 (ZP (ZP (Y4 ((strKind prog w).pyHash (k:=x) (strKind_is _ _ _ _) ?_))));have hsm:=hs1.e5 (oR (ys:=zs.take i) (λx U=>hb x (aah U)));refine IS (s:={ s1 with toks:=s1.toks+1 }) hsm (Zd (List.length_filter_le _ _) hN) λb h' hb' IY=>?_;have hs2:=IY.e5 (zs':=zs.take i++[x]) (λy=>by rw[aa5,aa5,<- oR (ys:=zs.take i) (λx U=>hb x (aah U)) y]);have e2:zs.take i++[x]=zs.take (i+1):=by rw[ZV,U];rfl
  rw[e2]at hs2;refine Y' ⟨aaz F.plain_set_update_loop _,ih (i+1) _ (by lia) lt (W.frame _ s1 _ _ am (aag _) λc hc o e=>?_) hs2 λs2 m2 q2=>?_⟩
  ·rw[hb'.2 c λz:c=S=>hS (z ▸ hc)];exact e
  ·exact q s2 (Moved.trans W.gtrans ((m.mono sub).then_heap (aag _) λc o hc e=>by rw[hb'.2 c λz:c=S=>hc (z ▸ Za)];exact e) m2) q2
end
section
variable{prog:Program}{w:World}{A:Around}{E:Value->Shared->Prop}{s:Shared}
theorem IZ{l:Addr}{its:Array Value}{zs:List Str}{Q:Value->Shared->Prop}(hh:A.handled=none)(hl:s.heap.IsList l its)(hi:StrsAre its.toList zs){N:List Str}(hN:N.length<3900)(hb:∀ x∈zs,x∈N)
  (h:∀(h':Heap)(tk:Nat),cX prog w h' s.heap.objs.size zs->(∀b o,s.heap.get? b=some o->h'.get? b=some o)->Q (.ref s.heap.objs.size) { s with heap:=h',toks:=tk }) :
  wpAny (model prog w) A (call (.type "set") [.ref l]) Q E s:=by
 obtain⟨c,tl,TR⟩:=F.called_set.mro;have made:=F.called_set.made;have sub:=F.called_set.sub;refine wpAny_call (codeAny_of_tree ?_);show wpAny _ _ (callAny (.type "set") _) _ _ _;refine Y' ⟨Code.quiet_builtin _ (by decide +kernel),aap F.entry_type_call ?_⟩;rw[Around.under_plain (weight_type_call_type "set" [.ref l] []) rfl];have g1:=F.called_set.notType;have g2:=F.called_set.canCreate;have g3:=F.typeCall_set_1 (.ref l)
 repeat (any_goals (first |assumption |wp_step))
 refine aaJ (IV (.ref l) (E:=E) (Q₁:=λu s1=>u=.ref s.heap.objs.size/\s1={ s with heap:=s.heap.push (eZ w) }) ⟨rfl,rfl⟩) λr s1 hr=>?_;cases r with
 |error e=>exact hr
 |ok fl=>
  cases fl with
  |ret obj=>
   obtain⟨rfl,rfl⟩:=hr;have hS:(s.heap.push (eZ w)).get? s.heap.objs.size=some (eZ w):=Ze _ rfl;have hT:Shared.TypeIs { s with heap:=s.heap.push (eZ w) } (.ref s.heap.objs.size) "set":=⟨_,hS,rfl⟩;have TU:∀{k:Nat},Shared.TypeIs { s with heap:=s.heap.push (eZ w),toks:=k } (.ref s.heap.objs.size) "set":=⟨_,hS,rfl⟩;have li:=F.called_set.init.lookup;have bi:=F.called_set.init.bind (.ref s.heap.objs.size)
   repeat (any_goals (first |assumption |wp_step))
   refine aaJ (codeAny_call_builtin (R:=wants (λr s2=>r=.none/\∃h' tk,s2={ s with heap:=h',toks:=tk }/\cX prog w h' s.heap.objs.size zs/\(∀b o,s.heap.get? b=some o->h'.get? b=some o)) E) F.called_set.init.plain F.entry_set_init (check_set_init_1 hT ?_)) λr2 s2 sL=>?_
   ·obtain⟨ol,zn,cN,nl,zo⟩:=hl;obtain⟨oc,od,TV,os⟩:=ol;simp only at cN zo;subst cN;subst zo;have I9:(s.heap.push (eZ w)).get? l=some { cls:=.type "list",dict:=od,data:=.seq its nl,slots:=os }:=Y7 _ zn;have e1:=F.sub_list_set;have e2:=F.sub_list_frozenset;have e3:(Value.type "list" == Value.type "dict")=false:=(by decide);have zp:(s.heap.push (eZ w)).IsList l its:=⟨_,I9,rfl,nl,rfl⟩;unfold Builtin.«set.__init__» noKeywords Builtin.Frozenset.updateFrom;generalize Ja:pyIter=PI
    wp_walk
    subst Ja;refine wpAny_pyIter_list zp (Y4 (wpAny_runValue ?_));have WH:l<s.heap.objs.size:=Zv zn;have Jb:A.in1.in1.in1.handled=none:=(by simp [hh]);have WI:l≠(s.heap.push (eZ w)).objs.size:=(by rw[ZZ];exact Zw (aat WH));have XG:s.heap.objs.size ∉ [(s.heap.push (eZ w)).objs.size,l]:=by
     rw[ZZ];simp only[ZN,ZF,or_false,not_or];exact⟨Zw (aaV _),Nat.ne_of_gt WH⟩
    have len:its.size=zs.length:=(by rw[<- Zn];exact hi.length);have val:∀(i:Nat)(v:Value),its[i]?=some v->∃(x:Str)(t:Tok),zs[i]?=some x/\v=.str x t:=λi v e=>zm hi (by rw[ZS];exact e);refine IW ((Walks.list Jb _ l WI its).toS) s.heap.objs.size XG zs len val hN hb (its.size-0) 0 _ (by lia) (Zj _) ⟨⟨_,Ze _ rfl,rfl,rfl⟩,(zp.push _)⟩ ?start ?fin
    case start=>
     rw[List.take_zero];exact IU (Y7 _ hS)
    case fin=>
     intro s' m jZ;obtain⟨h',UZ,d',eR,rU⟩:=s';have UR:UZ=s.gens:=m.gens;have VW:d'=s.drawn:=m.drawn;have UK:rU=s.os:=m.os;subst UR;subst VW;subst UK;refine Y' ?_;show wpAny _ _ (ret aac) _ _ _;refine Y' ⟨rfl,h',eR,rfl,jZ,λb o e=>?_⟩;have lb:=Zv e;refine m.heap b o ?_ (Y7 _ (Y7 _ e));simp only[ZN,ZF,or_false,not_or];exact⟨Zw lb,by rw[ZZ];exact Zw (aat lb)⟩
   ·cases r2 with
    |error e=>exact sL
    |ok f2=>
     cases f2 with
     |ret r=>
      obtain⟨rfl,h',tk,rfl,jZ,k⟩:=sL
      repeat (any_goals (first |assumption |wp_step))
      exact h _ _ jZ k
     |_=>exact sL.elim
  |_=>exact hr.elim
end
end L2
namespace L2
open PySem PySem.Spec PyProof.Rows
theorem hx:Slot "set_iterator" "__next__" "set_iterator.__next__":=.of (owner:="set_iterator") (n:="__next__") (by rw[aaT,aab];kernel_rfl) (by decide +kernel) (by decide +kernel) (by decide +kernel) (by first |exact .inl (by decide +kernel) |exact .inr (by decide +kernel)) (by rw[aa2];kernel_rfl)
theorem zq:Slot "set_iterator" "__iter__" "set_iterator.__iter__":=.of (owner:="set_iterator") (n:="__iter__") (by rw[aaT,aab];kernel_rfl) (by decide +kernel) (by decide +kernel) (by decide +kernel) (by first |exact .inl (by decide +kernel) |exact .inr (by decide +kernel)) (by rw[aa2];kernel_rfl)
theorem zr:entryFor table "set_iterator.__next__"=some Builtin.«set_iterator.__next__»:=entryFor_of_tree (by kernel_rfl)
theorem zt:Manifest.owners.lookup (String.ofList ['r','o','t','a','r','e','t','i','_','t','e','s'].reverse)=some Manifest.sig_set_iterator:=by kernel_rfl
theorem zu(a:Value):argsOk "set_iterator.__next__" ⟨[a],[]⟩:=by
 unfold argsOk;rw[signature?_of (id:="set_iterator.__next__") (n:=['_','_','t','x','e','n','_','_']) (o:=['r','o','t','a','r','e','t','i','_','t','e','s']) (by kernel_rfl) zt];kernel_rfl
theorem Jc:entryFor table "set.__iter__"=some Builtin.«frozenset.__iter__»:=entryFor_alias (id':="frozenset.__iter__") (by kernel_rfl) rfl (by decide +kernel) (by kernel_rfl)
theorem sM{α:Type}:∀(l:List α)(i:Nat)(h:i<l.length),(l[i]::l.eraseIdx i).Perm l
 |x::l,0,_=>.refl _
 |x::l,i+1,h=>by
  have hi:i<l.length:=by simpa using h
  have:=sM l i hi;show (l[i]::x::l.eraseIdx i).Perm (x::l);exact (List.Perm.swap x l[i] _).trans (List.Perm.cons x this)
section
variable{M:Model}{prog:Program}{w:World}{A:Around}{E:Value->Shared->Prop}{s:Shared}
theorem Jd{src:Source}{n:Nat}{Q:Nat->Shared->Prop}(h0:n≠0)(h:∀i d,i<n->Q i { s with drawn:=d }):wpAny M A (choose src n) Q E s:=fun Γ p hΓ=>by
 show Sem.wp M Γ (.choose src n .pure) _ _ p s;rw[Sem.wp_choose];exact⟨h0,h _ _ (Nat.mod_lt _ (by lia))⟩
theorem zv{α:Type}:∀(n:Nat)(xs:List α)(s:Shared)(Q:List α->Shared->Prop),xs.length=n->(∀ys d,ys.Perm xs->Q ys { s with drawn:=d })->wpAny M A (drawOrder n xs) Q E s
 | 0,xs,s,Q,hl,q=>by
  have:xs=[]:=List.length_eq_zero_iff.mp hl;subst this;exact Y' (q [] s.drawn (.refl _))
 |n+1,[],s,Q,hl,q=>by simp at hl
 |n+1,x::xs,s,Q,hl,q=>by
  unfold drawOrder;refine Y4 (Jd (by simp) λi d hi=>?_);rw[Y5 hi];dsimp only;refine Y4 (zv n _ _ _ (by rw[List.length_eraseIdx,if_pos hi];simp at hl ⊢;lia) λys d' p=>Y' (q _ d' ?_));exact (List.Perm.cons _ p).trans (sM _ _ hi)
theorem zw{α:Type}(next:Nat->Nat):∀(fuel k:Nat)(left:List α)(out:Array α),left.length=fuel->(pickOrder.go next fuel k left out).toList.Perm (out.toList++left)
 | 0,k,left,out,hl=>by
  have:left=[]:=List.length_eq_zero_iff.mp hl;subst this;unfold pickOrder.go;simp
 |fuel+1,k,left,out,hl=>by
  have hi:next k % left.length<left.length:=Nat.mod_lt _ (by lia)
  unfold pickOrder.go;rw[Y5 hi];dsimp only;refine (zw next fuel (k+1) _ _ (by rw[List.length_eraseIdx,if_pos hi];lia)).trans ?_
  rw[aas,Zl];exact ZR _ (sM _ _ hi)
theorem sN{α:Type}(next:Nat->Nat)(xs:Array α):(pickOrder next xs).toList.Perm xs.toList:=by
 have:=zw next xs.size 0 xs.toList #[] (by simp)
 simpa [pickOrder] using this
noncomputable def eu(first:Value)(i:Nat)(a:Addr)(n ep:Nat):Obj:={ cls:=.type "set_iterator",data:=.fields #[first,.int i 0,.ref a,.int n 0,.int ep 0] }
theorem zx{α:Type}{Q':α->Shared->Prop}{E':Value->Shared->Prop}(hh:A.handled=none)(h:∀ e h',Shared.TypeIs { s with heap:=h' } e "StopIteration"->(∀ b o,s.heap.get? b=some o->h'.get? b=some o)->E' e { s with heap:=h' }):
  wpAny (model prog w) A.in1 (newExc (.type "StopIteration") [] >>= λe=>(raiseNew e:Sem α)) Q' E' s:=by
 refine Y4 ?_;simp only[newExc,newTuple];refine Y4 (Z5 ?_ (by size_fits));refine Y4 (m:=firstArgMember _ _) (wpAny_of_eq (a:=aac) (by first |rfl |(simp only[firstArgMember];rfl)) (Z5 ?_ (by size_fits)))
 simp only[raiseNew];refine Y4 (wpAny_handled ?_);rw[show A.in1.handled=none from hh];refine Y4 (Y' (wpAny_throw (h (.ref _) _ ⟨_,Ze _ rfl,rfl⟩ λb o e=>Y7 _ (Y7 _ e))))
def fL(h:Heap)(a:Addr)(es:Array (Int×Value))(ep:Nat)(t:SetTable):Prop:=h.get? a=some { cls:=.type "set",dict:=none,data:=.set es ep t,slots:=#[] }/\t.fits es.size=true
theorem sO{a:Addr}{es:Array (Int×Value)}{ep:Nat}{t:SetTable}{Q:Array (Int×Value)->Shared->Prop}(S:fL s.heap a es ep t)(h:Q es s):wpAny (model prog w) A (setEntries a) Q E s:=by
 unfold setEntries;exact Y4 (aaa S.1 rfl S.2 (Y' h))
theorem j0{I:Addr}{vs:Array Value}{k:Nat}{v:Value}{Q:Unit->Shared->Prop}(ho:s.heap.get? I=some { cls:=.type "set_iterator",data:=.fields vs })(hk:k<vs.size)
  (h:∀h',(∀b o,b≠I->s.heap.get? b=some o->h'.get? b=some o)->h'.get? I=some { cls:=.type "set_iterator",data:=.fields (vs.setIfInBounds k v) }->Q () { s with heap:=h' }):wpAny (model prog w) A (setField (.ref I) k v) Q E s:=by
 refine wpAny_setField ho rfl hk (h _ (λb o hb e=>?_) ?_)
 ·exact (aaW _ _ (ZO hb)).trans e
 ·have:=aaG (Obj.mapFields (·.setIfInBounds k v)) ho (Obj.isFreed_of_fields (Obj.data_mapFields rfl _));rw[this];rfl
theorem oS{I a:Addr}{slot i n ep:Nat}{es:Array (Int×Value)}{t:SetTable}{r:Option (Value×Nat)}{Q:Option Value->Shared->Prop}(hh:A.handled=none)(hI:s.heap.get? I=some (eu (.int slot 0) i a n ep))(S:fL s.heap a es ep t)(hn:es.size=n)
  (hr:∀(A':Around)(E':Value->Shared->Prop)(Q':Option (Value×Nat)->Shared->Prop),Q' r s->wpAny (model prog w) A' (setNext a slot i ep) Q' E' s)
  (h:match r with
   |some (x,nx)=>∀h',(∀b o,b≠I->s.heap.get? b=some o->h'.get? b=some o)->h'.get? I=some (eu (.int nx 0) (i+1) a n ep)->Q (some x) { s with heap:=h' }
   |none=>∀h',(∀b o,b≠I->s.heap.get? b=some o->h'.get? b=some o)->Q none { s with heap:=h' }):wpAny (model prog w) A (pyNext (.ref I)) Q E s:=by
 have hT:s.TypeIs (.ref I) "set_iterator":=⟨_,hI,rfl⟩;unfold pyNext;refine Y4 (wpAny_attempt (aay (name:=Str.ofString "__next__") hT hx (ZW hx hT zr ?_ (zu _))));unfold Builtin.«set_iterator.__next__»;refine Y4 (Y' ?_);refine Y4 (wpAny_fieldsOf hI rfl ?_);refine Y4 (sO S ?_);rw[if_neg (by rw[hn];simp)];refine Y4 (hr _ _ _ ?_);have VB:((slot:Int)).toNat=slot:=aau _;cases r with
 |some p=>
  obtain⟨x,nx⟩:=p;dsimp only at h ⊢;refine Y4 (j0 hI (by simp) λh1 k1 i1=>Y4 (j0 (s:={ s with heap:=h1 }) i1 (by simp) λh2 k2 i2=>?_));exact Y' ⟨_,rfl,Y' (h h2 (λb o hb e=>k2 b o hb (k1 b o hb e)) (by rw[i2];simp [eu,rawInt]))⟩
 |none=>
  dsimp only at h ⊢;refine Y4 (j0 hI (by simp) λh1 k1 i1=>?_);refine zx (s:={ s with heap:=h1 }) hh λe h2 mu k2=>?_;refine Y4 (wpAny_isInstance (T:="StopIteration") (b:=true) mu isSubtype_stop ?_);exact Y' (h h2 λb o hb e=>k2 b o (k1 b o hb e))
end
end L2
namespace L2
open PySem PySem.Spec PyProof.Rows PySem.W
section
variable{prog:Program}{w:World}{A:Around}{E:Value->Shared->Prop}{s:Shared}
theorem zy{I a tp:Addr}{i n ep:Nat}{es:Array (Int×Value)}{t:SetTable}{vs:Array Value}{m:Nat}{Q:Option Value->Shared->Prop}(hh:A.handled=none)(hI:s.heap.get? I=some (eu (.ref tp) i a n ep))(S:fL s.heap a es ep t)(hn:es.size=n)
  (hP:s.heap.get? tp=some { cls:=.type "tuple",data:=.seq vs m })
  (h:(∃(j:Nat)(u:Tok)(e:Int×Value),vs[i]?=some (.int j u)/\es[j]?=some e/\∀h',(∀b o,b≠I->s.heap.get? b=some o->h'.get? b=some o)->h'.get? I=some (eu (.ref tp) (i+1) a n ep)->Q (some e.2) { s with heap:=h' }) \/
   (vs[i]?=none/\∀h',(∀b o,b≠I->s.heap.get? b=some o->h'.get? b=some o)->Q none { s with heap:=h' })):wpAny (model prog w) A (pyNext (.ref I)) Q E s:=by
 have hT:s.TypeIs (.ref I) "set_iterator":=⟨_,hI,rfl⟩;unfold pyNext;refine Y4 (wpAny_attempt (aay (name:=Str.ofString "__next__") hT hx (ZW hx hT zr ?_ (zu _))));unfold Builtin.«set_iterator.__next__»;refine Y4 (Y' ?_);refine Y4 (wpAny_fieldsOf hI rfl ?_);refine Y4 (sO S ?_);rw[if_neg (by rw[hn];simp)];dsimp only;refine Y4 (wpAny_seqItems hP rfl ?_);dsimp only;rw[aau];rcases h with ⟨j,u,e,h1,h2,h3⟩ |⟨h1,h2⟩
 ·rw[h1];dsimp only;rw[aau,aau];have XH:∀{R:Value->Shared->Prop}{E':Value->Shared->Prop}{A':Around},R e.2 s->wpAny (model prog w) A' (setNextDrawn a j ep) R E' s:=λ{R E' A'}q=>by
   unfold setNextDrawn;refine Y4 (aaa S.1 rfl S.2 ?_);dsimp only;rw[if_neg (by simp),h2];exact Y4 (Y' (Y' q))
  refine Y4 (XH (Y4 (j0 hI (by simp) λh' k1 i1=>?_)));exact Y' ⟨_,rfl,Y' (h3 h' k1 (by rw[i1];simp [eu,rawInt]))⟩
 ·rw[h1];dsimp only;refine Y4 (j0 hI (by simp) λh3 k3 VX=>Y4 (j0 (s:={ s with heap:=h3 }) VX (by simp) λh4 k4 YQ=>?_));refine zx (s:={ s with heap:=h4 }) hh λe h5 mu k5=>?_;refine Y4 (wpAny_isInstance (T:="StopIteration") (b:=true) mu isSubtype_stop ?_);exact Y' (h2 h5 λb o hb e=>k5 b o (k4 b o hb (k3 b o hb e)))
theorem iT{Q:Bool->Shared->Prop}(h:Q (w.params.followText "set-order") s):wpAny (model prog w) A setsByText Q E s:=by
 unfold setsByText;exact Y4 (wpAny_askSetting (Y' h))
theorem sP{I:Addr}{o:Obj}{Q:Value->Shared->Prop}(hI:s.heap.get? I=some o)(hc:o.cls=.type "set_iterator")(h:Q (.ref I) s):wpAny (model prog w) A (pyIter (.ref I)) Q E s:=by
 have hT:s.TypeIs (.ref I) "set_iterator":=⟨_,hI,hc⟩;have dM:entryFor table "set_iterator.__iter__"=some Builtin.«dict_keyiterator.__iter__»:=entryFor_alias (id':="dict_keyiterator.__iter__") (by kernel_rfl) rfl (by decide +kernel) (by kernel_rfl);have arg:argsOk "set_iterator.__iter__" ⟨[.ref I],[]⟩:=by
  unfold argsOk;rw[signature?_of (id:="set_iterator.__iter__") (n:=['_','_','r','e','t','i','_','_']) (o:=['r','o','t','a','r','e','t','i','_','t','e','s']) (by kernel_rfl) zt];kernel_rfl
 refine wpAny_pyIter_slot hT zq (ZW zq hT dM ?_ arg);unfold Builtin.«dict_keyiterator.__iter__»;refine Y4 (Y' ?_);exact Y' ⟨_,rfl,"set_iterator",_,hT,hx.lookup,h⟩
theorem Je{I a:Addr}(gm:a≠I){es:Array (Int×Value)}{ep:Nat}{t:SetTable}(bt:w.params.followText "set-order"=true)(hh:A.handled=none):
  WalksS prog w A I [I,a] [I] (λx y=>y=x) es.size (λi v=>((pickOrder (w.params.setOrder a ep) es).toList.map (·.2))[i]?=some v) (λi s=>s.heap.get? I=some (eu (.int 0 0) i a es.size ep)/\fL s.heap a es ep t) where
 sub:=λb hb=>by simp at hb;simp [hb]
 grefl:=λ_=>rfl
 gtrans:=λ_ _ _ h1 h2=>h2.trans h1
 frame:=λi s h' tk st _ k=>⟨k I (by simp) _ st.1,k a (by simp) _ st.2.1,st.2.2⟩
 item:=λi s Q E hi st q=>by
  have hs:(pickOrder (w.params.setOrder a ep) es).toList.length=es.size:=by rw[(sN _ es).length_eq,Zn]
  have hi':i<(pickOrder (w.params.setOrder a ep) es).toList.length:=by lia
  have U:(pickOrder (w.params.setOrder a ep) es)[i]?=some ((pickOrder (w.params.setOrder a ep) es).toList[i]):=by rw[<- ZS];exact Y5 hi'
  refine oS (slot:=0) (r:=some (((pickOrder (w.params.setOrder a ep) es).toList[i]).2,0)) hh st.1 st.2 rfl (λA' E' Q' q'=>?_) λh' k hI=>?_
  ·unfold setNext;refine Y4 (aaa st.2.1 rfl st.2.2 (Y4 (iT ?_)));rw[bt,if_pos rfl,if_neg (by simp)];unfold setWalk;refine Y4 (Y4 (aaa st.2.1 rfl st.2.2 (Y4 (iT ?_))));rw[bt,if_pos rfl];refine Y4 (wpAny_askSetting (Y' (Y' ?_)));show Q' (((pickOrder (w.params.setOrder a ep) es)[i]?).map λe=>(e.2,0)) s;rw[U];exact q'
  ·refine q _ _ ?_ ⟨hI,k a _ gm st.2.1,st.2.2⟩ ⟨λb o hb e=>k b o (λz=>hb (by simp [z])) e,rfl,rfl,rfl,Y8 _⟩;rw[Zr,Y5 hi'];rfl
 done:=λs Q E st q=>by
  have hs:(pickOrder (w.params.setOrder a ep) es).toList.length=es.size:=by rw[(sN _ es).length_eq,Zn]
  have U:(pickOrder (w.params.setOrder a ep) es)[es.size]?=none:=by rw[<- ZS];exact List.getElem?_eq_none (by lia)
  refine oS (slot:=0) (r:=none) hh st.1 st.2 rfl (λA' E' Q' q'=>?_) λh' k=>q _ ⟨λb o hb e=>k b o (λz=>hb (by simp [z])) e,rfl,rfl,rfl,Y8 _⟩;unfold setNext;refine Y4 (aaa st.2.1 rfl st.2.2 (Y4 (iT ?_)));rw[bt,if_pos rfl,if_neg (by simp)];unfold setWalk;refine Y4 (Y4 (aaa st.2.1 rfl st.2.2 (Y4 (iT ?_))));rw[bt,if_pos rfl];refine Y4 (wpAny_askSetting (Y' (Y' ?_)));show Q' (((pickOrder (w.params.setOrder a ep) es)[es.size]?).map λe=>(e.2,0)) s;rw[U];exact q'
 self:=λi s Q E st q=>sP st.1 rfl q
theorem Jf{I a:Addr}(gm:a≠I){es:Array (Int×Value)}{ep:Nat}{t:SetTable}(bt:w.params.followText "set-order"=false)(led:t.led=true)(h1:es.size<=1)(hh:A.handled=none):
  WalksS prog w A I [I,a] [I] (λx y=>y=x) es.size (λi v=>(es.toList.map (·.2))[i]?=some v) (λi s=>s.heap.get? I=some (eu (.int (if i=0 then 0 else t.place.getD 0 0+1:Nat) 0) i a es.size ep)/\fL s.heap a es ep t) where
 sub:=λb hb=>by simp at hb;simp [hb]
 grefl:=λ_=>rfl
 gtrans:=λ_ _ _ h1 h2=>h2.trans h1
 frame:=λi s h' tk st _ k=>⟨k I (by simp) _ st.1,k a (by simp) _ st.2.1,st.2.2⟩
 item:=λi s Q E hi st q=>by
  obtain rfl:i=0:=by lia
  have hz:es.size=1:=by lia
  have hp:t.place.size=1:=by
   have:=st.2.2;simp only[SetTable.fits,Zf,beq_iff_eq]at this;lia
  have sQ:(!t.plain && decide (es.size > 1))=false:=by rw[hz];simp
  refine oS (slot:=0) (r:=some ((es[0]'(by lia)).2,t.place.getD 0 0+1)) hh (by simpa using st.1) st.2 rfl (λA' E' Q' q'=>?_) λh' k hI=>?_
  ·unfold setNext;refine Y4 (aaa st.2.1 rfl st.2.2 (Y4 (iT ?_)));rw[bt,if_neg ZY];dsimp only;refine aaS (λz=>absurd (sQ.symm.trans (show (!t.plain && decide (es.size > 1))=true from z)) ZY) (λ_=>?_);refine Y4 ?_;show wpAny _ _ (if (!t.led && !es.isEmpty)=true then _ else pure PUnit.unit) _ _ s
   rw[led,if_neg (by simp)];refine Y' (Y' ?_);have eb:SetTable.below t.place 0=0:=by
    unfold SetTable.below;rw[hp];simp [SetTable.below.go]
   rw[eb,Zp (show 0<es.size by lia),Zp (show 0<t.place.size by lia)];have UR:t.place.getD 0 0=t.place[0]'(by lia):=(by rw[aav,Zp (show 0<t.place.size by lia)];rfl);rw[UR]at q';exact q'
  ·refine q _ _ ?_ ⟨by rw[if_neg (by lia)];exact hI,k a _ gm st.2.1,st.2.2⟩ ⟨λb o hb e=>k b o (λz=>hb (by simp [z])) e,rfl,rfl,rfl,Y8 _⟩;rw[Zr,ZS,Zp (show 0<es.size by lia)];rfl
 done:=λs Q E st q=>by
  have hp:t.place.size=es.size:=by
   have:=st.2.2;simp only[SetTable.fits,Zf,beq_iff_eq]at this;lia
  have sQ:(!t.plain && decide (es.size > 1))=false:=by simp;lia
  refine oS (r:=none) hh st.1 st.2 rfl (λA' E' Q' q'=>?_) λh' k=>q _ ⟨λb o hb e=>k b o (λz=>hb (by simp [z])) e,rfl,rfl,rfl,Y8 _⟩;unfold setNext;refine Y4 (aaa st.2.1 rfl st.2.2 (Y4 (iT ?_)));rw[bt,if_neg ZY];dsimp only;refine aaS (λz=>absurd (sQ.symm.trans (show (!t.plain && decide (es.size > 1))=true from z)) ZY) (λ_=>?_);refine Y4 ?_;show wpAny _ _ (if (!t.led && !es.isEmpty)=true then _ else pure PUnit.unit) _ _ s
  rw[led,if_neg (by simp)];refine Y' (Y' ?_);have eb:SetTable.below t.place (if es.size=0 then 0 else t.place.getD 0 0+1)=es.size:=by
   rcases Nat.lt_or_ge es.size 1 with hz |hz
   ·have z0:es.size=0:=(by lia);unfold SetTable.below;rw[hp,z0];simp [SetTable.below.go]
   ·have z1:es.size=1:=(by lia);have UR:∀d,t.place.getD 0 d=t.place[0]'(by lia):=λd=>(by rw[aav,Zp (show 0<t.place.size by lia)];rfl);unfold SetTable.below;rw[hp,z1];simp [SetTable.below.go,UR]
  rw[eb,Array.getElem?_eq_none (Y8 _)];exact q'
 self:=λi s Q E st q=>sP st.1 rfl q
theorem Jg{I a tp:Addr}(gm:a≠I)(Jh:tp≠I){es:Array (Int×Value)}{ep m:Nat}{t:SetTable}{ps:List Nat}(hp:ps.Perm (ZL es.size))(hh:A.handled=none):
  WalksS prog w A I [I,a,tp] [I] (λx y=>y=x) es.size (λi v=>(ps.map λj=>(es.getD j (0,.none)).2)[i]?=some v)
   (λi s=>s.heap.get? I=some (eu (.ref tp) i a es.size ep)/\fL s.heap a es ep t/\s.heap.get? tp=some { cls:=.type "tuple",data:=.seq (ps.map λi=>rawInt (i:Nat)).toArray m }) where
 sub:=λb hb=>by simp at hb;simp [hb]
 grefl:=λ_=>rfl
 gtrans:=λ_ _ _ h1 h2=>h2.trans h1
 frame:=λi s h' tk st _ k=>⟨k I (by simp) _ st.1,⟨k a (by simp) _ st.2.1.1,st.2.1.2⟩,k tp (by simp) _ st.2.2⟩
 item:=λi s Q E hi st q=>by
  have hl:ps.length=es.size:=by rw[hp.length_eq,Z1]
  have hi':i<ps.length:=by lia
  have hj:ps[i]<es.size:=List.mem_range.mp (hp.mem_iff.mp (Z8 hi'));refine zy hh st.1 st.2.1 rfl st.2.2 (.inl ⟨ps[i],0,es[ps[i]],?_,Zp hj,λh' k hI=>?_⟩)
  ·simp [Y5 hi',rawInt]
  ·refine q _ _ ?_ ⟨hI,⟨k a _ gm st.2.1.1,st.2.1.2⟩,k tp _ Jh st.2.2⟩ ⟨λb o hb e=>k b o (λz=>hb (by simp [z])) e,rfl,rfl,rfl,Y8 _⟩;rw[Zr,Y5 hi'];simp [aav,Zp hj]
 done:=λs Q E st q=>by
  have hl:ps.length=es.size:=by rw[hp.length_eq,Z1]
  refine zy hh st.1 st.2.1 rfl st.2.2 (.inr ⟨?_,λh' k=>q _ ⟨λb o hb e=>k b o (λz=>hb (by simp [z])) e,rfl,rfl,rfl,Y8 _⟩⟩);simp [hl]
 self:=λi s Q E st q=>sP st.1 rfl q
end
end L2
namespace L2
open PySem PySem.Spec PyProof.Rows PySem.W
section
variable{prog:Program}{w:World}{A:Around}{E:Value->Shared->Prop}{s:Shared}
theorem Ji{a:Addr}{zs:List Str}{Q:Value->Shared->Prop}(S:cX prog w s.heap a zs)
  (h:∀(I:Addr)(h':Heap)(d:Drawn)(fp:List Addr)(St:Nat->Shared->Prop)(os:List Value),(∀b o,s.heap.get? b=some o->h'.get? b=some o)->(∀b∈fp,s.heap.objs.size<=b\/b=a)->s.heap.objs.size<=I ->
   (∃ys:List Str,StrsAre os ys/\ys.Nodup/\∀x,x∈ys ↔ x∈zs)->(∀A':Around,A'.handled=none->WalksS prog w A' I fp [I] (λx y=>y=x) os.length (λi v=>os[i]?=some v) St)->(∀tk,St 0 { s with heap:=h',drawn:=d,toks:=tk })->Q (.ref I) { s with heap:=h',drawn:=d }) :
  wpAny (model prog w) A (pyIter (.ref a)) Q E s:=by
 obtain⟨es,ep,t,ho,fK,hf,jV,da,hsz,nd,hm⟩:=S;have hT:s.TypeIs (.ref a) "set":=⟨_,ho,rfl⟩;have S0:fL s.heap a es ep t:=⟨ho,hf⟩;have la:a<s.heap.objs.size:=Zv ho;have iU:∀os:List Value,os.Perm (es.toList.map (·.2))->∃ys:List Str,StrsAre os ys/\ys.Nodup/\∀x,x∈ys ↔ x∈zs:=λos p=>by
  have all:∀v∈os,∃u,v=.str (eV v) u:=λv hv=>by
   obtain⟨e,he,rfl⟩:=List.mem_map.mp (p.mem_iff.mp hv);obtain⟨u,h1,_⟩:=y8 fK he;exact⟨u,h1⟩
  have jQ:∀l:List Value,(∀v∈l,∃u,v=.str (eV v) u)->StrsAre l (l.map eV):=by
   intro l
   induction l with
   |nil=>intro _;exact .nil
   |cons v l ih=>
    intro hv;obtain⟨u,e⟩:=hv v Za;have:=ih λx U=>hv x (Zc _ U);rw[Zh];rw[e];exact .cons _ u this
  have pp:(os.map eV).Perm (eW es.toList):=by
   have:=p.map eV;rw[Z6]at this;exact this
  exact⟨os.map eV,jQ os all,pp.nodup_iff.mpr nd,λx=>(pp.mem_iff).trans (hm x)⟩
 refine wpAny_pyIter_slot hT F.slot_set_iter (ZW F.slot_set_iter hT Jc ?_ (F.args_set_iter_1 _));unfold Builtin.«frozenset.__iter__» Builtin.Frozenset.slot0;refine Y4 (Y' ?_);unfold Builtin.Frozenset.sizeOf;refine Y4 (Y4 (sO S0 (Y' ?_)));unfold setDrawn;refine Y4 (Y4 (aaa S0.1 rfl S0.2 (Y4 (iT (Y' ?_)))));have zB:a≠s.heap.objs.size:=Zw la;cases bt:w.params.followText "set-order" with
 |true=>
  refine aaS (λz=>absurd z (by simp)) (λ_=>?_);refine Y4 (Y' ?_);refine Y4 (wpAny_setEpoch_of S0.1 rfl S0.2 ?_);unfold newFields;refine Y4 (Z5 (Y' ⟨_,rfl,"set_iterator",_,⟨_,Ze _ rfl,rfl⟩,hx.lookup,?_⟩) (by size_fits));have pp:=(sN (w.params.setOrder a ep) es).map (·.2);have ol:((pickOrder (w.params.setOrder a ep) es).toList.map (·.2)).length=es.size:=by rw[pp.length_eq];simp
  refine h s.heap.objs.size _ s.drawn [s.heap.objs.size,a] (λi s'=>s'.heap.get? s.heap.objs.size=some (eu (.int 0 0) i a es.size ep)/\fL s'.heap a es ep t) ((pickOrder (w.params.setOrder a ep) es).toList.map (·.2)) (λb o e=>Y7 _ e) (λb hb=>?_) (Y8 _) (iU _ pp) (λA' hA=>by rw[ol];exact Je zB (t:=t) bt hA) (λtk=>⟨Ze _ rfl,Y7 _ S0.1,S0.2⟩);simp at hb;rcases hb with rfl |rfl
  ·exact .inl (Y8 _)
  ·exact .inr rfl
 |false=>
  rw[bt]at jV;rcases Nat.lt_or_ge 1 es.size with h2 |h1
  ·have pl:t.plain=false:=by
    rcases da with z |z
    ·exact z
    ·rw[z]at h2;simp at h2
   refine aaS (λ_=>?_) (λz=>absurd (show (!false && (!t.plain && decide (es.size > 1)))=true by rw[pl];simp;lia) z);refine Y4 (zv es.size (ZL es.size) s _ (by simp) λps d hp=>?_);refine Y4 (wpAny_newTuple ?_ (by rw[Y6,hp.length_eq,Z1];exact fits_of_scanBound (by show es.size<4096;lia)));have o1:∀{o:Obj}{b:Addr},s.heap.get? b=some o->(s.heap.push { cls:=.type "tuple",data:=.seq (ps.map λ(i:Nat)=>rawInt i).toArray }).get? b=some o:=λe=>Y7 _ e;refine Y4 (wpAny_setEpoch_of (o1 S0.1) rfl S0.2 ?_);unfold newFields;refine Y4 (Z5 (Y' ⟨_,rfl,"set_iterator",_,⟨_,Ze _ rfl,rfl⟩,hx.lookup,?_⟩) (by size_fits));have hl:ps.length=es.size:=(by rw[hp.length_eq,Z1]);have pp:(ps.map λj=>(es.getD j (0,.none)).2).Perm (es.toList.map (·.2)):=by
    refine (hp.map _).trans ?_;have e:(ZL es.size).map (λj=>(es.getD j (0,.none)).2)=es.toList.map (·.2):=by
     refine List.ext_getElem? λi=>?_;rw[Zr,Zr];by_cases hi:i<es.size
     ·have a1:(ZL es.size)[i]?=some i:=(by simp [hi]);have a2:es.toList[i]?=some es[i]:=(by simp [hi]);rw[a1,a2];simp [aav,Zp hi]
     ·have a1:(ZL es.size)[i]?=none:=(by simp;lia);have a2:es.toList[i]?=none:=(by simp;lia);rw[a1,a2];rfl
    rw[e]
   have gn:(s.heap.push { cls:=.type "tuple",data:=.seq (ps.map λ(i:Nat)=>rawInt i).toArray }).objs.size=s.heap.objs.size+1:=ZZ _ _;have n1:a≠(s.heap.push { cls:=.type "tuple",data:=.seq (ps.map λ(i:Nat)=>rawInt i).toArray }).objs.size:=(by rw[gn];exact Zw (aat la));have n2:s.heap.objs.size≠(s.heap.push { cls:=.type "tuple",data:=.seq (ps.map λ(i:Nat)=>rawInt i).toArray }).objs.size:=(by rw[gn];exact Zw (aaV _));refine h (s.heap.push { cls:=.type "tuple",data:=.seq (ps.map λ(i:Nat)=>rawInt i).toArray }).objs.size _ d [(s.heap.push { cls:=.type "tuple",data:=.seq (ps.map λ(i:Nat)=>rawInt i).toArray }).objs.size,a,s.heap.objs.size]
    (λi s'=>s'.heap.get? (s.heap.push { cls:=.type "tuple",data:=.seq (ps.map λ(i:Nat)=>rawInt i).toArray }).objs.size=some (eu (.ref s.heap.objs.size) i a es.size ep)/\fL s'.heap a es ep t/\s'.heap.get? s.heap.objs.size=some { cls:=.type "tuple",data:=.seq (ps.map λi=>rawInt (i:Nat)).toArray 0 })
    (ps.map λj=>(es.getD j (0,.none)).2) (λb o e=>Y7 _ (o1 e)) (λb hb=>?_) (by rw[gn];exact aag _) (iU _ pp) (λA' hA=>by rw[Y6,hl];exact Jg (m:=0) n1 n2 (t:=t) (ep:=ep) hp hA) (λtk=>⟨Ze _ rfl,⟨Y7 _ (o1 S0.1),S0.2⟩,Y7 _ (Ze _ rfl)⟩)
   simp only[ZN,ZF,or_false]at hb;rcases hb with rfl |rfl |rfl
   ·exact .inl (by rw[gn];exact aag _)
   ·exact .inr rfl
   ·exact .inl (Y8 _)
  ·refine aaS (λz=>absurd (show (!false && (!t.plain && decide (es.size > 1)))=true from z) (by simp;lia)) (λ_=>?_);refine Y4 (Y' ?_);refine Y4 (wpAny_setEpoch_of S0.1 rfl S0.2 ?_);unfold newFields;refine Y4 (Z5 (Y' ⟨_,rfl,"set_iterator",_,⟨_,Ze _ rfl,rfl⟩,hx.lookup,?_⟩) (by size_fits));have ol:(es.toList.map (·.2)).length=es.size:=(by simp);refine h s.heap.objs.size _ s.drawn [s.heap.objs.size,a] (λi s'=>s'.heap.get? s.heap.objs.size=some (eu (.int (if i=0 then 0 else t.place.getD 0 0+1:Nat) 0) i a es.size ep)/\fL s'.heap a es ep t) (es.toList.map (·.2)) (λb o e=>Y7 _ e) (λb hb=>?_) (Y8 _) (iU _ (.refl _)) (λA' hA=>by rw[ol];exact Jf zB (t:=t) bt (by simpa using jV) h1 hA) (λtk=>⟨Ze _ rfl,Y7 _ S0.1,S0.2⟩)
   simp at hb;rcases hb with rfl |rfl
   ·exact .inl (Y8 _)
   ·exact .inr rfl
theorem Jj{r:Addr}{Q:Bool->Shared->Prop}(hT:s.TypeIs (.ref r) "set")(h:Q false s):wpAny (model prog w) A (Builtin.List.listLengthHint (.ref r)) Q E s:=by
 unfold Builtin.List.listLengthHint;refine Y4 (wpAny_specialOf hT PySem.F.slot_set_len.lookup ?_);generalize zD:("set.__len__" : String)=Jk
 wp_delta
 rw[show splitId Jk=some ("set","__len__") from by subst zD;decide +kernel];subst zD;refine Y4 (wpAny_isInstance (T:="set") (b:=true) hT (by rw[aa2];kernel_rfl) ?_);refine aaS (λz=>absurd z (by decide)) (λ_=>aaS (λ_=>Y4 (wpAny_typeOf hT (Y' h))) (λz=>absurd (by decide +kernel) z))
theorem Jl{a : Addr}{zs : List Str}{R : List Value -> Shared -> Prop}(hh : A.handled = none)(S : cX prog w s.heap a zs)(hz : zs.length < 3900)
    (h:∀(h':Heap)(tk:Nat)(d:Drawn)(os:List Value)(ys:List Str),(∀b o,s.heap.get? b=some o->h'.get? b=some o)->StrsAre os ys->ys.Nodup->(∀x,x∈ys ↔ x∈zs)->R os { s with heap:=h',toks:=tk,drawn:=d }) :
    wpAny (model prog w) A (collect (.ref a)) R E s:=by
  have la:a<s.heap.objs.size:=let ⟨_,_,_,ho,_⟩:=S;Zv ho
  unfold collect;refine Y4 (wpAny_runValue (aap entry_proto_collect' ?_));rw[Z3 PySem.F.plain_proto_collect _];show wpAny _ A.in1 (newList [] >>= λu=>again (.builtin "list.__iadd__" ⟨[u,.ref a],[]⟩)) _ _ s;refine Y4 (Z5 (Y' ⟨aaz PySem.F.plain_list_iadd _,aap entry_list_iadd' ?_⟩));rw[Z3 PySem.F.plain_list_iadd _];have hL:(s.heap.push { cls:=.type "list",data:=.seq ([]:List Value).toArray }).get? s.heap.objs.size=some { cls:=.type "list",data:=.seq #[] }:=Ze _ rfl;have S1:cX prog w (s.heap.push { cls:=.type "list",data:=.seq ([]:List Value).toArray }) a zs:=S.at λo e=>Y7 _ e;have hT:Shared.TypeIs { s with heap:=s.heap.push { cls:=.type "list",data:=.seq ([]:List Value).toArray } } (.ref a) "set":=let ⟨_,_,_,ho,_⟩:=S1;⟨_,ho,rfl⟩
  have gn:(s.heap.push { cls:=.type "list",data:=.seq ([]:List Value).toArray }).objs.size=s.heap.objs.size+1:=ZZ _ _;have WJ:∀b o,s.heap.get? b=some o->(s.heap.push { cls:=.type "list",data:=.seq ([]:List Value).toArray }).get? b=some o:=λb o e=>Y7 _ e;show wpAny _ A.in1 (Builtin.List.listExtendWith (.ref s.heap.objs.size) (.ref a) (.ref s.heap.objs.size)) _ _ _;generalize s.heap.push { cls:=.type "list",data:=.seq ([]:List Value).toArray }=g1 at hL S1 hT gn WJ ⊢;have zG:s.heap.objs.size≠a:=Nat.ne_of_gt la;unfold Builtin.List.listExtendWith;refine Y4 (wpAny_typeOf (T:="set") hT ?_);have e1:Builtin.List.listSameRef (.ref s.heap.objs.size) (.ref a)=false:=by simp [Builtin.List.listSameRef,zG]
  simp only[e1,show (Value.type "set" == Value.type "list")=false by decide,show (Value.type "set" == Value.type "tuple")=false by decide,Bool.or_false,aam,if_false];refine Y4 (Ji S1 λI h2 d fp St os k2 Jm hI jQ W st=>?_);obtain⟨ys,sa,nd,e5⟩:=jQ;have sR:=k2 _ _ hL;have nf:s.heap.objs.size ∉ fp:=λz=>by
    rcases Jm _ z with q |q
    · rw[gn]at q;lia
    · exact zG q
  have WI:s.heap.objs.size≠I:=by rw[gn]at hI;lia
  have mu:Shared.TypeIs { s with heap:=h2,drawn:=d } (.ref a) "set":=let ⟨_,_,_,ho,_⟩:=S1;⟨_,k2 _ _ ho,rfl⟩
  refine Y4 (ZP (Jj mu ?_));have lo:os.length=ys.length:=sa.length;have oT:os.length<=sizeLine:=by
    have:=List.Nodup.length_le_of_subset nd λy hy=>(e5 y).mp hy;exact Y9 (show os.length<=4000 by lia) (by decide)
  have key : ∀(g : Heap)(c tk : Nat), St 0 { s with heap := g, drawn := d, toks := tk } -> (∀ b o, b ≠ s.heap.objs.size -> h2.get? b = some o -> g.get? b = some o) -> g.get? s.heap.objs.size = some { cls := .type "list", data := .seq #[] c } ->
      codeAny (model prog w) A (.builtin "list.extend.loop" ⟨[.ref s.heap.objs.size,.ref I,.ref s.heap.objs.size],[]⟩) (λr s'=>∃(h':Heap)(tk:Nat)(al:Array Value)(c':Nat),r=.ok (.ret (.ref s.heap.objs.size))/\s'={ s with heap:=h',toks:=tk,drawn:=d }/\(∀ b o,s.heap.get? b=some o->h'.get? b=some o) /\
        h'.get? s.heap.objs.size=some { cls:=.type "list",dict:=none,data:=.seq al c',slots:=#[] }/\ItemsOf (λi v=>os[i]?=some v) al os.length) { s with heap:=g,drawn:=d,toks:=tk }:=by
    intro g c tk st' Ve hg;refine codeAny_extend_loopS (W A.in1 (by simpa using hh)) oT s.heap.objs.size nf (.ref s.heap.objs.size) os.length 0 _ #[] c rfl (Zj _) st' hg (ItemsOf.nil _) λs' al c' m iV iR=>?_;obtain⟨U,gx,dx,XI,XJ⟩:=s';have UR:gx=s.gens:=m.gens;have VW:dx=d:=m.drawn;have UK:XJ=s.os:=m.os;subst UR;subst VW;subst UK;refine⟨U,XI,al,c',rfl,rfl,λb o e=>?_,iV,iR⟩;have lb:=Zv e;refine m.heap b o ?_ (Ve b o (Zw lb) (k2 b o (WJ b o e)));simp only[ZN,ZF,or_false,not_or];exact⟨Zw lb,Zw (aaQ lb (by rw[gn]at hI;exact hI))⟩
  have fin : ∀(r : Result)(s' : Shared), (∃(h' : Heap)(tk : Nat)(al : Array Value)(c' : Nat), r = .ok (.ret (.ref s.heap.objs.size)) ∧ s' = { s with heap := h', toks := tk, drawn := d } ∧ (∀ b o, s.heap.get? b = some o → h'.get? b = some o) ∧
        h'.get? s.heap.objs.size=some { cls:=.type "list",dict:=none,data:=.seq al c',slots:=#[] }/\ItemsOf (λi v=>os[i]?=some v) al os.length)->∃(h':Heap)(tk c':Nat),r=.ok (.ret (.ref s.heap.objs.size))/\s'={ s with heap:=h',toks:=tk,drawn:=d }/\h'.get? s.heap.objs.size=some { cls:=.type "list",dict:=none,data:=.seq os.toArray c',slots:=#[] }/\R os { s with heap:=h',toks:=tk,drawn:=d }:=by
    rintro r s' ⟨h',tk,al,c',rfl,rfl,k,iV,iR⟩;have e:al=os.toArray:=by
      refine Array.ext (by rw[Zb];exact iR.1) λi h1 h2=>?_;have:=iR.2 i al[i] (Zp h1);rw[Zb]at h2;rw[Y5 h2]at this;injection this with this;rw[<- this];simp
    subst e;exact⟨h',tk,c',rfl,rfl,iV,h h' tk d os ys k sa nd e5⟩
  refine aaS (λ_=>?Jn) (λ_=>Y' ⟨aaz PySem.F.plain_extend_loop _,aaJ (key h2 0 s.toks (st _) (λb o _ e=>e) sR) λr s' y=>?last⟩)
  case last=>
    obtain⟨h',tk,c',rfl,rfl,iV,q⟩:=fin r s' y;show wpAny _ A (load s.heap.objs.size >>= _) _ _ _;exact Y4 (wpAny_load iV (Y' q))
  case Jn=>
    refine Y4 (aaR (Y4 ?_));show wpAny _ _ (updateSeq s.heap.objs.size (·.push .none) >>= λ_=>updateSeq s.heap.objs.size (·.pop)) _ _ _;refine Y4 (wpAny_updateSeq sR rfl ?_);have u2:=aaG (ZM (·.push aac)) sR rfl;refine wpAny_updateSeq (hz:=by seq_fits) u2 rfl ?_;have u3:=aaG (ZM (·.pop)) u2 rfl;have zH:∀b o,b≠s.heap.objs.size->h2.get? b=some o->((h2.update s.heap.objs.size (ZM (·.push aac))).update s.heap.objs.size (ZM (·.pop))).get? b=some o:=λb o hb e=>(aaW _ _ (ZO hb)).trans ((aaW _ _ (ZO hb)).trans e);refine Y' ⟨aaz PySem.F.plain_extend_loop _,aaJ (key _ _ s.toks ((W A hh).frame 0 _ _ _ (st s.toks) (Y8 _) λb hb o e=>zH b o (λz=>nf (z ▸ hb)) e) zH u3) λr s' y=>?_⟩;obtain⟨h',tk,c',rfl,rfl,iV,q⟩:=fin r s' y;show wpAny _ A (load s.heap.objs.size >>= _) _ _ _;exact Y4 (wpAny_load iV (Y' q))
end
end L2
end
section
set_option maxHeartbeats 1000000
namespace N
open PySem PySem.Spec PyProof.Rows L2
def zI(ta:DE):DE:=fun τ M q=>ta τ M λx M1=>a7 x M1 λds=>∃zs N:List Str,ds=zs.map D.str/\N.length<64/\(∀x∈zs,x∈N)/\∀ys:List Str,ys.Nodup->(∀x,x∈ys ↔ x∈zs)->sortedS ys=true->cE (ys.map D.str) M1 q
section
variable{X:Cx}{τ:St}{z:Z}
theorem ab.Jo(I:ab X τ z)(d:Drawn):ab X τ ⟨z.F,z.M,{ z.s with drawn:=d }⟩:=⟨I.ok,I.bs,I.os,I.bare,I.cp,I.loc,I.cell,I.free,I.hok,I.len⟩
theorem zJ{G:Gx}{F:Fz}:∀{ys:List Str}{us:List Value},af G F (ys.map D.str) us->StrsAre us ys
 |[],us,r=>by rw[Z',af]at r;subst r;exact .nil
 |y::ys,us,r=>by rw[Zh,af]at r;obtain⟨u,us,rfl,h,r⟩:=r;rw[aa]at h;obtain⟨t,rfl⟩:=h;exact .cons _ _ (zJ r)
theorem Jp{a:Addr}{zs:List Str}{Q:QK}{R:Value->Shared->Prop}{F:Fz}(hc:X.calm=true)(I:ab X τ z)(S:cX X.G.P X.G.w z.s.heap a zs)(g':zs.length<64)(k:KE X τ F Q R)(l:Le F z.F)
  (q:∀ys:List Str,ys.Nodup->(∀x,x∈ys ↔ x∈zs)->sortedS ys=true->cE (ys.map D.str) z.M Q):W X (call (.builtin "sorted") [.ref a]) R z.s:=by
 refine aa' kind_sorted plain_sorted entry_sorted (args_sorted1 _) ?_;unfold Builtin.«sorted»;refine Y4 (m:=checkCount "sorted" 1 1 _) (Y' ?_);refine Y4 (Jl (A:=X.A.in1) (I.ok.hd hc) S (by lia) λh' tk d os ss keep hS nd e5=>?_);have hl:os.length=ss.length:=hS.length;have le:ss.length<=zs.length:=List.Nodup.length_le_of_subset nd λy hy=>(e5 y).mp hy;have oT:os.length<=sizeLine:=Y9 (show os.length<=64 by lia) (by decide);refine Y4 (wpAny_newList ?_ oT);have dr:(h'.push { cls:=.type "list",data:=.seq os.toArray }).get? h'.objs.size=some (seqObj "list" os.toArray 0):=Ze _ rfl;refine Y4 (ZP (ZW slot_list_sort ⟨_,dr,rfl⟩ entry_list_sort (list_sort_treeK strKind_oneLt dr hS.keysOf (λv₁ v₂ rest e=>keyKind_strs (by rw[<- e];exact hS)) (by lia) λst' a1 a2=>⟨_,rfl,?_⟩) (args_list_sort _)));obtain⟨ys,b1,b2,b3⟩:=sorted_out_str hS a1 a2;refine Y' ⟨_,rfl,?_⟩;have J:ab X τ ⟨z.F,z.M,{ z.s with heap:=h',toks:=tk,drawn:=d }⟩:=(I.b8 (t:=tk) keep).Jo d;obtain⟨e,sH⟩:=sortedHeap_at (out:=(arrOf st').map (·.2)) dr;have rs:=jS (G:=X.G) (F:=z.F) b1;refine J.lst (n:=e) (t:=tk) k l rs (λb o hb=>?_) (Y8 _) ?_ (by rw[<- rs.len,Y6,b2.length_eq,<- hl];exact oT) (q ys (b2.nodup_iff.mpr nd) (λx=>b2.mem_iff.trans (e5 x)) b3)
 ·have a8:b<h'.objs.size:=Zv hb;rw[sortedHeap_old (Zw a8) (by rw[ZZ];exact aat a8)];exact Y7 _ hb
 ·rw[sH];rfl
theorem Jq{e:Expr}{te:DE}{p1 p2 mv gp:Pos}(hc:X.calm=true)(Jr:Gl X "sorted")(oQ:X.G.mg "sorted"=none)(Js:Gl X "set")(l9:X.G.mg "set"=none)(he:PE X e te)(hs:dH e=true):
  PE X (.Call (.Name "sorted" p1) [.Call (.Name "set" p2) [e] [] gp] [] mv) (zI te):=fun τ z Q R I h k=>by
 refine Z7 (iy I Jr oQ (by decide +kernel:bootBuiltins "sorted"=some (.builtin "sorted")) (by decide) (by decide) ?_);refine PyProof.Rows.callWith_builtin1 ?_ (cW rfl) rfl;rw[cW (e:=.Call (.Name "set" p2) [e] [] gp) rfl];show W X (spliced ((false,eval (.Call (.Name "set" p2) [e] [] gp) X.env)::backTo mv (starEach [] X.env))) _ z.s;refine Calls.spliced_cons ?_;refine Z7 (iy I Js l9 (by decide +kernel:bootBuiltins "set"=some (.type "set")) (by decide) (by decide) ?_);refine aaP ?_ (cW hs) rfl;refine xh he xg (cW hs) gp τ z (λds M=>n1 (λd M Q=>a7 d M λes=>∃zs N:List Str,es=zs.map D.str/\N.length<64/\(∀x∈zs,x∈N)/\∀ys:List Str,ys.Nodup->(∀x,x∈ys ↔ x∈zs)->sortedS ys=true->cE (ys.map D.str) M Q) ds M Q) _ I h λds z1 us l1 I1 r1 q1=>?_;unfold n1 at q1;dsimp only at q1;split at q1
 case h_2=>exact q1.elim
 obtain⟨u,rfl,ru⟩:=iC r1;obtain⟨a,ds,its,n,rfl,l,zs,N,rfl,g',hb,q⟩:=I1.a7 ru q1;have jQ:StrsAre its zs:=zJ l.r;refine IZ (A:=X.A) (its:=its.toArray) (N:=N) (I1.ok.hd hc) ⟨_,l.e,rfl,n,rfl⟩ (by simpa using jQ) (by lia) hb λh' tk S keep=>?_;refine Calls.spliced_nil ?_;exact Jp hc (I1.b8 (t:=tk) keep) (S.e5 (oR hb)) (Zd (List.length_filter_le _ _) g') k l1 λys h1 h2 h3=>q ys h1 (λx=>(h2 x).trans (oR hb x).symm) h3
end
end N
end
section
namespace L2
open PySem PySem.Spec PyProof.Rows PySem.W
section
variable{prog:Program}{w:World}{A:Around}{E:Value->Shared->Prop}{s:Shared}
end
end L2
end
section
set_option maxHeartbeats 1000000
namespace N
open PySem PySem.Spec PyProof.Rows L2
open Classical in
noncomputable def de(F:Fz)(as:List Addr)(h:Heap):Fz:=λb=>if b∈as then (h.get? b).map Fo.dat else F b
section
variable{X:Cx}{τ:St}{z:Z}
theorem sS{F:Fz}{as:List Addr}{h:Heap}{b:Addr}{o:Obj}(hb:b∈as)(e:h.get? b=some o):de F as h b=some (.dat o):=by unfold de;rw[if_pos hb,e];rfl
theorem mw{F:Fz}{as:List Addr}{h:Heap}{b:Addr}(hb:b ∉ as):de F as h b=F b:=if_neg hb
theorem ab.many{as:List Addr}{h':Heap}{t:Nat}(I:ab X τ z)(kp:∀ b,bk z.s.heap h' b)(new:∀ b∈as,z.s.heap.objs.size<=b):Le z.F (de z.F as h')/\ab X τ ⟨de z.F as h',z.M,{ z.s with heap:=h',toks:=t }⟩:=by
  have l:Le z.F (de z.F as h'):=λb f e=>by
    rw[mw λhb=>by rw[I.hok.cU (new b hb)]at e;cases e];exact e
  have ok:ay X.G (de z.F as h') z.M h':=by
   refine⟨λb f e=>?_,λb o e=>?_,I.hok.tb.go (λT p q e=>?_) l.d λT _ _ _=>kp T⟩
   · by_cases hb:b∈as
     · cases q:h'.get? b with
       |none=>unfold de at e;rw[if_pos hb,q]at e;cases e
       |some o=>rw[sS hb q]at e;cases e;exact q
     · rw[mw hb]at e;exact (I.hok.fz b f e).go (kp b)
   case refine_3=>
     by_cases hb:T∈as
     · cases r:h'.get? T with
       |none=>unfold de at e;rw[if_pos hb,r]at e;cases e
       |some o=>rw[sS hb r]at e;cases e
     · rw[mw hb]at e;exact e
   · have hb:b ∉ as:=λm=>by have:=I.hok.dk (new b m);rw[e]at this;cases this
     exact⟨(mw hb).trans (I.hok.ob b o e).1,(I.hok.ob b o e).2.go l.d (λc _=>kp c) λ_ q=>q⟩
  exact⟨l,I.go l ok (λb hb=>⟨(kp b).s,I.dA hb,mw λm=>aar _ (Zq (I.gX hb) (new b m))⟩) rfl I.bare⟩
end
end N
end
section
set_option maxHeartbeats 1000000
namespace N
open PySem PySem.Spec PyProof.Rows L2
section
variable{X:Cx}{τ:St}{z:Z}
end
end N
end
section
set_option maxHeartbeats 1000000
namespace N
open PySem PySem.Spec PyProof.Rows L2
mutual
inductive Fr(M K:Mp):D->D->Prop
 |rfl {d:D}:Fr M K d d
 |lst {p:Addr}{ds es:List D}:M p=some (.lst ds)->K p=none->gq M K ds es->Fr M K (.ref p) (.lst es)
 |au {p:Addr}{kvs:List (Key×D)}{es:List D}:M p=some (.au kvs)->K p=none->gq M K (kvs.map (·.2)) es->Fr M K (.ref p) (.au (kvs.map (·.1)) es)
 |tup {ds es:List D}:gq M K ds es->Fr M K (.tup ds) (.tup es)
 |Jt {ds es:List D}:gq M K ds es->Fr M K (.lst ds) (.lst es)
inductive gq(M K:Mp):List D->List D->Prop
 |rfl {ds:List D}:gq M K ds ds
 |cons {d e:D}{ds es:List D}:Fr M K d e->gq M K ds es->gq M K (d::ds) (e::es)
end
structure bC(K M:Mp):Prop where
 sub:∀a o,K a=some o->M a=some o
 own:∀a b,K a≠none->M b=some (.own a)->K b=some (.own a)
theorem bC.rfl{M:Mp}:bC M M:=⟨λ_ _ h=>h,λ_ _ _ h=>h⟩
noncomputable def dt(F:Fz)(M K:Mp)(h:Heap):Fz:=λa=>match M a,K a with
 |some _,none=>(h.get? a).map Fo.dat
 |_,_=>F a
section
variable{G:Gx}{F:Fz}{M K:Mp}{h:Heap}
theorem e6(x:ay G F M h):Le F (dt F M K h):=λa f e=>by
 unfold dt;cases q:M a with
 |none=>exact e
 |some o=>have:=(x.ob a o q).1;rw[e]at this;cases this
theorem zN{a:Addr}{o:MO}{ob:Obj}(hM:M a=some o)(US:K a=none)(e:h.get? a=some ob):dt F M K h a=some (.dat ob):=by
 unfold dt;rw[hM,US];show (h.get? a).map Fo.dat=_;rw[e];rfl
theorem zO(x:ay G F M h)(s:bC K M):ay G (dt F M K h) K h:=by
 refine⟨λa f e=>?_,λa o e=>?_,x.tb.go (λT p q e=>?_) (e6 x).d λ_ _ _ _ _ e=>e⟩
 case refine_3=>
  unfold dt at e;split at e
  ·cases q:h.get? T <;> rw[q]at e <;> cases e
  ·exact e
 ·unfold dt at e;split at e
  ·cases q:h.get? a with
   |none=>rw[q]at e;cases e
   |some ob=>rw[q]at e;cases e;exact q
  ·exact x.fz a f e
 ·have hM:=s.sub a o e;obtain⟨h1,h2⟩:=x.ob a o hM;refine⟨by unfold dt;rw[hM,e];exact h1,h2.go (e6 x).d (λ_ _ _ q=>q) λb q=>s.own a b (by rw[e];exact ZK o) q⟩
mutual
theorem Fr.rel(x:ay G F M h):∀{d e:D}{u:Value},Fr M K d e->aa G F d u->aa G (dt F M K h) e u
 |_,_,u,.rfl,r=>r.up (e6 x).d
 |_,_,u,.lst h1 h2 h3,r=>by
  rw[aa]at r;subst r;obtain⟨_,hz,us,n,rs,e⟩:=x.ob _ _ h1;exact om (zN h1 h2 e) (by rw[<- rs.len];exact hz) (h3.rel x rs)
 |_,_,u,.au (kvs:=kvs) h1 h2 h3,r=>by
  rw[aa]at r;subst r;obtain⟨_,hz,hs,vs,rs,o,es,ep,e,ex,g1,g2,g3,nd⟩:=x.ob _ _ h1;obtain⟨k1,k2⟩:=md rs;rw[aa];refine⟨_,o,vs.map (·.2),rfl,zN h1 h2 e,⟨ex,⟨es,ep,g1,g2,?_⟩,by rw[k2];exact nd,by rw[k2,Y6,Y6],by rw[Y6];exact hz⟩,hs,h3.rel x k1⟩;rw[k2,yG];exact g3
 |_,_,u,.tup h3,r=>by
  rw[aa]at r ⊢;obtain⟨a,o,us,e,h1,h2,rs⟩:=r;exact⟨a,o,us,e,e6 x a _ h1,h2,h3.rel x rs⟩
 |_,_,u,.Jt h3,r=>by
  rw[aa]at r ⊢;obtain⟨a,n,us,e,h1,h2,rs⟩:=r;exact⟨a,n,us,e,e6 x a _ h1,h2,h3.rel x rs⟩
theorem gq.rel(x:ay G F M h):∀{ds es:List D}{us:List Value},gq M K ds es->af G F ds us->af G (dt F M K h) es us
 |_,_,us,.rfl,r=>r.up (e6 x).d
 |_,_,us,.cons h1 h2,r=>by
  rw[af]at r;obtain⟨u,us,rfl,r1,r2⟩:=r;exact .cons (h1.rel x r1) (h2.rel x r2)
end
end
theorem ab.Ju{X:Cx}{τ:St}{z:Z}{K:Mp}(I:ab X τ z)(s:bC K z.M):ab X τ ⟨dt z.F z.M K z.s.heap,K,z.s⟩ where
 ok:=I.ok
 bs:=I.bs.up (e6 I.hok)
 os:=I.os
 bare:=I.bare
 cp:=λenv h=>let ⟨h1,L,o,h2,h3,h4⟩:=I.cp env h;⟨h1,L,o,h2,e6 I.hok _ _ h3,h4⟩
 loc:=let ⟨m,h1,h2⟩:=I.loc;⟨m,h1,λi x d a b c=>let ⟨u,r,l⟩:=h2 i x d a b c;⟨u,r.up (e6 I.hok).d,l⟩⟩
 cell:=λx c h=>by
  obtain⟨h1,h2,h3⟩:=I.cell x c h;have e:dt z.F z.M K z.s.heap c=z.F c:=by unfold dt;rw[h2]
  refine⟨h1,?_,?_⟩
  ·cases q:K c with
   |none=>exact q
   |some o=>rw[s.sub c o q]at h2;cases h2
  ·dsimp only;rw[e];exact h3
 free:=by
  obtain⟨h1,h2⟩:=I.free;refine⟨by dsimp only;unfold dt;rw[h2];exact h1,?_⟩;cases q:K X.env.locals with
  |none=>exact q
  |some o=>rw[s.sub _ o q]at h2;cases h2
 hok:=zO I.hok s
 len:=I.len
noncomputable def dg(a:Addr)(d:D):Option D->Option D
 |some (.ref b)=>if b=a then some d else some (.ref b)
 |o=>o
theorem Jv{M:Mp}{a:Addr}{o:MO}(h:M a=some o)(n:∀b,o≠.own b):bC (rm M a) M:=⟨λb u e=>by
 by_cases z:b=a
 ·rw[z,n4]at e;cases e
 ·rw[qL z]at e;exact e,λb c e q=>by
 by_cases z:c=a
 ·rw[z,h]at q;cases q;exact absurd rfl (n b)
 ·rw[qL z];exact q⟩
theorem ab.zP{X:Cx}{τ:St}{z:Z}{a:Addr}{o:MO}{d:D}(I:ab X τ z)(h:z.M a=some o)(n:∀b,o≠.own b)(f:Fr z.M (rm z.M a) (.ref a) d):∃F',Le z.F F'/\ab X (τ.map (dg a d)) ⟨F',rm z.M a,z.s⟩:=by
 have I':=I.Ju (Jv h n);refine⟨_,e6 I.hok,{ I' with loc:=?_,len:=by rw[Y6];exact I.len }⟩;obtain⟨m,h1,h2⟩:=I'.loc;refine⟨m,h1,λi x e U he hv=>?_⟩;rw[Zr]at he;obtain⟨y,hy,hs⟩:=Option.map_eq_some_iff.mp he;cases y with
 |none=>cases hs
 |some y=>
  obtain⟨u,r,l⟩:=h2 i x y U hy hv;cases y with
  |ref b=>
   unfold dg at hs;dsimp only at hs;split at hs
   ·rename_i e0;subst e0;cases hs;rw[aa]at r;exact⟨u,by rw[r];exact f.rel I.hok (by rw[aa]),l⟩
   ·cases hs;exact⟨u,r,l⟩
  |_=>cases hs;exact⟨u,r,l⟩
inductive ew(P:St->Mp->Prop):St->Mp->Prop
 |rfl {τ:St} {M:Mp}:P τ M->ew P τ M
 |lst {τ:St} {M:Mp} (a:Addr) (ds:List D):M a=some (.lst ds)->ew P (τ.map (dg a (.lst ds))) (rm M a)->ew P τ M
 |au {τ:St} {M:Mp} (a:Addr) (kvs:List (Key×D)):M a=some (.au kvs)->ew P (τ.map (dg a (.au (kvs.map (·.1)) (kvs.map (·.2))))) (rm M a)->ew P τ M
theorem KS.Jw{X:Cx}{F:Fz}{e:En}{R:Flow->Shared->Prop}(k:KS X F e R):KS X F { e with nx:=ew e.nx } R where
 rt:=k.rt
 Uz:=k.Uz
 ct:=k.ct
 nx:=fun τ z l I h=>by
  have go:∀{τ:St}{M:Mp},ew e.nx τ M->∀z:Z,z.M=M->Le F z.F->ab X τ z->R .next z.s:=λh=>by
   induction h with
   |rfl h=>intro z e l I;subst e;exact k.nx _ z l I h
   |lst a ds h1 _ ih=>
    intro z e l I;subst e;obtain⟨F',l',I'⟩:=I.zP h1 (λb q=>by cases q) (.lst h1 n4 .rfl);exact ih ⟨F',rm z.M a,z.s⟩ rfl (l.tr l') I'
   |au a kvs h1 _ ih=>
    intro z e l I;subst e;obtain⟨F',l',I'⟩:=I.zP h1 (λb q=>by cases q) (.au h1 n4 .rfl);exact ih ⟨F',rm z.M a,z.s⟩ rfl (l.tr l') I'
  exact go h z rfl l I
def zQ(ti:DI)(g:DG)(tb:DS):DS:=λe τ M=>q9 ti g tb { e with nx:=ew e.nx } τ M
theorem Jx{X:Cx}{st:Stmt}{ti:DI}{g:DG}{tb:DS}(h:PS X st (q9 ti g tb)):PS X st (zQ ti g tb):=fun τ z e R I q k=>h τ z _ R I q k.Jw
end N
end
section
set_option maxHeartbeats 1000000
namespace N
open PySem PySem.Spec PyProof.Rows L2 PySem.W
structure zR(G:Gx)(F0:Fz)(d:Addr)(ks:List Key)(ds:List D)(n ep:Nat):Prop where
 bX:∀{F M h},Le F0 F->ay G F M h->∃vs,KV G F (ks.zip ds) vs/\h.DictAt (bR G.P G.w) d vs ep/\vs.length=n
 len:(ks.zip ds).length=n
theorem sT{X:Cx}{τ:St}{z:Z}{ks:List Key}{ds:List D}{u:Value}(I:ab X τ z)(r:aa X.G z.F (.au ks ds) u):∃a n ep vs,u=.ref a/\zR X.G z.F a ks ds n ep/\z.s.heap.DictAt (bR X.G.P X.G.w) a vs ep/\vs.length=n/\(a == sysModules)=false:=by
 rw[aa]at r;obtain⟨a,o,us,rfl,h1,h2,h4,h3⟩:=r;obtain⟨es,ep,g1,g2,g3⟩:=h2.bX;have hl:=h3.len;have key:∀{F M h},Le z.F F->ay X.G F M h->∃vs,KV X.G F (ks.zip ds) vs/\h.DictAt (bR X.G.P X.G.w) a vs ep/\vs.length=(ks.zip us).length:=λ{F M h}l ok=>
  ⟨ks.zip us,KV.zip (h3.up l.d),⟨o,es,ok.fz a _ (l a _ h1),h2.ex,g1,g2,g3,by rw[List.map_fst_zip (by rw[h2.len];exact Y8 _)];exact h2.nd⟩,rfl⟩
 obtain⟨vs,q1,q2,q3⟩:=key Le.rfl I.hok;exact⟨a,(ks.zip us).length,ep,vs,rfl,⟨key,by rw[List.length_zip,List.length_zip,hl]⟩,q2,q3,h4⟩
theorem Jy{G:Gx}{F:Fz}{P:Program}{w:World}{k:Key}{u:Value}(h:(bR P w).is k u=true):aa G F (g9 k) u:=by
 rcases ed (k:=k) (v:=u) h with ⟨i,t,rfl,rfl⟩ |⟨x,t,rfl,rfl⟩
 ·exact cI
 ·exact lJ
theorem sU{G:Gx}{F:Fz}:∀{a:List (Key×D)}{b:List (Key×Value)}{i:Nat}{p:Key×D},KV G F a b->a[i]?=some p->∃q,b[i]?=some q/\p.1=q.1/\aa G F p.2 q.2
 |_,_,_,_,.nil,e=>by simp at e
 |_,_,0,_,.cons r _,e=>by simp at e;subst e;exact⟨_,rfl,r.1,r.2⟩
 |_,_,i+1,_,.cons _ t,e=>by
  obtain⟨q,h1,h2⟩:=sU (i:=i) t (by simpa using e);exact⟨q,by simpa using h1,h2⟩
section
variable{G:Gx}{F0:Fz}{d it:Addr}{ks:List Key}{ds:List D}{n ep:Nat}{tg:Expr}{wS:List Expr}{kk:Nat}{tp:Pos}
theorem Jz(S:zR G F0 d ks ds n ep):jB G tg ((ks.zip ds).map λp=>g9 p.1) (λ_=>True) F0 [it] it (λi h=>h.IsKeyIter it d i n ep) where
 obj:=λi h st c hc=>by
  rw[List.mem_singleton.mp hc];obtain⟨o,q,_⟩:=st;exact⟨o,q⟩
 keep:=λi h h' st k=>by
  obtain⟨o,q,r⟩:=st;exact⟨o,k it (List.mem_singleton.mpr rfl) _ q,r⟩
 item:=by
  intro X hG hc i τ z d' E I l hf st hok hd;subst hG;rw[Zr]at hd;obtain⟨p,hp,rfl⟩:=Option.map_eq_some_iff.mp hd;obtain⟨vs,rel,UA,lv⟩:=S.bX l I.hok;obtain⟨q,hq,e1,r2⟩:=sU rel hp;rw[<- lv]at st ⊢;refine wpAny_pyNext_dict_item (k:=q.1) (v:=q.2) st UA hq λkey h' hk st' sb=>⟨_,rfl,?_⟩;refine letGo_keyiter (s':={ z.s with heap:=h' }) st' ?_;exact⟨Le.rfl,I.g5 (t:=z.s.toks) hf λc hc o e=>sb.extBut c o (by simpa using hc) e,by rw[e1];exact Jy hk,st',λb hb=>(hf b hb).f⟩
 done:=by
  intro X hG hc i τ z E I l hf st hok hd;subst hG;obtain⟨vs,rel,UA,lv⟩:=S.bX l I.hok;rw[<- lv]at st;refine wpAny_pyNext_dict_end (I.ok.hd hc) st UA ?_ λh' eb=>⟨rfl,I.g5 (t:=z.s.toks) hf λb hb o e=>eb b o (by simpa using hb) e⟩;rw[Y6,Paired.length rel]at hd;simp;lia
 self:=λ_ _ _ _ _ st h=>wpAny_pyIter_keyiter st h
end
section
variable{X:Cx}{o e:Expr}{to te:DE}{tg:Expr}{wS:List Expr}{kk:Nat}{tp q p:Pos}
def zU(t:DE):DI:=fun τ M k=>t τ M λd M1=>match d with
 |.au ks ds=>k ((ks.zip ds).map λp=>g9 p.1) (λ_=>True) M1
 |d=>lO d M1 λxs ok=>k xs ok M1
theorem JA(hl:PE X e te):PI X tg e (zU te):=fun τ z k R I h K=>hl τ z _ _ I h λd z1 u l1 I1 r1 q1=>by
 have go:lO d z1.M (λxs ok=>k xs ok z1.M)->W X (pyIter u) R z1.s:=λq1=>by
  obtain⟨q,a,xs,ok,rfl,S,hok,q1⟩:=I1.src r1 q1;obtain⟨us,r,hz,hq⟩:=S X τ z1 rfl I1 Le.rfl hok;have fin:R (.ref z1.s.heap.objs.size) { z1.s with heap:=z1.s.heap.push { cls:=.type (wA q),data:=.fields #[.ref a,.int 0 0] } }:=
   K xs ok ⟨z1.F,z1.M,_⟩ _ l1 (I1.b8 (t:=z1.s.toks) λb o e=>Y7 _ e) (ot I1 (Y8 _) (Ge S) ⟨_,Ze _ rfl,rfl,rfl⟩) q1
  cases q with
  |true=>exact wpAny_pyIter_tuple hq fin
  |false=>exact wpAny_pyIter_list hq fin
 cases d with
 |au ks ds=>
  obtain⟨a,n,ep,vs,rfl,S,UA,lv,lo⟩:=sT I1 r1;refine wpAny_pyIter_dict (knd:=bR X.G.P X.G.w) lo UA ?_;rw[lv];exact K _ _ ⟨z1.F,z1.M,_⟩ _ l1 (I1.b8 (t:=z1.s.toks) λb o e=>Y7 _ e) (ot I1 (Y8 _) (Jz S) ⟨_,Ze _ rfl,rfl,rfl⟩) q1
 |_=>exact go q1
def sV(Q:List Key->List D->Mp->Prop):QK:=λd M=>match d with
 |.au ks ds=>Q ks ds M
 |_=>False
theorem JB(ho:PE X o to)(iN:attributeBase o "items" X.env (eval o X.env)=eval o X.env)(db:(q.endLine == p.line)=true){τ:St}{z:Z}{Q:List Key->List D->Mp->Prop}{R:Value->Shared->Prop}(I:ab X τ z)(h:to τ z.M (sV Q))
  (k:∀ks ds a z1 v,Le z.F z1.F->ab X τ z1->aa X.G z1.F (.au ks ds) (.ref a)->z1.s.heap.IsItemsView v a->Q ks ds z1.M->R (.ref v) z1.s):W X (eval (.Call (.Attribute o "items" q) [] [] p) X.env) R z.s:=
 wpAny_Call_method0_late iN db (ho τ z _ _ I h λx z1 v l1 I1 r1 q1=>by
  unfold sV at q1;split at q1
  ·rename_i ks ds;obtain⟨a,n,ep,vs,rfl,S,UA,lv,lo⟩:=sT I1 r1;obtain⟨o,es,g⟩:=UA;have dd:z1.s.heap.DictOf (bR X.G.P X.G.w) a vs:=⟨o,es,ep,g⟩;refine⟨"dict","dict.items",PySem.F.plainAttrs_dict,PySem.F.slot_dict_items,PySem.F.type_dict_items,dd.typeIs,λb q=>by cases q;exact⟨o,g.1,g.2.1.2.1⟩,Calls.callWith_builtin rfl (PySem.evalArgs_none ?_)⟩;refine call_meetsIn PySem.F.slot_dict_items dd.typeIs PySem.F.entry_dict_items (PySem.F.args_dict_items_1 _) (meets_dict_items (bR X.G.P X.G.w) a lo) ⟨⟨vs,dd⟩,?_⟩;exact k ks ds a ⟨z1.F,z1.M,{ z1.s with heap:=z1.s.heap.push { cls:=.type "dict_items",data:=.fields #[.ref a] },toks:=z1.s.toks }⟩ _ l1 (I1.b8 λb o e=>Y7 _ e) r1 ⟨_,Ze _ rfl,rfl,rfl⟩ q1
  ·exact q1.elim)
end
end N
end
section
namespace Kn
open PySem PySem.W PyProof.Rows
noncomputable def krun{α:Type}(lt:Nat->Nat->Bool):KasT α->α
 |.ret a=>a
 |.ask i j k=>krun lt (k (lt i j))
theorem j4{α β:Type}(lt:Nat->Nat->Bool)(f:α->KasT β):∀t:KasT α,krun lt (t.bind f)=krun lt (f (krun lt t))
 |.ret _=>rfl
 |.ask i j k=>j4 lt f (k (lt i j))
section
variable(r:Nat->Nat)
variable{r}
end
end Kn
namespace Kn
open PySem PySem.W PyProof.Rows
def cu{α:Type}(n:Nat)(R:α->Prop):KasT α->Prop
 |.ret a=>R a
 |.ask i j k=>i<n/\j<n/\∀b,cu n R (k b)
theorem cu.bind{α β:Type}{n:Nat}{R:α->Prop}{S:β->Prop}{f:α->KasT β}(hf:∀a,R a->cu n S (f a)):∀{t:KasT α},cu n R t->cu n S (t.bind f)
 |.ret a,h=>hf a h
 |.ask _ _ k,h=>⟨h.1,h.2.1,λb=>cu.bind hf (h.2.2 b)⟩
theorem zW{α:Type}{n:Nat}{R:α->Prop}{lt:Nat->Nat->Bool}{cmp:Nat->Nat->(Bool->Shared->Prop)->Shared->Prop}{Q:α->Shared->Prop}{s:Shared}
  (hc:∀i j C,i<n->j<n->C (lt i j) s->cmp i j C s):∀{t:KasT α},cu n R t->Q (krun lt t) s->t.kasWp cmp Q s
 |.ret _,_,q=>q
 |.ask i j k,h,q=>hc i j _ h.1 h.2.1 (zW hc (h.2.2 _) q)
def Gn(n:Nat)(p:Array Nat):Prop:=∀x∈p.toList,x<n
theorem Gn.get{n:Nat}{p:Array Nat}(h0:0<n)(h:Gn n p)(i:Nat):p.getD i 0<n:=by
 rw[aav];cases e:p[i]? with
 |none=>exact h0
 |some x=>exact h x (Array.mem_toList_iff.mpr (Array.mem_of_getElem? e))
theorem Gn.perm{n:Nat}{p q:Array Nat}(h:Gn n p)(e:q.Perm p):Gn n q:=λx U=>h x (Array.mem_toList_iff.mpr (e.mem_iff.mp (Array.mem_toList_iff.mp U)))
section
variable{n:Nat}(h0:0<n)
include h0
theorem sW{p:Array Nat}(g:Gn n p):∀f m,cu n (λ_=>True) (kas_asc p f m)
 | 0,_=>trivial
 |f+1,m=>by
  rw[kas_asc];refine⟨g.get h0 _,g.get h0 _,λb=>?_⟩;dsimp only;split
  ·trivial
  ·exact sW g f _
theorem oU:∀(f:Nat)(p:Array Nat)(m q:Nat),Gn n p->cu n (λr:Array Nat×Nat×Nat=>Gn n r.1) (kas_desc f p m q)
 | 0,p,_,_,g=>g
 |f+1,p,m,q,g=>by
  rw[kas_desc];refine⟨g.get h0 _,g.get h0 _,λb=>?_⟩;dsimp only;by_cases hb:b=true
  ·rw[if_pos hb];split
   ·exact oU f _ _ _ (g.perm (aa9 _ _ _ _))
   ·exact oU f _ _ _ g
  ·rw[if_neg hb];refine⟨g.get h0 _,g.get h0 _,λb=>?_⟩;dsimp only;split
   ·exact g
   ·exact oU f _ _ _ g
theorem zX{p:Array Nat}(g:Gn n p)(m k:Nat):cu n (λr:Nat×Array Nat=>Gn n r.2) (kas_tail3 m k p):=by
 unfold kas_tail3;refine cu.bind (R:=λ_=>True) (λm _=>?_) (sW h0 (g.perm (aa9 _ _ _ _)) _ _);exact g.perm (aa9 _ _ _ _)
theorem zY{p:Array Nat}(g:Gn n p)(m k:Nat):cu n (λr:Nat×Array Nat=>Gn n r.2) (kas_descPart m k p):=by
 unfold kas_descPart;refine cu.bind (λr hr=>?_) (oU h0 _ p _ _ g);split
 ·exact zX h0 (Gn.perm hr (aa9 _ _ _ _)) _ _
 ·exact zX h0 hr _ _
theorem JC{p:Array Nat}(g:Gn n p)(k:Nat):cu n (λr:Nat×Array Nat=>Gn n r.2) (kas_count k p):=by
 unfold kas_count;refine cu.bind (λm _=>?_) (sW h0 g _ _);split
 ·exact g
 split
 ·refine⟨g.get h0 _,g.get h0 _,λb=>?_⟩;dsimp only;split
  ·exact g
  ·exact zY h0 (g.perm (aa9 _ _ _ _)) _ _
 ·exact zY h0 g _ _
theorem sX{p:Array Nat}(g:Gn n p)(k:Nat):∀f l u,cu n (λ_=>True) (kas_place p k f l u)
 | 0,_,_=>trivial
 |f+1,l,u=>by
  rw[kas_place];split
  ·trivial
  ·refine⟨g.get h0 _,g.get h0 _,λb=>?_⟩;dsimp only;split
   ·exact sX g k f _ _
   ·exact sX g k f _ _
theorem zZ:∀(f:Nat)(p:Array Nat)(k:Nat),Gn n p->cu n (λ_=>True) (kas_bin f p k)
 | 0,_,_,_=>trivial
 |f+1,p,k,g=>by
  rw[kas_bin];exact cu.bind (λl _=>zZ f _ _ (g.perm (bubble_perm _ _ _))) (sX h0 g _ _ _ _)
theorem JD:cu n (λ_=>True) (kas_sort n):=by
 unfold kas_sort;refine cu.bind (λr hr=>?_) (JC h0 (p:=(ZL n).toArray) (λx U=>by simpa using U) n);split
 ·exact zZ h0 _ _ _ hr
 ·trivial
end
end Kn
namespace Kn
open PySem PySem.W PyProof.Rows
section
variable{lt:Nat->Nat->Bool}
theorem mx:∀(f:Nat)(p:Array Nat)(m q:Nat),(krun lt (kas_desc f p m q)).1.Perm p
 | 0,p,_,_=>by rw[kas_desc];exact .refl _
 |f+1,p,m,q=>by
  rw[kas_desc,krun];split
  ·split
   ·exact (mx f _ _ _).trans (aa9 _ _ _ _)
   ·exact mx f _ _ _
  ·rw[krun];split
   ·exact .refl _
   ·exact mx f _ _ _
theorem z9(p:Array Nat)(m k:Nat):(krun lt (kas_tail3 m k p)).2.Perm p:=by
 unfold kas_tail3;rw[j4];exact aa9 _ _ _ _
theorem Aa(p:Array Nat)(m k:Nat):(krun lt (kas_descPart m k p)).2.Perm p:=by
 unfold kas_descPart;rw[j4];split
 ·exact (z9 _ _ _).trans ((aa9 _ _ _ _).trans (mx _ _ _ _))
 ·exact (z9 _ _ _).trans (mx _ _ _ _)
theorem Ab(p:Array Nat)(k:Nat):(krun lt (kas_count k p)).2.Perm p:=by
 unfold kas_count;rw[j4];split
 ·exact .refl _
 split
 ·rw[krun];split
  ·exact .refl _
  ·exact (Aa _ _ _).trans (aa9 _ _ _ _)
 ·exact Aa _ _ _
theorem Ac:∀(f:Nat)(p:Array Nat)(k:Nat),(krun lt (kas_bin f p k)).Perm p
 | 0,p,_=>by rw[kas_bin];exact .refl _
 |f+1,p,k=>by
  rw[kas_bin,j4];exact (Ac f _ _).trans (bubble_perm _ _ _)
theorem JE(n:Nat):(krun lt (kas_sort n)).Perm (ZL n).toArray:=by
 unfold kas_sort;rw[j4];split
 ·exact (Ac _ _ _).trans (Ab _ _)
 ·exact Ab _ _
end
end Kn
namespace L2
open PySem PySem.Spec PyProof.Rows PySem.W
end L2
end
section
set_option maxHeartbeats 1000000
namespace N
open PySem PySem.Spec PyProof.Rows L2 PySem.W
open Kn (krun)
def hB(G:Gx)(F:Fz)(vs:List Value)(ps:List (Str×D)):Prop:=vs.length=ps.length/\∀(i:Nat)p,ps[i]?=some p->∃b o t u n,vs[i]?=some (.ref b)/\F b=some (.dat o)/\o.cls=.type "tuple"/\o.data=.seq #[.str p.1 t,u] n/\aa G F p.2 u/\aF p.2=true/\aI p.2<=50
theorem hB.tl{G:Gx}{F:Fz}{v:Value}{vs:List Value}{p:Str×D}{ps:List (Str×D)}(t:hB G F (v::vs) (p::ps)):hB G F vs ps:=⟨Nat.succ.inj t.1,λi y hy=>t.2 (i+1) y hy⟩
noncomputable def iW(ps:List (Str×D))(i j:Nat):Bool:=decide ((ps.getD i ("",.az)).1.cps.toList<(ps.getD j ("",.az)).1.cps.toList)
section
variable{G:Gx}{F:Fz}{M:Mp}{A:Around}{E:Value->Shared->Prop}{s:Shared}
theorem hB.my{P:Program}{w:World}(ok:ay G F M s.heap):∀{vs:List Value}{ps:List (Str×D)},hB G F vs ps->∃fs,KatTups s.heap vs fs/\fs.length=vs.length/\∀f∈fs,Looks (model P w) s.heap (typeOf f) (.type "str")
 |[],[],_=>⟨[],.nil,rfl,λf hf=>(nomatch hf)⟩
 |[],_::_,t=>by have:=t.1;simp at this
 |_::_,[],t=>by have:=t.1;simp at this
 |v::vs,p::ps,t=>by
  obtain⟨fs,h1,h2,h3⟩:=hB.my (P:=P) (w:=w) ok t.tl;obtain⟨b,o,tk,u,n,e1,e2,e3,e4,_⟩:=t.2 0 p rfl;cases e1;refine⟨.str p.1 tk::fs,.cons (ok.fz b _ e2) e3 e4 (by simp) h1,by simp [h2],λf hf=>?_⟩;rcases List.mem_cons.mp hf with z |z
  ·subst z;exact Looks.of_pure rfl
  ·exact h3 f z
theorem JF{a : Addr}{vs : List Value}{ps : List (Str × D)}{n : Nat}{P : Fin -> Shared -> Prop}(hu : A.units + 60 < cLine)(ok : ay G F M s.heap)(ha : F a = none)(hm : M a = none)(ho : s.heap.get? a = some (seqObj "list" vs.toArray n))(hT : hB G F vs ps)(nd : (ps.map (·.1)).Nodup)(g' : vs.length < 64)
    (h:∀(p:List Nat),p.Perm (ZL vs.length)->P (.done (.ret .none)) { s with heap:=sortedHeap s.heap a vs (p.map λi=>vs.getD i aac).toArray }) :
    wpAny (model G.P G.w) A (Builtin.«list.sort» ⟨[.ref a],[]⟩) P E s:=by
  obtain⟨e1,g1⟩:∃e1,(s.heap.update a (ZM λ_=>(#[]:Array Value))).get? a=some (seqObj "list" #[] e1):=⟨_,get?_update_seq ho λ_=>#[]⟩;have g6:(((s.heap.update a (ZM λ_=>(#[]:Array Value))).push (seqObj "tuple" vs.toArray 0)).push (seqObj "list" #[] 0)).get? a=some (seqObj "list" #[] e1):=Y7 _ (Y7 _ g1);have sb:=aan s.heap a (ZM λ_=>(#[]:Array Value));have ey:ay G F M (((s.heap.update a (ZM λ_=>(#[]:Array Value))).push (seqObj "tuple" vs.toArray 0)).push (seqObj "list" #[] 0)):=ok.keep λb hb o e=>Y7 _ (Y7 _ (sb.extBut b o (by rintro rfl;rcases hb with h |h;exact h ha;exact h hm) e));rw[list_sort_plain];refine Y4 (listItems_at ho rfl (Y4 (listUpdate_at ho rfl ?_ (by rw[Zb,aaX];lia) (Zj _))));refine Y4 (seqEpoch_at g1 rfl (Y4 (wpAny_newTuple ?_ (by show vs.length<=_;rw[aaX];lia))));refine Y4 (wpAny_newList (ZP ?_) (Zj _));show wpAny (model G.P G.w) A _ P E { s with heap:=((s.heap.update a (ZM λ_=>(#[]:Array Value))).push (seqObj "tuple" vs.toArray 0)).push (seqObj "list" #[] 0) };dsimp only;by_cases h2:vs.toArray.size<2
  · have sY:vs.length<2:=(by simpa using h2);rw[if_pos h2,if_pos h2];refine Y4 (Y' ?_);rw[StateT.run_pure];refine Y4 (Y' ?_);dsimp only;have U0:(arrOf (SortSt.mk' general' (vs.toArray.zip vs.toArray) #[] 7 none)).map (·.2)=vs.toArray:=by
      show (vs.toArray.zip vs.toArray).map (·.2)=vs.toArray;apply Array.toList_inj.mp;rw[Array.toList_map,Array.toList_zip];simp only[List.toList_toArray];have zz:∀l:List Value,(l.zip l).map (·.2)=l:=λl=>(by induction l with |nil=>rfl |cons x l ih=>simp [ih]);exact zz vs
    rw[U0];refine Y4 (seqEpoch_at g6 rfl (Y4 (listUpdate_at g6 rfl ?_ (Zj _) (by rw[Zb,aaX];lia))));simp only[bne_self_eq_false,aam,if_false];have q:=h (ZL vs.length) (.refl _);have zz:(ZL vs.length).map (λi=>vs.getD i aac)=vs:=by
      refine List.ext_getElem (by simp) λi h1 h2=>?_;simp [Zm,Y5 h2]
    rw[zz]at q;exact Y' q
  · have sY : 2 ≤ vs.length := by have : ¬ vs.length < 2 := by simpa using h2
                                  lia
    rw[if_neg h2,if_neg h2];obtain⟨fs,f1,f2,f3⟩:=hT.my (P:=G.P) (w:=G.w) (s:={ s with heap:=((s.heap.update a (ZM λ_=>(#[]:Array Value))).push (seqObj "tuple" vs.toArray 0)).push (seqObj "list" #[] 0) }) ey;refine Y4 (kat_kind (T:=.type "str") f1 (by rw[f2];lia) f3 (by simp) ?_);have pp:=Kn.JE (lt:=iW ps) vs.length;refine Y4 (aa1 (kat_run (ks:=vs) (Q:=λst' s'=>arrOf st'=(krun (iW ps) (kas_sort vs.length)).map (kas_item (vs.toArray.zip vs.toArray))/\failedOf st'=none/\s'={ s with heap:=((s.heap.update a (ZM λ_=>(#[]:Array Value))).push (seqObj "tuple" vs.toArray 0)).push (seqObj "list" #[] 0) })
      (G:=λq s'=>q=krun (iW ps) (kas_sort vs.length)/\s'={ s with heap:=((s.heap.update a (ZM λ_=>(#[]:Array Value))).push (seqObj "tuple" vs.toArray 0)).push (seqObj "list" #[] 0) }) rfl sY g' (λq st' s' _ a2 a3 ⟨a4,Uy⟩=>⟨a4 ▸ a2,a3,Uy⟩) ?ask) ?_ λ_ _ e=>e)
    case ask=>
      refine Kn.zW (n:=vs.length) (R:=λ_=>True) (lt:=iW ps) (λi j C hi hj q=>?_) (Kn.JD (by lia)) ⟨rfl,rfl⟩;have hi':i<ps.length:=(by rw[<- hT.1];exact hi);have bn:j<ps.length:=(by rw[<- hT.1];exact hj);have U1:ps[i]?=some ps[i]:=Y5 hi';have UC:ps[j]?=some ps[j]:=Y5 bn;obtain⟨bi,XM,ti,YR,XN,a1,a2,a3,a4,Uy,U2,Vf⟩:=hT.2 i _ U1;obtain⟨VY,XO,YS,YT,XR,c1,c2,c3,c4,VZ,XS,YU⟩:=hT.2 j _ UC;unfold kas_ask;rw[Zm,Zm,a1,c1];refine kat_lt (ey.fz bi _ a2) a4 (ey.fz VY _ c2) c4 ?_;have e:iW ps i j=decide (ps[i].1.cps.toList<ps[j].1.cps.toList):=(by unfold iW;rw[Zm,Zm,U1,UC];rfl);rw[e]at q;refine kat_cons (lS 50 (d:=.str ps[i].1) (e:=.str ps[j].1) ey .str .str (by simp [aI]) (by lia) _ _ _ _ ?_);by_cases WK:i=j
      · subst WK;rw[lQ _ rfl];refine kat_yes (kat_cons (lS 50 ey (fC ey Uy U2) (fC ey VZ XS) Vf (by lia) _ _ _ _ ?_));rw[lQ _ U2];rw[decide_eq_false (List.lt_irrefl _)]at q;exact kat_yes (kat_nil (by simpa using q))
      · have ne:ps[i].1≠ps[j].1:=fun z=>WK ((List.getElem_inj (h₀:=by simpa using hi') (h₁:=by simpa using bn) nd).mp (by simpa using z));have e2:aw (.str ps[i].1) (.str ps[j].1)=false:=by
          show (some ps[j].1 == some ps[i].1)=false;simpa using ZO ne
        rw[e2];exact kat_no (oneLt_str q)
    rintro⟨⟨⟩,st'⟩ s' ⟨JG,hf,rfl⟩;dsimp only;have hout:=kat_snds rfl JG;rw[hout];have lp:(krun (iW ps) (kas_sort vs.length)).toList.length=vs.length:=(by rw[Zn,pp.size_eq];simp);refine Y4 (seqEpoch_at g6 rfl (Y4 (listUpdate_at g6 rfl ?_ (Zj _) (by rw[Zb,Y6,lp,aaX];lia))));rw[hf];simp only[bne_self_eq_false,aam,if_false];exact Y' (h _ (by have:=Array.perm_iff_toList_perm.mp pp;simpa using this))
end
def mz(t:DE):DE:=fun τ M q=>t τ M (sV λks ds M1=>ks.length<64/\(∀k∈ks,∃x,k=aae x)/\(∀d∈ds,aF d=true/\aI d<=50)/\∀ys:List (Key×D),ys.Perm (ks.zip ds)->cE (ys.map fI) M1 q)
section
variable{X:Cx}{o:Expr}{to:DE}{p1 q2 mv gp:Pos}
theorem JH{G:Gx}{F:Fz}{ks:List Key}{ds:List D}{u:Value}(r:aa G F (.au ks ds) u):ks.Nodup/\ds.length=ks.length:=by
 rw[aa]at r;obtain⟨a,o,us,rfl,h1,h2,h4,h3⟩:=r;exact⟨h2.nd,h3.len.trans h2.len⟩
theorem JI(hc:X.calm=true)(hu:X.A.units+110<cLine)(hg:Gl X "sorted")(hm:X.G.mg "sorted"=none)(ho:PE X o to)(iN:attributeBase o "items" X.env (eval o X.env)=eval o X.env)(db:(q2.endLine == gp.line)=true):
  PE X (.Call (.Name "sorted" p1) [.Call (.Attribute o "items" q2) [] [] gp] [] mv) (mz to):=fun τ z Q R I h k=>by
 refine Z7 (iy I hg hm (by decide +kernel:bootBuiltins "sorted"=some (.builtin "sorted")) (by decide) (by decide) ?_);refine PyProof.Rows.callWith_builtin1 ?_ (cW rfl) rfl;rw[cW (e:=.Call (.Attribute o "items" q2) [] [] gp) rfl];show W X (spliced ((false,eval (.Call (.Attribute o "items" q2) [] [] gp) X.env)::backTo mv (starEach [] X.env))) _ z.s;refine Calls.spliced_cons ?_;refine JB ho iN db I h λks ds a z1 v l1 I1 r1 iv q1=>?_;refine Calls.spliced_nil ?_;obtain⟨g',hk,hd,q⟩:=q1;obtain⟨nd,ln⟩:=JH r1;obtain⟨Vc,n,ep,vs,e,S,UA,lv,lo⟩:=sT I1 r1;cases e;obtain⟨Ad,rel,JJ,TW⟩:=S.bX Le.rfl I1.hok;have lz:(ks.zip ds).length=ks.length:=by rw[List.length_zip,ln,Nat.min_self]
 have hE:Ad.length=ks.length:=by rw[<- Paired.length rel,lz]
 refine aa' kind_sorted plain_sorted entry_sorted (args_sorted1 _) ?_;unfold Builtin.«sorted»;refine Y4 (m:=checkCount "sorted" 1 1 _) (Y' ?_);refine Y4 (kdx_collect (knd:=bR X.G.P X.G.w) (A:=X.A.in1) (I1.ok.hd hc) iv JJ (by rw[hE,aaX];lia) λh' tk as keep la Gp=>?_);obtain⟨l2,I2⟩:=I1.many (as:=as) (t:=tk) (λb o e=>keep b o e) λb hb=>aaj (Gp.above b hb);obtain⟨ss,oV⟩:∃ss:List Str,ks=ss.map aae:=by
  clear g' nd ln lz hE rel S r1 q
  induction ks with
  |nil=>exact⟨[],rfl⟩
  |cons k ks ih=>
   obtain⟨x,rfl⟩:=hk k Za;obtain⟨ss,rfl⟩:=ih λk hk'=>hk k (Zc _ hk');exact⟨x::ss,rfl⟩
 have item:∀(i:Nat)(pr:Key×D),(ks.zip ds)[i]?=some pr->∃b t u s,as[i]?=some b/\pr.1=aae s/\de z1.F as h' b=some (.dat { cls:=.type "tuple",data:=.seq #[.str s t,u] })/\aa X.G (de z1.F as h') pr.2 u:=λi pr hp=>by
  obtain⟨q,hq,e1,r2⟩:=sU rel hp;have hi:i<as.length:=by rw[la];exact (List.getElem?_eq_some_iff.mp hq).1
  have hb:as[i]?=some as[i]:=Y5 hi;obtain⟨key,kk,x,g1,g2,g3⟩:=Gp.pairs i _ hb;rw[hq]at g1;cases g1;have JK:pr.1∈ks:=(aa4 (show (pr.1,pr.2)∈ks.zip ds from Z4 hp)).1;obtain⟨s,hs⟩:=hk _ JK;have e3:kk=aae s:=e1.symm.trans hs;rw[e3]at g2;rcases ed (show gT (aae s) key=true from g2) with ⟨i,t,e,_⟩ |⟨y,t,e,e2⟩
  ·cases e
  ·cases e;subst e2;exact⟨_,t,x,s,hb,hs,sS (Z4 hb) g3,r2.up l2.d⟩
 have JL:(ss.zip ds).length=as.length:=by rw[la,hE,<- lz,oV,List.length_zip,List.length_zip,Y6]
 have XT:∀(i:Nat)(p:Str×D),(ss.zip ds)[i]?=some p->(ks.zip ds)[i]?=some (aae p.1,p.2):=λi p hp=>by
  rw[oV,List.zip_map_left,Zr,hp];rfl
 have JM:hB X.G (de z1.F as h') (as.map aaq) (ss.zip ds):=⟨by rw[Y6,JL],λi p hp=>by
  obtain⟨b,t,u,s,g1,g2,g3,g4⟩:=item i _ (XT i p hp);cases g2;obtain⟨U3,VC⟩:=hd _ (aa4 (show (p.1,p.2)∈ss.zip ds from Z4 hp)).2;exact⟨b,_,t,u,_,by rw[Zr,g1];rfl,g3,rfl,rfl,g4,U3,VC⟩⟩
 have JN:((ss.zip ds).map (·.1)).Nodup:=by
  rw[List.map_fst_zip (by rw[ln,oV,Y6];exact Y8 _)];rw[oV]at nd;exact (List.pairwise_map.mp nd).imp λh e=>h (congrArg aae e)
 have JO:(as.map aaq).length<=sizeLine:=by rw[Y6,la,hE,aaX];lia
 refine Y4 (wpAny_newList ?_ JO);have dr:(h'.push { cls:=.type "list",data:=.seq (as.map aaq).toArray }).get? h'.objs.size=some (seqObj "list" (as.map aaq).toArray 0):=Ze _ rfl;have nF:=I2.hok.cU (Y8 h'.objs.size);have nM:=I2.hok.dk (Y8 h'.objs.size);have sZ:ay X.G (de z1.F as h') z1.M (h'.push { cls:=.type "list",data:=.seq (as.map aaq).toArray }):=I2.hok.keep λb _ o e=>Y7 _ e;refine Y4 (ZP (ZW slot_list_sort ⟨_,dr,rfl⟩ entry_list_sort (JF (G:=X.G) (F:=de z1.F as h') (M:=z1.M) (by show X.A.units+1+1+60<cLine;lia) sZ nF nM dr JM JN (by rw[Y6,la,hE];lia) λp b1=>⟨_,rfl,?_⟩) (args_list_sort _)));refine Y' ⟨_,rfl,?_⟩;obtain⟨e,gj⟩:=sortedHeap_at (out:=(p.map λi=>(as.map aaq).getD i aac).toArray) dr;have lp:p.length=ks.length:=by rw[b1.length_eq,Z1,Y6,la,hE]
 have pm:(p.map λi=>(ks.zip ds).getD i (aae "",.az)).Perm (ks.zip ds):=by
  have:=b1.map λi=>(ks.zip ds).getD i (aae "",D.az);have zz:(ZL (as.map aaq).length).map (λi=>(ks.zip ds).getD i (aae "",D.az))=ks.zip ds:=by
   refine List.ext_getElem (by rw[Y6,Z1,Y6,la,hE,lz]) λi h1 h2=>?_;simp [Zm,Y5 h2]
  rw[zz]at this;exact this
 have rs:af X.G (de z1.F as h') ((p.map λi=>(ks.zip ds).getD i (aae "",D.az)).map fI) (p.map λi=>(as.map aaq).getD i aac):=by
  have go:∀p:List Nat,(∀i∈p,i<ks.length)->af X.G (de z1.F as h') ((p.map λi=>(ks.zip ds).getD i (aae "",D.az)).map fI) (p.map λi=>(as.map aaq).getD i aac):=λp hp=>by
   induction p with
   |nil=>exact .nil
   |cons i p ih=>
    refine .cons ?_ (ih λj hj=>hp j (Zc _ hj));have hi:i<(ks.zip ds).length:=(by rw[lz];exact hp i Za);have hz:(ks.zip ds)[i]?=some (ks.zip ds)[i]:=Y5 hi;obtain⟨b,t,u,s,g1,g2,g3,g4⟩:=item i _ hz;dsimp only;rw[Zm,Zm,hz,Zr,g1];show aa X.G _ (fI (ks.zip ds)[i]) (.ref b);rw[fI,g2];exact qV g3 ⟨rfl,rfl,⟨0,rfl⟩,by show 2<=sizeLine;decide⟩ (.cons lJ (.cons g4 .nil))
  exact go p λi hi=>by have:=b1.mem_iff.mp hi;rw[List.mem_range,Y6,la,hE]at this;exact this
 refine I2.lst (n:=e) (t:=tk) k (l1.tr l2) rs (λb o hb=>?_) (Y8 _) ?_ (by rw[Y6,lp,aaX];lia) (q _ pm)
 ·have a8:b<h'.objs.size:=Zv hb;rw[sortedHeap_old (Zw a8) (by rw[ZZ];exact aat a8)];exact Y7 _ hb
 ·rw[gj];rfl
end
end N
end
section
namespace Tm
open PySem PySem.W PyProof.Rows
noncomputable def s6:Bool->Keyed->Array Keyed->Nat->Nat->Nat->StateT SortSt Sem (Option Nat):=sortPriv% PySem.Builtin.gallop
noncomputable def Ae:Array Keyed->Array Keyed->StateT SortSt Sem (Array Keyed):=sortPriv% PySem.Builtin.mergeLo
noncomputable def Af:Array Keyed->Array Keyed->StateT SortSt Sem (Array Keyed):=sortPriv% PySem.Builtin.mergeHi
section
variable{M:Model}{A:Around}{E:Value->Shared->Prop}{s:Shared}{κ:SortKind}{S:Keyed->Prop}{L:Keyed->Keyed->Bool}
def e7(M:Model)(A:Around)(E:Value->Shared->Prop)(s:Shared)(κ:SortKind)(S:Keyed->Prop)(L:Keyed->Keyed->Bool):Prop:=
 ∀(x y:Keyed)(st:SortSt)(Q:Option Bool->SortSt->Prop),kindOf st=κ->S x->S y->Q (some (L x y)) st->wpS M A E s (lt' x y) Q st
theorem bT{arr:Array Keyed}{i:Nat}{st:SortSt}{Q:Keyed->SortSt->Prop}(h:i<arr.size)(q:Q arr[i] st):wpS M A E s (elem' arr i) Q st:=by
 rw[elem'_eq,Zp h];exact Zs q
noncomputable def ba(L:Keyed->Keyed->Bool)(left:Bool)(key x:Keyed):Bool:=if left=true then L x key else !(L key x)
theorem JP{left:Bool}{key:Keyed}{arr:Array Keyed}{i:Nat}{st:SortSt}{Q:Option Bool->SortSt->Prop}(C:e7 M A E s κ S L)(hk:kindOf st=κ)(h:i<arr.size)(sx:S arr[i])(sk:S key)(q:Q (some (ba L left key arr[i])) st):
  wpS M A E s (do let x <- elem' arr i;if left=true then lt' x key else do let r <- lt' key x;pure (r.map (!·))) Q st:=by
 refine Zk (bT h ?_);cases left with
 |true=>exact C _ _ _ _ hk sx sk q
 |false=>exact Zk (C _ _ _ _ hk sk sx (Zs q))
theorem Ag{n:Nat}{B:Nat->Bool}{st:SortSt}{f:Nat->(Option (Option Nat)×Nat×Nat)->StateT SortSt Sem (ForInStep (Option (Option Nat)×Nat×Nat))}{Q:(Option (Option Nat)×Nat×Nat)->SortSt->Prop}{lo hi:Nat}
  (mono:∀i j,i<=j->j<n->B j=true->B i=true) (h1:lo<=hi) (h2:hi<=n) (h3:∀i,i<lo->B i=true) (h4:∀i,hi<=i->i<n->B i=false)
  (hf:∀(t lo hi:Nat)(R:ForInStep (Option (Option Nat)×Nat×Nat)->SortSt->Prop),lo<=hi->hi<=n->(hi<=lo->R (.done (none,lo,hi)) st) ->
   (lo<hi->(B (lo+(hi-lo) / 2)=true->R (.yield (none,lo+(hi-lo) / 2+1,hi)) st)/\(B (lo+(hi-lo) / 2)=false->R (.yield (none,lo,lo+(hi-lo) / 2)) st))->wpS M A E s (f t (none,lo,hi)) R st)
  (q:∀k,k<=n->(∀i,i<k->B i=true)->(∀i,k<=i->i<n->B i=false)->Q (none,k,k) st):wpS M A E s (forIn [:n] (none,lo,hi) f) Q st:=by
 refine aaO (Z2 (I:=λt c st'=>∃lo hi,c=(none,lo,hi)/\st'=st/\lo<=hi/\hi<=n/\hi-lo<=n-t/\(∀i,i<lo->B i=true)/\(∀i,hi<=i->i<n->B i=false))
  (Q:=λc st'=>∃k,c=(none,k,k)/\st'=st/\k<=n/\(∀i,i<k->B i=true)/\(∀i,k<=i->i<n->B i=false)) ?step ?fin ⟨lo,hi,rfl,rfl,h1,h2,by lia,h3,h4⟩) ?post
 case fin=>
  rintro c st' ⟨lo,hi,rfl,rfl,a1,a2,a3,a4,Uy⟩;have:lo=hi:=by lia
  subst this;exact⟨lo,rfl,rfl,a2,a4,Uy⟩
 case step=>
  rintro t c st' _ ht ⟨lo,hi,rfl,rfl,a1,a2,a3,a4,Uy⟩;refine hf t lo hi _ a1 a2 (λbY=>?_) (λa8=>⟨λe=>?_,λe=>?_⟩)
  ·have:lo=hi:=(by lia);subst this;exact⟨lo,rfl,rfl,a2,a4,Uy⟩
  ·exact⟨_,_,rfl,rfl,by lia,a2,by lia,λi hi'=>mono i _ (by lia) (by lia) e,Uy⟩
  ·refine⟨_,_,rfl,rfl,by lia,by lia,by lia,a4,λi h5 h6=>?_⟩;cases e':B i with
   |false=>rfl
   |true=>rw[mono _ i h5 h6 e']at e;cases e
 case post=>
  rintro c st' ⟨k,rfl,rfl,a2,a4,Uy⟩;exact q k a2 a4 Uy
theorem JQ{left:Bool}{key:Keyed}{arr:Array Keyed}{base n hint:Nat}{st:SortSt}{Q:Option Nat->SortSt->Prop}(C:e7 M A E s κ S L)(hk:kindOf st=κ)(sk:S key)(hz:base+n<=arr.size)(hS:∀ i(h:i<arr.size),S arr[i])(hh:hint<n)
  (B:Nat->Bool) (UT:∀i(h:base+i<arr.size),i<n->ba L left key arr[base+i]=B i) (mono:∀i j,i<=j->j<n->B j=true->B i=true)
  (q:∀k,k<=n->(∀i,i<k->B i=true)->(∀i,k<=i->i<n->B i=false)->Q (some k) st):wpS M A E s (s6 left key arr base n hint) Q st:=by
 have ask:∀(i:Nat)(Q:Option Bool->SortSt->Prop),i<n->Q (some (B i)) st->wpS M A E s (do let x <- elem' arr (base+i);if left=true then lt' x key else do let r <- lt' key x;pure (r.map (!·))) Q st:=λi Q hi h=>by
  have gU:base+i<arr.size:=by lia
  exact JP C hk gU (hS _ gU) sk (by rw[UT i gU hi];exact h)
 have Ah:∀i j,i<=j->j<n->B i=false->B j=false:=λi j bZ hj h=>by
  cases e:B j with
  |false=>rfl
  |true=>rw[mono i j bZ hj e]at h;cases h
 unfold s6;refine Zk (ask hint _ hh ?_);dsimp only;cases e0:B hint with
 |true=>
  rw[if_pos rfl];refine Zk (aaO (Z2 (I:=λt c st'=>∃ce ap,c=(none,ce,ap)/\st'=st/\ce<ap/\t+1<=ap/\hint+ce<n/\B (hint+ce)=true)
   (Q:=λc st'=>∃ce ap,c=(none,ce,ap)/\st'=st/\ce<ap/\hint+ce<n/\B (hint+ce)=true/\(ap ≥ n-hint\/(hint+ap<n/\B (hint+ap)=false))) ?step ?fin ⟨0,1,rfl,rfl,by lia,by lia,hh,e0⟩) ?post)
  case fin=>
   rintro c st' ⟨lo,ap,rfl,rfl,a1,a2,a3,a4⟩;exact⟨lo,ap,rfl,rfl,a1,a3,a4,.inl (by lia)⟩
  case step=>
   rintro t c st' _ ht ⟨lo,ap,rfl,rfl,a1,a2,a3,a4⟩;dsimp only;by_cases bY:ap ≥ n-hint
   ·rw[if_pos bY];exact Zs ⟨lo,ap,rfl,rfl,a1,a3,a4,.inl bY⟩
   ·rw[if_neg bY];refine Zk (ask _ _ (by lia) ?_);dsimp only;cases e:B (hint+ap) with
    |true=>exact Zs ⟨_,_,rfl,rfl,by lia,by lia,by lia,e⟩
    |false=>exact Zs ⟨_,_,rfl,rfl,a1,a3,a4,.inr ⟨by lia,e⟩⟩
  case post=>
   rintro c st' ⟨lo,ap,rfl,rfl,a1,a3,a4,Uy⟩;dsimp only;refine Zk (Ag (B:=B) mono ?_ ?_ (λi hi=>mono i (hint+lo) (by lia) a3 a4) (λi h5 h6=>?_) (λt lo hi R l1 l2 r1 r2=>?_) λk k1 k2 k3=>Zs (q k k1 k2 k3))
   ·lia
   ·lia
   ·rcases Uy with Uy |Uy
    ·lia
    ·exact Ah (hint+ap) i (by lia) h6 Uy.2
   ·dsimp only;by_cases bY:lo ≥ hi
    ·rw[if_pos bY];exact Zs (r1 bY)
    ·rw[if_neg bY];refine Zk (ask _ _ (by lia) ?_);cases e:B (lo+(hi-lo) / 2) with
     |true=>exact Zs ((r2 (by lia)).1 e)
     |false=>exact Zs ((r2 (by lia)).2 e)
 |false=>
  rw[if_neg (by decide)];refine Zk (aaO (Z2 (I:=λt c st'=>∃ce ap,c=(none,ce,ap)/\st'=st/\ce<ap/\t+1<=ap/\ce<=hint/\B (hint-ce)=false)
   (Q:=λc st'=>∃ce ap,c=(none,ce,ap)/\st'=st/\ce<ap/\ce<=hint/\B (hint-ce)=false/\(ap ≥ hint+1\/(ap<=hint/\B (hint-ap)=true))) ?step ?fin ⟨0,1,rfl,rfl,by lia,by lia,by lia,e0⟩) ?post)
  case fin=>
   rintro c st' ⟨lo,ap,rfl,rfl,a1,a2,a3,a4⟩;exact⟨lo,ap,rfl,rfl,a1,a3,a4,.inl (by lia)⟩
  case step=>
   rintro t c st' _ ht ⟨lo,ap,rfl,rfl,a1,a2,a3,a4⟩;dsimp only;by_cases bY:ap ≥ hint+1
   ·rw[if_pos bY];exact Zs ⟨lo,ap,rfl,rfl,a1,a3,a4,.inl bY⟩
   ·rw[if_neg bY];refine Zk (ask _ _ (by lia) ?_);dsimp only;cases e:B (hint-ap) with
    |true=>exact Zs ⟨_,_,rfl,rfl,a1,a3,a4,.inr ⟨by lia,e⟩⟩
    |false=>exact Zs ⟨_,_,rfl,rfl,by lia,by lia,by lia,e⟩
  case post=>
   rintro c st' ⟨lo,ap,rfl,rfl,a1,a3,a4,Uy⟩;dsimp only;refine Zk (Ag (B:=B) mono ?_ ?_ (λi hi=>?_) (λi h5 h6=>Ah (hint-lo) i (by lia) h6 a4) (λt lo hi R l1 l2 r1 r2=>?_) λk k1 k2 k3=>Zs (q k k1 k2 k3))
   ·lia
   ·lia
   ·rcases Uy with Uy |Uy
    ·lia
    ·exact mono i (hint-ap) (by lia) (by lia) Uy.2
   ·dsimp only;by_cases bY:lo ≥ hi
    ·rw[if_pos bY];exact Zs (r1 bY)
    ·rw[if_neg bY];refine Zk (ask _ _ (by lia) ?_);cases e:B (lo+(hi-lo) / 2) with
     |true=>exact Zs ((r2 (by lia)).1 e)
     |false=>exact Zs ((r2 (by lia)).2 e)
end
structure dZ(S:Keyed->Prop)(L:Keyed->Keyed->Bool):Prop where
 du:∀x y,S x->S y->L x y=true->L y x=false
 trans:∀x y z,S x->S y->S z->L y x=false->L z y=false->L z x=false
def bf(L:Keyed->Keyed->Bool)(l:List Keyed):Prop:=l.Pairwise λx y=>L y x=false
section
variable{S:Keyed->Prop}{L:Keyed->Keyed->Bool}{la lb out:List Keyed}{ia ib:Nat}
def MI(L:Keyed->Keyed->Bool)(la lb out:List Keyed)(ia ib:Nat):Prop:=
 out.Perm (la.take ia++lb.take ib)/\bf L out/\(∀x∈out,∀y∈la.drop ia,L y x=false)/\∀x∈out,∀y∈lb.drop ib,L y x=false
theorem oX{l:List Keyed}{i:Nat}(h:bf L l)(hi:i<l.length):∀y∈l.drop (i+1),L y l[i]=false:=by
 have h':bf L (l.drop i):=aai (List.drop_sublist _ _) h;rw[Zz hi]at h';exact (List.pairwise_cons.mp h').1
theorem Ai{l:List Keyed}{i:Nat}{y:Keyed}(h:y∈l.drop (i+1)):y∈l.drop i:=by
 rw[show l.drop (i+1)=(l.drop i).drop 1 by rw[List.drop_drop]]at h;exact aaK h
theorem s7{l:List Keyed}{i:Nat}(h:i<l.length):l[i]∈l.drop i:=by rw[Zz h];exact Za
theorem MI.a(hl:bf L la)(h:MI L la lb out ia ib)(hi:ia<la.length)(le:∀y∈lb.drop ib,L y la[ia]=false):MI L la lb (out++[la[ia]]) (ia+1) ib:=by
 obtain⟨h1,h2,h3,h4⟩:=h;refine⟨?_,List.pairwise_append.mpr ⟨h2,ZT _ _,λx U y hy=>?_⟩,λx U y hy=>?_,λx U y hy=>?_⟩
 ·rw[ZV,Y5 hi];show (out++[la[ia]]).Perm (la.take ia++[la[ia]]++lb.take ib);refine (h1.append_right _).trans ?_;rw[Zl,Zl];exact ZR _ aa3
 ·rw[List.mem_singleton.mp hy];exact h3 x U _ (s7 hi)
 ·rcases List.mem_append.mp U with z |z
  ·exact h3 x z y (Ai hy)
  ·rw[List.mem_singleton.mp z];exact oX hl hi y hy
 ·rcases List.mem_append.mp U with z |z
  ·exact h4 x z y hy
  ·rw[List.mem_singleton.mp z];exact le y hy
theorem MI.b(hl:bf L lb)(h:MI L la lb out ia ib)(hi:ib<lb.length)(le:∀y∈la.drop ia,L y lb[ib]=false):MI L la lb (out++[lb[ib]]) ia (ib+1):=by
 obtain⟨h1,h2,h3,h4⟩:=h;refine⟨?_,List.pairwise_append.mpr ⟨h2,ZT _ _,λx U y hy=>?_⟩,λx U y hy=>?_,λx U y hy=>?_⟩
 ·rw[ZV,Y5 hi];show (out++[lb[ib]]).Perm (la.take ia++(lb.take ib++[lb[ib]]));rw[<- Zl];exact h1.append_right _
 ·rw[List.mem_singleton.mp hy];exact h4 x U _ (s7 hi)
 ·rcases List.mem_append.mp U with z |z
  ·exact h3 x z y hy
  ·rw[List.mem_singleton.mp z];exact le y hy
 ·rcases List.mem_append.mp U with z |z
  ·exact h4 x z y (Ai hy)
  ·rw[List.mem_singleton.mp z];exact oX hl hi y hy
theorem oY{l:List Keyed}{i k:Nat}(h:i+k<l.length):(l.drop i).take (k+1)=(l.drop i).take k++[l[i+k]]:=by
 rw[ZV,List.getElem?_drop,Y5 h];rfl
theorem MI.as(hl:bf L la)(h:MI L la lb out ia ib):∀k,ia+k<=la.length->(∀i(hi:ia+i<la.length),i<k->∀y∈lb.drop ib,L y la[ia+i]=false)->MI L la lb (out++(la.drop ia).take k) (ia+k) ib
 | 0,_,_=>by simpa using h
 |k+1,hk,le=>by
  have ih:=MI.as hl h k (by lia) λi hi gr=>le i hi (by lia);have:=ih.a hl (show ia+k<la.length by lia) (le k (by lia) (by lia));rw[oY (by lia),<- Zl];exact this
theorem MI.bs(hl:bf L lb)(h:MI L la lb out ia ib):∀k,ib+k<=lb.length->(∀i(hi:ib+i<lb.length),i<k->∀y∈la.drop ia,L y lb[ib+i]=false)->MI L la lb (out++(lb.drop ib).take k) ia (ib+k)
 | 0,_,_=>by simpa using h
 |k+1,hk,le=>by
  have ih:=MI.bs hl h k (by lia) λi hi gr=>le i hi (by lia);have:=ih.b hl (show ib+k<lb.length by lia) (le k (by lia) (by lia));rw[oY (by lia),<- Zl];exact this
def Mg(L:Keyed->Keyed->Bool)(la lb r:List Keyed):Prop:=r.Perm (la++lb)/\bf L r
theorem MI.s8(hl:bf L la)(h:MI L la lb out ia ib)(e:ib=lb.length):Mg L la lb (out++la.drop ia++lb.drop ib):=by
 obtain⟨h1,h2,h3,h4⟩:=h;subst e;rw[List.drop_length,Zu];rw[aba]at h1;refine⟨?_,List.pairwise_append.mpr ⟨h2,aai (List.drop_sublist _ _) hl,h3⟩⟩;refine (h1.append_right _).trans ?_;rw[Zl];refine (ZR _ aa3).trans ?_;rw[<- Zl,ZA]
theorem MI.s9(hl:bf L lb)(h:MI L la lb out ia ib)(e:ia=la.length):Mg L la lb (out++la.drop ia++lb.drop ib):=by
 obtain⟨h1,h2,h3,h4⟩:=h;subst e;rw[List.drop_length,Zu];rw[aba]at h1;refine⟨?_,List.pairwise_append.mpr ⟨h2,aai (List.drop_sublist _ _) hl,h4⟩⟩;refine (h1.append_right _).trans ?_;rw[Zl,ZA]
theorem MI.JR(hl:bf L lb)(h:MI L la lb out ia ib)(e:ia+1=la.length)(le:∀y∈lb,L la[ia] y=false):Mg L la lb (out++lb.drop ib++la.drop ia):=by
 obtain⟨h1,h2,h3,h4⟩:=h;have hd:la.drop ia=[la[ia]]:=by rw[Zz (by lia),aaA (by lia)]
 refine⟨?_,?_⟩
 ·rw[Zl];refine (h1.append_right _).trans ?_;rw[Zl];have:(lb.take ib++(lb.drop ib++la.drop ia)).Perm (la.drop ia++lb):=by
   rw[<- Zl,ZA];exact aa3
  refine (ZR _ this).trans ?_;rw[<- Zl,ZA]
 ·rw[Zl];refine List.pairwise_append.mpr ⟨h2,List.pairwise_append.mpr ⟨aai (List.drop_sublist _ _) hl,by rw[hd];exact ZT _ _,λx U y hy=>?_⟩,λx U y hy=>?_⟩
  ·rw[hd]at hy;rw[List.mem_singleton.mp hy];exact le x (aaK U)
  ·rcases List.mem_append.mp hy with z |z
   ·exact h4 x U y z
   ·exact h3 x U y z
end
def cw(st st':SortSt):Prop:=kindOf st'=kindOf st/\arrOf st'=arrOf st/\pendingOf st'=pendingOf st/\failedOf st'=failedOf st
theorem cw.refl(st:SortSt):cw st st:=⟨rfl,rfl,rfl,rfl⟩
theorem cw.trans{a b c:SortSt}(h:cw a b)(k:cw b c):cw a c:=⟨k.1.trans h.1,k.2.1.trans h.2.1,k.2.2.1.trans h.2.2.1,k.2.2.2.trans h.2.2.2⟩
theorem j5(a:Array Keyed)(i:Nat):(a.extract i).toList=a.toList.drop i:=by
 rw[Array.toList_extract];simp only[List.extract];rw[List.take_of_length_le (by simp)]
theorem oZ(a:Array Keyed)(i k:Nat):(a.extract i (i+k)).toList=(a.toList.drop i).take k:=by
 rw[Array.toList_extract];simp [List.extract]
section
variable{M:Model}{A:Around}{E:Value->Shared->Prop}{s:Shared}{κ:SortKind}{S:Keyed->Prop}{L:Keyed->Keyed->Bool}
theorem Aj{f:SortSt->SortSt}{st:SortSt}{Q:PUnit->SortSt->Prop}(P:SortSt->Prop)(h:P (f st))(q:∀st',P st'->Q ⟨⟩ st'):wpS M A E s (modify f) Q st:=wpS_modify (q _ h)
theorem Ak{α ρ:Type}{X:StateT SortSt Sem ρ}{Q:ρ->SortSt->Prop}{st:SortSt}(f:Unit->α->StateT SortSt Sem ρ)(P:α->SortSt->Prop)(h:∀y st',P y st'->wpS M A E s (f () y) Q st')(g:(∀y st',P y st'->wpS M A E s (f () y) Q st')->wpS M A E s X Q st):wpS M A E s X Q st:=g h
theorem o4{α β ρ:Type}{X:StateT SortSt Sem ρ}{Q:ρ->SortSt->Prop}{st:SortSt}(f:Unit->α->β->StateT SortSt Sem ρ)(P:α->β->Prop)(h:∀x y,P x y->wpS M A E s (f () x y) Q st)(g:(∀x y,P x y->wpS M A E s (f () x y) Q st)->wpS M A E s X Q st):wpS M A E s X Q st:=g h
theorem j6{left:Bool}{key:Keyed}{arr:Array Keyed}{base n hint:Nat}{st:SortSt}{Q:Option Nat->SortSt->Prop}(C:e7 M A E s κ S L)(O:dZ S L)(hk:kindOf st=κ)(sk:S key)(hz:base+n<=arr.size)(hS:∀ i(h:i<arr.size),S arr[i])(hh:hint<n)
  (hs:∀i j(hi:base+i<arr.size)(hj:base+j<arr.size),i<j->j<n->L arr[base+j] arr[base+i]=false)
  (q:∀k,k<=n->(∀i(h:base+i<arr.size),i<k->ba L left key arr[base+i]=true)->(∀i(h:base+i<arr.size),k<=i->i<n->ba L left key arr[base+i]=false)->Q (some k) st):wpS M A E s (s6 left key arr base n hint) Q st:=by
 have UT:∀i(h:base+i<arr.size),(if h:base+i<arr.size then ba L left key arr[base+i] else false)=ba L left key arr[base+i]:=λi h=>dif_pos h
 refine JQ C hk sk hz hS hh (λi=>if h:base+i<arr.size then ba L left key arr[base+i] else false) (λi h _=>(UT i h).symm) (λi j bZ hj e=>?_) λk k1 k2 k3=>q k k1 (λi h hi=>by rw[<- UT i h];exact k2 i hi) (λi h h1 h2=>by rw[<- UT i h];exact k3 i h1 h2)
 have zj:base+j<arr.size:=by lia
 have zi:base+i<arr.size:=by lia
 rw[UT j zj]at e;rw[UT i zi];by_cases JS:i=j
 ·subst JS;exact e
 have l:=hs i j zi zj (by lia) hj;unfold ba at e ⊢;cases left with
 |true=>
  rw[if_pos rfl]at e ⊢;cases z:L arr[base+i] key with
  |true=>rfl
  |false=>rw[O.trans key _ _ sk (hS _ zi) (hS _ zj) z l]at e;cases e
 |false=>
  rw[if_neg (by decide)]at e ⊢;have e':L key arr[base+j]=false:=by simpa using e
  rw[O.trans _ _ key (hS _ zi) (hS _ zj) sk l e'];rfl
theorem JT{a b : Array Keyed}{st : SortSt}{Q : Array Keyed -> SortSt -> Prop}(C : e7 M A E s κ S L)(O : dZ S L)(hk : kindOf st = κ)(bG : ∀ i(h : i < a.size), S a[i])(bK : ∀ i(h : i < b.size), S b[i])
    (ha:bf L a.toList) (hb:bf L b.toList) (na:0<a.size) (nb:0<b.size) (h0:∀x∈a.toList,L b[0] x=true) (h1:∀y∈b.toList,L y a[a.size-1]=true)
    (q:∀r st',cw st st'->Mg L a.toList b.toList r.toList->Q r st'):wpS M A E s (Ae a b) Q st:=by
  have La:a.toList.length=a.size:=Zn;have Lb:b.toList.length=b.size:=Zn;have Sa:∀ x∈a.toList,S x:=λx U=>by
    obtain⟨i,hi,rfl⟩:=aax U;rw[Zo];exact bG i (by lia)
  have Sb:∀ x∈b.toList,S x:=λx U=>by
    obtain⟨i,hi,rfl⟩:=aax U;rw[Zo];exact bK i (by lia)
  -- JU TX TY is not bP
  have iY:∀(ia:Nat)(h:ia<a.size)(z:Keyed),S z->L a[ia] z=false->∀ y∈a.toList.drop ia,L y z=false:=λia h z sz e y hy=>by
    rw[Zz (by lia)]at hy;rcases List.mem_cons.mp hy with rfl |hy
    · rw[Zo];exact e
    · have:=oX ha (show ia<a.toList.length by lia) y hy;rw[Zo]at this;exact O.trans _ _ _ sz (bG ia h) (Sa y (aaK hy)) e this
  have iZ:∀(ib:Nat)(h:ib<b.size)(z:Keyed),S z->L b[ib] z=false->∀ y∈b.toList.drop ib,L y z=false:=λib h z sz e y hy=>by
    rw[Zz (by lia)]at hy;rcases List.mem_cons.mp hy with rfl |hy
    · rw[Zo];exact e
    · have:=oX hb (show ib<b.toList.length by lia) y hy;rw[Zo]at this;exact O.trans _ _ _ sz (bK ib h) (Sb y (aaK hy)) e this
  have td:∀ i j(hi:i<a.size)(hj:j<a.size),i<j->L a[j] a[i]=false:=λi j hi hj bZ=>by
    have:=List.pairwise_iff_getElem.mp ha i j (by lia) (by lia) bZ;simpa using this
  have tf:∀ i j(hi:i<b.size)(hj:j<b.size),i<j->L b[j] b[i]=false:=λi j hi hj bZ=>by
    have:=List.pairwise_iff_getElem.mp hb i j (by lia) (by lia) bZ;simpa using this
  -- io TZ o0
  have j7:∀(out:Array Keyed)(ia ib:Nat),MI L a.toList b.toList out.toList ia ib->ib=b.size->Mg L a.toList b.toList (out++a.extract ia++b.extract ib).toList:=λout ia ib h e=>by
    rw[ZD,ZD,j5,j5];exact h.s8 ha (by lia)
  have j8:∀(out:Array Keyed)(ia ib:Nat),MI L a.toList b.toList out.toList ia ib->ia=a.size->Mg L a.toList b.toList (out++a.extract ia++b.extract ib).toList:=λout ia ib h e=>by
    rw[ZD,ZD,j5,j5];exact h.s9 hb (by lia)
  have o5:∀(out:Array Keyed)(ia ib:Nat),MI L a.toList b.toList out.toList ia ib->ia+1=a.size->Mg L a.toList b.toList (out++b.extract ib++a.extract ia).toList:=λout ia ib h e=>by
    rw[ZD,ZD,j5,j5];refine h.JR hb (by lia) λy hy=>?_;have e1:=h1 y hy;have e2:a.toList[ia]'(by lia)=a[a.size-1]:=by
      rw[Zo]
      congr 1;lia
    rw[e2];exact O.du _ _ (Sb y hy) (bG _ (by lia)) e1
  have j9:∀(out:Array Keyed)(ia ib:Nat)(h:ia<a.size),MI L a.toList b.toList out.toList ia ib->(∀ y∈b.toList.drop ib,L y a[ia]=false)->MI L a.toList b.toList (out.push a[ia]).toList (ia+1) ib:=λout ia ib h m le=>by
    have:=m.a ha (show ia<a.toList.length by lia) (by rw[Zo];exact le);rw[Zo]at this;rw[aas];exact this
  have j':∀(out:Array Keyed)(ia ib:Nat)(h:ib<b.size),MI L a.toList b.toList out.toList ia ib->(∀ y∈a.toList.drop ia,L y b[ib]=false)->MI L a.toList b.toList (out.push b[ib]).toList ia (ib+1):=λout ia ib h m le=>by
    have:=m.b hb (show ib<b.toList.length by lia) (by rw[Zo];exact le);rw[Zo]at this;rw[aas];exact this
  have m0:MI L a.toList b.toList (#[b[0]]:Array Keyed).toList 0 1:=by
    have tj:MI L a.toList b.toList (#[]:Array Keyed).toList 0 0:=⟨by simp,List.Pairwise.nil,λx U=>by simp at U,λx U=>by simp at U⟩;exact j' #[] 0 0 nb tj λy hy=>O.du _ _ (bK 0 nb) (Sa y (aaK hy)) (h0 y (aaK hy))
  unfold Ae;refine Zk (wpS_lift (aaR ⟨rfl,?_⟩));refine Zk (bT nb ?_);dsimp -zeta -zetaHave only;by_cases e1:(1 == b.size)=true
  · rw[if_pos e1];exact Zs (q _ _ (.refl _) (j7 _ _ _ m0 (by simpa using e1)))
  rw[if_neg e1];by_cases e2:(0+1 == a.size)=true
  · rw[if_pos e2];exact Zs (q _ _ (.refl _) (o5 _ _ _ m0 (by simpa using e2)))
  rw[if_neg e2]
  have ka : 1 < b.size := by have : 1 ≠ b.size := by simpa using e1
                             lia
  have tm : 0 + 1 < a.size := by have : 1 ≠ a.size := by simpa using e2
                                 lia
  refine Zk (wpS_get ?_);refine Zk (aaO (Z2 (I:=λt c st'=>∃ out ia ib mg,c=(none,out,ia,ib,mg)/\cw st st'/\MI L a.toList b.toList out.toList ia ib/\ia+1<a.size/\ib<b.size/\t+1<=ia+ib)
    (Q:=λc st'=>∃r out ia ib mg,c=(some r,out,ia,ib,mg)/\cw st st'/\Mg L a.toList b.toList r.toList) ?step ?fin ⟨_,_,_,_,rfl,.refl _,m0,tm,ka,Y8 _⟩) ?post)
  case fin=>
    rintro c st' ⟨out,ia,ib,mg,rfl,g,m,l1,l2,l3⟩;lia
  case post=>
    rintro c st' ⟨r,out,ia,ib,mg,rfl,g,m⟩;exact Zs (q _ _ g m)
  case step=>
    rintro t c am _ ht ⟨out,ia,ib,mg,rfl,g1,m1,l1,l2,l3⟩;have o6:kindOf am=κ:=g1.1.trans hk;dsimp -zeta -zetaHave only;refine Zk (aaO (Z2 (I:=λu c st'=>∃ out ia ib Uw bc,c=(none,out,ia,ib,Uw,bc)/\st'=am/\MI L a.toList b.toList out.toList ia ib/\ia+1<a.size/\ib<b.size/\t+1<=ia+ib/\(1<=u->t+2<=ia+ib))
      (Q:=λc st'=>st'=am/\((∃r out ia ib Uw bc,c=(some r,out,ia,ib,Uw,bc)/\Mg L a.toList b.toList r.toList)\/∃out ia ib Uw bc,c=(none,out,ia,ib,Uw,bc)/\MI L a.toList b.toList out.toList ia ib/\ia+1<a.size/\ib<b.size/\t+2<=ia+ib)) ?mC ?mD ⟨_,_,_,_,_,rfl,rfl,m1,l1,l2,l3,by lia⟩) ?mE)
    case mD=>
      rintro c st' ⟨out,ia,ib,Uw,bc,rfl,rfl,m,k1,k2,k3,k4⟩;exact⟨rfl,.inr ⟨_,_,_,_,_,rfl,m,k1,k2,k4 (by lia)⟩⟩
    case mC=>
      rintro u c st' _ hu ⟨out,ia,ib,Uw,bc,rfl,rfl,m,k1,k2,k3,k4⟩;dsimp -zeta -zetaHave only;refine Zk (bT k2 ?_);have za:ia<a.size:=Nat.lt_of_succ_lt k1;refine Zk (bT za ?_);refine Zk (C _ _ _ _ o6 (bK _ k2) (bG _ za) ?_);dsimp -zeta -zetaHave only;cases Vg:L b[ib] a[ia] with
      | true=>
        rw[if_pos rfl];refine Zk (bT k2 ?_);have m':=j' out ia ib k2 m (iY ia (by lia) _ (bK _ k2) (O.du _ _ (bK _ k2) (bG _ (by lia)) Vg));by_cases z:(ib+1 == b.size)=true
        · rw[if_pos z];exact Zs ⟨rfl,.inl ⟨_,_,_,_,_,_,rfl,j7 _ _ _ m' (by simpa using z)⟩⟩
        · rw[if_neg z]
          have z' : ib + 1 < b.size := by have : ib + 1 ≠ b.size := by simpa using z
                                          lia
          split
          · exact Zs ⟨rfl,.inr ⟨_,_,_,_,_,rfl,m',k1,z',by lia⟩⟩
          · exact Zs ⟨_,_,_,_,_,rfl,rfl,m',k1,z',by lia,λ_=>by lia⟩
      | false=>
        rw[if_neg (by decide)];refine Zk (bT (show ia<a.size by lia) ?_);have m':=j9 out ia ib (by lia) m (iZ ib k2 _ (bG _ (by lia)) Vg);by_cases z:(ia+1+1 == a.size)=true
        · rw[if_pos z];exact Zs ⟨rfl,.inl ⟨_,_,_,_,_,_,rfl,o5 _ _ _ m' (by simpa using z)⟩⟩
        · rw[if_neg z]
          have z' : ia + 1 + 1 < a.size := by have : ia + 1 + 1 ≠ a.size := by simpa using z
                                              lia
          split
          · exact Zs ⟨rfl,.inr ⟨_,_,_,_,_,rfl,m',z',k2,by lia⟩⟩
          · exact Zs ⟨_,_,_,_,_,rfl,rfl,m',z',k2,by lia,λ_=>by lia⟩
    case mE=>
      rintro c st' ⟨rfl,⟨r,out,ia,ib,Uw,bc,rfl,m⟩ |⟨out,ia,ib,Uw,bc,rfl,m,k1,k2,k3⟩⟩
      · exact Zs ⟨_,_,_,_,_,rfl,g1,m⟩
      dsimp -zeta -zetaHave only;refine Zk (wpS_lift (aaR ⟨rfl,?_⟩));refine Zk (aaO (Z2 (I:=λu c d0=>∃ out ia ib mg Uw bc,c=(none,out,ia,ib,mg,Uw,bc)/\cw st d0/\MI L a.toList b.toList out.toList ia ib/\ia+1<a.size/\ib<b.size/\t+2<=ia+ib)
        (Q:=λc d0=>cw st d0/\((∃r out ia ib mg Uw bc,c=(some r,out,ia,ib,mg,Uw,bc)/\Mg L a.toList b.toList r.toList)\/∃out ia ib mg Uw bc,c=(none,out,ia,ib,mg,Uw,bc)/\MI L a.toList b.toList out.toList ia ib/\ia+1<a.size/\ib<b.size/\t+2<=ia+ib)) ?tq ?tt ⟨_,_,_,_,_,_,rfl,g1,m,k1,k2,k3⟩) ?tw)
      case tt=>
        rintro c d0 ⟨out,ia,ib,mg,Uw,bc,rfl,g,m,k1,k2,k3⟩;exact⟨g,.inr ⟨_,_,_,_,_,_,rfl,m,k1,k2,k3⟩⟩
      case tw=>
        rintro c d0 ⟨g,⟨r,out,ia,ib,mg,Uw,bc,rfl,m⟩ |⟨out,ia,ib,mg,Uw,bc,rfl,m,k1,k2,k3⟩⟩
        · exact Zs ⟨_,_,_,_,_,rfl,g,m⟩
        dsimp -zeta -zetaHave only;refine Zk (wpS_modify ?_);exact Zs ⟨_,_,_,_,rfl,g.trans ⟨rfl,rfl,rfl,rfl⟩,m,k1,k2,k3⟩
      case tq=>
        rintro u c st2 _ hu ⟨out,ia,ib,mg,Uw,bc,rfl,g2,m,k1,k2,k3⟩;have key:∀(x y:Keyed),ba L false x y=true->L x y=false:=λx y h=>(by simpa [ba] using h);have kb:∀(x y:Keyed),ba L false x y=false->L x y=true:=λx y h=>(by simpa [ba] using h);have mF:∀(x y:Keyed),ba L true x y=true->L y x=true:=λx y h=>(by simpa [ba] using h);have kc:∀(x y:Keyed),ba L true x y=false->L y x=false:=λx y h=>(by simpa [ba] using h);dsimp -zeta -zetaHave only
        extract_lets a1 a2 a3 a4 Uy U2 Vf V0 V1 V2 U4 b1 mG b2
        refine Ak mG (λ_ st'=>cw st st') (λJV bL g3=>?_) λH=>?_
        case refine_2=>split <;> exact H _ _ g2
        dsimp -zeta -zetaHave only[mG,b1,a1,a2,a3,a4,Uy,U2,Vf,V0,V1,V2,U4];refine Zk (Aj (cw st) (g3.trans ⟨rfl,rfl,rfl,rfl⟩) λJW g4=>?_);refine Zk (bT k2 ?_);refine Zk (j6 (left:=false) C O (g4.1.trans hk) (bK _ k2) (by lia) bG (by lia) (λi j hi hj bZ mH=>td _ _ hi hj (by lia)) λk kn Vh kf=>?_);dsimp -zeta -zetaHave only
        extract_lets c1 mI c2 c3
        refine o4 mI (λ(o2:Array Keyed)i2=>MI L a.toList b.toList o2.toList i2 ib/\i2+1<a.size/\(∀y∈a.toList.drop i2,L y b[ib]=false)/\ia<=i2) (λo2 i2 h=>?_) λH=>?_
        case refine_2=>
          rcases Nat.eq_zero_or_pos k with z |z
          · rw[if_neg (by lia)];exact H _ _ ⟨m,k1,iY ia (by lia) _ (bK _ k2) (O.du _ _ (bK _ k2) (bG _ (by lia)) (kb _ _ (kf 0 (by lia) (by lia) (by lia)))),Y8 _⟩
          rw[if_pos z];have mX:MI L a.toList b.toList (out++a.extract ia (ia+k)).toList (ia+k) ib:=by
            rw[ZD,oZ];refine m.as ha k (by lia) λi hi gr=>?_;rw[Zo];exact iZ ib k2 _ (bG _ (by lia)) (key _ _ (Vh i (by lia) gr))
          split
          · rename_i z1;exact Zs ⟨g4,.inl ⟨_,_,_,_,_,_,_,rfl,o5 _ _ _ mX (by simpa using z1)⟩⟩
          split
          · rename_i z2;exact Zs ⟨g4,.inl ⟨_,_,_,_,_,_,_,rfl,j8 _ _ _ mX (by simpa using z2)⟩⟩
          rename_i z1 z2;have kX:ia+k+1<a.size:=by
            have t1:ia+k+1≠a.size:=(by simpa using z1);have t2:ia+k≠a.size:=(by simpa using z2);lia
          exact H _ _ ⟨mX,kX,iY (ia+k) (by lia) _ (bK _ k2) (O.du _ _ (bK _ k2) (bG _ (by lia)) (kb _ _ (kf k (by lia) (by lia) (by lia)))),Z0 _ _⟩
        obtain⟨mX,kX,tx,XU⟩:=h;dsimp -zeta -zetaHave only[mI];refine Zk (bT k2 ?_);have m2:=j' _ _ ib k2 mX tx
        extract_lets U3
        split
        · rename_i z;exact Zs ⟨g4,.inl ⟨_,_,_,_,_,_,_,rfl,j7 _ _ _ m2 (by simpa using z)⟩⟩
        rename_i z
        have z' : ib + 1 < b.size := by have : ib + 1 ≠ b.size := by simpa using z
                                        lia
        have iX:=Nat.lt_of_succ_lt kX;refine Zk (bT iX ?_);refine Zk (j6 (left:=true) C O (g4.1.trans hk) (bG _ iX) (by lia) bK (by lia) (λi j hi hj bZ mH=>tf _ _ hi hj (by lia)) λk' JX mJ o7=>?_);dsimp -zeta -zetaHave only
        extract_lets e1 mK e2 e3
        refine o4 mK (λ(o3:Array Keyed)j3=>MI L a.toList b.toList o3.toList i2 j3/\j3<b.size/\(∀y∈b.toList.drop j3,L y a[i2]=false)/\ib+1<=j3) (λo3 j3 h=>?_) λH=>?_
        case refine_2=>
          rcases Nat.eq_zero_or_pos k' with z |z
          · rw[if_neg (by lia)];exact H _ _ ⟨m2,z',iZ (ib+1) z' _ (bG _ iX) (kc _ _ (o7 0 (by lia) (by lia) (by lia))),Y8 _⟩
          rw[if_pos z];have mY:=m2.bs hb k' (by lia) λi hi gr=>by
            rw[Zo];exact iY _ iX _ (bK _ (by lia)) (O.du _ _ (bK _ (by lia)) (bG _ iX) (mF _ _ (mJ i (by lia) gr)))
          rw[<- oZ,<- ZD]at mY;split
          · rename_i z3;exact Zs ⟨g4,.inl ⟨_,_,_,_,_,_,_,rfl,j7 _ _ _ mY (by simpa using z3)⟩⟩
          rename_i z3
          have kY : ib + 1 + k' < b.size := by have : ib + 1 + k' ≠ b.size := by simpa using z3
                                               lia
          exact H _ _ ⟨mY,kY,iZ (ib+1+k') kY _ (bG _ iX) (kc _ _ (o7 k' (by lia) (by lia) (by lia))),Z0 _ _⟩
        obtain⟨mY,kY,tz,XW⟩:=h;dsimp -zeta -zetaHave only[mK];refine Zk (bT iX ?_);have m3:=j9 _ _ _ iX mY tz;dsimp only;split
        · rename_i z4;exact Zs ⟨g4,.inl ⟨_,_,_,_,_,_,_,rfl,o5 _ _ _ m3 (by simpa using z4)⟩⟩
        · rename_i z4;simp only[beq_iff_eq]at z4;split
          · exact Zs ⟨g4,.inr ⟨_,_,_,_,_,_,rfl,m3,by lia,kY,by lia⟩⟩
          · exact Zs ⟨_,_,_,_,_,_,rfl,g4,m3,by lia,kY,by lia⟩
end
section
variable{S:Keyed->Prop}{L:Keyed->Keyed->Bool}{la lb lo:List Keyed}{na nb:Nat}
def MH(L:Keyed->Keyed->Bool)(la lb lo:List Keyed)(na nb:Nat):Prop:=
 lo.Perm (la.drop na++lb.drop nb)/\bf L lo/\(∀x∈la.take na,∀y∈lo,L y x=false)/\∀x∈lb.take nb,∀y∈lo,L y x=false
theorem o8{l:List Keyed}{i:Nat}(h:bf L l)(hi:i<l.length):∀x∈l.take i,L l[i] x=false:=by
 have h':bf L (l.take i++l.drop i):=by rw[ZA];exact h
 intro x U;exact (List.pairwise_append.mp h').2.2 x U _ (s7 hi)
theorem Al{l:List Keyed}{i:Nat}{y:Keyed}(h:y∈l.take i):y∈l.take (i+1):=by
 rw[ZV];exact ZG _ h
theorem Am{l:List Keyed}{i:Nat}(h:i<l.length):l[i]∈l.take (i+1):=by
 rw[ZV,Y5 h];exact List.mem_append_right _ (by simp)
theorem MH.a(hl:bf L la)(h:MH L la lb lo (na+1) nb)(hi:na<la.length)(le:∀x∈lb.take nb,L la[na] x=false):MH L la lb (la[na]::lo) na nb:=by
 obtain⟨h1,h2,h3,h4⟩:=h;refine⟨?_,List.pairwise_cons.mpr ⟨λy hy=>h3 _ (Am hi) y hy,h2⟩,λx U y hy=>?_,λx U y hy=>?_⟩
 ·rw[Zz hi];exact h1.cons _
 ·rcases List.mem_cons.mp hy with rfl |hy
  ·exact o8 hl hi x U
  ·exact h3 x (Al U) y hy
 ·rcases List.mem_cons.mp hy with rfl |hy
  ·exact le x U
  ·exact h4 x U y hy
theorem MH.b(hl:bf L lb)(h:MH L la lb lo na (nb+1))(hi:nb<lb.length)(le:∀x∈la.take na,L lb[nb] x=false):MH L la lb (lb[nb]::lo) na nb:=by
 obtain⟨h1,h2,h3,h4⟩:=h;refine⟨?_,List.pairwise_cons.mpr ⟨λy hy=>h4 _ (Am hi) y hy,h2⟩,λx U y hy=>?_,λx U y hy=>?_⟩
 ·rw[Zz hi];exact (h1.cons _).trans List.perm_middle.symm
 ·rcases List.mem_cons.mp hy with rfl |hy
  ·exact le x U
  ·exact h3 x U y hy
 ·rcases List.mem_cons.mp hy with rfl |hy
  ·exact o8 hl hi x U
  ·exact h4 x (Al U) y hy
theorem MH.as(hl:bf L la):∀(k:Nat){lo:List Keyed},MH L la lb lo (na+k) nb->na+k<=la.length->(∀i(hi:na+i<la.length),i<k->∀x∈lb.take nb,L la[na+i] x=false)->MH L la lb ((la.drop na).take k++lo) na nb
 | 0,lo,h,_,_=>by simpa using h
 |k+1,lo,h,hk,le=>by
  have:=MH.as hl k (MH.a hl h (show na+k<la.length by lia) (le k (by lia) (by lia))) (by lia) λi hi gr=>le i hi (by lia);rw[oY (by lia),Zl];exact this
theorem MH.bs(hl:bf L lb):∀(k:Nat){lo:List Keyed},MH L la lb lo na (nb+k)->nb+k<=lb.length->(∀i(hi:nb+i<lb.length),i<k->∀x∈la.take na,L lb[nb+i] x=false)->MH L la lb ((lb.drop nb).take k++lo) na nb
 | 0,lo,h,_,_=>by simpa using h
 |k+1,lo,h,hk,le=>by
  have:=MH.bs hl k (MH.b hl h (show nb+k<lb.length by lia) (le k (by lia) (by lia))) (by lia) λi hi gr=>le i hi (by lia);rw[oY (by lia),Zl];exact this
theorem MH.JY{An:Nat}(h:MH L la lb lo na nb)(e:An=nb):MH L la lb lo na An:=by rw[e];exact h
theorem MH.s9(hl:bf L lb)(h:MH L la lb lo na nb)(e:na=0):Mg L la lb (la.take na++lb.take nb++lo):=by
 obtain⟨h1,h2,h3,h4⟩:=h;subst e;rw[List.take_zero,aaw];refine⟨?_,List.pairwise_append.mpr ⟨aai (List.take_sublist _ _) hl,h2,h4⟩⟩;refine (ZR _ h1).trans ?_;rw[List.drop_zero,<- Zl];refine (List.Perm.append_right _ aa3).trans ?_;rw[Zl,ZA]
theorem MH.s8(hl:bf L la)(h:MH L la lb lo na nb)(e:nb=0):Mg L la lb (la.take na++lb.take nb++lo):=by
 obtain⟨h1,h2,h3,h4⟩:=h;subst e;rw[List.take_zero,Zu];refine⟨?_,List.pairwise_append.mpr ⟨aai (List.take_sublist _ _) hl,h2,h3⟩⟩;refine (ZR _ h1).trans ?_;rw[List.drop_zero,<- Zl,ZA]
theorem MH.JZ(hl:bf L la)(h:MH L la lb lo na nb)(e:nb=1)(z:0<lb.length)(le:∀x∈la,L x lb[0]=false):Mg L la lb (lb.take nb++la.take na++lo):=by
 obtain⟨h1,h2,h3,h4⟩:=h;subst e;have hd:lb.take 1=[lb[0]]:=by rw[show (1:Nat)=0+1 from rfl,ZV,Y5 z];rfl
 refine⟨?_,?_⟩
 ·refine (ZR _ h1).trans ?_;rw[Zl];refine (aa3).trans ?_;rw[<- Zl,ZA,Zl];refine ZR _ (List.perm_append_comm.trans ?_);rw[ZA]
 ·rw[Zl];refine List.pairwise_append.mpr ⟨by rw[hd];exact ZT _ _,List.pairwise_append.mpr ⟨aai (List.take_sublist _ _) hl,h2,h3⟩,λx U y hy=>?_⟩;rcases List.mem_append.mp hy with w |w
  ·rw[hd]at U;rw[List.mem_singleton.mp U];exact le y (aah w)
  ·exact h4 x U y w
end
theorem ke(a:Array Keyed)(i:Nat):(a.extract 0 i).toList=a.toList.take i:=by
 rw[Array.toList_extract];simp [List.extract]
theorem i3(a:Array Keyed){i j:Nat}(h:i<=j):(a.extract i j).toList=(a.toList.drop i).take (j-i):=by
 rw[Array.toList_extract]
theorem J0(u:Array Keyed)(v:Array Keyed):(u++v.reverse).toList.reverse=v.toList++u.toList.reverse:=by
 rw[ZD,aa7,abc,List.reverse_reverse]
section
variable{M:Model}{A:Around}{E:Value->Shared->Prop}{s:Shared}{κ:SortKind}{S:Keyed->Prop}{L:Keyed->Keyed->Bool}
theorem J1{a b : Array Keyed}{st : SortSt}{Q : Array Keyed -> SortSt -> Prop}(C : e7 M A E s κ S L)(O : dZ S L)(hk : kindOf st = κ)(bG : ∀ i(h : i < a.size), S a[i])(bK : ∀ i(h : i < b.size), S b[i])
    (ha:bf L a.toList) (hb:bf L b.toList) (na:0<a.size) (nb:0<b.size) (h0:∀x∈a.toList,L b[0] x=true) (h1:∀y∈b.toList,L y a[a.size-1]=true)
    (q:∀r st',cw st st'->Mg L a.toList b.toList r.toList->Q r st'):wpS M A E s (Af a b) Q st:=by
  have La:a.toList.length=a.size:=Zn;have Lb:b.toList.length=b.size:=Zn;have Sa:∀ x∈a.toList,S x:=λx U=>by
    obtain⟨i,hi,rfl⟩:=aax U;rw[Zo];exact bG i (by lia)
  have Sb:∀ x∈b.toList,S x:=λx U=>by
    obtain⟨i,hi,rfl⟩:=aax U;rw[Zo];exact bK i (by lia)
  have iY:∀(i:Nat)(h:i<a.size)(z:Keyed),S z->L z a[i]=false->∀ x∈a.toList.take (i+1),L z x=false:=λi h z sz e x U=>by
    rw[ZV,Y5 (by lia)]at U;rcases List.mem_append.mp U with w |w
    · have:=o8 ha (show i<a.toList.length by lia) x w;rw[Zo]at this;exact O.trans _ _ _ (Sa x (aah w)) (bG i h) sz this e
    · have:x=a[i]:=(by simpa using w);rw[this];exact e
  have iZ:∀(i:Nat)(h:i<b.size)(z:Keyed),S z->L z b[i]=false->∀ x∈b.toList.take (i+1),L z x=false:=λi h z sz e x U=>by
    rw[ZV,Y5 (by lia)]at U;rcases List.mem_append.mp U with w |w
    · have:=o8 hb (show i<b.toList.length by lia) x w;rw[Zo]at this;exact O.trans _ _ _ (Sb x (aah w)) (bK i h) sz this e
    · have:x=b[i]:=(by simpa using w);rw[this];exact e
  have td:∀ i j(hi:i<a.size)(hj:j<a.size),i<j->L a[j] a[i]=false:=λi j hi hj bZ=>by
    have:=List.pairwise_iff_getElem.mp ha i j (by lia) (by lia) bZ;simpa using this
  have tf:∀ i j(hi:i<b.size)(hj:j<b.size),i<j->L b[j] b[i]=false:=λi j hi hj bZ=>by
    have:=List.pairwise_iff_getElem.mp hb i j (by lia) (by lia) bZ;simpa using this
  have j8:∀(out:Array Keyed)(n m:Nat),MH L a.toList b.toList out.toList.reverse n m->n=0->Mg L a.toList b.toList (a.extract 0 n++b.extract 0 m++out.reverse).toList:=λout n m h e=>by
    rw[ZD,ZD,ke,ke,aa7];exact h.s9 hb e
  have j7:∀(out:Array Keyed)(n m:Nat),MH L a.toList b.toList out.toList.reverse n m->m=0->Mg L a.toList b.toList (a.extract 0 n++b.extract 0 m++out.reverse).toList:=λout n m h e=>by
    rw[ZD,ZD,ke,ke,aa7];exact h.s8 ha e
  have pe:∀(out:Array Keyed)(n m:Nat),MH L a.toList b.toList out.toList.reverse n m->m=1->Mg L a.toList b.toList (b.extract 0 m++a.extract 0 n++out.reverse).toList:=λout n m h e=>by
    rw[ZD,ZD,ke,ke,aa7];refine h.JZ ha e (by lia) λx U=>?_;rw[Zo];exact O.du _ _ (bK 0 nb) (Sa x U) (h0 x U)
  have j9:∀(out:Array Keyed)(n m:Nat)(h:n-1<a.size),0<n->MH L a.toList b.toList out.toList.reverse n m->(∀ x∈b.toList.take m,L a[n-1] x=false)->MH L a.toList b.toList (out.push a[n-1]).toList.reverse (n-1) m:=λout n m h hn mh le=>by
    rw[aas,abc];have e:n=n-1+1:=(by lia);rw[e]at mh;have:=MH.a ha mh (show n-1<a.toList.length by lia) (by rw[Zo];exact le);rw[Zo]at this;exact this
  have j':∀(out:Array Keyed)(n m:Nat)(h:m-1<b.size),0<m->MH L a.toList b.toList out.toList.reverse n m->(∀ x∈a.toList.take n,L b[m-1] x=false)->MH L a.toList b.toList (out.push b[m-1]).toList.reverse n (m-1):=λout n m h hm mh le=>by
    rw[aas,abc];have e:m=m-1+1:=(by lia);rw[e]at mh;have:=MH.b hb mh (show m-1<b.toList.length by lia) (by rw[Zo];exact le);rw[Zo]at this;exact this
  have m0:MH L a.toList b.toList (#[a[a.size-1]]:Array Keyed).toList.reverse (a.size-1) b.size:=by
    have tj:MH L a.toList b.toList (#[]:Array Keyed).toList.reverse a.size b.size:=⟨by rw[aaA (by lia),aaA (by lia)];simp,List.Pairwise.nil,λx _ y hy=>by simp at hy,λx _ y hy=>by simp at hy⟩;exact j9 #[] a.size b.size (by lia) na tj λx U=>O.du _ _ (Sb x (aah U)) (bG _ (by lia)) (h1 x (aah U))
  have key:∀(x y:Keyed),ba L false x y=true->L x y=false:=λx y h=>by simpa [ba] using h
  have kb:∀(x y:Keyed),ba L false x y=false->L x y=true:=λx y h=>by simpa [ba] using h
  have mF:∀(x y:Keyed),ba L true x y=true->L y x=true:=λx y h=>by simpa [ba] using h
  have kc:∀(x y:Keyed),ba L true x y=false->L y x=false:=λx y h=>by simpa [ba] using h
  have J2:∀(z:Keyed),S z->∀ k',k'<=b.size->(∀ i(h:0+i<b.size),i<k'->ba L true z b[0+i]=true)->∀ x∈b.toList.take k',L z x=false:=λz sz k' hk' mJ x U=>by
    obtain⟨i,hi,e⟩:=aax U;rw[aaU]at hi;rw[List.getElem_take,Zo]at e;have h9:=mF _ _ (mJ i (by lia) (by lia));have J3:b[0+i]'(by lia)=x:=(by rw[<- e];congr 1;lia);rw[J3]at h9;exact O.du _ _ (Sb x (aah U)) sz h9
  unfold Af;refine Zk (wpS_lift (aaR ⟨rfl,?_⟩));refine Zk (bT (show a.size-1<a.size by lia) ?_);dsimp -zeta -zetaHave only;by_cases e1:(a.size-1 == 0)=true
  · rw[if_pos e1];exact Zs (q _ _ (.refl _) (j8 _ _ _ m0 (by simpa using e1)))
  rw[if_neg e1];by_cases e2:(b.size == 1)=true
  · rw[if_pos e2];exact Zs (q _ _ (.refl _) (pe _ _ _ m0 (by simpa using e2)))
  rw[if_neg e2]
  have ka : 0 < a.size - 1 := by have : a.size - 1 ≠ 0 := by simpa using e1
                                 lia
  have tm : 1 < b.size := by have : b.size ≠ 1 := by simpa using e2
                             lia
  refine Zk (wpS_get ?_);refine Zk (aaO (Z2 (I:=λt c st'=>∃ n m out mg,c=(none,n,m,out,mg)/\cw st st'/\MH L a.toList b.toList out.toList.reverse n m/\0<n/\1<m/\n<=a.size/\m<=b.size/\t+n+m+1<=a.size+b.size)
    (Q:=λc st'=>∃r n m out mg,c=(some r,n,m,out,mg)/\cw st st'/\Mg L a.toList b.toList r.toList) ?step ?fin ⟨_,_,_,_,rfl,.refl _,m0,ka,tm,by lia,by lia,by lia⟩) ?post)
  case fin=>
    rintro c st' ⟨n,m,out,mg,rfl,g,mh,l1,l2,l3,l4,l5⟩;lia
  case post=>
    rintro c st' ⟨r,n,m,out,mg,rfl,g,mh⟩;exact Zs (q _ _ g mh)
  case step=>
    rintro t c am _ ht ⟨n,m,out,mg,rfl,g1,m1,l1,l2,l3,l4,l5⟩;have o6:kindOf am=κ:=g1.1.trans hk;dsimp -zeta -zetaHave only;refine Zk (aaO (Z2 (I:=λu c st'=>∃ n m out Uw bc,c=(none,n,m,out,Uw,bc)/\st'=am/\MH L a.toList b.toList out.toList.reverse n m/\0<n/\1<m/\n<=a.size/\m<=b.size/\t+n+m+1<=a.size+b.size/\(1<=u->t+n+m+2<=a.size+b.size))
      (Q:=λc st'=>st'=am/\((∃r n m out Uw bc,c=(some r,n,m,out,Uw,bc)/\Mg L a.toList b.toList r.toList)\/∃n m out Uw bc,c=(none,n,m,out,Uw,bc)/\MH L a.toList b.toList out.toList.reverse n m/\0<n/\1<m/\n<=a.size/\m<=b.size/\t+n+m+2<=a.size+b.size)) ?mC ?mD ⟨_,_,_,_,_,rfl,rfl,m1,l1,l2,l3,l4,l5,by lia⟩) ?mE)
    case mD=>
      rintro c st' ⟨n,m,out,Uw,bc,rfl,rfl,mh,k1,k2,k3,k4,k5,WL⟩;exact⟨rfl,.inr ⟨_,_,_,_,_,rfl,mh,k1,k2,k3,k4,WL (by lia)⟩⟩
    case mC=>
      rintro u c st' _ hu ⟨n,m,out,Uw,bc,rfl,rfl,mh,k1,k2,k3,k4,k5,WL⟩;dsimp -zeta -zetaHave only;have zb:m-1<b.size:=(by lia);have za:n-1<a.size:=(by lia);have em:m=m-1+1:=(by lia);have en:n=n-1+1:=(by lia);refine Zk (bT zb ?_);refine Zk (bT za ?_);refine Zk (C _ _ _ _ o6 (bK _ zb) (bG _ za) ?_);dsimp -zeta -zetaHave only;cases Vg:L b[m-1] a[n-1] with
      | true=>
        rw[if_pos rfl];refine Zk (bT za ?_);have m':=j9 out n m za k1 mh (by rw[em];exact iZ (m-1) zb _ (bG _ za) (O.du _ _ (bK _ zb) (bG _ za) Vg));by_cases z:(n-1 == 0)=true
        · rw[if_pos z];exact Zs ⟨rfl,.inl ⟨_,_,_,_,_,_,rfl,j8 _ _ _ m' (by simpa using z)⟩⟩
        · rw[if_neg z]
          have z' : 0 < n - 1 := by have : n - 1 ≠ 0 := by simpa using z
                                    lia
          split
          · exact Zs ⟨rfl,.inr ⟨_,_,_,_,_,rfl,m',z',k2,by lia,k4,by lia⟩⟩
          · exact Zs ⟨_,_,_,_,_,rfl,rfl,m',z',k2,by lia,k4,by lia,λ_=>by lia⟩
      | false=>
        rw[if_neg (by decide)];refine Zk (bT zb ?_);have m':=j' out n m zb (by lia) mh (by rw[en];exact iY (n-1) za _ (bK _ zb) Vg);by_cases z:(m-1 == 1)=true
        · rw[if_pos z];exact Zs ⟨rfl,.inl ⟨_,_,_,_,_,_,rfl,pe _ _ _ m' (by simpa using z)⟩⟩
        · rw[if_neg z]
          have z' : 1 < m - 1 := by have : m - 1 ≠ 1 := by simpa using z
                                    lia
          split
          · exact Zs ⟨rfl,.inr ⟨_,_,_,_,_,rfl,m',k1,z',k3,by lia,by lia⟩⟩
          · exact Zs ⟨_,_,_,_,_,rfl,rfl,m',k1,z',k3,by lia,by lia,λ_=>by lia⟩
    case mE=>
      rintro c st' ⟨rfl,⟨r,n,m,out,Uw,bc,rfl,mh⟩ |⟨n,m,out,Uw,bc,rfl,mh,k1,k2,k3,k4,k5⟩⟩
      · exact Zs ⟨_,_,_,_,_,rfl,g1,mh⟩
      dsimp -zeta -zetaHave only;refine Zk (wpS_lift (aaR ⟨rfl,?_⟩));refine Zk (aaO (Z2 (I:=λu c d0=>∃ n m out mg Uw bc,c=(none,n,m,out,mg,Uw,bc)/\cw st d0/\MH L a.toList b.toList out.toList.reverse n m/\0<n/\1<m/\n<=a.size/\m<=b.size/\t+n+m+2<=a.size+b.size)
        (Q:=λc d0=>cw st d0/\((∃r n m out mg Uw bc,c=(some r,n,m,out,mg,Uw,bc)/\Mg L a.toList b.toList r.toList)\/∃n m out mg Uw bc,c=(none,n,m,out,mg,Uw,bc)/\MH L a.toList b.toList out.toList.reverse n m/\0<n/\1<m/\n<=a.size/\m<=b.size/\t+n+m+2<=a.size+b.size)) ?tq ?tt ⟨_,_,_,_,_,_,rfl,g1,mh,k1,k2,k3,k4,k5⟩) ?tw)
      case tt=>
        rintro c d0 ⟨n,m,out,mg,Uw,bc,rfl,g,mh,k⟩;exact⟨g,.inr ⟨_,_,_,_,_,_,rfl,mh,k⟩⟩
      case tw=>
        rintro c d0 ⟨g,⟨r,n,m,out,mg,Uw,bc,rfl,mh⟩ |⟨n,m,out,mg,Uw,bc,rfl,mh,k1,k2,k3,k4,k5⟩⟩
        · exact Zs ⟨_,_,_,_,_,rfl,g,mh⟩
        dsimp -zeta -zetaHave only;refine Zk (wpS_modify ?_);exact Zs ⟨_,_,_,_,rfl,g.trans ⟨rfl,rfl,rfl,rfl⟩,mh,k1,k2,k3,k4,by dsimp only;lia⟩
      case tq=>
        rintro u c st2 _ hu ⟨n,m,out,mg,Uw,bc,rfl,g2,mh,k1,k2,k3,k4,k5⟩;have zb:m-1<b.size:=(by lia);have em:m=m-1+1:=(by lia);dsimp -zeta -zetaHave only
        extract_lets a1 a2 a3 a4 Uy U2 Vf V0 V1 V2 U4 b1 mG b2
        refine Ak mG (λ_ st'=>cw st st') (λJV bL g3=>?_) λH=>?_
        case refine_2=>split <;> exact H _ _ g2
        dsimp -zeta -zetaHave only[mG,b1,a1,a2,a3,a4,Uy,U2,Vf,V0,V1,V2,U4];refine Zk (Aj (cw st) (g3.trans ⟨rfl,rfl,rfl,rfl⟩) λJW g4=>?_);refine Zk (bT zb ?_);refine Zk (j6 (left:=false) C O (g4.1.trans hk) (bK _ zb) (by lia) bG (by lia) (λi j hi hj bZ mH=>td _ _ hi hj (by lia)) λk kn Vh kf=>?_);dsimp -zeta -zetaHave only;have Ao:∀ x∈a.toList.take k,L b[m-1] x=false:=λx U=>by
          obtain⟨i,hi,rfl⟩:=aax U;rw[aaU]at hi;rw[List.getElem_take,Zo];have:=key _ _ (Vh i (by lia) (by lia));simpa using this
        extract_lets c1 c2 mI c3 c4
        refine o4 mI (λi2(o2:Array Keyed)=>MH L a.toList b.toList o2.toList.reverse i2 m/\0<i2/\i2<=a.size/\(∀x∈a.toList.take i2,L b[m-1] x=false)/\i2<=n) (λi2 o2 h=>?_) λH=>?_
        case refine_2=>
          by_cases z:n-k > 0
          · rw[if_pos z];have mX:=MH.as (na:=k) (lo:=out.toList.reverse) ha (n-k) (by rw[show k+(n-k)=n by lia];exact mh) (by lia) fun i hi gr=>by
              rw[Zo,em];have h9:=kb _ _ (kf (k+i) (by lia) (by lia) (by lia));refine iZ (m-1) zb _ (bG _ (by lia)) (O.du _ _ (bK _ zb) (bG _ (by lia)) ?_);simpa using h9
            have XX:(out++(a.extract k n).reverse).toList.reverse=(a.toList.drop k).take (n-k)++out.toList.reverse:=by
              rw[ZD,aa7,abc,List.reverse_reverse,i3 a (by lia)]
            rw[<- XX]at mX;split
            · rename_i z1;exact Zs ⟨g4,.inl ⟨_,_,_,_,_,_,_,rfl,j8 _ _ _ mX (by simpa using z1)⟩⟩
            rename_i z1
            have kX : 0 < k := by have : k ≠ 0 := by simpa using z1
                                  lia
            exact H _ _ ⟨mX,kX,by lia,Ao,kn⟩
          · rw[if_neg z];have Vi:k=n:=(by lia);exact H _ _ ⟨mh,k1,k3,Vi ▸ Ao,Y8 _⟩
        obtain⟨mX,kX,J4,tx,XU⟩:=h;dsimp -zeta -zetaHave only[mI];refine Zk (bT zb ?_);have m2:=j' _ _ m zb (by lia) mX tx
        extract_lets U3
        split
        · rename_i z;exact Zs ⟨g4,.inl ⟨_,_,_,_,_,_,_,rfl,pe _ _ _ m2 (by simpa using z)⟩⟩
        rename_i z
        have z' : 1 < m - 1 := by have : m - 1 ≠ 1 := by simpa using z
                                  lia
        have za:=Zq (Nat.sub_lt kX Nat.one_pos) J4;refine Zk (bT za ?_);refine Zk (j6 (left:=true) C O (g4.1.trans hk) (bG _ za) (by lia) bK (by lia) (λi j hi hj bZ mH=>tf _ _ hi hj (by lia)) λk' JX mJ o7=>?_);dsimp -zeta -zetaHave only;have Aq:=iY _ za;rw[Nat.sub_add_cancel kX]at Aq;have Ar:=J2 _ (bG _ za) k' (by lia) mJ
        extract_lets e1 e2 mK e3 e4
        refine o4 mK (λj3(o3:Array Keyed)=>MH L a.toList b.toList o3.toList.reverse i2 j3/\1<j3/\j3<=m-1/\∀x∈b.toList.take j3,L a[i2-1] x=false) (λj3 o3 h=>?_) λH=>?_
        case refine_2=>
          by_cases z:m-1-k' > 0
          · rw[if_pos z];have mY:=MH.bs hb (m-1-k') (m2.JY (show k'+(m-1-k')=m-1 by lia)) (by lia) fun i hi gr=>by
              rw[Zo];have h9:=kc _ _ (o7 (k'+i) (by lia) (by lia) (by lia));refine Aq _ (bK _ (by lia)) ?_;simpa using h9
            rw[<- i3 b (show k'<=m-1 by lia),<- J0]at mY;split
            · rename_i z5;exact Zs ⟨g4,.inl ⟨_,_,_,_,_,_,_,rfl,pe _ _ _ mY (by simpa using z5)⟩⟩
            split
            · rename_i z5;exact Zs ⟨g4,.inl ⟨_,_,_,_,_,_,_,rfl,j7 _ _ _ mY (by simpa using z5)⟩⟩
            rename_i z5 z6;simp only[beq_iff_eq]at z5 z6;exact H _ _ ⟨mY,by lia,by lia,Ar⟩
          · rw[if_neg z];have Vi:k'=m-1:=(by lia);exact H _ _ ⟨m2,z',Y8 _,Vi ▸ Ar⟩
        obtain⟨mY,kY,XW,tz⟩:=h;dsimp -zeta -zetaHave only[mK];refine Zk (bT za ?_);have m3:=j9 _ _ _ za kX mY tz;dsimp only;split
        · rename_i z4;exact Zs ⟨g4,.inl ⟨_,_,_,_,_,_,_,rfl,j8 _ _ _ m3 (by simpa using z4)⟩⟩
        · rename_i z4;simp only[beq_iff_eq]at z4;split
          · exact Zs ⟨g4,.inr ⟨_,_,_,_,_,_,rfl,m3,by lia,kY,by lia,by lia,by lia⟩⟩
          · exact Zs ⟨_,_,_,_,_,_,rfl,g4,m3,by lia,kY,by lia,by lia,by lia⟩
end
theorem As:∀(l:List Keyed)(n o:Nat)(arr:Array Keyed),o+n+l.length<=arr.size->((l.zipIdx n).foldl (λa(p:Keyed×Nat)=>a.setIfInBounds (o+p.2) p.1) arr).toList=arr.toList.take (o+n)++l++arr.toList.drop (o+n+l.length)
 |[],n,o,arr,_=>by simp
 |x::l,n,o,arr,h=>by
  have hl:(x::l).length=l.length+1:=rfl;have hz:o+n<arr.size:=by lia
  rw[List.zipIdx_cons,List.foldl_cons];have ih:=As l (n+1) o (arr.setIfInBounds (o+n) x) (by rw[Array.size_setIfInBounds];lia);rw[ih,Array.toList_setIfInBounds,hl];have e1:(arr.toList.set (o+n) x).take (o+(n+1))=arr.toList.take (o+n)++[x]:=by
   rw[show o+(n+1)=o+n+1 by lia,ZV,List.take_set_of_le (Y8 _),List.getElem?_set_self (by simpa using hz)];rfl
  have e2:(arr.toList.set (o+n) x).drop (o+(n+1)+l.length)=arr.toList.drop (o+n+(l.length+1)):=by
   rw[List.drop_set_of_lt (by lia)]
   congr 1;lia
  rw[e1,e2];simp
section
variable{S:Keyed->Prop}{L:Keyed->Keyed->Bool}
theorem J5{X1 X2 Y1 Y2 Z:List Keyed}(hX:bf L (X1++X2))(V3:bf L (Y1++Y2))(Au:∀ x∈X1,∀ y∈Y1++Y2,L y x=false)(J6:∀ y∈Y2,∀ x∈X2,L y x=false)(UP:Mg L X2 Y1 Z):
  bf L (X1++Z++Y2)/\(X1++Z++Y2).Perm (X1++X2++(Y1++Y2)):=by
 obtain⟨z1,z2⟩:=UP;obtain⟨a1,a2,a3⟩:=List.pairwise_append.mp hX;obtain⟨b1,b2,b3⟩:=List.pairwise_append.mp V3;refine⟨?_,?_⟩
 ·rw[Zl];refine List.pairwise_append.mpr ⟨a1,List.pairwise_append.mpr ⟨z2,b2,λx U y hy=>?_⟩,λx U y hy=>?_⟩
  ·rcases List.mem_append.mp (z1.mem_iff.mp U) with w |w
   ·exact J6 y hy x w
   ·exact b3 x w y hy
  ·rcases List.mem_append.mp hy with w |w
   ·rcases List.mem_append.mp (z1.mem_iff.mp w) with w |w
    ·exact a3 x U y w
    ·exact Au x U y (ZG _ w)
   ·exact Au x U y (List.mem_append_right _ w)
 ·rw[Zl,Zl];refine ZR _ ?_;refine (z1.append_right _).trans ?_;rw[Zl]
def SI(L:Keyed->Keyed->Bool)(arr:Array Keyed)(p q:Nat):Prop:=∀i j(hi:i<arr.size)(hj:j<arr.size),p<=i->i<j->j<q->L arr[j] arr[i]=false
theorem tC{arr:Array Keyed}{p q i:Nat}(h:i<(arr.extract p q).toList.length):∃(z:p+i<arr.size),p+i<q/\(arr.extract p q).toList[i]=arr[p+i]:=by
 have h':i<(arr.extract p q).size:=by rw[<- Zn];exact h
 rw[Array.size_extract]at h';refine⟨by lia,by lia,?_⟩;rw[Zo,aa0]
theorem kg{arr:Array Keyed}{p q:Nat}(h:SI L arr p q):bf L (arr.extract p q).toList:=by
 refine List.pairwise_iff_getElem.mpr λi j hi hj bZ=>?_;obtain⟨z1,z2,e1⟩:=tC hi;obtain⟨z3,z4,e2⟩:=tC hj;rw[e1,e2];exact h _ _ z1 z3 (by lia) (by lia) z4
theorem hH{arr:Array Keyed}{p q:Nat}{x:Keyed}(h:x∈(arr.extract p q).toList):∃(i:Nat)(z:i<arr.size),p<=i/\i<q/\x=arr[i]:=by
 obtain⟨i,hi,e⟩:=aax h;obtain⟨z1,z2,e1⟩:=tC hi;exact⟨p+i,z1,by lia,z2,by rw[<- e,e1]⟩
theorem tE{arr:Array Keyed}{p q r:Nat}(h1:p<=q)(h2:q<=r)(h3:r<=arr.size):(arr.extract p r).toList=(arr.extract p q).toList++(arr.extract q r).toList:=by
 rw[i3 arr (by lia),i3 arr h1,i3 arr h2];rw[show r-p=(q-p)+(r-q) by lia,List.take_add,List.drop_drop];rw[show p+(q-p)=q by lia]
end
section
variable{M:Model}{A:Around}{E:Value->Shared->Prop}{s:Shared}{κ:SortKind}{S:Keyed->Prop}{L:Keyed->Keyed->Bool}
def At(L:Keyed->Keyed->Bool)(arr ch:Array Keyed)(sa n:Nat):Prop:=∃seg:List Keyed,ch.toList=arr.toList.take sa++seg++arr.toList.drop (sa+n)/\bf L seg/\seg.Perm (arr.extract sa (sa+n)).toList
theorem J7{st am:SortSt}{Q:PUnit->SortSt->Prop}(h:Q ⟨⟩ am):wpS M A E s (set am:StateT SortSt Sem PUnit) Q st:=by
 unfold wpS;rw[StateT.run_set];exact Y' ⟨rfl,h⟩
theorem J8{i sa na sb nb pa pb : Nat}{st : SortSt}{Q : Bool -> SortSt -> Prop}(C : e7 M A E s κ S L)(O : dZ S L)(hk : kindOf st = κ)(hf : failedOf st = none)(hS : ∀ i(h : i < (arrOf st).size), S (arrOf st)[i])
    (e1:(pendingOf st)[i]?=some (sa,na,pa)) (e2:(pendingOf st)[i+1]?=some (sb,nb,pb)) (eb:sb=sa+na) (za:0<na) (zb:0<nb) (hz:sb+nb<=(arrOf st).size) (sA:SI L (arrOf st) sa sb) (sB:SI L (arrOf st) sb (sb+nb))
    (q:∀st':SortSt,kindOf st'=κ->failedOf st'=none->pendingOf st'=((pendingOf st).setIfInBounds i (sa,na+nb,pa)).eraseIdxIfInBounds (i+1)->At L (arrOf st) (arrOf st') sa (na+nb)->Q true st'):wpS M A E s (mergeAt' i) Q st:=by
  unfold mergeAt';refine Zk (wpS_get ?_);dsimp only;rw[e1,e2];dsimp only;refine Zk (J7 ?_);generalize Av:arrOf st=arr at hS hz sA sB q;have pf:sb<arr.size:=by lia
  have T0:(PyProof.Rows.arrOf st)=arr:=Av;rw[show ((sortPriv% PySem.Builtin.SortState.a) st:Array Keyed)=arr from Av];refine Zk (bT pf ?_);refine Zk (j6 (left:=false) C O hk (hS _ pf) (by lia) hS za (λi j hi hj bZ mH=>sA _ _ hi hj (by lia) (by lia) (by lia)) λk kn Vh kf=>?_);dsimp only;have key:∀(x y:Keyed),ba L false x y=true->L x y=false:=λx y h=>by simpa [ba] using h
  have kb:∀(x y:Keyed),ba L false x y=false->L x y=true:=λx y h=>by simpa [ba] using h
  have mF:∀(x y:Keyed),ba L true x y=true->L y x=true:=λx y h=>by simpa [ba] using h
  have kc:∀(x y:Keyed),ba L true x y=false->L y x=false:=λx y h=>by simpa [ba] using h
  have WM:(arr.extract sa (sa+(na+nb))).toList=(arr.extract sa sb).toList++(arr.extract sb (sb+nb)).toList:=by
    rw[show sa+(na+nb)=sb+nb by lia];exact tE (by lia) (by lia) hz
  -- T1 y6 where io gh T2 in y7
  have me:(∀ i j(hi:i<arr.size)(hj:j<arr.size),sa<=i->i<sb->sb<=j->j<sb+nb->L arr[j] arr[i]=false)->At L arr arr sa (na+nb):=λh=>by
    refine⟨(arr.extract sa (sa+(na+nb))).toList,?_,?_,.refl _⟩
    · rw[i3 arr (by lia),show sa+(na+nb)-sa=na+nb by lia,Zl,<- List.drop_drop,ZA,ZA]
    · rw[WM];refine List.pairwise_append.mpr ⟨kg sA,kg sB,λx U y hy=>?_⟩;obtain⟨i,zi,a1,a2,rfl⟩:=hH U;obtain⟨j,zj,b1,b2,rfl⟩:=hH hy;exact h i j zi zj a1 a2 b1 b2
  -- JU is not above io first of io T3 eH
  have Aw:∀ i(hi:i<arr.size),sa<=i->i<sa+k->∀ j(hj:j<arr.size),sb<=j->j<sb+nb->L arr[j] arr[i]=false:=λi hi a1 a2 j hj b1 b2=>by
    have h1:=key _ _ (Vh (i-sa) (by lia) (by lia));have h2:L arr[sb] arr[i]=false:=by
      have e:sa+(i-sa)=i:=(by lia);simpa [e] using h1
    by_cases ej:j=sb
    · subst ej;exact h2
    · exact O.trans _ _ _ (hS _ hi) (hS _ pf) (hS _ hj) h2 (sB sb j pf hj (by lia) (by lia) b2)
  by_cases c1:(na-k == 0)=true
  · rw[if_pos c1]
    have Vi : k = na := by have : na - k = 0 := by simpa using c1
                           lia
    exact Zs (q _ hk hf rfl (me λi j hi hj a1 a2 b1 b2=>Aw i hi a1 (by lia) j hj b1 b2))
  rw[if_neg c1]
  have Vi : k < na := by have : na - k ≠ 0 := by simpa using c1
                         lia
  have jT:sa+k+(na-k)-1<arr.size:=by lia
  refine Zk (bT jT ?_);refine Zk (j6 (left:=true) C O hk (hS _ jT) (by lia) hS (by lia) (λi j hi hj bZ mH=>sB _ _ hi hj (by lia) (by lia) (by lia)) λk2 T4 J9 J'=>?_);dsimp only;have Ka:sa+k+(na-k)-1=sb-1:=by lia
  have Ax:sb-1<arr.size:=by lia
  have Ay:∀ j(hj:j<arr.size),sb+k2<=j->j<sb+nb->∀ i(hi:i<arr.size),sa<=i->i<sb->L arr[j] arr[i]=false:=λj hj b1 b2 i hi a1 a2=>by
    have h1:=kc _ _ (J' (j-sb) (by lia) (by lia) (by lia));have h2:L arr[j] arr[sb-1]=false:=by
      have e:sb+(j-sb)=j:=(by lia);simpa [e,Ka] using h1
    by_cases ei:i=sb-1
    · subst ei;exact h2
    · exact O.trans _ _ _ (hS _ hi) (hS _ Ax) (hS _ hj) (sA i (sb-1) hi Ax a1 (by lia) (by lia)) h2
  by_cases c2:(k2 == 0)=true
  · rw[if_pos c2];have e0:k2=0:=(by simpa using c2);exact Zs (q _ hk hf rfl (me λi j hi hj a1 a2 b1 b2=>Ay j hj (by lia) b2 i hi a1 a2))
  rw[if_neg c2]
  have z2 : 0 < k2 := by have : k2 ≠ 0 := by simpa using c2
                         lia
  have xs:(arr.extract (sa+k) sb).size=na-k:=by rw[Array.size_extract];lia
  have ys:(arr.extract sb (sb+k2)).size=k2:=by rw[Array.size_extract];lia
  have SX:∀i(h:i<(arr.extract (sa+k) sb).size),S (arr.extract (sa+k) sb)[i]:=λi h=>by rw[aa0];exact hS _ (by lia)
  have SY:∀i(h:i<(arr.extract sb (sb+k2)).size),S (arr.extract sb (sb+k2))[i]:=λi h=>by rw[aa0];exact hS _ (by lia)
  have WN:bf L (arr.extract (sa+k) sb).toList:=kg λi j hi hj a1 a2 a3=>sA i j hi hj (by lia) a2 a3;have WO:bf L (arr.extract sb (sb+k2)).toList:=kg λi j hi hj a1 a2 a3=>sB i j hi hj a1 a2 (by lia);have WQ:0<(arr.extract sb (sb+k2)).size:=by lia
  have WR:0<(arr.extract (sa+k) sb).size:=by lia
  have h0:∀ v∈(arr.extract (sa+k) sb).toList,L (arr.extract sb (sb+k2))[0] v=true:=λv hv=>by
    obtain⟨i,zi,a1,a2,rfl⟩:=hH hv;rw[aa0];have h9:=kb _ _ (kf (i-sa) (by lia) (by lia) (by lia));have e:sa+(i-sa)=i:=(by lia);simpa [e] using h9
  have h1:∀ v∈(arr.extract sb (sb+k2)).toList,L v ((arr.extract (sa+k) sb)[(arr.extract (sa+k) sb).size-1]'(by lia))=true:=λv hv=>by
    obtain⟨j,zj,b1,b2,rfl⟩:=hH hv;rw[aa0];have h9:=mF _ _ (J9 (j-sb) (by lia) (by lia));have e:sb+(j-sb)=j:=(by lia);have e':sa+k+((arr.extract (sa+k) sb).size-1)=sa+k+(na-k)-1:=(by rw[xs];lia);have e3:arr[sa+k+((arr.extract (sa+k) sb).size-1)]'(by lia)=arr[sa+k+(na-k)-1]:=(by congr 1);have e4:arr[sb+(j-sb)]'(by lia)=arr[j]:=(by congr 1);rw[e3,<- e4];exact h9
  have Az:∀(r:Array Keyed),Mg L (arr.extract (sa+k) sb).toList (arr.extract sb (sb+k2)).toList r.toList->∀ ch:Array Keyed,ch=r.toList.zipIdx.foldl (λa(p:Keyed×Nat)=>a.setIfInBounds (sa+k+p.2) p.1) arr->At L arr ch sa (na+nb):=λr m ch ea=>by
    have V4:r.toList.length=(na-k)+k2:=(by rw[m.1.length_eq,Zi,Zn,Zn,xs,ys]);have w:=As r.toList 0 (sa+k) arr (by lia);have AA:(arr.extract sa sb).toList=(arr.extract sa (sa+k)).toList++(arr.extract (sa+k) sb).toList:=tE (by lia) (by lia) (by lia);have tF:(arr.extract sb (sb+nb)).toList=(arr.extract sb (sb+k2)).toList++(arr.extract (sb+k2) (sb+nb)).toList:=tE (by lia) (by lia) (by lia);obtain⟨p1,p2⟩:=J5 (X1:=(arr.extract sa (sa+k)).toList) (Y2:=(arr.extract (sb+k2) (sb+nb)).toList) (by rw[<- AA];exact kg sA) (by rw[<- tF];exact kg sB) (λx U y hy=>by
      obtain⟨i,zi,a1,a2,rfl⟩:=hH U;rw[<- tF]at hy;obtain⟨j,zj,b1,b2,rfl⟩:=hH hy;exact Aw i zi a1 a2 j zj b1 b2) (λy hy x U=>by
      obtain⟨i,zi,a1,a2,rfl⟩:=hH U;obtain⟨j,zj,b1,b2,rfl⟩:=hH hy;exact Ay j zj b1 b2 i zi (by lia) a2) m
    refine⟨_,?_,p1,?_⟩
    · rw[ea,w,V4];have t1:arr.toList.take (sa+k+0)=arr.toList.take sa++(arr.extract sa (sa+k)).toList:=by
        rw[oZ,Nat.add_zero,List.take_add]
      have t2:arr.toList.drop (sa+k+0+(na-k+k2))=(arr.extract (sb+k2) (sb+nb)).toList++arr.toList.drop (sa+(na+nb)):=by
        rw[i3 arr (by lia),show sa+k+0+(na-k+k2)=sb+k2 by lia,show sa+(na+nb)=sb+k2+(sb+nb-(sb+k2)) by lia,<- List.drop_drop (i:=sb+nb-(sb+k2)) (j:=sb+k2),ZA]
      rw[t1,t2];simp
    · rw[WM,AA,tF];exact p2
  by_cases c3:na-k<=k2
  · rw[if_pos c3];refine Zk (JT C O hk SX SY WN WO WR WQ h0 h1 fun r st' g m=>?_);refine Zk (wpS_modify ?_);refine Zk (wpS_get ?_);have UU:failedOf st'=none:=g.2.2.2.trans hf;have ep:=g.2.2.1;have ea:arrOf st'=arr:=g.2.1;have Vj:(failedOf (SortSt.mk' (kindOf st') (r.toList.zipIdx.foldl (fun a (p:Keyed×Nat)=>a.setIfInBounds (sa+k+p.2) p.1) (arrOf st')) (pendingOf st') (gallopOf st') (failedOf st'))).isNone=true:=by
      show (failedOf st').isNone=true;rw[UU];rfl
    have fin:=q (SortSt.mk' (kindOf st') (r.toList.zipIdx.foldl (λa(p:Keyed×Nat)=>a.setIfInBounds (sa+k+p.2) p.1) (arrOf st')) (pendingOf st') (gallopOf st') (failedOf st')) (g.1.trans hk) UU ep (Az r m _ (by rw[ea]));rw[<- Vj]at fin;exact Zs fin
  · rw[if_neg c3];refine Zk (J1 C O hk SX SY WN WO WR WQ h0 h1 fun r st' g m=>?_);refine Zk (wpS_modify ?_);refine Zk (wpS_get ?_);have UU:failedOf st'=none:=g.2.2.2.trans hf;have ep:=g.2.2.1;have ea:arrOf st'=arr:=g.2.1;have Vj:(failedOf (SortSt.mk' (kindOf st') (r.toList.zipIdx.foldl (fun a (p:Keyed×Nat)=>a.setIfInBounds (sa+k+p.2) p.1) (arrOf st')) (pendingOf st') (gallopOf st') (failedOf st'))).isNone=true:=by
      show (failedOf st').isNone=true;rw[UU];rfl
    have fin:=q (SortSt.mk' (kindOf st') (r.toList.zipIdx.foldl (λa(p:Keyed×Nat)=>a.setIfInBounds (sa+k+p.2) p.1) (arrOf st')) (pendingOf st') (gallopOf st') (failedOf st')) (g.1.trans hk) UU ep (Az r m _ (by rw[ea]));rw[<- Vj]at fin;exact Zs fin
end
def Up(arr ch:Array Keyed)(lo hi:Nat):Prop:=ch.Perm arr/\∀i,(i<lo\/hi<=i)->ch[i]?=arr[i]?
theorem Up.refl(arr:Array Keyed)(lo hi:Nat):Up arr arr lo hi:=⟨.refl _,λ_ _=>rfl⟩
theorem Up.trans{a b c:Array Keyed}{lo hi:Nat}(h:Up a b lo hi)(k:Up b c lo hi):Up a c lo hi:=⟨k.1.trans h.1,λi hi=>(k.2 i hi).trans (h.2 i hi)⟩
theorem Up.size{a b:Array Keyed}{lo hi:Nat}(h:Up a b lo hi):b.size=a.size:=h.1.size_eq
theorem Up.kh{a b:Array Keyed}{lo hi AB hi':Nat}(h:Up a b lo hi)(h1:AB<=lo)(h2:hi<=hi'):Up a b AB hi':=⟨h.1,λi hi=>h.2 i (by lia)⟩
theorem Up.S{S:Keyed->Prop}{a b:Array Keyed}{lo hi:Nat}(h:Up a b lo hi)(hS:∀i(h:i<a.size),S a[i]):∀i(h:i<b.size),S b[i]:=λi hi=>by
 have:b[i]∈a:=h.1.mem_iff.mp (Array.getElem_mem hi);obtain⟨j,hj,e⟩:=Array.getElem_of_mem this;rw[<- e];exact hS j hj
theorem Up.get{a b:Array Keyed}{lo hi i:Nat}(h:Up a b lo hi)(o:i<lo\/hi<=i)(hb:i<b.size)(ha:i<a.size):b[i]=a[i]:=by
 have:=h.2 i o;rw[Zp hb,Zp ha]at this;injection this
section
variable{L:Keyed->Keyed->Bool}
theorem SI.keep{a b:Array Keyed}{lo hi p q:Nat}(s:SI L a p q)(h:Up a b lo hi)(o:q<=lo\/hi<=p):SI L b p q:=λi j hi hj h1 h2 h3=>by
 have hz:=h.size;rw[h.get (i:=i) (by lia) hi (by lia),h.get (i:=j) (by lia) hj (by lia)];exact s i j (by lia) (by lia) h1 h2 h3
end
section
variable{M:Model}{A:Around}{E:Value->Shared->Prop}{s:Shared}{κ:SortKind}{S:Keyed->Prop}{L:Keyed->Keyed->Bool}
theorem ki{i j:Nat}{st:SortSt}{Q:Option Bool->SortSt->Prop}(C:e7 M A E s κ S L)(hk:kindOf st=κ)(hS:∀i(h:i<(arrOf st).size),S (arrOf st)[i])(hi:i<(arrOf st).size)(hj:j<(arrOf st).size)(q:Q (some (L (arrOf st)[i] (arrOf st)[j])) st):wpS M A E s (ltAt' i j) Q st:=by
 rw[ltAt'_eq];refine Zk (wpS_get ?_);refine Zk (bT hi ?_);refine Zk (bT hj ?_);exact C _ _ _ _ hk (hS _ hi) (hS _ hj) q
def ez(st st':SortSt):Prop:=kindOf st'=kindOf st/\pendingOf st'=pendingOf st/\failedOf st'=failedOf st
theorem Kb{arr:Array Keyed}{lo k l n:Nat}(hl:l<=k)(hk:k<n)(hz:lo+n<=arr.size):Up arr (bubble arr (lo+k) (lo+k-(lo+l))) lo (lo+n):=by
 refine⟨bubble_perm _ _ _,λi hi=>?_⟩;rw[getElem?_bubble (by lia) _ (by lia),if_neg (by lia),if_neg (by lia)]
theorem Kc{arr:Array Keyed}{lo k l n:Nat}(hl:l<=k)(hk:k<n)(hz:lo+n<=arr.size)(hs:SI L arr lo (lo+k))(AC:lo+k<arr.size)(h1:∀ i(h:lo+i<arr.size),i<l->L arr[lo+k] arr[lo+i]=false)(h2:∀ i(h:lo+i<arr.size),l<=i->i<k->L arr[lo+i] arr[lo+k]=false):
  SI L (bubble arr (lo+k) (lo+k-(lo+l))) lo (lo+(k+1)):=by
 have get:∀i(hi:i<(bubble arr (lo+k) (lo+k-(lo+l))).size),lo<=i->i<lo+(k+1)->∃(j:Nat)(hj:j<arr.size),(bubble arr (lo+k) (lo+k-(lo+l)))[i]=arr[j]/\((i<lo+l/\j=i)\/(i=lo+l/\j=lo+k)\/(lo+l<i/\j=i-1)):=λi hi a1 a2=>by
  have gU:(bubble arr (lo+k) (lo+k-(lo+l))).size=arr.size:=bubble_size _ _ _;have e:=getElem?_bubble (xs:=arr) (src:=lo+k) (by lia) (lo+k-(lo+l)) (by lia) i;rw[Zp hi]at e;by_cases c1:i=lo+k-(lo+k-(lo+l))
  ·rw[if_pos c1,Zp AC]at e;exact⟨lo+k,AC,by injection e,.inr (.inl ⟨by lia,rfl⟩)⟩
  rw[if_neg c1]at e;by_cases c2:lo+k-(lo+k-(lo+l))<i/\i<=lo+k
  ·rw[if_pos c2,Zp (show i-1<arr.size by lia)]at e;exact⟨i-1,by lia,by injection e,.inr (.inr ⟨by lia,rfl⟩)⟩
  ·rw[if_neg c2,Zp (show i<arr.size by lia)]at e;exact⟨i,by lia,by injection e,.inl ⟨by lia,rfl⟩⟩
 intro i j hi hj a1 a2 a3;obtain⟨i',hi',e1,w1⟩:=get i hi (by lia) (by lia);obtain⟨WS,bn,e2,w2⟩:=get j hj (by lia) a3;rw[e1,e2];have XY:∀p(hp:p<arr.size),lo<=p->p<lo+l->L arr[lo+k] arr[p]=false:=λp hp b1 b2=>by
  have:=h1 (p-lo) (by lia) (by lia);simpa [show lo+(p-lo)=p by lia] using this
 have H2:∀p(hp:p<arr.size),lo+l<=p->p<lo+k->L arr[p] arr[lo+k]=false:=λp hp b1 b2=>by
  have:=h2 (p-lo) (by lia) (by lia) (by lia);simpa [show lo+(p-lo)=p by lia] using this
 rcases w1 with ⟨b1,rfl⟩ |⟨b1,rfl⟩ |⟨b1,rfl⟩ <;> rcases w2 with ⟨b2,rfl⟩ |⟨b2,rfl⟩ |⟨b2,rfl⟩
 ·exact hs _ _ hi' bn (by lia) (by lia) (by lia)
 ·exact XY _ hi' (by lia) (by lia)
 ·exact hs _ _ hi' bn (by lia) (by lia) (by lia)
 ·lia
 ·lia
 ·exact H2 _ bn (by lia) (by lia)
 ·lia
 ·lia
 ·exact hs _ _ hi' bn (by lia) (by lia) (by lia)
theorem Ke{lo n ok:Nat}{st:SortSt}{Q:Bool->SortSt->Prop}(C:e7 M A E s κ S L)(O:dZ S L)(hk:kindOf st=κ)(hS:∀ i(h:i<(arrOf st).size),S (arrOf st)[i])(hz:lo+n<=(arrOf st).size)(hs:SI L (arrOf st) lo (lo+max ok 1))
  (q:∀st':SortSt,ez st st'->Up (arrOf st) (arrOf st') lo (lo+n)->SI L (arrOf st') lo (lo+n)->Q true st'):wpS M A E s (binarySort' lo n ok) Q st:=by
 unfold binarySort';refine Zk (aaO (Z2 (I:=λk c st'=>c=(none,())/\ez st st'/\Up (arrOf st) (arrOf st') lo (lo+n)/\SI L (arrOf st') lo (lo+k)) (Q:=λc st'=>c=(none,())/\ez st st'/\Up (arrOf st) (arrOf st') lo (lo+n)/\SI L (arrOf st') lo (lo+n)) ?step ?fin ⟨rfl,⟨rfl,rfl,rfl⟩,.refl _ _ _,hs⟩) ?post)
 case fin=>
  rintro c st' ⟨rfl,a1,a2,a3⟩;exact⟨rfl,a1,a2,λi j hi hj b1 b2 b3=>a3 i j hi hj b1 b2 (by lia)⟩
 case post=>
  rintro c st' ⟨rfl,a1,a2,a3⟩;exact Zs (q st' a1 a2 a3)
 case step=>
  rintro k c am o6 i4 ⟨rfl,a1,a2,a3⟩;dsimp only;have hk':kindOf am=κ:=a1.1.trans hk;have T5:(arrOf am).size=(arrOf st).size:=a2.size;have kj:=a2.S hS;have kz:lo+k<(arrOf am).size:=by lia
  have up:∀p q'(hp:lo+p<(arrOf am).size)(hq:lo+q'<(arrOf am).size),p<=q'->q'<k->L (arrOf am)[lo+k] (arrOf am)[lo+p]=true->L (arrOf am)[lo+k] (arrOf am)[lo+q']=true:=λp q' hp hq h1 h2 e=>by
   by_cases ep:p=q'
   ·subst ep;exact e
   cases z:L (arrOf am)[lo+k] (arrOf am)[lo+q'] with
   |true=>rfl
   |false=>rw[O.trans _ _ _ (kj _ hp) (kj _ hq) (kj _ kz) (a3 _ _ hp hq (by lia) (by lia) (by lia)) z]at e;cases e
  refine Zk (aaO (Z2 (I:=λt c st'=>∃l r,c=(none,l,r)/\st'=am/\l<=r/\r<=k/\r-l<=k-t/\(∀i(h:lo+i<(arrOf am).size),i<l->L (arrOf am)[lo+k] (arrOf am)[lo+i]=false)/\(∀i(h:lo+i<(arrOf am).size),r<=i->i<k->L (arrOf am)[lo+k] (arrOf am)[lo+i]=true))
   (Q:=λc st'=>∃l,c=(none,l,l)/\st'=am/\l<=k/\(∀i(h:lo+i<(arrOf am).size),i<l->L (arrOf am)[lo+k] (arrOf am)[lo+i]=false)/\(∀i(h:lo+i<(arrOf am).size),l<=i->i<k->L (arrOf am)[lo+k] (arrOf am)[lo+i]=true)) ?mC ?mD ⟨0,k,rfl,rfl,by lia,by lia,by lia,λi h hi=>by lia,λi h h1 h2=>by lia⟩) ?mE)
  case mD=>
   rintro c st' ⟨l,r,rfl,rfl,b1,b2,b3,UB,U5⟩;have:l=r:=(by lia);subst this;exact⟨l,rfl,rfl,b2,UB,U5⟩
  case mC=>
   rintro t c st' _ ht ⟨l,r,rfl,rfl,b1,b2,b3,UB,U5⟩;dsimp only;by_cases bY:l ≥ r
   ·rw[if_pos bY];have:l=r:=(by lia);subst this;exact Zs ⟨l,rfl,rfl,b2,UB,U5⟩
   rw[if_neg bY];have V5:lo+(l+r) / 2<(arrOf st').size:=(by lia);refine Zk (ki C hk' kj kz V5 ?_);dsimp only;cases e:L (arrOf st')[lo+k] (arrOf st')[lo+(l+r) / 2] with
   |true=>exact Zs ⟨_,_,rfl,rfl,by lia,by lia,by lia,UB,λi h h1 h2=>up _ i V5 h h1 h2 e⟩
   |false=>
    refine Zs ⟨_,_,rfl,rfl,by lia,by lia,by lia,λi h hi=>?_,U5⟩;cases z:L (arrOf st')[lo+k] (arrOf st')[lo+i] with
    |false=>rfl
    |true=>rw[up i _ h V5 (by lia) (by lia) z]at e;cases e
  case mE=>
   rintro c st' ⟨l,rfl,rfl,b1,b2,b3⟩;dsimp only;have XZ:wpS M A E s (moveDown' (lo+k) (lo+l)) (λ_ st2=>st2=setArr st' (bubble (arrOf st') (lo+k) (lo+k-(lo+l)))) st':=by
    rw[moveDown'_eq];exact wpS_modify rfl
   refine Zk (aaO XZ λ_ st2 e2=>?_);subst e2;refine Zs ⟨rfl,a1,a2.trans (Kb b1 i4 (by lia)),?_⟩;exact Kc b1 i4 (by lia) a3 kz b2 λi h h1 h2=>O.du _ _ (kj _ kz) (kj _ h) (b3 i h h1 h2)
end
section
variable{S:Keyed->Prop}{L:Keyed->Keyed->Bool}
def DI(L:Keyed->Keyed->Bool)(arr:Array Keyed)(p q:Nat):Prop:=∀i j(hi:i<arr.size)(hj:j<arr.size),p<=i->i<j->j<q->L arr[i] arr[j]=false
def EQ(L:Keyed->Keyed->Bool)(arr:Array Keyed)(p q:Nat):Prop:=∀i j(hi:i<arr.size)(hj:j<arr.size),p<=i->i<q->p<=j->j<q->L arr[i] arr[j]=false
theorem dZ.eA(O:dZ S L){x:Keyed}(sx:S x):L x x=false:=by
 cases e:L x x with
 |false=>rfl
 |true=>rw[O.du x x sx sx e]at e;cases e
theorem pg{arr:Array Keyed}{p q i:Nat}(hq:q<=arr.size)(hi:i<(mirror arr p q ((q-p) / 2)).size):∃(j:Nat)(hj:j<arr.size),(mirror arr p q ((q-p) / 2))[i]=arr[j]/\((p<=i/\i<q/\j=p+q-1-i)\/(¬(p<=i/\i<q)/\j=i)):=by
 have hz:(mirror arr p q ((q-p) / 2)).size=arr.size:=mirror_size _ _ _ _;have e:=getElem?_mirror_all (xs:=arr) (i:=p) hq i;rw[Zp hi]at e;by_cases c:p<=i/\i<q
 ·rw[if_pos c,Zp (show p+q-1-i<arr.size by lia)]at e;exact⟨_,by lia,by injection e,.inl ⟨c.1,c.2,rfl⟩⟩
 ·rw[if_neg c,Zp (show i<arr.size by lia)]at e;exact⟨_,by lia,by injection e,.inr ⟨c,rfl⟩⟩
theorem ph{arr:Array Keyed}{p q:Nat}(hq:q<=arr.size):Up arr (mirror arr p q ((q-p) / 2)) p q:=
 ⟨aa9 _ _ _ _,λi hi=>by rw[getElem?_mirror_all hq,if_neg (by lia)]⟩
theorem DI.rev{arr:Array Keyed}{lo hi p q:Nat}(h:DI L arr lo hi)(e:EQ L arr p q)(h1:lo<=p)(h2:q<=hi)(hq:q<=arr.size):DI L (mirror arr p q ((q-p) / 2)) lo hi:=λi j zi zj a1 a2 a3=>by
 obtain⟨i',hi',e1,w1⟩:=pg hq zi;obtain⟨WS,bn,e2,w2⟩:=pg hq zj;rw[e1,e2];rcases w1 with ⟨b1,b2,b3⟩ |⟨b1,b3⟩ <;> rcases w2 with ⟨c1,c2,c3⟩ |⟨c1,c3⟩
 ·exact e _ _ hi' bn (by lia) (by lia) (by lia) (by lia)
 ·exact h _ _ hi' bn (by lia) (by lia) (by lia)
 ·exact h _ _ hi' bn (by lia) (by lia) (by lia)
 ·exact h _ _ hi' bn (by lia) (by lia) (by lia)
theorem DI.turn{arr:Array Keyed}{lo hi:Nat}(h:DI L arr lo hi)(hq:hi<=arr.size):SI L (mirror arr lo hi ((hi-lo) / 2)) lo hi:=λi j zi zj a1 a2 a3=>by
 obtain⟨i',hi',e1,w1⟩:=pg hq zi;obtain⟨WS,bn,e2,w2⟩:=pg hq zj;rw[e1,e2];rcases w1 with ⟨b1,b2,b3⟩ |⟨b1,b3⟩ <;> rcases w2 with ⟨c1,c2,c3⟩ |⟨c1,c3⟩
 ·exact h _ _ bn hi' (by lia) (by lia) (by lia)
 ·lia
 ·lia
 ·lia
theorem DI.ext(O:dZ S L){arr:Array Keyed}{lo n:Nat}(hS:∀i(h:i<arr.size),S arr[i])(h:DI L arr lo n)(h1:n-1<arr.size)(h2:n<arr.size)(hn:lo<n)(e:L arr[n-1] arr[n]=false):DI L arr lo (n+1):=λi j zi zj a1 a2 a3=>by
 by_cases ej:j=n
 ·subst ej;by_cases ei:i=j-1
  ·subst ei;exact e
  ·exact O.trans _ _ _ (hS _ h2) (hS _ h1) (hS _ zi) e (h i (j-1) zi h1 a1 (by lia) (by lia))
 ·exact h i j zi zj a1 a2 (by lia)
theorem SI.ext(O:dZ S L){arr:Array Keyed}{lo n:Nat}(hS:∀i(h:i<arr.size),S arr[i])(h:SI L arr lo n)(h1:n-1<arr.size)(h2:n<arr.size)(hn:lo<n)(e:L arr[n] arr[n-1]=false):SI L arr lo (n+1):=λi j zi zj a1 a2 a3=>by
 by_cases ej:j=n
 ·subst ej;by_cases ei:i=j-1
  ·subst ei;exact e
  ·exact O.trans _ _ _ (hS _ zi) (hS _ h1) (hS _ h2) (h i (j-1) zi h1 a1 (by lia) (by lia)) e
 ·exact h i j zi zj a1 a2 (by lia)
end
section
variable{M:Model}{A:Around}{E:Value->Shared->Prop}{s:Shared}{κ:SortKind}{S:Keyed->Prop}{L:Keyed->Keyed->Bool}
theorem pj{i j:Nat}{st:SortSt}{Q:Unit->SortSt->Prop}(h:Q () (setArr st (mirror (arrOf st) i j ((j-i) / 2)))):wpS M A E s (reverseSlice' i j) Q st:=by
 rw[reverseSlice'_eq];exact wpS_modify h
theorem Kg{lo nrem : Nat}{st : SortSt}{Q : Option Nat -> SortSt -> Prop}(C : e7 M A E s κ S L)(O : dZ S L)(hk : kindOf st = κ)(hS : ∀ i(h : i < (arrOf st).size), S (arrOf st)[i])(hz : lo + nrem <= (arrOf st).size)(h1 : 1 <= nrem)
    (q:∀n(st':SortSt),1<=n->n<=nrem->ez st st'->Up (arrOf st) (arrOf st') lo (lo+nrem)->SI L (arrOf st') lo (lo+n)->Q (some n) st'):wpS M A E s (countRun' lo nrem) Q st:=by
  unfold countRun';refine Zk (aaO (Z2 (I:=λt c st'=>∃n,c=(none,n)/\st'=st/\n=t/\1<=n/\n<=nrem/\SI L (arrOf st) lo (lo+n)) (Q:=λc st'=>∃n,c=(none,n)/\st'=st/\1<=n/\n<=nrem/\SI L (arrOf st) lo (lo+n)/\(n<nrem->∀(za:lo+n<(arrOf st).size)(zb:lo+n-1<(arrOf st).size),L (arrOf st)[lo+n] (arrOf st)[lo+n-1]=true)) ?step ?fin ⟨1,rfl,rfl,rfl,Y8 _,h1,λi j zi zj a1 a2 a3=>by lia⟩) ?post)
  case fin=>
    rintro c st' ⟨n,rfl,rfl,e,a1,a2,a3⟩;exact⟨n,rfl,rfl,a1,a2,a3,λh=>by lia⟩
  case step=>
    rintro t c st' pi ht ⟨n,rfl,rfl,rfl,a1,a2,a3⟩;dsimp only;have za:lo+n<(arrOf st').size:=(by lia);have zb:lo+n-1<(arrOf st').size:=(by lia);refine Zk (ki C hk hS za zb ?_);dsimp only;cases e:L (arrOf st')[lo+n] (arrOf st')[lo+n-1] with
    |true=>exact Zs ⟨n,rfl,rfl,a1,a2,a3,λ_ _ _=>e⟩
    |false=>exact Zs ⟨n+1,rfl,rfl,rfl,by lia,by lia,a3.ext (n:=lo+n) O hS zb za (by lia) e⟩
  case post=>
    rintro c st' ⟨n,rfl,rfl,a1,a2,a3,a4⟩;dsimp only;by_cases e1:(n == nrem)=true
    · rw[if_pos e1];exact Zs (q n st' a1 a2 ⟨rfl,rfl,rfl⟩ (.refl _ _ _) a3)
    rw[if_neg e1]
    have hn : n < nrem := by have : n ≠ nrem := by simpa using e1
                             lia
    have za:lo+n<(arrOf st').size:=(by lia);have zb:lo+n-1<(arrOf st').size:=(by lia);have zl:lo<(arrOf st').size:=(by lia);have sm:=a4 hn za zb;have AD:L (arrOf st')[lo+n-1] (arrOf st')[lo+n]=false:=O.du _ _ (hS _ za) (hS _ zb) sm;by_cases c1:n > 1
    case' pos=>
      rw[if_pos c1];refine Zk (ki C hk hS zl zb ?_);dsimp only;by_cases tG:L (arrOf st')[lo] (arrOf st')[lo+n-1]=true
      · rw[if_pos tG];exact Zs (q n st' a1 a2 ⟨rfl,rfl,rfl⟩ (.refl _ _ _) a3)
      rw[if_neg tG];have Kh:L (arrOf st')[lo] (arrOf st')[lo+n-1]=false:=(by simpa using tG);have AE:EQ L (arrOf st') lo (lo+n):=λi j zi zj b1 b2 b3 UB=>by
        have l1:L (arrOf st')[lo+n-1] (arrOf st')[j]=false:=by
          by_cases ej:j=lo+n-1
          · subst ej;exact O.eA (hS _ zj)
          · exact a3 j (lo+n-1) zj zb b3 (by lia) (by lia)
        have l2:L (arrOf st')[i] (arrOf st')[lo]=false:=by
          by_cases ei:i=lo
          · subst ei;exact O.eA (hS _ zi)
          · exact a3 lo i zl zi (by lia) (by lia) b2
        exact O.trans _ _ _ (hS _ zj) (hS _ zl) (hS _ zi) (O.trans _ _ _ (hS _ zj) (hS _ zb) (hS _ zl) l1 Kh) l2
      have UQ:DI L (arrOf st') lo (lo+n):=λi j zi zj b1 b2 b3=>AE i j zi zj b1 (by lia) (by lia) b3;refine Zk (pj ?_);have x1:ez st' (setArr st' (mirror (arrOf st') lo (lo+n) ((lo+n-lo) / 2))):=⟨rfl,rfl,rfl⟩;have x2:Up (arrOf st') (mirror (arrOf st') lo (lo+n) ((lo+n-lo) / 2)) lo (lo+nrem):=(ph (by lia)).kh (Y8 _) (by lia);have x3:DI L (mirror (arrOf st') lo (lo+n) ((lo+n-lo) / 2)) lo (lo+n+1):=(UQ.ext (n:=lo+n) O hS zb za (by lia) AD).rev AE (Y8 _) (by lia) (by lia)
    case' neg=>
      rw[if_neg c1];have x1:ez st' st':=⟨rfl,rfl,rfl⟩;have x2:Up (arrOf st') (arrOf st') lo (lo+nrem):=.refl _ _ _;have x3:DI L (arrOf st') lo (lo+n+1):=DI.ext (n:=lo+n) O hS (λi j zi zj b1 b2 b3=>by lia) zb za (by lia) AD
    all_goals
      refine Zk (wpS_lift (aaR ⟨rfl,?_⟩));have Ki:=x2.S hS;have hz2:=x2.size;refine Zk (aaO (Z2 (I:=λt c st2=>∃ m cc,c=(none,m,cc)/\m=t/\ez st' st2/\Up (arrOf st') (arrOf st2) lo (lo+nrem)/\DI L (arrOf st2) lo (lo+m)/\EQ L (arrOf st2) (lo+m-(cc+1)) (lo+m)/\cc+1<=m/\1<=m/\m<=nrem)
        (Q:=λc st2=>∃ m cc,c=(none,m,cc)/\ez st' st2/\Up (arrOf st') (arrOf st2) lo (lo+nrem)/\DI L (arrOf st2) lo (lo+m)/\EQ L (arrOf st2) (lo+m-(cc+1)) (lo+m)/\cc+1<=m/\1<=m/\m<=nrem) ?Kj ?Kk ⟨n+1,0,rfl,rfl,x1,x2,x3,λi j zi zj b1 b2 b3 UB=>by
          have e:i=j:=(by lia);subst e;exact O.eA (Ki _ zi),by lia,by lia,by lia⟩) ?dpost)
      case Kk=>
        rintro c st2 ⟨m,cc,rfl,rfl,y⟩;exact⟨_,cc,rfl,y⟩
      case Kj=>
        rintro t c st2 pi tH ⟨m,cc,rfl,rfl,y1,y2,y3,y4,WT,WU,WV⟩;dsimp only;have i4:kindOf st2=κ:=y1.1.trans hk;have dN:=y2.S hS;have Kl:=y2.size;have wa:lo+m<(arrOf st2).size:=(by lia);have wb:lo+m-1<(arrOf st2).size:=(by lia);refine Zk (ki C i4 dN wa wb ?_);dsimp only;cases e:L (arrOf st2)[lo+m] (arrOf st2)[lo+m-1] with
        | true=>
          rw[if_pos rfl];have VD:=y3.ext (n:=lo+m) O dN wb wa (by lia) (O.du _ _ (dN _ wa) (dN _ wb) e);by_cases c2:cc > 0
          · rw[if_pos c2];refine Zk (pj ?_);have u2:Up (arrOf st2) (mirror (arrOf st2) (lo+m-(cc+1)) (lo+m) ((lo+m-(lo+m-(cc+1))) / 2)) lo (lo+nrem):=(ph (by lia)).kh (by lia) (by lia);have u3:=y2.trans u2;refine Zs ⟨m+1,0,rfl,rfl,y1,u3,VD.rev y4 (by lia) (by lia) (by lia),λi j zi zj b1 b2 b3 UB=>?_,by lia,by lia,by lia⟩;have e3:i=j:=(by lia);subst e3;exact O.eA (u3.S hS _ zi)
          · rw[if_neg c2];refine Zs ⟨m+1,0,rfl,rfl,y1,y2,VD,λi j zi zj b1 b2 b3 UB=>?_,by lia,by lia,by lia⟩;have e3:i=j:=(by lia);subst e3;exact O.eA (dN _ zi)
        | false=>
          rw[if_neg (by decide)];refine Zk (ki C i4 dN wb wa ?_);dsimp only;cases e2:L (arrOf st2)[lo+m-1] (arrOf st2)[lo+m] with
          |true=>exact Zs ⟨m,cc,rfl,y1,y2,y3,y4,WT,WU,WV⟩
          | false=>
            refine Zs ⟨m+1,cc+1,rfl,rfl,y1,y2,y3.ext (n:=lo+m) O dN wb wa (by lia) e2,λi j zi zj b1 b2 b3 UB=>?_,by lia,by lia,by lia⟩;by_cases ei:i=lo+m <;> by_cases ej:j=lo+m
            · have e3:i=j:=(by lia);subst e3;exact O.eA (dN _ zi)
            · subst ei;exact O.trans _ _ _ (dN _ zj) (dN _ wb) (dN _ wa) (y4 (lo+m-1) j wb zj (by lia) (by lia) (by lia) (by lia)) e
            · subst ej;exact O.trans _ _ _ (dN _ wa) (dN _ wb) (dN _ zi) e2 (y4 i (lo+m-1) zi wb (by lia) (by lia) (by lia) (by lia))
            · exact y4 i j zi zj (by lia) (by lia) (by lia) (by lia)
      case dpost=>
        rintro c st2 ⟨m,cc,rfl,y1,y2,y3,y4,WT,WU,WV⟩;dsimp only;have Kl:=y2.size;by_cases c2:cc > 0
        case' pos=>
          rw[if_pos c2];refine Zk (pj ?_);have u2:Up (arrOf st2) (mirror (arrOf st2) (lo+m-(cc+1)) (lo+m) ((lo+m-(lo+m-(cc+1))) / 2)) lo (lo+nrem):=(ph (by lia)).kh (by lia) (by lia);have v2:=y2.trans u2;have v3:=y3.rev y4 (by lia) (by lia) (by lia);have v1:ez st' (setArr st2 (mirror (arrOf st2) (lo+m-(cc+1)) (lo+m) ((lo+m-(lo+m-(cc+1))) / 2))):=y1
        case' neg=>
          rw[if_neg c2];have v2:=y2;have v3:=y3;have v1:=y1
        all_goals
          have AF:=v2.size;refine Zk (pj ?_);have w2:=v2.trans ((ph (p:=lo) (q:=lo+m) (by rw[AF];lia)).kh (Y8 _) (by lia));have w3:=v3.turn (by rw[AF];lia);have T6:=w2.S hS;have T7:=w2.size;refine Zk (aaO (Z2 (I:=λt c bL=>∃n',c=(none,n')/\n'=t/\ez st' bL/\Up (arrOf st') (arrOf bL) lo (lo+nrem)/\SI L (arrOf bL) lo (lo+n')/\1<=n'/\n'<=nrem) (Q:=λc bL=>∃n',c=(none,n')/\ez st' bL/\Up (arrOf st') (arrOf bL) lo (lo+nrem)/\SI L (arrOf bL) lo (lo+n')/\1<=n'/\n'<=nrem) ?Ko ?Kp ⟨m,rfl,rfl,v1,w2,w3,by lia,by lia⟩) ?Kq)
          case Kp=>
            rintro c bL ⟨n',rfl,rfl,y⟩;exact⟨_,rfl,y⟩
          case Kq=>
            rintro c bL ⟨n',rfl,g1,g2,g3,g4,VE⟩;exact Zs (q n' bL g4 VE g1 g2 g3)
          case Ko=>
            rintro t c bL pi tH ⟨n',rfl,rfl,g1,g2,g3,g4,VE⟩;dsimp only;have sf:kindOf bL=κ:=g1.1.trans hk;have AG:=g2.S hS;have T8:=g2.size;have wa:lo+n'<(arrOf bL).size:=(by lia);have wb:lo+n'-1<(arrOf bL).size:=(by lia);refine Zk (ki C sf AG wa wb ?_);dsimp only;cases e:L (arrOf bL)[lo+n'] (arrOf bL)[lo+n'-1] with
            |true=>exact Zs ⟨n',rfl,g1,g2,g3,g4,VE⟩
            |false=>exact Zs ⟨n'+1,rfl,rfl,g1,g2,g3.ext (n:=lo+n') O AG wb wa (by lia) e,by lia,by lia⟩
end
section
variable{L:Keyed->Keyed->Bool}
theorem Kr{arr ch:Array Keyed}{sa n:Nat}(h:At L arr ch sa n)(hz:sa+n<=arr.size):Up arr ch sa (sa+n)/\SI L ch sa (sa+n):=by
 obtain⟨seg,e,s,p⟩:=h;have lx:(arr.extract sa (sa+n)).toList.length=n:=by rw[Zn,Array.size_extract];lia
 have ls:seg.length=n:=by rw[p.length_eq,lx]
 have la:arr.toList.length=arr.size:=Zn;have lt:(arr.toList.take sa).length=sa:=by rw[aaU];lia
 have ea:arr.toList=arr.toList.take sa++(arr.extract sa (sa+n)).toList++arr.toList.drop (sa+n):=by
  rw[oZ,Zl,<- List.drop_drop,ZA,ZA]
 have pm:ch.Perm arr:=by
  rw[Array.perm_iff_toList_perm,e];refine List.Perm.trans ?_ (List.Perm.of_eq ea.symm);exact List.Perm.append_right _ (ZR _ p)
 have get:∀i,ch[i]?=(arr.toList.take sa++seg++arr.toList.drop (sa+n))[i]?:=λi=>by rw[<- e,ZS]
 refine⟨⟨pm,λi hi=>?_⟩,λi j zi zj a1 a2 a3=>?_⟩
 ·rw[get,<- ZS];rcases hi with hi |hi
  ·rw[Zl,ZH (by lia),List.getElem?_take_of_lt hi]
  ·rw[Zy (by rw[Zi];lia),List.getElem?_drop,Zi,lt,ls]
   congr 1;lia
 ·have WW:∀ k(zk:k<ch.size),sa<=k->k<sa+n->∃ h:k-sa<seg.length,ch[k]=seg[k-sa]:=λk zk b1 b2=>by
   have:=get k;rw[Zp zk,Zl,Zy (by lia),lt,ZH (by lia),Y5 (by lia)]at this;exact⟨by lia,by injection this⟩
  obtain⟨h1,e1⟩:=WW i zi a1 (by lia);obtain⟨h2,e2⟩:=WW j zj (by lia) a3;rw[e1,e2];exact List.pairwise_iff_getElem.mp s _ _ h1 h2 (by lia)
def b0(L:Keyed->Keyed->Bool)(arr:Array Keyed):List (Nat×Nat×Nat)->Nat->Nat->Prop
 |[],a,b=>a=b
 |x::r,a,b=>x.1=a/\0<x.2.1/\SI L arr a (a+x.2.1)/\b0 L arr r (a+x.2.1) b
theorem b0.le{arr:Array Keyed}:∀{r:List (Nat×Nat×Nat)}{a b:Nat},b0 L arr r a b->a+r.length<=b
 |[],a,b,h=>by have:a=b:=h;simp;lia
 |x::r,a,b,⟨h1,h2,h3,h4⟩=>by have:=h4.le;rw[Zg];lia
theorem b0.app{arr:Array Keyed}:∀{r q:List (Nat×Nat×Nat)}{a b:Nat},b0 L arr (r++q) a b ↔ ∃c,b0 L arr r a c/\b0 L arr q c b
 |[],q,a,b=>⟨λh=>⟨a,rfl,h⟩,λ⟨c,h1,h2⟩=>by have e:a=c:=h1;subst e;exact h2⟩
 |x::r,q,a,b=>by
  constructor
  ·rintro⟨h1,h2,h3,h4⟩;obtain⟨c,h5,h6⟩:=b0.app.mp h4;exact⟨c,⟨h1,h2,h3,h5⟩,h6⟩
  ·rintro⟨c,⟨h1,h2,h3,h5⟩,h6⟩;exact⟨h1,h2,h3,b0.app.mpr ⟨c,h5,h6⟩⟩
theorem b0.keep{arr ch:Array Keyed}{lo hi:Nat}(u:Up arr ch lo hi):∀{r:List (Nat×Nat×Nat)}{a b:Nat},b0 L arr r a b->(b<=lo\/hi<=a)->b0 L ch r a b
 |[],a,b,h,_=>h
 |x::r,a,b,⟨h1,h2,h3,h4⟩,o=>by
  have:=h4.le;exact⟨h1,h2,h3.keep u (by lia),h4.keep u (by lia)⟩
theorem b0.mod{arr:Array Keyed}{f:Nat×Nat×Nat->Nat×Nat×Nat}(hf:∀x,(f x).1=x.1/\(f x).2.1=x.2.1):∀{r:List (Nat×Nat×Nat)}{i a b:Nat},b0 L arr r a b->b0 L arr (r.modify i f) a b
 |[],i,a,b,h=>by simpa using h
 |x::r,0,a,b,⟨h1,h2,h3,h4⟩=>by
  rw[List.modify_zero_cons];have:=hf x;exact⟨this.1.trans h1,by rw[this.2];exact h2,by rw[this.2];exact h3,by rw[this.2];exact h4⟩
 |x::r,i+1,a,b,⟨h1,h2,h3,h4⟩=>by
  rw[List.modify_succ_cons];exact⟨h1,h2,h3,b0.mod hf h4⟩
theorem Ks{α:Type}{l:List α}{i:Nat}(h:i+1<l.length):∃p x y r,l=p++x::y::r/\p.length=i:=by
 refine⟨l.take i,l[i],l[i+1],l.drop (i+2),?_,by rw[aaU];lia⟩;rw[<- Zz h,<- Zz (by lia),ZA]
end
section
variable{M:Model}{A:Around}{E:Value->Shared->Prop}{s:Shared}{κ:SortKind}{S:Keyed->Prop}{L:Keyed->Keyed->Bool}
structure Sw(κ:SortKind)(S:Keyed->Prop)(L:Keyed->Keyed->Bool)(a0:Array Keyed)(st:SortSt)(lo:Nat):Prop where
 kind:kindOf st=κ
 mL:failedOf st=none
 perm:(arrOf st).Perm a0
 km:b0 L (arrOf st) (pendingOf st).toList 0 lo
theorem Sw.all{a0:Array Keyed}{st:SortSt}{lo:Nat}(h:Sw κ S L a0 st lo)(hS:∀i(h:i<a0.size),S a0[i]):∀i(h:i<(arrOf st).size),S (arrOf st)[i]:=
 Up.S (lo:=0) (hi:=a0.size) (a:=a0) ⟨h.perm,λi hi=>by
  have z:=h.perm.size_eq;rcases hi with hi |hi
  ·lia
  ·rw[Array.getElem?_eq_none (by lia),Array.getElem?_eq_none hi]⟩ hS
theorem AH{a0:Array Keyed}{st:SortSt}{lo i:Nat}{Q:Bool->SortSt->Prop}(C:e7 M A E s κ S L)(O:dZ S L)(hS:∀ i(h:i<a0.size),S a0[i])(w:Sw κ S L a0 st lo)(hl:lo<=a0.size)(hi:i+1<(pendingOf st).size)
  (q:∀st':SortSt,Sw κ S L a0 st' lo->Up (arrOf st) (arrOf st') 0 lo->(pendingOf st').size+1=(pendingOf st).size->Q true st'):wpS M A E s (mergeAt' i) Q st:=by
 have sz:=w.perm.size_eq;obtain⟨p,x,y,r,ep,lp⟩:=Ks (l:=(pendingOf st).toList) (i:=i) (by rw[Zn];exact hi);have rn:=w.km;rw[ep]at rn;obtain⟨c,r1,AI,AJ,AL,AM,AN,AO,r2⟩:=b0.app.mp rn;have T9:=r1.le;have Kt:=r2.le;obtain⟨xs,xn,WX⟩:=x;obtain⟨ys,yn,X5⟩:=y;dsimp only at AI AJ AL AM AN AO r2 Kt;subst AI;subst AM;have g1:(pendingOf st)[i]?=some (xs,xn,WX):=by
  rw[<- ZS,ep,Zy (by lia),show i-p.length=0 by lia];rfl
 have g2:(pendingOf st)[i+1]?=some (xs+xn,yn,X5):=by
  rw[<- ZS,ep,Zy (by lia),show i+1-p.length=1 by lia];rfl
 refine J8 C O w.kind w.mL (w.all hS) g1 g2 rfl AJ AN (by lia) AL AO λst' k1 k2 k3 k4=>?_;obtain⟨u1,u2⟩:=Kr k4 (by lia);have AP:(pendingOf st').toList=p++(xs,xn+yn,WX)::r:=by
  rw[k3];simp only[Array.toList_eraseIdxIfInBounds,Array.toList_setIfInBounds,ep];rw[List.set_append_right _ _ (by lia),show i-p.length=0 by lia];rw[List.eraseIdx_append_of_length_le (by lia),show i+1-p.length=1 by lia];rfl
 refine q st' ⟨k1,k2,u1.1.trans w.perm,?_⟩ (u1.kh (by lia) (by lia)) ?_
 ·rw[AP];refine b0.app.mpr ⟨xs,r1.keep u1 (by lia),rfl,?_,u2,?_⟩
  ·show 0<xn+yn;lia
  ·have:=r2.keep u1 (by lia)
   rwa [show xs+xn+yn=xs+(xn+yn) by lia]at this
 ·rw[<- Zn,<- Zn,AP,ep];simp only[Zi,Zg];lia
theorem Ku{a0:Array Keyed}{st:SortSt}{Q:Unit->SortSt->Prop}(C:e7 M A E s κ S L)(O:dZ S L)(hS:∀ i(h:i<a0.size),S a0[i])(hk:kindOf st=κ)(hf:failedOf st=none)(ha:arrOf st=a0)(hp:pendingOf st=#[])(hn:1<=a0.size)
  (q:∀st':SortSt,(arrOf st').Perm a0->failedOf st'=none->SI L (arrOf st') 0 a0.size->Q () st'):wpS M A E s sortRuns' Q st:=by
 unfold sortRuns';refine Zk (wpS_get ?_);dsimp only;rw[show ((sortPriv% PySem.Builtin.SortState.a) st:Array Keyed)=a0 from ha];refine Zk (aaO (Z2 (I:=λt c st'=>∃lo,c=(none,lo)/\Sw κ S L a0 st' lo/\lo<=a0.size/\t<=lo) (Q:=λc st'=>c=(none,a0.size)/\Sw κ S L a0 st' a0.size) ?step ?fin ⟨0,rfl,⟨hk,hf,by rw[ha],by rw[hp];rfl⟩,by lia,by lia⟩) ?post)
 case fin=>
  rintro c st' ⟨lo,rfl,w,l1,l2⟩;have:lo=a0.size:=by lia
  subst this;exact⟨rfl,w⟩
 case step=>
  rintro t c am pi tH ⟨lo,rfl,w,l1,l2⟩;dsimp only;have sz:=w.perm.size_eq;by_cases bY:lo ≥ a0.size
  ·rw[if_pos bY];have:lo=a0.size:=(by lia);subst this;exact Zs ⟨rfl,w⟩
  rw[if_neg bY];refine Zk (Kg C O w.kind (w.all hS) (by lia) (by lia) λn st2 n1 n2 s2 u2 i2=>?_);dsimp only;have WY:∀(bL:SortSt)(N:Nat),ez am bL->Up (arrOf am) (arrOf bL) lo (lo+(a0.size-lo))->Sw κ S L a0 bL lo:=λbL N x1 x2=>⟨x1.1.trans w.kind,x1.2.2.trans w.mL,x2.1.trans w.perm,by rw[x1.2.1];exact w.km.keep x2 (.inl (Y8 _))⟩;generalize ((sortPriv% PySem.Builtin.minRun) a0.size a0.size 0:Nat)=VF;by_cases c1:n<VF
  case' pos=>
   rw[if_pos c1];refine Zk (wpS_lift (aaR ⟨rfl,?_⟩));have Ua:=u2.size;refine Zk (Ke C O (s2.1.trans w.kind) (u2.S (w.all hS)) (by lia) (by rw[show max n 1=n by lia];exact i2) λbL s3 u3 VX=>?_);rw[if_neg (by decide)];have m1:1<=min (a0.size-lo) (VF):=(by lia);have m2:min (a0.size-lo) (VF)<=a0.size-lo:=(by lia);have wN:=WY bL 0 ⟨s3.1.trans s2.1,s3.2.1.trans s2.2.1,s3.2.2.trans s2.2.2⟩ (u2.trans (u3.kh (Y8 _) (by lia)));have Vk:=VX;generalize min (a0.size-lo) VF=N at m1 m2 Vk ⊢
  case' neg=>
   rw[if_neg c1];have m1:=n1;have m2:=n2;have wN:=WY st2 0 s2 u2;have Vk:=i2;clear c1 i2 n1 n2;generalize n=N at m1 m2 Vk ⊢
  all_goals
   refine Zk (wpS_get ?_);split
   ·refine Zk (aaO (Z2 (I:=λu c st'=>c=(none,())/\Sw κ S L a0 st' lo/\SI L (arrOf st') lo (lo+N)) (Q:=λc st'=>c=(none,())/\Sw κ S L a0 st' lo/\SI L (arrOf st') lo (lo+N)) ?Kv ?Kw ⟨rfl,wN,Vk⟩) ?Kx)
    case Kw=>exact λc st' h=>h
    case Kv=>
     rintro u c st' Ub Uc ⟨rfl,w',i'⟩;refine Zk (wpS_get ?_);by_cases ko:(pendingOf st').size > 1
     ·rw[if_pos ko,Zp (show (pendingOf st').size-2<(pendingOf st').size by lia)];generalize (pendingOf st')[(pendingOf st').size-2]=x;obtain⟨x1,x2,x3⟩:=x;dsimp only;split
      ·exact Zs ⟨rfl,w',i'⟩
      ·refine Zk (AH C O hS w' l1 (show (pendingOf st').size-2+1<(pendingOf st').size by lia) λd0 tI AQ _=>?_);rw[if_neg (by decide)];exact Zs ⟨rfl,tI,i'.keep AQ (by lia)⟩
     ·rw[if_neg ko];exact Zs ⟨rfl,w',i'⟩
    case Kx=>
     rintro c st' ⟨rfl,w',i'⟩;dsimp only;refine Zk (wpS_modify ?_);refine Zk (wpS_modify ?_);refine Zs ⟨_,rfl,⟨w'.kind,w'.mL,w'.perm,?_⟩,by lia,by lia⟩;rw[aas,Array.toList_modify];refine b0.app.mpr ⟨lo,?_,rfl,m1,i',rfl⟩;refine b0.mod ?_ w'.km;exact λx=>⟨rfl,rfl⟩
   ·refine Zk (wpS_modify ?_);refine Zs ⟨_,rfl,⟨wN.kind,wN.mL,wN.perm,?_⟩,by lia,by lia⟩;rw[aas];exact b0.app.mpr ⟨lo,wN.km,rfl,m1,Vk,rfl⟩
 case post=>
  rintro c am ⟨rfl,w⟩;dsimp only;have Ky:=w.km.le;rw[Zn]at Ky;refine Zk (aaO (Z2 (I:=λt c st'=>c=(none,())/\Sw κ S L a0 st' a0.size/\(pendingOf st').size+t<=a0.size+1) (Q:=λc st'=>c=(none,())/\Sw κ S L a0 st' a0.size/\(pendingOf st').size<=1) ?Kz ?KC ⟨rfl,w,by lia⟩) ?KD)
  case KC=>
   rintro c st' ⟨rfl,w',l⟩;exact⟨rfl,w',by lia⟩
  case Kz=>
   rintro t c st' pi tH ⟨rfl,w',l⟩;refine Zk (wpS_get ?_);by_cases ko:(pendingOf st').size<=1
   ·rw[if_pos ko];exact Zs ⟨rfl,w',ko⟩
   rw[if_neg ko];refine Zk (AH C O hS w' (Y8 _) ?_ λd0 tI AQ Ud=>?_)
   ·have Vj:∀(b:Bool)(k:Nat),(if b=true then k-1 else k)<=k:=λb k=>by split <;> lia
    exact Zd (Nat.add_le_add_right (Vj _ _) 1) (show (pendingOf st').size-2+1<(pendingOf st').size by lia)
   ·rw[if_neg (by decide)];exact Zs ⟨rfl,tI,by lia⟩
  case KD=>
   rintro c st' ⟨rfl,w',l⟩;refine Zs (q st' w'.perm w'.mL ?_);have rn:=w'.km;have ll:(pendingOf st').toList.length<=1:=(by rw[Zn];exact l);generalize (pendingOf st').toList=pl at rn ll
   match pl,rn,ll with
   |[],rn,_=>have:0=a0.size:=rn;lia
   |[x],⟨r1,r2,r3,r4⟩,_=>
    have e:0+x.2.1=a0.size:=r4;rw[e]at r3;exact r3
   |_::_::_,_,ll=>simp at ll
end
end Tm
end
section
namespace N
open PySem
inductive Dt where
 |int (i:Int)
 |str (x:Str)
 |tup (ds:List Dt)
noncomputable instance:DecidableEq Dt:=λa b=>aaL (a=b)
mutual
noncomputable def tD:Dt->D
 |.int i=>.int i
 |.str x=>.str x
 |.tup ds=>.tup (aL ds)
noncomputable def aL:List Dt->List D
 |[]=>[]
 |d::ds=>tD d::aL ds
end
noncomputable def eB(a b:Str):Bool:=decide (a.cps.toList<b.cps.toList)
theorem KG(x:Str):eB x x=false:=decide_eq_false (List.lt_irrefl _)
theorem KH{x y z:Str}(h1:eB x y=true)(h2:eB y z=true):eB x z=true:=decide_eq_true (List.lt_trans (of_decide_eq_true h1) (of_decide_eq_true h2))
theorem AR{x y:Str}(h:x≠y):eB y x=!eB x y:=by
 have ne:x.cps.toList≠y.cps.toList:=λe=>h (by cases x;cases y;congr 1;exact Array.toList_inj.mp e);unfold eB;by_cases a:x.cps.toList<y.cps.toList
 ·have b:¬y.cps.toList<x.cps.toList:=λb=>List.lt_irrefl _ (List.lt_trans a b);simp [a,b]
 ·have b:y.cps.toList<x.cps.toList:=Classical.byContradiction λb=>ne (List.le_antisymm (List.not_lt.mp b) (List.not_lt.mp a));simp [a,b]
mutual
noncomputable def aE:Dt->Dt->Option Bool
 |.int i,e=>match e with |.int j=>some (decide (i<j)) |_=>none
 |.str x,e=>match e with |.str y=>some (eB x y) |_=>none
 |.tup ds,e=>match e with |.tup es=>aA ds es |_=>none
noncomputable def aA:List Dt->List Dt->Option Bool
 |[],es=>some (decide (es≠[]))
 |d::ds,es=>match es with |[]=>some false |e::es=>if d=e then aA ds es else aE d e
end
theorem s1(x y:Str)(h:eB x y=true):eB y x=false:=by
 by_cases e:x=y
 ·subst e;exact KG x
 ·rw[AR e,h];rfl
theorem s2(x y:Str)(h:eB x y=false):x=y\/eB y x=true:=by
 by_cases e:x=y
 ·exact .inl e
 ·exact .inr (by rw[AR e,h];rfl)
mutual
theorem AS:∀(d e:Dt)(r:Bool),aE d e=some r->(r=true->aE e d=some false)/\(r=false->d=e\/aE e d=some true)
 |.int i,e,r,h=>by
  cases e with
  |int j=>
   rw[aE]at h;simp only[aaf]at h;subst h;simp only[aE,decide_eq_true_eq,decide_eq_false_iff_not,aaf,Dt.int.injEq];lia
  |str y=>simp [aE]at h
  |tup y=>simp [aE]at h
 |.str x,e,r,h=>by
  cases e with
  |int j=>simp [aE]at h
  |str y=>
   rw[aE]at h;simp only[aaf]at h;subst h;simp only[aE,aaf,Dt.str.injEq];exact⟨s1 x y,s2 x y⟩
  |tup y=>simp [aE]at h
 |.tup ds,e,r,h=>by
  cases e with
  |int j=>simp [aE]at h
  |str y=>simp [aE]at h
  |tup es=>
   rw[aE]at h;have:=gu ds es r h;simp only[aE,Dt.tup.injEq];exact this
theorem gu:∀(ds es:List Dt)(r:Bool),aA ds es=some r->(r=true->aA es ds=some false)/\(r=false->ds=es\/aA es ds=some true)
 |[],[],r,h=>by rw[aA]at h;simp at h;subst h;exact⟨λz=>(nomatch z),λ_=>.inl rfl⟩
 |[],e::es,r,h=>by rw[aA]at h;simp at h;subst h;exact⟨λ_=>by rw[aA],λz=>(nomatch z)⟩
 |d::ds,[],r,h=>by rw[aA]at h;simp at h;subst h;exact⟨λz=>(nomatch z),λ_=>.inr (by rw[aA];simp)⟩
 |d::ds,e::es,r,h=>by
  rw[aA]at h;rw[aA];by_cases c:d=e
  ·rw[if_pos c]at h;rw[if_pos c.symm];have:=gu ds es r h;refine⟨this.1,λz=>?_⟩;rcases this.2 z with w |w
   ·exact .inl (by rw[c,w])
   ·exact .inr w
  ·rw[if_neg c]at h;rw[if_neg (ZO c)];have:=AS d e r h;refine⟨this.1,λz=>?_⟩;rcases this.2 z with w |w
   ·exact absurd w c
   ·exact .inr w
end
mutual
theorem KJ:∀(d e f:Dt),aE d e=some true->aE e f=some true->aE d f=some true
 |.int i,e,f,h,k=>by
  cases e with
  |int j=>
   cases f with
   |int l=>simp only[aE,aaf,decide_eq_true_eq]at h k ⊢;lia
   |str y=>simp [aE]at k
   |tup y=>simp [aE]at k
  |str y=>simp [aE]at h
  |tup y=>simp [aE]at h
 |.str x,e,f,h,k=>by
  cases e with
  |int j=>simp [aE]at h
  |str y=>
   cases f with
   |int l=>simp [aE]at k
   |str z=>simp only[aE,aaf]at h k ⊢;exact KH h k
   |tup y=>simp [aE]at k
  |tup y=>simp [aE]at h
 |.tup ds,e,f,h,k=>by
  cases e with
  |int j=>simp [aE]at h
  |str y=>simp [aE]at h
  |tup es=>
   cases f with
   |int l=>simp [aE]at k
   |str z=>simp [aE]at k
   |tup fs=>simp only[aE]at h k ⊢;exact pk ds es fs h k
theorem pk:∀(ds es fs:List Dt),aA ds es=some true->aA es fs=some true->aA ds fs=some true
 |[],es,[],h,k=>by
  cases es with
  |nil=>exact h
  |cons e es=>rw[aA]at k;simp at k
 |[],es,f::fs,h,k=>by rw[aA];simp
 |d::ds,[],fs,h,k=>by rw[aA]at h;simp at h
 |d::ds,e::es,[],h,k=>by rw[aA]at k;simp at k
 |d::ds,e::es,f::fs,h,k=>by
  rw[aA]at h k ⊢;by_cases c1:d=e
  ·rw[if_pos c1]at h;subst c1;by_cases c2:d=f
   ·rw[if_pos c2]at k ⊢;exact pk ds es fs h k
   ·rw[if_neg c2]at k ⊢;exact k
  ·rw[if_neg c1]at h;by_cases c2:e=f
   ·subst c2;rw[if_neg c1];exact h
   ·rw[if_neg c2]at k;have c3:d≠f:=λz=>by
     subst z;have:=(AS d e true h).1 rfl;rw[this]at k;cases k
    rw[if_neg c3];exact KJ d e f h k
end
theorem KL(a:List Dt){r:Bool}(h:aA a a=some r):r=false:=by
 cases r with
 |false=>rfl
 |true=>have:=(gu a a true h).1 rfl;rw[h]at this;cases this
theorem KN{a b c:List Dt}{q:Bool}(h:aA b a=some false)(k:aA c b=some false)(z:aA c a=some q):q=false:=by
 cases q with
 |false=>rfl
 |true=>
  exfalso;rcases (gu b a false h).2 rfl with e |e
  ·subst e;rw[z]at k;cases k
  ·rcases (gu c b false k).2 rfl with e' |e'
   ·subst e';rw[z]at h;cases h
   ·have:=pk a b c e e';have t:=(gu a c true this).1 rfl;rw[z]at t;cases t
open PySem.W PyProof.Rows L2 in
theorem KO{S:Keyed->Prop}{D:Keyed->List Dt}(mM:∀x y,S x->S y->(aA (D x) (D y)).isSome=true):Tm.dZ S λx y=>(aA (D x) (D y)).getD false:=by
 have get:∀x y,S x->S y->aA (D x) (D y)=some ((aA (D x) (D y)).getD false):=λx y sx sy=>by
  obtain⟨r,hr⟩:=Option.isSome_iff_exists.mp (mM x y sx sy);rw[hr];rfl
 refine⟨λx y sx sy h=>?_,λx y z sx sy sz h k=>?_⟩
 ·have e:=get x y sx sy;rw[h]at e;have:=(gu _ _ true e).1 rfl;show (aA (D y) (D x)).getD false=false;rw[this];rfl
 ·have e1:=get y x sy sx;have e2:=get z y sz sy;have e3:=get z x sz sx;change (aA (D y) (D x)).getD false=false at h;change (aA (D z) (D y)).getD false=false at k;rw[h]at e1;rw[k]at e2;exact KN e1 e2 e3
theorem tJ{α β:Type}[DecidableEq α](f:α->β):∀(q:List β)(l:List α),q.Perm (l.map f)->∃p:List α,p.Perm l/\q=p.map f
 |[],l,h=>by
  have:l=[]:=by have:=h.length_eq;rw[Y6]at this;exact List.length_eq_zero_iff.mp this.symm
  subst this;exact⟨[],.refl _,rfl⟩
 |x::q,l,h=>by
  obtain⟨i,hi,e⟩:=List.mem_map.mp (h.mem_iff.mp Za);have WZ:=List.perm_cons_erase hi;have h2:(x::q).Perm (x::(l.erase i).map f):=by
   refine h.trans ?_;rw[<- e];exact WZ.map f
  obtain⟨p,p1,p2⟩:=tJ f q (l.erase i) (List.Perm.cons_inv h2);exact⟨i::p,(p1.cons i).trans WZ.symm,by rw[p2,<- e];rfl⟩
open L2
mutual
noncomputable def Dt.aI:Dt->Nat
 |.int _=>0
 |.str _=>0
 |.tup ds=>cf ds+1
noncomputable def cf:List Dt->Nat
 |[]=>0
 |d::ds=>max d.aI (cf ds)
end
mutual
theorem pq:∀d,aF (tD d)=true
 |.int _=>rfl
 |.str _=>rfl
 |.tup ds=>by rw[tD,aF];exact AU ds
theorem AU:∀ds,aP (aL ds)=true
 |[]=>rfl
 |d::ds=>by rw[aL,aP,pq d,AU ds];rfl
end
mutual
theorem tK:∀d,N.aI (tD d)=d.aI
 |.int _=>rfl
 |.str _=>rfl
 |.tup ds=>by rw[tD,N.aI,Dt.aI,AV ds]
theorem AV:∀ds,aW (aL ds)=cf ds
 |[]=>rfl
 |d::ds=>by rw[aL,aW,cf,tK d,AV ds]
end
mutual
theorem tL:∀(d e:Dt),aw (tD d) (tD e)=decide (d=e)
 |.int i,e=>by
  cases e with
  |int j=>show (some j == some i)=_;by_cases h:i=j;(· subst h;simp);(· simp [h,ZO h])
  |str y=>exact (decide_eq_false (λh=>nomatch h)).symm
  |tup y=>exact (decide_eq_false (λh=>nomatch h)).symm
 |.str x,e=>by
  cases e with
  |int j=>exact (decide_eq_false (λh=>nomatch h)).symm
  |str y=>show (some y == some x)=_;by_cases h:x=y;(· subst h;simp);(· simp [h,ZO h])
  |tup y=>exact (decide_eq_false (λh=>nomatch h)).symm
 |.tup ds,e=>by
  cases e with
  |int j=>exact (decide_eq_false (λh=>nomatch h)).symm
  |str y=>exact (decide_eq_false (λh=>nomatch h)).symm
  |tup es=>
   show bo (aL ds) (aL es)=_;rw[AW ds es];by_cases h:ds=es
   ·rw[decide_eq_true h,decide_eq_true (by rw[h])]
   ·rw[decide_eq_false h,decide_eq_false (λz=>h (by injection z))]
theorem AW:∀(ds es:List Dt),bo (aL ds) (aL es)=decide (ds=es)
 |[],es=>by
  cases es with
  |nil=>rw[decide_eq_true rfl];rfl
  |cons e es=>rw[decide_eq_false (λh=>nomatch h)];rfl
 |d::ds,es=>by
  cases es with
  |nil=>rw[decide_eq_false (λh=>nomatch h)];rfl
  |cons e es=>
   show (aw (tD d) (tD e) && bo (aL ds) (aL es))=_;rw[tL d e,AW ds es];by_cases h:d=e
   ·by_cases k:ds=es
    ·rw[decide_eq_true h,decide_eq_true k,decide_eq_true (by rw[h,k])];rfl
    ·rw[decide_eq_true h,decide_eq_false k,decide_eq_false (λz=>k (List.cons.inj z).2)];rfl
   ·rw[decide_eq_false h,decide_eq_false (λz=>h (List.cons.inj z).1)];rfl
end
section
variable{G:Gx}{F:Fz}
mutual
theorem AX:∀(d e:Dt)(u:Value),aa G F (tD d) u->aa G F (tD e) u->d=e
 |.int i,e,u,h,k=>by
  rw[tD,aa]at h;obtain⟨t,rfl⟩:=h;cases e with
  |int j=>rw[tD,aa]at k;obtain⟨t',k⟩:=k;cases k;rfl
  |str y=>rw[tD,aa]at k;obtain⟨t',k⟩:=k;cases k
  |tup y=>rw[tD,aa]at k;obtain⟨_,_,_,k,_⟩:=k;cases k
 |.str i,e,u,h,k=>by
  rw[tD,aa]at h;obtain⟨t,rfl⟩:=h;cases e with
  |int j=>rw[tD,aa]at k;obtain⟨t',k⟩:=k;cases k
  |str y=>rw[tD,aa]at k;obtain⟨t',k⟩:=k;cases k;rfl
  |tup y=>rw[tD,aa]at k;obtain⟨_,_,_,k,_⟩:=k;cases k
 |.tup ds,e,u,h,k=>by
  rw[tD,aa]at h;obtain⟨a,o,us,rfl,h1,h2,h3⟩:=h;cases e with
  |int j=>rw[tD,aa]at k;obtain⟨t',k⟩:=k;cases k
  |str y=>rw[tD,aa]at k;obtain⟨t',k⟩:=k;cases k
  |tup es=>
   rw[tD,aa]at k;obtain⟨b,o',vs,e,k1,k2,k3⟩:=k;cases e;rw[h1]at k1;cases k1;obtain⟨_,_,⟨n,e1⟩,_⟩:=h2;obtain⟨_,_,⟨n',e2⟩,_⟩:=k2;rw[e1]at e2;injection e2 with e2 _;have e2:us=vs:=(by simpa using congrArg Array.toList e2);subst e2;rw[AY ds es us h3 k3]
theorem AY:∀(ds es:List Dt)(us:List Value),af G F (aL ds) us->af G F (aL es) us->ds=es
 |[],es,us,h,k=>by
  cases es with
  |nil=>rfl
  |cons e es=>rw[aL,af]at h;rw[aL,af]at k;subst h;obtain⟨_,_,k,_⟩:=k;cases k
 |d::ds,es,us,h,k=>by
  rw[aL,af]at h;obtain⟨y,r,rfl,h1,h2⟩:=h;cases es with
  |nil=>rw[aL,af]at k;cases k
  |cons e es=>
   rw[aL,af]at k;obtain⟨y',r',e',k1,k2⟩:=k;cases e';rw[AX d e y h1 k1,AY ds es r h2 k2]
end
end
end N
end
section
namespace N
open PySem PySem.Spec PyProof.Rows L2 PySem.W
def tM(P:Program)(w:World)(A:Around)(s:Shared)(x y:Value)(r:Bool):Prop:=∀(E:Value->Shared->Prop)(Q:Value->Shared->Prop),Q (.bool r) s->wpAny (model P w) A (richCompare .Lt x y) Q E s
section
open PySem.SeqAt
open PySem.AutoSeq1 (wpAny_loadPart')
open PySem.MeetsSeq PySem.MeetsSeq2 PySem.MeetsSeq3
variable{P:Program}{w:World}{G:Gx}{F:Fz}{M:Mp}
theorem AZ{s:Shared}(ok:ay G F M s.heap){d:Dt}{u:Value}(r:aa G F (tD d) u):Sh G F s (tD d) u:=fC ok r (pq d)
theorem A0(n:Nat){A:Around}{s:Shared}{d e:Dt}{x y:Value}(ok:ay G F M s.heap)(hd:d.aI<=n)(hu:A.units+n<cLine)(X8:aa G F (tD d) x)(ry:aa G F (tD e) y):SeqAt.EqAt A s x y (decide (d=e)):=by
 have:=lS n (A:=A) ok (AZ ok X8) (AZ ok ry) (by rw[tK];exact hd) hu;rw[tL]at this;exact this
theorem KP(n : Nat)(ih : ∀(A : Around)(s : Shared)(d e : Dt)(x y : Value)(r : Bool), ay G F M s.heap -> d.aI <= n -> A.units + n < cLine -> aa G F (tD d) x -> aa G F (tD e) y -> aE d e = some r -> tM P w A s x y r)
    (l b:Addr) (items kq:Array Value) (n1 n2:Nat) (dd f6:Option Addr) (sl iH:Array (Option Value)) (ks VG:List Dt) (hi:af G F (aL ks) items.toList) (hj:af G F (aL VG) kq.toList) (KQ:cf ks<=n) (r:Bool) (hr:aA ks VG=some r) :
    MeetsIn P w (Builtin.«tuple.__lt__» ⟨[.ref l,.ref b],[]⟩)
      (λA R s=>A.units+1+n<cLine/\ay G F M s.heap/\s.heap.get? l=some { cls:=.type "tuple",dict:=dd,data:=.seq items n1,slots:=sl }/\s.heap.get? b=some { cls:=.type "tuple",dict:=f6,data:=.seq kq n2,slots:=iH } /\
        R (.ok (.ret (.bool r))) s):=
  .of_wp λA R s h=>by
    obtain⟨hp,g,d,tk,os⟩:=s;obtain⟨hu,ok,hl,hb,h⟩:=h;have f2:=AutoSeq1.sub_tuple_tuple;have tl:∀ks:List Dt,(aL ks).length=ks.length:=λks=>(by induction ks with |nil=>rfl |cons k ks ih=>simp [aL,ih]);have z1:items.size=ks.length:=by have:=hi.len;rw[tl]at this;simpa using this.symm
    have z2:kq.size=VG.length:=by have:=hj.len;rw[tl]at this;simpa using this.symm
    wp_walk using aao hl,aao hb,wpAny_forIn_list _ (λrest b s'=>b.1=none/\s'=⟨hp,g,d,tk,os⟩/\∃(vs ws:List Value)(gt gw:List Dt),rest=vs.zip ws /\
      af G F (aL gt) vs/\af G F (aL gw) ws/\cf gt<=n/\gt.length+kq.size=gw.length+items.size/\aA gt gw=some r) _
    case turn=>
      rintro⟨y,x⟩ rest b s' ⟨hb',rfl,vs,ws,gt,gw,hz,i5,i6,KR,hlen,hR⟩;cases gt with
      |nil=>rw[aL,af]at i5;subst i5;rw[List.zip_nil_left]at hz;cases hz
      | cons a gt=>
        rw[aL,af]at i5;obtain⟨YV,Ad,rfl,ra,KU⟩:=i5;cases gw with
        |nil=>rw[aL,af]at i6;subst i6;rw[List.zip_nil_right]at hz;cases hz
        | cons c gw =>
              rw[aL,af]at i6;obtain⟨VH,i7,rfl,rc,KW⟩:=i6;rw[aad]at hz;injection hz with KY KZ;injection KY with hy U;subst hy U;rw[aA]at hR;rw[cf]at KR;simp only[Zg]at hlen;have he:=A0 n (A:=A.in1) (s:=⟨hp,g,d,tk,os⟩) ok (by lia) (by show A.units+1+n<cLine;lia) ra rc;refine Y4 (he P w _ _ ?_);by_cases Uw:a=c
              · rw[decide_eq_true Uw];rw[if_pos Uw]at hR
                wp_walk
                exact⟨rfl,rfl,_,_,_,_,KZ,KU,KW,by lia,by lia,hR⟩
              · rw[decide_eq_false Uw];rw[if_neg Uw]at hR;have A2:=ih A.in1 ⟨hp,g,d,tk,os⟩ a c y x r ok (by lia) (by show A.units+1+n<cLine;lia) ra rc hR;unfold tM at A2
                wp_walk using A2
                exact⟨_,rfl,by simpa using h⟩
    case fin=>
      rintro⟨b1,b2⟩ s' ⟨hb',rfl,vs,ws,gt,gw,hz,i5,i6,_,hlen,hR⟩;simp only at hb';subst hb';have hv:r=decide (items.size<kq.size):=by
        cases gt with
        | nil=>
          cases gw with
          | nil=>
            simp only[List.length_nil]at hlen;rw[aA]at hR;cases hR;simp;lia
          | cons _ _=>
            simp only[List.length_nil,Zg]at hlen;rw[aA]at hR;cases hR;simp;lia
        | cons _ _=>
          cases gw with
          | nil=>
            simp only[List.length_nil,Zg]at hlen;rw[aA]at hR;cases hR;exact (decide_eq_false (by lia)).symm
          | cons _ _=>
            rw[aL,af]at i5 i6;obtain⟨_,_,rfl,_,_⟩:=i5;obtain⟨_,_,rfl,_,_⟩:=i6;rw[aad]at hz;cases hz
      rw[hv]at h
      wp_walk
      exact⟨_,rfl,by simpa [Builtin.Tuple.tupleCompareSizes] using h⟩
    case h=>
      exact⟨rfl,rfl,items.toList,kq.toList,ks,VG,rfl,hi,hj,KQ,by lia,hr⟩
theorem K1:∀(n:Nat)(A:Around)(s:Shared)(d e:Dt)(x y:Value)(r:Bool),ay G F M s.heap->d.aI<=n->A.units+n<cLine->aa G F (tD d) x->aa G F (tD e) y->aE d e=some r->tM P w A s x y r:=by
 intro n
 induction n with
 |zero=>
  intro A s d e x y r ok hd hu rv ru h E Q q;cases d with
  |int i=>
   cases e with
   |int j=>
    rw[tD,aa]at rv ru;obtain⟨t,rfl⟩:=rv;obtain⟨t',rfl⟩:=ru;rw[aE]at h;cases h;exact (PyProof.Rows.lt_int q:wpAny (model P w) A (compareOp .Lt (.int i t) (.int j t')) Q E s)
   |str z=>simp [aE]at h
   |tup es=>simp [aE]at h
  |str i=>
   cases e with
   |int j=>simp [aE]at h
   |str z=>
    rw[tD,aa]at rv ru;obtain⟨t,rfl⟩:=rv;obtain⟨t',rfl⟩:=ru;rw[aE]at h;cases h;exact (PyProof.Rows.lt_str q:wpAny (model P w) A (compareOp .Lt (.str i t) (.str z t')) Q E s)
   |tup es=>simp [aE]at h
  |tup ds=>rw[Dt.aI]at hd;lia
 |succ n ih=>
  intro A s d e x y r ok hd hu rv ru h;cases d with
  |int i=>exact ih A s _ e x y r ok (by rw[Dt.aI];lia) (by lia) rv ru h
  |str i=>exact ih A s _ e x y r ok (by rw[Dt.aI];lia) (by lia) rv ru h
  |tup ds=>
   cases e with
   |int j=>simp [aE]at h
   |str z=>simp [aE]at h
   |tup es=>
    intro E Q q;rw[aE]at h;rw[Dt.aI]at hd;rw[tD,aa]at rv ru;obtain⟨a,o,us,rfl,h1,h2,h3⟩:=rv;obtain⟨b,o2,iM,rfl,g1,g2,g3⟩:=ru;have ho:=ok.fz a _ h1;have ho2:=ok.fz b _ g1;obtain⟨hc,_,⟨n1,AT⟩,_⟩:=h2;obtain⟨f7,_,⟨n2,g7⟩,_⟩:=g2;obtain⟨cls,data,dd,sl⟩:=o;obtain⟨wT,xz,f6,iH⟩:=o2;simp only at hc AT f7 g7;subst hc AT f7 g7;exact wpAny_richCompare_same_room (op:=.Lt) ⟨_,ho,rfl⟩ ⟨_,ho2,rfl⟩ PySem.F.slot_tuple_lt (call_meetsIn PySem.F.slot_tuple_lt ⟨_,ho,rfl⟩ PySem.F.entry_tuple_lt (PySem.F.args_tuple_lt_2 _ _) (KP n ih a b us.toArray iM.toArray n1 n2 _ _ _ _ ds es (by simpa using h3) (by simpa using g3) (by lia) r h)
     ⟨by lia,ok,ho,ho2,show Value.bool r≠Value.notImplemented/\Q (.bool r) s from ⟨(λx=>nomatch x),q⟩⟩) (by lia)
end
noncomputable def kr:Dt->String
 |.int _=>"int"
 |.str _=>"str"
 |.tup _=>"tuple"
section
variable{G:Gx}{F:Fz}{M:Mp}{A:Around}{E:Value->Shared->Prop}{s:Shared}
theorem K3{M':Model}{h:Heap}(ok:ay G F M h){d:Dt}{x:Value}(r:aa G F (tD d) x):Looks M' h (typeOf x) (.type (kr d)):=by
 cases d with
 |int n=>rw[tD,aa]at r;obtain⟨t,rfl⟩:=r;exact .now
 |str n=>rw[tD,aa]at r;obtain⟨t,rfl⟩:=r;exact .now
 |tup ds=>
  rw[tD,aa]at r;obtain⟨a,o,us,rfl,h1,h2,_⟩:=r;have:=(show Looks M' h (typeOf (.ref a)) o.cls from (Looks.ld (ok.fz a _ h1)).andThen .now);rw[h2.cls]at this;exact this
theorem A3{P:Program}{w:World}{b fin:Bool}{Q:Bool->Shared->Prop}{n:Nat}(ok:ay G F M s.heap)(hu:A.units+n<cLine):∀(ds es:List Dt)(us ws:List Value)(i:Nat)(r:Bool),af G F (aL ds) us->af G F (aL es) ws->cf ds<=n->aA ds es=some r->fin=decide (ds.length<es.length) ->
  ((b && i == 0)=true->∀d e,ds.head?=some d->es.head?=some e->kr d=kr e/\kr d≠"tuple")->Q r s->KatLex P w A b fin Q (us.zip ws) i s
 |[],[],us,ws,i,r,h1,h2,_,h,hf,_,q=>by
  rw[aA]at h;cases h;rw[aL,af]at h1 h2;subst hf h1 h2;refine kat_nil (by simpa using q)
 |[],_::_,us,ws,i,r,h1,h2,_,h,hf,_,q=>by
  rw[aA]at h;cases h;rw[aL,af]at h1;subst hf h1;refine kat_nil (by simpa using q)
 |_::_,[],us,ws,i,r,h1,h2,_,h,hf,_,q=>by
  rw[aA]at h;cases h;rw[aL,af]at h2;subst h2;rw[List.zip_nil_right];subst hf;exact q
 |d::ds,e::es,us,ws,i,r,h1,h2,hd,h,hf,hb,q=>by
  rw[cf]at hd;rw[aA]at h;rw[aL,af]at h1 h2;obtain⟨x,us,rfl,rv,t⟩:=h1;obtain⟨y,ws,rfl,ru,t'⟩:=h2;rw[aad];refine kat_cons (A0 n ok (by lia) hu rv ru _ _ _ _ ?_);by_cases Uw:d=e
  ·rw[if_pos Uw]at h;rw[decide_eq_true Uw];refine kat_yes (A3 ok hu ds es us ws (i+1) r t t' (by lia) h (by rw[hf];simp) (λz=>?_) q);simp at z
  ·rw[if_neg Uw]at h;rw[decide_eq_false Uw];refine kat_no ?_;cases tN:(b && i == 0) with
   |false=>exact kat_one _ _ (K1 n A s d e x y r ok (by lia) hu rv ru h _ _ q)
   |true=>
    obtain⟨t1,t2⟩:=hb tN d e rfl rfl;cases d with
    |int m=>
     cases e with
     |int k=>
      rw[tD,aa]at rv ru;obtain⟨t,rfl⟩:=rv;obtain⟨t',rfl⟩:=ru;rw[aE]at h;cases h;exact oneLt_int q
     |str z=>simp [aE]at h
     |tup z=>simp [aE]at h
    |str m=>
     cases e with
     |int k=>simp [aE]at h
     |str z=>
      rw[tD,aa]at rv ru;obtain⟨t,rfl⟩:=rv;obtain⟨t',rfl⟩:=ru;rw[aE]at h;cases h;exact oneLt_str q
     |tup z=>simp [aE]at h
    |tup ds=>exact absurd rfl t2
def eC(G:Gx)(F:Fz)(vs:List Value)(ds:List (List Dt)):Prop:=af G F (ds.map λd=>tD (.tup d)) vs
theorem eC.get{vs:List Value}{ds:List (List Dt)}(h:eC G F vs ds){i:Nat}{d:List Dt}(e:ds[i]?=some d):∃u,vs[i]?=some u/\aa G F (tD (.tup d)) u:=af.get h (by rw[Zr,e];rfl)
theorem eC.len{vs:List Value}{ds:List (List Dt)}(h:eC G F vs ds):vs.length=ds.length:=by have:=af.len h;rw[Y6]at this;exact this.symm
structure A4(T:String)(ds:List (List Dt)):Prop where
 first:∀d∈ds,∃e r,d=e::r/\kr e=T
 mM:∀d∈ds,∀e∈ds,(aA d e).isSome=true
 aI:∀d∈ds,cf d<=100
theorem eC.my{P:Program}{w:World}{T:String}(ok:ay G F M s.heap):∀{vs:List Value}{ds:List (List Dt)},eC G F vs ds->(∀d∈ds,∃e r,d=e::r/\kr e=T)->∃fs,KatTups s.heap vs fs/\fs.length=vs.length/\∀f∈fs,Looks (model P w) s.heap (typeOf f) (.type T)
 |vs,[],t,_=>by
  unfold eC at t;rw[Z',af]at t;subst t;exact⟨[],.nil,rfl,λf hf=>(nomatch hf)⟩
 |vs,d::ds,t,hf=>by
  unfold eC at t;rw[Zh,af]at t;obtain⟨v,vs,rfl,rv,t⟩:=t;obtain⟨fs,h1,h2,h3⟩:=eC.my (P:=P) (w:=w) ok (vs:=vs) (ds:=ds) t (λd hd=>hf d (Zc _ hd));obtain⟨e,r,rfl,VB⟩:=hf d Za;rw[tD,aa]at rv;obtain⟨a,o,us,rfl,g1,g2,g3⟩:=rv;rw[aL,af]at g3;obtain⟨u,us,rfl,ru,_⟩:=g3;obtain⟨c1,_,⟨n,c2⟩,_⟩:=g2;refine⟨u::fs,.cons (ok.fz a _ g1) c1 c2 (by simp) h1,by simp [h2],λf hf=>?_⟩;rcases List.mem_cons.mp hf with z |z
  ·subst z;have:=K3 (M':=model P w) ok ru;rw[VB]at this;exact this
  ·exact h3 f z
noncomputable def fM(vs:List Value)(ds:List (List Dt))(x:Keyed):List Dt:=(ds[vs.idxOf x.1]?).getD []
theorem ku{vs:List Value}{ds:List (List Dt)}(hT:eC G F vs ds){i:Nat}(hi:i<vs.length):∃h:i<ds.length,fM vs ds (vs[i],vs[i])=ds[i]:=by
 have hl:=hT.len;have h0:i<ds.length:=by lia
 refine⟨h0,?_⟩;have hj:vs.idxOf vs[i]<vs.length:=List.idxOf_lt_length_iff.mpr (Z8 hi);have ej:vs[vs.idxOf vs[i]]=vs[i]:=List.getElem_idxOf hj;have bn:vs.idxOf vs[i]<ds.length:=by lia
 unfold fM;rw[Y5 bn];show ds[vs.idxOf vs[i]]=ds[i];obtain⟨u,a1,a2⟩:=hT.get (Y5 bn);obtain⟨v,c1,c2⟩:=hT.get (Y5 h0);rw[Y5 hj,ej]at a1;rw[Y5 hi]at c1;rw[a1]at c1;cases c1;have:=AX _ _ _ a2 c2;injection this
theorem K4{a:Addr}{vs:List Value}{ds:List (List Dt)}{n:Nat}{T:String}{P:Fin->Shared->Prop}(hu:A.units+105<cLine)(ok:ay G F M s.heap)(ha:F a=none)(hm:M a=none)(ho:s.heap.get? a=some (seqObj "list" vs.toArray n))(hT:eC G F vs ds)(so:A4 T ds)(hL:vs.length<=sizeLine)
  (h:∀(p:List Nat),p.Perm (ZL vs.length)->(∀i j,i<j->j<vs.length->aA (ds.getD (p.getD j 0) []) (ds.getD (p.getD i 0) [])=some false)->P (.done (.ret .none)) { s with heap:=sortedHeap s.heap a vs (p.map λi=>vs.getD i aac).toArray }) :
  wpAny (model G.P G.w) A (Builtin.«list.sort» ⟨[.ref a],[]⟩) P E s:=by
 have tO:vs.length<=sizeLine:=hL;obtain⟨e1,g1⟩:∃e1,(s.heap.update a (ZM λ_=>(#[]:Array Value))).get? a=some (seqObj "list" #[] e1):=⟨_,get?_update_seq ho λ_=>#[]⟩;have g6:(((s.heap.update a (ZM λ_=>(#[]:Array Value))).push (seqObj "tuple" vs.toArray 0)).push (seqObj "list" #[] 0)).get? a=some (seqObj "list" #[] e1):=Y7 _ (Y7 _ g1);have sb:=aan s.heap a (ZM λ_=>(#[]:Array Value));have ey:ay G F M (((s.heap.update a (ZM λ_=>(#[]:Array Value))).push (seqObj "tuple" vs.toArray 0)).push (seqObj "list" #[] 0)):=ok.keep λb hb o e=>Y7 _ (Y7 _ (sb.extBut b o (by rintro rfl;rcases hb with h |h;exact h ha;exact h hm) e));rw[list_sort_plain];refine Y4 (listItems_at ho rfl (Y4 (listUpdate_at ho rfl ?_ (by rw[Zb];exact tO) (Zj _))));refine Y4 (seqEpoch_at g1 rfl (Y4 (wpAny_newTuple ?_ (by show vs.length<=_;exact tO))));refine Y4 (wpAny_newList (ZP ?_) (Zj _));show wpAny (model G.P G.w) A _ P E { s with heap:=((s.heap.update a (ZM λ_=>(#[]:Array Value))).push (seqObj "tuple" vs.toArray 0)).push (seqObj "list" #[] 0) };dsimp only;by_cases h2:vs.toArray.size<2
 ·have sY:vs.length<2:=by simpa using h2
  rw[if_pos h2,if_pos h2];refine Y4 (Y' ?_);rw[StateT.run_pure];refine Y4 (Y' ?_);dsimp only;have U0:(arrOf (SortSt.mk' general' (vs.toArray.zip vs.toArray) #[] 7 none)).map (·.2)=vs.toArray:=by
   show (vs.toArray.zip vs.toArray).map (·.2)=vs.toArray;apply Array.toList_inj.mp;rw[Array.toList_map,Array.toList_zip];simp only[List.toList_toArray];have zz:∀l:List Value,(l.zip l).map (·.2)=l:=λl=>(by induction l with |nil=>rfl |cons x l ih=>simp [ih]);exact zz vs
  rw[U0];refine Y4 (seqEpoch_at g6 rfl (Y4 (listUpdate_at g6 rfl ?_ (Zj _) (by rw[Zb,aaX];lia))));simp only[bne_self_eq_false,aam,if_false];have q:=h (ZL vs.length) (.refl _) λi j bZ hj=>by lia
  have zz:(ZL vs.length).map (λi=>vs.getD i aac)=vs:=by
   refine List.ext_getElem (by simp) λi h1 h2=>?_;simp [Zm,Y5 h2]
  rw[zz]at q;exact Y' q
 have h3:¬vs.length<2:=by simpa using h2
 rw[if_neg h2,if_neg h2];obtain⟨fs,f1,f2,f3⟩:=hT.my (P:=G.P) (w:=G.w) (s:={ s with heap:=((s.heap.update a (ZM λ_=>(#[]:Array Value))).push (seqObj "tuple" vs.toArray 0)).push (seqObj "list" #[] 0) }) ey so.first;refine Y4 (kat_kind (T:=.type T) f1 (by rw[f2];lia) f3 (by simp) ?_);have zl:(vs.toArray.zip vs.toArray).size=vs.length:=by simp
 have X9:∀i(hi:i<(vs.toArray.zip vs.toArray).size),∃h:i<vs.length,(vs.toArray.zip vs.toArray)[i]=(vs[i],vs[i]):=λi hi=>⟨by rw[zl]at hi;exact hi,by simp⟩;refine Y4 (aa1 (Tm.Ku (S:=λx=>∃(i:Nat)(hi:i<vs.length),x=(vs[i],vs[i])) (L:=λx y=>(aA (fM vs ds x) (fM vs ds y)).getD false) (a0:=vs.toArray.zip vs.toArray)
  (Q:=λ_ st'=>(arrOf st').Perm (vs.toArray.zip vs.toArray)/\failedOf st'=none/\Tm.SI (λx y=>(aA (fM vs ds x) (fM vs ds y)).getD false) (arrOf st') 0 (vs.toArray.zip vs.toArray).size) ?cmp ?ord (λi hi=>?all) rfl rfl rfl rfl (by rw[zl];lia) λst' q1 q2 q3=>⟨q1,q2,q3⟩) ?_ λ_ _ e=>e)
 case all=>obtain⟨hi',e⟩:=X9 i hi;exact⟨i,hi',e⟩
 case ord=>
  refine KO λx y ⟨i,hi,e⟩ ⟨j,hj,e'⟩=>?_;subst e;subst e';obtain⟨U1,ei⟩:=ku hT hi;obtain⟨UC,ej⟩:=ku hT hj;rw[ei,ej];exact so.mM _ (Z8 _) _ (Z8 _)
 case cmp=>
  rintro x y st Q hk ⟨i,hi,rfl⟩ ⟨j,hj,rfl⟩ q;obtain⟨hi',ei⟩:=ku hT hi;obtain⟨bn,ej⟩:=ku hT hj;have q':Q (some ((aA (fM vs ds (vs[i],vs[i])) (fM vs ds (vs[j],vs[j]))).getD false)) st:=q;rw[ei,ej]at q';obtain⟨u,a1,ri⟩:=hT.get (Y5 hi');obtain⟨v,c1,W0⟩:=hT.get (Y5 bn);rw[tD,aa]at ri W0;obtain⟨bi,XM,W2,rfl,a2,⟨a4,_,⟨XN,Uy⟩,_⟩,a3⟩:=ri;obtain⟨VY,XO,W3,rfl,c2,⟨c4,_,⟨XR,VZ⟩,_⟩,c3⟩:=W0;rw[Y5 hi]at a1;rw[Y5 hj]at c1;injection a1 with a1;injection c1 with c1;rw[a1,c1]at *;have V6:ds[i]∈ds:=Z8 _;have W4:ds[j]∈ds:=Z8 _;obtain⟨r,hr⟩:=Option.isSome_iff_exists.mp (so.mM _ V6 _ W4);rw[hr]at q';rw[lt'_eq];refine Zk (wpS_get ?_);rw[hk];refine Zk (wpS_lift (wpAny_attempt (aa1 (kat_lt (ey.fz bi _ a2) Uy (ey.fz VY _ c2) VZ ?_) (λb s' hb=>hb) λ_ _ e=>e)));refine A3 (n:=100) ey (by lia) ds[i] ds[j] _ _ 0 r (by simpa using a3) (by simpa using c3) (so.aI _ V6) hr ?_ (λhb d e hd he=>?_) ⟨rfl,Zs q'⟩
  ·have tl:∀ks:List Dt,(aL ks).length=ks.length:=λks=>(by induction ks with |nil=>rfl |cons k ks ih=>simp [aL,ih]);have l1:=a3.len;have l2:=c3.len;rw[tl]at l1 l2;simp [l1,l2]
  ·obtain⟨d',r',q1,q2⟩:=so.first _ V6;obtain⟨e',Ue,q3,q4⟩:=so.first _ W4;rw[q1]at hd;rw[q3]at he;cases hd;cases he;refine⟨q2.trans q4.symm,λz=>?_⟩;rw[q2]at z;subst z;simp at hb
 rintro⟨⟨⟩,st'⟩ s' ⟨rfl,hp,hf,hs⟩;dsimp only;have hz:(vs.toArray.zip vs.toArray).toList=(ZL vs.length).map λi=>(vs.getD i aac,vs.getD i aac):=by
  refine List.ext_getElem (by simp) λi h1 h2=>?_;have hi:i<vs.length:=by simpa using h1
  simp [Zm,Y5 hi]
 have eY:=Array.perm_iff_toList_perm.mp hp;rw[hz]at eY;obtain⟨p,p1,p2⟩:=tJ _ _ _ eY;have lp:p.length=vs.length:=by rw[p1.length_eq,Z1]
 have hout:(arrOf st').map (·.2)=List.toArray (p.map λi=>vs.getD i aac):=by
  apply Array.toList_inj.mp;rw[Array.toList_map,p2,Z6];rfl
 rw[hout];refine Y4 (seqEpoch_at g6 rfl (Y4 (listUpdate_at g6 rfl ?_ (Zj _) (by rw[Zb,Y6,lp];exact Nat.le_succ_of_le tO))));rw[hf];simp only[bne_self_eq_false,aam,if_false];refine Y' (h p p1 λi j bZ hj=>?_);have la:(arrOf st').size=vs.length:=by rw[<- Zn,p2,Y6,lp]
 have pl:∀k,k<vs.length->∃h:p.getD k 0<vs.length,∀hk:k<(arrOf st').size,(arrOf st')[k]=(vs[p.getD k 0],vs[p.getD k 0]):=λk hk=>by
  have hk':k<p.length:=by lia
  have e0:p.getD k 0=p[k]:=by rw[Zm,Y5 hk'];rfl
  have hm:p[k]<vs.length:=List.mem_range.mp (p1.mem_iff.mp (Z8 hk'));refine⟨by rw[e0];exact hm,λi4=>?_⟩;have e1:(arrOf st')[k]=(arrOf st').toList[k]'(by rw[Zn];exact i4):=by rw[Zo]
  have e2:vs.getD p[k] aac=vs[p.getD k 0]'(by rw[e0];exact hm):=by
   rw[Zm,Y5 hm];show vs[p[k]]=_
   congr 1
   exact e0.symm
  rw[e1,List.getElem_of_eq p2,List.getElem_map,e2]
 obtain⟨hi',ei⟩:=pl i (by lia);obtain⟨bn,ej⟩:=pl j hj;have zi:i<(arrOf st').size:=by rw[la];lia
 have zj:j<(arrOf st').size:=by rw[la];lia
 have A5:=hs i j zi zj (Zj _) bZ (by rw[zl];exact hj);rw[ei zi,ej zj]at A5;obtain⟨U1,W2⟩:=ku hT hi';obtain⟨UC,W3⟩:=ku hT bn;have tP:(aA (fM vs ds (vs[p.getD j 0],vs[p.getD j 0])) (fM vs ds (vs[p.getD i 0],vs[p.getD i 0]))).getD false=false:=A5;rw[W2,W3]at tP;obtain⟨r,hr⟩:=Option.isSome_iff_exists.mp (so.mM _ (Z8 UC) _ (Z8 U1));rw[hr]at tP;have Yb:r=false:=tP;rw[Zm,Zm (l:=ds),Y5 UC,Y5 U1];show aA ds[p.getD j 0] ds[p.getD i 0]=some false;rw[hr,Yb]
end
noncomputable def tu(d:List Dt):D:=tD (.tup d)
def A6:Q1:=λx M q=>a7 x M λds=>∃(xs:List (List Dt))(T:String),ds=xs.map tu/\A4 T xs/\xs.length<=sizeLine/\∀ys:List (List Dt),ys.Perm xs->ys.Pairwise (λa b=>aA b a=some false)->cE (ys.map tu) M q
theorem K5{X:Cx}(hu:X.A.units+110<cLine):CB X (.builtin "sorted") (n1 A6):=g8 fun τ z Q R d v I r q k=>by
 obtain⟨a,ds,us,n,rfl,l,xs,T,rfl,so,hL,q⟩:=I.a7 r q;have hT:eC X.G z.F us xs:=l.r;have hl:=hT.len;have hz:us.length<=sizeLine:=l.z;refine aa' kind_sorted plain_sorted entry_sorted (args_sorted1 _) ?_;unfold Builtin.«sorted»;refine Y4 (m:=checkCount "sorted" 1 1 _) (Y' ?_);refine Y4 (collect_list (vs:=us) ⟨_,l.e,rfl,n,rfl⟩ ?_ hz);have I1:ab X τ ⟨z.F,z.M,{ z.s with heap:=(z.s.heap.push (seqObj "list" #[] 0)).update z.s.heap.objs.size (ZM (·++us.toArray)) }⟩:=I.b8 (t:=z.s.toks) λb o e=>by
  have a8:b<z.s.heap.objs.size:=Zv e;exact (aan (z.s.heap.push (seqObj "list" #[] 0)) z.s.heap.objs.size (ZM (·++us.toArray))).extBut b o (Zw a8) (Y7 _ e)
 revert I1
 generalize (z.s.heap.push (seqObj "list" #[] 0)).update z.s.heap.objs.size (ZM (·++us.toArray))=h1;intro I1;refine Y4 (wpAny_newList ?_ hz);have dr:(h1.push { cls:=.type "list",data:=.seq us.toArray }).get? h1.objs.size=some (seqObj "list" us.toArray 0):=Ze _ rfl;have nF:=I1.hok.cU (Y8 h1.objs.size);have nM:=I1.hok.dk (Y8 h1.objs.size);have sZ:ay X.G z.F z.M (h1.push { cls:=.type "list",data:=.seq us.toArray }):=I1.hok.keep λb _ o e=>Y7 _ e;refine Y4 (ZP (ZW slot_list_sort ⟨_,dr,rfl⟩ entry_list_sort (K4 (G:=X.G) (F:=z.F) (M:=z.M) (by show X.A.units+1+1+105<cLine;lia) sZ nF nM dr hT so (by lia) λp b1 b2=>⟨_,rfl,?_⟩) (args_list_sort _)));refine Y' ⟨_,rfl,?_⟩;obtain⟨e,gj⟩:=sortedHeap_at (out:=(p.map λi=>us.getD i aac).toArray) dr;have lp:p.length=xs.length:=by rw[b1.length_eq,Z1,hl]
 have pm:(p.map λi=>xs.getD i []).Perm xs:=by
  have:=b1.map λi=>xs.getD i [];have zz:(ZL us.length).map (λi=>xs.getD i [])=xs:=by
   refine List.ext_getElem (by rw[Y6,Z1,hl]) λi h1 h2=>?_;simp [Zm,Y5 h2]
  rw[zz]at this;exact this
 have Yc:(p.map λi=>xs.getD i []).Pairwise λa b=>aA b a=some false:=by
  rw[List.pairwise_iff_getElem];intro i j hi hj bZ;rw[Y6]at hi hj;have:=b2 i j bZ (by lia);rw[Zm (l:=p),Zm (l:=p),Y5 hi,Y5 hj]at this;simpa using this
 have rs:af X.G z.F ((p.map λi=>xs.getD i []).map tu) (p.map λi=>us.getD i aac):=by
  have go:∀p:List Nat,(∀i∈p,i<xs.length)->af X.G z.F ((p.map λi=>xs.getD i []).map tu) (p.map λi=>us.getD i aac):=λp hp=>by
   induction p with
   |nil=>exact .nil
   |cons i p ih=>
    refine .cons ?_ (ih λj hj=>hp j (Zc _ hj));have hi:i<xs.length:=hp i Za;obtain⟨u,h1,h2⟩:=hT.get (Y5 hi);dsimp only;rw[Zm,Zm,h1,Y5 hi];exact h2
  exact go p λi hi=>by have:=b1.mem_iff.mp hi;rw[List.mem_range,hl]at this;exact this
 refine I1.lst (n:=e) (t:=z.s.toks) k Le.rfl rs (λb o hb=>?_) (Y8 _) ?_ (by rw[Y6,lp,<- hl];exact hz) (q _ pm Yc)
 ·have a8:b<h1.objs.size:=Zv hb;rw[sortedHeap_old (Zw a8) (by rw[ZZ];exact aat a8)];exact Y7 _ hb
 ·rw[gj];rfl
def A7:QN:=λds M q=>yY ds M q\/n1 A6 ds M q
theorem K6{X:Cx}(hc:X.calm=true)(hu:X.A.units+110<cLine):CB X (.builtin "sorted") A7:=fun τ z Q R ds us I rs q k=>q.elim (λq=>IH hc τ z Q R ds us I rs q k) λq=>K5 hu τ z Q R ds us I rs q k
end N
end
section
set_option maxHeartbeats 1000000
namespace N
open PySem PySem.Spec PyProof.Rows L2
def tQ:QM:=λo ds M q=>match ds with
 |[.str x]=>a7 o M λxs=>∃ss:List Str,xs=ss.map D.str/\x∈ss/\q (.int (ss.idxOf x:Nat)) M
 |_=>False
noncomputable def tR(x:Str):Value->Bool
 |.str y _=>decide (y=x)
 |_=>false
theorem K7{X:Cx}:OM X "list.index" tQ:=fun τ z Q R d v ds us I rv rs h k=>by
 unfold tQ at h;split at h
 ·rename_i x;obtain⟨u,rfl,ru⟩:=iC rs;obtain⟨a,xs,its,n,rfl,l,ss,rfl,hm,q⟩:=I.a7 rv h;rw[aa]at ru;obtain⟨t,rfl⟩:=ru;have K8:∀{ss:List Str}{its:List Value},af X.G z.F (ss.map D.str) its->its.map (tR x)=ss.map (λy=>decide (y=x))/\∀ y∈its,∃ s t,y=.str s t:=λ{ss}=>by
   induction ss with
   |nil=>intro its r;rw[Z',af]at r;subst r;exact⟨rfl,λ_ h=>nomatch h⟩
   |cons s ss ih=>
    intro its r;rw[Zh,af]at r;obtain⟨u,r',rfl,h1,h2⟩:=r;rw[aa]at h1;obtain⟨t',rfl⟩:=h1;obtain⟨i1,i2⟩:=ih h2;refine⟨by rw[Zh,Zh,i1];rfl,λy hy=>?_⟩;rcases List.mem_cons.mp hy with rfl |hy
    ·exact⟨s,t',rfl⟩
    ·exact i2 y hy
  obtain⟨e1,e2⟩:=K8 l.r;have ln:its.length=ss.length:=by have:=congrArg aaI e1;simpa using this
  have hj:ss.idxOf x<ss.length:=List.idxOf_lt_length_iff.mpr hm;have bn:ss.idxOf x<its.length:=by lia
  have bX:∀m(h1:m<its.length)(h2:m<ss.length),tR x its[m]=decide (ss[m]=x):=λm h1 h2=>by
   have:=congrArg (λl=>l[m]?) e1;simp only[Zr,Y5 h1,Y5 h2,Option.map_some]at this;exact ZJ this
  have Ug:=lT;have lz:=l.z;refine call_meets PySem.F.slot_list_index ⟨_,l.e,rfl⟩ PySem.F.entry_list_index (PySem.F.args_list_index_2 _ _)
   (SeqAt.list_indexAt a its.toArray n none #[] _ (tR x) (ss.idxOf x) (by simpa using bn) (by lia) (by simpa using (bX _ bn hj).trans (decide_eq_true (List.getElem_idxOf hj))) (λm hm a8=>?_)) ⟨l.e,λy hy=>?_,?_⟩
  ·have jK:m<its.length:=(by simpa using hm);have h2:m<ss.length:=(by lia);have:=bX m jK h2;rw[decide_eq_false (λe=>?_)]at this
   ·simpa using this
   ·have:=List.not_of_lt_findIdx (p:=(· == x)) (xs:=ss) a8;exact absurd e (by simpa using this)
  ·obtain⟨s,t',rfl⟩:=e2 y (by simpa using hy);exact SeqAt.EqAt.str_str s t' x t
  ·exact I.fin k Le.rfl cI q _
 ·exact h.elim
end N
end
section
set_option maxHeartbeats 1000000
namespace N
open PySem PySem.Spec PyProof.Rows L2
set_option genInjectivity false
set_option genSizeOfSpec false
inductive C where
 |az |bl (b:Bool) |int (i:Int) |str (x:Str)
noncomputable def C.d:C->D
 |.az=>.az
 |.bl b=>.bl b
 |.int i=>.int i
 |.str x=>.str x
inductive Bi where
 |len |tuple |int |max |sum |dict |any |sorted
inductive Mt where
 |append |pop |extend |index
mutual
inductive E where
 |v (i:Nat) |c (k:C) |g (i:Nat) |tup (es:L) |lst (es:L)
 |op (o:Operator) (a b:E) |cmp (o:CmpOp) (a b:E) |neg (a:E) |and (a b:E) |or (a b:E) |not (a:E) |ite (c a b:E)
 |ix (a b:E) |sl (a lo hi:E) |rev (a:E) |call (i:Nat) (es:L) |bi (b:Bi) (es:L) |mt (m:Mt) (o:E) (es:L)
 |lc (n:Nat) (fr:List Nat) (g:G) (it:I) (c e:E) |fld (e:E) (f:Str) |new (i:Nat) (es:L) |hJ (i:Nat) (o:E) (es:L) |app (f:E) (es:L)
 |i8 |tS (ks vs:L) |sset (e:E) |pv (e:E) |ar
inductive L where
 |nil |cons (e:E) (r:L)
inductive I where
 |seq (e:E) |gy (e:E) |tT (e:E) |no
end
mutual
inductive S where
 |set (g:G) (e:E) |put (o i e:E) |mN (o:E) (f:Str) (e:E) |ret (e:E) |ex (e:E) |cond (c:E) (a b:B) |loop (g:G) (it:I) (b:B) |mO (c:E) (b:B) |dead
inductive B where
 |nil |cons (s:S) (r:B)
end
structure Wd where
 sp:Nat->Sp
 gv:List D
 fl:Addr->Str->Prop
 ci:Nat->Option (Addr×Sp)
 mt:Nat->Option (Addr×Sp)
 ca:Addr->Sp->Prop
abbrev X0:XQ:=λ_ _=>False
def dh{α β γ:Type}:α->β->γ->Prop:=λ_ _ _=>False
noncomputable def A8(n:Nat)(fr:List Nat)(τ:St):St:=List.replicate n none++fr.map λi=>(τ[i]?).join
def tU(n:Nat)(fr:List Nat)(g:G)(ti:DI)(tc:DT)(te:DE):DE:=fun τ M q=>ti τ M λxs ok M1=>et ok g tc te (A8 n fr τ) (λys M2=>cE ys M2 q) xs [] M1
theorem K9(n:Nat)(fr:List (Str×Nat))(g:G)(ti:DI)(tc:DT)(te:DE):sv n fr g ti tc te=tU n (fr.map (·.2)) g ti tc te:=by
 unfold sv tU dI A8;simp only[Z6];rfl
def pw(fl:Addr->Str->Prop)(f:Str):Q1:=λx M q=>dc x M λa C dx fs=>∃d,fl C f/\fs.lookup f=some d/\q d M
def A9(fl:Addr->Str->Prop)(f:Str)(to tv:DE):DS:=λe τ M=>tv τ M λd M1=>to τ M1 λo M2=>dc o M2 λa C dx fs=>fl C f/\fs.length<1000/\e.nx τ (up M2 a (.ins C dx (fG f d fs)))
def Lc(c:Option (Addr×Sp))(t:DA):DE:=match c with
 |some (C,sp)=>rP C sp [] X0 t
 |none=>dh
def Ld(c:Option (Addr×Sp))(m:Str)(to:DE)(t:DA):DE:=match c with
 |some (C,sp)=>lZ C m sp [] X0 to t
 |none=>dh
def Ba:Bi->QN
 |.len=>ym |.tuple=>yo |.int=>yp |.max=>rT |.sum=>yq |.dict=>sq |.any=>yx |.sorted=>A7
noncomputable def Mt.ty:Mt->String
 |_=>"list"
def Bb:Mt->QM
 |.append=>rZ |.pop=>r6 |.extend=>r8 |.index=>tQ
noncomputable def kx:E->Bool
 |.ar=>true
 |_=>false
def oW(e:E)(t:DE):DO:=cond (kx e) yf (yg t)
def V7(e:E)(t:DT):DT:=cond (kx e) oL t
noncomputable def vl(t:DE):DE×DT:=(t,x7 t)
variable(W:Wd)(mn:List Str)
mutual
noncomputable def E.w:E->DE×DT
 |.v i=>vl (iu i)
 |.c k=>vl (UO k.d)
 |.g i=>vl (UO (W.gv.getD i .az))
 |.tup es=>vl (wR es.w)
 |.lst es=>vl (wU es.w)
 |.op o a b=>vl (oh (xR o) a.w.1 b.w.1)
 |.cmp o a b=>(xV (jH o) a.w.1 b.w.1,xW (jH o) a.w.1 b.w.1)
 |.neg a=>vl (jy ye a.w.1)
 |.and a b=>(wV a.w.1 b.w.1,wY a.w.2 b.w.2)
 |.or a b=>(wW a.w.1 b.w.1,wZ a.w.2 b.w.2)
 |.not a=>(wX a.w.1,w4 a.w.2)
 |.ite c a b=>(w5 c.w.2 a.w.1 b.w.1,dh)
 |.ix a b=>vl (oh aB a.w.1 b.w.1)
 |.sl a lo hi=>(yh a.w.1 (oW lo lo.w.1) (oW hi hi.w.1),dh)
 |.rev a=>(jy yi a.w.1,dh)
 |.call i es=>vl (rJ (W.sp i) [] X0 es.w)
 |.bi b es=>vl (UY (Ba b) es.w)
 |.mt m o es=>vl (ma m.ty (Bb m) o.w.1 es.w)
 |.lc n fr g it c e=>(tU n fr g it.w (V7 c c.w.2) e.w.1,dh)
 |.fld e f=>vl (jy (pw W.fl f) e.w.1)
 |.new i es=>(Lc (W.ci i) es.w,dh)
 |.hJ i o es=>vl (Ld (W.mt i) (mn.getD i "") o.w.1 es.w)
 |.app f es=>vl (yX W.ca X0 f.w.1 es.w)
 |.i8=>(yE,dh)
 |.tS ks vs=>(yF (ks.wl.zip vs.wl),dh)
 |.sset e=>(zI e.w.1,dh)
 |.pv e=>(mz e.w.1,dh)
 |.ar=>(dh,dh)
noncomputable def L.w:L->DA
 |.nil=>iw
 |.cons e r=>wQ e.w.1 r.w
noncomputable def L.wl:L->List DE
 |.nil=>[]
 |.cons e r=>e.w.1::r.wl
noncomputable def I.w:I->DI
 |.seq e=>zU e.w.1
 |.gy e=>xq e.w.1
 |.tT e=>xu e.w.1
 |.no=>dh
end
mutual
def S.w:S->DS
 |.set g e=>lL (e.w W mn).1 (cJ g)
 |.put o i e=>lL (e.w W mn).1 (qY oE (o.w W mn).1 (i.w W mn).1)
 |.mN o f e=>A9 W.fl f (o.w W mn).1 (e.w W mn).1
 |.ret e=>w8 (e.w W mn).1
 |.ex e=>w6 (e.w W mn).1
 |.cond c a b=>w9 (c.w W mn).2 a.w b.w
 |.loop g it b=>zQ (it.w W mn) (cJ g) b.w
 |.mO c b=>xo (c.w W mn).2 b.w
 |.dead=>dh
def B.w:B->DS
 |.nil=>λe τ M=>e.nx τ M
 |.cons s .nil=>s.w
 |.cons s r=>qQ s.w r.w
end
structure Nm where
 px:List Str
 fN:List Str
 cls:List Str
 aq:List Str
noncomputable def dO(x:Str):List Str->Nat->Option Nat
 |[],_=>none
 |y::r,i=>if y=x then some i else dO x r (i+1)
noncomputable def pB(sc:Scope)(x:Str):Bool:=match sc.names.lookup x with
 |some .local=>true
 |some .cell=>true
 |some .free=>true
 |_=>false
noncomputable def bp(sc:Scope)(x:Str):Bool:=match sc.names.lookup x with
 |some .globalImplicit=>true
 |_=>false
noncomputable def loc(sc:Scope)(x:Str):Bool:=match sc.names.lookup x with
 |some .local=>true
 |some .cell=>true
 |_=>false
noncomputable def pE(sc:Scope)(x:Str):Bool:=match sc.names.lookup x with
 |some .local=>true
 |_=>false
noncomputable def mP(x:Str):Bool:=!(x == ("__debug__" : Str)) && !(x == ("__classdict__" : Str))
noncomputable def cO:Expr->Bool
 |.Set _ _ _=>false
 |.Slice _ _ _ _=>false
 |.Starred _ _=>false
 |_=>true
noncomputable def dP:Expr->Bool
 |.ListComp _ _ _ _=>true
 |.SetComp _ _ _ _=>true
 |.DictComp _ _ _ _ _=>true
 |_=>false
noncomputable def tV:Expr->Bool
 |.Tuple _ _ _=>true
 |_=>false
noncomputable def fP(sc scope:Scope):Scope:=
 { scope with names:=scope.names.map λ(n,k)=>if (k == .free && sc.kind == .function && sc.names.lookup n == some .cell) then (n,.cell) else (n,k) }
noncomputable def tW(x:Str):Option Bi:=if x="len" then some .len else if x="tuple" then some .tuple else if x="int" then some .int else if x="max" then some .max
 else if x="sum" then some .sum else if x="dict" then some .dict else if x="any" then some .any else if x="sorted" then some .sorted else none
noncomputable def tX(x:Str):Option Mt:=if x="append" then some .append else if x="pop" then some .pop else if x="extend" then some .extend else if x="index" then some .index else none
noncomputable def kA(o:Option Nat)(f:Nat->E)(e:E):E:=match o with
 |some i=>f i
 |none=>e
noncomputable def L.of:List E->L
 |[]=>.nil
 |e::r=>.cons e (L.of r)
noncomputable def e8(f:E->E->E):List E->E
 |[]=>.ar
 |[e]=>e
 |e::r=>f e (e8 f r)
noncomputable def pF:Expr->Option (Str×Pos)
 |.Name x p=>some (x,p)
 |_=>none
noncomputable def mQ:List Expr->Option (List (Str×Pos))
 |[]=>some []
 |e::r=>(pF e).bind λq=>(mQ r).map (q::·)
noncomputable def i9:Expr->List (Str×Pos)
 |.Name x p=>[(x,p)]
 |.Tuple es _ _=>(mQ es).getD []
 |_=>[]
noncomputable def tY(N:List Str)(ok:Str->Bool)(l:List (Str×Pos)):Option G:=if l.all (λq=>ok q.1 && (dO q.1 N 0).isSome) then some (.many (l.map λq=>(dO q.1 N 0).getD 0)) else none
noncomputable def gz(N:List Str)(ok:Str->Bool):Expr->Option G
 |.Name x _=>if ok x then (dO x N 0).map .one else none
 |.Tuple es _ _=>(mQ es).bind (tY N ok)
 |_=>none
noncomputable def ja(N:List Str)(names:List (Str×NameKind)):List (Str×Nat):=names.filterMap λy=>if y.2=.free then (dO y.1 N 0).map λi=>(y.1,i) else none
variable(m:Nm)
noncomputable def tZ(N:List Str)(sc:Scope)(x:Str)(as:L)(ne:Bool):E:=
 if bp sc x then kA (dO x m.px 0) (.call · as) (kA (dO x m.cls 0) (.new · as) (match tW x with |some b=>if ne then .bi b as else .ar |none=>.ar)) else .ar
noncomputable def t6(y:Str)(o:E)(as:L):E:=kA (dO y m.aq 0) (.hJ · o as) (match tX y with |some b=>.mt b o as |none=>.ar)
noncomputable def pG(N:List Str)(sc:Scope)(x:Str):E:=
 if mP x then (if pB sc x then kA (dO x N 0) .v .ar else if bp sc x then kA (dO x m.fN 0) .g .ar else .ar) else .ar
noncomputable def t7:Const->E
 |.int i=>.c (.int i)
 |.str x=>.c (.str x)
 |.bool b=>.c (.bl b)
 |_=>.ar
noncomputable def t8(sc:Scope)(x:Str):List Expr->Option Expr
 |[.Call (.Name g _) [a] [] _]=>if x="sorted"/\g="set"/\bp sc x=true/\bp sc g=true/\cO a=true then some a else none
 |_=>none
noncomputable def t9(sc:Scope)(x:Str):List Expr->Option Expr
 |[.Call (.Attribute o y q) [] [] p]=>if x="sorted"/\y="items"/\bp sc x=true/\PL.f9 o=false/\(q.endLine == p.line)=true then some o else none
 |_=>none
noncomputable def kB(o:Option Expr)(f:Expr->E):E:=match o with
 |some x=>f x
 |none=>.ar
noncomputable def kC(o:Option Expr)(f:Expr->E):Bool:=match o with
 |some x=>!kx (f x)
 |none=>true
noncomputable def Bc:Const->Bool
 |.int i=>decide (i=1)
 |_=>false
noncomputable def uc:Expr->Bool
 |.Constant c _ _=>Bc c
 |_=>false
noncomputable def ud:UnaryOp->Bool
 |.USub=>true
 |_=>false
noncomputable def ue:Expr->Bool
 |.UnaryOp o x _=>ud o && uc x
 |_=>false
noncomputable def Be(f:Expr->E)(a:Expr)(lo hi:Option Expr):Option Expr->E
 |none=>if kC lo f && kC hi f then .sl (f a) (kB lo f) (kB hi f) else .ar
 |some s=>if ue s && (lo.isNone && hi.isNone) then .rev (f a) else .ar
noncomputable def Lf(f:Expr->E)(a:Expr):Expr->E
 |.Slice lo hi st _=>Be f a lo hi st
 |_=>.ar
noncomputable def uf(f:Expr->E)(a b:Expr):E:=if cO b then .ix (f a) (f b) else Lf f a b
noncomputable def ug(f:Expr->E)(a:Expr):List CmpOp->List Expr->E
 |[o],[b]=>if cO b then .cmp o (f a) (f b) else .ar
 |_,_=>.ar
noncomputable def Lg(e:E):UnaryOp->E
 |.USub=>.neg e
 |.Not=>.not e
 |_=>.ar
noncomputable def Lh(es:List E):BoolOp->E
 |.And=>e8 .and es
 |.Or=>e8 .or es
noncomputable def uh(ns:List Str)(sc:Scope)(f:Expr->E)(es:List Expr)(pos:Pos):Expr->E
  | .Name x _=>match t8 sc x es with
    |some a=>.sset (f a)
    |none=>match t9 sc x es with
     |some a=>.pv (f a)
     |none=>if mP x && bB es then (if pB sc x then (if es.isEmpty then .ar else .app (pG m ns sc x) (L.of (es.map f))) else tZ m ns sc x (L.of (es.map f)) (!es.isEmpty)) else .ar
  |.Attribute o y q=>if (q.endLine == pos.line) && !PL.f9 o && bB es && decide (es.length<29) then t6 m y (f o) (L.of (es.map f)) else .ar
  |_=>.ar
noncomputable def Li(e:E):List Keyword->E
 |[]=>e
 |_=>.ar
noncomputable def jb(sc:Scope)(f:Expr->E)(tg:Expr):Expr->I
 |.Call (.Name g p) [a] [] q=>if bp sc g && cO a then (if g="range" then I.gy (f a) else if g="reversed" then .tT (f a) else .seq (f (.Call (.Name g p) [a] [] q))) else .seq (f (.Call (.Name g p) [a] [] q))
 |e=>.seq (f e)
noncomputable def d1(ns:List Str)(scope:Scope)(tg:Expr):List Str:=(i9 tg).map (·.1)++(ja ns scope.names).map (·.1)
noncomputable def Bf(ns:List Str)(sc:Scope)(f:List Str->Scope->Expr->E)(bd:Expr)(scope:Scope)(tg iter:Expr)(bF:List Expr):E:=
 match gz (d1 ns scope tg) (pE (fP sc scope)) tg with
 | some g=>if oG sc ns scope (ja ns scope.names) && g.lt ((i9 tg).map (·.1)).length && decide (d1 ns scope tg).Nodup && cO iter then (match bF with
   |[]=>.lc ((i9 tg).map (·.1)).length ((ja ns scope.names).map (·.2)) g (jb sc (f ns sc) tg iter) .ar (f (d1 ns scope tg) (fP sc scope) bd)
   |[c]=>if kx (f (d1 ns scope tg) (fP sc scope) c) then .ar else .lc ((i9 tg).map (·.1)).length ((ja ns scope.names).map (·.2)) g (jb sc (f ns sc) tg iter) (f (d1 ns scope tg) (fP sc scope) c) (f (d1 ns scope tg) (fP sc scope) bd)
   |_=>.ar) else .ar
 |none=>.ar
noncomputable def ui(ns:List Str)(sc:Scope)(f:List Str->Scope->Expr->E)(bd:Expr)(scope:Scope):List Comprehension->E
 |[⟨tg,iter,bF,0⟩]=>Bf ns sc f bd scope tg iter bF
 |_=>.ar
noncomputable def uj(f:Expr->E)(ks:List (Option Expr))(vs:List Expr):E:=
 if ks.isEmpty && vs.isEmpty then .i8 else if ks.all (·.isSome) && decide (ks.length=vs.length) && decide (ks.length<=15) && !ks.isEmpty then .tS (L.of (ks.map λk=>match k with |some k=>f k |none=>.ar)) (L.of (vs.map f)) else .ar
noncomputable def aU:Nat->List Str->Scope->Expr->E
 | 0,_,_,_=>.ar
 |n+1,ns,sc,e=>match e with
  |.Name x _=>pG m ns sc x
  |.Constant c _ _=>t7 c
  |.Tuple es _ _=>if bB es then .tup (L.of (es.map (aU n ns sc))) else .ar
  |.List es _=>if bB es then .lst (L.of (es.map (aU n ns sc))) else .ar
  |.BinOp a o b _=>.op o (aU n ns sc a) (aU n ns sc b)
  |.Compare a os bs _=>ug (aU n ns sc) a os bs
  |.UnaryOp o a _=>Lg (aU n ns sc a) o
  |.BoolOp o vs _=>Lh (vs.map (aU n ns sc)) o
  |.IfExp c a b _=>.ite (aU n ns sc c) (aU n ns sc a) (aU n ns sc b)
  |.Subscript a b _=>uf (aU n ns sc) a b
  |.Call g es uk p=>Li (uh m ns sc (aU n ns sc) es p g) uk
  |.Attribute o f _=>if !PL.f9 o then .fld (aU n ns sc o) f else .ar
  |.ListComp bd gs scope _=>ui ns sc (aU n) bd scope gs
  |.Dict ks vs _=>uj (aU n ns sc) ks vs
  |_=>.ar
end N
end
section
set_option maxHeartbeats 1000000
namespace N
open PySem PySem.Spec PyProof.Rows L2
theorem Bh{x:Str}:∀{l:List Str}{i j:Nat},dO x l i=some j->∃k,j=i+k/\l[k]?=some x
 |[],_,_,h=>by cases h
 |y::r,i,j,h=>by
  unfold dO at h;split at h
  ·rename_i e;cases h;exact⟨0,rfl,by rw[e];rfl⟩
  ·obtain⟨k,e,q⟩:=Bh h;exact⟨k+1,by lia,q⟩
theorem hK{x:Str}{l:List Str}{j:Nat}(h:dO x l 0=some j):l[j]?=some x:=by
 obtain⟨k,e,q⟩:=Bh h;rw[e,Nat.zero_add];exact q
theorem Lj{sc:Scope}{x:Str}(h:pB sc x=true):jt sc x:=by
 unfold pB at h;unfold jt;split at h <;> first |(rename_i e;rw[e];first |exact .inl rfl |exact .inr (.inl rfl) |exact .inr (.inr rfl)) |cases h
theorem Lk{sc:Scope}{x:Str}(h:bp sc x=true):sc.names.lookup x=some .globalImplicit:=by
 unfold bp at h;split at h <;> first |assumption |cases h
theorem pH{sc:Scope}{x:Str}(h:loc sc x=true):L2.iq sc x:=by
 unfold loc at h;unfold L2.iq;split at h <;> first |(rename_i e;rw[e];first |exact .inl rfl |exact .inr rfl) |cases h
theorem Ll{sc:Scope}{x:Str}(h:pE sc x=true):sc.names.lookup x=some .local:=by
 unfold pE at h;split at h <;> first |assumption |cases h
theorem jc{y:Str}(h:mP y=true):(y == ("__debug__" : Str))=false/\(y == ("__classdict__" : Str))=false:=by
 unfold mP at h;rw[Zf,Bool.not_eq_true',Bool.not_eq_true']at h;exact h
theorem mR{e : Expr}(h : cO e = true): dH e = true ∧ (∀ o, behindInMarks o e = false) ∧ (∀ o i, subscripted e false o i = operate [o, i] (getItem o i)) ∧ (∀(env : Env)x, foldedSetIterable e env x = pure x) ∧ ∀(o : Expr)(pos : Pos)(env : Env)v, assign (.Subscript o e pos) env v = (do
      let ov <- holding [v] (eval o env)
      let iv <- holding [v,ov] (eval e env)
      standAt pos
      holding [v,ov,iv] (setItem ov iv v)
      release [v,ov,iv] []):=by cases e <;> first |exact⟨rfl,λ_=>rfl,λ_ _=>rfl,λ_ _=>rfl,λ_ _ _ _=>rfl⟩ |cases h
theorem Bj{e:Expr}(h:cO e=true):dH e=true:=(mR h).1
theorem Bk{e:Expr}{o:CmpOp}(h:cO e=true):behindInMarks o e=false:=(mR h).2.1 o
theorem Lm{e:Expr}(h:cO e=true):∀o i,subscripted e false o i=operate [o,i] (getItem o i):=(mR h).2.2.1
theorem um{e:Expr}{env:Env}(h:cO e=true):∀x,foldedSetIterable e env x=pure x:=(mR h).2.2.2.1 env
theorem Lo{o i : Expr}{pos : Pos}{env : Env}(h : cO i = true): ∀ v, assign (.Subscript o i pos) env v = (do
      let ov <- holding [v] (eval o env)
      let iv <- holding [v,ov] (eval i env)
      standAt pos
      holding [v,ov,iv] (setItem ov iv v)
      release [v,ov,iv] []):=(mR h).2.2.2.2 o pos env
theorem mS{e:Expr}{t:Option Expr}{n:Nat}{env:Env}(h:dP e=false):swapsWith e t n env=pure false:=by cases e <;> first |rfl |cases h
theorem Lq{t v:Expr}{env:Env}(h:tV v=false):swappedStores [t] v env=pure none:=by
 cases t <;> first |rfl |(cases v <;> first |rfl |cases h)
noncomputable def kE:List Str:=["len","tuple","list","int","max","min","sum","dict","all","any","isinstance","sorted","set","bool","str","range","zip","enumerate","reversed"]
structure pI(m:Nm)(W:Wd)(k:Nat)(G:Gx):Prop where
 fn:∀i x,m.px[i]?=some x->∃f fd ps,bb G k f fd ps (W.sp i)/\G.mg x=some (.ref f)/\PySem.W.keepIn G.K (.ref f)=true/\bS G.K fd ps []
 gv:∀i x,m.fN[i]?=some x->∃u,G.mg x=some u/\∀F:Fz,(∀b o,G.base.get? b=some o->F b=some (.dat o))->aa G F (W.gv.getD i .az) u
 bl:∀x∈kE,G.mg x=none
 fl:∀C f,W.fl C f->c9 G.K C/\eh G.K C f
 cl:∀i x C sp,m.cls[i]?=some x->W.ci i=some (C,sp)->∃j f fd ps,j+1<=k/\Mk G.K C f/\bb G j f fd ps sp/\G.mg x=some (.ref C)/\bS G.K fd ps []
 mt:∀i x C sp,m.aq[i]?=some x->W.mt i=some (C,sp)->∃f fd ps,c9 G.K C/\jG G.K C x f/\bb G k f fd ps sp/\bS G.K fd ps []
 ca:∀f sp,W.ca f sp->eU G k f sp
structure br(m:Nm)(W:Wd)(k:Nat)(ns:List Str)(sc:Scope)(X:Cx):Prop where
 hN:X.N=ns
 eX:X.env.scope=sc
 nd:ns.Nodup
 calm:X.calm=true
 room:bx k X.A
 en:pI m W k X.G
theorem hO{X:Cx}:dW X X0:=λ_ _ _ h=>h.elim
theorem jd{X:Cx}:eP X [] []:=λ_ _ _=>.nil
section
variable{m:Nm}{W:Wd}{k:Nat}{ns:List Str}{sc:Scope}{X:Cx}{x:Expr}{t:DE×DT}
theorem br.pJ(C:br m W k ns sc X):X.A.units+110<cLine:=by have:=C.room.un;lia
theorem br.u1(C:br m W k ns sc X):X.A.units+1<cLine:=by have:=C.room.un;lia
theorem br.bp(C:br m W k ns sc X){y:Str}(h:bp sc y=true):Gl X y:=by
 show X.env.scope.names.lookup y=_;rw[C.eX];exact Lk h
theorem br.lc(C:br m W k ns sc X){scope:Scope}{N':List Str}{cl:List (Str×Addr)}{a:Addr}(nd:N'.Nodup):br m W k N' (fP sc scope) (dJ X scope N' cl a):=
 ⟨rfl,by rw[<- C.eX];rfl,nd,C.calm,C.room,C.en⟩
structure aS(X:Cx)(x:Expr)(w:DE×DT):Prop where
 e:PE X x w.1
 t:PT X x w.2
 s:dP x=true->∀(y:Str)(j:Nat)(py jR:Pos),iz X [j] [y]->swapsWith x (some (.Name y py)) jR.line X.env=pure true->PS X (.Assign [.Name y py] x jR) (lL w.1 (cJ (.one j)))
theorem aS.val{d:DE}(h:PE X x d)(he:∀ir,isTrue x X.env ir=(do let v <- ir;standAt x.pos;holding [v] (truthy v)):=by exact λ_=>rfl)(hl:dP x=false:=by rfl):aS X x (vl d):=⟨h,G6 h he,λz=>by rw[hl]at z;cases z⟩
theorem aS.no{d:DE}(h:PE X x d)(hl:dP x=false:=by rfl):aS X x (d,dh):=⟨h,qW,λz=>by rw[hl]at z;cases z⟩
theorem aS.ar:aS X x (E.ar.w W m.aq):=by
 refine⟨lK,qW,λ_ _ _ _ _ _ _=>?_⟩;exact fun τ z e R I h=>h.elim
theorem aS.gh{d:DE}{u:DT}(h:PE X x d)(h':PT X x u)(hl:dP x=false:=by rfl):aS X x (d,u):=⟨h,h',λz=>by rw[hl]at z;cases z⟩
theorem mT{o:Option Nat}{f:Nat->E}{e:E}(h1:∀i,o=some i->aS X x ((f i).w W m.aq))(h2:aS X x (e.w W m.aq)):aS X x ((kA o f e).w W m.aq):=by
 cases o with
 |none=>exact h2
 |some i=>exact h1 i rfl
theorem kF{f:Expr->E}:∀{es:List Expr},bB es=true->(∀e∈es,PE X e ((f e).w W m.aq).1)->PA X es ((L.of (es.map f)).w W m.aq)
 |[],_,_=>by rw[Z',L.of,L.w];exact xg
 |e::es,h,g=>by
  have h':(dH e && bB es)=true:=h;rw[Zf]at h';rw[Zh,L.of,L.w];exact xh (g e Za) (kF h'.2 λa ha=>g a (Zc _ ha)) (cW h'.1)
theorem Bl{f:Expr->E}{p:Pos}:∀{vs:List Expr},(∀e∈vs,aS X e ((f e).w W m.aq))->PE X (.BoolOp .And vs p) ((e8 .and (vs.map f)).w W m.aq).1/\PW X (.BoolOp .And vs p) ((e8 .and (vs.map f)).w W m.aq).2
 |[],_=>⟨lK,xi⟩
 |[a],g=>⟨xf (g a Za).e,FH (g a Za).t⟩
 |a::b::r,g=>by
  have i:=Bl (p:=p) (vs:=b::r) λe he=>g e (Zc _ he);have e:e8 .and ((a::b::r).map f)=.and (f a) (e8 .and ((b::r).map f)):=rfl;rw[e,E.w];exact⟨FN (g a Za).e i.1,FJ (g a Za).t i.2⟩
theorem Bm{f:Expr->E}{p:Pos}:∀{vs:List Expr},(∀e∈vs,aS X e ((f e).w W m.aq))->PE X (.BoolOp .Or vs p) ((e8 .or (vs.map f)).w W m.aq).1/\PW X (.BoolOp .Or vs p) ((e8 .or (vs.map f)).w W m.aq).2
 |[],_=>⟨lK,xi⟩
 |[a],g=>⟨xf (g a Za).e,FI (g a Za).t⟩
 |a::b::r,g=>by
  have i:=Bm (p:=p) (vs:=b::r) λe he=>g e (Zc _ he);have e:e8 .or ((a::b::r).map f)=.or (f a) (e8 .or ((b::r).map f)):=rfl;rw[e,E.w];exact⟨FP (g a Za).e i.1,FK (g a Za).t i.2⟩
theorem Bn{u:DT}(h:PW X x u):PT X x u:=fun τ z Q R I q k=>h _ τ z Q R I q k
theorem Bo(C:br m W k ns sc X){y:Str}{p:Pos}:aS X (.Name y p) ((pG m ns sc y).w W m.aq):=by
 unfold pG;split
 ·rename_i ho;split
  ·rename_i hv;exact mT (λi hi=>by rw[E.w];exact .val (FC (by rw[C.hN];exact hK hi) (by rw[C.eX];exact Lj hv) (jc ho).1 (jc ho).2)) .ar
  ·split
   ·rename_i hg;refine mT (λi hi=>?_) ?_
    ·obtain⟨u,h1,h2⟩:=C.en.gv i y (hK hi);rw[E.w];exact .val (FF (C.bp hg) h1 (jc ho).1 fun τ z I=>h2 z.F I.bs.b)
    ·exact .ar
   ·exact .ar
 ·exact .ar
theorem Lr{c:Const}{kk:Nat}{p:Pos}:aS X (.Constant c kk p) ((t7 c).w W m.aq):=by
 unfold t7;split
 ·rw[E.w];exact .val xd
 ·rw[E.w];exact .val FE
 ·rw[E.w];exact .val FD
 ·exact .ar
end
end N
end
section
set_option maxHeartbeats 1000000
namespace N
open PySem PySem.Spec PyProof.Rows L2
section
variable{m:Nm}{W:Wd}{k:Nat}{ns:List Str}{sc:Scope}{X:Cx}{x:Expr}
def Bi.nm:Bi->Str
 |.len=>"len" |.tuple=>"tuple" |.int=>"int" |.max=>"max" |.sum=>"sum" |.dict=>"dict" |.any=>"any" |.sorted=>"sorted"
def Mt.nm:Mt->Str
 |.append=>"append" |.pop=>"pop" |.extend=>"extend" |.index=>"index"
theorem Ls{y:Str}{b:Bi}(h:tW y=some b):y=b.nm:=by
 unfold tW at h
 repeat' split at h
 all_goals first |(cases h;assumption) |cases h
theorem Lu{y:Str}{b:Mt}(h:tX y=some b):y=b.nm:=by
 unfold tX at h
 repeat' split at h
 all_goals first |(cases h;assumption) |cases h
theorem Lx(C:br m W k ns sc X){e:Expr}{es:List Expr}{p pos:Pos}{tA:DA}(hA:PA X (e::es) tA)(hs:bB (e::es)=true):∀b:Bi,bp sc b.nm=true->PE X (.Call (.Name b.nm p) (e::es) [] pos) (UY (Ba b) tA):=by
 have h':(dH e && bB es)=true:=hs;rw[Zf]at h';have fb:∀{y:Str}{id:String}{r:QN},CB X (.builtin id) r->bp sc y=true->y∈kE->bootBuiltins y=some (.builtin id)->y≠"__name__"->(y == ("__debug__" : Str))=false->PE X (.Call (.Name y p) (e::es) [] pos) (UY r tA):=
  λhc hg hb hv hn hd=>Hv hc (C.bp hg) (C.en.bl _ hb) hv hA hn hd (cW h'.1) (fH h'.2)
 have U6:∀{y:Str}{T:String}{r:QN},CB X (.type T) r->bp sc y=true->y∈kE->bootBuiltins y=some (.type T)->y≠"__name__"->(y == ("__debug__" : Str))=false->PE X (.Call (.Name y p) (e::es) [] pos) (UY r tA):=
  λhc hg hb hv hn hd=>Hw hc (C.bp hg) (C.en.bl _ hb) hv hA hn hd (cW h'.1) (fH h'.2)
 intro b hg;cases b with
 |len=>exact fb Hx hg (by decide) (by decide +kernel) (by decide) (by decide)
 |tuple=>exact U6 Hz hg (by decide) (by decide +kernel) (by decide) (by decide)
 |int=>exact U6 Hy hg (by decide) (by decide +kernel) (by decide) (by decide)
 |max=>exact fb (HA C.calm) hg (by decide) (by decide +kernel) (by decide) (by decide)
 |sum=>exact fb (HB C.calm) hg (by decide) (by decide +kernel) (by decide) (by decide)
 |dict=>exact U6 (Ij C.calm) hg (by decide) (by decide +kernel) (by decide) (by decide)
 |any=>exact fb (HI C.calm) hg (by decide) (by decide +kernel) (by decide) (by decide)
 |sorted=>exact fb (K6 C.calm C.pJ) hg (by decide) (by decide +kernel) (by decide) (by decide)
theorem Ly{o:Expr}{es:List Expr}{q p:Pos}{to:DE}{tA:DA}(ho:PE X o to)(hA:PA X es tA)(h0:es=[]->tA=iw)(hs:bB es=true)(hl:es.length<29)(hb:PL.f9 o=false)(db:(q.endLine == p.line)=true):∀b:Mt,PE X (.Call (.Attribute o b.nm q) es [] p) (ma b.ty (Bb b) to tA):=by
 have go:∀{T id:String}{y:Str}{r:QM},PlainAttrs T->Slot T y id->typeOf (.builtin id)=pure (.type "method_descriptor")->OM X id r->PE X (.Call (.Attribute o y q) es [] p) (ma T r to tA):=λpa sl ty hm=>by
  cases es with
  |nil=>cases h0 rfl;exact HL pa sl ty hm ho (PL.l0 hb) db
  |cons e es=>
   have h':(dH e && bB es)=true:=hs;rw[Zf]at h';exact HM pa sl ty hm ho hA (PL.l0 hb) (yw hs hl) db (cW h'.1) (fH h'.2)
 intro b;cases b with
 |append=>exact go PySem.F.plainAttrs_list PySem.F.slot_list_append PySem.F.type_list_append HP
 |pop=>exact go PySem.F.plainAttrs_list PySem.F.slot_list_pop PySem.F.type_list_pop HQ
 |extend=>exact go PySem.F.plainAttrs_list PySem.F.slot_list_extend PySem.F.type_list_extend Ik
 |index=>exact go PySem.F.plainAttrs_list PySem.F.slot_list_index PySem.F.type_list_index K7
theorem Lz(C:br m W k ns sc X){y:Str}{es:List Expr}{p pos:Pos}{f:Expr->E}(ho:mP y=true)(hs:bB es=true)(g:∀ e∈es,PE X e ((f e).w W m.aq).1):
  aS X (.Call (.Name y p) es [] pos) ((tZ m ns sc y (L.of (es.map f)) (!es.isEmpty)).w W m.aq):=by
 have hA:=kF hs g;unfold tZ;split
 ·rename_i hg;refine mT (λi hi=>?_) (mT (λi hi=>?_) ?_)
  ·obtain⟨fa,fd,ps,g1,g2,g3,g4⟩:=C.en.fn i y (hK hi);rw[E.w];refine .val ?_;cases es with
   |nil=>exact Hb g1 C.room (C.bp hg) g2 g3 g4 jd hO (jc ho).1
   |cons e es=>
    have h':(dH e && bB es)=true:=hs;rw[Zf]at h';exact Ha g1 C.room (C.bp hg) g2 g3 g4 jd hO hA (jc ho).1 (cW h'.1) (fH h'.2)
  ·rw[E.w];refine .no ?_;cases hc:W.ci i with
   |none=>exact lK
   |some cs=>
    obtain⟨Ca,sp⟩:=cs;obtain⟨j,fa,fd,ps,g0,g1,g2,g3,g4⟩:=C.en.cl i y Ca sp (hK hi) hc;cases es with
    |nil=>exact Hl g1 g2 (C.room.mono g0) (C.bp hg) g3 g4 jd hO (jc ho).1
    |cons e es=>
     have h':(dH e && bB es)=true:=hs;rw[Zf]at h';exact Hk g1 g2 (C.room.mono g0) (C.bp hg) g3 g4 jd hO hA (jc ho).1 (cW h'.1) (fH h'.2)
  ·split
   ·rename_i b hb;split
    ·cases es with
     |nil=>contradiction
     |cons e es=>
      cases Ls hb;rw[E.w];exact .val (Lx C hA hs b hg)
    ·exact .ar
   ·exact .ar
 ·exact .ar
theorem Bp{o : Expr}{es : List Expr}{y : Str}{q pos : Pos}{env : Env}(hb : PL.f9 o = false)(hs : bB es = true)(hl : es.length < 29)(db : (q.endLine == pos.line) = true): eval (.Call (.Attribute o y q) es [] pos) env = (do
      let ov <- eval o env
      standAt q.atName
      let (f,first) <- holding [ov] (getMethod ov y (do return (<- importBound o env).getD true))
      callWith pos f first (backTo pos (starEach es env)) (backToKw pos (keywordEach [] env))):=by
  have e1:eval (.Call (.Attribute o y q) es [] pos) env=(do
    let ov <- attributeBase o y env (eval o env)
    standAt q.atName
    methodCall o y q pos env ov (es.length+([]:List Keyword).length) (backTo pos (starEach es env)) (backToKw pos (keywordEach [] env))):=rfl
  rw[e1,PL.l0 hb];have e2:methodCallForm (es.length+([]:List Keyword).length) (backTo pos (starEach es env)) (backToKw pos (keywordEach [] env))=true:=yw (env:=env) (cpos:=pos) hs hl;unfold methodCall;rw[e2];unfold calleeOf methodCallPos;rw[db];rfl
theorem LA(C:br m W k ns sc X){y:Str}{o:Expr}{UK:E}{es:List Expr}{q pos:Pos}{f:Expr->E}(ho:PE X o (UK.w W m.aq).1)(hb:PL.f9 o=false)(db:(q.endLine == pos.line)=true)(hl:es.length<29)(hs:bB es=true)(g:∀ e∈es,PE X e ((f e).w W m.aq).1):
  aS X (.Call (.Attribute o y q) es [] pos) ((t6 m y UK (L.of (es.map f))).w W m.aq):=by
 have hA:=kF hs g;unfold t6;refine mT (λi hi=>?_) ?_
 ·rw[E.w];refine .val ?_;cases hc:W.mt i with
  |none=>exact lK
  |some cs=>
   obtain⟨Ca,sp⟩:=cs;have hy:=hK hi;obtain⟨fa,fd,ps,g1,g2,g3,g4⟩:=C.en.mt i y Ca sp hy hc;have e:m.aq.getD i ""=y:=(by rw[Zm,hy];rfl);show PE X _ (lZ Ca (m.aq.getD i "") sp [] X0 _ _);rw[e];cases es with
   |nil=>exact Hj ho g1 g2 g3 C.room g4 jd hO (Bp hb hs hl db)
   |cons e es=>
    have h':(dH e && bB es)=true:=hs;rw[Zf]at h';exact Hi ho g1 g2 g3 C.room g4 jd hO hA (cW h'.1) (fH h'.2) (Bp hb hs hl db)
 ·split
  ·rename_i b hb';cases Lu hb';rw[E.w];exact .val (Ly ho hA (λz=>by subst z;rfl) hs hl hb db b)
  ·exact .ar
end
end N
end
section
set_option maxHeartbeats 2000000
namespace N
open PySem PySem.Spec PyProof.Rows L2
section
variable{m:Nm}{W:Wd}{k:Nat}{ns:List Str}{sc:Scope}{X:Cx}{x:Expr}
theorem LB{e:Expr}{q:Str×Pos}(h:pF e=some q):e=.Name q.1 q.2:=by
 cases e
 case Name x p=>cases h;rfl
 all_goals cases h
theorem Bq:∀{es:List Expr}{l:List (Str×Pos)},mQ es=some l->es=l.map λq=>.Name q.1 q.2
 |[],l,h=>by cases h;rfl
 |e::r,l,h=>by
  obtain⟨q,h1,h2⟩:=Option.bind_eq_some_iff.mp (show (pF e).bind _=some l from h);obtain⟨l',h3,rfl⟩:=Option.map_eq_some_iff.mp h2;rw[Zh,<- Bq h3,LB h1]
theorem uo(C:br m W k ns sc X){ok:Str->Bool}(hok:∀y,ok y=true->L2.iq X.env.scope y/\(X.fn y=true\/X.env.scope.names.lookup y=some .local)){e:Expr}{g:G}(h:gz ns ok e=some g):PG X e (cJ g):=by
 have nd:X.N.Nodup:=by rw[C.hN];exact C.nd
 unfold gz at h;split at h
 ·rename_i x p;split at h
  ·rename_i ho;obtain⟨i,h1,rfl⟩:=Option.map_eq_some_iff.mp h;refine xj ⟨nd,λi' y hy=>?_⟩;cases List.mem_singleton.mp hy;exact⟨by rw[C.hN];exact hK h1,hok x ho⟩
  ·cases h
 ·rename_i es kk p;cases hn:mQ es with
  |none=>rw[hn]at h;cases h
  |some l=>
   rw[hn]at h;have h:tY ns ok l=some g:=h;unfold tY at h;split at h
   ·rename_i ha;cases h;rw[Bq hn];refine F8 C.calm ⟨nd,λi y hy=>?_⟩ (by rw[Y6]);rw[List.zip_map',List.mem_map]at hy;obtain⟨q,hq,e⟩:=hy;cases e;have hb:=List.all_eq_true.mp ha q hq;rw[Zf]at hb;obtain⟨i,hi⟩:=Option.isSome_iff_exists.mp hb.2;rw[hi];exact⟨by rw[C.hN];exact hK hi,hok q.1 hb.1⟩
   ·cases h
 ·cases h
theorem iQ.of{scope:Scope}{Nt:List Str}{fr:List (Str×Nat)}(h1:X.env.scope=sc)(h2:X.N=ns)(h:oG sc ns scope fr=true):iQ X scope Nt fr:=by
 unfold oG at h;simp only[Zf,List.all_eq_true,decide_eq_true_eq]at h;obtain⟨⟨⟨⟨a1,a2⟩,a3⟩,a4⟩,Uy⟩:=h;refine⟨eq_of_beq a1,a2,a3,λy hy hf=>?_,λp hp=>?_⟩
 ·show X.env.scope.names.lookup y.1=some .cell;rw[h1];exact a4 y hy hf
 ·rw[h2];exact Uy p hp
theorem uq{n:Nat}(C:br m W k ns sc X)(ih:∀x,aS X x ((aU m n ns sc x).w W m.aq)){tg e:Expr}:PI X tg e ((jb sc (aU m n ns sc) tg e).w W m.aq):=by
 have V8:PI X tg e ((I.seq (aU m n ns sc e)).w W m.aq):=by rw[I.w];exact JA (ih e).e
 have bl:∀y∈kE,X.G.mg y=none:=C.en.bl;have s1:∀{a:Expr},cO a=true->starEach [a] X.env=[(false,eval a X.env)]:=λh=>by rw[cW (Bj h)];rfl
 unfold jb;split
 ·rename_i f p a q;split
  ·rename_i h;rw[Zf]at h;split
   ·rename_i e;subst e;rw[I.w];exact Gh (C.bp h.1) (bl _ (by decide)) (ih a).e (s1 h.2)
   ·split
    ·rename_i e;subst e;rw[I.w];exact Gj (C.bp h.1) (bl _ (by decide)) (ih a).e (s1 h.2)
    ·exact V8
  ·exact V8
 ·exact V8
theorem Br{n:Nat}(C:br m W k ns sc X)(ih:∀ x,aS X x ((aU m n ns sc x).w W m.aq)){tg iter bd:Expr}{bF:List Expr}{scope:Scope}{pos:Pos}{g:G}{UH Vx:E}(hg:gz (d1 ns scope tg) (pE (fP sc scope)) tg=some g)
  (h1:oG sc ns scope (ja ns scope.names)=true) (h2:g.lt ((i9 tg).map (·.1)).length=true) (h3:(d1 ns scope tg).Nodup) (h4:cO iter=true)
  (hc:∀{X':Cx},br m W k (d1 ns scope tg) (fP sc scope) X'->PF X' bF (V7 UH (UH.w W m.aq).2)) (he:∀{X':Cx},br m W k (d1 ns scope tg) (fP sc scope) X'->PE X' bd (Vx.w W m.aq).1) :
  aS X (.ListComp bd [⟨tg,iter,bF,0⟩] scope pos) ((E.lc ((i9 tg).map (·.1)).length ((ja ns scope.names).map (·.2)) g (jb sc (aU m n ns sc) tg iter) UH Vx).w W m.aq):=by
 have L1:iQ X scope ((i9 tg).map (·.1)) (ja ns scope.names):=.of C.eX C.hN h1;have C':∀cl a,br m W k (d1 ns scope tg) (fP sc scope) (dJ X scope (d1 ns scope tg) cl a):=λcl a=>C.lc h3;have oN:∀cl a,PG (dJ X scope (d1 ns scope tg) cl a) tg (cJ g):=λcl a=>uo (C' cl a) (λy hy=>by
  have hl:=Ll hy;rw[(C' cl a).eX];exact⟨.inl hl,.inr hl⟩) hg
 rw[E.w,<- K9];exact⟨IC L1 C.calm (uq C ih) oN h2 (λcl a=>hc (C' cl a)) (λcl a=>he (C' cl a)) (um h4),qW,
  λ_ y j py jR hN sG=>ID L1 C.calm hN (uq C ih) oN h2 (λcl a=>hc (C' cl a)) (λcl a=>he (C' cl a)) (um h4) sG⟩
theorem Bt{f:Expr->E}{pos:Pos}:∀{ks:List (Option Expr)}{vs:List Expr},ks.all (·.isSome)=true->ks.length=vs.length->(∀ e,PE X e ((f e).w W m.aq).1) ->
  PP X pos ks vs (((L.of (ks.map λk=>match k with |some k=>f k |none=>.ar)).wl W m.aq).zip ((L.of (vs.map f)).wl W m.aq))
 |[],[],_,_,_=>by simp only[Z',L.of,L.wl,List.zip_nil_left];exact Ia
 |[],v::vs,_,h,_=>by cases h
 |none::ks,vs,h,_,_=>by cases h
 |some k::ks,[],_,h,_=>by cases h
 |some k::ks,v::vs,h,hl,g=>by
  simp only[Zh,L.of,L.wl,aad];exact Ib (g k) (g v) (Bt (by simpa using h) (by simpa using hl) g)
end
end N
end
section
namespace N
open PySem PySem.Spec PyProof.Rows L2
section
variable{m:Nm}{W:Wd}{k:Nat}
theorem Bu{X:Cx}{o:Option Expr}{f:Expr->E}(h:kC o f=true)(g:∀e,PE X e ((f e).w W m.aq).1):PO X o (oW (kB o f) ((kB o f).w W m.aq).1):=by
 cases o with
 |none=>exact Hm
 |some x=>
  have h:kx (f x)=false:=by simpa [kC] using h
  show PO X (some x) (oW (f x) ((f x).w W m.aq).1);unfold oW;rw[h];exact Hn (g x)
theorem LC{X:Cx}{fl:Addr->Str->Prop}{f:Str}(hf:∀C,fl C f->c9 X.G.K C/\eh X.G.K C f){x:D}{M:Mp}{q:QK}(h:pw fl f x M q):rN X.G.K f x M q:=by
 unfold pw dc at h;unfold rN dc;split at h
 ·obtain⟨C,dx,fs,e,d,h1,h2⟩:=h;exact⟨C,dx,fs,e,d,hf C h1,h2⟩
 ·exact h.elim
theorem LD{X:Cx}{fl:Addr->Str->Prop}{f:Str}{e:Expr}{to:DE}{pos:Pos}(hf:∀C,fl C f->c9 X.G.K C/\eh X.G.K C f)(he:PE X e to)(hb:attributeBase e f X.env (eval e X.env)=eval e X.env):PE X (.Attribute e f pos) (jy (pw fl f) to):=fun τ z Q R I h k=>
 GS hb (he τ z _ _ I h λd z1 u l1 I1 r1 q1=>Hg τ z1 Q R d u I1 r1 (LC hf q1) λd z2 u l2=>k d z2 u (l1.tr l2))
theorem LF{sc:Scope}{x:Str}{es:List Expr}{a:Expr}(h:t8 sc x es=some a):∃p q,x="sorted"/\es=[.Call (.Name "set" p) [a] [] q]/\bp sc "sorted"=true/\bp sc "set"=true/\cO a=true:=by
 unfold t8 at h;split at h
 ·rename_i g p b q;split at h
  ·rename_i c;obtain⟨rfl,rfl,h1,h2,h3⟩:=c;cases h;exact⟨p,q,rfl,rfl,h1,h2,h3⟩
  ·cases h
 ·cases h
theorem LH{sc:Scope}{x:Str}{es:List Expr}{a:Expr}(h:t9 sc x es=some a):∃p q,x="sorted"/\es=[.Call (.Attribute a "items" q) [] [] p]/\bp sc "sorted"=true/\PL.f9 a=false/\(q.endLine == p.line)=true:=by
 unfold t9 at h;split at h
 ·rename_i o y q p;split at h
  ·rename_i c;obtain⟨rfl,rfl,h1,h2,h3⟩:=c;cases h;exact⟨p,q,rfl,rfl,h1,h2,h3⟩
  ·cases h
 ·cases h
section
variable{ns:List Str}{sc:Scope}{X:Cx}{f:Expr->E}
theorem LI{c:Const}(h:Bc c=true):c=.int 1:=by
 cases c with
 |int i=>rw[of_decide_eq_true (show decide (i=1)=true from h)]
 |_=>exact abb h
theorem LJ{o:UnaryOp}(h:ud o=true):o=.USub:=by
 cases o with
 |USub=>rfl
 |_=>exact abb h
theorem LK{x:Expr}(h:uc x=true):∃k p,x=.Constant (.int 1) k p:=by
 cases x with
 |Constant c k p=>exact⟨k,p,by rw[LI h]⟩
 |_=>exact abb h
theorem LL{s:Expr}(h:ue s=true):∃k p q,s=.UnaryOp .USub (.Constant (.int 1) k p) q:=by
 cases s with
 |UnaryOp o x q=>
  have h:(ud o && uc x)=true:=h;rw[Zf]at h;obtain⟨k,p,rfl⟩:=LK h.2;rw[LJ h.1];exact⟨k,p,q,rfl⟩
 |_=>exact abb h
theorem LM(ih:∀x,aS X x ((f x).w W m.aq)){a b:Expr}{pos:Pos}:aS X (.Subscript a b pos) ((uf f a b).w W m.aq):=by
 unfold uf;split
 ·rename_i h;rw[E.w];exact .val (G7 (ih _).e (ih _).e (Lm h))
 cases b with
 |Slice lo hi st p=>
  show aS X _ ((Be f a lo hi st).w W m.aq);cases st with
  |none=>
   show aS X _ ((if kC lo f && kC hi f then E.sl (f a) (kB lo f) (kB hi f) else .ar).w W m.aq)
   split
   ·rename_i h;rw[Zf]at h;rw[E.w];exact .no (Hr (ih _).e (Bu h.1 λe=>(ih e).e) (Bu h.2 λe=>(ih e).e) λ_ _=>by with_unfolding_all rfl)
   ·exact .ar
  |some s=>
   show aS X _ ((if ue s && (lo.isNone && hi.isNone) then E.rev (f a) else .ar).w W m.aq)
   split
   ·rename_i h;rw[Zf,Zf]at h;obtain⟨h1,h2,h3⟩:=h;obtain⟨k,p,q,rfl⟩:=LL h1;cases lo with
    |some _=>exact abb h2
    |none=>cases hi with
     |some _=>exact abb h3
     |none=>rw[E.w];exact .no (Ht (ih _).e λ_ _=>by with_unfolding_all rfl)
   ·exact .ar
 |_=>exact .ar
theorem LN(C:br m W k ns sc X)(ih:∀x,aS X x ((f x).w W m.aq)){a:Expr}{os:List CmpOp}{bs:List Expr}{pos:Pos}:aS X (.Compare a os bs pos) ((ug f a os bs).w W m.aq):=by
 unfold ug;split
 ·split
  ·rename_i h;rw[E.w];exact .gh (GZ (x5 C.pJ _) (ih _).e (ih _).e (Bk h)) (G0 (x5 C.pJ _) (ih _).e (ih _).e (Bk h))
  ·exact .ar
 ·exact .ar
theorem LO(C:br m W k ns sc X)(ih:∀x,aS X x ((f x).w W m.aq)){g:Expr}{es:List Expr}{pos:Pos}:aS X (.Call g es [] pos) ((uh m ns sc f es pos g).w W m.aq):=by
 have hA:bB es=true->PA X es ((L.of (es.map f)).w W m.aq):=λh=>kF h λe _=>(ih e).e;unfold uh;split
 ·split
  ·rename_i a ha;obtain⟨p,q,rfl,rfl,h1,h2,h3⟩:=LF ha;rw[E.w];exact .no (Jq C.calm (C.bp h1) (C.en.bl _ (by decide)) (C.bp h2) (C.en.bl _ (by decide)) (ih a).e (Bj h3))
  ·split
   ·rename_i a ha;obtain⟨p,q,rfl,rfl,h1,h2,h3⟩:=LH ha;rw[E.w];exact .no (JI C.calm C.pJ (C.bp h1) (C.en.bl _ (by decide)) (ih a).e (PL.l0 h2) h3)
   split
   ·rename_i h;rw[Zf]at h;split
    ·split
     ·exact .ar
     ·rename_i hn;rw[E.w];cases es with
      |nil=>exact absurd rfl hn
      |cons e es=>
       have h':(dH e && bB es)=true:=h.2;rw[Zf]at h';exact .val (IF C.en.ca C.room hO (Bo C).e (hA h.2) (cW h'.1) (fH h'.2) rfl)
    ·exact Lz C h.1 h.2 λe _=>(ih e).e
   ·exact .ar
 ·split
  ·rename_i h;rw[Zf,Zf,Zf]at h;obtain⟨⟨⟨h1,h2⟩,h3⟩,h4⟩:=h;exact LA C (ih _).e (by simpa using h2) h1 (of_decide_eq_true h4) h3 λe _=>(ih e).e
  ·exact .ar
 ·exact .ar
theorem LP(ih:∀x,aS X x ((f x).w W m.aq)){ks:List (Option Expr)}{vs:List Expr}{pos:Pos}:aS X (.Dict ks vs pos) ((uj f ks vs).w W m.aq):=by
 unfold uj;split
 ·rename_i h;rw[Zf,List.isEmpty_iff,List.isEmpty_iff]at h;obtain⟨rfl,rfl⟩:=h;rw[E.w];exact .no H'
 ·split
  ·rename_i h;rw[Zf,Zf,Zf]at h;obtain⟨⟨⟨h1,h2⟩,h3⟩,h4⟩:=h;rw[E.w];exact .no (Ic (Bt h1 (of_decide_eq_true h2) λe=>(ih e).e) h1 (of_decide_eq_true h2) (by rintro rfl;cases h4) (of_decide_eq_true h3))
  ·exact .ar
end
theorem LQ{n:Nat}{ns:List Str}{sc:Scope}{X:Cx}(C:br m W k ns sc X)(ih:∀{ns:List Str}{sc:Scope}{X:Cx},br m W k ns sc X->∀x,aS X x ((aU m n ns sc x).w W m.aq)){bd:Expr}{gs:List Comprehension}{scope:Scope}{pos:Pos}:aS X (.ListComp bd gs scope pos) ((ui ns sc (aU m n) bd scope gs).w W m.aq):=by
 unfold ui;split
 ·unfold Bf;split
  ·rename_i g hg;split
   ·rename_i h;rw[Zf,Zf,Zf]at h;obtain⟨⟨⟨h1,h2⟩,h3⟩,h4⟩:=h;split
    ·exact Br (n:=n) C (ih C) hg h1 h2 (of_decide_eq_true h3) h4 (λ_=>Im) λC'=>(ih C' _).e
    ·split
     ·exact .ar
     ·rename_i hn;exact Br (n:=n) C (ih C) hg h1 h2 (of_decide_eq_true h3) h4 (λC'=>by unfold V7;rw[show kx _=false by simpa using hn];exact Io (ih C' _).t) λC'=>(ih C' _).e
    ·exact .ar
   ·exact .ar
  ·exact .ar
 ·exact .ar
theorem pK:∀(n:Nat){ns:List Str}{sc:Scope}{X:Cx},br m W k ns sc X->∀x,aS X x ((aU m n ns sc x).w W m.aq)
 | 0,ns,sc,X,C,x=>.ar
 |n+1,ns,sc,X,C,x=>by
  have ih:∀x,aS X x ((aU m n ns sc x).w W m.aq):=pK n C;have hA:∀{es:List Expr},bB es=true->PA X es ((L.of (es.map (aU m n ns sc))).w W m.aq):=λh=>kF h λe _=>(ih e).e;cases x
  case Name y p=>exact Bo C
  case Constant c kk p=>exact Lr
  case Tuple es kk p=>
   show aS X _ ((if bB es then E.tup (L.of (es.map (aU m n ns sc))) else .ar).w W m.aq)
   split
   ·rename_i h;rw[E.w];exact .val (FT (hA h))
   ·exact .ar
  case List es p=>
   show aS X _ ((if bB es then E.lst (L.of (es.map (aU m n ns sc))) else .ar).w W m.aq)
   split
   ·rename_i h;rw[E.w];exact .val (FU (hA h))
   ·exact .ar
  case BinOp a o b p=>exact .val (FG (GY _) (ih _).e (ih _).e)
  case Compare a os bs p=>exact LN C ih
  case UnaryOp o a p=>
   cases o
   case USub=>exact .val (yj yk (ih _).e)
   case Not=>exact .gh (FQ (ih _).e) (FL (ih _).t)
   all_goals exact .ar
  case BoolOp o vs p=>
   cases o
   case And=>obtain⟨h1,h2⟩:=Bl (p:=p) λe _=>ih e;exact .gh h1 (Bn h2)
   case Or=>obtain⟨h1,h2⟩:=Bm (p:=p) λe _=>ih e;exact .gh h1 (Bn h2)
  case IfExp c a b p=>exact .no (FR (ih _).t (ih _).e (ih _).e)
  case Subscript a b p=>exact LM ih
  case Call g es uk p=>
   cases uk with
   |nil=>exact LO C ih
   |cons _ _=>exact .ar
  case Attribute o f p=>
   show aS X _ ((if !PL.f9 o then E.fld (aU m n ns sc o) f else .ar).w W m.aq)
   split
   ·rename_i h;rw[E.w];exact .val (LD (λC' z=>C.en.fl C' _ z) (ih _).e (PL.l0 (by simpa using h)))
   ·exact .ar
  case ListComp bd gs scope p=>exact LQ C (pK n)
  case Dict ks vs p=>exact LP ih
  all_goals exact .ar
end
noncomputable def B.of:List S->B
 |[]=>.nil
 |s::r=>.cons s (B.of r)
noncomputable def kG(o:Option G)(f:G->S):S:=match o with
 |some g=>f g
 |none=>.dead
noncomputable def ur(ns:List Str)(sc:Scope)(f:Expr->E)(v:Expr):Expr->S
 |.Name x p=>kG (gz ns (loc sc) (.Name x p)) λg=>.set g (f v)
 |.Tuple es kk p=>if !tV v && !dP v then kG (gz ns (loc sc) (.Tuple es kk p)) λg=>.set g (f v) else .dead
 |.Subscript o i _=>if cO i && !dP v then .put (f o) (f i) (f v) else .dead
 |.Attribute o a _=>if !dP v then .mN (f o) a (f v) else .dead
 |_=>.dead
noncomputable def Bv(ns:List Str)(sc:Scope)(f:Expr->E)(v:Expr):List Expr->S
 |[t]=>ur ns sc f v t
 |_=>.dead
noncomputable def Bw(s:S):List Stmt->S
 |[]=>s
 |_=>.dead
noncomputable def LR(f:Expr->E):Option Expr->S
 |some v=>.ret (f v)
 |none=>.dead
variable(m:Nm)in
noncomputable def hU:Nat->List Str->Scope->Stmt->S
 | 0,_,_,_=>.dead
 |n+1,ns,sc,s=>match s with
  |.Assign ts v _=>Bv ns sc (aU m n ns sc) v ts
  |.Return o _=>LR (aU m n ns sc) o
  |.Expr v _=>if !dP v then .ex (aU m n ns sc v) else .dead
  |.If c a b _=>.cond (aU m n ns sc c) (B.of (a.map (hU n ns sc))) (B.of (b.map (hU n ns sc)))
  |.For t i b e _=>Bw (if cO i then kG (gz ns (loc sc) t) λg=>.loop g (jb sc (aU m n ns sc) t i) (B.of (b.map (hU n ns sc))) else .dead) e
  |.While c b e _=>Bw (.mO (aU m n ns sc c) (B.of (b.map (hU n ns sc)))) e
  |_=>.dead
section
variable{m:Nm}{W:Wd}{k:Nat}{ns:List Str}{sc:Scope}{X:Cx}
theorem uv{st:Stmt}{o:Option G}{f:G->S}(h:∀g,o=some g->PS X st ((f g).w W m.aq)):PS X st ((kG o f).w W m.aq):=by
 cases o with
 |none=>exact dE
 |some g=>exact h g rfl
theorem je{f:Stmt->S}(g:∀s,PS X s ((f s).w W m.aq)):∀ss:List Stmt,fy X ss ((B.of (ss.map f)).w W m.aq)
 |[]=>FV
 |[s]=>FX (g s)
 |s::t::r=>FW (g s) (je g (t::r))
theorem LS{X:Cx}{fl:Addr->Str->Prop}{f:Str}(hf:∀C,fl C f->c9 X.G.K C/\eh X.G.K C f){o d:D}{M:Mp}{q:Mp->Prop}(h:dc o M λa C dx fs=>fl C f/\fs.length<1000/\q (up M a (.ins C dx (fG f d fs)))):rO X.G.K f o d M q:=by
 unfold dc at h;unfold rO dc;split at h
 ·obtain⟨C,dx,fs,e,h1,h2⟩:=h;exact⟨C,dx,fs,e,hf C h1,h2⟩
 ·exact h.elim
theorem LU{fl:Addr->Str->Prop}{o value:Expr}{f:Str}{to tv:DE}{pos rQ:Pos}(hf:∀C,fl C f->c9 X.G.K C/\eh X.G.K C f)(ho:PE X o to)(hv:PE X value tv)(hs:swapsWith value (some (.Attribute o f rQ)) pos.line X.env=pure false):PS X (.Assign [.Attribute o f rQ] value pos) (A9 fl f to tv):=fun τ z e R I h k=>
 plainObj_wpAny_Assign_Attribute (hv τ z _ _ I h λd z1 u l1 I1 r1 q1=>ho τ z1 _ _ I1 q1 λod z2 ov l2 I2 r2 q2=>Hh I2 r2 (r1.up l2.d) (LS hf q2) λz3 e3 I3 q3=>k.nx τ z3 (by rw[e3];exact l1.tr l2) I3 q3) hs
theorem LV(C:br m W k ns sc X)(hf:∀y,loc sc y=true->X.fn y=true\/X.env.scope.names.lookup y=some .local){f:Expr->E}(ih:∀x,aS X x ((f x).w W m.aq)){ts:List Expr}{v:Expr}{q:Pos}:PS X (.Assign ts v q) ((Bv ns sc f v ts).w W m.aq):=by
 have hok:∀y,loc sc y=true->L2.iq X.env.scope y/\(X.fn y=true\/X.env.scope.names.lookup y=some .local):=λy hy=>⟨by rw[C.eX];exact pH hy,hf y hy⟩;have nd:X.N.Nodup:=by rw[C.hN];exact C.nd
 cases ts with
 |nil=>exact dE
 |cons t r=>
 cases r with
 |cons _ _=>exact dE
 |nil=>
 show PS X _ ((ur ns sc f v t).w W m.aq);unfold ur;cases t with
 |Name x p=>
  refine uv λg hg=>?_;rw[S.w];have hg:(if loc sc x then (dO x ns 0).map G.one else none)=some g:=hg
  split at hg
  ·rename_i hl;obtain⟨i,h1,rfl⟩:=Option.map_eq_some_iff.mp hg;have hN:iz X [i] [x]:=⟨nd,λi' y hy=>by
    cases List.mem_singleton.mp hy;exact⟨by rw[C.hN];exact hK h1,hok x hl⟩⟩
   cases hc:dP v with
   |false=>exact xm hN (ih v).e (mS hc)
   |true=>
    have key:∃b:Bool,swapsWith v (some (.Name x p)) q.line X.env=pure b:=by
     cases v <;> first |exact⟨_,rfl⟩ |cases hc
    obtain⟨b,hb⟩:=key;cases b with
    |false=>exact xm hN (ih v).e hb
    |true=>exact (ih v).s hc x i p q hN hb
  ·cases hg
 |Tuple es kk p=>
  show PS X _ ((if !tV v && !dP v then kG (gz ns (loc sc) (.Tuple es kk p)) λg=>S.set g (f v) else .dead).w W m.aq)
  split
  ·rename_i h;rw[Zf]at h;refine uv λg hg=>?_;rw[S.w];exact xl (ih v).e (uo C hok hg) (show swapsWith v (some (.Tuple es kk p)) q.line X.env=pure false from mS (by simpa using h.2)) (Lq (by simpa using h.1)) rfl
  ·exact dE
 |Subscript o i p=>
  show PS X _ ((if cO i && !dP v then S.put (f o) (f i) (f v) else .dead).w W m.aq)
  split
  ·rename_i h;rw[Zf]at h;rw[S.w];exact xl (ih v).e (F9 (ih o).e (ih i).e (G8 C.u1) (Lo h.1)) (show swapsWith v (some (.Subscript o i p)) q.line X.env=pure false from mS (by simpa using h.2)) rfl rfl
  ·exact dE
 |Attribute o a p=>
  show PS X _ ((if !dP v then S.mN (f o) a (f v) else .dead).w W m.aq)
  split
  ·rename_i h;rw[S.w];exact LU (λC' z=>C.en.fl C' _ z) (ih o).e (ih v).e (mS (by simpa using h))
  ·exact dE
 |_=>exact dE
theorem uw(C:br m W k ns sc X)(hf:∀y,loc sc y=true->X.fn y=true\/X.env.scope.names.lookup y=some .local):∀(n:Nat)(s:Stmt),PS X s ((hU m n ns sc s).w W m.aq)
 | 0,s=>dE
 |n+1,s=>by
  have ih:∀x,aS X x ((aU m n ns sc x).w W m.aq):=pK n C;have po:∀s,PS X s ((hU m n ns sc s).w W m.aq):=uw C hf n;cases s
  case Assign ts v q=>exact LV C hf ih
  case Return o p=>
   cases o with
   |none=>exact dE
   |some v=>exact F3 (ih _).e
  case Expr v p=>
   show PS X _ ((if !dP v then S.ex (aU m n ns sc v) else .dead).w W m.aq)
   split
   ·rename_i h;rw[S.w];exact FZ (ih _).e (mS (by simpa using h))
   ·exact dE
  case If c a b p=>exact F4 (ih _).t (je po _) (je po _)
  case For t i b e p=>
   cases e with
   |cons _ _=>exact dE
   |nil=>
    show PS X _ ((if cO i then kG (gz ns (loc sc) t) λg=>S.loop g (jb sc (aU m n ns sc) t i) (B.of (b.map (hU m n ns sc))) else .dead).w W m.aq)
    split
    ·rename_i h;refine uv λg hg=>?_;rw[S.w];exact Jx (Gb C.calm (uq C ih) (uo C (λy hy=>⟨by rw[C.eX];exact pH hy,hf y hy⟩) hg) (je po _) (um h))
    ·exact dE
  case While c b e p=>
   cases e with
   |cons _ _=>exact dE
   |nil=>exact Ga (ih _).t (je po _)
  all_goals exact dE
end
noncomputable def aQ(m:Nm)(n:Nat)(ns:List Str)(sc:Scope)(ss:List Stmt):B:=B.of (ss.map (hU m n ns sc))
end N
end
section
set_option maxHeartbeats 1000000
namespace N
open PySem PySem.Spec PyProof.Rows L2
def bU(Q:QK):QK:=λd M=>∃K e,bC K M/\Fr M K d e/\Q e K
section
variable{G:Gx}{F:Fz}{M K:Mp}{h:Heap}
theorem CR.ret{z:Z}{Q:QK}{E:XQ}{r:Result}{s:Shared}(h:CR G z (bU Q) E r s):CR G z Q E r s:=by
 cases r with
 |error e=>exact h
 |ok fl=>
  cases fl with
  |ret u=>
   obtain⟨d,z',l,rd,Km,e,sb,f,q⟩:=h;exact⟨e,⟨dt z'.F z'.M Km z'.s.heap,Km,z'.s⟩,⟨l.s,l.l.tr (e6 l.ok),zO l.ok sb,l.os,l.bare⟩,f.rel l.ok rd,q⟩
  |next=>exact h
  |brk=>exact h
  |cont=>exact h
end
noncomputable abbrev cx(Q:QK):En:={ nx:=λ_ M=>bU Q .az M,rt:=bU Q }
theorem Bx{G:Gx}{m:Nm}{W:Wd}{k n:Nat}{x qual:Str}{st:Stmt}{f:Addr}{fd:FuncData}{ns ps:List Str}{sp:Sp}{b:B}(F:eo G.K x qual st f fd)(S:aO ns ps (ao st))(En:pI m W k G)(hc:aQ m n ns (ao st) (aH st)=b)
  (h:∀ds M Q E,sp ds M Q E->ds.length=ps.length/\b.w W m.aq (cx Q) (start ns ds) M):bb G (k+1) f fd ps sp:=by
 obtain⟨oc,od,kV,doc,pm,Ux,a9,ct,cL,rfl,lk,eg⟩:=F.ex;have key:bb G (k+1) f (PySem.W.fnOf x qual (eS st) (aH st) (ao st) .none kV doc pm Ux a9 ct) ps λds M R E=>∃Q,R=bU Q/\sp ds M Q E:=by
  refine x' lk eg S (λds M R E ⟨Q,_,z⟩=>(h ds M Q E z).1) λA outer s M ds R E hr ⟨Q,e,z⟩=>?_;subst e;have C:br m W k ns (ao st) (el G ns qual (ao st) f a9 A outer s E):=⟨rfl,rfl,S.nd,rfl,hr,En⟩;refine⟨_,je (uw C (λ_ _=>.inl rfl) n) _,?_⟩;have:=(h ds M Q E z).2;rw[<- hc]at this;exact this
 refine⟨λds M Q E z=>(h ds M Q E z).1,λA outer z args us ds Q E hr e0 hb r hs=>aaJ (key.eH A outer z args us ds (bU Q) E hr e0 hb r ⟨Q,rfl,hs⟩) λr s q=>q.ret⟩
end N
end
section
set_option maxHeartbeats 1000000
namespace N
open PySem PySem.Spec PyProof.Rows L2
structure Ds where
 x:Str
 st:Stmt
 ps:List Str
def ux:Sp:=λ_ _ _ _=>False
def pL:List (Nat×Sp)->Nat->Sp
 |[],_=>ux
 |(j,sp)::r,i=>if i=j then sp else pL r i
structure mU(G:Gx)(x:Str)(st:Stmt)(f:Addr)(fd:FuncData)(ps:List Str):Prop where
 fn:∃n,eo G.K n n st f fd
 b:bS G.K fd ps []
 mg:G.mg x=some (.ref f)
theorem mU.kp{G:Gx}{x:Str}{st:Stmt}{f:Addr}{fd:FuncData}{ps:List Str}(d:mU G x st f fd ps):PySem.W.keepIn G.K (.ref f)=true:=d.fn.elim λ_ h=>h.kp
structure Wo where
 G:Gx
 ds:List Ds
 fN:List Str
 gv:List D
 fl:Addr->Str->Prop
 cls:List Str
 ca:Nat->Addr
 ms:List Ds
 mc:Nat->Addr
def Wo.nm(w:Wo):Nm:=⟨w.ds.map (·.x),w.fN,w.cls,w.ms.map (·.x)⟩
structure uy(K:PySem.W.Frag)(C:Addr)(d:Ds)(f:Addr)(fd:FuncData):Prop where
 fn:∃q:Str,eo K d.x q d.st f fd
 b:bS K fd d.ps []
 m:jG K C d.x f
 c:c9 K C
structure Wo.Ok(w:Wo):Prop where
 df:∀(i:Nat)(d:Ds),w.ds[i]?=some d->∃f fd,mU w.G d.x d.st f fd d.ps
 gv:∀i x,w.fN[i]?=some x->∃u,w.G.mg x=some u/\∀F:Fz,(∀b o,w.G.base.get? b=some o->F b=some (.dat o))->aa w.G F (w.gv.getD i .az) u
 bl:∀x∈kE,w.G.mg x=none
 fl:∀C f,w.fl C f->c9 w.G.K C/\eh w.G.K C f
 mt:∀(i:Nat)(d:Ds),w.ms[i]?=some d->∃f fd,uy w.G.K (w.mc i) d f fd
 cl:∀(i:Nat)(x:Str),w.cls[i]?=some x->w.G.mg x=some (.ref (w.ca i))/\∀f,PySem.W.findIn w.G.K (.ref (w.ca i)) "__init__"=some (some (.ref f))->PySem.W.isFn w.G.K (.ref f)=true->Mk w.G.K (w.ca i) f
def FO(w:Wo)(i k:Nat)(sp:Sp):Prop:=∃d f fd,w.ds[i]?=some d/\mU w.G d.x d.st f fd d.ps/\bb w.G k f fd d.ps sp
theorem FO.mono{w:Wo}{i j k:Nat}{sp:Sp}(h:FO w i j sp)(hk:j<=k):FO w i k sp:=let ⟨d,f,fd,a,b,c⟩:=h;⟨d,f,fd,a,b,c.mono hk⟩
theorem FO.imp{w:Wo}{i k:Nat}{sp lY:Sp}(h:FO w i k sp)(g:∀ds M Q E,lY ds M Q E->sp ds M Q E):FO w i k lY:=
 let ⟨d,f,fd,a,b,c⟩:=h
 ⟨d,f,fd,a,b,c.imp g⟩
theorem LW{G:Gx}{k:Nat}{f:Addr}{fd:FuncData}{ps:List Str}:bb G k f fd ps ux:=⟨λ_ _ _ _ h=>h.elim,λ_ _ _ _ _ _ _ _ _ _ _ _ h=>h.elim⟩
def uz(w:Wo)(k:Nat):List (Nat×Sp)->Prop
 |[]=>True
 |(i,sp)::r=>(∃j,j<=k/\FO w i j sp)/\uz w k r
theorem kH{w:Wo}(O:w.Ok){k i:Nat}{d:Ds}(hd:w.ds[i]?=some d):∀{cs:List (Nat×Sp)},uz w k cs->FO w i k (pL cs i)
 |[],_=>let ⟨f,fd,h⟩:=O.df i d hd;⟨d,f,fd,hd,h,LW⟩
 |(j,sp)::r,h=>by
  unfold pL;by_cases e:i=j
  ·subst e;rw[if_pos rfl];obtain⟨⟨l,hl,h⟩,_⟩:=h;exact h.mono hl
  ·rw[if_neg e];exact kH O hd h.2
def d2(w:Wo)(i k:Nat)(sp:Sp):Prop:=∃d f fd,w.ms[i]?=some d/\uy w.G.K (w.mc i) d f fd/\bb w.G k f fd d.ps sp
theorem d2.mono{w:Wo}{i j k:Nat}{sp:Sp}(h:d2 w i j sp)(hk:j<=k):d2 w i k sp:=let ⟨d,f,fd,a,b,c⟩:=h;⟨d,f,fd,a,b,c.mono hk⟩
noncomputable def mV:List (Nat×Sp)->Nat->Option Sp
 |[],_=>none
 |(j,sp)::r,i=>if i=j then some sp else mV r i
def uA(w:Wo)(k:Nat):List (Nat×Sp)->Prop
 |[]=>True
 |(i,sp)::r=>(∃j,j<=k/\d2 w i j sp)/\uA w k r
theorem By{w:Wo}{k i:Nat}{sp:Sp}:∀{cs:List (Nat×Sp)},uA w k cs->mV cs i=some sp->d2 w i k sp
 |[],_,h=>by cases h
 |(j,s)::r,h,e=>by
  unfold mV at e;by_cases z:i=j
  ·subst z;rw[if_pos rfl]at e;cases e;obtain⟨⟨l,hl,h⟩,_⟩:=h;exact h.mono hl
  ·rw[if_neg z]at e;exact By h.2 e
structure bD(w:Wo) where
 cs:List (Nat×Sp):=[]
 ms:List (Nat×Sp):=[]
 ci:List (Nat×Nat×Sp):=[]
 ca:Addr->Sp->Prop:=λ_ _=>False
noncomputable def pM(w:Wo):List (Nat×Nat×Sp)->Nat->Option (Addr×Sp)
 |[],_=>none
 |(j,_,sp)::r,i=>if i=j then some (w.ca j,sp) else pM w r i
noncomputable def bD.wd{w:Wo}(l:bD w):Wd:=⟨pL l.cs,w.gv,w.fl,pM w l.ci,λi=>(mV l.ms i).map λsp=>(w.mc i,sp),l.ca⟩
def uB(w:Wo)(k:Nat):List (Nat×Nat×Sp)->Prop
 |[]=>True
 |(i,m,sp)::r=>(w.mc m=w.ca i/\w.ms[m]?.map (·.x)=some "__init__"/\∃j,j+1<=k/\d2 w m j sp)/\uB w k r
theorem Bz{w:Wo}{k i:Nat}{C:Addr}{sp:Sp}:∀{cs:List (Nat×Nat×Sp)},uB w k cs->pM w cs i=some (C,sp)->C=w.ca i/\∃m j,w.mc m=w.ca i/\w.ms[m]?.map (·.x)=some "__init__"/\j+1<=k/\d2 w m j sp
 |[],_,h=>by cases h
 |(j,m,s)::r,h,e=>by
  unfold pM at e;by_cases z:i=j
  ·subst z;rw[if_pos rfl]at e;cases e;obtain⟨⟨h1,h0,l,hl,h⟩,_⟩:=h;exact⟨rfl,m,l,h1,h0,hl,h⟩
  ·rw[if_neg z]at e;exact Bz h.2 e
structure bD.Ok{w:Wo}(l:bD w)(k:Nat):Prop where
 cs:uz w k l.cs
 ms:uA w k l.ms:=by exact trivial
 ci:uB w k l.ci:=by exact trivial
 ca:∀f sp,l.ca f sp->eU w.G k f sp:=by exact λ_ _ z=>z.elim
theorem bD.Ok.env{w:Wo}(O:w.Ok){l:bD w}{k:Nat}(h:l.Ok k):pI w.nm l.wd k w.G where
 fn:=λj x hj=>by
  have bn:(w.ds.map (·.x))[j]?=some x:=hj;rw[Zr]at bn;obtain⟨e,he,rfl⟩:=Option.map_eq_some_iff.mp bn;obtain⟨e',UL,BA,h1,h2,h3⟩:=kH O he h.cs;rw[he]at h1;cases h1;exact⟨UL,BA,e.ps,h3,h2.mg,h2.kp,h2.b⟩
 gv:=O.gv
 bl:=O.bl
 fl:=O.fl
 cl:=λi x C sp hi hc=>by
  obtain⟨e,m,j,h1,h0,h2,d,f,fd,h3,h4,h5⟩:=Bz h.ci hc;subst e;obtain⟨g1,g2⟩:=O.cl i x hi;rw[h3]at h0;have U:d.x="__init__":=ZJ h0;have hm:=h4.m;rw[U,h1]at hm;exact⟨j,f,fd,d.ps,h2,g2 f hm.bX hm.fn,h5,g1,h4.b⟩
 mt:=λi x C sp hi hc=>by
  have dm:(mV l.ms i).map (λsp=>(w.mc i,sp))=some (C,sp):=hc;obtain⟨s,e1,e2⟩:=Option.map_eq_some_iff.mp dm;cases e2;obtain⟨d,f,fd,h3,h4,h5⟩:=By h.ms e1;have hi':(w.ms.map (·.x))[i]?=some x:=hi;rw[Zr,h3]at hi';cases hi';exact⟨f,fd,d.ps,h4.c,h4.m,h5,h4.b⟩
 ca:=h.ca
theorem bh{w:Wo}(O:w.Ok){nm:Nm}(hn:w.nm=nm){k n:Nat}{ns:List Str}{b:B}{sp:Sp}(i:Nat)(d:Ds)(hd:w.ds[i]?=some d)(l:bD w)(hl:l.Ok k)(S:aO ns d.ps (ao d.st))(hc:aQ nm n ns (ao d.st) (aH d.st)=b)
  (h:∀ds M Q E,sp ds M Q E->ds.length=d.ps.length/\b.w l.wd nm.aq (cx Q) (start ns ds) M):FO w i (k+1) sp:=by
 subst hn;obtain⟨f,fd,F⟩:=O.df i d hd;obtain⟨n,Fn⟩:=F.fn;exact⟨d,f,fd,hd,F,Bx Fn S (hl.env O) hc h⟩
theorem mW{w:Wo}(O:w.Ok){nm:Nm}(hn:w.nm=nm){k n:Nat}{ns:List Str}{b:B}{sp:Sp}(i:Nat)(d:Ds)(hd:w.ms[i]?=some d)(l:bD w)(hl:l.Ok k)(S:aO ns d.ps (ao d.st))(hc:aQ nm n ns (ao d.st) (aH d.st)=b)
  (h:∀ds M Q E,sp ds M Q E->ds.length=d.ps.length/\b.w l.wd nm.aq (cx Q) (start ns ds) M):d2 w i (k+1) sp:=by
 subst hn;obtain⟨f,fd,F⟩:=O.mt i d hd;obtain⟨q,Fn⟩:=F.fn;exact⟨d,f,fd,hd,F,Bx Fn S (hl.env O) hc h⟩
end N
end
section
namespace Att
open PySem PySem.W PySem.Calls PyProof.Rows
theorem LX{P:Params}{h:Heap}:∀(ns:List Int)(vs:List Value),WellAll P h vs (ns.map WData.int)->IntsAre vs ns:=by
 intro ns
 induction ns with
 |nil=>
  intro vs w;rw[Z']at w;cases w;exact .nil
 |cons n ns ih=>
  intro vs w;rw[Zh]at w;cases w with
  |cons a b=>
   cases a;exact .cons _ _ (ih _ b)
theorem LY{l:OpenLaw}{n:Nat}(hn:l.most=some n){P:Params}{h:Heap}{args:List WData}{iU:List Value}
  (d5:l.row.toRowW.claim.pre args=true) (ul:WellAll P h iU args) :
  ∃a vs ns,iU=[aaq a]/\args=[WData.list (ns.map WData.int)]/\h.get? a=some { cls:=.type "list",data:=.seq vs.toArray }/\IntsAre vs ns/\ns.length<=n:=by
 have LZ:WShape.hasAll [] args [.list .int]=true:=(pre_splitW d5).1;have hc:l.pre.holds [] { args:=args }=true:=(pre_splitW d5).2;obtain⟨d,r,rfl,h1,h2⟩:=hasAllW_cons LZ;obtain rfl:=hasAllW_nil h2;obtain⟨xs,rfl,h3⟩:=hasW_list h1;obtain⟨ns,rfl⟩:=items_int h3;have hlen:ns.length<=n:=by
  unfold OpenLaw.pre at hc;have h4:(WTm.not (.lt (.lit (.int (n:Int))) (.len (.arg 0)))).holds [] { args:=[.list (ns.map .int)] }=true:=by
   have h4:=(holds_andW hc).1;rw[hn]at h4;exact h4
  have h5:=condW_of h4 (w_not (w_lt w_lit (w_len_list (w_arg rfl))));rw[Y6]at h5;refine Nat.le_of_not_lt λq=>?_;have q':(n:Int)<((ns.length:Nat):Int):=by lia
  first
   |(rw[decide_eq_true q']at h5;exact absurd h5 (by decide))
   |(simp at h5;lia)
 cases ul with
 |cons w1 w2=>
  cases w2;cases w1 with
  |list ho sn=>exact⟨_,_,ns,rfl,rfl,ho,LX ns _ sn,hlen⟩
theorem L0(l:OpenLaw)(args:List WData):l.row.toRowW.claim.post args (.bool true) args=true:=
 postW_of (r:=l.row.toRowW) (X:=(true == true))
  (show WShape.has [] (.bool true) .bool=true by first |rfl |decide |simp [WShape.has,WShape.arms,WShape.armsAll])
  (show (WTm.eq .res (.lit (.bool true))).value [] { args:=args,res:=some (.bool true),after:=args }=some (.bool (true == true)) from w_eq_bool (w_res rfl) w_lit) rfl
theorem L3{l:OpenLaw}{n:Nat}{q:Program}{loose:List Str}{XP:(Str->Option Value)->Heap->Prop}{YP:World->Heap->Prop}{d:DefRec}
  (hn:l.most=some n) (jM:d.params.defaults=[])
  (call:∀(w:World)(s₀ s₁:Shared)(mg mb:Str->Option Value)(fa:Addr)(o:Obj)(pm cd doc:Value)(a:Addr)(vs:List Value)(ns:List Int),
   Ground q loose [] XP w s₀ mg mb s₁.heap->YP w s₁.heap ->
   s₁.heap.get? fa=some o->o.data=.func (docDef d.name d.params d.body d.scope pm cd doc)->s₁.heap.CodeRec cd d.name->mg d.name=some (.ref fa) ->
   s₁.heap.get? a=some { cls:=.type "list",data:=.seq vs.toArray }->IntsAre vs ns->ns.length<=n->s₁.gens=#[] ->
   codeAny (model l.prog w) callerA (.call (.ref fa) ⟨[.ref a],[]⟩) (λr s'=>r=.ok (.ret (.bool true))/\OldK s₁.heap s'.heap/\s'.os=s₁.os/\AllBare s'.gens) s₁) :
  WalkO q loose XP YP l.row.toRowW d [] (λf vs=>PySem.call f vs):=by
 intro w s₀ s₁ mg mb G Y fa o pm cd doc Vw kV ho hd eg hD hmg hg args iU as d5 Uf Uh ul Ui;obtain rfl:Vw=.none:=Dflts.none hD jM;obtain rfl:kV=.none:=Dflts.noKw hD;obtain⟨a,vs,ns,rfl,rfl,ut,uC,hlen⟩:=LY hn d5 ul;refine enter_call (aaJ (call w s₀ s₁ mg mb fa o pm cd doc a vs ns G Y ho (fd_plain hd) eg hmg ut uC hlen hg) λr s' hq=>?_);obtain⟨rfl,h2,h3,h4⟩:=hq;exact⟨.inl ⟨.bool true,.bool true,[],rfl,λ_=>rfl,.bool true,L0 l _,λ_=>⟨List.Pairwise.nil,λ_ hm=>(nomatch hm)⟩⟩,h2,h3,h4⟩
end Att
namespace L2
open PySem PySem.Spec PyProof.Rows
end L2
end
section
set_option maxHeartbeats 1000000
namespace N
open PySem PySem.Spec PyProof.Rows L2
abbrev gA:=List (Addr×Pos×Str)
noncomputable def dv(ts:gA):Fz:=λb=>(ts.lookup b).map λq=>.tab q.1 q.2
noncomputable def eD(h:Heap)(ts:gA):Fz:=λb=>match ts.lookup b with
 |some q=>some (.tab q.1 q.2)
 |none=>(h.get? b).map Fo.dat
noncomputable abbrev hV(h:Heap)(ts:gA):Heap:=PySem.W.hideAll h (ts.map (·.1))
theorem mZ{ts:gA}{b:Addr}(h:b ∉ ts.map (·.1)):ts.lookup b=none:=by
 rw[List.lookup_eq_none_iff];rintro⟨a,q⟩ hm;have:b≠a:=λz=>h (z ▸ List.mem_map.mpr ⟨_,hm,rfl⟩);simpa using this
theorem di:∀{ts:gA}{b:Addr}{q:Pos×Str},ts.lookup b=some q->b∈ts.map (·.1)
 |[],_,_,h=>by cases h
 |(a,p)::r,b,q,h=>by
  by_cases e:b=a
  ·rw[e];exact Za
  ·rw[ZU,beq_false_of_ne e]at h;exact Zc _ (di h)
theorem L4{h:Heap}{ts:gA}{b:Addr}{o:Obj}(e:(hV h ts).get? b=some o):h.get? b=some o/\b ∉ ts.map (·.1):=
 ⟨PySem.W.of_hideAll _ e,λhm=>by rw[PySem.W.hideAll_none _ hm]at e;cases e⟩
theorem L5{P:Program}{w:World}{K:PySem.W.Frag}{mg mb:Str->Option Value}{k:Nat}{fa a:Addr}{fd:FuncData}{x:Str}{sp:Sp}{s₁:Shared}{vs:List Value}{ns:List Int}{ts:gA}
  (KX:K.In s₁.heap) (hT:∀T∈ts.map (·.1),s₁.heap.get? T=some (PySem.W.tabObj #[])) (m5:∀T∈ts.map (·.1),K.lookup T=none/\∃c,PySem.W.CodeHd s₁.heap c T)
  (dK:s₁.heap.Ns mainGlobals mg) (hb:s₁.heap.Ns builtinsNs mb) (tN:∀x:Str,x≠"__name__"->mb x=bootBuiltins x) (L6:s₁.heap.NoLimit) (hg:s₁.gens=#[])
  (ha:s₁.heap.get? a=some { cls:=.type "list",data:=.seq vs.toArray }) (hi:IntsAre vs ns) (hl:ns.length<=sizeLine) (hr:bx k callerA)
  (F:∀base:Heap,K.In base->base.Ns mainGlobals mg->bb ⟨P,w,K,mg,base,dv ts⟩ k fa fd [x] sp) (L7:∀(s:Shared)(u:Value),BindsTo s fd ⟨[u],[]⟩ [(x,u)])
  (jp:sp [.lst (ns.map D.int)] (λ_=>none) (λd _=>d=.bl true) X0) :
  codeAny (model P w) callerA (.call (.ref fa) ⟨[.ref a],[]⟩) (λr s'=>r=.ok (.ret (.bool true))/\OldK s₁.heap s'.heap/\s'.os=s₁.os/\AllBare s'.gens) s₁:=by
 have UQ:∀b o,s₁.heap.get? b=some o->b ∉ ts.map (·.1)->eD s₁.heap ts b=some (.dat o):=λb o e n=>by unfold eD;rw[mZ n];show (s₁.heap.get? b).map Fo.dat=_;rw[e];rfl
 have t0:∀b q,ts.lookup b=some q->eD s₁.heap ts b=some (.tab q.1 q.2):=λb q e=>by unfold eD;rw[e]
 have BB:∀b f,eD s₁.heap ts b=some f->(∃q,ts.lookup b=some q/\f=.tab q.1 q.2)\/∃o,s₁.heap.get? b=some o/\f=.dat o:=λb f e=>by
  unfold eD at e;split at e
  ·rename_i q hq;cases e;exact .inl ⟨q,hq,rfl⟩
  ·obtain⟨o,h1,rfl⟩:=Option.map_eq_some_iff.mp e;exact .inr ⟨o,h1,rfl⟩
 have nd:∀{b:Addr}{m:Str->Option Value},s₁.heap.Ns b m->b ∉ ts.map (·.1):=λ{b m}⟨o,es,ep,e,d,r⟩ hm=>by
  rw[hT b hm]at e;cases e;cases d
 have pt:∀{b:Addr}{m:Str->Option Value},s₁.heap.Ns b m->(hV s₁.heap ts).Ns b m:=λ{b m}h=>let n:=nd h;let ⟨o,es,ep,e,d,r⟩:=h;⟨o,es,ep,PySem.W.hideAll_get _ e n,d,r⟩
 have BC:K.In (hV s₁.heap ts):=λb o e=>PySem.W.hideAll_get _ (KX b o e) λhm=>by rw[(m5 b hm).1]at e;cases e
 have hok:ay ⟨P,w,K,mg,hV s₁.heap ts,dv ts⟩ (eD s₁.heap ts) (λ_=>none) s₁.heap:=⟨λb f e=>by
  rcases BB b f e with ⟨q,h1,rfl⟩ |⟨o,h1,rfl⟩
  ·exact⟨_,hT b (di h1)⟩
  ·exact h1,λ_ _ e=>(nomatch e),λT p q e=>by
  rcases BB T _ e with ⟨q',h1,h2⟩ |⟨o,h1,h2⟩
  ·exact .inl (hT T (di h1))
  ·cases h2⟩
 have bs:Bs ⟨P,w,K,mg,hV s₁.heap ts,dv ts⟩ (eD s₁.heap ts):=⟨λb o e=>let ⟨h1,h2⟩:=L4 e;UQ b o h1 h2,λb f e=>by
  obtain⟨q,h1,rfl⟩:=Option.map_eq_some_iff.mp (show (ts.lookup b).map _=_ from e);exact t0 b q h1⟩
 have e0:dV ⟨P,w,K,mg,hV s₁.heap ts,dv ts⟩ callerA [] ⟨eD s₁.heap ts,λ_=>none,s₁⟩:=⟨rfl,⟨BC,pt dK,⟨mb,pt hb,tN⟩,let ⟨mc,h1,h2⟩:=L6;⟨mc,pt h1,h2⟩⟩,bs,λ_ h=>(nomatch h),hok,.of_eq hg⟩
 have ri:∀{ns:List Int}{vs:List Value},IntsAre vs ns->af ⟨P,w,K,mg,hV s₁.heap ts,dv ts⟩ (eD s₁.heap ts) (ns.map D.int) vs:=λh=>by
  induction h with
  |nil=>exact .nil
  |cons n t r ih=>exact .cons cI ih
 have na:a ∉ ts.map (·.1):=λhm=>by rw[hT a hm]at ha;cases ha
 have V4:aa ⟨P,w,K,mg,hV s₁.heap ts,dv ts⟩ (eD s₁.heap ts) (.lst (ns.map D.int)) (.ref a):=om (n:=0) (UQ a _ ha na) (by rw[hi.length];exact hl) (ri hi);refine aaJ ((F _ BC (pt dK)).eH callerA [] ⟨eD s₁.heap ts,λ_=>none,s₁⟩ ⟨[.ref a],[]⟩ [.ref a] [.lst (ns.map D.int)] _ _ hr e0 (L7 s₁ (.ref a)) (.cons V4 .nil) jp) λr s' h=>?_;cases r with
 |error e=>obtain⟨_,_,_,z,_⟩:=h;exact z.elim
 |ok fl=>
  cases fl with
  |next=>exact h.elim
  |brk=>exact h.elim
  |cont=>exact h.elim
  |ret u=>
   obtain⟨d,z',⟨rfl,l,ok,os,bare⟩,rd,e⟩:=h;have e':d=.bl true:=e;subst e';rw[aa]at rd;subst rd;have kp:∀b o,s₁.heap.get? b=some o->asItWas s₁.heap z'.s.heap b o/\∃o',z'.s.heap.get? b=some o':=λb o q=>by
    by_cases hm:b∈ts.map (·.1)
    ·have e0:=hT b hm;rw[q]at e0;cases e0;obtain⟨⟨T,p,s⟩,hq,rfl⟩:=List.mem_map.mp hm;obtain⟨⟨p',s'⟩,hq'⟩:∃ q,ts.lookup T=some q:=by
      cases e:ts.lookup T with
      |some q=>exact⟨q,rfl⟩
      |none=>rw[List.lookup_eq_none_iff]at e;exact absurd (e _ hq) (by simp)
     obtain⟨c,C⟩:=(m5 T hm).2;have it:=(C.tab q).isCodeTable;rcases ok.tb T _ _ (l T _ (t0 T _ hq')) with y |⟨c',o',y,_⟩
     ·exact⟨.inr (.inl ⟨it,rfl,#[],#[],rfl,by simpa using y⟩),_,y⟩
     ·exact⟨.inr (.inl ⟨it,rfl,#[],_,rfl,by simpa using y⟩),_,y⟩
    ·have:=ok.fz b _ (l b _ (UQ b o q hm));exact⟨.inl this,o,this⟩
   exact⟨rfl,⟨λb o q=>(kp b o q).1,λb o q=>(kp b o q).2⟩,os,bare⟩
theorem walk_of{l:PySem.W.OpenLaw}{n k:Nat}{q:Program}{loose:List Str}{XP:(Str->Option Value)->Heap->Prop}{YP:World->Heap->Prop}{d:DefRec}{K:Params->PySem.W.Frag}{sp:World->Sp}{x:Str}{ts:gA}
  (hn:l.most=some n) (oz:n<=sizeLine) (jM:d.params.defaults=[]) (hr:bx k callerA)
  (V3:∀(w:World)(h:Heap),YP w h->(K w.params).In h/\∀T∈ts.map (·.1),h.get? T=some (PySem.W.tabObj #[]))
  (m5:∀(w:World),∀T∈ts.map (·.1),(K w.params).lookup T=none/\∃c,PySem.W.codeHdIn (K w.params) c T=true)
  (F:∀(w:World)(mg:Str->Option Value)(fa:Addr)(h:Heap),(K w.params).In h->h.Ns mainGlobals mg->mg d.name=some (.ref fa) ->
   ∃fd:FuncData,(∀(s:Shared)(u:Value),BindsTo s fd ⟨[u],[]⟩ [(x,u)])/\∀base:Heap,(K w.params).In base->base.Ns mainGlobals mg->bb ⟨l.prog,w,K w.params,mg,base,dv ts⟩ k fa fd [x] (sp w))
  (jp:∀(w:World)(ns:List Int),ns.length<=n->sp w [.lst (ns.map D.int)] (λ_=>none) (λd _=>d=.bl true) X0) :
  PySem.W.WalkO q loose XP YP l.row.toRowW d [] (λf vs=>PySem.call f vs):=by
 refine Att.L3 hn jM λw s₀ s₁ mg mb fa o pm cd doc a vs ns G Y ho hd eg hmg ut uC hlen hg=>?_;obtain⟨KX,hT⟩:=V3 w _ Y;obtain⟨fd,hb,hF⟩:=F w mg fa _ KX G.T.g hmg;exact L5 KX hT (λT hm=>⟨(m5 w T hm).1,let ⟨c,e⟩:=(m5 w T hm).2;⟨c,PySem.W.codeHd_of_K KX e⟩⟩) G.T.g G.T.b G.T.builtins G.T.nolimit hg ut uC (Y9 hlen oz) hr hF hb (jp w ns hlen)
end N
end
section
set_option maxHeartbeats 1000000
namespace N
open PySem PySem.Spec PyProof.Rows L2
theorem ay.uD{G:Gx}{F:Fz}{M:Mp}{h h':Heap}{T c:Addr}{p:Pos}{q:Str}{o:Obj}(x:ay G F M h)(hT:F T=some (.tab p q))(k:∀b,b≠T->bk h h' b)(e:h'.get? T=some { cls:=.none,data:=.fields #[rawInt p.line,rawInt p.col,.ref c] })(hp:h.objs.size<=c)(ho:h'.get? c=some o)(hc:gV o q):ay G (up F c (.dat o)) M h':=by
 have hF:=x.cU hp;have Uj:T≠c:=b7 hT hF;refine⟨λb f r=>?_,λb u r=>?_,λT' p' q' r=>?_⟩
 ·by_cases hb:b=c
  ·subst hb;rw[ak]at r;cases r;exact ho
  ·rw[av hb]at r;by_cases kt:b=T
   ·subst kt;rw[hT]at r;cases r;exact⟨_,e⟩
   ·exact (x.fz b f r).go (k b kt)
 ·have hb:b≠c:=b7 r (x.dk hp);obtain⟨h1,h2⟩:=x.ob b u r;refine⟨by rw[av hb];exact h1,h2.go (Le.new hF).d (λd hd=>k d ?_) λ_ e=>e⟩;rintro rfl;rcases hd with rfl |hd
  ·rw[hT]at h1;cases h1
  ·have:=(x.ob _ _ hd).1;rw[hT]at this;cases this
 ·by_cases hb:T'=c
  ·subst hb;rw[ak]at r;cases r
  ·rw[av hb]at r;by_cases kt:T'=T
   ·subst kt;rw[hT]at r;cases r;exact .inr ⟨c,o,e,ak,hc⟩
   ·rcases x.tb T' p' q' r with y |⟨c',o',h1,h2,h3⟩
    ·exact .inl (k T' kt _ y)
    ·exact .inr ⟨c',o',k T' kt _ h1,Le.new hF _ _ h2,h3⟩
theorem ab.uD{X:Cx}{τ:St}{z:Z}{h':Heap}{t:Nat}{T c:Addr}{p:Pos}{q:Str}{o:Obj}(I:ab X τ z)(hT:z.F T=some (.tab p q))(k:∀ b,b≠T->bk z.s.heap h' b)(e:h'.get? T=some { cls:=.none,data:=.fields #[rawInt p.line,rawInt p.col,.ref c] })(hp:z.s.heap.objs.size<=c)(ho:h'.get? c=some o)(hc:gV o q):
  Le z.F (up z.F c (.dat o))/\ab X τ ⟨up z.F c (.dat o),z.M,{ z.s with heap:=h',toks:=t }⟩:=by
 have l:Le z.F (up z.F c (.dat o)):=Le.new (I.hok.cU hp);refine⟨l,I.go l (I.hok.uD hT k e hp ho hc) (λb hb=>⟨(k b ?_).s,I.dA hb,av (Zw (Zq (I.gX hb) hp))⟩) rfl I.bare⟩;rintro rfl;rcases hb with rfl |⟨x,U⟩
 ·rw[I.free.1]at hT;cases hT
 ·rcases (I.cell x b U).2.2 with r |⟨_,o',r⟩
  ·rw[r.2]at hT;cases hT
  ·rw[r]at hT;cases hT
structure hW(G:Gx)(c T:Addr)(p:Pos)(q:Str):Prop where
 cd:PySem.W.codeHdIn G.K c T=true
 bi:∃(UW:Addr)(ob:Obj),G.mg "__builtins__"=some (.ref UW)/\G.K.lookup UW=some ob/\UW≠builtinsNs/\UW≠mainGlobals/\UW≠T/\ob.cls=.type "module"/\ob.dict=some builtinsNs/\ob.data=.plain
 V9:mainGlobals≠T
 tab:G.ex T=some (.tab p q)
abbrev gB:=List (Str×Addr)
theorem L8{h:Heap}{c:Addr}{q:Str}(x:h.CodeRec (.ref c) q):∃o,h.get? c=some o/\gV o q:=by
 obtain⟨d,o,vs,t,e,e1,e2,e3⟩:=x;cases e;exact⟨o,e1,vs,t,e2,e3⟩
section
variable{X:Cx}{τ:St}{z:Z}
theorem L9{clos:gB}{name:Str}{params:Arguments}{body:List Stmt}{scope:Scope}{pos:Pos}{c T:Addr}{i:Nat}{R:Flow->Shared->Prop}(I:ab X τ z)(L:hW X.G c T pos (qualnameIn X.env name name))(hN:X.N.Nodup)(hi:X.N[i]?=some name)(U:iq X.env.scope name)(Ma:X.fn name=true\/X.env.scope.names.lookup name=some .local)
  (uE:params.defaults=[]) (m6:params.kw_defaults=[]) (ha:annTrees params none X.env=[]) (cN:closureFor scope X.env=pure clos) (BD:X.env.code=.ref c)
  (k:∀f c' o' doc ctv z',Le z.F z'.F->ab X (τ.set i (some (.ref f))) z'->z'.M=z.M->z'.F f=some (.dat (PySem.W.fnMade name (qualnameIn X.env name name) params body scope clos doc ((X.G.mg "__name__").getD .none) c' ctv))->z'.F c'=some (.dat o')->gV o' (qualnameIn X.env name name)->R .next z'.s) :
  W X (exec (.FunctionDef name params body [] none [] scope none name pos) X.env) R z.s:=by
 obtain⟨cd,⟨UW,ob,b1,b2,b3,UB,U5,V',Wa,Wb⟩,V9,tab⟩:=L;have hg:z.s.heap.Ns mainGlobals X.G.mg:=I.ok.mod.eI.keeps I.Uz;have C:PySem.W.CodeHd z.s.heap c T:=PySem.W.codeHd_of_K I.c8 cd;have hb:z.s.heap.BuiltinsAt X.G.mg T:=⟨UW,ob,b1,b3,UB,U5,I.c8 _ _ b2,V',Wa,Wb⟩;refine PySem.W.nestDef_K uE m6 ha ?_;generalize uF:qualnameIn X.env name name=qual at *;have hT:z.F T=some (.tab pos qual):=I.bs.x T _ tab;have fin:∀{c':Addr}{o':Obj}{doc ctv:Value}{z1:Z}(tk:Nat),Le z.F z1.F->ab X τ z1->z1.M=z.M->z1.F c'=some (.dat o')->gV o' qual ->
   W X (storeName X.env name (.ref z1.s.heap.objs.size)) (λ_ s=>R .next s) { z1.s with heap:=z1.s.heap.push (PySem.W.fnMade name qual params body scope clos doc ((X.G.mg "__name__").getD .none) c' ctv),toks:=tk }:=λ{c' o' doc ctv z1}tk l1 I1 Vm hc hr=>by
  have I2:=I1.lE (f:=.dat (PySem.W.fnMade name qual params body scope clos doc ((X.G.mg "__name__").getD .none) c' ctv)) (t:=tk) (λb o e=>Y7 _ e) (Y8 _) (Ze _ rfl);have l2:=Le.new (f:=.dat (PySem.W.fnMade name qual params body scope clos doc ((X.G.mg "__name__").getD .none) c' ctv)) (I1.hok.cU (Y8 z1.s.heap.objs.size));generalize Mb:PySem.W.fnMade name qual params body scope clos doc ((X.G.mg "__name__").getD .none) c' ctv=W5 at *;have rf:aa X.G (up z1.F z1.s.heap.objs.size (.dat W5)) (.ref z1.s.heap.objs.size) (.ref z1.s.heap.objs.size):=by rw[aa]
  refine oi (Q:=λ_ s=>R .next s) I2 hN hi U Ma rf λs' I3=>?_;have:=k z1.s.heap.objs.size c' o' doc ctv ⟨up z1.F z1.s.heap.objs.size (.dat W5),z1.M,s'⟩ (l1.tr l2) I3 Vm;rw[Mb]at this;exact this ak (l2 _ _ hc) hr
 rcases I.hok.tb T _ _ hT with hP |⟨c',o',hP,hc,hr⟩
 ·refine PySem.W.makeFunction_K cN I.ok.eI hg BD C hP trivial rfl V9 hb λc' ctv doc h' tk ext Mc f7 rec tab=>?_;obtain⟨o',ho,hr⟩:=L8 rec;obtain⟨l1,I1⟩:=I.uD (t:=tk) hT (λb z u e=>ext b u z e) (by simpa using tab) Mc ho hr;have q:=fin (z1:=⟨up z.F c' (.dat o'),z.M,{ z.s with heap:=h',toks:=tk }⟩) (doc:=doc) (ctv:=ctv) tk l1 I1 rfl ak hr;exact q
 ·refine PySem.W.makeFunction_hit (cv:=.ref c') cN I.ok.eI hg BD C hP ?_ ?_ hb λctv doc h' tk k hs=>?_
  ·simp [TriplesOk,rawInt]
  ·simp [codeAmong,rawInt]
  have q:=fin (z1:=⟨z.F,z.M,{ z.s with heap:=h',toks:=tk }⟩) (doc:=doc) (ctv:=ctv) tk Le.rfl (I.b8 k) rfl hc hr;exact q
end
end N
end
section
set_option maxHeartbeats 1000000
namespace N
open PySem L2
theorem aC{Q:QK}{d:D}{M:Mp}(h:Q d M):bU Q d M:=⟨M,d,.rfl,.rfl,h⟩
theorem bj{M:Mp}{p:Addr}{a b:MO}:up (up M p a) p b=up M p b:=funext λx=>by
 by_cases h:x=p
 ·rw[h,ak,ak]
 ·rw[av h,av h,av h]
noncomputable def MO.uG:MO->Bool
 |.own _=>false
 |_=>true
theorem hY{M:Mp}{p:Addr}{o:MO}(hp:M p=none)(ho:o.uG=true):bC M (up M p o):=⟨λa u e=>by rw[av (b7 e hp)];exact e,λa b e q=>by
 by_cases hb:b=p
 ·subst hb;rw[ak]at q;cases q;cases ho
 ·rw[av hb]at q;exact q⟩
theorem bC.tr{K L M:Mp}(a:bC K L)(b:bC L M):bC K M:=⟨λx o e=>b.sub x o (a.sub x o e),λx y e q=>a.own x y e (b.own x y (λz=>e (by
 cases h:K x with
 |none=>rfl
 |some o=>rw[a.sub x o h]at z;cases z)) q)⟩
theorem gC{Q:QK}{M:Mp}{p:Addr}{o:MO}{d:D}(hp:M p=none)(ho:o.uG=true)(h:Q d M):bU Q d (up M p o):=⟨M,d,hY hp ho,.rfl,h⟩
theorem aJ{c:Prop}[Decidable c]{a b:Prop}(h:c)(q:a):if c then a else b:=by rw[if_pos h];exact q
theorem ai{c:Prop}[Decidable c]{a b:Prop}(h:¬c)(q:b):if c then a else b:=by rw[if_neg h];exact q
theorem dQ{ok:Mp->Prop}{g:G}{tc:DT}{te:DE}{τ:St}{k:List D->Mp->Prop}(J:List D->List D->Mp->Prop)(fin:∀ ys M,J [] ys M->ok M/\ys.length<sizeLine/\k ys M)
  (step:∀x xs ys M,J (x::xs) ys M->ok M/\ys.length<sizeLine/\∀N:List D->Mp->Prop,(∀gi M',J xs gi M'->N gi M')->cJ g x τ M fun τ1 M0=>tc τ1 M0 λb M1=>if b=true then te τ1 M1 λy M2=>N (ys++[y]) M2 else N ys M1) :
  ∀xs ys M,J xs ys M->et ok g tc te τ k xs ys M
 |[],ys,M,h=>fin ys M h
 |x::xs,ys,M,h=>
  let ⟨h1,h2,h3⟩:=step x xs ys M h
  ⟨h1,h2,h3 (λys M=>et ok g tc te τ k xs ys M) λgi M' q=>dQ J fin step xs gi M' q⟩
theorem cZ{ok:Mp->Prop}{g:DG}{tb:DS}{e:En}(J:List D->St->Mp->Prop)(fin:∀ τ M,J [] τ M->ok M/\e.nx τ M)
  (step:∀x xs τ M,J (x::xs) τ M->ok M/\∀N:St->Mp->Prop,(∀ τ' M',J xs τ' M'->N τ' M')->g x τ M fun τ1 M1=>tb { e with nx:=N,ct:=N,Uz:=e.nx } τ1 M1):∀xs τ M,J xs τ M->fY ok g tb e xs τ M
 |[],τ,M,h=>fin τ M h
 |x::xs,τ,M,h=>
  let ⟨h1,h2⟩:=step x xs τ M h
  ⟨h1,h2 (fY ok g tb e xs) fun τ' M' q=>cZ J fin step xs τ' M' q⟩
theorem m7{α:Type}{ok:Mp->Prop}{g:G}{te:DE}{τ:St}{k:List D->Mp->Prop}{M:Mp}(f:α->D)(h:α->D)(xs:List α)(hok:ok M)(hl:xs.length<sizeLine)
  (one:∀x∈xs,∀N:D->Mp->Prop,N (h x) M->cJ g (f x) τ M fun τ1 M0=>te τ1 M0 N) (fin:k (xs.map h) M):et ok g oL te τ k (xs.map f) [] M:=by
 refine dQ (λrest ys M'=>M'=M/\∃a b,xs=a++b/\rest=b.map f/\ys=a.map h) ?_ ?_ _ _ _ ⟨rfl,[],xs,rfl,rfl,rfl⟩
 ·rintro ys M' ⟨rfl,a,b,e1,e2,rfl⟩;cases b with
  |cons x r=>cases e2
  |nil=>rw[Zu]at e1;subst e1;exact⟨hok,by rw[Y6];exact hl,fin⟩
 ·rintro x rest ys M' ⟨rfl,a,b,e1,e2,rfl⟩;cases b with
  |nil=>cases e2
  |cons y r=>
   cases e2;refine⟨hok,by rw[Y6];rw[e1,Zi]at hl;lia,λN hN=>?_⟩;exact one y (by rw[e1];simp) (λy M2=>N (a.map h++[y]) M2) (hN _ _ ⟨rfl,a++[y],r,by rw[e1];simp,rfl,by simp⟩)
end N
end
section
set_option maxHeartbeats 1000000
namespace N
open PySem PySem.Spec PyProof.Rows L2
structure uH(ps fr:List Str)(scope:Scope):Prop where
 kind:scope.kind=.function
 co:scope.isCoroutine=false
 rx:scope.isGenerator=false
 uJ:∀y∈scope.names,y.2≠.cell
 free:∀y∈scope.names,y.2=.free->y.1∈fr
 Md:∀x∈fr,scope.names.lookup x=some .free
 BE:∀x∈ps,scope.names.lookup x=some .local
theorem BF:∀{ps:List Str}{us:List Value}{i:Nat}{x:Str}{u:Value},ps.Nodup->ps[i]?=some x->us[i]?=some u->(ps.zip us).reverse.lookup x=some u
 |[],_,_,_,_,_,h,_=>by simp at h
 |_::_,[],_,_,_,_,_,h=>by simp at h
 |p::ps,w::us,0,x,u,nd,h1,h2=>by
  simp only[List.getElem?_cons_zero,aaf]at h1 h2;subst h1 h2;rw[aad,aaM,List.lookup_append];have:(ps.zip us).reverse.lookup p=none:=by
   rw[List.lookup_eq_none_iff];rintro⟨a,b⟩ iG;have ha:=(aa4 (List.mem_reverse.mp iG)).1;have:p≠a:=λz=>(List.nodup_cons.mp nd).1 (z ▸ ha);simpa using this
  rw[this];simp
 |p::ps,w::us,i+1,x,u,nd,h1,h2=>by
  rw[aad,aaM,List.lookup_append,BF (List.nodup_cons.mp nd).2 (by simpa using h1) (by simpa using h2)];rfl
noncomputable def uK(qual:Str)(scope:Scope)(clos:gB)(L f:Addr)(cd:Value):Env:=newEnv scope L mainGlobals clos (qual++".<locals>.") (some f) cd none builtinsNs
noncomputable def uL(G:Gx)(N:List Str)(qual:Str)(scope:Scope)(clos:gB)(f:Addr)(cd:Value)(A:Around)(outer:List Env)(s:Shared)(E:XQ):Cx where
 G:=G
 A:=A.deeper (uK qual scope clos s.heap.objs.size f cd)
 N:=N
 os:=s.os
 env:=uK qual scope clos s.heap.objs.size f cd
 outer:=outer
 stk:=uK qual scope clos s.heap.objs.size f cd::outer
 fn:=λ_=>false
 calm:=true
 x:=λx _ M=>E x M
structure m8(G:Gx)(clos:gB)(ws:List D):Prop where
 len:ws.length=clos.length
 bX:∀(i:Nat)x a w,clos[i]?=some (x,a)->ws[i]?=some w->∃o u,G.ex a=some (.pin o)/\o.data=.cell (some u)/\aa G G.ex w u
 nd:(clos.map (·.1)).Nodup
 inj:∀x y c,clos.lookup x=some c->clos.lookup y=some c->x=y
theorem uM:∀{clos:gB}{i:Nat}{p:Str×Addr},(clos.map (·.1)).Nodup->clos[i]?=some p->clos.lookup p.1=some p.2
 |[],_,_,_,h=>by simp at h
 |q::r,0,p,_,h=>by
  simp only[List.getElem?_cons_zero,aaf]at h;subst h;simp [List.lookup]
 |q::r,i+1,p,nd,h=>by
  rw[Zh,List.nodup_cons]at nd;have h':r[i]?=some p:=by simpa using h
  have ne:(p.1 == q.1)=false:=by
   have:p.1≠q.1:=λz=>nd.1 (by rw[<- z];exact List.mem_map.mpr ⟨p,Z4 h',rfl⟩);simpa using this
  show (match p.1 == q.1 with |true=>some q.2 |false=>r.lookup p.1)=some p.2
  rw[ne];exact uM nd.2 h'
theorem m8.cell{G:Gx}{clos:gB}{ws:List D}(h:m8 G clos ws){x:Str}{a:Addr}(e:clos.lookup x=some a):∃o u,G.ex a=some (.pin o)/\o.data=.cell (some u):=by
 obtain⟨i,hi,ei⟩:=List.mem_iff_getElem.mp (PySem.mem_of_lookup e);obtain⟨o,u,h1,h2,_⟩:=h.bX i x a (ws[i]'(by rw[h.len];exact hi)) (by rw[Y5 hi,ei]) (Y5 _);exact⟨o,u,h1,h2⟩
theorem Me{G:Gx}{ps ls:List Str}{qual:Str}{scope:Scope}{clos:gB}{f:Addr}{cd:Value}{A:Around}{outer:List Env}{z:Z}{E:XQ}{us:List Value}{ds ws:List D}{h':Heap}{tk:Nat}
  (S:uH ps (clos.map (·.1)) scope) (hd:A.handled=none) (e0:dV G A outer z) (hl:ds.length=ps.length) (Mf:ps.Nodup) (r:af G z.F ds us) (UD:m8 G clos ws)
  (dK:h'.Ns z.s.heap.objs.size (λx=>(ps.zip us).reverse.lookup x)) (fJ:aaN z.s.heap.objs.size (z.s.heap.push { cls:=.type "frame",data:=.dict #[] }) h') :
  ab (uL G ((ps++clos.map (·.1))++ls) qual scope clos f cd A outer z.s E) ((ds.map some++ws.map some)++ls.map λ_=>none) ⟨z.F,z.M,{ z.s with heap:=h',toks:=tk }⟩:=by
 have hk:∀b o,z.s.heap.get? b=some o->h'.get? b=some o:=λb o e=>by
  rw[fJ.2 b (Zw (Zv e))];exact Y7 _ e
 have pin:∀{a o},G.ex a=some (.pin o)->z.F a=some (.pin o)/\h'.get? a=some o:=λ{a o}e=>⟨e0.bs.x a _ e,hk _ _ (e0.hok.fz a _ (e0.bs.x a _ e))⟩;refine⟨⟨e0.mod,S.kind,rfl,rfl,UD.inj,λy hy=>?_,λ_=>hd,Around.frames_deeper e0.frames,.inr ⟨rfl,rfl⟩⟩,e0.bs,rfl,e0.bare,e0.cp,⟨_,dK,λi y v h1 h2 h3=>?_⟩,λy c h=>?_,⟨e0.hok.cU (Y8 _),e0.hok.dk (Y8 _)⟩,e0.hok.keep λb _ o q=>hk b o q,?_⟩
 ·have hy:scope.names.lookup y=some .cell\/scope.names.lookup y=some .free:=hy;rcases hy with hy |hy
  ·exact absurd rfl (S.uJ _ (PySem.mem_of_lookup hy))
  ·obtain⟨p,hp,e⟩:=List.mem_map.mp (S.free _ (PySem.mem_of_lookup hy) rfl);obtain⟨i,hi,ei⟩:=List.mem_iff_getElem.mp hp;have:=uM UD.nd (Y5 hi);rw[ei,e]at this;exact⟨_,this⟩
 ·have h1:((ps++clos.map (·.1))++ls)[i]?=some y:=h1;have YW:(ps++clos.map (·.1)).length=(ds.map some++ws.map some).length:=by rw[Zi,Zi,Y6,Y6,Y6,hl,UD.len]
  have Mh:i<(ds.map some++ws.map some).length:=by
   refine Nat.lt_of_not_le λz=>?_;rw[Zy z,Zr]at h2;cases e:ls[i-(ds.map some++ws.map some).length]? with
   |none=>rw[e]at h2;cases h2
   |some a=>rw[e]at h2;cases h2
  rw[ZH (by lia)]at h1;rw[ZH Mh]at h2;by_cases hi:i<ps.length
  ·rw[ZH hi]at h1;rw[ZH (by rw[Y6];lia),Zr]at h2;cases e:ds[i]? with
   |none=>rw[e]at h2;cases h2
   |some a=>
    rw[e]at h2;cases h2;obtain⟨u,hu,rv⟩:=r.get e;exact⟨u,rv,.inl ⟨S.BE y (Z4 h1),BF Mf h1 hu⟩⟩
  ·rw[Zy (by lia),Zr]at h1;rw[Zy (by rw[Y6];lia),Zr,Y6,hl]at h2;cases e:ws[i-ps.length]? with
   |none=>rw[e]at h2;cases h2
   |some a=>
    rw[e]at h2;cases h2;cases e1:clos[i-ps.length]? with
    |none=>rw[e1]at h1;cases h1
    |some p=>
     rw[e1]at h1;cases h1;obtain⟨o,u,q1,q2,q3⟩:=UD.bX _ p.1 p.2 v e1 e;have lk:=uM UD.nd e1;exact⟨u,q3.up e0.bs.x.d,.inr ⟨.inr (S.Md _ (List.mem_map.mpr ⟨p,Z4 e1,rfl⟩)),p.2,lk,_,(pin q1).2,q2⟩⟩
 ·obtain⟨o,u,q1,q2⟩:=UD.cell (show clos.lookup y=some c from h);obtain⟨p1,p2⟩:=pin q1;refine⟨⟨_,o,p2,q2⟩,?_,.inr ⟨rfl,o,p1⟩⟩;cases e:z.M c with
  |none=>rfl
  |some m=>have:=(e0.hok.ob c m e).1;rw[p1]at this;cases this
 ·show _=((ps++clos.map (·.1))++ls).length;rw[Zi,Zi,Zi,Zi,Y6,Y6,Y6,Y6,hl,UD.len]
theorem Mi{G:Gx}{z:Z}{c:Addr}{o:Obj}{q:Str}(bs:Bs G z.F)(ok:ay G z.F z.M z.s.heap)(h:G.ex c=some (.dat o))(r:gV o q):z.s.heap.CodeRec (.ref c) q:=by
 obtain⟨vs,t,h1,h2⟩:=r;exact⟨c,o,vs,t,rfl,ok.fz c _ (bs.x c _ h),h1,h2⟩
theorem Mj{G:Gx}{m:Nm}{W:Wd}{k n:Nat}{f c:Addr}{o':Obj}{name qual:Str}{params:Arguments}{body:List Stmt}{scope:Scope}{clos:gB}{doc pm ctv:Value}{ps ls:List Str}{ws:List D}{sp:Sp}{b:B}
  (hf:G.ex f=some (.dat (PySem.W.fnMade name qual params body scope clos doc pm c ctv))) (hc:G.ex c=some (.dat o')) (hr:gV o' qual) (S:uH ps (clos.map (·.1)) scope) (UD:m8 G clos ws) (nd:((ps++clos.map (·.1))++ls).Nodup) (En:pI m W k G)
  (Ml:aQ m n ((ps++clos.map (·.1))++ls) scope body=b)
  (h:∀ds M Q E,sp ds M Q E->ds.length=ps.length/\b.w W m.aq (cx Q) ((ds.map some++ws.map some)++ls.map λ_=>none) M):bb G (k+1) f (PySem.W.fnX name qual params body scope clos .none .none doc pm none (.ref c) ctv) ps sp:=by
 refine⟨λds M Q E z=>(h ds M Q E z).1,λA outer z args us ds Q E room e0 cP r hs=>?_⟩;obtain⟨hl,hq⟩:=h _ _ _ _ hs;have ho:z.s.heap.get? f=some _:=e0.hok.fz f _ (e0.bs.x f _ hf);refine aaJ (R:=CR G z (bU Q) E) ?_ λr s q=>q.ret;refine codeAny_call_function room.depth ho rfl S.co S.rx rfl (Mi e0.bs e0.hok hc hr) (cP _ _ _ _ ?_);refine wpAny_newFunctionEnv S.uJ (λy hy=>S.BE _ (aa4 (show (y.1,y.2)∈ps.zip us from hy)).1) (λh' dK fJ=>?_) S.kind;have hk:∀b o,z.s.heap.get? b=some o->h'.get? b=some o:=λb o e=>by
  rw[fJ.2 b (Zw (Zv e))];exact Y7 _ e
 refine⟨(e0.mod.lG.keeps e0.Uz).keeps hk,codeAny_func ?_⟩;have I:=Me (ls:=ls) (qual:=qual) (f:=f) (cd:=.ref c) (E:=E) (tk:=z.s.toks+(ps.zip us).length) S room.hd e0 hl (List.nodup_append.mp (List.nodup_append.mp nd).1).1 r UD dK fJ;have C:br m W k ((ps++clos.map (·.1))++ls) scope (uL G ((ps++clos.map (·.1))++ls) qual scope clos f (.ref c) A outer z.s E):=⟨rfl,rfl,nd,rfl,room.deeper _,En⟩;have qS:∀y,loc scope y=true->(uL G ((ps++clos.map (·.1))++ls) qual scope clos f (.ref c) A outer z.s E).fn y=true\/scope.names.lookup y=some .local:=λy hy=>by
  rcases pH hy with e |e
  ·exact .inr e
  ·exact absurd rfl (S.uJ _ (PySem.mem_of_lookup e))
 rw[<- Ml]at hq;refine aa1 (je (uw C qS n) body _ _ _ (λfl s'=>match fl with |.ret u=>CR G z (bU Q) E (.ok (.ret u)) s' |.next=>CR G z (bU Q) E (.ok (.ret .none)) s' |_=>False) I hq
  ⟨fun τ z1 l J q=>⟨.az,z1,⟨rfl,l,J.hok,J.os,J.bare⟩,by rw[aa],q⟩,λd τ z1 u l J rd q=>⟨d,z1,⟨rfl,l,J.hok,J.os,J.bare⟩,rd,q⟩,λ_ _ _ _ q=>q,λ_ _ _ _ q=>q⟩) (λfl s' hs=>?_) λe s' hs=>hs.no.elim
 cases fl <;> first |exact hs |exact False.elim hs
end N
end
section
set_option maxHeartbeats 1000000
namespace N
open PySem PySem.Spec PyProof.Rows L2
noncomputable def Wo.at(w:Wo)(e:Fz):Wo:={ w with G:={ w.G with ex:=e } }
theorem Wo.Ok.at{w:Wo}(O:w.Ok)(e:Fz):(w.at e).Ok where
 df:=λi d h=>let ⟨f,fd,h1,h2,h3⟩:=O.df i d h;⟨f,fd,h1,h2,h3⟩
 gv:=λi x h=>let ⟨u,h1,h2⟩:=O.gv i x h;⟨u,h1,λF hF=>(h2 F hF).xe e⟩
 bl:=O.bl
 fl:=O.fl
 mt:=O.mt
 cl:=O.cl
section
variable{X:Cx}{τ:St}{z:Z}
theorem Mm{G:Gx}{k:Nat}{f:Addr}{fd:FuncData}{ps:List Str}{sp:Sp}{cls:Value}(hf:G.ex f=some (.dat { cls:=cls,data:=.func fd }))(hc:cls=.type "function")(F:bb G k f fd ps sp)(hb:∀K,bS K fd ps []):eU G k f sp:=by
 subst hc;refine⟨fd,ps,[(f,{ cls:=.type "function",data:=.func fd })],F,by simp [PySem.W.keepIn,List.lookup],hb _,λz _ bs ok a o q=>?_⟩;by_cases y:a=f
 ·subst y;simp [List.lookup]at q;rw[<- q];exact ok.fz a _ (bs.x a _ hf)
 ·have:(a == f)=false:=by simpa using y
  simp [List.lookup,this]at q
theorem Mn{clos:gB}{ws:List D}(I:ab X τ z)(len:ws.length=clos.length)(nd:(clos.map (·.1)).Nodup)(h:∀(i:Nat)x a w,clos[i]?=some (x,a)->ws[i]?=some w->X.env.cells.lookup x=some a/\X.fn x=true/\X.env.scope.names.lookup x=some .cell/\∃ j:Nat,X.N[j]?=some x/\τ[j]?=some (some w)):
  m8 { X.G with ex:=aT z.F (X.aR z.s.heap) } clos ws:=by
 have cl:∀x c,clos.lookup x=some c->X.env.cells.lookup x=some c:=λx c e=>by
  obtain⟨i,hi,ei⟩:=List.mem_iff_getElem.mp (PySem.mem_of_lookup e);exact (h i x c (ws[i]'(by rw[len];exact hi)) (by rw[Y5 hi,ei]) (Y5 _)).1
 refine⟨len,λi x a w e1 e2=>?_,nd,λx y c e1 e2=>I.ok.inj x y c (cl _ _ e1) (cl _ _ e2)⟩;obtain⟨h1,h2,h3,j,h4,h5⟩:=h i x a w e1 e2;obtain⟨m,hn,hl⟩:=I.loc;obtain⟨u,r,k⟩:=hl j x w h4 h5 (.inr (.inl h3));rcases k with k |⟨_,c,e,o,y1,y2⟩
 ·have q:X.env.scope.names.lookup x=some .local:=k.1;rw[h3]at q;cases q
 ·rw[h1]at e;cases e;refine⟨o,u,?_,y2,(r.up I.dC.d).xe _⟩;show aT z.F (X.aR z.s.heap) a=_;refine dz ?_;unfold Cx.aR;rw[if_neg (I.jx h1),if_pos ⟨x,h2,h1⟩,y1];rfl
end
end N
end
section
set_option maxHeartbeats 1000000
namespace N
open PySem PySem.Spec PyProof.Rows L2
theorem Mo{w:Wo}(O:w.Ok){nm:Nm}(hn:w.nm=nm){k kp n np j ci:Nat}{ns kI ls:List Str}{es:List Expr}{e0:Expr}{params:Arguments}{body:List Stmt}{scope:Scope}{name x g:Str}{VI BG Vo rp:Pos}{b:B}{t:L}{sp:Sp}{m9:D->Sp}(i Vp:Nat)(d:Ds)(hd:w.ds[i]?=some d)
  (dX:aH d.st=[.FunctionDef name params body [] none [] scope none name BG,.Return (some (.Call (.Name g VI) (e0::es) [] Vo)) rp])
  (Yd:∀f fd q,eo w.G.K q q d.st f fd->w.G.mg d.x=some (.ref f)->∃c T,fd.code=.ref c/\hW w.G c T BG (q++".<locals>."++name))
  (l:bD w) (hl:l.Ok k) (S:aO ns d.ps (ao d.st)) (hj:ns[j]?=some name) (Mq:loc (ao d.st) name=true) (Mr:ci≠j) (Ms:ns[ci]?=some x) (BH:ci<d.ps.length) (Mu:(ao d.st).names.lookup x=some .cell)
  (uF:∀q L f cd,qualnameIn (envOfC q (ao d.st) L f cd) name name=q++".<locals>."++name)
  (cN:∀q L f cd,closureFor scope (envOfC q (ao d.st) L f cd)=pure [(x,L+1)]) (Mw:∀L:Addr,(cellsFrom (L+1) (ao d.st).names []).lookup x=some (L+1)) (uE:params.defaults=[]) (m6:params.kw_defaults=[]) (ha:∀env,annTrees params none env=[])
  (hg:bp (ao d.st) g=true) (dL:(g == ("__debug__" : Str))=false) (Mx:nm.px[Vp]?=some g) (dK:bB (e0::es)=true) (has:L.of ((e0::es).map (aU nm n ns (ao d.st)))=t)
  (SL:uH kI [x] scope) (My:((kI++[x])++ls).Nodup) (Mz:∀q clos doc pm c ctv K,bS K (PySem.W.fnX name q params body scope clos .none .none doc pm none c ctv) kI []) (fK:aQ nm np ((kI++[x])++ls) scope body=b)
  (Ye:∀e v,Le w.G.ex e->∃ll:bD (w.at e),ll.Ok kp/\∀ds M Q E,m9 v ds M Q E->ds.length=kI.length/\b.w ll.wd nm.aq (cx Q) ((ds.map some++[some v])++ls.map λ_=>none) M)
  (H:∀ds M Q E,sp ds M Q E->ds.length=d.ps.length/\∀f,t.w l.wd nm.aq ((start ns ds).set j (some (.ref f))) M λvs M1=>∀e v,Le w.G.ex e->ds[ci]?=some v->eU (w.at e).G (kp+1) f (m9 v)->∃kJ,FO (w.at e) Vp k kJ/\kJ vs M1 (bU Q) X0):FO w i (k+1) sp:=by
 subst hn;obtain⟨f,fd,F⟩:=O.df i d hd;obtain⟨q,Fn⟩:=F.fn;obtain⟨c,T,hc,Yg⟩:=Yd f fd q Fn F.mg;obtain⟨oc,od,kV,doc,pm,Ux,a9,ct,cL,rfl,lk,eg⟩:=Fn.ex;obtain rfl:a9=.ref c:=hc;have key:bb w.G (k+1) f (PySem.W.fnOf q q (eS d.st) (aH d.st) (ao d.st) .none kV doc pm Ux (.ref c) ct) d.ps λds M R E=>∃Q,R=bU Q/\sp ds M Q E:=by
  refine x' lk eg S (λds M R E ⟨Q,_,z⟩=>(H ds M Q E z).1) λA outer s M ds R E hr ⟨Q,e,z⟩=>?_;subst e;obtain⟨hlen,hq⟩:=H ds M Q E z;have C:br w.nm l.wd k ns (ao d.st) (el w.G ns q (ao d.st) f (.ref c) A outer s E):=⟨rfl,rfl,S.nd,rfl,hr,hl.env O⟩;obtain⟨v,hv⟩:∃v,ds[ci]?=some v:=⟨_,Y5 (by rw[hlen];exact BH)⟩;rw[dX];refine⟨λen τ M=>τ[ci]?=some (some v)/\∀f,t.w l.wd w.nm.aq (τ.set j (some (.ref f))) M λvs M1=>∀e v,Le w.G.ex e->ds[ci]?=some v->eU (w.at e).G (kp+1) f (m9 v)->∃kJ,FO (w.at e) Vp k kJ/\kJ vs M1 en.rt X0,?_,?_,hq⟩
  case refine_2=>
   unfold start;rw[ZH (by rw[Y6,hlen];exact BH),Zr,hv];rfl
  intro τ z en R I hq KK;obtain⟨hτ,hq⟩:=hq;refine wpAny_execs_cons (L9 (clos:=[(x,s.heap.objs.size+1)]) I (by rw[show qualnameIn (el w.G ns q (ao d.st) f (.ref c) A outer s E).env name name=_ from uF _ _ _ _];exact Yg) S.nd hj (pH Mq) (.inl rfl) uE m6 (ha _) (cN _ _ _ _) rfl λUL c' o' BI ctv z1 l1 I1 Vm h1 h2 h3=>?_);have BJ:=Mx;rw[show w.nm.px=w.ds.map (·.x) from rfl,Zr]at BJ;obtain⟨UM,BK,rfl⟩:=Option.map_eq_some_iff.mp BJ;obtain⟨YX,Uk,Fg⟩:=O.df Vp UM BK;have pa:=kF (X:=el w.G ns q (ao d.st) f (.ref c) A outer s E) (f:=aU w.nm n ns (ao d.st)) (W:=l.wd) (m:=w.nm) dK λe _=>(pK n C e).e;rw[has]at pa;have h':(dH e0 && bB es)=true:=dK;rw[Zf]at h';have pr:∀Rf:Flow->Shared->Prop,(∀u s,R (.ret u) s->Rf (.ret u) s)->W (el w.G ns q (ao d.st) f (.ref c) A outer s E) (exec (.Return (some (.Call (.Name UM.x VI) (e0::es) [] Vo)) rp) (el w.G ns q (ao d.st) f (.ref c) A outer s E).env) Rf z1.s:=λRf MA=>by
   refine wpAny_Return_some ?_;refine Z7 (jz I1 (C.bp hg) Fg.mg dL ?_);refine PySem.W.callWith_K (h₀:=w.G.base) I1.ok.mod.gW Fg.kp (pa Vo _ z1 _ _ I1 (by rw[Vm];exact hq UL) λvs z2 us l2 I2 r2 q2=>⟨I2.c8,?_⟩) (cW h'.1) (fH h'.2);have lx:Le w.G.ex (aT z2.F ((el w.G ns q (ao d.st) f (.ref c) A outer s E).aR z2.s.heap)):=I2.bs.x.tr I2.dC;have hh:eU (w.at (aT z2.F ((el w.G ns q (ao d.st) f (.ref c) A outer s E).aR z2.s.heap))).G (kp+1) UL (m9 v):=by
    obtain⟨ll,MB,hb⟩:=Ye _ v lx;have mi:=I2.dC UL _ (l2 UL _ h1);rw[show qualnameIn (el w.G ns q (ao d.st) f (.ref c) A outer s E).env name name=_ from uF _ _ _ _]at mi h3;have UD:=Mn (clos:=[(x,s.heap.objs.size+1)]) (ws:=[v]) I2 rfl (by simp) λi y a u e1 e2=>by
     cases i with
     |succ i=>cases e1
     |zero=>
      cases e1;cases e2;exact⟨Mw _,rfl,Mu,ci,Ms,by rw[List.getElem?_set_ne (ZO Mr)];exact hτ⟩
    exact Mm mi rfl (Mj (m:=w.nm) (W:=ll.wd) (k:=kp) (n:=np) mi (I2.dC c' _ (l2 c' _ h2)) h3 SL UD My (MB.env (O.at _)) fK hb) λK=>Mz _ _ _ _ _ _ K
   obtain⟨kJ,Yh,hs⟩:=q2 _ v lx hv hh;obtain⟨MC,MD,Ul,e1,e2,e3⟩:=Yh;have ka:w.ds[Vp]?=some MC:=e1;rw[BK]at ka;cases ka;have e4:w.G.mg UM.x=some (.ref MD):=e2.mg;rw[Fg.mg]at e4;cases e4;exact rK (x:=aT z2.F ((el w.G ns q (ao d.st) f (.ref c) A outer s E).aR z2.s.heap)) (a':=[]) (ds:=[]) (Q:=en.rt) e3 C.room e2.b jd hO I2 Le.rfl I2.c8 r2 (by rw[Zu];exact hs) λd z3 u l3 I3 r3 q3=>MA _ _ (KK.rt d _ z3 u (l1.tr (l2.tr l3)) I3 r3 q3)
  exact wpAny_execs_cons (pr _ λu s h=>h)
 refine⟨d,f,_,hd,F,⟨λds M Q E z=>(H ds M Q E z).1,λA outer z args us ds Q E hr e0 hb r hs=>aaJ (key.eH A outer z args us ds (bU Q) E hr e0 hb r ⟨Q,rfl,hs⟩) λr s q=>q.ret⟩⟩
end N
end
section
set_option maxHeartbeats 1000000
namespace N
open PySem PySem.Spec PyProof.Rows L2
set_option genInjectivity false
set_option genSizeOfSpec false
structure BL where
 name:Str
 params:Arguments
 body:List Stmt
 scope:Scope
 np:Pos
 g:Str
 VI:Pos
 es:List Expr
 Vo:Pos
 rp:Pos
noncomputable def ME:Stmt->Option (Option Expr×Pos)
 |.Return e p=>some (e,p)
 |_=>none
noncomputable def MF:Expr->Option (Expr×List Expr×Pos)
 |.Call f as _ p=>some (f,as,p)
 |_=>none
noncomputable def MG:Stmt->Option (Str×Arguments×List Stmt×Scope×Pos)
 |.FunctionDef n a b _ _ _ s _ _ p=>some (n,a,b,s,p)
 |_=>none
noncomputable def MJ(b:List Stmt):Option BL:=b.head?.bind λd=>(MG d).bind λq=>b.getLast?.bind λs=>(ME s).bind λr=>r.1.bind λe=>(MF e).bind λc=>(pF c.1).map λg=>
 ⟨q.1,q.2.1,q.2.2.1,q.2.2.2.1,q.2.2.2.2,g.1,g.2,c.2.1,c.2.2,r.2⟩
end N
end
section
namespace NQ
open PySem N
open L2
inductive Kd where
 |num |word
 |row (fs:List (Str×Kd))
 |ag (k:Kd)
mutual
noncomputable def kD:Kd->D
 |.num=>.tup [.str "num"]
 |.word=>.tup [.str "word"]
 |.row fs=>.tup [.str "row",.tup (cg fs)]
 |.ag k=>.tup [.str "bag",kD k]
noncomputable def cg:List (Str×Kd)->List D
 |[]=>[]
 |(f,k)::r=>.tup [.str f,kD k]::cg r
end
inductive Qn where
 |num (i:Int) |word (s:Str) |var (x:Str) |tab (x:Str) |none (k:Kd)
 |row (fs:List (Str×Qn))
 |at (f:Str) (q:Qn)
 |add (a b:Qn) |mul (a b:Qn) |one (q:Qn) |both (a b:Qn)
 |times (i:Int) (q:Qn)
 |for (x:Str) (a b:Qn) |aZ (c q:Qn) |let (x:Str) (a b:Qn)
 |same (a b:Qn) |under (a b:Qn) |and (a b:Qn) |or (a b:Qn) |not (a:Qn)
mutual
noncomputable def qD:Qn->D
 |.num i=>.tup [.str "num",.int i]
 |.word s=>.tup [.str "word",.str s]
 |.var s=>.tup [.str "var",.str s]
 |.tab s=>.tup [.str "table",.str s]
 |.none k=>.tup [.str "none",kD k]
 |.row fs=>.tup [.str "row",.tup (bz fs)]
 |.at f q=>.tup [.str "at",.str f,qD q]
 |.add a b=>.tup [.str "add",qD a,qD b]
 |.mul a b=>.tup [.str "mul",qD a,qD b]
 |.one a=>.tup [.str "one",qD a]
 |.both a b=>.tup [.str "both",qD a,qD b]
 |.times i a=>.tup [.str "times",.int i,qD a]
 |.for x a b=>.tup [.str "for",.str x,qD a,qD b]
 |.aZ a b=>.tup [.str "when",qD a,qD b]
 |.let x a b=>.tup [.str "let",.str x,qD a,qD b]
 |.same a b=>.tup [.str "same",qD a,qD b]
 |.under a b=>.tup [.str "under",qD a,qD b]
 |.and a b=>.tup [.str "and",qD a,qD b]
 |.or a b=>.tup [.str "or",qD a,qD b]
 |.not a=>.tup [.str "not",qD a]
noncomputable def bz:List (Str×Qn)->List D
 |[]=>[]
 |(f,q)::r=>.tup [.str f,qD q]::bz r
end
mutual
noncomputable def nq:Qn->Nat
 |.num _=>1 |.word _=>1 |.var _=>1 |.tab _=>1 |.none _=>1
 |.row fs=>1+cy fs
 |.at _ q=>1+nq q
 |.add a b=>1+nq a+nq b
 |.mul a b=>1+nq a+nq b
 |.one a=>1+nq a
 |.both a b=>1+nq a+nq b
 |.times _ a=>1+nq a
 |.for _ a b=>1+nq a+nq b
 |.aZ a b=>1+nq a+nq b
 |.let _ a b=>1+nq a+nq b
 |.same a b=>1+nq a+nq b
 |.under a b=>1+nq a+nq b
 |.and a b=>1+nq a+nq b
 |.or a b=>1+nq a+nq b
 |.not a=>1+nq a
noncomputable def cy:List (Str×Qn)->Nat
 |[]=>0
 |(_,q)::r=>nq q+cy r
end
mutual
noncomputable def kz:Kd->Nat
 |.num=>1
 |.word=>1
 |.row fs=>BM fs+1
 |.ag k=>kz k+1
noncomputable def BM:List (Str×Kd)->Nat
 |[]=>0
 |(_,k)::r=>kz k+BM r+1
end
abbrev Sc:=List (Str×Kd)
noncomputable def lk(x:Str):Sc->Option Kd
 |[]=>.none
 |(y,k)::r=>if x=y then some k else lk x r
mutual
noncomputable def kd:Kd->Nat
 |.num=>1
 |.word=>1
 |.row fs=>cj fs+3
 |.ag k=>kd k+1
noncomputable def cj:List (Str×Kd)->Nat
 |[]=>0
 |(_,k)::r=>max (kd k) (cj r)
end
mutual
noncomputable def hZ:Kd->Bool
 |.num=>true
 |.word=>true
 |.row fs=>pN fs
 |.ag k=>hZ k
noncomputable def pN:List (Str×Kd)->Bool
 |[]=>true
 |(f,k)::r=>decide (f≠"table") && hZ k && pN r
end
mutual
inductive Ty(S:Str->Option Kd):Sc->Qn->Kd->Prop
 |num {G i}:Ty S G (.num i) .num
 |word {G s}:Ty S G (.word s) .word
 |var {G x k}:lk x G=some k->Ty S G (.var x) k
 |tab {G x k}:S x=some k->Ty S G (.tab x) (.ag k)
 |none {G k}:hZ k=true->kz k<900->Ty S G (.none k) (.ag k)
 |row {G fs ks}:fs.length<100->("table" : Str) ∉ ks.map (·.1)->c0 S G fs ks->Ty S G (.row fs) (.row ks)
 |at {G f q ks k}:(ks.map (·.1)).Nodup/\kd (.row ks)<=20->Ty S G q (.row ks)->lk f ks=some k->Ty S G (.at f q) k
 |add {G a b}:Ty S G a .num->Ty S G b .num->Ty S G (.add a b) .num
 |mul {G a b}:Ty S G a .num->Ty S G b .num->Ty S G (.mul a b) .num
 |one {G q k}:Ty S G q k->Ty S G (.one q) (.ag k)
 |both {G a b k}:kz k<900->Ty S G a (.ag k)->Ty S G b (.ag k)->Ty S G (.both a b) (.ag k)
 |times {G i a k}:Ty S G a (.ag k)->Ty S G (.times i a) (.ag k)
 |for {G x a b k l}:kd l<=20/\kz l<900->Ty S G a (.ag l)->Ty S ((x,l)::G) b (.ag k)->Ty S G (.for x a b) (.ag k)
 |aZ {G c a k}:b4 S G c->Ty S G a (.ag k)->Ty S G (.aZ c a) (.ag k)
 |let {G x a b k l}:kd l<=20->Ty S G a l->Ty S ((x,l)::G) b k->Ty S G (.let x a b) k
inductive c0(S:Str->Option Kd):Sc->List (Str×Qn)->List (Str×Kd)->Prop
 |nil {G}:c0 S G [] []
 |cons {G f q k r s}:Ty S G q k->c0 S G r s->c0 S G ((f,q)::r) ((f,k)::s)
inductive b4(S:Str->Option Kd):Sc->Qn->Prop
 |gD {G a b}:Ty S G a .num->Ty S G b .num->b4 S G (.same a b)
 |gE {G a b}:Ty S G a .word->Ty S G b .word->b4 S G (.same a b)
 |under {G a b}:Ty S G a .num->Ty S G b .num->b4 S G (.under a b)
 |and {G a b}:b4 S G a->b4 S G b->b4 S G (.and a b)
 |or {G a b}:b4 S G a->b4 S G b->b4 S G (.or a b)
 |not {G a}:b4 S G a->b4 S G (.not a)
end
mutual
theorem jf:∀k,aF (kD k)=true
 |.num=>rfl
 |.word=>rfl
 |.row fs=>by rw[kD,aF,aP,aP,aP,aF,aF,BN fs];rfl
 |.ag k=>by rw[kD,aF,aP,aP,aP,aF,jf k];rfl
theorem BN:∀fs,aP (cg fs)=true
 |[]=>rfl
 |(f,k)::r=>by rw[cg,aP,aF,aP,aP,aP,aF,jf k,BN r];rfl
end
mutual
theorem pO:∀k,aI (kD k)<=kd k
 |.num=>by rw[kD,kd];decide
 |.word=>by rw[kD,kd];decide
 |.row fs=>by have:=BO fs;rw[kD,aI,aW,aW,aW,aI,aI,kd];lia
 |.ag k=>by have:=pO k;rw[kD,aI,aW,aW,aW,aI,kd];lia
theorem BO:∀fs,aW (cg fs)<=cj fs+1
 |[]=>by rw[cg,aW];lia
 |(f,k)::r=>by have:=pO k;have:=BO r;rw[cg,aW,aI,aW,aW,aW,aI,cj];lia
end
theorem e9{a b:Str}{xs ys:List D}(h:aw (.tup (.str a::xs)) (.tup (.str b::ys))=true):a=b/\bo xs ys=true:=by
 simp only[aw,bo,rg,lP,Option.any_some,Zf,beq_iff_eq,aaf]at h;exact⟨h.1.symm,h.2⟩
mutual
theorem pP:∀{a b:Kd},aw (kD a) (kD b)=true->a=b
 |.num,b,h=>by cases b <;> first |rfl |(exact absurd (e9 h).1 (by decide +kernel))
 |.word,b,h=>by cases b <;> first |rfl |(exact absurd (e9 h).1 (by decide +kernel))
 |.row fs,b,h=>by
  cases b with
  |row gs=>
   have h:=(e9 h).2;simp only[bo,aw,rg,Option.any_some,Zf]at h;rw[BP h.1]
  |num=>exact absurd (e9 h).1 (by decide +kernel)
  |word=>exact absurd (e9 h).1 (by decide +kernel)
  |ag k=>exact absurd (e9 h).1 (by decide +kernel)
 |.ag k,b,h=>by
  cases b with
  |ag l=>
   have h:=(e9 h).2;simp only[bo,Zf]at h;rw[pP h.1]
  |num=>exact absurd (e9 h).1 (by decide +kernel)
  |word=>exact absurd (e9 h).1 (by decide +kernel)
  |row k=>exact absurd (e9 h).1 (by decide +kernel)
theorem BP:∀{a b:List (Str×Kd)},bo (cg a) (cg b)=true->a=b
 |[],[],_=>rfl
 |[],(_,_)::_,h=>by simp [cg,bo]at h
 |(_,_)::_,[],h=>by simp [cg,bo]at h
 |(f,k)::r,(g,l)::s,h=>by
  rw[cg,cg,bo,Zf]at h;obtain⟨e,h1⟩:=e9 h.1;simp only[bo,Zf]at h1;rw[e,pP h1.1,BP h.2]
end
noncomputable instance:DecidableEq Kd:=λa b=>decidable_of_iff (aw (kD a) (kD b)=true) ⟨pP,λe=>by rw[e];exact lQ _ (jf b)⟩
theorem MK{a b:Kd}:aw (kD a) (kD b)=decide (a=b):=by
 by_cases h:a=b
 ·subst h;rw[decide_eq_true rfl];exact lQ _ (jf a)
 ·rw[decide_eq_false h];cases z:aw (kD a) (kD b) with
  |false=>rfl
  |true=>exact absurd (pP z) h
theorem pQ{k:Kd}{M:Mp}:b9 (kD k) M=kD k:=by cases k <;> rfl
theorem kK{n:Bool}{a b:Kd}{M:Mp}{k:Bool->Prop}(h:kd a<=50)(q:k (decide (a=b))):fF n (kD a) (kD b) M k:=by
 refine .mk ?_ ?_
 ·rw[pQ,pQ];exact .inl ⟨jf a,jf b,Y9 (pO a) (by lia)⟩
 ·rw[pQ,pQ,MK];exact q
theorem aj{n:Bool}{a b:Str}{M:Mp}{k:Bool->Prop}(q:k (decide (a=b))):fF n (.str a) (.str b) M k:=by
 refine .mk (.inl ⟨rfl,rfl,Zj _⟩) ?_;have:aw (.str a) (.str b)=decide (a=b):=by
  show (some b == some a)=decide (a=b);by_cases h:a=b
  ·subst h;simp
  ·rw[decide_eq_false h];exact beq_eq_false_iff_ne.mpr λz=>h (ZJ z).symm
 exact this ▸ q
theorem cz{n:Bool}{a b:Int}{M:Mp}{k:Bool->Prop}(q:k (decide (a=b))):fF n (.int a) (.int b) M k:=by
 refine .mk (.inl ⟨rfl,rfl,Zj _⟩) ?_;have:aw (.int a) (.int b)=decide (a=b):=by
  show (some b == some a)=decide (a=b);by_cases h:a=b
  ·subst h;simp
  ·rw[decide_eq_false h];exact beq_eq_false_iff_ne.mpr λz=>h (ZJ z).symm
 exact this ▸ q
theorem aN{c:Prop}[Decidable c]{a b:Prop}(h:c->a)(g:¬c->b):if c then a else b:=by
 split
 ·exact h ‹_›
 ·exact g ‹_›
theorem l1:1<=sizeLine:=by decide
theorem l2:2<=sizeLine:=by decide
theorem l3:3<=sizeLine:=by decide
theorem l4:4<=sizeLine:=by decide
theorem l5:5<=sizeLine:=by decide
theorem U7{i j:Int}(h:-(2 ^ 64)<j/\j<2 ^ 64):CM i j:=.inl (.inr h)
theorem kL{i j:Int}(h:-(2 ^ 64)<i/\i<2 ^ 64):CM i j:=.inl (.inl h)
theorem pz{n:Nat}:(0:Int)<((n+1:Nat):Int):=Int.natCast_pos.mpr (Nat.succ_pos n)
theorem pR{n:Bool}{ds:List D}{M:Mp}{k:Bool->Prop}(q:k ds.isEmpty):fF n (.lst ds) (.lst []) M k:=by
 refine .mk (.inr ⟨rfl,rfl⟩) ?_;have:aw (.lst ds) (.lst [])=ds.isEmpty:=by
  show bo ds []=_;cases ds <;> simp [bo]
 exact this ▸ q
noncomputable def fc(sc:Sc):List D:=sc.map λp=>.tup [.str p.1,kD p.2]
noncomputable abbrev aV(sc:Sc):D:=.lst (fc sc)
noncomputable def bQ(ms:Sc):List (Key×D):=ms.map λm=>(.inr m.1,kD m.2)
noncomputable def dR(ms:Sc):D:=.au (ms.map λm=>.inr m.1) (ms.map λm=>kD m.2)
theorem pS(ms:Sc):(ms.map λm=>(aae m.1:Key)).zip (ms.map λm=>kD m.2)=bQ ms:=by
 unfold bQ;induction ms with
 |nil=>rfl
 |cons m ms ih=>rw[Zh,Zh,aad,ih,Zh]
theorem BQ(ms:Sc):D.au ((bQ ms).map (·.1)) ((bQ ms).map (·.2))=dR ms:=by
 unfold bQ dR;rw[Z6,Z6];rfl
theorem uN{x:Str}:∀{a b:Sc},lk x (a++b)=(lk x a).or (lk x b)
 |[],b=>rfl
 |(y,k)::r,b=>by
  rw[Z9,lk,lk];split
  ·rfl
  ·exact uN
theorem di{x:Str}{k:Kd}:∀{sc:Sc},lk x sc=some k->(x,k)∈sc
 |(y,l)::r,h=>by
  rw[lk]at h;split at h
  ·rename_i e;rw[e,ZJ h];exact Za
  ·exact Zc _ (di h)
theorem uO{x:Str}{k:Kd}:∀{sc:Sc},(sc.map (·.1)).Nodup->(x,k)∈sc->lk x sc=some k
 |(y,l)::r,nd,h=>by
  rw[Zh,List.nodup_cons]at nd;rw[lk];rcases List.mem_cons.mp h with e |h2
  ·cases e;rw[if_pos rfl]
  ·rw[if_neg,uO nd.2 h2];intro e;exact nd.1 (List.mem_map.mpr ⟨_,h2,e⟩)
theorem BR{G G':Sc}{y:Str}{l:Kd}(g:∀x k,lk x G=some k->lk x G'=some k):∀x k,lk x ((y,l)::G)=some k->lk x ((y,l)::G')=some k:=λx k h=>by
 rw[lk]at h ⊢;split at h
 ·rename_i e;rw[if_pos e];exact h
 ·rename_i e;rw[if_neg e];exact g x k h
theorem nc{x:Str}:∀{ms:Sc},aX (bQ ms) (.inr x)=(lk x ms).map kD
 |[]=>rfl
 |(y,l)::r=>by
  have ih:=@nc x r;unfold aX bQ at *;rw[Zh,List.find?_cons,lk];by_cases e:x=y
  ·subst e;rw[if_pos rfl];simp
  ·have e':¬(aae y:Key)=aae x:=λz=>e (aaY z).symm;rw[if_neg e];simp only[e',decide_false];exact ih
theorem mZ{x:Str}:∀{sc:Sc},(lk x sc).isSome=decide (x∈sc.map (·.1))
 |[]=>rfl
 |(y,k)::r=>by
  rw[lk,Zh];by_cases e:x=y
  ·subst e;simp
  ·rw[if_neg e,mZ];simp [e]
theorem ML{ms:Sc}{x:Str}{k:Kd}(h:x ∉ ms.map (·.1)):aY (bQ ms) (.inr x) (kD k)=bQ (ms++[(x,k)]):=by
 unfold aY;rw[if_neg]
 ·unfold bQ;simp
 ·intro z;obtain⟨kv,h1,h2⟩:=List.any_eq_true.mp z;unfold bQ at h1;obtain⟨m,hm,rfl⟩:=List.mem_map.mp h1;exact h (List.mem_map.mpr ⟨m,hm,aaY (of_decide_eq_true h2)⟩)
theorem BS{α:Type}{xs:List α}{y:α}(h:xs.Nodup)(n:y ∉ xs):(xs++[y]).Nodup:=by
 rw[List.nodup_append];exact⟨h,by simp,λa ha b hb e=>n (by rw[List.mem_singleton.mp hb]at e;rw[<- e];exact ha)⟩
theorem MM{ms:Sc}{ys:List (Key×D)}(h:ys.Perm (bQ ms)):∃out:Sc,ys.map fI=fc out/\out.Perm ms:=by
 have key:∀{ys:List (Key×D)}{kvs:List (Key×D)},ys.Perm kvs->∀ms:Sc,kvs=bQ ms->∃out:Sc,ys=bQ out/\out.Perm ms:=by
  intro ys kvs p
  induction p with
  |nil=>intro ms e;exact⟨[],rfl,by cases ms with |nil=>exact .nil |cons=>cases e⟩
  |cons x p ih=>intro ms e;cases ms with
   |nil=>cases e
   |cons m ms=>cases e;obtain⟨out,rfl,h⟩:=ih ms rfl;exact⟨m::out,rfl,h.cons _⟩
  |swap x y l=>intro ms e;match ms,e with
   |m::m'::ms,e=>cases e;exact⟨m'::m::ms,rfl,.swap ..⟩
  |trans p q MN MP=>intro ms e;obtain⟨o,rfl,h⟩:=MP ms e;obtain⟨o',rfl,h'⟩:=MN o rfl;exact⟨o',rfl,h'.trans h⟩
 obtain⟨out,rfl,h1⟩:=key h ms rfl;exact⟨out,by unfold bQ fc;rw[Z6];rfl,h1⟩
theorem BU{ms:Sc}{M M0:Mp}{q:QK}{t:DE}{τ:St}(ht:∀k,k (dR ms) M->t τ M0 k)(hl:ms.length<64)(U8:∀m∈ms,kd m.2<=50)(h:∀out:Sc,out.Perm ms->cE (fc out) M q):mz t τ M0 q:=by
 refine ht _ ⟨by rw[Y6];exact hl,λk hk=>?_,λd hd=>?_,λys p=>?_⟩
 ·obtain⟨m,_,rfl⟩:=List.mem_map.mp hk;exact⟨_,rfl⟩
 ·obtain⟨m,hm,rfl⟩:=List.mem_map.mp hd;exact⟨jf _,Y9 (pO _) (U8 m hm)⟩
 ·rw[pS]at p;obtain⟨out,e,p'⟩:=MM p;rw[e];exact h out p'
theorem dS{xs:List D}{r:Int}(h0:0<=r)(h1:r<xs.length):∃d,cK xs r=some d/\d∈xs:=by
 have hn:r.toNat<xs.length:=by lia
 refine⟨xs[r.toNat],?_,Z8 hn⟩;unfold cK eL;rw[if_pos h0,if_pos h1];exact Y5 hn
theorem MQ{a b:D}{c:Bool}:cK [a,b] (if c=true then 1 else 0)=some (if c=true then b else a):=by cases c <;> rfl
theorem uP{a b:Int}{c:Bool}:cK [D.int a,D.int b] (if c=true then 1 else 0)=some (.int (if c=true then b else a)):=by cases c <;> rfl
theorem Ty.all{S:Str->Option Kd}{P:Sc->Qn->Kd->Prop}{L:Sc->List (Str×Qn)->List (Str×Kd)->Prop}{C:Sc->Qn->Prop}
    (num:∀{G i},P G (.num i) .num) (word:∀{G s},P G (.word s) .word) (var:∀{G x k},lk x G=some k->P G (.var x) k) (tab:∀{G x k},S x=some k->P G (.tab x) (.ag k))
    (none:∀{G k},hZ k=true->kz k<900->P G (.none k) (.ag k)) (row:∀{G fs ks},fs.length<100->("table" : Str) ∉ ks.map (·.1)->L G fs ks->P G (.row fs) (.row ks))
    (gj:∀{G f q ks k},(ks.map (·.1)).Nodup/\kd (.row ks)<=20->P G q (.row ks)->lk f ks=some k->P G (.at f q) k) (add:∀{G a b},P G a .num->P G b .num->P G (.add a b) .num) (mul:∀{G a b},P G a .num->P G b .num->P G (.mul a b) .num)
    (one:∀{G q k},P G q k->P G (.one q) (.ag k)) (both:∀{G a b k},kz k<900->P G a (.ag k)->P G b (.ag k)->P G (.both a b) (.ag k)) (times:∀{G i a k},P G a (.ag k)->P G (.times i a) (.ag k))
    (uQ:∀{G x a b k l},kd l<=20/\kz l<900->P G a (.ag l)->P ((x,l)::G) b (.ag k)->P G (.for x a b) (.ag k)) (aZ:∀{G c a k},C G c->P G a (.ag k)->P G (.aZ c a) (.ag k)) (uR:∀{G x a b k l},kd l<=20->P G a l->P ((x,l)::G) b k->P G (.let x a b) k)
    (nil:∀{G},L G [] []) (cons:∀{G f q k r s},P G q k->L G r s->L G ((f,q)::r) ((f,k)::s))
    (gD:∀{G a b},P G a .num->P G b .num->C G (.same a b)) (gE:∀{G a b},P G a .word->P G b .word->C G (.same a b)) (under:∀{G a b},P G a .num->P G b .num->C G (.under a b))
    (and:∀{G a b},C G a->C G b->C G (.and a b)) (or:∀{G a b},C G a->C G b->C G (.or a b)) (not:∀{G a},C G a->C G (.not a)) :
    (∀{G q k},Ty S G q k->P G q k)/\(∀{G q k},c0 S G q k->L G q k)/\∀{G q},b4 S G q->C G q:=
  ⟨λh=>@Ty.rec S (λG q k _=>P G q k) (λG q k _=>L G q k) (λG q _=>C G q) num word var tab none (λl n _ h=>row l n h) (λn _ e h=>gj n h e) (λ_ _=>add) (λ_ _=>mul) (λ_=>one) (λz _ _=>both z) (λ_=>times) (λz _ _=>uQ z) (λ_ _=>aZ) (λz _ _=>uR z) nil (λ_ _=>cons) (λ_ _=>gD) (λ_ _=>gE) (λ_ _=>under) (λ_ _=>and) (λ_ _=>or) (λ_=>not) _ _ _ h,
   λh=>@c0.rec S (λG q k _=>P G q k) (λG q k _=>L G q k) (λG q _=>C G q) num word var tab none (λl n _ h=>row l n h) (λn _ e h=>gj n h e) (λ_ _=>add) (λ_ _=>mul) (λ_=>one) (λz _ _=>both z) (λ_=>times) (λz _ _=>uQ z) (λ_ _=>aZ) (λz _ _=>uR z) nil (λ_ _=>cons) (λ_ _=>gD) (λ_ _=>gE) (λ_ _=>under) (λ_ _=>and) (λ_ _=>or) (λ_=>not) _ _ _ h,
   λh=>@b4.rec S (λG q k _=>P G q k) (λG q k _=>L G q k) (λG q _=>C G q) num word var tab none (λl n _ h=>row l n h) (λn _ e h=>gj n h e) (λ_ _=>add) (λ_ _=>mul) (λ_=>one) (λz _ _=>both z) (λ_=>times) (λz _ _=>uQ z) (λ_ _=>aZ) (λz _ _=>uR z) nil (λ_ _=>cons) (λ_ _=>gD) (λ_ _=>gE) (λ_ _=>under) (λ_ _=>and) (λ_ _=>or) (λ_=>not) _ _ h⟩
def uS(G G':Sc):Prop:=∀x k,lk x G=some k->lk x G'=some k
theorem Ty.mono{S S':Str->Option Kd}(s:∀x k,S x=some k->S' x=some k){G:Sc}{q:Qn}{k:Kd}(h:Ty S G q k){G':Sc}(g:∀x k,lk x G=some k->lk x G'=some k):Ty S' G' q k:=
 (Ty.all (P:=λG q k=>∀G',uS G G'->Ty S' G' q k) (L:=λG q k=>∀G',uS G G'->c0 S' G' q k) (C:=λG q=>∀G',uS G G'->b4 S' G' q)
  (λ_ _=>.num) (λ_ _=>.word) (λh _ g=>.var (g _ _ h)) (λh _ _=>.tab (s _ _ h)) (λh z _ _=>.none h z) (λl n h _ g=>.row l n (h _ g)) (λn h e _ g=>.at n (h _ g) e) (λh e _ g=>.add (h _ g) (e _ g)) (λh e _ g=>.mul (h _ g) (e _ g)) (λh _ g=>.one (h _ g)) (λz h e _ g=>.both z (h _ g) (e _ g)) (λh _ g=>.times (h _ g))
  (λz h e _ g=>.for z (h _ g) (e _ (BR g))) (λh e _ g=>.aZ (h _ g) (e _ g)) (λz h e _ g=>.let z (h _ g) (e _ (BR g))) (λ_ _=>.nil) (λh e _ g=>.cons (h _ g) (e _ g)) (λh e _ g=>.gD (h _ g) (e _ g)) (λh e _ g=>.gE (h _ g) (e _ g)) (λh e _ g=>.under (h _ g) (e _ g)) (λh e _ g=>.and (h _ g) (e _ g)) (λh e _ g=>.or (h _ g) (e _ g)) (λh _ g=>.not (h _ g))).1 h G' g
theorem BV{M:Mp}{p:Addr}{o:MO}(h:M p=none):rm (up M p o) p=M:=funext λb=>by
 by_cases e:b=p
 ·rw[e,n4,h]
 ·rw[qL e,av e]
theorem BW{a:Addr}{d:D}:dg a d (some (.ref a))=some d:=if_pos rfl
theorem MR{a b:Addr}{d:D}(h:b≠a):dg a d (some (.ref b))=some (.ref b):=if_neg h
theorem MS{P:St->Mp->Prop}{τ:St}{M:Mp}{p:Addr}{kvs:List (Key×D)}(h:M p=none)(q:ew P (τ.map (dg p (.au (kvs.map (·.1)) (kvs.map (·.2))))) M):ew P τ (up M p (.au kvs)):=.au p kvs ak (by rw[BV h];exact q)
theorem MT{P:St->Mp->Prop}{τ:St}{M:Mp}{p:Addr}{ds:List D}(h:M p=none)(q:ew P (τ.map (dg p (.lst ds))) M):ew P τ (up M p (.lst ds)):=.lst p ds ak (by rw[BV h];exact q)
theorem kM{A B:Mp}(h:bC A B){p:Addr}{o:MO}(e:A p=none)(n:o.uG=true):bC A (up B p o):=⟨λa u z=>by rw[av (b7 z e)];exact h.sub a u z,λa b z q=>by
 by_cases hb:b=p
 ·subst hb;rw[ak]at q;cases q;cases n
 ·rw[av hb]at q;exact h.own a b z q⟩
theorem bC.no{A B:Mp}(h:bC A B){p:Addr}(e:B p=none):A p=none:=by
 cases z:A p with
 |none=>rfl
 |some o=>rw[h.sub p o z]at e;cases e
theorem BX{Q:QK}{M M':Mp}{p:Addr}{ds:List D}(hs:bC M M')(hp:M p=none)(h':M' p=some (.lst ds))(h:Q (.lst ds) M):bU Q (.ref p) M':=⟨M,_,hs,.lst h' hp .rfl,h⟩
theorem uT{Q:QK}{M M':Mp}{d:D}(hs:bC M M')(h:Q d M):bU Q d M':=⟨M,d,hs,.rfl,h⟩
noncomputable def ng:B->S
 |.cons s _=>s
 |.nil=>.dead
noncomputable def MU:B->B
 |.cons _ r=>r
 |.nil=>.nil
noncomputable def MV:S->B
 |.cond _ a _=>a
 |_=>.nil
theorem ff{t u:DS}{e:En}{τ:St}{M:Mp}(h:∀N:St->Mp->Prop,(∀ τ M,u e τ M->N τ M)->t { e with nx:=N } τ M):qQ t u e τ M:=h _ λ_ _ z=>z
noncomputable def dD(kvs:List (Key×D)):D:=.au (kvs.map (·.1)) (kvs.map (·.2))
theorem h7:∀kvs:List (Key×D),(kvs.map (·.1)).zip (kvs.map (·.2))=kvs
 |[]=>rfl
 |(k,d)::r=>by rw[Zh,Zh,aad,h7 r]
structure Wc(C:Addr)(M0:Mp)(x a b:Addr):Prop where
 U:∃dx,M0 x=some (.ins C dx [("waiting",.ref a),("found",.ref b)])
 ne:a≠b
 xa:x≠a
 xb:x≠b
noncomputable def Wm(M0:Mp)(a b:Addr)(ws fs:List D):Mp:=up (up M0 a (.lst ws)) b (.lst fs)
theorem fQ{M:Mp}{p r:Addr}{o o':MO}(h:p≠r):up (up M p o) r o'=up (up M r o') p o:=by
 funext b;unfold up;by_cases h1:b=r
 ·subst h1;rw[if_pos rfl,if_neg (ZO h),if_pos rfl]
 ·rw[if_neg h1,if_neg h1]
section
variable{C:Addr}{M0:Mp}{x a b:Addr}{ws fs:List D}
theorem Wc.gx(h:Wc C M0 x a b):∃dx,Wm M0 a b ws fs x=some (.ins C dx [("waiting",.ref a),("found",.ref b)]):=let ⟨dx,e⟩:=h.U;⟨dx,by unfold Wm;rw[av h.xb,av h.xa];exact e⟩
theorem Wc.ga(h:Wc C M0 x a b):Wm M0 a b ws fs a=some (.lst ws):=by unfold Wm;rw[av h.ne];exact ak
theorem Wm.gb:Wm M0 a b ws fs b=some (.lst fs):=ak
theorem Wc.pa(h:Wc C M0 x a b){i7:List D}:up (Wm M0 a b ws fs) a (.lst i7)=Wm M0 a b i7 fs:=by unfold Wm;rw[fQ (ZO h.ne),N.bj]
theorem Wm.pb{fs':List D}:up (Wm M0 a b ws fs) b (.lst fs')=Wm M0 a b ws fs':=N.bj
theorem kO{m:Str}{d e:D}(h1:(m == "waiting")=false)(h2:(m == "found")=false):[(("waiting" : Str),d),("found",e)].lookup m=none:=by simp [List.lookup,h1,h2]
end
theorem uU{d:D}{r:List D}:cK (d::r) 0=some d:=by
 unfold cK eL;rw[if_pos (by decide),if_pos (by rw[Zg];lia)];rfl
theorem MW{pre:List D}{d:D}:cK (pre++[d]) (-1)=some d:=by
 unfold cK eL;rw[if_neg (by decide)];have:(pre++[d]).length=pre.length+1:=by simp
 rw[this,if_pos (by lia)];show (pre++[d])[((pre.length+1:Nat)+(-1:Int)).toNat]?=some d;rw[show ((pre.length+1:Nat)+(-1:Int)).toNat=pre.length by lia];simp
theorem MX{M M':Mp}(h:∀c,M c≠none->M' c=M c)(g:∀c e,M' c=some (.own e)->M e≠none->M c=some (.own e)):bC M M':=⟨λc o e=>by rw[h c (by rw[e];exact ZK _)];exact e,λe c n q=>g c e q n⟩
end NQ
end
section
namespace K97
open PySem N NQ
open L2
def ae(i:Nat):Stmt:=PySem.Challenge.pw_keptnest_k97_whole_alternating_sums.main.body.getD i (.Pass ⟨0,0,0,0⟩)
def nm:Nm:=⟨((["under","knots","tables","folded","unfold","fold","is_even","degree","_law_cell_at","_law_seed","_law_draw","_law_key","_law_bag","_law_add","_law_truth","_law_bound","_law_answer","_law_value","_law_kinds","_law_store","_law_seen","_law_held","_law_small","_law_claim","_law_over","_law_taken","_law_asked","_law_change","_law_with","_law_names"]:List Str)++(["_law_first_even","law"]:List Str)),((["HAVE_MORE","under","knots","tables","folded","unfold","fold","is_even","degree","_law_cell_at","_law_seed","_law_draw","_law_key","_law_bag","_law_add","_law_truth","_law_bound","_law_answer","_law_value","_law_kinds","_law_store","_law_seen","_law_held","_law_small","_law_claim","_law_over","_law_taken","_law_asked","_law_change","_law_with"]:List Str)++(["_law_names","_law_first_even","law"]:List Str)),((["Walk"]:List Str)),((["__init__","later","tell","take","run"]:List Str))⟩
def bq(s:Stmt)(i:Nat):Stmt:=match s with
 |.ClassDef _ _ _ b _ _ _ _ _ _ _=>b.getD i (.Pass ⟨0,0,0,0⟩)
 |_=>.Pass ⟨0,0,0,0⟩
def d6:List Ds:=([⟨"under",ae 2,["question"]⟩,⟨"knots",ae 3,["question"]⟩,⟨"tables",ae 4,["question"]⟩,⟨"folded",ae 7,["question","told_of"]⟩,⟨"unfold",ae 8,["walk","question","told_of"]⟩,⟨"fold",ae 9,["walk","question","told_of"]⟩,⟨"is_even",ae 11,["question"]⟩,⟨"degree",ae 12,["question","names"]⟩,⟨"_law_cell_at",ae 14,["script","k"]⟩,⟨"_law_seed",ae 15,["cell"]⟩,⟨"_law_draw",ae 16,["seed","most"]⟩,⟨"_law_key",ae 17,["value"]⟩,⟨"_law_bag",ae 18,["counts"]⟩,⟨"_law_add",ae 19,["counts","bag","many"]⟩,⟨"_law_truth",ae 20,["claim","values","store"]⟩,⟨"_law_bound",ae 21,["asked","values","store"]⟩,⟨"_law_answer",ae 22,["asked","values","store"]⟩,⟨"_law_value",ae 23,["kind","seed","deep"]⟩,⟨"_law_kinds",ae 24,[]⟩,⟨"_law_store",ae 25,["seed"]⟩,⟨"_law_seen",ae 26,["scope"]⟩,⟨"_law_held",ae 27,["kind","scope"]⟩,⟨"_law_small",ae 28,["kind","scope","fuel","seed"]⟩,⟨"_law_claim",ae 29,["scope","fuel","seed"]⟩,⟨"_law_over",ae 30,["scope","fuel","seed"]⟩,⟨"_law_taken",ae 31,["kind","scope","fuel","seed"]⟩,⟨"_law_asked",ae 32,["kind","scope","fuel","seed"]⟩,⟨"_law_change",ae 33,["seed","names","way"]⟩,⟨"_law_with",ae 34,["store","change"]⟩,⟨"_law_names",ae 37,["seed","mark"]⟩]:List Ds)++([⟨"_law_first_even",ae 39,["cell"]⟩,⟨"law",ae 40,["script"]⟩]:List Ds)
def pT:List Ds:=([⟨"__init__",(bq (ae 6) 0),["self"]⟩,⟨"later",(bq (ae 6) 1),["self","step","question","around"]⟩,⟨"tell",(bq (ae 6) 2),["self","result"]⟩,⟨"take",(bq (ae 6) 3),["self","many"]⟩,⟨"run",(bq (ae 6) 4),["self"]⟩]:List Ds)
noncomputable def pC:BL:=(MJ (aH (ae 12))).get (by kernel_rfl)
def pU:List Str:=["num","word","var","table","none","at","times","for","let"]
def gF(w:Wo)(x:Str):Addr:=match w.G.mg x with
 |some (.ref f)=>f
 |_=>0
structure Lw(w:Wo):Prop where
 ok:w.Ok
 hn:w.nm=nm
 hd:w.ds=d6
 hms:w.ms=pT
 g0:w.gv.getD 0 .az=.tup (pU.map D.str)
 W6:w.gv.getD 5 .az=.ref (gF w "unfold")
 go:w.gv.getD 6 .az=.ref (gF w "fold")
 fw:w.fl (w.ca 0) "waiting"
 Vq:w.fl (w.ca 0) "found"
 mc:∀i,i<=4->w.mc i=w.ca 0
 VJ:∀f fd q,eo w.G.K q q (ae 12) f fd->w.G.mg "degree"=some (.ref f)->∃c T,fd.code=.ref c/\hW w.G c T pC.np (q++".<locals>."++pC.name)
theorem hW.at{G:Gx}{c T:Addr}{p:Pos}{q:Str}(h:hW G c T p q){e:Fz}(l:Le G.ex e):hW { G with ex:=e } c T p q:=⟨h.cd,h.bi,h.V9,l _ _ h.tab⟩
theorem Lw.at{w:Wo}(O:Lw w){e:Fz}(l:Le w.G.ex e):Lw (w.at e):=
  { O with ok := O.ok.at e
           VJ:=λf fd q h1 h2=>let ⟨c,T,h3,h4⟩:=O.VJ f fd q h1 h2;⟨c,T,h3,hW.at h4 l⟩ }
variable{w:Wo}
def MY(a b c d:Int):MO:=.lst [.int a,.int b,.int c,.int d]
def Sd(o:MO):Prop:=∃a b c d,o=MY a b c d
def BY:Sp:=λds M Q _=>∃p n o,ds=[.ref p,.int n]/\M p=some o/\Sd o/\0<n/\n<2 ^ 200/\∀r o',Sd o'->0<=r->r<n->Q (.int r) (up M p o')
def MZ:B:=.cons (.ret (.op .Mod (.op .FloorDiv (.v 3) (.c (.int 7))) (.v 1))) .nil
def M4:B:=.cons (.set (.one 3) (.op .Mod (.op .Mult (.op .Mod (.op .Mult (.v 3) (.v 3)) (.c (.int 2147483629))) (.c (.int 40692))) (.c (.int 2147483399)))) MZ
def M5:B:=.cons (.set (.one 3) (.op .Mod (.op .Mult (.op .Add (.op .Add (.ix (.v 0) (.c (.int 3))) (.op .Mult (.c (.int 7919)) (.ix (.v 0) (.c (.int 2))))) (.c (.int 1))) (.c (.int 48271))) (.c (.int 2147483647)))) M4
def M6:B:=.cons (.cond (.and (.cmp .Eq (.ix (.v 0) (.c (.int 1))) (.c (.int 1))) (.cmp .Gt (.ix (.v 0) (.c (.int 0))) (.c (.int 0)))) (.cons (.set (.one 2) (.op .Mod (.ix (.v 0) (.c (.int 0))) (.v 1))) (.cons (.put (.v 0) (.c (.int 0)) (.op .FloorDiv (.ix (.v 0) (.c (.int 0))) (.v 1))) (.cons (.ret (.v 2)) .nil))) .nil) M5
def M7:B:=.cons (.put (.v 0) (.c (.int 2)) (.op .Add (.ix (.v 0) (.c (.int 2))) (.c (.int 1)))) M6
theorem M8:aO ["seed","most","found","number"] ["seed","most"] (ao (ae 16)):=⟨rfl,rfl,rfl,by decide +kernel,rfl,by decide +kernel,by decide +kernel⟩
theorem M9:aQ nm 40 ["seed","most","found","number"] (ao (ae 16)) (aH (ae 16))=M7:=by kernel_rfl
def Na:B:=(.cons (.set (.one 1) (.bi .max (.cons (.v 0) (.cons (.op .Sub (.c (.int 0)) (.v 0)) .nil)))) (.cons (.ret (.lst (.cons (.v 1) (.cons (.bi .int (.cons (.cmp .GtE (.v 1) (.op .Pow (.c (.int 10)) (.c (.int 18)))) .nil)) (.cons (.c (.int 0)) (.cons (.op .Mod (.v 0) (.c (.int 1999999943))) .nil)))))) .nil))
theorem Nb:aO ["cell","number"] ["cell"] (ao (ae 15)):=⟨rfl,rfl,rfl,by decide +kernel,rfl,by decide +kernel,by decide +kernel⟩
theorem Nc:aQ nm 40 ["cell","number"] (ao (ae 15)) (aH (ae 15))=Na:=by kernel_rfl
theorem BZ(O:Lw w):FO w 10 1 BY:=by
 refine bh O.ok O.hn _ ⟨"_law_draw",ae 16,["seed","most"]⟩ (by rw[O.hd];rfl) {} { cs:=trivial } M8 M9 λds M Q _ h=>?_;obtain⟨p,n,o,rfl,hp,⟨a,b,c,d,rfl⟩,h0,h1,h⟩:=h;refine⟨rfl,?_⟩;refine .inl ⟨_,hp,_,rfl,.inl ⟨_,hp,_,rfl,?_⟩⟩;refine (λrest=>(.inl ⟨_,ak,_,rfl,cz (aN (λe1=>.inl ⟨_,ak,_,rfl,aN (λe2=>?_) λe2=>rest⟩) λe1=>ai (by decide) rest)⟩)) ?_
 ·refine .inl ⟨_,ak,_,rfl,.inl ⟨_,ak,_,rfl,kL (by decide),U7 (by decide),pz,U7 ?_,pz,U7 (by decide),pz,⟨by decide,by decide⟩,h0,?_⟩⟩
  ·have:=Int.emod_nonneg ((d+7919 * (c+1)+1) * 48271) (b:=2147483647) (by decide);have:=Int.emod_lt_of_pos ((d+7919 * (c+1)+1) * 48271) (b:=2147483647) (by decide);constructor <;> (dsimp only;lia)
  ·exact aC (h _ _ ⟨_,_,_,_,rfl⟩ (Int.emod_nonneg _ (by lia)) (Int.emod_lt_of_pos _ h0))
 ·refine .inl ⟨_,ak,_,rfl,h0,.inl ⟨_,ak,_,rfl,⟨h0,h1⟩,.inl ⟨_,ak,_,rfl,?_⟩⟩⟩;rw[N.bj];exact aC (h _ _ ⟨_,_,_,_,rfl⟩ (Int.emod_nonneg _ (by lia)) (Int.emod_lt_of_pos _ h0))
def uV:Sp:=λds M Q _=>∃c,ds=[.int c]/\∀p o,M p=none->Sd o->Q (.ref p) (up M p o)
theorem B0(O:Lw w):FO w 9 1 uV:=by
 refine bh O.ok O.hn _ ⟨"_law_seed",ae 15,["cell"]⟩ (by rw[O.hd];rfl) {} { cs:=trivial } Nb Nc λds M Q _ h=>?_;obtain⟨c,rfl,h⟩:=h;refine⟨rfl,?_⟩;exact⟨⟨by decide,by decide,by decide⟩,pz,l4,.inr λp hp=>aC (h p _ hp ⟨_,_,_,_,rfl⟩)⟩
noncomputable def jg:Kd:=.row [("b",.word),("r",.num)]
noncomputable def jh:Kd:=.row [("a",.num),("b",.word),("t",.ag .num),("z",.word)]
noncomputable def bM:Sc:=[("r",jg),("s",jg),("t",.num),("u",jh),("v",.ag .word)]
def kP:Sp:=λds M Q _=>ds=[]/\Q (dR bM) M
variable{w:Wo}
noncomputable def Nd:B:=.cons (.ret (.tS (.cons (.c (.str "r")) (.cons (.c (.str "s")) (.cons (.c (.str "t")) (.cons (.c (.str "u")) (.cons (.c (.str "v")) .nil))))) (.cons (.v 0) (.cons (.v 0) (.cons (.tup (.cons (.c (.str "num")) .nil)) (.cons (.v 1) (.cons (.tup (.cons (.c (.str "bag")) (.cons (.tup (.cons (.c (.str "word")) .nil)) .nil))) .nil))))))) .nil
noncomputable def Nf:B:=.cons (.set (.one 1) (.tup (.cons (.c (.str "row")) (.cons (.tup (.cons (.tup (.cons (.c (.str "a")) (.cons (.tup (.cons (.c (.str "num")) .nil)) .nil))) (.cons (.tup (.cons (.c (.str "b")) (.cons (.tup (.cons (.c (.str "word")) .nil)) .nil))) (.cons (.tup (.cons (.c (.str "t")) (.cons (.tup (.cons (.c (.str "bag")) (.cons (.tup (.cons (.c (.str "num")) .nil)) .nil))) .nil))) (.cons (.tup (.cons (.c (.str "z")) (.cons (.tup (.cons (.c (.str "word")) .nil)) .nil))) .nil))))) .nil)))) Nd
noncomputable def Ng:B:=.cons (.set (.one 0) (.tup (.cons (.c (.str "row")) (.cons (.tup (.cons (.tup (.cons (.c (.str "b")) (.cons (.tup (.cons (.c (.str "word")) .nil)) .nil))) (.cons (.tup (.cons (.c (.str "r")) (.cons (.tup (.cons (.c (.str "num")) .nil)) .nil))) .nil))) .nil)))) Nf
theorem Nh:aO ["level","deep"] [] (ao (ae 24)):=⟨rfl,rfl,rfl,by decide +kernel,rfl,by decide +kernel,by decide +kernel⟩
theorem Ni:aQ nm 40 ["level","deep"] (ao (ae 24)) (aH (ae 24))=Ng:=by kernel_rfl
noncomputable def Nj:B:=.cons (.ret (.pv (.v 1))) .nil
noncomputable def Nk:B:=.cons (.loop (.many [2,3]) (.seq (.v 0)) (.cons (.cond (.cmp .NotIn (.v 2) (.v 1)) (.cons (.put (.v 1) (.v 2) (.v 3)) .nil) .nil) .nil)) Nj
noncomputable def Nl:B:=.cons (.set (.one 1) .i8) Nk
theorem Nn:aO ["scope","found","name","other"] ["scope"] (ao (ae 26)):=⟨rfl,rfl,rfl,by decide +kernel,rfl,by decide +kernel,by decide +kernel⟩
theorem Np:aQ nm 40 ["scope","found","name","other"] (ao (ae 26)) (aH (ae 26))=Nl:=by kernel_rfl
theorem Nq:cM (bQ bM)=bQ bM:=by kernel_rfl
theorem nh(O:Lw w):FO w 18 1 kP:=by
 refine bh O.ok O.hn _ ⟨"_law_kinds",ae 24,[]⟩ (by rw[O.hd];rfl) {} { cs:=trivial } Nh Ni λds M Q _ h=>?_;obtain⟨rfl,h⟩:=h;refine⟨rfl,l1,l2,l1,l2,l2,l2,?_⟩;refine⟨l1,l2,l1,l2,l1,l2,l2,l1,l2,l4,l2,?_⟩;refine⟨l1,l1,l2,.inl ?_⟩;have:bU Q (.au ((cM (bQ bM)).map (·.1)) ((cM (bQ bM)).map (·.2))) M:=by rw[Nq,BQ];exact aC h
 exact this
def uW:Sp:=λds M Q _=>∃sc,ds=[aV sc]/\sc.length<64/\(∀m∈sc,kd m.2<=49)/\∀out:Sc,(∀x k,(x,k)∈out ↔ lk x sc=some k)->out.length<=sc.length->(out.map (·.1)).Nodup->Q (aV out) M
structure Nr(ms done:Sc):Prop where
 nd:(ms.map (·.1)).Nodup
 eE:∀x k,(x,k)∈ms ↔ lk x done=some k
 len:ms.length<=done.length
theorem Nu{sc:Sc}(hk:∀m∈sc,kd m.2<=49){x:Str}{k:Kd}(h:lk x sc=some k):kd k<=49:=hk _ (di h)
theorem B1(O:Lw w):FO w 20 1 uW:=by
 refine bh O.ok O.hn _ ⟨"_law_seen",ae 26,["scope"]⟩ (by rw[O.hd];rfl) {} { cs:=trivial } Nn Np λds M Q _ h=>?_;obtain⟨sc,rfl,hl,hk,h⟩:=h;refine⟨rfl,.inr λp hp=>?_⟩;refine cZ (λxs τ M'=>∃ms done rest u v,xs=fc rest/\sc=done++rest/\Nr ms done/\τ=[some (aV sc),some (.ref p),u,v]/\M'=up M p (.au (bQ ms))) ?_ ?_ _ _ _ ⟨[],[],sc,none,none,rfl,rfl,⟨.nil,λx k=>by simp [lk],Y8 _⟩,rfl,rfl⟩
 ·rintro τ M' ⟨ms,done,rest,u,v,e1,e2,F,rfl,rfl⟩;cases rest with
  |cons _ _=>cases e1
  |nil=>
   rw[Zu]at e2;subst e2;refine⟨trivial,MS hp (.rfl ?_)⟩;have U8:∀m∈ms,kd m.2<=50:=λm hm=>Nat.le_succ_of_le (Nu hk ((F.eE m.1 m.2).mp hm));rw[BQ];show mz (iu 1) _ M _;refine BU (ms:=ms) (M:=M) (λk z=>?_) (Zd F.len hl) U8 λout pm=>.inl (aC (h out (λx k=>(pm.mem_iff).trans (F.eE x k)) (by rw[pm.length_eq];exact F.len) ((pm.map _).nodup_iff.mpr F.nd)));show iu 1 [dg p (dR ms) (some (aV sc)),dg p (dR ms) (some (.ref p)),_,_] M k;rw[BW];exact z
 ·rintro x xs τ M' ⟨ms,done,rest,u,v,e1,e2,F,rfl,rfl⟩;cases rest with
  |nil=>cases e1
  |cons r rest=>
   cases e1;refine⟨trivial,λN hN=>⟨rfl,⟨.inl ⟨_,ak,?_⟩⟩⟩⟩;have hs:sc=(done++[r])++rest:=(by rw[e2];simp);have e5:(aX (bQ ms) (.inr r.1)).isSome=decide (r.1∈ms.map (·.1)):=(by rw[nc,Option.isSome_map,NQ.mZ]);have key:∀b:Bool,b=decide (r.1∈ms.map (·.1))->(if (!b)=true then qY oE (iu 1) (iu 2) (kD r.2) [some (aV sc),some (.ref p),some (.str r.1),some (kD r.2)] (up M p (.au (bQ ms))) N else N [some (aV sc),some (.ref p),some (.str r.1),some (kD r.2)] (up M p (.au (bQ ms)))):=by
    intro b hb;by_cases U:r.1∈ms.map (·.1)
    ·rw[decide_eq_true U]at hb;subst hb;refine ai (by decide) (hN _ _ ⟨ms,done++[r],rest,_,_,rfl,hs,⟨F.nd,λx k=>?_,by have:=F.len;simp;lia⟩,rfl,rfl⟩)
     rw[F.eE,uN];obtain⟨m,hm,em⟩:=List.mem_map.mp U;have:=(F.eE m.1 m.2).mp hm;constructor
     ·intro z;rw[z];rfl
     ·intro z;cases y:lk x done with
      |some k'=>rw[y]at z;exact z
      |none=>
       rw[y]at z;have z:lk x [r]=some k:=z;rw[lk]at z;split at z
       ·rename_i e;rw[e,<- em,this]at y;cases y
       ·cases z
    ·rw[decide_eq_false U]at hb;subst hb;refine aJ rfl (.inr ⟨_,ak,?_,hN _ _ ⟨ms++[(r.1,r.2)],done++[r],rest,_,_,rfl,hs,⟨?_,λx k=>?_,by have:=F.len;simp;lia⟩,rfl,?_⟩⟩)
     ·have:=F.len;have:done.length<=sc.length:=(by rw[e2];simp);unfold bQ;rw[Y6];exact Zq (by lia:ms.length<64) (by decide)
     ·rw[Zt];exact BS F.nd U
     ·rw[uN,aa5];constructor
      ·rintro (z |z)
       ·rw[(F.eE x k).mp z];rfl
       ·cases List.mem_singleton.mp z;cases y:lk r.1 done with
        |none=>show lk r.1 [r]=_;rw[lk,if_pos rfl]
        |some k'=>exact absurd (List.mem_map.mpr ⟨_,(F.eE r.1 k').mpr y,rfl⟩) U
      ·intro z;cases y:lk x done with
       |some k'=>rw[y]at z;cases z;exact .inl ((F.eE x _).mpr y)
       |none=>
        rw[y]at z;have z:lk x [r]=some k:=z;rw[lk]at z;split at z
        ·rename_i e;cases z;subst e;exact .inr (List.mem_singleton.mpr rfl)
        ·cases z
     ·rw[_root_.N.bj,ML U]
   exact key _ e5
end K97
end
section
namespace NV
open PySem N NQ
inductive Val where
 |num (i:Int)
 |word (s:Str)
 |row (ps:List (Str×Val))
 |ag (ps:List (Val×Int))
noncomputable instance:DecidableEq Val:=λa b=>aaL (a=b)
abbrev Bg:=List (Val×Int)
mutual
noncomputable def vT:Val->List Dt
 |.num i=>[.str "num",.int i]
 |.word s=>[.str "word",.str s]
 |.row ps=>[.str "row",.tup (vR ps)]
 |.ag ps=>[.str "bag",.tup (vB ps)]
noncomputable def vR:List (Str×Val)->List Dt
 |[]=>[]
 |p::ps=>.tup [.str p.1,.tup (vT p.2)]::vR ps
noncomputable def vB:Bg->List Dt
 |[]=>[]
 |p::ps=>.tup [.tup (vT p.1),.int p.2]::vB ps
end
mutual
noncomputable def ky:Val->List Dt
 |.num i=>[.int 0,.int i]
 |.word s=>[.int 1,.str s]
 |.row ps=>[.int 2,.tup (cQ ps)]
 |.ag ps=>[.int 3,.tup (cR ps)]
noncomputable def cQ:List (Str×Val)->List Dt
 |[]=>[]
 |p::ps=>.tup [.str p.1,.tup (ky p.2)]::cQ ps
noncomputable def cR:Bg->List Dt
 |[]=>[]
 |p::ps=>.tup [.tup (ky p.1),.int p.2]::cR ps
end
noncomputable def vD(v:Val):D:=tu (vT v)
mutual
theorem ni:∀(x y:Val),ky x=ky y->x=y
 |.num i,y,h=>by cases y <;> simp [ky]at h;rw[h]
 |.word i,y,h=>by cases y <;> simp [ky]at h;rw[h]
 |.row ps,y,h=>by cases y <;> simp [ky]at h;rw[B2 ps _ h]
 |.ag ps,y,h=>by cases y <;> simp [ky]at h;rw[B3 ps _ h]
theorem B2:∀(ps qs:List (Str×Val)),cQ ps=cQ qs->ps=qs
 |[],qs,h=>by cases qs with
  |nil=>rfl
  |cons q qs=>simp [cQ]at h
 |p::ps,qs,h=>by cases qs with
  |nil=>simp [cQ]at h
  |cons q qs=>
   simp only[cQ,List.cons.injEq,Dt.tup.injEq,Dt.str.injEq,and_true]at h;rw[B2 ps qs h.2,Prod.ext h.1.1 (ni p.2 q.2 h.1.2)]
theorem B3:∀(ps qs:Bg),cR ps=cR qs->ps=qs
 |[],qs,h=>by cases qs with
  |nil=>rfl
  |cons q qs=>simp [cR]at h
 |p::ps,qs,h=>by cases qs with
  |nil=>simp [cR]at h
  |cons q qs=>
   simp only[cR,List.cons.injEq,Dt.tup.injEq,Dt.int.injEq,and_true]at h;rw[B3 ps qs h.2,Prod.ext (ni p.1 q.1 h.1.1) h.1.2]
end
def bH(a b:List Dt):Prop:=(aA a b).isSome=true
theorem gG{d:Dt}{as bs:List Dt}(h:bH as bs):bH (d::as) (d::bs):=by unfold bH;rw[aA,if_pos rfl];exact h
theorem uZ{i j:Int}{as bs:List Dt}(h:bH as bs):bH (.int i::as) (.int j::bs):=by
 by_cases e:i=j
 ·subst e;exact gG h
 ·unfold bH;rw[aA,if_neg (λz=>e (by injection z)),aE];rfl
theorem B4{x y:Str}{as bs:List Dt}(h:bH as bs):bH (.str x::as) (.str y::bs):=by
 by_cases e:x=y
 ·subst e;exact gG h
 ·unfold bH;rw[aA,if_neg (λz=>e (by injection z)),aE];rfl
theorem kQ{x y as bs:List Dt}(h:bH x y)(k:bH as bs):bH (.tup x::as) (.tup y::bs):=by
 by_cases e:x=y
 ·subst e;exact gG k
 ·unfold bH;rw[aA,if_neg (λz=>e (by injection z)),aE];exact h
theorem ji:bH [] []:=by unfold bH;rw[aA];rfl
theorem pV{i j:Int}(e:i≠j){as bs:List Dt}:bH (.int i::as) (.int j::bs):=by unfold bH;rw[aA,if_neg (λz=>e (by injection z)),aE];rfl
mutual
theorem pW:∀(x y:Val),bH (ky x) (ky y)
 |.num i,y=>by cases y <;> first |exact gG (uZ ji) |exact pV (by decide)
 |.word i,y=>by cases y <;> first |exact gG (B4 ji) |exact pV (by decide)
 |.row ps,y=>by cases y <;> first |exact gG (kQ (B5 ps _) ji) |exact pV (by decide)
 |.ag ps,y=>by cases y <;> first |exact gG (kQ (B6 ps _) ji) |exact pV (by decide)
theorem B5:∀(ps qs:List (Str×Val)),bH (cQ ps) (cQ qs)
 |[],qs=>by cases qs <;> (unfold bH;rw[cQ,aA];rfl)
 |p::ps,qs=>by cases qs with
  |nil=>unfold bH;rw[cQ,cQ,aA];rfl
  |cons q qs=>rw[cQ,cQ];exact kQ (B4 (kQ (pW p.2 q.2) ji)) (B5 ps qs)
theorem B6:∀(ps qs:Bg),bH (cR ps) (cR qs)
 |[],qs=>by cases qs <;> (unfold bH;rw[cR,aA];rfl)
 |p::ps,qs=>by cases qs with
  |nil=>unfold bH;rw[cR,cR,aA];rfl
  |cons q qs=>rw[cR,cR];exact kQ (kQ (pW p.1 q.1) (uZ ji)) (B6 ps qs)
end
def Lv(x y:Val):Prop:=aA (ky x) (ky y)=some true
theorem Lv.eA{x:Val}:¬Lv x x:=λh=>by have:=KL _ h;cases this
theorem Lv.tr{x y z:Val}(h:Lv x y)(k:Lv y z):Lv x z:=pk _ _ _ h k
theorem Lv.or(x y:Val):x=y\/Lv x y\/Lv y x:=by
 obtain⟨r,hr⟩:=Option.isSome_iff_exists.mp (pW x y);cases r with
 |true=>exact .inr (.inl hr)
 |false=>
  rcases (gu _ _ _ hr).2 rfl with e |e
  ·exact .inl (ni _ _ e)
  ·exact .inr (.inr e)
noncomputable def cnt(v:Val):Bg->Int
 |[]=>0
 |p::ps=>(if p.1=v then p.2 else 0)+cnt v ps
theorem fg(v:Val)(a b:Bg):cnt v (a++b)=cnt v a+cnt v b:=by
 induction a with
 |nil=>simp [cnt]
 |cons p a ih=>rw[Z9,cnt,cnt,ih];lia
theorem Nw(v:Val){a b:Bg}(h:a.Perm b):cnt v a=cnt v b:=by
 induction h with
 |nil=>rfl
 |cons p _ ih=>rw[cnt,cnt,ih]
 |swap p q l=>rw[cnt,cnt,cnt,cnt];lia
 |trans _ _ h1 h2=>rw[h1,h2]
theorem B7{v:Val}{a:Bg}(h:∀p∈a,p.1≠v):cnt v a=0:=by
 induction a with
 |nil=>rfl
 |cons p a ih=>rw[cnt,if_neg (h p Za),ih λq hq=>h q (Zc _ hq)];rfl
structure Cn(ps:Bg):Prop where
 up:ps.Pairwise λp q=>Lv p.1 q.1
 nz:∀p∈ps,p.2≠0
theorem Cn.tl{p:Val×Int}{ps:Bg}(h:Cn (p::ps)):Cn ps:=⟨(List.pairwise_cons.mp h.up).2,λq hq=>h.nz q (Zc _ hq)⟩
theorem Cn.hd{p:Val×Int}{ps:Bg}(h:Cn (p::ps)){v:Val}(l:Lv v p.1\/v=p.1):cnt v ps=0:=B7 λq hq e=>by
 have h1:=(List.pairwise_cons.mp h.up).1 q hq;rcases l with l |l
 ·exact Lv.eA (e ▸ l.tr h1)
 ·exact Lv.eA (l ▸ e ▸ h1)
theorem Cn.one:∀{a b:Bg},Cn a->Cn b->(∀v,cnt v a=cnt v b)->a=b
 |[],[],_,_,_=>rfl
 |[],q::b,_,hb,h=>by
  have:=h q.1;rw[cnt,cnt,if_pos rfl,hb.hd (.inr rfl)]at this;exact absurd (show q.2=0 by lia) (hb.nz q Za)
 |p::a,[],ha,_,h=>by
  have:=h p.1;rw[cnt,cnt,if_pos rfl,ha.hd (.inr rfl)]at this;exact absurd (show p.2=0 by lia) (ha.nz p Za)
 |p::a,q::b,ha,hb,h=>by
  have ep:cnt p.1 (p::a)=p.2:=by rw[cnt,if_pos rfl,ha.hd (.inr rfl)];lia
  have eq:cnt q.1 (q::b)=q.2:=by rw[cnt,if_pos rfl,hb.hd (.inr rfl)];lia
  have e:p.1=q.1:=by
   rcases Lv.or p.1 q.1 with e |l |l
   ·exact e
   ·have:=h p.1;rw[ep,cnt,if_neg (λz=>Lv.eA (z ▸ l)),hb.hd (.inl l)]at this;exact absurd (show p.2=0 by lia) (ha.nz p Za)
   ·have:=h q.1;rw[eq,cnt,if_neg (λz=>Lv.eA (z ▸ l)),ha.hd (.inl l)]at this;exact absurd (show q.2=0 by lia) (hb.nz q Za)
  have e2:p.2=q.2:=by rw[<- ep,<- eq,<- e];exact h p.1
  have e3:p=q:=Prod.ext e e2;subst e3;rw[Cn.one ha.tl hb.tl λv=>by have:=h v;rw[cnt,cnt]at this;lia]
noncomputable def ins(p:Val×Int):Bg->Bg
 |[]=>if p.2=0 then [] else [p]
 |q::r=>if p.1=q.1 then (if p.2+q.2=0 then r else (q.1,p.2+q.2)::r) else if aaL (Lv p.1 q.1) |>.decide then (if p.2=0 then q::r else p::q::r) else q::ins p r
theorem u0{p:Val×Int}:∀{r:Bg}{x:Val×Int},x∈ins p r->x.1=p.1\/x∈r
 |[],x,h=>by
  rw[ins]at h;split at h
  ·cases h
  ·rw[List.mem_singleton.mp h];exact .inl rfl
 |q::r,x,h=>by
  rw[ins]at h;split at h
  ·rename_i e;split at h
   ·exact .inr (Zc _ h)
   ·rcases List.mem_cons.mp h with rfl |h
    ·exact .inl e.symm
    ·exact .inr (Zc _ h)
  ·split at h
   ·split at h
    ·exact .inr h
    ·rcases List.mem_cons.mp h with rfl |h
     ·exact .inl rfl
     ·exact .inr h
   ·rcases List.mem_cons.mp h with rfl |h
    ·exact .inr Za
    ·exact (u0 h).imp id (Zc _)
theorem B8{p:Val×Int}:∀{r:Bg},Cn r->Cn (ins p r)/\∀v,cnt v (ins p r)=cnt v (p::r)
 |[],_=>by
  rw[ins];split
  ·rename_i e;exact⟨⟨.nil,λ_ h=>nomatch h⟩,λv=>by rw[cnt,cnt,e];split <;> rfl⟩
  ·rename_i e;exact⟨⟨ZT _ _,λq h=>by rw[List.mem_singleton.mp h];exact e⟩,λ_=>rfl⟩
 |q::r,h=>by
  rw[ins];split
  ·rename_i e;split
   ·rename_i z;refine⟨h.tl,λv=>?_⟩;rw[cnt,cnt,e];split <;> lia
   ·rename_i z;refine⟨⟨List.pairwise_cons.mpr (List.pairwise_cons.mp h.up),λx U=>?_⟩,λv=>?_⟩
    ·rcases List.mem_cons.mp U with rfl |U
     ·exact z
     ·exact h.nz x (Zc _ U)
    ·rw[cnt,cnt,cnt,e];split <;> lia
  ·rename_i e;split
   ·rename_i l;have l:Lv p.1 q.1:=@of_decide_eq_true _ (aaL _) l;split
    ·rename_i z;exact⟨h,λv=>by show cnt v (q::r)=(if p.1=v then p.2 else 0)+cnt v (q::r);rw[z];split <;> lia⟩
    ·rename_i z;refine⟨⟨List.pairwise_cons.mpr ⟨λx U=>?_,h.up⟩,λx U=>?_⟩,λ_=>rfl⟩
     ·rcases List.mem_cons.mp U with rfl |U
      ·exact l
      ·exact l.tr ((List.pairwise_cons.mp h.up).1 x U)
     ·rcases List.mem_cons.mp U with rfl |U
      ·exact z
      ·exact h.nz x U
   ·rename_i l;have l:Lv q.1 p.1:=by
     rcases Lv.or p.1 q.1 with z |z |z
     ·exact absurd z e
     ·exact absurd (@decide_eq_true _ (aaL _) z) l
     ·exact z
    obtain⟨a,b⟩:=B8 (p:=p) h.tl;refine⟨⟨List.pairwise_cons.mpr ⟨λx U=>?_,a.up⟩,λx U=>?_⟩,λv=>?_⟩
    ·rcases u0 U with z |z
     ·rw[z];exact l
     ·exact (List.pairwise_cons.mp h.up).1 x z
    ·rcases List.mem_cons.mp U with rfl |U
     ·exact h.nz x Za
     ·exact a.nz x U
    ·rw[cnt,b v,cnt,cnt,cnt];lia
noncomputable def nf:Bg->Bg
 |[]=>[]
 |p::r=>ins p (nf r)
theorem dT:∀(xs:Bg),Cn (nf xs)/\∀v,cnt v (nf xs)=cnt v xs
 |[]=>⟨⟨.nil,λ_ h=>nomatch h⟩,λ_=>rfl⟩
 |p::r=>by
  obtain⟨a,b⟩:=dT r;obtain⟨c,d⟩:=B8 (p:=p) a;exact⟨c,λv=>by rw[nf,d v,cnt,cnt,b v]⟩
theorem nj{xs qs:Bg}(h:Cn qs)(e:∀v,cnt v qs=cnt v xs):qs=nf xs:=h.one (dT xs).1 λv=>(e v).trans ((dT xs).2 v).symm
theorem Nx{xs ys:Bg}(e:∀v,cnt v xs=cnt v ys):nf xs=nf ys:=nj (dT xs).1 λv=>((dT xs).2 v).trans (e v)
theorem Ny{xs:Bg}(h:Cn xs):nf xs=xs:=(nj h λ_=>rfl).symm
theorem h8:∀{xs:Bg}{p:Val×Int},p∈nf xs->∃q∈xs,q.1=p.1
 |[],_,h=>nomatch h
 |x::r,p,h=>by
  rw[nf]at h;rcases u0 h with z |z
  ·exact⟨x,Za,z.symm⟩
  ·obtain⟨q,a,b⟩:=h8 z;exact⟨q,Zc _ a,b⟩
theorem B9{p:Val×Int}:∀{r:Bg},(ins p r).length<=r.length+1
 |[]=>by rw[ins];split <;> simp
 |q::r=>by
  rw[ins];have:=@B9 p r
  repeat' split
  all_goals simp
  all_goals lia
theorem u9:∀(xs:Bg),(nf xs).length<=xs.length
 |[]=>Y8 _
 |p::r=>Y9 B9 (Nat.succ_le_succ (u9 r))
mutual
theorem vb:∀(x y:Val),vT x=vT y->x=y
 |.num i,y,h=>by cases y <;> simp [vT]at h <;> first |(rw[h]) |(exact absurd h.1 (by decide +kernel)) |(exact absurd h (by decide +kernel))
 |.word i,y,h=>by cases y <;> simp [vT]at h <;> first |(rw[h]) |(exact absurd h.1 (by decide +kernel)) |(exact absurd h (by decide +kernel))
 |.row ps,y,h=>by cases y <;> simp [vT]at h <;> first |(rw[B' ps _ h]) |(exact absurd h.1 (by decide +kernel)) |(exact absurd h (by decide +kernel))
 |.ag ps,y,h=>by cases y <;> simp [vT]at h <;> first |(rw[Cb ps _ h]) |(exact absurd h.1 (by decide +kernel)) |(exact absurd h (by decide +kernel))
theorem B':∀(ps qs:List (Str×Val)),vR ps=vR qs->ps=qs
 |[],qs,h=>by cases qs with
  |nil=>rfl
  |cons q qs=>simp [vR]at h
 |p::ps,qs,h=>by cases qs with
  |nil=>simp [vR]at h
  |cons q qs=>
   simp only[vR,List.cons.injEq,Dt.tup.injEq,Dt.str.injEq,and_true]at h;rw[B' ps qs h.2,Prod.ext h.1.1 (vb p.2 q.2 h.1.2)]
theorem Cb:∀(ps qs:Bg),vB ps=vB qs->ps=qs
 |[],qs,h=>by cases qs with
  |nil=>rfl
  |cons q qs=>simp [vB]at h
 |p::ps,qs,h=>by cases qs with
  |nil=>simp [vB]at h
  |cons q qs=>
   simp only[vB,List.cons.injEq,Dt.tup.injEq,Dt.int.injEq,and_true]at h;rw[Cb ps qs h.2,Prod.ext (vb p.1 q.1 h.1.1) h.1.2]
end
mutual
def aG:Kd->Val->Prop
 |.num,v=>∃i,v=.num i
 |.word,v=>∃s,v=.word s
 |.row fs,v=>∃ps,v=.row ps/\bN fs ps
 |.ag k,v=>∃ps,v=.ag ps/\Cn ps/\∀p∈ps,aG k p.1
def bN:List (Str×Kd)->List (Str×Val)->Prop
 |[],ps=>ps=[]
 |(f,k)::r,ps=>∃v qs,ps=(f,v)::qs/\aG k v/\bN r qs
end
mutual
theorem pX:∀(k:Kd)(v:Val),aG k v->cf (vT v)<=3 * kd k/\cf (ky v)<=3 * kd k
 |.num,v,h=>by rw[aG]at h;obtain⟨i,rfl⟩:=h;exact⟨Zj _,Zj _⟩
 |.word,v,h=>by rw[aG]at h;obtain⟨i,rfl⟩:=h;exact⟨Zj _,Zj _⟩
 |.row fs,v,h=>by
  rw[aG]at h;obtain⟨ps,rfl,h⟩:=h;obtain⟨a,b⟩:=Cc fs ps h;rw[vT,ky,kd];simp only[cf,Dt.aI];lia
 |.ag k,v,h=>by
  rw[aG]at h;obtain⟨ps,rfl,hc,h⟩:=h;clear hc;have:cf (vB ps)<=3 * kd k+2/\cf (cR ps)<=3 * kd k+2:=by
   induction ps with
   |nil=>exact⟨Zj _,Zj _⟩
   |cons p ps ih=>
    obtain⟨a,b⟩:=ih λq hq=>h q (Zc _ hq);obtain⟨c,d⟩:=pX k p.1 (h p Za);rw[vB,cR];simp only[cf,Dt.aI];lia
  rw[vT,ky,kd];simp only[cf,Dt.aI];lia
theorem Cc:∀(fs:List (Str×Kd))(ps:List (Str×Val)),bN fs ps->cf (vR ps)<=3 * cj fs+2/\cf (cQ ps)<=3 * cj fs+2
 |[],ps,h=>by rw[bN]at h;subst h;exact⟨Zj _,Zj _⟩
 |(f,k)::r,ps,h=>by
  rw[bN]at h;obtain⟨v,qs,rfl,h1,h2⟩:=h;obtain⟨a,b⟩:=Cc r qs h2;obtain⟨c,d⟩:=pX k v h1;rw[vR,cQ,cj];simp only[cf,Dt.aI];lia
end
mutual
def eF:Val->Prop
 |.num _=>True
 |.word _=>True
 |.row ps=>ps.length<1000/\kR ps
 |.ag ps=>ps.length<sizeLine/\kT ps
def kR:List (Str×Val)->Prop
 |[]=>True
 |p::ps=>eF p.2/\kR ps
def kT:Bg->Prop
 |[]=>True
 |p::ps=>eF p.1/\kT ps
end
theorem Cd:∀{ps:Bg},kT ps ↔ ∀p∈ps,eF p.1
 |[]=>⟨λ_ _ h=>(nomatch h),λ_=>trivial⟩
 |p::ps=>by rw[kT,Cd];simp
theorem Ce:∀{ps:List (Str×Val)},kR ps ↔ ∀p∈ps,eF p.2
 |[]=>⟨λ_ _ h=>(nomatch h),λ_=>trivial⟩
 |p::ps=>by rw[kR,Ce];simp
noncomputable def bv:Val->Bg
 |.ag ps=>ps
 |_=>[]
noncomputable def iv:Val->Int
 |.num i=>i
 |_=>0
noncomputable def UI(f:Str):List (Str×Val)->Val
 |[]=>.num 0
 |p::ps=>if f=p.1 then p.2 else UI f ps
noncomputable def fld(f:Str):Val->Val
 |.row ps=>UI f ps
 |_=>.num 0
abbrev Vn:=Str->Val
noncomputable def Vn.put(ρ:Vn)(x:Str)(v:Val):Vn:=λy=>if y=x then v else ρ y
noncomputable def cG(ps:Bg)(g:Val->Bg):Bg:=ps.flatMap λp=>(g p.1).map λq=>(q.1,p.2 * q.2)
mutual
noncomputable def ah(σ:Vn):Qn->Vn->Val
 |.num i,_=>.num i
 |.word s,_=>.word s
 |.var x,ρ=>ρ x
 |.tab x,_=>σ x
 |.none _,_=>.ag []
 |.row fs,ρ=>.row (b5 σ fs ρ)
 |.at f q,ρ=>fld f (ah σ q ρ)
 |.add a b,ρ=>.num (iv (ah σ a ρ)+iv (ah σ b ρ))
 |.mul a b,ρ=>.num (iv (ah σ a ρ) * iv (ah σ b ρ))
 |.one q,ρ=>.ag [(ah σ q ρ,1)]
 |.both a b,ρ=>.ag (nf (bv (ah σ a ρ)++bv (ah σ b ρ)))
 |.times i q,ρ=>.ag (nf ((bv (ah σ q ρ)).map λp=>(p.1,i * p.2)))
 |.for x a b,ρ=>.ag (nf (cG (bv (ah σ a ρ)) λv=>bv (ah σ b (ρ.put x v))))
 |.aZ c q,ρ=>if bu σ c ρ=true then ah σ q ρ else .ag []
 |.let x a b,ρ=>ah σ b (ρ.put x (ah σ a ρ))
 |.same _ _,_=>.num 0
 |.under _ _,_=>.num 0
 |.and _ _,_=>.num 0
 |.or _ _,_=>.num 0
 |.not _,_=>.num 0
noncomputable def b5(σ:Vn):List (Str×Qn)->Vn->List (Str×Val)
 |[],_=>[]
 |(f,q)::r,ρ=>(f,ah σ q ρ)::b5 σ r ρ
noncomputable def bu(σ:Vn):Qn->Vn->Bool
 |.same a b,ρ=>decide (ah σ a ρ=ah σ b ρ)
 |.under a b,ρ=>decide (iv (ah σ a ρ)<iv (ah σ b ρ))
 |.and a b,ρ=>bu σ a ρ && bu σ b ρ
 |.or a b,ρ=>bu σ a ρ ||bu σ b ρ
 |.not a,ρ=>!bu σ a ρ
 |_,_=>false
end
def c5(G:Sc)(ρ:Vn):Prop:=∀x k,NQ.lk x G=some k->aG k (ρ x)
def gH(S:Str->Option Kd)(σ:Vn):Prop:=∀x k,S x=some k->aG (.ag k) (σ x)
theorem c5.put{G:Sc}{ρ:Vn}{x:Str}{k:Kd}{v:Val}(h:c5 G ρ)(hv:aG k v):c5 ((x,k)::G) (ρ.put x v):=λy l e=>by
 rw[NQ.lk]at e;unfold Vn.put;split at e
 ·rename_i z;cases e;rw[if_pos z];exact hv
 ·rename_i z;rw[if_neg z];exact h y l e
theorem bV{k:Kd}{v:Val}(h:aG (.ag k) v):v=.ag (bv v)/\Cn (bv v)/\∀p∈bv v,aG k p.1:=by
 rw[aG]at h;obtain⟨ps,rfl,a,b⟩:=h;exact⟨rfl,a,b⟩
theorem jj{v:Val}(h:aG .num v):v=.num (iv v):=by rw[aG]at h;obtain⟨i,rfl⟩:=h;rfl
theorem nk{k:Kd}{xs:Bg}(h:∀p∈xs,aG k p.1):aG (.ag k) (.ag (nf xs)):=by
 rw[aG];exact⟨_,rfl,(dT xs).1,λp hp=>by obtain⟨q,a,b⟩:=h8 hp;rw[<- b];exact h q a⟩
theorem Cg{f:Str}{k:Kd}:∀{fs:List (Str×Kd)}{ps:List (Str×Val)},bN fs ps->NQ.lk f fs=some k->aG k (UI f ps)
 |[],_,_,e=>nomatch e
 |(g,l)::r,ps,h,e=>by
  rw[bN]at h;obtain⟨v,qs,rfl,h1,h2⟩:=h;rw[NQ.lk]at e;rw[UI];split at e
  ·rename_i z;cases e;rw[if_pos z];exact h1
  ·rename_i z;rw[if_neg z];exact Cg h2 e
theorem vc{ps:Bg}{g:Val->Bg}{x:Val×Int}(h:x∈cG ps g):∃p∈ps,∃q∈g p.1,x=(q.1,p.2 * q.2):=by
 obtain⟨p,hp,h⟩:=List.mem_flatMap.mp h;obtain⟨q,hq,e⟩:=List.mem_map.mp h;exact⟨p,hp,q,hq,e.symm⟩
theorem bI{S:Str->Option Kd}{σ:Vn}(hσ:gH S σ):(∀{G:Sc}{q:Qn}{k:Kd},Ty S G q k->∀ ρ,c5 G ρ->aG k (ah σ q ρ)):=by
 refine (Ty.all (S:=S) (P:=λG q k=>∀ ρ,c5 G ρ->aG k (ah σ q ρ)) (L:=λG fs ks=>∀ ρ,c5 G ρ->bN ks (b5 σ fs ρ)) (C:=λ_ _=>True)
  (fun ρ _=>⟨_,rfl⟩) (fun ρ _=>⟨_,rfl⟩) (λh ρ e=>e _ _ h) (λh ρ _=>hσ _ _ h) (λ_ _ ρ _=>⟨[],rfl,⟨.nil,λ_ h=>nomatch h⟩,λ_ h=>nomatch h⟩)
  (λ_ _ h ρ e=>⟨_,rfl,h ρ e⟩) (λ_ h l ρ e=>?_) (λ_ _ ρ _=>⟨_,rfl⟩) (λ_ _ ρ _=>⟨_,rfl⟩)
  (λh ρ e=>⟨_,rfl,⟨ZT _ _,λp hp=>by rw[List.mem_singleton.mp hp];show (1:Int)≠0;decide⟩,λp hp=>by rw[List.mem_singleton.mp hp];exact h ρ e⟩)
  (λ_ ha hb ρ e=>nk λp hp=>?_) (λh ρ e=>nk λp hp=>?_) (λ_ ha hb ρ e=>nk λp hp=>?_) (λ_ h ρ e=>?_) (λ_ ha hb ρ e=>hb _ (e.put (ha ρ e)))
  (λ_ _=>rfl) (λha hb ρ e=>⟨_,_,rfl,ha ρ e,hb ρ e⟩) (λ_ _=>trivial) (λ_ _=>trivial) (λ_ _=>trivial) (λ_ _=>trivial) (λ_ _=>trivial) (λ_=>trivial)).1
 ·have:=h ρ e;rw[aG]at this;obtain⟨ps,e1,h2⟩:=this;rw[ah,e1];exact Cg h2 l
 ·rcases List.mem_append.mp hp with z |z
  ·exact (bV (ha ρ e)).2.2 p z
  ·exact (bV (hb ρ e)).2.2 p z
 ·obtain⟨q,hq,rfl⟩:=List.mem_map.mp hp;exact (bV (h ρ e)).2.2 q hq
 ·obtain⟨a,h1,b,h2,rfl⟩:=vc hp;exact (bV (hb _ (e.put ((bV (ha ρ e)).2.2 a h1)))).2.2 b h2
 ·rw[ah];split
  ·exact h ρ e
  ·exact⟨[],rfl,⟨.nil,λ_ h=>nomatch h⟩,λ_ h=>nomatch h⟩
noncomputable def bw(c:Nat):Nat:=2 ^ (200 * c-100)
mutual
def Bd(c:Nat):Val->Nat->Prop
 |.num i,_=>i.natAbs<bw c
 |.word _,_=>True
 |.row ps,L=>ps.length<1000/\cA c ps L
 |.ag ps,L=>ps.length<=L/\dw c ps
def cA(c:Nat):List (Str×Val)->Nat->Prop
 |[],_=>True
 |p::ps,L=>Bd c p.2 L/\cA c ps L
def dw(c:Nat):Bg->Prop
 |[]=>True
 |p::ps=>(p.2.natAbs<bw c/\Bd c p.1 c)/\dw c ps
end
theorem pY{c:Nat}:∀{ps:Bg},dw c ps ↔ ∀p∈ps,p.2.natAbs<bw c/\Bd c p.1 c
 |[]=>⟨λ_ _ h=>(nomatch h),λ_=>trivial⟩
 |p::ps=>by rw[dw,pY];simp
theorem vd{c L:Nat}:∀{ps:List (Str×Val)},cA c ps L ↔ ∀p∈ps,Bd c p.2 L
 |[]=>⟨λ_ _ h=>(nomatch h),λ_=>trivial⟩
 |p::ps=>by rw[cA,vd];simp
theorem gI{c c':Nat}(h:c<=c'):bw c<=bw c':=Zx (by decide) (by lia)
mutual
theorem Bd.up{c c':Nat}(hc:c<=c'):∀{v:Val}{L L':Nat},L<=L'->Bd c v L->Bd c' v L'
 |.num i,_,_,_,h=>by rw[Bd]at h ⊢;exact Zq h (gI hc)
 |.word _,_,_,_,h=>trivial
 |.row ps,_,_,l,h=>by rw[Bd]at h ⊢;exact⟨h.1,cA.up hc l h.2⟩
 |.ag ps,_,_,l,h=>by rw[Bd]at h ⊢;exact⟨Y9 h.1 l,dw.up hc h.2⟩
theorem cA.up{c c':Nat}(hc:c<=c'):∀{ps:List (Str×Val)}{L L':Nat},L<=L'->cA c ps L->cA c' ps L'
 |[],_,_,_,_=>trivial
 |p::ps,_,_,l,h=>by rw[cA]at h ⊢;exact⟨Bd.up hc l h.1,cA.up hc l h.2⟩
theorem dw.up{c c':Nat}(hc:c<=c'):∀{ps:Bg},dw c ps->dw c' ps
 |[],_=>trivial
 |p::ps,h=>by rw[dw]at h ⊢;exact⟨⟨Zq h.1.1 (gI hc),Bd.up hc hc h.1.2⟩,dw.up hc h.2⟩
end
mutual
theorem Bd.ok{c:Nat}(hc:c<sizeLine):∀{v:Val}{L:Nat},L<sizeLine->Bd c v L->eF v
 |.num i,_,_,_=>trivial
 |.word _,_,_,_=>trivial
 |.row ps,_,l,h=>by rw[Bd]at h;rw[eF];exact⟨h.1,cA.ok hc l h.2⟩
 |.ag ps,_,l,h=>by rw[Bd]at h;rw[eF];exact⟨Zd h.1 l,dw.ok hc h.2⟩
theorem cA.ok{c:Nat}(hc:c<sizeLine):∀{ps:List (Str×Val)}{L:Nat},L<sizeLine->cA c ps L->kR ps
 |[],_,_,_=>trivial
 |p::ps,_,l,h=>by rw[cA]at h;rw[kR];exact⟨Bd.ok hc l h.1,cA.ok hc l h.2⟩
theorem dw.ok{c:Nat}(hc:c<sizeLine):∀{ps:Bg},dw c ps->kT ps
 |[],_=>trivial
 |p::ps,h=>by rw[dw]at h;rw[kT];exact⟨Bd.ok hc hc h.1.2,dw.ok hc h.2⟩
end
theorem ve{m:Nat}{v:Val}:∀{xs:Bg},(∀p∈xs,p.2.natAbs<=m)->(cnt v xs).natAbs<=xs.length * m
 |[],_=>by rw[cnt];simp
 |p::xs,h=>by
  have:=ve (v:=v) (xs:=xs) λq hq=>h q (Zc _ hq);have hp:=h p Za;rw[cnt,Zg,Nat.succ_mul];split <;> lia
theorem Cn.get:∀{ps:Bg},Cn ps->∀{p},p∈ps->cnt p.1 ps=p.2
 |q::ps,h,p,hp=>by
  rw[cnt];rcases List.mem_cons.mp hp with rfl |hm
  ·rw[if_pos rfl,h.hd (.inr rfl)];lia
  ·have:=(List.pairwise_cons.mp h.up).1 p hm;rw[if_neg (λe=>Lv.eA (e ▸ this)),Cn.get h.tl hm];lia
theorem pZ{c L m:Nat}{xs:Bg}(hl:xs.length<=L)(hm:∀p∈xs,p.2.natAbs<=m/\Bd c p.1 c)(h:L * m<bw c):Bd c (.ag (nf xs)) L:=by
 rw[Bd];refine⟨Y9 (u9 xs) hl,pY.mpr λp hp=>⟨?_,?_⟩⟩
 ·have:=(dT xs).1.get hp;rw[(dT xs).2]at this;rw[<- this];exact Zd (Y9 (ve λq hq=>(hm q hq).1) (ZE m hl)) h
 ·obtain⟨q,a,b⟩:=h8 hp;rw[<- b];exact (hm q a).2
end NV
end
section
namespace K97
open PySem N NQ NV
open L2
variable{w:Wo}
theorem nr{M:Mp}{p:Addr}{o:MO}(h:M p=some o):up M p o=M:=funext λb=>by
 by_cases e:b=p
 ·rw[e,ak,h]
 ·rw[av e]
theorem Ci:∀ps:List (Str×Val),aL (vR ps)=ps.map λp=>D.tup [.str p.1,vD p.2]
 |[]=>rfl
 |p::ps=>by rw[vR,aL,Ci ps];rfl
theorem Cj:∀ps:List (Str×Val),aL (cQ ps)=ps.map λp=>D.tup [.str p.1,tu (ky p.2)]
 |[]=>rfl
 |p::ps=>by rw[cQ,aL,Cj ps];rfl
noncomputable def pD(p:Val×Int):D:=.tup [vD p.1,.int p.2]
theorem Ck:∀ps:NV.Bg,aL (vB ps)=ps.map pD
 |[]=>rfl
 |p::ps=>by rw[vB,aL,Ck ps];rfl
theorem Cm:∀ps:NV.Bg,aL (cR ps)=ps.map λp=>D.tup [tu (ky p.1),.int p.2]
 |[]=>rfl
 |p::ps=>by rw[cR,aL,Cm ps];rfl
theorem p0(ps:List (Str×Val)):vD (.row ps)=.tup [.str "row",.tup (ps.map λp=>D.tup [.str p.1,vD p.2])]:=by rw[<- Ci];rfl
theorem kU(ps:NV.Bg):vD (.ag ps)=.tup [.str "bag",.tup (ps.map pD)]:=by rw[<- Ck];rfl
noncomputable def Nz:B:=.cons (.ret (.tup (.cons (.c (.int 3)) (.cons (.bi .tuple (.cons (.lc 2 [] (.many [0,1]) (.seq (.ix (.v 0) (.c (.int 1)))) .ar (.tup (.cons (.call 11 (.cons (.v 0) .nil)) (.cons (.v 1) .nil)))) .nil)) .nil)))) .nil
noncomputable def NA:B:=.cons (.cond (.cmp .Eq (.ix (.v 0) (.c (.int 0))) (.c (.str "row"))) (.cons (.ret (.tup (.cons (.c (.int 2)) (.cons (.bi .tuple (.cons (.lc 2 [] (.many [0,1]) (.seq (.ix (.v 0) (.c (.int 1)))) .ar (.tup (.cons (.v 0) (.cons (.call 11 (.cons (.v 1) .nil)) .nil)))) .nil)) .nil)))) .nil) .nil) Nz
noncomputable def NB:B:=.cons (.cond (.or (.cmp .Eq (.ix (.v 0) (.c (.int 0))) (.c (.str "num"))) (.cmp .Eq (.ix (.v 0) (.c (.int 0))) (.c (.str "word")))) (.cons (.ret (.tup (.cons (.mt .index (.lst (.cons (.c (.str "num")) (.cons (.c (.str "word")) .nil))) (.cons (.ix (.v 0) (.c (.int 0))) .nil)) (.cons (.ix (.v 0) (.c (.int 1))) .nil)))) .nil) .nil) NA
theorem NC:aO ["value"] ["value"] (ao (ae 17)):=⟨rfl,rfl,rfl,by decide +kernel,rfl,by decide +kernel,by decide +kernel⟩
theorem ND:aQ nm 40 ["value"] (ao (ae 17)) (aH (ae 17))=NB:=by kernel_rfl
def vf(n:Nat):Sp:=λds M Q _=>∃v k,ds=[vD v]/\aG k v/\kd k<=n/\eF v/\Q (tu (ky v)) M
theorem Co:∀k:Kd,1<=kd k:=λk=>by cases k <;> (rw[kd];lia)
theorem Cp:∀{fs:List (Str×Kd)}{ps:List (Str×Val)},bN fs ps->∀p∈ps,∃k,aG k p.2/\kd k<=cj fs
 |[],ps,h,p,hp=>by rw[bN]at h;subst h;cases hp
 |(f,k)::r,ps,h,p,hp=>by
  rw[bN]at h;obtain⟨v,qs,rfl,h1,h2⟩:=h;rw[cj];rcases List.mem_cons.mp hp with rfl |hp
  ·exact⟨k,h1,ZI _ _⟩
  ·obtain⟨l,a,b⟩:=Cp h2 p hp;exact⟨l,a,Y9 b (ZQ _ _)⟩
theorem Cr(O:Lw w):∀n,FO w 11 (n+1) (vf n)
 | 0=>by
  refine FO.imp (kH O.ok (by rw[O.hd];rfl) (cs:=[]) trivial) λds M Q E ⟨v,k,_,_,h,_⟩=>?_;have:=Co k;lia
 |n+1=>by
  refine bh O.ok O.hn _ ⟨"_law_key",ae 17,["value"]⟩ (by rw[O.hd];rfl) { cs:=[(11,vf n)] } { cs:=⟨⟨n+1,Y8 _,Cr O n⟩,trivial⟩ } NC ND λds M Q _ h=>?_;obtain⟨v,k,rfl,hv,hk,ho,h⟩:=h;have i0:((["num","word"]:List Str).idxOf ("num" : Str):Int)=0:=by decide +kernel
  have i1:((["num","word"]:List Str).idxOf ("word" : Str):Int)=1:=by decide +kernel
  cases v with
  |num i=>
   refine⟨rfl,_,rfl,aj (aJ (by decide) (aJ rfl ⟨l2,.inl ⟨rfl,_,rfl,["num","word"],rfl,by decide +kernel,_,rfl,l2,?_⟩⟩))⟩;rw[i0];exact aC h
  |word i=>
   refine⟨rfl,_,rfl,aj (ai (by decide) ⟨_,rfl,aj (aJ (by decide) ⟨l2,.inl ⟨rfl,_,rfl,["num","word"],rfl,by decide +kernel,_,rfl,l2,?_⟩⟩)⟩)⟩;rw[i1];exact aC h
  |row ps=>
   rw[eF]at ho;obtain⟨fs,rfl,hr⟩:∃fs,k=.row fs/\bN fs ps:=by
    cases k with
    |row fs=>rw[aG]at hv;obtain⟨qs,e,h⟩:=hv;cases e;exact⟨fs,rfl,h⟩
    |num=>rw[aG]at hv;obtain⟨_,e⟩:=hv;cases e
    |word=>rw[aG]at hv;obtain⟨_,e⟩:=hv;cases e
    |ag k=>rw[aG]at hv;obtain⟨_,e,_⟩:=hv;cases e
   rw[kd]at hk;rw[p0];refine⟨rfl,_,rfl,aj (ai (by decide) ⟨_,rfl,aj (ai (by decide) ⟨_,rfl,aj (aJ (by decide) ⟨_,rfl,?_⟩)⟩)⟩)⟩;have lz:ps.length<sizeLine:=Zq ho.1 (by decide);refine m7 (M:=M) (λp=>D.tup [.str p.1,vD p.2]) (λp=>D.tup [.str p.1,tu (ky p.2)]) ps (by trivial) lz (λp hp N hN=>?_) ?_
   ·obtain⟨l,a,b⟩:=Cp hr p hp;exact⟨rfl,p.2,l,rfl,a,by lia,Ce.mp ho.2 p hp,l2,hN⟩
   ·refine .inl ⟨l2,aC ?_⟩;have e:tu (ky (.row ps))=.tup [.int 2,.tup (ps.map λp=>D.tup [.str p.1,tu (ky p.2)])]:=(by rw[<- Cj];rfl);rw[e]at h;exact h
  |ag ps=>
   rw[eF]at ho;obtain⟨l,rfl,hr⟩:∃l,k=.ag l/\∀p∈ps,aG l p.1:=by
    cases k with
    |row fs=>rw[aG]at hv;obtain⟨_,e,_⟩:=hv;cases e
    |num=>rw[aG]at hv;obtain⟨_,e⟩:=hv;cases e
    |word=>rw[aG]at hv;obtain⟨_,e⟩:=hv;cases e
    |ag k=>rw[aG]at hv;obtain⟨_,e,_,h⟩:=hv;cases e;exact⟨k,rfl,h⟩
   rw[kd]at hk;rw[kU];refine⟨rfl,_,rfl,aj (ai (by decide) ⟨_,rfl,aj (ai (by decide) ⟨_,rfl,aj (ai (by decide) ⟨_,rfl,?_⟩)⟩)⟩)⟩;refine m7 (M:=M) pD (λp=>D.tup [tu (ky p.1),.int p.2]) ps (by trivial) ho.1 (λp hp N hN=>?_) ?_
   ·exact⟨rfl,p.1,l,rfl,hr p hp,by lia,Cd.mp ho.2 p hp,l2,hN⟩
   ·refine .inl ⟨l2,aC ?_⟩;have e:tu (ky (.ag ps))=.tup [.int 3,.tup (ps.map λp=>D.tup [tu (ky p.1),.int p.2])]:=(by rw[<- Cm];rfl);rw[e]at h;exact h
variable{w:Wo}
theorem NF{n:Bool}{p:Addr}{ds:List D}{M:Mp}{k:Bool->Prop}(h:M p=some (.lst ds))(q:k ds.isEmpty):fF n (.ref p) (.lst []) M k:=by
 have r:b9 (.ref p) M=.lst ds:=by show lW p (M p)=_;rw[h];rfl
 refine .mk (by rw[r];exact .inr ⟨rfl,rfl⟩) ?_;rw[r];have:aw (.lst ds) (.lst [])=ds.isEmpty:=by show bo ds []=_;cases ds <;> rfl
 show k (aw (.lst ds) (.lst []));rw[this];exact q
theorem p3{n:Bool}{k:Kd}{u v:Val}{M:Mp}{c:Bool->Prop}(hu:aG k u)(hk:kd k<=21)(q:c (decide (u=v))):fF n (vD u) (vD v) M c:=by
 have e:aw (vD u) (vD v)=decide (u=v):=by
  show aw (tD (.tup (vT u))) (tD (.tup (vT v)))=_;rw[tL];by_cases h:u=v
  ·rw[decide_eq_true h,decide_eq_true (by rw[h])]
  ·rw[decide_eq_false h,decide_eq_false (λz=>h (vb _ _ (by injection z)))]
 have d:=(pX k u hu).1;refine .mk (.inl ⟨pq _,pq _,?_⟩) ?_
 ·show N.aI (tD (.tup (vT u)))<=100;rw[tK,Dt.aI];lia
 ·show c (aw (vD u) (vD v));rw[e];exact q
noncomputable def NG:B:=(.cons (.loop (.many [3,4]) (.seq (.ix (.v 1) (.c (.int 1)))) (.cons (.ex (.mt .append (.v 0) (.cons (.tup (.cons (.v 3) (.cons (.op .Mult (.v 2) (.v 4)) .nil))) .nil))) .nil)) .nil)
theorem NI:aO ["counts","bag","many","value","count"] ["counts","bag","many"] (ao (ae 19)):=⟨rfl,rfl,rfl,by decide +kernel,rfl,by decide +kernel,by decide +kernel⟩
theorem NJ:aQ nm 40 ["counts","bag","many","value","count"] (ao (ae 19)) (aH (ae 19))=NG:=by kernel_rfl
noncomputable def sc(m:Int)(ps:NV.Bg):NV.Bg:=ps.map λq=>(q.1,m * q.2)
def nu:Sp:=λds M Q _=>∃p xs ps m,ds=[.ref p,vD (.ag ps),.int m]/\M p=some (.lst (xs.map pD))/\xs.length+ps.length<sizeLine/\(∀q∈ps,CM m q.2)/\Q .az (up M p (.lst ((xs++sc m ps).map pD)))
theorem p5(O:Lw w):FO w 13 1 nu:=by
 refine bh O.ok O.hn _ ⟨"_law_add",ae 19,["counts","bag","many"]⟩ (by rw[O.hd];rfl) {} { cs:=trivial } NI NJ λds M Q _ h=>?_;obtain⟨p,xs,ps,m,rfl,hp,hl,hm,h⟩:=h;rw[kU];refine⟨rfl,_,rfl,?_⟩;refine cZ (λys τ M'=>∃pre rest u v,ys=rest.map pD/\ps=pre++rest/\τ=[some (.ref p),some (.tup [.str "bag",.tup (ps.map pD)]),some (.int m),u,v]/\M'=up M p (.lst ((xs++sc m pre).map pD))) ?_ ?_ _ _ _ ⟨[],ps,none,none,rfl,rfl,rfl,by rw[sc,Z',Zu];exact (nr hp).symm⟩
 ·rintro τ M' ⟨pre,rest,u,v,e1,e2,rfl,rfl⟩;have:rest=[]:=by simpa using e1.symm
  subst this;rw[Zu]at e2;subst e2;exact⟨trivial,.rfl (aC h)⟩
 ·rintro y ys τ M' ⟨pre,rest,u,v,e1,e2,rfl,rfl⟩;cases rest with
  |nil=>cases e1
  |cons q rest=>
   cases e1;have hq:q∈ps:=(by rw[e2];simp);have lp:pre.length+1<=ps.length:=(by rw[e2];simp);refine⟨trivial,λN hN=>⟨rfl,⟨rfl,_,ak⟩,hm q hq,l2,_,ak,?_,hN _ _ ⟨pre++[q],rest,_,_,rfl,by rw[e2];simp,rfl,?_⟩⟩⟩
   ·rw[Y6,Zi];unfold sc;rw[Y6];lia
   ·rw[_root_.N.bj];unfold sc;rw[Zt (l₁:=pre),Zt (l₁:=xs),Zt (l₁:=xs),Zt (l₁:=pre.map _),Zl];rfl
noncomputable def dM(q:Val×Int):List Dt:=[.tup (ky q.1),.tup (vT q.1),.int q.2]
theorem NK(a b:Val×Int):bH (dM a) (dM b):=by
 by_cases e:a.1=b.1
 ·unfold dM;rw[e];exact gG (gG (uZ ji))
 ·have n:ky a.1≠ky b.1:=λz=>e (ni _ _ z);unfold bH dM;rw[aA,if_neg (λz=>n (by injection z)),aE];exact pW _ _
theorem NL{a b:Val×Int}(h:aA (dM b) (dM a)=some false):a.1=b.1\/Lv a.1 b.1:=by
 by_cases e:b.1=a.1
 ·exact .inl e.symm
 ·have n:ky b.1≠ky a.1:=λz=>e (ni _ _ z);unfold dM at h;rw[aA,if_neg (λz=>n (by injection z)),aE]at h;rcases (gu _ _ _ h).2 rfl with z |z
  ·exact absurd z n
  ·exact .inr z
structure fR(fs pre:NV.Bg):Prop where
 up:fs.Pairwise λa b=>Lv a.1 b.1
 c:∀v,cnt v fs=cnt v pre
 m:∀a∈fs,∃b∈pre,b.1=a.1
 l:fs.length<=pre.length
theorem vg(v:Val)(q:Val×Int):cnt v [q]=if q.1=v then q.2 else 0:=by rw[cnt,cnt];lia
theorem fR.same{kW pre:NV.Bg}{f q:Val×Int}(h:fR (kW++[f]) pre)(e:f.1=q.1):fR (kW++[(q.1,q.2+f.2)]) (pre++[q]) where
 up:=by
  have:=List.pairwise_append.mp h.up;exact List.pairwise_append.mpr ⟨this.1,ZT _ _,λa ha b hb=>by rw[List.mem_singleton.mp hb];show Lv a.1 q.1;rw[<- e];exact this.2.2 a ha f (List.mem_singleton.mpr rfl)⟩
 c v:=by
  have:=h.c v;rw[fg,vg]at this;rw[fg,fg,vg,vg,<- this,e];dsimp only;split <;> lia
 m a ha:=by
  rcases List.mem_append.mp ha with z |z
  ·obtain⟨b,x,y⟩:=h.m a (ZG _ z);exact⟨b,ZG _ x,y⟩
  ·rw[List.mem_singleton.mp z];exact⟨q,by simp,rfl⟩
 l:=by have:=h.l;simp at this ⊢;lia
theorem fR.snoc{fs pre:NV.Bg}{q:Val×Int}(h:fR fs pre)(l:∀a∈fs,Lv a.1 q.1):fR (fs++[q]) (pre++[q]) where
 up:=List.pairwise_append.mpr ⟨h.up,ZT _ _,λa ha b hb=>by rw[List.mem_singleton.mp hb];exact l a ha⟩
 c v:=by rw[fg,fg,h.c]
 m a ha:=by
  rcases List.mem_append.mp ha with z |z
  ·obtain⟨b,x,y⟩:=h.m a z;exact⟨b,ZG _ x,y⟩
  ·rw[List.mem_singleton.mp z];exact⟨q,by simp,rfl⟩
 l:=by have:=h.l;simp;lia
theorem fR.fin{fs pre:NV.Bg}(h:fR fs pre):fs.filter (λp=>decide (p.2≠0))=nf pre:=by
 refine nj ⟨h.up.sublist List.filter_sublist,λp hp=>of_decide_eq_true (List.mem_filter.mp hp).2⟩ λv=>?_;rw[<- h.c v];have:∀fs:NV.Bg,cnt v (fs.filter λp=>decide (p.2≠0))=cnt v fs:=λfs=>by
  induction fs with
  |nil=>rfl
  |cons p fs ih=>
   rw[List.filter_cons];split
   ·rw[cnt,cnt,ih]
   ·rename_i z;have z:p.2=0:=Classical.byContradiction λy=>z (decide_eq_true y);rw[cnt,ih,z];split <;> lia
 exact this fs
noncomputable def Cs:S->B
 |.loop _ _ b=>b
 |_=>.nil
noncomputable def NM:B:=.cons (.ret (.tup (.cons (.c (.str "bag")) (.cons (.bi .tuple (.cons (.lc 1 [] (.one 0) (.seq (.v 1)) (.cmp .NotEq (.ix (.v 0) (.c (.int 1))) (.c (.int 0))) (.v 0)) .nil)) .nil)))) .nil
noncomputable def Ct:B:=.cons (.loop (.many [2,3,4]) (.seq (.bi .sorted (.cons (.lc 1 [] (.one 0) (.seq (.v 0)) .ar (.op .Add (.tup (.cons (.call 11 (.cons (.ix (.v 0) (.c (.int 0))) .nil)) .nil)) (.v 0))) .nil))) (.cons (.cond (.and (.cmp .NotEq (.v 1) (.lst .nil)) (.cmp .Eq (.ix (.ix (.v 1) (.neg (.c (.int 1)))) (.c (.int 0))) (.v 3))) (.cons (.set (.one 4) (.op .Add (.v 4) (.ix (.mt .pop (.v 1) .nil) (.c (.int 1))))) .nil) .nil) (.cons (.ex (.mt .append (.v 1) (.cons (.tup (.cons (.v 3) (.cons (.v 4) .nil))) .nil))) .nil))) NM
noncomputable def NN:B:=.cons (.set (.one 1) (.lst .nil)) Ct
theorem NO:aO ["counts","found","key","row","many"] ["counts"] (ao (ae 18)):=⟨rfl,rfl,rfl,by decide +kernel,rfl,by decide +kernel,by decide +kernel⟩
theorem NP:aQ nm 40 ["counts","found","key","row","many"] (ao (ae 18)) (aH (ae 18))=NN:=by kernel_rfl
def kZ:Sp:=λds M Q _=>∃c xs k,ds=[.ref c]/\M c=some (.lst (xs.map pD))/\xs.length<sizeLine/\kd k<=21/\(∀p∈xs,aG k p.1/\eF p.1)/\Q (vD (.ag (nf xs))) M
noncomputable abbrev Cu(w:Wo):bD w:={ cs:=[(11,vf 21)] }
theorem ny(O:Lw w):FO w 12 23 kZ:=by
 refine bh O.ok O.hn _ ⟨"_law_bag",ae 18,["counts"]⟩ (by rw[O.hd];rfl) (Cu w) { cs:=⟨⟨22,by decide,Cr O 21⟩,trivial⟩ } NO NP λds M Q _ h=>?_;obtain⟨c,xs,k,rfl,hc,hl,hk,U,h⟩:=h;refine⟨rfl,Zj _,.inr λp hp=>?_⟩;have No:c≠p:=b7 hc hp;have dm:up M p (.lst []) c=some (.lst (xs.map pD)):=by rw[av No];exact hc
 refine⟨_,dm,?_⟩;refine m7 (M:=up M p (.lst [])) pD (λq=>tu (dM q)) xs dm hl (λq hq N hN=>?_) ?_
 ·exact⟨_,rfl,q.1,k,rfl,(U q hq).1,hk,(U q hq).2,l1,(by decide:1+2<=sizeLine),hN⟩
 refine .inl (.inr ⟨xs.map dM,"tuple",by rw[Z6];rfl,⟨λd hd=>?_,λd hd e he=>?_,λd hd=>?_⟩,by rw[Y6];exact aaj hl,λys eY hw=>.inl ?_⟩)
 ·obtain⟨q,_,rfl⟩:=List.mem_map.mp hd;exact⟨_,_,rfl,rfl⟩
 ·obtain⟨a,_,rfl⟩:=List.mem_map.mp hd;obtain⟨b,_,rfl⟩:=List.mem_map.mp he;exact NK a b
 ·obtain⟨q,hq,rfl⟩:=List.mem_map.mp hd;obtain⟨a,b⟩:=pX k q.1 (U q hq).1;unfold dM;simp only[cf,Dt.aI];lia
 obtain⟨zs,pz,rfl⟩:=tJ dM ys xs eY;have lz:zs.length=xs.length:=pz.length_eq;have Yi:zs.Pairwise λa b=>a.1=b.1\/Lv a.1 b.1:=(List.pairwise_map.mp hw).imp λz=>NL z;show fY _ _ _ _ _ _ _;refine cZ (λys τ M'=>∃pre rest fs u2 u3 u4,ys=rest.map (λq=>tu (dM q))/\zs=pre++rest/\fR fs pre/\τ=[some (.ref c),some (.ref p),u2,u3,u4]/\M'=up M p (.lst (fs.map pD))) ?_ ?_ _ _ _ ⟨[],zs,[],none,none,none,by rw[Z6];rfl,rfl,⟨.nil,λ_=>rfl,λ_ z=>(nomatch z),Y8 _⟩,rfl,rfl⟩
 ·rintro τ M' ⟨pre,rest,fs,u2,u3,u4,e1,e2,g,rfl,rfl⟩;have:rest=[]:=by simpa using e1.symm
  subst this;rw[Zu]at e2;subst e2;have lf:fs.length<sizeLine:=by have:=g.l;lia
  refine⟨trivial,.rfl ?_⟩;refine⟨_,ak,?_⟩;refine dQ (λys rs M1=>M1=up M p (.lst (fs.map pD))/\∃a b,ys=b.map pD/\fs=a++b/\rs=(a.filter λq=>decide (q.2≠0)).map pD) ?_ ?_ _ _ _ ⟨rfl,[],fs,rfl,rfl,rfl⟩
  ·rintro rs M1 ⟨rfl,a,b,e1,e2,rfl⟩;have:b=[]:=(by simpa using e1.symm);subst this;rw[Zu]at e2;subst e2;refine⟨ak,?_,.inl ⟨l2,gC hp rfl ?_⟩⟩
   ·rw[Y6];exact Zd (List.length_filter_le _ _) lf
   ·rw[kU]at h;rw[g.fin,<- Nx λv=>Nw v pz.symm];exact h
  ·rintro y ys rs M1 ⟨rfl,a,b,e1,e2,rfl⟩;cases b with
   |nil=>cases e1
   |cons q b=>
    cases e1;refine⟨ak,?_,λN hN=>⟨_,rfl,cz (aN (λz=>?_) λz=>?_)⟩⟩
    ·rw[Y6];exact Zd (Y9 (List.length_filter_le _ _) (by rw[e2];simp)) lf
    ·have z:q.2≠0:=(by simpa using z);have:=hN _ _ ⟨rfl,a++[q],b,rfl,by rw[e2];simp,rfl⟩;rw[List.filter_append,List.filter_cons,if_pos (decide_eq_true z),Zt]at this;exact this
    ·have z:q.2=0:=(by simpa using z);have:=hN _ _ ⟨rfl,a++[q],b,rfl,by rw[e2];simp,rfl⟩;rw[List.filter_append,List.filter_cons,if_neg (λy=>absurd z (of_decide_eq_true y)),List.filter_nil,Zu]at this;exact this
 ·rintro y ys τ M' ⟨pre,rest,fs,u2,u3,u4,e1,e2,g,rfl,rfl⟩;cases rest with
  |nil=>cases e1
  |cons q rest=>
   cases e1;have hq:∀a∈fs,a.1=q.1\/Lv a.1 q.1:=λa ha=>by
    obtain⟨b,x,y⟩:=g.m a ha;rw[<- y];exact (List.pairwise_append.mp (e2 ▸ Yi)).2.2 b x q Za
   have lp:pre.length+1<=zs.length:=(by rw[e2];simp);have Um:q∈xs:=pz.mem_iff.mp (by rw[e2];simp);have gl:=g.l;refine⟨trivial,λN hN=>⟨rfl,?_⟩⟩;show B.w (Cu w).wd nm.aq (Cs (ng Ct)) { cx Q with nx:=N,ct:=N,Uz:=_ } [some (.ref c),some (.ref p),some (tu (ky q.1)),some (vD q.1),some (.int q.2)] (up M p (.lst (fs.map pD)));refine ff λN2 jk=>?_;have app:∀(gs:NV.Bg)(m:Int),fR (gs++[(q.1,m)]) (pre++[q])->N2 [some (.ref c),some (.ref p),some (tu (ky q.1)),some (vD q.1),some (.int m)] (up M p (.lst (gs.map pD))):=λgs m UZ=>by
    refine jk _ _ ⟨⟨rfl,_,ak⟩,l2,_,ak,?_,hN _ _ ⟨pre++[q],rest,gs++[(q.1,m)],_,_,_,rfl,by rw[e2];simp,UZ,rfl,by rw[_root_.N.bj,Zt];rfl⟩⟩;have:=UZ.l;rw[Zi,Zi]at this;simp at this;rw[Y6];lia
   refine⟨Zj _,.inl (NF ak ?_)⟩;rcases List.eq_nil_or_concat fs with rfl |⟨kW,f,e⟩
   ·exact ai (by decide) (ai (by decide) (app [] q.2 (g.snoc λa ha=>(nomatch ha))))
   ·rw[List.concat_eq_append]at e;subst e;have hf:aG k f.1:=by
     obtain⟨b,x,y⟩:=g.m f (by simp);rw[<- y];exact (U b (pz.mem_iff.mp (by rw[e2];exact ZG _ x))).1
    have em:(kW++[f]).map pD=kW.map pD++[pD f]:=(by rw[Zt];rfl);refine aJ (by simp) (.inl ⟨_,ak,pD f,by rw[em];exact MW,_,rfl,p3 hf hk (aN (λz=>?_) λz=>?_)⟩)
    ·have z:f.1=q.1:=of_decide_eq_true z;refine⟨⟨rfl,_,ak⟩,_,ak,pD f,by rw[em];simp,_,rfl,?_⟩;have:=app kW (q.2+f.2) (g.same z);rw[_root_.N.bj,em,List.dropLast_concat];exact this
    ·have z:f.1≠q.1:=λy=>z (decide_eq_true y);refine app _ q.2 (g.snoc λa ha=>?_);have lf:Lv f.1 q.1:=(hq f (by simp)).resolve_left z;rcases List.mem_append.mp ha with y |y
     ·exact ((List.pairwise_append.mp g.up).2.2 a y f (List.mem_singleton.mpr rfl)).tr lf
     ·rw[List.mem_singleton.mp y];exact lf
variable{w:Wo}
noncomputable def AK:List Kd:=[.num,.word,jg,jh,.ag .num,.ag .word,.ag jg,.ag jh,.ag (.ag .word)]
theorem vh{k:Kd}(h:k∈AK):kz k<900:=(by decide +kernel:∀k∈AK,kz k<900) k h
theorem dy{k:Kd}(h:k∈AK):kd k<=9:=(by decide +kernel:∀k∈AK,kd k<=9) k h
theorem Cv{k:Kd}(h:k∈AK):hZ k=true:=(by decide +kernel:∀k∈AK,hZ k=true) k h
theorem Cy:∀{fs:List (Str×Kd)},pN fs=true->("table" : Str) ∉ fs.map (·.1)
 |[],_=>by simp
 |(f,k)::r,h=>by
  rw[pN,Zf,Zf]at h;exact λz=>(List.mem_cons.mp z).elim (λe=>of_decide_eq_true h.1.1 e.symm) (Cy h.2)
noncomputable def Cz:Kd->Bool
 |.row fs=>decide ((∀p∈fs,p.2∈AK)/\(fs.map (·.1)).Nodup/\fs.length<=4)
 |.ag k=>decide (k∈AK)
 |_=>true
theorem CA{k:Kd}(h:k∈AK):Cz k=true:=(by decide +kernel:∀k∈AK,Cz k=true) k h
theorem p6{fs:List (Str×Kd)}(h:.row fs∈AK):(∀p∈fs,p.2∈AK)/\(fs.map (·.1)).Nodup/\fs.length<=4:=of_decide_eq_true (CA h)
theorem gJ{k:Kd}(h:.ag k∈AK):k∈AK:=of_decide_eq_true (CA h)
noncomputable def NR:B:=.cons (.ret (.call 12 (.cons (.v 4) .nil))) .nil
noncomputable def NS:B:=.cons (.loop (.one 5) (.gy (.call 10 (.cons (.v 1) (.cons (.op .Sub (.c (.int 4)) (.v 2)) .nil)))) (.cons (.set (.one 6) (.call 17 (.cons (.ix (.v 0) (.c (.int 1))) (.cons (.v 1) (.cons (.c (.int 1)) .nil))))) (.cons (.ex (.mt .append (.v 4) (.cons (.tup (.cons (.v 6) (.cons (.ix (.lst (.cons (.c (.int 1)) (.cons (.c (.int 2)) (.cons (.neg (.c (.int 1))) (.cons (.neg (.c (.int 3))) (.cons (.op .Sub (.call 10 (.cons (.v 1) (.cons (.op .Pow (.c (.int 10)) (.c (.int 9))) .nil))) (.c (.int 3))) .nil)))))) (.call 10 (.cons (.v 1) (.cons (.c (.int 5)) .nil)))) .nil))) .nil))) .nil))) NR
noncomputable def NT:B:=.cons (.set (.one 4) (.lst .nil)) NS
noncomputable def NU:B:=.cons (.cond (.cmp .Eq (.ix (.v 0) (.c (.int 0))) (.c (.str "row"))) (.cons (.ret (.tup (.cons (.c (.str "row")) (.cons (.bi .tuple (.cons (.lc 2 [2,1] (.many [0,1]) (.seq (.ix (.v 0) (.c (.int 1)))) .ar (.tup (.cons (.v 0) (.cons (.call 17 (.cons (.v 1) (.cons (.v 3) (.cons (.v 2) .nil)))) .nil)))) .nil)) .nil)))) .nil) .nil) NT
noncomputable def NW:B:=.cons (.cond (.cmp .Eq (.ix (.v 0) (.c (.int 0))) (.c (.str "word"))) (.cons (.ret (.tup (.cons (.c (.str "word")) (.cons (.ix (.lst (.cons (.c (.str "a")) (.cons (.c (.str "r")) (.cons (.c (.str "ab")) (.cons (.c (.str "dt")) .nil))))) (.call 10 (.cons (.v 1) (.cons (.c (.int 4)) .nil)))) .nil)))) .nil) .nil) NU
noncomputable def NX:B:=.cons (.cond (.cmp .Eq (.ix (.v 0) (.c (.int 0))) (.c (.str "num"))) (.cons (.set (.one 3) (.op .Mult (.call 10 (.cons (.v 1) (.cons (.op .Pow (.c (.int 10)) (.c (.int 9))) .nil))) (.op .Pow (.c (.int 10)) (.c (.int 20))))) (.cons (.ret (.tup (.cons (.c (.str "num")) (.cons (.ix (.lst (.cons (.op .Sub (.call 10 (.cons (.v 1) (.cons (.c (.int 5)) .nil))) (.c (.int 2))) (.cons (.v 3) .nil))) (.bi .int (.cons (.cmp .Eq (.call 10 (.cons (.v 1) (.cons (.c (.int 9)) .nil))) (.c (.int 0))) .nil))) .nil)))) .nil)) .nil) NW
theorem NY:aO ["kind","seed","deep","great","counts","k","value"] ["kind","seed","deep"] (ao (ae 23)):=⟨rfl,rfl,rfl,by decide +kernel,rfl,by decide +kernel,by decide +kernel⟩
theorem NZ:aQ nm 40 ["kind","seed","deep","great","counts","k","value"] (ao (ae 23)) (aH (ae 23))=NX:=by kernel_rfl
noncomputable def sz(dp:Int):Nat:=if dp=0 then 3 else 2
def nA(n:Nat):Sp:=λds M Q _=>∃ κ p dp o,ds=[kD κ,.ref p,.int dp]/\κ∈AK/\kd κ<=n+1/\(dp=0\/dp=1)/\M p=some o/\Sd o/\∀v o',Sd o'->aG κ v->((Bd 2 v (sz dp)/\∀i,v=.num i->i.natAbs<2 ^ 100)/\∀p∈bv v,p.2.natAbs<=3 * 2 ^ 40)->Q (vD v) (up M p o')
def CC:Nat->Sp
 | 0=>ux
 |n+1=>nA n
noncomputable abbrev Yj(w:Wo)(n:Nat):bD w:={ cs:=[(10,BY),(17,CC n),(12,kZ)] }
set_option exponentiation.threshold 400 in
theorem vi:(2:Nat) ^ 100<bw 2:=by decide
theorem CD{gf:Str}{gk:Kd}:∀{fs:List (Str×Kd)},(gf,gk)∈fs->kd gk<=cj fs
 |(y,l)::r,z=>by
  rw[cj];rcases List.mem_cons.mp z with z |z
  ·cases z;lia
  ·have:=CD z;lia
theorem CE{g:Str}{k:Kd}{v:Val}(h:aG k v):∀{fs:List (Str×Kd)}{ps:List (Str×Val)},bN fs ps->bN (fs++[(g,k)]) (ps++[(g,v)])
 |[],ps,e=>by rw[bN]at e;subst e;exact⟨v,[],rfl,h,rfl⟩
 |(f,l)::r,ps,e=>by rw[bN]at e;obtain⟨u,qs,rfl,a,b⟩:=e;exact⟨u,qs++[(g,v)],rfl,a,CE h b⟩
theorem vj:∀{fs:List (Str×Kd)}{ps:List (Str×Val)},bN fs ps->ps.length=fs.length
 |[],ps,e=>by rw[bN]at e;subst e;rfl
 |(f,l)::r,ps,e=>by rw[bN]at e;obtain⟨u,qs,rfl,a,b⟩:=e;simp [vj b]
theorem CF(O:Lw w){n:Nat}(ih:FO w 17 (n+23) (CC n)):FO w 17 (n+24) (nA n):=by
 refine bh O.ok O.hn _ ⟨"_law_value",ae 23,["kind","seed","deep"]⟩ (by rw[O.hd];rfl) (Yj w n) { cs:=⟨⟨1,by lia,BZ O⟩,⟨n+23,Y8 _,ih⟩,⟨23,by lia,ny O⟩,trivial⟩ } NY NZ λds M Q _ h=>?_;obtain⟨κ,p,dp,o,rfl,hκ,hk,hd,hp,so,h⟩:=h;cases κ with
 |num=>
  refine⟨rfl,_,rfl,aj (aJ (by decide) ⟨⟨by decide,by decide,by decide⟩,p,_,o,rfl,hp,so,by decide,by decide,λr1 o1 s1 g0 g1=>⟨⟨by decide,by decide,by decide⟩,?_⟩⟩)⟩;have g1:r1<1000000000:=g1;refine⟨.inl (.inl ⟨by lia,by lia⟩),p,_,o1,rfl,ak,s1,by decide,by decide,λr2 o2 s2 q0 q1=>⟨l2,.inl ?_⟩⟩;have q1:r2<5:=q1;refine⟨p,_,o2,rfl,ak,s2,by decide,by decide,λr3 o3 s3 _ _=>cz ⟨_,uP,l2,?_⟩⟩;rw[N.bj,N.bj];have sm:∀x:Int,(x=r2-2\/x=r1 * 100000000000000000000)->x.natAbs<2 ^ 100:=λx e=>by
   have:(2:Nat) ^ 100=1267650600228229401496703205376:=(by decide);rw[this];rcases e with rfl |rfl <;> lia
  have fin:∀x:Int,(x=r2-2\/x=r1 * 100000000000000000000)->bU Q (vD (.num x)) (up M p o3):=λx e=>aC (h (.num x) o3 s3 ⟨x,rfl⟩ ⟨⟨by rw[Bd];exact aaQ (sm x e) vi,λi z=>by cases z;exact sm x e⟩,λ_ z=>nomatch z⟩);split
  ·exact fin _ (.inr rfl)
  ·exact fin _ (.inl rfl)
 |word=>
  refine⟨rfl,_,rfl,aj (ai (by decide) ⟨_,rfl,aj (aJ (by decide) ⟨l4,.inl ⟨p,_,o,rfl,hp,so,by decide,by decide,λr o' s' r0 r1=>?_⟩⟩)⟩)⟩;obtain⟨d,e1,e2⟩:=dS (xs:=[.str "a",.str "r",.str "ab",.str "dt"]) r0 r1;obtain⟨s,rfl⟩:∃s,d=.str s:=by simp at e2;rcases e2 with z |z |z |z <;> exact⟨_,z⟩
  exact⟨_,e1,l2,aC (h (.word s) o' s' ⟨s,rfl⟩ ⟨⟨trivial,λi z=>nomatch z⟩,λ_ z=>nomatch z⟩)⟩
 |row fs=>
  obtain⟨f1,f2,f3⟩:=p6 hκ;rw[kd]at hk;refine⟨rfl,_,rfl,aj (ai (by decide) ⟨_,rfl,aj (ai (by decide) ⟨_,rfl,aj (aJ (by decide) ⟨_,rfl,?_⟩)⟩)⟩)⟩;refine dQ (λxs ys Y=>∃bm pre ps o',xs=cg bm/\fs=pre++bm/\ys=ps.map (λp=>D.tup [.str p.1,vD p.2])/\bN pre ps/\cA 2 ps (sz dp)/\Sd o'/\Y=up M p o') ?_ ?_ _ _ _ ⟨fs,[],[],o,rfl,rfl,rfl,rfl,trivial,so,?_⟩
  ·rintro ys Y ⟨bm,pre,ps,o',e1,e2,rfl,t1,t2,s',rfl⟩;cases bm with
   |cons g bm=>obtain⟨gf,gk⟩:=g;rw[cg]at e1;cases e1
   |nil=>
    rw[Zu]at e2;subst e2;have ln:ps.length<=4:=(by rw[vj t1];exact f3);refine⟨trivial,Zd (by rw[Y6];exact ln) (by decide),.inl ⟨l2,aC ?_⟩⟩;have:=h (.row ps) o' s' ⟨ps,rfl,t1⟩ ⟨⟨by rw[Bd];exact⟨by lia,t2⟩,λi z=>nomatch z⟩,λ_ z=>nomatch z⟩;rw[p0]at this;exact this
  ·rintro x xs ys Y ⟨bm,pre,ps,o',e1,e2,rfl,t1,t2,s',rfl⟩;cases bm with
   |nil=>cases e1
   |cons g bm=>
    obtain⟨gf,gk⟩:=g;rw[cg]at e1;cases e1;have hm:(gf,gk)∈fs:=(by rw[e2];simp);have ln:ps.length<=4:=(by rw[vj t1];rw[e2]at f3;simp at f3;lia);have kk:=CD hm;refine⟨trivial,Zd (by rw[Y6];exact ln) (by decide),λN4 h4=>⟨rfl,?_⟩⟩;obtain⟨m,rfl⟩:∃m,n=m+1:=⟨n-1,by lia⟩;refine⟨gk,p,dp,o',rfl,f1 _ hm,by lia,hd,ak,s',λv o2 s2 hv hb=>?_⟩;rw[N.bj];have:=h4 (ps.map (λp=>D.tup [.str p.1,vD p.2])++[D.tup [.str gf,vD v]]) _ ⟨bm,pre++[(gf,gk)],ps++[(gf,v)],o2,rfl,by rw[e2];simp,by rw[Zt];rfl,CE hv t1,vd.mpr λx U=>?_,s2,rfl⟩
    ·exact⟨l2,this⟩
    ·rcases List.mem_append.mp U with z |z
     ·exact vd.mp t2 x z
     ·rw[List.mem_singleton.mp z];exact hb.1.1
  ·exact (nr hp).symm
 |ag k=>
  rw[kd]at hk;obtain⟨m,rfl⟩:∃m,n=m+1:=⟨n-1,by have:=Co k;lia⟩
  have hk':=gJ hκ;refine⟨rfl,_,rfl,aj (ai (by decide) ⟨_,rfl,aj (ai (by decide) ⟨_,rfl,aj (ai (by decide) ⟨Zj _,.inr λpc a6=>?_⟩)⟩)⟩)⟩;have nn:pc≠p:=ZO (b7 hp a6);have key:∀(a b:MO)L,up (up (up M p a) pc L) p b=up (up M p b) pc L:=λa b L=>by rw[fQ nn,N.bj]
  have p7:∀(a:MO)L,up (up M p a) pc L p=some a:=λa L=>by rw[av (ZO nn)];exact ak
  have e0:up M pc (.lst [])=up (up M p o) pc (.lst []):=by rw[nr hp]
  have d4:0<4-dp/\4-dp<2 ^ 200:=by rcases hd with rfl |rfl <;> decide
  refine⟨p,4-dp,o,rfl,by rw[e0];exact p7 o _,so,d4.1,d4.2,λr o1 s1 r0 r1=>?_⟩;have r2:r.toNat<=sz dp/\r<4:=by unfold sz;rcases hd with rfl |rfl <;> (simp only[if_true,if_neg (show ¬(1:Int)=0 by decide)];lia)
  refine⟨by lia,by lia,?_⟩;rw[e0,key];refine cZ (λxs τ Y=>∃ps o' u5 u6,xs.length+ps.length<=sz dp/\(∀q∈ps,aG k q.1/\Bd 2 q.1 2/\q.2.natAbs<=2 ^ 40)/\Sd o'/\τ=[some (kD (.ag k)),some (.ref p),some (.int dp),none,some (.ref pc),u5,u6]/\Y=up (up M p o') pc (.lst (ps.map pD))) ?_ ?_ _ _ _ ⟨[],o1,none,none,by rw[show (cF 0 r.toNat).length=r.toNat by unfold cF;simp];exact r2.1,λ_ z=>(nomatch z),s1,rfl,rfl⟩
  ·rintro τ Y ⟨ps,o',u5,u6,hl,dY,s',rfl,rfl⟩;have l3:ps.length<=sz dp:=(by simpa using hl);have s3:sz dp<=3:=(by unfold sz;split <;> decide);refine⟨trivial,.rfl ⟨pc,ps,k,rfl,ak,Zd (by lia:_<=3) (by decide),by have:=dy hk';lia,λq hq=>⟨(dY q hq).1,Bd.ok (by decide) (by decide) (dY q hq).2.1⟩,?_⟩⟩
   refine gC (by rw[av nn];exact a6) rfl (h (.ag (nf ps)) o' s' (nk λq hq=>(dY q hq).1) ⟨⟨?_,λi z=>nomatch z⟩,λq hq=>?_⟩)
   ·refine pZ (m:=2 ^ 40) l3 (λq hq=>⟨(dY q hq).2.2,(dY q hq).2.1⟩) ?_;refine Zd (ZE _ s3) (aaQ (by decide) vi)
   ·have e:=(dT ps).1.get hq;rw[(dT ps).2]at e;rw[<- e];exact Y9 (ve λq hq=>(dY q hq).2.2) (ZE _ (Y9 l3 s3))
  ·rintro x xs τ Y ⟨ps,o',u5,u6,hl,dY,s',rfl,rfl⟩;rw[Zg]at hl;have s3:sz dp<=3:=(by unfold sz;split <;> decide);refine⟨trivial,λN hN=>⟨_,rfl,k,p,1,o',rfl,hk',by lia,.inr rfl,p7 _ _,s',λv o2 s2 hv hb=>?_⟩⟩;rw[key];refine⟨⟨rfl,_,ak⟩,⟨by decide,by decide,by decide⟩,p,_,o2,rfl,p7 _ _,s2,by decide,by decide,λr3 o3 NE a0 a1=>⟨l5,.inl ?_⟩⟩;rw[key];refine⟨p,5,o3,rfl,p7 _ _,NE,by decide,by decide,λr4 Yk s4 Yl b1=>?_⟩;rw[key];have a1:r3<1000000000:=a1;obtain⟨d,e1,e2⟩:=dS (xs:=[.int 1,.int 2,.int (-1),.int (-3),.int (r3-3)]) Yl b1;obtain⟨z,rfl,hz⟩:∃ z:Int,d=.int z/\z.natAbs<=2 ^ 40:=by
    have:(2:Nat) ^ 40=1099511627776:=(by decide);rw[this];simp only[ZN,ZF,or_false]at e2;rcases e2 with z |z |z |z |z <;> exact⟨_,z,by lia⟩
   refine⟨_,e1,l2,_,ak,Zd (by rw[Y6];lia:_<=3) (by decide),hN _ _ ⟨ps++[(v,z)],Yk,_,_,by simp;lia,λq hq=>?_,s4,rfl,?_⟩⟩
   ·rcases List.mem_append.mp hq with y |y
    ·exact dY q y
    ·rw[List.mem_singleton.mp y];exact⟨hv,hb.1.1,hz⟩
   ·rw[_root_.N.bj,Zt];rfl
theorem p8(O:Lw w):∀n,FO w 17 (n+24) (nA n)
 | 0=>CF O (FO.imp (kH O.ok (by rw[O.hd];rfl) (cs:=[]) trivial) λds M Q E h=>h.elim)
 |n+1=>CF O (p8 O n)
end K97
end
section
namespace K97
open PySem N NQ
open L2
variable{w:Wo}
noncomputable def kS(x:Str):Option Kd:=lk x bM
structure d7(sc:Sc)(m:Nat):Prop where
 UN:∀p∈sc,p.2∈AK
 len:sc.length+m<=40
 nw:∀p∈sc,p.1≠"w"
theorem d7.kd{sc:Sc}{m:Nat}(h:d7 sc m):∀p∈sc,kd p.2<=49:=λp hp=>by have:=dy (h.UN p hp);lia
structure Hq(κ:Kd)(sc:Sc)(q:Qn):Prop where
 ty:Ty kS sc q κ
 is:(∃x,q=.var x)\/∃f x,q=.at f (.var x)
noncomputable def N0:B:=.cons (.ret (.v 2)) .nil
noncomputable def N1:B:=.cons (.loop (.many [3,4]) (.seq (.call 20 (.cons (.v 1) .nil))) (.cons (.cond (.cmp .Eq (.v 4) (.v 0)) (.cons (.ex (.mt .append (.v 2) (.cons (.tup (.cons (.c (.str "var")) (.cons (.v 3) .nil))) .nil))) .nil) .nil) (.cons (.cond (.cmp .Eq (.ix (.v 4) (.c (.int 0))) (.c (.str "row"))) (.cons (.set (.one 2) (.op .Add (.v 2) (.lc 2 [0,3] (.many [0,1]) (.seq (.ix (.v 4) (.c (.int 1)))) (.cmp .Eq (.v 1) (.v 2)) (.tup (.cons (.c (.str "at")) (.cons (.v 0) (.cons (.tup (.cons (.c (.str "var")) (.cons (.v 3) .nil))) .nil))))))) .nil) .nil) .nil))) N0
noncomputable def N5:B:=.cons (.set (.one 2) (.lst .nil)) N1
theorem N6:aO ["kind","scope","ways","name","other"] ["kind","scope"] (ao (ae 27)):=⟨rfl,rfl,rfl,by decide +kernel,rfl,by decide +kernel,by decide +kernel⟩
theorem N7:aQ nm 40 ["kind","scope","ways","name","other"] (ao (ae 27)) (aH (ae 27))=N5:=by kernel_rfl
def vk:Sp:=λds M Q _=>∃ κ sc m,ds=[kD κ,aV sc]/\κ∈AK/\d7 sc m/\∀ws:List Qn,(∀q∈ws,Hq κ sc q)->ws.length<=200->Q (.lst (ws.map qD)) M
theorem CG(O:Lw w):FO w 21 2 vk:=by
 refine bh O.ok O.hn _ ⟨"_law_held",ae 27,["kind","scope"]⟩ (by rw[O.hd];rfl) { cs:=[(20,uW)] } { cs:=⟨⟨1,Y8 _,B1 O⟩,trivial⟩ } N6 N7 λds M Q _ h=>?_;obtain⟨κ,sc,m,rfl,hκ,hs,h⟩:=h;refine⟨rfl,Zj _,.inr λp hp=>?_⟩;refine⟨sc,rfl,by have:=hs.len;lia,hs.kd,λout ho lo _=>?_⟩
 refine cZ (λxs τ M'=>∃rest lw ws u v,xs=fc rest/\(∀p∈rest,lk p.1 sc=some p.2)/\τ=[some (kD κ),some (aV sc),some (.ref lw),u,v]/\M lw=none/\M' lw=some (.lst (ws.map qD))/\bC M M'/\(∀q∈ws,Hq κ sc q)/\ws.length+5 * rest.length<=200)
  ?_ ?_ _ _ _ ⟨out,p,[],none,none,rfl,λp hp=>(ho p.1 p.2).mp hp,rfl,hp,ak,hY hp rfl,λq hq=>(nomatch hq),by have:=hs.len;simp;lia⟩
 ·rintro τ M' ⟨rest,lw,ws,u,v,e1,hr,rfl,n1,n2,sb,hw,jl⟩;exact⟨trivial,.rfl (BX sb n1 n2 (h ws hw (by lia)))⟩
 ·rintro x xs τ M' ⟨rest,lw,ws,u,v,e1,hr,rfl,n1,n2,sb,hw,jl⟩;cases rest with
  |nil=>cases e1
  |cons r rest=>
   cases e1;have hlk:=hr r Za;have cS:∀p∈rest,lk p.1 sc=some p.2:=λp hp=>hr p (Zc _ hp);have u8:r.2∈AK:=hs.UN _ (di hlk);refine⟨trivial,λN hN=>⟨rfl,?_⟩⟩;refine ff λN2 jk=>?_;have go:∀(M1:Mp)(ic:List Qn),M1 lw=some (.lst (ic.map qD))->bC M M1->(∀q∈ic,Hq κ sc q)->ic.length<=ws.length+1->N2 [some (kD κ),some (aV sc),some (.ref lw),some (.str r.1),some (kD r.2)] M1:=by
    intro M1 ic g1 g2 g4 VE;refine jk _ _ ?_;cases hk:r.2 with
    |row fs=>
     obtain⟨f1,f2,f3⟩:=p6 (hk ▸ u8);refine⟨_,rfl,aj (aJ (by decide) ⟨_,rfl,?_⟩)⟩;refine dQ (λxs ys M2=>M2=M1/\∃bm vs,xs=cg bm/\ys=vs.map qD/\(∀p∈bm,p∈fs)/\(∀q∈vs,Hq κ sc q)/\vs.length+bm.length<=4) ?_ ?_ _ _ _ ⟨rfl,fs,[],rfl,rfl,λp h=>h,λq h=>(nomatch h),by simpa using f3⟩
     ·rintro ys M2 ⟨rfl,bm,vs,_,rfl,h2,h3,h4⟩;refine⟨trivial,Zd (by rw[Y6];lia:_<=4) (by decide),.inl ?_⟩;refine⟨_,g1,Y9 (by simp at jl ⊢;lia:_<=300) (by decide),.inr λp4 Ch=>?_⟩;refine hN _ _ ⟨rest,p4,ic++vs,_,_,rfl,cS,rfl,bC.no g2 Ch,by rw[ak,Zt],kM g2 (bC.no g2 Ch) rfl,λq hq=>(List.mem_append.mp hq).elim (g4 q) (h3 q),by simp at jl ⊢;lia⟩
     ·rintro x xs ys M2 ⟨rfl,bm,vs,e1,rfl,h2,h3,h4⟩;cases bm with
      |nil=>cases e1
      |cons g bm=>
       obtain⟨gf,gk⟩:=g;rw[cg]at e1;cases e1;have hm:=h2 _ Za;refine⟨trivial,Zd (by rw[Y6];lia:_<=4) (by decide),λN4 CH=>⟨rfl,kK (by have:kd gk<=9:=dy (f1 _ hm);lia) (aN (λe=>?_) λe=>?_)⟩⟩
       ·have e:=of_decide_eq_true e;have:=CH (vs.map qD++[qD (.at gf (.var r.1))]) M2 ⟨rfl,bm,vs++[.at gf (.var r.1)],rfl,by rw[Zt];rfl,λp h=>h2 p (Zc _ h),λq hq=>?_,by simp at h4 ⊢;lia⟩
        ·exact⟨l2,l3,this⟩
        ·rcases List.mem_append.mp hq with z |z
         ·exact h3 q z
         ·rw[List.mem_singleton.mp z];exact⟨.at ⟨f2,Y9 (dy (hk ▸ u8)) (by decide)⟩ (.var (by rw[hlk,hk])) (by rw[uO f2 hm,e]),.inr ⟨_,_,rfl⟩⟩
       ·exact CH _ _ ⟨rfl,bm,vs,rfl,rfl,λp h=>h2 p (Zc _ h),h3,by simp at h4 ⊢;lia⟩
    |num=>exact⟨_,rfl,aj (ai (by decide) (hN _ _ ⟨rest,lw,ic,_,_,rfl,cS,rfl,n1,g1,g2,g4,by simp at jl;lia⟩))⟩
    |word=>exact⟨_,rfl,aj (ai (by decide) (hN _ _ ⟨rest,lw,ic,_,_,rfl,cS,rfl,n1,g1,g2,g4,by simp at jl;lia⟩))⟩
    |ag k=>exact⟨_,rfl,aj (ai (by decide) (hN _ _ ⟨rest,lw,ic,_,_,rfl,cS,rfl,n1,g1,g2,g4,by simp at jl;lia⟩))⟩
   refine kK (by have:=dy u8;lia) (aN (λe=>?_) λe=>go M' ws n2 sb hw (by lia))
   have e:=of_decide_eq_true e;refine⟨⟨rfl,_,n2⟩,l2,_,n2,Zd (by simp at jl ⊢;lia:_<=200) (by decide),go _ (ws++[.var r.1]) ?_ ?_ ?_ (by simp)⟩
   ·rw[ak,Zt];rfl
   ·exact kM sb n1 rfl
   ·intro q hq;rcases List.mem_append.mp hq with z |z
    ·exact hw q z
    ·rw[List.mem_singleton.mp z];exact⟨.var (by rw[hlk,e]),.inl ⟨_,rfl⟩⟩
end K97
end
section
namespace K97
open PySem N NQ NV
open L2
variable{w:Wo}
def Hs(M:Mp)(p:Addr):Prop:=∃o,M p=some o/\Sd o
def Sx(M:Mp)(p:Addr)(X:Mp):Prop:=∃o,Sd o/\X=up M p o
theorem Sx.rfl{M:Mp}{p:Addr}(h:Hs M p):Sx M p M:=let ⟨o,h1,h2⟩:=h;⟨o,h2,(nr h1).symm⟩
theorem Sx.hs{M X:Mp}{p:Addr}(h:Sx M p X):Hs X p:=let ⟨o,h1,h2⟩:=h;⟨o,by rw[h2];exact ak,h1⟩
theorem Sx.tr{M X Y:Mp}{p:Addr}(h:Sx M p X)(g:Sx X p Y):Sx M p Y:=by
 obtain⟨o,h1,rfl⟩:=h;obtain⟨o',h2,rfl⟩:=g;exact⟨o',h2,N.bj⟩
theorem Sx.ne{M X:Mp}{p a:Addr}(h:Sx M p X)(n:a≠p):X a=M a:=by obtain⟨o,_,rfl⟩:=h;exact av n
def gK:Sp:=λds M Q _=>∃p n,ds=[.ref p,.int n]/\Hs M p/\0<n/\n<2 ^ 200/\∀r X,Sx M p X->0<=r->r<n->Q (.int r) X
theorem ie(O:Lw w):FO w 10 1 gK:=(BZ O).imp λds M Q E ⟨p,n,e,⟨o,h1,h2⟩,h3,h4,h⟩=>⟨p,n,o,e,h1,h2,h3,h4,λr o' s=>h r _ ⟨o',s,rfl⟩⟩
def CI:Sp:=λds M Q _=>∃ κ p dp,ds=[kD κ,.ref p,.int dp]/\(dp=0\/dp=1)/\(κ=.num\/κ=.word)/\Hs M p/\∀q X,Sx M p X->(∀S G,Ty S G q κ)->((∃i,q=.num i/\i.natAbs<2 ^ 100)\/∃s,q=.word s)->Q (qD q) X
theorem N8(O:Lw w):FO w 17 24 CI:=(p8 O 0).imp λds M Q E ⟨κ,p,dp,e,hd,h0,⟨o,h1,h2⟩,h⟩=>⟨κ,p,dp,o,e,by rcases h0 with rfl |rfl <;> decide +kernel,by rcases h0 with rfl |rfl <;> decide +kernel,hd,h1,h2,λv o' s hv hb=>by
 rcases h0 with rfl |rfl
 ·rw[aG]at hv;obtain⟨i,rfl⟩:=hv;exact h (.num i) _ ⟨o',s,rfl⟩ (λ_ _=>.num) (.inl ⟨i,rfl,hb.1.2 i rfl⟩)
 ·rw[aG]at hv;obtain⟨i,rfl⟩:=hv;exact h (.word i) _ ⟨o',s,rfl⟩ (λ_ _=>.word) (.inr ⟨i,rfl⟩)⟩
mutual
noncomputable def dq:Qn->Nat
 |.num _=>1 |.word _=>1 |.var _=>1 |.tab _=>1
 |.none k=>1+kd k
 |.row fs=>3+ck fs
 |.at _ q=>1+dq q
 |.add a b=>1+max (dq a) (dq b)
 |.mul a b=>1+max (dq a) (dq b)
 |.one a=>1+dq a
 |.both a b=>1+max (dq a) (dq b)
 |.times _ a=>1+dq a
 |.for _ a b=>9+max (dq a) (dq b)
 |.aZ a b=>1+max (dq a) (dq b)
 |.let _ a b=>1+max (dq a) (dq b)
 |.same a b=>1+max (dq a) (dq b)
 |.under a b=>1+max (dq a) (dq b)
 |.and a b=>1+max (dq a) (dq b)
 |.or a b=>1+max (dq a) (dq b)
 |.not a=>1+dq a
noncomputable def ck:List (Str×Qn)->Nat
 |[]=>0
 |(_,q)::r=>max (dq q) (ck r)
end
noncomputable def lit(i:Int):Nat:=if i.natAbs<2 ^ 100 then 2 else 1000000
noncomputable def ep(e:Str->Nat)(x:Str)(n:Nat):Str->Nat:=λy=>if y=x then n else e y
mutual
noncomputable def cq:Qn->(Str->Nat)->Nat
 |.num i,_=>lit i
 |.word _,_=>2
 |.var x,e=>max 2 (e x)
 |.tab _,_=>2
 |.none _,_=>2
 |.row fs,e=>cB fs e
 |.at _ q,e=>cq q e
 |.add a b,e=>cq a e+cq b e
 |.mul a b,e=>cq a e+cq b e
 |.one q,e=>cq q e
 |.both a b,e=>cq a e+cq b e
 |.times i q,e=>lit i+cq q e
 |.for x a b,e=>cq a e * cq b (ep e x (cq a e))
 |.aZ c q,e=>max (cq c e) (cq q e)
 |.let x a b,e=>max (cq a e) (cq b (ep e x (cq a e)))
 |.same a b,e=>max (cq a e) (cq b e)
 |.under a b,e=>max (cq a e) (cq b e)
 |.and a b,e=>max (cq a e) (cq b e)
 |.or a b,e=>max (cq a e) (cq b e)
 |.not a,e=>cq a e
noncomputable def cB:List (Str×Qn)->(Str->Nat)->Nat
 |[],_=>2
 |(_,q)::r,e=>max (cq q e) (cB r e)
end
noncomputable def Kf:Nat->Nat
 | 0=>1
 | 1=>2
 |f+2=>Kf f+Kf f * Kf (f+1)
theorem k0:∀f,1<=Kf f
 | 0=>Y8 _
 | 1=>by decide
 |f+2=>by have:=k0 f;rw[Kf];lia
theorem CJ:∀f,Kf f+1<=Kf (f+1)
 | 0=>Y8 _
 |f+1=>by
  have h1:=k0 f;have h2:=k0 (f+1)
  rw[Kf];have:=ZE (Kf (f+1)) h1;lia
theorem nC{f g:Nat}(h:f<=g):Kf f<=Kf g:=by
 induction h with
 |refl=>exact Y8 _
 |step _ ih=>exact Y9 ih (Nat.le_of_succ_le (CJ _))
def Cw(v:Nat)(sc:Sc)(F:(Str->Nat)->Nat)(m:Nat):Prop:=∀e:Str->Nat,(∀p∈sc,e p.1<=v)->F e<=m
def Cq(f:Nat)(sc:Sc)(q:Qn):Prop:=∀v,2<=v->Cw v sc (cq q) (v ^ Kf f)
def Cl(sc:Sc)(q:Qn):Prop:=∀v,2<=v->Cw v sc (cq q) v
theorem Cl.c{f:Nat}{sc:Sc}{q:Qn}(h:Cl sc q):Cq f sc q:=λv hv e he=>Y9 (h v hv e he) (by
 have:=Zx (show 0<v by lia) (k0 f)
 rwa [Nat.pow_one]at this)
theorem Cq.zero{sc:Sc}{q:Qn}(h:Cq 0 sc q):Cl sc q:=λv hv e he=>by have:=h v hv e he;rwa [Kf,Nat.pow_one]at this
theorem Cq.up{f g:Nat}{sc:Sc}{q:Qn}(h:Cq f sc q)(l:f<=g):Cq g sc q:=λv hv e he=>Y9 (h v hv e he) (Zx (by lia) (nC l))
theorem CK{v f:Nat}(hv:2<=v):v ^ Kf f+v ^ Kf f<=v ^ Kf (f+1):=by
 refine Y9 ?_ (Zx (by lia) (CJ f));rw[Nat.pow_succ];have:=Nat.mul_le_mul_left (v ^ Kf f) hv;lia
theorem nD{v f:Nat}(hv:2<=v):2<=v ^ Kf f:=Y9 hv (by have:=Zx (show 0<v by lia) (k0 f);rwa [Nat.pow_one]at this)
theorem Cq.gh{f:Nat}{sc:Sc}{a b:Qn}(ha:Cq f sc a)(hb:Cq f sc b){v:Nat}(hv:2<=v):Cw v sc (λe=>cq a e+cq b e) (v ^ Kf (f+1)):=λe he=>Y9 (Nat.add_le_add (ha v hv e he) (hb v hv e he)) (CK hv)
theorem Cq.N9{f:Nat}{sc:Sc}{a:Qn}(ha:Cq f sc a){v:Nat}(hv:2<=v):Cw v sc (λe=>2+cq a e) (v ^ Kf (f+1)):=λe he=>Y9 (Nat.add_le_add (nD hv) (ha v hv e he)) (CK hv)
theorem p9{sc:Sc}{e:Str->Nat}{x:Str}{κ:Kd}{m v:Nat}(h:∀p∈sc,e p.1<=v)(l:v<=m){n:Nat}(hn:n<=m):∀p∈(x,κ)::sc,ep e x n p.1<=m:=λp hp=>by
 unfold ep;split
 ·exact hn
 ·rename_i z;rcases List.mem_cons.mp hp with rfl |hp
  ·exact absurd rfl z
  ·exact Y9 (h p hp) l
theorem qc{v f:Nat}(hv:2<=v):v<=v ^ Kf f:=by have:=Zx (show 0<v by lia) (k0 f);rwa [Nat.pow_one]at this
theorem Cq.for{f:Nat}{sc:Sc}{x:Str}{κ:Kd}{a b:Qn}(ha:Cq f sc a)(hb:Cq (f+1) ((x,κ)::sc) b):Cq (f+2) sc (.for x a b):=λv hv e he=>by
 rw[cq,Kf,Nat.pow_add,Nat.pow_mul];have h1:=ha v hv e he;exact Nat.mul_le_mul h1 (hb (v ^ Kf f) (nD hv) _ (p9 he (qc hv) h1))
theorem Cq.Oa{sc:Sc}{x:Str}{κ:Kd}{a b:Qn}(ha:Cq 0 sc a)(hb:Cq 0 ((x,κ)::sc) b):Cq 1 sc (.for x a b):=λv hv e he=>by
 rw[cq];have h1:=ha.zero v hv e he;have:=Nat.mul_le_mul h1 (hb.zero v hv _ (p9 he (Y8 _) h1))
 rwa [Kf,Nat.pow_two]
theorem Cq.let{f:Nat}{sc:Sc}{x:Str}{κ:Kd}{a b:Qn}(ha:Cq f sc a)(hb:Cq (f+1) ((x,κ)::sc) b):Cq (f+2) sc (.let x a b):=λv hv e he=>by
 rw[cq];have h1:=ha v hv e he;refine Nat.max_le.mpr ⟨Y9 h1 (Zx (by lia) (nC (by lia))),?_⟩;refine Y9 (hb (v ^ Kf f) (nD hv) _ (p9 he (qc hv) h1)) ?_;rw[<- Nat.pow_mul,Kf];exact Zx (by lia) (Nat.le_add_left _ _)
theorem Cq.let1{sc:Sc}{x:Str}{κ:Kd}{a b:Qn}(ha:Cq 0 sc a)(hb:Cq 0 ((x,κ)::sc) b):Cq 1 sc (.let x a b):=λv hv e he=>by
 rw[cq];have h1:=ha.zero v hv e he;exact Nat.max_le.mpr ⟨Y9 h1 (qc hv),Y9 (hb.zero v hv _ (p9 he (Y8 _) h1)) (qc hv)⟩
theorem CL{x:Str}{k:Qn}{e:Str->Nat}:∀{a:List (Str×Qn)},cB (a++[(x,k)]) e=max (cB a e) (cq k e)
 |[]=>by rw[aaw,cB,cB,Nat.max_comm];rfl
 |(_,l)::r=>by rw[Z9,cB,cB,CL,Nat.max_assoc]
theorem Cl.lit{sc:Sc}{q:Qn}(h:(∃i,q=.num i/\i.natAbs<2 ^ 100)\/∃s,q=.word s):Cl sc q:=λv hv e _=>by
 rcases h with ⟨i,rfl,h⟩ |⟨s,rfl⟩
 ·rw[cq,K97.lit,if_pos h];exact hv
 ·exact hv
mutual
noncomputable def zk:Kd->Nat
 |.num=>2 |.word=>2
 |.row fs=>1+qe fs
 |.ag k=>1+zk k
noncomputable def qe:List (Str×Kd)->Nat
 |[]=>0
 |(_,k)::r=>zk k+qe r
end
mutual
noncomputable def UE:Kd->Nat
 |.num=>2 |.word=>2
 |.row fs=>3+qf fs
 |.ag k=>max (1+UE k) (1+kd k)
noncomputable def qf:List (Str×Kd)->Nat
 |[]=>0
 |(_,k)::r=>max (UE k) (qf r)
end
noncomputable def zf:Nat->Nat
 | 0=>14
 |f+1=>5 * zf f+40
noncomputable def nB(f:Int)(k:Kd):Nat:=if f<=0 then zk k else zf f.toNat
noncomputable def dB(f:Int)(k:Kd):Nat:=if f<=0 then UE k else 9 * f.toNat+9
theorem qg{k:Kd}(h:k∈AK):2<=zk k/\zk k<=14/\2<=UE k/\UE k<=9/\1<=kd k:=by
 have:∀k∈AK,2<=zk k/\zk k<=14/\2<=UE k/\UE k<=9/\1<=kd k:=by decide +kernel
 exact this k h
theorem jm:∀f,14<=zf f
 | 0=>Y8 _
 |f+1=>by have:=jm f;rw[zf];lia
theorem qh{f g:Nat}(h:f<=g):zf f<=zf g:=by
 induction h with
 |refl=>exact Y8 _
 |step _ ih=>rw[zf];lia
theorem fh{f:Int}{k:Kd}(h:k∈AK):2<=nB f k/\nB f k<=zf f.toNat/\2<=dB f k/\dB f k<=9 * f.toNat+9:=by
 obtain⟨h1,h2,h3,h4,_⟩:=qg h;have:=jm f.toNat;unfold nB dB;split
 ·lia
 ·exact⟨by lia,Y8 _,by lia,Y8 _⟩
structure GQ(f:Int)(κ:Kd)(sc:Sc)(q:Qn):Prop where
 ty:Ty kS sc q κ
 n:nq q<=nB f κ
 d:dq q<=dB f κ
 c:Cq f.toNat sc q
def Rk(n:Nat)(f:Int)(κ:Kd)(t:Nat):Prop:=20 * f.toNat+2 * kd κ+t<=n
noncomputable def UG:Kd->Nat
 |.ag _=>0
 |_=>2
theorem vm{k:Kd}:UG k<=2:=by cases k <;> simp [UG]
theorem d7.bP{sc:Sc}{m k:Nat}(h:d7 sc m)(hk:k<=m):d7 sc k:=⟨h.UN,by have:=h.len;lia,h.nw⟩
def ig(n:Nat):Sp:=λds M Q _=>∃ κ sc f p,ds=[kD κ,aV sc,.int f,.ref p]/\κ∈AK/\Rk n f κ 1/\d7 sc f.toNat/\Hs M p/\∀q X,Sx M p X->GQ f κ sc q->Q (qD q) X
def fi(n:Nat):Sp:=λds M Q _=>∃ κ sc f p,ds=[kD κ,aV sc,.int f,.ref p]/\κ∈AK/\Rk n f κ (UG κ)/\d7 sc f.toNat/\Hs M p/\∀q X,Sx M p X->GQ f κ sc q->Q (qD q) X
theorem Hq.cl{κ:Kd}{sc:Sc}{q:Qn}(h:Hq κ sc q):Cl sc q:=λv hv e he=>by
 have go:∀{x k},Ty kS sc (.var x) k->max 2 (e x)<=v:=λ{x k}t=>by
  cases t with
  |var h=>exact Nat.max_le.mpr ⟨hv,he _ (di h)⟩
 rcases h.is with ⟨x,rfl⟩ |⟨f,x,rfl⟩
 ·exact go h.ty
 ·cases h.ty with
  | «at» _ t _=>exact go t
theorem Ob{f:Int}{k:Kd}(h:k∈AK):∀{q:Qn}{sc:Sc},GQ (f-1) k sc q->GQ f k sc q:=λ{q sc}g=>by
 have z:=qh (show (f-1).toNat<=f.toNat by lia);obtain⟨h1,h2,h3,h4,_⟩:=qg h;have Oc:=jm f.toNat;refine⟨g.ty,Y9 g.n ?_,Y9 g.d ?_,g.c.up (by lia)⟩
 ·unfold nB;split <;> split <;> lia
 ·unfold dB;split <;> split <;> lia
noncomputable def sB(f:Int):List (Str×Kd)->Nat
 |[]=>0
 |(_,k)::r=>nB f k+sB f r
noncomputable def mB(f:Int):List (Str×Kd)->Nat
 |[]=>0
 |(_,k)::r=>max (dB f k) (mB f r)
theorem CN{f:Int}{x:Str}{k:Kd}:∀{a:List (Str×Kd)},sB f (a++[(x,k)])=sB f a+nB f k
 |[]=>by simp [sB]
 |(_,l)::r=>by rw[Z9,sB,sB,CN];lia
theorem CO{f:Int}{x:Str}{k:Kd}:∀{a:List (Str×Kd)},mB f (a++[(x,k)])=max (mB f a) (dB f k)
 |[]=>by simp [mB]
 |(_,l)::r=>by rw[Z9,mB,mB,CO,Nat.max_assoc]
theorem CP{x:Str}{k:Qn}:∀{a:List (Str×Qn)},cy (a++[(x,k)])=cy a+nq k
 |[]=>by simp [cy]
 |(_,l)::r=>by rw[Z9,cy,cy,CP];lia
theorem CQ{x:Str}{k:Qn}:∀{a:List (Str×Qn)},ck (a++[(x,k)])=max (ck a) (dq k)
 |[]=>by simp [ck]
 |(_,l)::r=>by rw[Z9,ck,ck,CQ,Nat.max_assoc]
theorem CS{x:Str}{k:Qn}:∀{a:List (Str×Qn)},bz (a++[(x,k)])=bz a++[.tup [.str x,qD k]]
 |[]=>by simp [bz]
 |(_,l)::r=>by rw[Z9,bz,bz,CS];rfl
theorem CT{S:Str->Option Kd}{G:Sc}{x:Str}{q:Qn}{k:Kd}(h:Ty S G q k):∀{a:List (Str×Qn)}{b:List (Str×Kd)},c0 S G a b->c0 S G (a++[(x,q)]) (b++[(x,k)])
 |_,_,.nil=>.cons h .nil
 |_,_,.cons t r=>.cons t (CT h r)
theorem qi:∀{a:List (Str×Qn)},(bz a).length=a.length
 |[]=>by rw[bz];rfl
 |(_,_)::r=>by rw[bz,Zg,Zg,qi]
theorem vn{S:Str->Option Kd}{G:Sc}:∀{a:List (Str×Qn)}{b:List (Str×Kd)},c0 S G a b->a.length=b.length
 |_,_,.nil=>rfl
 |_,_,.cons _ r=>by rw[Zg,Zg,vn r]
theorem Od{f:Int}{fs:List (Str×Kd)}(h:.row fs∈AK):1+sB (f-1) fs<=nB f (.row fs)/\3+mB (f-1) fs<=dB f (.row fs):=by
 obtain⟨f1,_,f3⟩:=p6 h;by_cases hf:f<=0
 ·have key:∀ fs:List (Str×Kd),sB (f-1) fs=qe fs/\mB (f-1) fs=qf fs:=by
   intro fs
   induction fs with
   |nil=>exact⟨rfl,rfl⟩
   |cons p r ih=>
    obtain⟨x,k⟩:=p;rw[sB,mB,qe,qf,ih.1,ih.2];unfold nB dB;rw[if_pos (by lia),if_pos (by lia)];exact⟨rfl,rfl⟩
  unfold nB dB;rw[if_pos hf,if_pos hf,zk,UE,(key fs).1,(key fs).2];exact⟨Y8 _,Y8 _⟩
 ·have key:∀ fs:List (Str×Kd),(∀ p∈fs,p.2∈AK)->sB (f-1) fs<=fs.length * zf (f-1).toNat/\mB (f-1) fs<=9 * (f-1).toNat+9:=by
   intro fs
   induction fs with
   |nil=>exact λ_=>⟨by rw[sB];lia,by rw[mB];lia⟩
   |cons p r ih=>
    intro hp;obtain⟨x,k⟩:=p;have:=ih λp h=>hp p (Zc _ h);have hb:=fh (f:=f-1) (k:=k) (hp (x,k) Za);rw[sB,mB,Zg,Nat.succ_mul];lia
  obtain⟨k1,k2⟩:=key fs f1;have k3:fs.length * zf (f-1).toNat<=4 * zf (f-1).toNat:=ZE _ f3;obtain⟨g,hg⟩:∃g:Nat,f=(g:Int)+1:=⟨(f-1).toNat,by lia⟩;subst hg;unfold nB dB;rw[if_neg hf,if_neg hf,show ((g:Int)+1).toNat=g+1 from rfl,zf];have:((g:Int)+1-1).toNat=g:=by lia
  rw[this]at k1 k2 k3;lia
theorem CU{gf:Str}{gk:Kd}:∀{fs:List (Str×Kd)},(gf,gk)∈fs->kd gk<=cj fs
 |(y,l)::r,z=>by
  rw[cj];rcases List.mem_cons.mp z with z |z
  ·cases z;lia
  ·have:=CU z;lia
noncomputable def Oe:B:=.cons (.ret (.call 17 (.cons (.v 0) (.cons (.v 3) (.cons (.c (.int 1)) .nil))))) .nil
noncomputable def Of:B:=.cons (.cond (.and (.cmp .Eq (.ix (.v 0) (.c (.int 0))) (.c (.str "num"))) (.and (.cmp .Gt (.v 2) (.c (.int 0))) (.cmp .Eq (.call 10 (.cons (.v 3) (.cons (.c (.int 3)) .nil))) (.c (.int 0))))) (.cons (.set (.one 5) (.call 22 (.cons (.v 0) (.cons (.v 1) (.cons (.op .Sub (.v 2) (.c (.int 1))) (.cons (.v 3) .nil)))))) (.cons (.ret (.tup (.cons (.ix (.lst (.cons (.c (.str "add")) (.cons (.c (.str "mul")) .nil))) (.call 10 (.cons (.v 3) (.cons (.c (.int 2)) .nil)))) (.cons (.v 5) (.cons (.call 22 (.cons (.v 0) (.cons (.v 1) (.cons (.op .Sub (.v 2) (.c (.int 1))) (.cons (.v 3) .nil))))) .nil))))) .nil)) .nil) Oe
noncomputable def Og:B:=.cons (.cond (.cmp .Eq (.ix (.v 0) (.c (.int 0))) (.c (.str "row"))) (.cons (.ret (.tup (.cons (.c (.str "row")) (.cons (.bi .tuple (.cons (.lc 2 [2,1,3] (.many [0,1]) (.seq (.ix (.v 0) (.c (.int 1)))) .ar (.tup (.cons (.v 0) (.cons (.call 26 (.cons (.v 1) (.cons (.v 3) (.cons (.op .Sub (.v 2) (.c (.int 1))) (.cons (.v 4) .nil))))) .nil)))) .nil)) .nil)))) .nil) .nil) Of
noncomputable def Oh:B:=.cons (.cond (.cmp .Eq (.ix (.v 0) (.c (.int 0))) (.c (.str "bag"))) (.cons (.ret (.call 26 (.cons (.v 0) (.cons (.v 1) (.cons (.op .Sub (.v 2) (.c (.int 1))) (.cons (.v 3) .nil)))))) .nil) .nil) Og
noncomputable def CV:B:=.cons (.cond (.and (.cmp .NotEq (.v 4) (.lst .nil)) (.cmp .Gt (.call 10 (.cons (.v 3) (.cons (.c (.int 4)) .nil))) (.c (.int 0)))) (.cons (.ret (.ix (.v 4) (.call 10 (.cons (.v 3) (.cons (.bi .len (.cons (.v 4) .nil)) .nil))))) .nil) .nil) Oh
noncomputable def Oi:B:=.cons (.set (.one 4) (.call 21 (.cons (.v 0) (.cons (.v 1) .nil)))) CV
theorem Oj:aO ["kind","scope","fuel","seed","ways","one"] ["kind","scope","fuel","seed"] (ao (ae 28)):=⟨rfl,rfl,rfl,by decide +kernel,rfl,by decide +kernel,by decide +kernel⟩
theorem Ol:aQ nm 40 ["kind","scope","fuel","seed","ways","one"] (ao (ae 28)) (aH (ae 28))=Oi:=by kernel_rfl
noncomputable abbrev We(n:Nat):bD w:={ cs:=[(21,vk),(10,gK),(26,fi n),(22,ig n),(17,CI)] }
theorem Om(O:Lw w){n:Nat}(hs:FO w 22 (n+26) (ig n))(ha:FO w 26 (n+26) (fi n)):FO w 22 (n+27) (ig (n+1)):=by
 refine bh O.ok O.hn _ ⟨"_law_small",ae 28,["kind","scope","fuel","seed"]⟩ (by rw[O.hd];rfl) (We n) { cs:=⟨⟨2,by lia,CG O⟩,⟨1,by lia,ie O⟩,⟨n+26,Y8 _,ha⟩,⟨n+26,Y8 _,hs⟩,⟨24,by lia,N8 O⟩,trivial⟩ } Oj Ol λds M Q _ h=>?_;obtain⟨κ,sc,f,p,rfl,hκ,rk,an,hp,h⟩:=h;have nb:=fh (f:=f) hκ;have fin:∀X q,Sx M p X->GQ f κ sc q->bU Q (qD q) X:=λX q u g=>aC (h q X u g);refine⟨rfl,κ,sc,_,rfl,hκ,an,λws hw lw=>?_⟩;show B.w (We (w:=w) n).wd nm.aq CV (cx Q) [some (kD κ),some (aV sc),some (.int f),some (.ref p),some (.lst (ws.map qD)),none] M;refine ff λN2 jk=>?_;have go:∀X,Sx M p X->N2 [some (kD κ),some (aV sc),some (.int f),some (.ref p),some (.lst (ws.map qD)),none] X:=by
  intro X u;refine jk _ _ ?_;cases κ with
  |ag k=>
   exact⟨_,rfl,aj (aJ (by decide) ⟨.ag k,sc,f-1,p,rfl,hκ,by unfold Rk at rk ⊢;rw[UG];lia,an.bP (by lia),u.hs,λq Y u2 g=>fin _ q (u.tr u2) (Ob hκ g)⟩)⟩
  |row fs=>
   obtain⟨f1,f2,f3⟩:=p6 hκ;refine⟨_,rfl,aj (ai (by decide) ⟨_,rfl,aj (aJ (by decide) ⟨_,rfl,?_⟩)⟩)⟩;refine dQ (λxs ys Y=>∃bm qs pre,xs=cg bm/\fs=pre++bm/\ys=bz qs/\c0 kS sc qs pre/\cy qs<=sB (f-1) pre/\ck qs<=mB (f-1) pre/\(∀v,2<=v->Cw v sc (cB qs) (v ^ Kf (f-1).toNat))/\Sx M p Y) ?_ ?_ _ _ _ ⟨fs,[],[],rfl,rfl,rfl,.nil,Y8 _,Y8 _,λv hv e _=>nD hv,u⟩
   ·rintro ys Y ⟨bm,qs,pre,e1,e2,rfl,t1,t2,t3,t4,uY⟩;cases bm with
    |cons g bm=>obtain⟨gf,gk⟩:=g;rw[cg]at e1;cases e1
    |nil=>
     rw[Zu]at e2;subst e2;have ln:(bz qs).length<=4:=(by rw[qi,vn t1];exact f3);obtain⟨b1,b2⟩:=Od (f:=f) hκ;refine⟨trivial,Zd ln (by decide),.inl ⟨l2,fin _ (.row qs) uY ⟨.row (by rw[qi]at ln;lia) (Cy (by have:=Cv hκ;rw[hZ]at this;exact this)) t1,by rw[nq];lia,by rw[dq];lia,λv hv e he=>Y9 (t4 v hv e he) (Zx (by lia) (nC (by lia)))⟩⟩⟩
   ·rintro x xs ys Y ⟨bm,qs,pre,e1,e2,rfl,t1,t2,t3,t4,uY⟩;cases bm with
    |nil=>cases e1
    |cons g bm=>
     obtain⟨gf,gk⟩:=g;rw[cg]at e1;cases e1;have hm:(gf,gk)∈fs:=(by rw[e2];simp);have Oo:=f1 _ hm;have ln:(bz qs).length<=4:=(by rw[qi,vn t1];rw[e2]at f3;simp at f3;lia);have kk:kd gk+3<=kd (.row fs):=by rw[kd];have:=CU hm;lia
     refine⟨trivial,Zd ln (by decide),λN4 h4=>⟨rfl,gk,sc,f-1,p,rfl,Oo,by have:=@vm gk;unfold Rk at rk ⊢;lia,an.bP (by lia),uY.hs,λq Z u3 g=>?_⟩⟩
     have:=h4 (bz qs++[.tup [.str gf,qD q]]) _ ⟨bm,qs++[(gf,q)],pre++[(gf,gk)],rfl,by rw[e2];simp,by rw[CS],CT g.ty t1,by rw[CP,CN];have:=g.n;lia,by rw[CQ,CO];have:=g.d;lia,λv hv e he=>by rw[CL];exact Nat.max_le.mpr ⟨t4 v hv e he,g.c v hv e he⟩,uY.tr u3⟩
     exact⟨l2,this⟩
  |num=>
   have gv:∀X,Sx M p X->B.w (We (w:=w) n).wd nm.aq (.cons (.ret (.call 17 (.cons (.v 0) (.cons (.v 3) (.cons (.c (.int 1)) .nil))))) .nil) (cx Q) [some (kD .num),some (aV sc),some (.int f),some (.ref p),some (.lst (ws.map qD)),none] X:=λX u=>
    ⟨.num,p,1,rfl,.inr rfl,.inl rfl,u.hs,λq Y u2 ty lit=>fin _ q (u.tr u2) ⟨ty _ _,by rcases lit with ⟨i,rfl,_⟩ |⟨i,rfl⟩ <;> (rw[nq];lia),by rcases lit with ⟨i,rfl,_⟩ |⟨i,rfl⟩ <;> (rw[dq];lia),(Cl.lit lit).c⟩⟩
   refine⟨_,rfl,aj (ai (by decide) ⟨_,rfl,aj (ai (by decide) ⟨_,rfl,aj (aJ (by decide) (aN (λe1=>?_) λe1=>ai (by decide) (gv X u)))⟩)⟩)⟩;have fp:0<f:=of_decide_eq_true e1;refine⟨p,3,rfl,u.hs,by decide,by decide,λr1 X1 u1 _ _=>cz (aN (λe2=>?_) λe2=>gv _ (u.tr u1))⟩;have CW:Rk n (f-1) .num 1:=(by unfold Rk at rk ⊢;lia);refine⟨.num,sc,f-1,p,rfl,hκ,CW,an.bP (by lia),u1.hs,λqa X2 u2 ga=>?_⟩;refine⟨l2,.inl ⟨p,2,rfl,u2.hs,by decide,by decide,λr2 X3 u3 qj k6=>?_⟩⟩;obtain⟨d,e3,e4⟩:=dS (xs:=[.str "add",.str "mul"]) qj k6;refine⟨d,e3,?_⟩;refine⟨.num,sc,f-1,p,rfl,hκ,CW,an.bP (by lia),u3.hs,λqb X4 u4 gb=>⟨l3,?_⟩⟩;have VL:1+nq qa+nq qb<=nB f .num/\1+max (dq qa) (dq qb)<=dB f .num:=by
    have h1:=ga.n;have h2:=gb.n;have h3:=ga.d;have h4:=gb.d
    have hb:=fh (f:=f-1) (k:=.num) hκ;obtain⟨g,hg⟩:∃g:Nat,f=(g:Int)+1:=⟨(f-1).toNat,by lia⟩;subst hg;rw[show ((g:Int)+1-1).toNat=g by lia]at hb;unfold nB dB;rw[if_neg (by lia),if_neg (by lia),show ((g:Int)+1).toNat=g+1 from rfl,zf];lia
   have uu:=(((u.tr u1).tr u2).tr u3).tr u4;have CX:∀v,2<=v->Cw v sc (λe=>cq qa e+cq qb e) (v ^ Kf f.toNat):=λv hv=>by
    have:=ga.c.gh gb.c hv
    rwa [show (f-1).toNat+1=f.toNat by lia]at this
   simp only[ZN,ZF,or_false]at e4;rcases e4 with rfl |rfl
   ·exact fin _ (.add qa qb) uu ⟨.add ga.ty gb.ty,by rw[nq];exact VL.1,by rw[dq];exact VL.2,CX⟩
   ·exact fin _ (.mul qa qb) uu ⟨.mul ga.ty gb.ty,by rw[nq];exact VL.1,by rw[dq];exact VL.2,CX⟩
  |word=>
   refine⟨_,rfl,aj (ai (by decide) ⟨_,rfl,aj (ai (by decide) ⟨_,rfl,aj (ai (by decide) ?_)⟩)⟩)⟩;exact ai (by decide) ⟨.word,p,1,rfl,.inr rfl,.inr rfl,u.hs,λq Y u2 ty lit=>fin _ q (u.tr u2) ⟨ty _ _,by rcases lit with ⟨i,rfl,_⟩ |⟨i,rfl⟩ <;> (rw[nq];lia),by rcases lit with ⟨i,rfl,_⟩ |⟨i,rfl⟩ <;> (rw[dq];lia),(Cl.lit lit).c⟩⟩
 refine⟨Zj _,.inl (pR (aN (λe1=>?_) λe1=>ai (by decide) (go M (.rfl hp))))⟩;have CY:0<ws.length:=by
  cases ws with
  |nil=>simp at e1
  |cons _ _=>simp
 refine⟨p,4,rfl,hp,by decide,by decide,λr1 X1 u1 _ _=>aN (λe2=>?_) λe2=>go _ u1⟩;refine⟨p,_,rfl,u1.hs,by rw[Y6];lia,?_,λr X2 u2 r0 CZ=>?_⟩
 ·rw[Y6];exact Int.lt_of_le_of_lt (by lia:_<=(200:Int)) (by decide)
 rw[Y6]at CZ;obtain⟨d,e3,e4⟩:=dS (xs:=ws.map qD) r0 (by rw[Y6];exact CZ);obtain⟨q,hq,rfl⟩:=List.mem_map.mp e4;have hq':=hw q hq;refine⟨_,e3,fin _ q (u1.tr u2) ⟨hq'.ty,?_,?_,hq'.cl.c⟩⟩
 ·rcases hq'.is with ⟨x,rfl⟩ |⟨f,x,rfl⟩
  ·rw[nq];lia
  ·rw[nq,nq];lia
 ·rcases hq'.is with ⟨x,rfl⟩ |⟨f,x,rfl⟩
  ·rw[dq];lia
  ·rw[dq,dq];lia
end K97
end
section
namespace K97
open PySem N NQ
open L2
variable{w:Wo}
def k7(n:Nat):Sp:=λds M Q _=>∃sc f p,ds=[aV sc,.int f,.ref p]/\0<=f/\f<=1/\f.toNat+4<=n/\d7 sc 0/\Hs M p/\∀q X,Sx M p X->b4 kS sc q->nq q<=8+9 * f.toNat->dq q<=7+f.toNat->Cl sc q->Q (qD q) X
noncomputable def vo:B:=.cons (.ret (.tup (.cons (.v 6) (.cons (.v 4) (.cons (.call 22 (.cons (.v 5) (.cons (.v 0) (.cons (.c (.int 0)) (.cons (.v 2) .nil))))) .nil))))) .nil
noncomputable def Oq:B:=.cons (.set (.one 6) (.ix (.lst (.cons (.c (.str "same")) (.cons (.c (.str "under")) .nil))) (.bi .int (.cons (.and (.cmp .Eq (.v 5) (.tup (.cons (.c (.str "num")) .nil))) (.cmp .Gt (.v 3) (.c (.int 3)))) .nil)))) vo
noncomputable def C0:B:=.cons (.cond (.and (.cmp .Eq (.v 5) (.tup (.cons (.c (.str "num")) .nil))) (.cmp .Eq (.call 10 (.cons (.v 2) (.cons (.c (.int 8)) .nil))) (.c (.int 0)))) (.cons (.set (.one 4) (.ix (.lst (.cons (.tup (.cons (.c (.str "at")) (.cons (.c (.str "a")) (.cons (.tup (.cons (.c (.str "row")) (.cons (.tup (.cons (.tup (.cons (.c (.str "a")) (.cons (.v 4) .nil))) (.cons (.tup (.cons (.c (.str "b")) (.cons (.tup (.cons (.c (.str "table")) (.cons (.c (.str "t")) .nil))) .nil))) .nil))) .nil))) .nil)))) (.cons (.tup (.cons (.c (.str "let")) (.cons (.c (.str "w")) (.cons (.tup (.cons (.c (.str "table")) (.cons (.c (.str "u")) .nil))) (.cons (.v 4) .nil))))) .nil))) (.op .Mod (.v 3) (.c (.int 2))))) .nil) .nil) Oq
noncomputable def Ot:B:=.cons (.set (.one 4) (.call 22 (.cons (.v 5) (.cons (.v 0) (.cons (.c (.int 0)) (.cons (.v 2) .nil)))))) C0
noncomputable def Ou:B:=.cons (.set (.one 5) (.ix (.lst (.cons (.tup (.cons (.c (.str "num")) .nil)) (.cons (.tup (.cons (.c (.str "num")) .nil)) (.cons (.tup (.cons (.c (.str "word")) .nil)) .nil)))) (.call 10 (.cons (.v 2) (.cons (.c (.int 3)) .nil))))) Ot
noncomputable def Ov:B:=.cons (.cond (.and (.cmp .Gt (.v 1) (.c (.int 0))) (.cmp .Eq (.v 3) (.c (.int 1)))) (.cons (.set (.one 4) (.call 23 (.cons (.v 0) (.cons (.op .Sub (.v 1) (.c (.int 1))) (.cons (.v 2) .nil))))) (.cons (.ret (.tup (.cons (.ix (.lst (.cons (.c (.str "and")) (.cons (.c (.str "or")) .nil))) (.call 10 (.cons (.v 2) (.cons (.c (.int 2)) .nil)))) (.cons (.v 4) (.cons (.call 23 (.cons (.v 0) (.cons (.op .Sub (.v 1) (.c (.int 1))) (.cons (.v 2) .nil)))) .nil))))) .nil)) .nil) Ou
noncomputable def C1:B:=.cons (.cond (.and (.cmp .Gt (.v 1) (.c (.int 0))) (.cmp .Eq (.v 3) (.c (.int 0)))) (.cons (.ret (.tup (.cons (.c (.str "not")) (.cons (.call 23 (.cons (.v 0) (.cons (.op .Sub (.v 1) (.c (.int 1))) (.cons (.v 2) .nil)))) .nil)))) .nil) .nil) Ov
noncomputable def Ow:B:=.cons (.set (.one 3) (.call 10 (.cons (.v 2) (.cons (.c (.int 6)) .nil)))) C1
theorem Ox:aO ["scope","fuel","seed","way","one","kind","word"] ["scope","fuel","seed"] (ao (ae 29)):=⟨rfl,rfl,rfl,by decide +kernel,rfl,by decide +kernel,by decide +kernel⟩
theorem Oy:aQ nm 40 ["scope","fuel","seed","way","one","kind","word"] (ao (ae 29)) (aH (ae 29))=Ow:=by kernel_rfl
noncomputable abbrev Vr(n:Nat):bD w:={ cs:=[(10,gK),(22,ig n),(23,k7 n)] }
theorem Oz(O:Lw w){n:Nat}(hs:FO w 22 (n+26) (ig n))(hc:FO w 23 (n+26) (k7 n)):FO w 23 (n+27) (k7 (n+1)):=by
 refine bh O.ok O.hn _ ⟨"_law_claim",ae 29,["scope","fuel","seed"]⟩ (by rw[O.hd];rfl) (Vr n) { cs:=⟨⟨1,by lia,ie O⟩,⟨n+26,Y8 _,hs⟩,⟨n+26,Y8 _,hc⟩,trivial⟩ } Ox Oy λds M Q _ h=>?_;obtain⟨sc,f,p,rfl,f0,f1,rk,an,hp,h⟩:=h;have fin:∀X q,Sx M p X->b4 kS sc q->nq q<=8+9 * f.toNat->dq q<=7+f.toNat->Cl sc q->bU Q (qD q) X:=λX q u g1 g2 g3 g4=>aC (h q X u g1 g2 g3 g4);have VM:∀{a b:Qn},Cl sc a->Cl sc b->∀v,2<=v->Cw v sc (λe=>max (cq a e) (cq b e)) v:=λha hb v hv e he=>Nat.max_le.mpr ⟨ha v hv e he,hb v hv e he⟩;refine⟨rfl,p,6,rfl,hp,by decide,by decide,λc6 X u1 w0 w1=>?_⟩;show B.w (Vr (w:=w) n).wd nm.aq C1 (cx Q) [some (aV sc),some (.int f),some (.ref p),some (.int c6),none,none,none] X;refine ff λN2 jk=>?_;have g2:N2 [some (aV sc),some (.int f),some (.ref p),some (.int c6),none,none,none] X:=by
  refine jk _ _ (ff λN3 vp=>?_);have g3:N3 [some (aV sc),some (.int f),some (.ref p),some (.int c6),none,none,none] X:=by
   refine vp _ _ ?_;refine⟨l1,l1,l1,l3,.inl ⟨p,3,rfl,u1.hs,by decide,by decide,λr X2 u2 r0 r1=>?_⟩⟩;obtain⟨d,e3,e4⟩:=dS (xs:=[kD .num,kD .num,kD .word]) r0 r1;refine⟨d,e3,?_⟩;obtain⟨κ,rfl,hκ⟩:∃ κ,d=kD κ/\(κ=.num\/κ=.word):=by
    simp only[ZN,ZF,or_false]at e4;rcases e4 with z |z |z
    ·exact⟨_,z,.inl rfl⟩
    ·exact⟨_,z,.inl rfl⟩
    ·exact⟨_,z,.inr rfl⟩
   have k1:κ∈AK/\kd κ=1/\zk κ=2/\UE κ=2:=(by rcases hκ with rfl |rfl <;> decide +kernel);have U9:∀{q},GQ 0 κ sc q->nq q<=2/\dq q<=2:=λg=>by
    have h1:=g.n;have h2:=g.d
    unfold nB at h1;unfold dB at h2;rw[if_pos (by lia)]at h1 h2;lia
   refine⟨κ,sc,0,p,rfl,k1.1,by unfold Rk;lia,an,u2.hs,λq1 X3 u3 g=>?_⟩;show B.w (Vr (w:=w) n).wd nm.aq C0 (cx Q) [some (aV sc),some (.int f),some (.ref p),some (.int c6),some (qD q1),some (kD κ),none] X3;have uu:=(u1.tr u2).tr u3;refine ff λN4 Op=>?_;have g4:∀(X:Mp)(qa:Qn),Sx M p X->Ty kS sc qa κ->nq qa<=5->dq qa<=6->Cl sc qa->N4 [some (aV sc),some (.int f),some (.ref p),some (.int c6),some (qD qa),some (kD κ),none] X:=by
    intro X qa u ty hn hd cN;refine Op _ _ ?_;have o0:∀s,(s="same"\/s="under"/\κ=.num)->B.w (Vr (w:=w) n).wd nm.aq vo (cx Q) [some (aV sc),some (.int f),some (.ref p),some (.int c6),some (qD qa),some (kD κ),some (.str s)] X:=by
     intro s jZ;refine⟨κ,sc,0,p,rfl,k1.1,by unfold Rk;lia,an,u.hs,λqb Y u4 gb=>⟨l3,?_⟩⟩;have Un:=U9 gb;rcases jZ with rfl |⟨rfl,e⟩
     ·refine fin _ (.same qa qb) (u.tr u4) ?_ (by rw[nq];lia) (by rw[dq];lia) (VM cN gb.c.zero);rcases hκ with rfl |rfl
      ·exact .gD ty gb.ty
      ·exact .gE ty gb.ty
     ·subst e;exact fin _ (.under qa qb) (u.tr u4) (.under ty gb.ty) (by rw[nq];lia) (by rw[dq];lia) (VM cN gb.c.zero)
    refine⟨l2,.inl ⟨l1,kK (a:=κ) (b:=.num) (by lia) ?_⟩⟩;refine aN (λe=>?_) λe=>⟨.str "same",rfl,o0 _ (.inl rfl)⟩;refine⟨_,MQ,?_⟩;show B.w (Vr (w:=w) n).wd nm.aq vo (cx Q) [some (aV sc),some (.int f),some (.ref p),some (.int c6),some (qD qa),some (kD κ),some (if decide (3<c6)=true then .str "under" else .str "same")] X
    split
    ·exact o0 _ (.inr ⟨rfl,of_decide_eq_true e⟩)
    ·exact o0 _ (.inl rfl)
   refine⟨l1,kK (a:=κ) (b:=.num) (by lia) (aN (λe1=>?_) λe1=>ai (by decide) (g4 _ q1 uu g.ty (by have:=U9 g;lia) (by have:=U9 g;lia) g.c.zero))⟩
   have e1:=of_decide_eq_true e1;subst e1;refine⟨p,8,rfl,u3.hs,by decide,by decide,λr4 X4 u4 _ _=>cz (aN (λe2=>?_) λe2=>g4 _ q1 (uu.tr u4) g.ty (by have:=U9 g;lia) (by have:=U9 g;lia) g.c.zero)⟩
   refine⟨l2,l2,l2,l2,l2,l3,l2,l4,l2,.inl ?_⟩;obtain⟨d,Wf,U'⟩:=dS (xs:=[qD (.at "a" (.row [("a",q1),("b",.tab "t")])),qD (.let "w" (.tab "u") q1)]) (Int.emod_nonneg c6 (b:=2) (by decide)) (Int.emod_lt_of_pos c6 (b:=2) (by decide));refine⟨(by decide:(0:Int)<2),d,Wf,?_⟩;have YY:=U9 g;rcases List.mem_cons.mp U' with rfl |U'
   ·exact g4 _ _ (uu.tr u4) (.at (ks:=[("a",.num),("b",.ag .num)]) ⟨by decide +kernel,by decide +kernel⟩ (.row (show 2<100 by decide) (by decide +kernel) (.cons g.ty (.cons (.tab (by decide +kernel)) .nil))) (by decide +kernel)) (by rw[nq,nq,cy,cy,cy,nq];lia) (by rw[dq,dq,ck,ck,ck,dq];lia) λv hv e he=>Nat.max_le.mpr ⟨g.c.zero v hv e he,Nat.max_le.mpr ⟨hv,hv⟩⟩
   ·cases List.mem_singleton.mp U';refine g4 _ _ (uu.tr u4) (.let (l:=.ag jh) (by decide +kernel) (.tab (by decide +kernel)) (Ty.mono (λ_ _ z=>z) g.ty λx k U=>?_)) (by rw[nq,nq];lia) (by rw[dq,dq];lia) λv hv e he=>Nat.max_le.mpr ⟨hv,g.c.zero v hv _ λp hp=>by unfold ep;rw[if_neg (an.nw p hp)];exact he p hp⟩;rw[lk,if_neg]
    ·exact U
    ·rintro rfl;exact an.nw _ (di U) rfl
  refine aN (λe1=>cz (aN (λe2=>?_) λe2=>g3)) λe1=>ai (by decide) g3;have fp:0<f:=of_decide_eq_true e1;refine⟨sc,f-1,p,rfl,by lia,by lia,by lia,an,u1.hs,λqa Xa ua ta na UA ca=>?_⟩;refine⟨l2,.inl ⟨p,2,rfl,ua.hs,by decide,by decide,λr2 X2 u2 qj k6=>?_⟩⟩;obtain⟨d,e3,e4⟩:=dS (xs:=[.str "and",.str "or"]) qj k6;refine⟨d,e3,?_⟩;refine⟨sc,f-1,p,rfl,by lia,by lia,by lia,an,u2.hs,λqb Xb ub tb nb Vs cb=>⟨l3,?_⟩⟩;have uu:=((u1.tr ua).tr u2).tr ub;simp only[ZN,ZF,or_false]at e4;rcases e4 with rfl |rfl
  ·exact fin _ (.and qa qb) uu (.and ta tb) (by rw[nq];lia) (by rw[dq];lia) (VM ca cb)
  ·exact fin _ (.or qa qb) uu (.or ta tb) (by rw[nq];lia) (by rw[dq];lia) (VM ca cb)
 refine aN (λe1=>cz (aN (λe2=>?_) λe2=>g2)) λe1=>ai (by decide) g2;have fp:0<f:=of_decide_eq_true e1;exact⟨sc,f-1,p,rfl,by lia,by lia,by lia,an,u1.hs,λq X2 u2 ty hn hd hc=>⟨l2,fin _ (.not q) (u1.tr u2) (.not ty) (by rw[nq];lia) (by rw[dq];lia) hc⟩⟩
variable{w:Wo}
theorem C2(e:Str->Nat):cq (.num 1) e=2:=(by decide +kernel:lit 1=2)
noncomputable def k8(f:Str):D:=.tup [.str f,.tup [.str "num",.int 1]]
theorem C3{sc:Sc}:∀fs:List Str,∃ps ks,bz ps=fs.map k8/\c0 kS sc ps ks/\cy ps=fs.length/\ck ps<=1/\ks.map (·.1)=fs/\ps.length=fs.length/\cj ks<=1/\∀e,cB ps e=2
 |[]=>⟨[],[],by rw[bz];rfl,.nil,by rw[cy];rfl,by rw[ck];lia,rfl,rfl,by rw[cj];lia,λ_=>rfl⟩
 |f::fs=>by
  obtain⟨ps,ks,h1,h2,h3,h4,h5,h6,Wg,VN⟩:=C3 (sc:=sc) fs;exact⟨(f,.num 1)::ps,(f,.num)::ks,by rw[bz,h1,qD];rfl,.cons .num h2,by rw[cy,nq,h3,Zg];lia,by rw[ck,dq];lia,by rw[Zh,h5],by rw[Zg,Zg,h6],by rw[cj,kd];lia,λe=>by rw[cB,VN,C2];rfl⟩
theorem tk{sc:Sc}{q:Qn}{κ:Kd}(ty:Ty kS sc q κ):∀(fs:List Str)(j:Nat)(x:Str),fs[j]?=some x->fs.Nodup ->
  ∃ps ks,bz ps=(fs.map k8).set j (.tup [.str x,qD q])/\c0 kS sc ps ks/\lk x ks=some κ/\cy ps<=fs.length+nq q/\ck ps<=max 1 (dq q)/\ks.map (·.1)=fs/\ps.length=fs.length/\cj ks<=max 1 (kd κ)/\∀e,cB ps e<=max 2 (cq q e)
 |[],_,_,h,_=>nomatch h
 |f::fs,0,x,h,_=>by
  cases h;obtain⟨ps,ks,h1,h2,h3,h4,h5,h6,Wg,VN⟩:=C3 (sc:=sc) fs;exact⟨(f,q)::ps,(f,κ)::ks,by rw[bz,h1];rfl,.cons ty h2,by rw[lk,if_pos rfl],by rw[cy,h3,Zg];lia,by rw[ck];lia,by rw[Zh,h5],by rw[Zg,Zg,h6],by rw[cj];lia,λe=>by rw[cB,VN];lia⟩
 |f::fs,j+1,x,h,nd=>by
  rw[List.nodup_cons]at nd;have h:fs[j]?=some x:=h;obtain⟨ps,ks,h1,h2,h3,h4,h5,h6,Wg,VN,h9⟩:=tk ty fs j x h nd.2;refine⟨(f,.num 1)::ps,(f,.num)::ks,by rw[bz,h1,qD];rfl,.cons .num h2,?_,by rw[cy,nq,Zg];lia,by rw[ck,dq];lia,by rw[Zh,h6],by rw[Zg,Zg,Wg],by rw[cj,kd];lia,λe=>by have:=h9 e;rw[cB,C2];lia⟩
  rw[lk,if_neg,h3];rintro rfl;exact nd.1 (Z4 h)
def qk(n:Nat):Sp:=λds M Q _=>∃ κ sc f p,ds=[kD κ,aV sc,.int f,.ref p]/\κ∈AK/\0<f/\20 * f.toNat+1<=n/\d7 sc f.toNat/\Hs M p/\∀q X,Sx M p X->GQ f κ sc q->Q (qD q) X
theorem C4{f:Int}(hf:0<f){κ:Kd}(h:κ∈AK):nB f κ=5 * zf (f-1).toNat+40/\dB f κ=9 * (f-1).toNat+18:=by
 obtain⟨g,hg⟩:∃g:Nat,f=(g:Int)+1:=⟨(f-1).toNat,by lia⟩;subst hg;rw[show ((g:Int)+1-1).toNat=g by lia];unfold nB dB;rw[if_neg (by lia),if_neg (by lia),show ((g:Int)+1).toNat=g+1 from rfl,zf];exact⟨rfl,by lia⟩
noncomputable def OA:B:=.cons (.ret (.tup (.cons (.c (.str "at")) (.cons (.ix (.v 4) (.v 5)) (.cons (.tup (.cons (.c (.str "row")) (.cons (.bi .tuple (.cons (.v 6) .nil)) .nil))) .nil))))) .nil
noncomputable def OB:B:=.cons (.put (.v 6) (.v 5) (.tup (.cons (.ix (.v 4) (.v 5)) (.cons (.call 26 (.cons (.v 0) (.cons (.v 1) (.cons (.op .Sub (.v 2) (.c (.int 1))) (.cons (.v 3) .nil))))) .nil)))) OA
noncomputable def OD:B:=.cons (.set (.one 6) (.lc 1 [] (.one 0) (.seq (.v 4)) .ar (.tup (.cons (.v 0) (.cons (.tup (.cons (.c (.str "num")) (.cons (.c (.int 1)) .nil))) .nil))))) OB
noncomputable def C5:B:=.cons (.set (.one 5) (.call 10 (.cons (.v 3) (.cons (.bi .len (.cons (.v 4) .nil)) .nil)))) OD
noncomputable def OE:B:=.cons (.set (.one 4) (.sl (.lst (.cons (.c (.str "a")) (.cons (.c (.str "c")) (.cons (.c (.str "t")) (.cons (.c (.str "u")) (.cons (.c (.str "w")) .nil)))))) .ar (.op .Add (.c (.int 1)) (.call 10 (.cons (.v 3) (.cons (.c (.int 5)) .nil)))))) C5
theorem OF:aO ["kind","scope","fuel","seed","fields","place","parts"] ["kind","scope","fuel","seed"] (ao (ae 31)):=⟨rfl,rfl,rfl,by decide +kernel,rfl,by decide +kernel,by decide +kernel⟩
theorem OG:aQ nm 40 ["kind","scope","fuel","seed","fields","place","parts"] (ao (ae 31)) (aH (ae 31))=OE:=by kernel_rfl
noncomputable abbrev W7(n:Nat):bD w:={ cs:=[(10,gK),(26,fi n)] }
theorem OH(O:Lw w){n:Nat}(ha:FO w 26 (n+26) (fi n)):FO w 25 (n+27) (qk (n+1)):=by
 refine bh O.ok O.hn _ ⟨"_law_taken",ae 31,["kind","scope","fuel","seed"]⟩ (by rw[O.hd];rfl) (W7 n) { cs:=⟨⟨1,by lia,ie O⟩,⟨n+26,Y8 _,ha⟩,trivial⟩ } OF OG λds M Q _ h=>?_;obtain⟨κ,sc,f,p,rfl,hκ,f0,rk,an,hp,h⟩:=h;refine⟨rfl,l5,.inl ⟨p,5,rfl,hp,by decide,by decide,λr X1 u1 r0 r1=>.inl ?_⟩⟩;obtain⟨fs,e1,nd,nt,c1,c2⟩:∃fs:List Str,eQ [.str "a",.str "c",.str "t",.str "u",.str "w"] none (some (1+r))=fs.map D.str/\fs.Nodup/\("table" : Str) ∉ fs/\1<=fs.length/\fs.length<=5:=by
  have:r=0\/r=1\/r=2\/r=3\/r=4:=by have r1:r<5:=r1;lia
  rcases this with rfl |rfl |rfl |rfl |rfl
  ·exact⟨["a"],by rfl,by decide +kernel,by decide +kernel,by decide,by decide⟩
  ·exact⟨["a","c"],by rfl,by decide +kernel,by decide +kernel,by decide,by decide⟩
  ·exact⟨["a","c","t"],by rfl,by decide +kernel,by decide +kernel,by decide,by decide⟩
  ·exact⟨["a","c","t","u"],by rfl,by decide +kernel,by decide +kernel,by decide,by decide⟩
  ·exact⟨["a","c","t","u","w"],by rfl,by decide +kernel,by decide +kernel,by decide,by decide⟩
 have key:∀d,d=fs.map D.str->B.w (W7 (w:=w) n).wd nm.aq C5 (cx Q) [some (kD κ),some (aV sc),some (.int f),some (.ref p),some (.lst d),none,none] X1:=?_
 ·exact key _ e1
 rintro _ rfl;refine⟨p,_,rfl,u1.hs,?_,?_,λj X2 u2 W8 j1=>?_⟩
 ·rw[Y6];lia
 ·rw[Y6];exact Int.lt_of_le_of_lt (by lia:_<=(5:Int)) (by decide)
 rw[Y6]at j1;have Ym:j.toNat<fs.length:=by lia
 have U:fs[j.toNat]?=some fs[j.toNat]:=Y5 Ym;generalize fs[j.toNat]=x at U;have C6:cK (fs.map D.str) j=some (.str x):=by
  unfold cK eL;rw[if_pos W8,if_pos (by rw[Y6];exact j1)];show (fs.map D.str)[j.toNat]?=_;rw[Zr,U];rfl
 refine m7 (M:=X2) D.str k8 fs ?_ (Zd c2 (by decide)) (λz _ N hN=>?_) ?_
 ·exact trivial
 ·exact⟨l2,l2,hN⟩
 refine .inr λl6 ii=>?_;have q6:up X2 l6 (.lst (fs.map k8)) l6=some (.lst (fs.map k8)):=ak;have hs2:=u2.hs;have Wh:p≠l6:=by obtain⟨o,e,_⟩:=hs2;exact b7 e ii
 refine⟨_,C6,κ,sc,f-1,p,rfl,hκ,?_,an.bP (by lia),?_,λq Y u7 g=>⟨l2,?_⟩⟩
 ·have:=dy hκ;have:=@vm κ;unfold Rk;lia
 ·obtain⟨o,e,s⟩:=hs2;exact⟨o,by rw[av Wh];exact e,s⟩
 obtain⟨ps,ks,t1,t2,t3,t4,t5,W9,YZ,Y0,Yn⟩:=tk g.ty fs j.toNat x U nd;have q7:Y l6=some (.lst (fs.map k8)):=by rw[u7.ne (ZO Wh)];exact ak
 refine .inl ⟨_,q7,j.toNat,?_,?_⟩
 ·unfold eL;rw[if_pos W8,if_pos (by rw[Y6];exact j1)]
 rw[<- t1];refine⟨_,C6,_,ak,l2,l3,?_⟩;obtain⟨b1,b2⟩:=C4 f0 hκ;obtain⟨g1,g2,g3,g4⟩:=fh (f:=f-1) hκ;have Y3:=g.n;have gd:=g.d;obtain⟨W',Yo,rfl⟩:=u7;refine uT (M:=up X2 p W') ?_ (h (.at x (.row ps)) _ ((u1.tr u2).tr ⟨W',Yo,rfl⟩) ⟨.at ⟨by rw[W9];exact nd,by have:=dy hκ;rw[kd];lia⟩ (.row (by lia) (by rw[W9];exact nt) t2) t3,by rw[nq,nq,b1];lia,by rw[dq,dq,b2];lia,λv hv e he=>Y9 (Yn e) (Nat.max_le.mpr ⟨nD hv,Y9 (g.c v hv e he) (Zx (by lia) (nC (by lia)))⟩)⟩)
 refine⟨λa u e=>?_,λa b e q=>?_⟩
 ·by_cases ha:a=l6
  ·subst ha;rw[av (ZO Wh),ii]at e;cases e
  ·rw[av ha];by_cases hb:a=p
   ·subst hb;rw[ak]at e ⊢;exact e
   ·rw[av hb]at e ⊢;rw[av ha];exact e
 ·by_cases hb:b=l6
  ·subst hb;rw[ak]at q;cases q
  ·rw[av hb]at q;by_cases hc:b=p
   ·subst hc;rw[ak]at q ⊢;exact q
   ·rw[av hc]at q ⊢;rw[av hb]at q;exact q
variable{w:Wo}
noncomputable def iD(v:Qn×Kd):D:=.tup [qD v.1,kD (.ag v.2)]
structure Iv(sc:Sc)(v:Qn×Kd):Prop where
 ty:Ty kS sc v.1 (.ag v.2)
 UN:.ag v.2∈AK
 n:nq v.1<=2
 d:dq v.1<=2
 c:Cl sc v.1
def ql(n:Nat):Sp:=λds M Q _=>∃sc f p,ds=[aV sc,.int f,.ref p]/\20 * f.toNat+1<=n/\d7 sc f.toNat/\Hs M p/\∀q k X,Sx M p X->.ag k∈AK->Ty kS sc q (.ag k)->nq q<=zf f.toNat->dq q<=9 * f.toNat+9->Cq (f.toNat-1) sc q->Q (.tup [qD q,kD (.ag k)]) X
noncomputable def OI:B:=.cons (.ret (.tup (.cons (.tup (.cons (.c (.str "table")) (.cons (.v 4) .nil))) (.cons (.v 5) .nil)))) .nil
noncomputable def OJ:B:=.cons (.cond (.and (.cmp .Gt (.v 1) (.c (.int 0))) (.cmp .Eq (.call 10 (.cons (.v 2) (.cons (.c (.int 4)) .nil))) (.c (.int 0)))) (.cons (.ret (.tup (.cons (.call 26 (.cons (.v 5) (.cons (.v 0) (.cons (.op .Sub (.v 1) (.c (.int 1))) (.cons (.v 2) .nil))))) (.cons (.v 5) .nil)))) .nil) .nil) OI
noncomputable def C7:B:=.cons (.cond (.and (.cmp .NotEq (.v 8) (.lst .nil)) (.cmp .Eq (.call 10 (.cons (.v 2) (.cons (.c (.int 3)) .nil))) (.c (.int 0)))) (.cons (.ret (.ix (.v 8) (.call 10 (.cons (.v 2) (.cons (.bi .len (.cons (.v 8) .nil)) .nil))))) .nil) .nil) OJ
noncomputable def OL:B:=.cons (.loop (.many [6,7]) (.seq (.call 20 (.cons (.v 0) .nil))) (.cons (.cond (.cmp .Eq (.v 7) (.ix (.v 3) (.c (.str "u")))) (.cons (.ex (.mt .append (.v 8) (.cons (.tup (.cons (.tup (.cons (.c (.str "at")) (.cons (.c (.str "t")) (.cons (.tup (.cons (.c (.str "var")) (.cons (.v 6) .nil))) .nil)))) (.cons (.tup (.cons (.c (.str "bag")) (.cons (.tup (.cons (.c (.str "num")) .nil)) .nil))) .nil))) .nil))) .nil) .nil) .nil)) C7
noncomputable def OO:B:=.cons (.set (.one 8) (.lc 2 [] (.many [0,1]) (.seq (.call 20 (.cons (.v 0) .nil))) (.cmp .Eq (.ix (.v 1) (.c (.int 0))) (.c (.str "bag"))) (.tup (.cons (.tup (.cons (.c (.str "var")) (.cons (.v 0) .nil))) (.cons (.v 1) .nil))))) OL
noncomputable def OP:B:=.cons (.set (.one 5) (.tup (.cons (.c (.str "bag")) (.cons (.ix (.v 3) (.v 4)) .nil)))) OO
noncomputable def OQ:B:=.cons (.set (.one 4) (.ix (.lst (.cons (.c (.str "r")) (.cons (.c (.str "s")) (.cons (.c (.str "t")) (.cons (.c (.str "u")) (.cons (.c (.str "v")) .nil)))))) (.call 10 (.cons (.v 2) (.cons (.c (.int 5)) .nil))))) OP
noncomputable def OR:B:=.cons (.set (.one 3) (.call 18 .nil)) OQ
theorem OT:aO ["scope","fuel","seed","kinds","name","kind","spare","other","inner"] ["scope","fuel","seed"] (ao (ae 30)):=⟨rfl,rfl,rfl,by decide +kernel,rfl,by decide +kernel,by decide +kernel⟩
theorem OU:aQ nm 40 ["scope","fuel","seed","kinds","name","kind","spare","other","inner"] (ao (ae 30)) (aH (ae 30))=OR:=by kernel_rfl
noncomputable abbrev Xd(n:Nat):bD w:={ cs:=[(10,gK),(18,kP),(20,uW),(26,fi n)] }
theorem OV(O:Lw w){n:Nat}(ha:FO w 26 (n+26) (fi n)):FO w 24 (n+27) (ql (n+1)):=by
 refine bh O.ok O.hn _ ⟨"_law_over",ae 30,["scope","fuel","seed"]⟩ (by rw[O.hd];rfl) (Xd n) { cs:=⟨⟨1,by lia,ie O⟩,⟨1,by lia,nh O⟩,⟨1,by lia,B1 O⟩,⟨n+26,Y8 _,ha⟩,trivial⟩ } OT OU λds M Q _ h=>?_;obtain⟨sc,f,p,rfl,rk,an,hp,h⟩:=h;refine⟨rfl,rfl,l5,.inl ⟨p,5,rfl,hp,by decide,by decide,λr X1 u1 r0 r1=>?_⟩⟩;obtain⟨d,e1,e2⟩:=dS (xs:=[.str "r",.str "s",.str "t",.str "u",.str "v"]) r0 r1;obtain⟨x,κ,rfl,U,hκ⟩:∃x κ,d=.str x/\kS x=some κ/\.ag κ∈AK:=by
  simp only[ZN,ZF,or_false]at e2;rcases e2 with z |z |z |z |z
  ·exact⟨"r",jg,z,by decide +kernel,by decide +kernel⟩
  ·exact⟨"s",jg,z,by decide +kernel,by decide +kernel⟩
  ·exact⟨"t",.num,z,by decide +kernel,by decide +kernel⟩
  ·exact⟨"u",jh,z,by decide +kernel,by decide +kernel⟩
  ·exact⟨"v",.ag .word,z,by decide +kernel,by decide +kernel⟩
 refine⟨_,e1,?_⟩;have OW:aX ((bM.map λm=>(aae m.1:Key)).zip (bM.map λm=>kD m.2)) (.inr x)=some (kD κ):=by
  rw[pS,nc];unfold kS at U;rw[U];rfl
 refine⟨_,OW,l2,?_⟩;refine⟨sc,rfl,by have:=an.len;lia,an.kd,λout ho lo _=>?_⟩
 have ls:=an.len;refine dQ (λxs ys M'=>M'=X1/\∃rest vs,xs=fc rest/\ys=vs.map iD/\(∀p∈rest,lk p.1 sc=some p.2)/\(∀v∈vs,Iv sc v)/\vs.length+rest.length<=40) ?_ ?_ _ _ _ ⟨rfl,out,[],rfl,rfl,λp hp=>(ho _ _).mp hp,λv hv=>(nomatch hv),by simp;lia⟩
 ·rintro ys M' ⟨rfl,rest,vs,e1,rfl,hr,hv,ii⟩;refine⟨trivial,Zd (by rw[Y6];lia:_<=40) (by decide),.inr λlw vq=>?_⟩;have C8:lw≠p:=by obtain⟨o,e,_⟩:=u1.hs;exact ZO (b7 e vq)
  have Uo:M lw=none:=by rw[<- u1.ne C8];exact vq
  refine⟨sc,rfl,by lia,an.kd,λout ho lo _=>?_⟩;refine cZ (λxs τ M2=>∃rest vs u v,xs=fc rest/\(∀p∈rest,lk p.1 sc=some p.2)/\τ=[some (aV sc),some (.int f),some (.ref p),some (dR bM),some (.str x),some (kD (.ag κ)),u,v,some (.ref lw)]/\M2=up M' lw (.lst (vs.map iD))/\(∀v∈vs,Iv sc v)/\vs.length+rest.length<=80)
   ?_ ?_ _ _ _ ⟨out,vs,none,none,rfl,λp hp=>(ho _ _).mp hp,rfl,rfl,hv,by lia⟩
  ·rintro τ M2 ⟨rest,vs,u,v,e1,hr,rfl,rfl,hv,ii⟩;refine⟨trivial,MT vq (.rfl ?_)⟩;have key:∀ τ,τ=[some (aV sc),some (.int f),some (.ref p),some (dR bM),some (.str x),some (kD (.ag κ)),dg lw (.lst (vs.map iD)) u,dg lw (.lst (vs.map iD)) v,some (.lst (vs.map iD))]->B.w (Xd (w:=w) n).wd nm.aq C7 (cx Q) τ M':=?_
   ·refine key _ ?_;show [_,_,dg lw (.lst (vs.map iD)) (some (.ref p)),_,_,_,_,_,dg lw (.lst (vs.map iD)) (some (.ref lw))]=_;rw[MR (ZO C8),BW];rfl
   generalize dg lw (.lst (vs.map iD)) u=u';generalize dg lw (.lst (vs.map iD)) v=v';rintro _ rfl;refine ff λYp OX=>?_;have go:∀X,Sx M p X->Yp [some (aV sc),some (.int f),some (.ref p),some (dR bM),some (.str x),some (kD (.ag κ)),u',v',some (.lst (vs.map iD))] X:=by
    intro X uX;refine OX _ _ (ff λYq OY=>?_);have tb:∀X,Sx M p X->Yq [some (aV sc),some (.int f),some (.ref p),some (dR bM),some (.str x),some (kD (.ag κ)),u',v',some (.lst (vs.map iD))] X:=by
     intro X uX;exact OY _ _ ⟨l2,l2,aC (h (.tab x) κ X uX hκ (.tab U) (by have:=jm f.toNat;rw[nq];lia) (by rw[dq];lia) (Cl.c λv hv e _=>hv))⟩
    refine aN (λe1=>⟨p,4,rfl,uX.hs,by decide,by decide,λr4 X4 u4 _ _=>cz (aN (λe2=>?_) λe2=>tb _ (uX.tr u4))⟩) λe1=>ai (by decide) (tb X uX);have fp:0<f:=of_decide_eq_true e1;refine⟨.ag κ,sc,f-1,p,rfl,hκ,?_,an.bP (by lia),u4.hs,λq X6 u6 g=>⟨l2,aC (h q κ X6 ((uX.tr u4).tr u6) hκ g.ty ?_ ?_ (by have:=g.c;rwa [show (f-1).toNat=f.toNat-1 by lia]at this))⟩⟩
    ·have:=dy hκ;unfold Rk;rw[UG];lia
    ·have:=(fh (f:=f-1) hκ).2.1;have:=qh (show (f-1).toNat<=f.toNat by lia);exact Y9 g.n (by lia)
    ·have:=(fh (f:=f-1) hκ).2.2.2;exact Y9 g.d (by lia)
   refine⟨Zj _,.inl (pR (aN (λe1=>?_) λe1=>ai (by decide) (go M' u1)))⟩;have CY:0<vs.length:=by
    cases vs with
    |nil=>simp at e1
    |cons _ _=>simp
   refine⟨p,3,rfl,u1.hs,by decide,by decide,λWG X6 u6 _ _=>cz (aN (λe2=>?_) λe2=>go _ (u1.tr u6))⟩;refine⟨p,_,rfl,u6.hs,by rw[Y6];lia,?_,λr7 X7 u7 OZ O0=>?_⟩
   ·rw[Y6];exact Int.lt_of_le_of_lt (by lia:_<=(80:Int)) (by decide)
   obtain⟨d,e3,e4⟩:=dS OZ O0;obtain⟨q,hq,rfl⟩:=List.mem_map.mp e4;have hq':=hv q hq;have:=jm f.toNat;exact⟨_,e3,aC (h q.1 q.2 X7 ((u1.tr u6).tr u7) hq'.UN hq'.ty (by have:=hq'.n;lia) (by have:=hq'.d;lia) hq'.c.c)⟩
  ·rintro y xs τ M2 ⟨rest,vs,u,v,e1,hr,rfl,rfl,hv,ii⟩;cases rest with
   |nil=>cases e1
   |cons g rest=>
    obtain⟨gf,gk⟩:=g;cases e1;have hg:=hr _ Za;have cS:∀p∈rest,lk p.1 sc=some p.2:=λp hp=>hr p (Zc _ hp);rw[Zg]at ii;have C9:kd gk<=9:=dy (an.UN _ (di hg));have O3:aX ((bM.map λm=>(aae m.1:Key)).zip (bM.map λm=>kD m.2)) (.inr "u")=some (kD jh):=by
     rw[pS,nc];rfl
    refine⟨trivial,λN hN=>⟨rfl,_,O3,kK (by show kd gk<=50;lia) (aN (λe=>?_) λe=>hN _ _ ⟨rest,vs,_,_,rfl,cS,rfl,rfl,hv,by lia⟩)⟩⟩;have e:gk=jh:=of_decide_eq_true e;subst e;refine⟨⟨rfl,_,ak⟩,l2,l3,l1,l2,l2,_,ak,Zd (by rw[Y6];lia:_<=80) (by decide),hN _ _ ⟨rest,vs++[(.at "t" (.var gf),.num)],_,_,rfl,cS,rfl,by rw[_root_.N.bj,Zt];rfl,λv eO=>?_,by simp;lia⟩⟩;rcases List.mem_append.mp eO with z |z
    ·exact hv v z
    ·rw[List.mem_singleton.mp z];exact⟨.at ⟨by decide +kernel,by decide +kernel⟩ (.var hg) rfl,(by decide +kernel:Kd.ag .num∈AK),by rw[nq,nq];lia,by rw[dq,dq];lia,λv hv e he=>Nat.max_le.mpr ⟨hv,he _ (di hg)⟩⟩
 ·rintro y xs ys M' ⟨rfl,rest,vs,e1,rfl,hr,hv,ii⟩;cases rest with
  |nil=>cases e1
  |cons g rest=>
   obtain⟨gf,gk⟩:=g;cases e1;have hg:=hr _ Za;have cS:∀p∈rest,lk p.1 sc=some p.2:=λp hp=>hr p (Zc _ hp);rw[Zg]at ii;refine⟨trivial,Zd (by rw[Y6];lia:_<=40) (by decide),λN hN=>⟨rfl,?_⟩⟩;cases gk with
   |ag k=>
    refine⟨_,rfl,aj (aJ (by decide) ⟨l2,l2,?_⟩)⟩;have:=hN (vs.map iD++[iD (.var gf,k)]) _ ⟨rfl,rest,vs++[(.var gf,k)],rfl,by rw[Zt];rfl,cS,λv eO=>?_,by simp;lia⟩
    ·exact this
    ·rcases List.mem_append.mp eO with z |z
     ·exact hv v z
     ·rw[List.mem_singleton.mp z];exact⟨.var hg,an.UN _ (di hg),by rw[nq];lia,by rw[dq];lia,λv hv e he=>Nat.max_le.mpr ⟨hv,he _ (di hg)⟩⟩
   |num=>exact⟨_,rfl,aj (ai (by decide) (hN _ _ ⟨rfl,rest,vs,rfl,rfl,cS,hv,by lia⟩))⟩
   |word=>exact⟨_,rfl,aj (ai (by decide) (hN _ _ ⟨rfl,rest,vs,rfl,rfl,cS,hv,by lia⟩))⟩
   |row fs=>exact⟨_,rfl,aj (ai (by decide) (hN _ _ ⟨rfl,rest,vs,rfl,rfl,cS,hv,by lia⟩))⟩
variable{w:Wo}
structure Wy(κ:Kd)(sc:Sc)(q:Qn):Prop where
 ty:Ty kS sc q κ
 n:nq q<=2
 d:dq q<=2
 c:Cl sc q
theorem Hq.Yr{κ:Kd}{sc:Sc}{q:Qn}(h:Hq κ sc q):Wy κ sc q:=by
 refine⟨h.ty,?_,?_,h.cl⟩
 ·rcases h.is with ⟨x,rfl⟩ |⟨f,x,rfl⟩
  ·rw[nq];lia
  ·rw[nq,nq];lia
 ·rcases h.is with ⟨x,rfl⟩ |⟨f,x,rfl⟩
  ·rw[dq];lia
  ·rw[dq,dq];lia
theorem O4{k:Kd}{f:Int}{sc:Sc}{q:Qn}(h:.ag k∈AK)(g:GQ 0 k sc q):GQ f (.ag k) sc (.one q):=by
 have h1:=g.n;have h2:=g.d
 unfold nB at h1;unfold dB at h2;rw[if_pos (by lia)]at h1 h2;obtain⟨a1,a2,a3,a4,_⟩:=qg (gJ h);refine⟨.one g.ty,?_,?_,g.c.zero.c⟩
 ·rw[nq];unfold nB;split
  ·rw[zk];lia
  ·obtain⟨g,hg⟩:∃g:Nat,f=(g:Int)+1:=⟨(f-1).toNat,by lia⟩;subst hg;have:=jm g;rw[show ((g:Int)+1).toNat=g+1 from rfl,zf];lia
 ·rw[dq];unfold dB;split
  ·rw[UE];lia
  ·lia
theorem Dc{k:Kd}{f:Int}{sc:Sc}(h:.ag k∈AK):GQ f (.ag k) sc (.none k):=by
 have:=fh (f:=f) h;have hk:=dy (gJ h);refine⟨.none (by have:=Cv h;rw[hZ]at this;exact this) (vh (gJ h)),by rw[nq];lia,?_,Cl.c λv hv e _=>hv⟩
 rw[dq];unfold dB;split
 ·rw[UE];lia
 ·lia
noncomputable def O5:B:=.cons (.ret (.tup (.cons (.c (.str "for")) (.cons (.v 4) (.cons (.v 10) (.cons (.call 26 (.cons (.v 0) (.cons (.op .Add (.lst (.cons (.tup (.cons (.v 4) (.cons (.ix (.v 5) (.c (.int 1))) .nil))) .nil)) (.v 1)) (.cons (.op .Sub (.v 2) (.c (.int 1))) (.cons (.v 3) .nil))))) .nil)))))) .nil
noncomputable def O6:B:=.cons (.set (.many [10,5]) (.call 24 (.cons (.v 1) (.cons (.op .Sub (.v 2) (.c (.int 1))) (.cons (.v 3) .nil))))) O5
noncomputable def O7:B:=.cons (.cond (.cmp .Eq (.v 8) (.c (.int 6))) (.cons (.set (.one 5) (.ix (.lst (.cons (.tup (.cons (.c (.str "num")) .nil)) (.cons (.tup (.cons (.c (.str "bag")) (.cons (.tup (.cons (.c (.str "num")) .nil)) .nil))) .nil))) (.call 10 (.cons (.v 3) (.cons (.c (.int 2)) .nil))))) (.cons (.set (.one 9) (.call 26 (.cons (.v 5) (.cons (.v 1) (.cons (.op .Sub (.v 2) (.c (.int 2))) (.cons (.v 3) .nil)))))) (.cons (.ret (.tup (.cons (.c (.str "let")) (.cons (.v 4) (.cons (.v 9) (.cons (.call 26 (.cons (.v 0) (.cons (.op .Add (.lst (.cons (.tup (.cons (.v 4) (.cons (.v 5) .nil))) .nil)) (.v 1)) (.cons (.op .Sub (.v 2) (.c (.int 1))) (.cons (.v 3) .nil))))) .nil)))))) .nil))) .nil) O6
noncomputable def O8:B:=.cons (.set (.one 4) (.ix (.lst (.cons (.c (.str "t")) (.cons (.c (.str "s")) (.cons (.c (.str "z")) .nil)))) (.call 10 (.cons (.v 3) (.cons (.c (.int 3)) .nil))))) O7
noncomputable def Dd:B:=.cons (.cond (.and (.cmp .Eq (.v 8) (.c (.int 8))) (.cmp .Eq (.call 10 (.cons (.v 3) (.cons (.c (.int 2)) .nil))) (.c (.int 0)))) (.cons (.ret (.tup (.cons (.c (.str "none")) (.cons (.ix (.v 0) (.c (.int 1))) .nil)))) .nil) .nil) O8
noncomputable def O9:B:=.cons (.cond (.cmp .Eq (.v 8) (.c (.int 7))) (.cons (.ret (.call 25 (.cons (.v 0) (.cons (.v 1) (.cons (.v 2) (.cons (.v 3) .nil)))))) .nil) .nil) Dd
noncomputable def Pa:B:=.cons (.cond (.cmp .Eq (.v 8) (.c (.int 5))) (.cons (.ret (.tup (.cons (.c (.str "one")) (.cons (.call 22 (.cons (.ix (.v 0) (.c (.int 1))) (.cons (.v 1) (.cons (.op .Sub (.v 2) (.c (.int 1))) (.cons (.v 3) .nil))))) .nil)))) .nil) .nil) O9
noncomputable def Pb:B:=.cons (.cond (.cmp .Eq (.v 8) (.c (.int 4))) (.cons (.ret (.tup (.cons (.c (.str "when")) (.cons (.call 23 (.cons (.v 1) (.cons (.c (.int 1)) (.cons (.v 3) .nil)))) (.cons (.call 26 (.cons (.v 0) (.cons (.v 1) (.cons (.op .Sub (.v 2) (.c (.int 1))) (.cons (.v 3) .nil))))) .nil))))) .nil) .nil) Pa
noncomputable def Pc:B:=.cons (.cond (.cmp .Eq (.v 8) (.c (.int 3))) (.cons (.ret (.tup (.cons (.c (.str "times")) (.cons (.op .Sub (.call 10 (.cons (.v 3) (.cons (.c (.int 7)) .nil))) (.c (.int 3))) (.cons (.call 26 (.cons (.v 0) (.cons (.v 1) (.cons (.op .Sub (.v 2) (.c (.int 1))) (.cons (.v 3) .nil))))) .nil))))) .nil) .nil) Pb
noncomputable def Pd:B:=.cons (.cond (.cmp .Eq (.v 8) (.c (.int 2))) (.cons (.ret (.tup (.cons (.c (.str "both")) (.cons (.call 26 (.cons (.v 0) (.cons (.v 1) (.cons (.op .Sub (.v 2) (.c (.int 1))) (.cons (.v 3) .nil))))) (.cons (.call 26 (.cons (.v 0) (.cons (.v 1) (.cons (.op .Sub (.v 2) (.c (.int 1))) (.cons (.v 3) .nil))))) .nil))))) .nil) .nil) Pc
noncomputable def vr:B:=.cons (.cond (.or (.cmp .LtE (.v 2) (.c (.int 0))) (.cmp .Lt (.v 8) (.c (.int 2)))) (.cons (.cond (.and (.cmp .Eq (.v 7) (.lst .nil)) (.cmp .Eq (.call 10 (.cons (.v 3) (.cons (.c (.int 2)) .nil))) (.c (.int 0)))) (.cons (.ret (.tup (.cons (.c (.str "one")) (.cons (.call 22 (.cons (.ix (.v 0) (.c (.int 1))) (.cons (.v 1) (.cons (.c (.int 0)) (.cons (.v 3) .nil))))) .nil)))) .nil) .nil) (.cons (.cond (.cmp .Eq (.v 7) (.lst .nil)) (.cons (.ret (.tup (.cons (.c (.str "none")) (.cons (.ix (.v 0) (.c (.int 1))) .nil)))) .nil) .nil) (.cons (.ret (.ix (.v 7) (.call 10 (.cons (.v 3) (.cons (.bi .len (.cons (.v 7) .nil)) .nil))))) .nil))) .nil) Pd
noncomputable def De:B:=.cons (.set (.one 8) (.call 10 (.cons (.v 3) (.cons (.c (.int 12)) .nil)))) vr
noncomputable def Pe:B:=.cons (.set (.one 7) (.op .Add (.op .Add (.call 21 (.cons (.v 0) (.cons (.v 1) .nil))) (.v 6)) (.v 6))) De
noncomputable def Pf:B:=.cons (.set (.one 6) (.lc 2 [0] (.many [0,1]) (.seq (.pv (.call 18 .nil))) (.cmp .Eq (.tup (.cons (.c (.str "bag")) (.cons (.v 1) .nil))) (.v 2)) (.tup (.cons (.c (.str "table")) (.cons (.v 0) .nil))))) Pe
noncomputable def Pg:B:=.cons (.cond (.cmp .NotEq (.ix (.v 0) (.c (.int 0))) (.c (.str "bag"))) (.cons (.ret (.call 22 (.cons (.v 0) (.cons (.v 1) (.cons (.v 2) (.cons (.v 3) .nil)))))) .nil) .nil) Pf
theorem Ph:aO ["kind","scope","fuel","seed","name","other","named","ways","way","bound","over"] ["kind","scope","fuel","seed"] (ao (ae 32)):=⟨rfl,rfl,rfl,by decide +kernel,rfl,by decide +kernel,by decide +kernel⟩
theorem Pj:aQ nm 40 ["kind","scope","fuel","seed","name","other","named","ways","way","bound","over"] (ao (ae 32)) (aH (ae 32))=Pg:=by kernel_rfl
noncomputable abbrev Va(n:Nat):bD w:={ cs:=[(10,gK),(18,kP),(21,vk),(22,ig n),(23,k7 n),(24,ql n),(25,qk n),(26,fi n)] }
theorem Pk(O:Lw w){n:Nat}(hs:FO w 22 (n+26) (ig n))(hc:FO w 23 (n+26) (k7 n))(ho:FO w 24 (n+26) (ql n))(ht:FO w 25 (n+26) (qk n))(ha:FO w 26 (n+26) (fi n)):FO w 26 (n+27) (fi (n+1)):=by
 refine bh O.ok O.hn _ ⟨"_law_asked",ae 32,["kind","scope","fuel","seed"]⟩ (by rw[O.hd];rfl) (Va n) { cs:=⟨⟨1,by lia,ie O⟩,⟨1,by lia,nh O⟩,⟨2,by lia,CG O⟩,⟨n+26,Y8 _,hs⟩,⟨n+26,Y8 _,hc⟩,⟨n+26,Y8 _,ho⟩,⟨n+26,Y8 _,ht⟩,⟨n+26,Y8 _,ha⟩,trivial⟩ } Ph Pj λds M Q _ h=>?_;obtain⟨κ,sc,f,p,rfl,hκ,rk,an,hp,h⟩:=h;have fin:∀(X:Mp)(q:Qn),Sx M p X->GQ f κ sc q->bU Q (qD q) X:=λX q u g=>aC (h q X u g);cases κ with
 |num=>exact⟨rfl,_,rfl,aj (aJ (by decide) ⟨_,sc,f,p,rfl,hκ,by unfold Rk at rk ⊢;rw[UG]at rk <;> first |lia |(intro k;exact nofun),an,hp,λq X u g=>fin X q u g⟩)⟩
 |word=>exact⟨rfl,_,rfl,aj (aJ (by decide) ⟨_,sc,f,p,rfl,hκ,by unfold Rk at rk ⊢;rw[UG]at rk <;> first |lia |(intro k;exact nofun),an,hp,λq X u g=>fin X q u g⟩)⟩
 |row fs=>exact⟨rfl,_,rfl,aj (aJ (by decide) ⟨_,sc,f,p,rfl,hκ,by unfold Rk at rk ⊢;rw[UG]at rk <;> first |lia |(intro k;exact nofun),an,hp,λq X u g=>fin X q u g⟩)⟩
 |ag k=>
 have hk:=gJ hκ;have U8:kd (.ag k)=kd k+1:=by rw[kd]
 unfold Rk at rk;rw[UG]at rk;refine⟨rfl,_,rfl,aj (ai (by decide) ?_)⟩;show mz (E.w (Va (w:=w) n).wd nm.aq (.call 18 .nil)).1 [some (kD (.ag k)),some (aV sc),some (.int f),some (.ref p),none,none,none,none,none,none,none] M _;refine BU (ms:=bM) (M:=M) (λk z=>⟨rfl,z⟩) (by decide) (by decide +kernel) λout pm=>.inl ?_;refine dQ (λxs ys M'=>M'=M/\∃rest vs,xs=fc rest/\ys=vs.map qD/\(∀p∈rest,p∈bM)/\(∀v∈vs,Wy (.ag k) sc v)/\vs.length+rest.length<=5) ?_ ?_ _ _ _ ⟨rfl,out,[],rfl,rfl,λp hp=>pm.mem_iff.mp hp,λv hv=>(nomatch hv),by have:bM.length=5:=rfl;have:=pm.length_eq;simp;lia⟩
 ·rintro ys M' ⟨rfl,rest,vs,e1,rfl,_,hv,lv⟩;refine⟨trivial,Zd (by rw[Y6];lia:_<=5) (by decide),.inl ?_⟩;have Uq:vs.length<=5:=by lia
  refine⟨.ag k,sc,_,rfl,hκ,an,λws hw lw=>⟨Y9 (by simp;lia:_<=300) (by decide),.inl ⟨Y9 (by simp;lia:_<=300) (by decide),.inl ?_⟩⟩⟩;have key:∀(d:List D)(ws:List Qn),d=ws.map qD->(∀q∈ws,Wy (.ag k) sc q)->ws.length<=300->B.w (Va (w:=w) n).wd nm.aq De (cx Q) [some (kD (.ag k)),some (aV sc),some (.int f),some (.ref p),none,none,some (.lst (vs.map qD)),some (.lst d),none,none,none] M':=?_
  ·refine key _ (ws++vs++vs) (by rw[Zt,Zt]) ?_ ?_
   ·intro q hq;rcases List.mem_append.mp hq with z |z
    ·rcases List.mem_append.mp z with z |z
     ·exact (hw q z).Yr
     ·exact hv q z
    ·exact hv q z
   ·simp;lia
  clear lw hw ws;rintro _ ws rfl hw lw;refine⟨p,12,rfl,hp,by decide,by decide,λc6 Y u2 _ _=>?_⟩;show B.w (Va (w:=w) n).wd nm.aq vr (cx Q) [some (kD (.ag k)),some (aV sc),some (.int f),some (.ref p),none,none,some (.lst (vs.map qD)),some (.lst (ws.map qD)),some (.int c6),none,none] Y;refine ff λN to=>?_;have iF:B.w (Va (w:=w) n).wd nm.aq (MV (ng vr)) { cx Q with nx:=N } [some (kD (.ag k)),some (aV sc),some (.int f),some (.ref p),none,none,some (.lst (vs.map qD)),some (.lst (ws.map qD)),some (.int c6),none,none] Y:=by
   refine ff λN3 vp=>?_;have go:∀X,Sx M' p X->N3 [some (kD (.ag k)),some (aV sc),some (.int f),some (.ref p),none,none,some (.lst (vs.map qD)),some (.lst (ws.map qD)),some (.int c6),none,none] X:=by
    intro X uX;refine vp _ _ ⟨Zj _,.inl (pR (aN (λe=>⟨_,rfl,l2,fin _ (.none k) uX (Dc hκ)⟩) λe=>?_))⟩;have CY:0<ws.length:=by
     cases ws with
     |nil=>simp at e
     |cons _ _=>simp
    refine⟨p,_,rfl,uX.hs,by rw[Y6];lia,?_,λr X2 u3 r0 r1=>?_⟩
    ·rw[Y6];exact Int.lt_of_le_of_lt (by lia:_<=(300:Int)) (by decide)
    obtain⟨d,e3,e4⟩:=dS r0 r1;obtain⟨q,hq,rfl⟩:=List.mem_map.mp e4;have hq':=hw q hq;have nb:=fh (f:=f) hκ;exact⟨_,e3,fin _ q (uX.tr u3) ⟨hq'.ty,by have:=hq'.n;lia,by have:=hq'.d;lia,hq'.c.c⟩⟩
   refine⟨Zj _,.inl (pR (aN (λe=>⟨p,2,rfl,u2.hs,by decide,by decide,λr X3 u3 _ _=>cz (aN (λe2=>?_) λe2=>go _ (u2.tr u3))⟩) λe=>ai (by decide) (go Y u2)))⟩;exact⟨_,rfl,k,sc,0,p,rfl,hk,by unfold Rk;lia,an.bP (Zj _),u3.hs,λq X4 u4 g=>⟨l2,fin _ (.one q) ((u2.tr u3).tr u4) (O4 hκ g)⟩⟩
  have Pl:0<f->N [some (kD (.ag k)),some (aV sc),some (.int f),some (.ref p),none,none,some (.lst (vs.map qD)),some (.lst (ws.map qD)),some (.int c6),none,none] Y:=by
   intro fp;refine to _ _ ?_;obtain⟨b1,b2⟩:=C4 fp hκ;have jn:∀{κ'}{g:Int},κ'∈AK->g<=f-1->Rk n g κ' (UG κ'):=λ{κ' g}h1 h2=>by have:=dy h1;have:=@vm κ';unfold Rk;lia
   have cP:∀{κ' Db q}{g:Int},κ'∈AK->g<=f-1->GQ g κ' Db q->nq q<=zf (f-1).toNat/\dq q<=9 * (f-1).toNat+9:=λ{κ' Db q g}h1 h2 h3=>by
    have:=fh (f:=g) h1;have:=qh (show g.toNat<=(f-1).toNat by lia);have:=h3.n;have:=h3.d
    lia
   have Oc:=jm (f-1).toNat;have U6:f.toNat=(f-1).toNat+1:=(by lia);refine cz (aN (λ_=>?w2) λ_=>cz (aN (λ_=>?w3) λ_=>cz (aN (λ_=>?Ys) λ_=>cz (aN (λ_=>?Yt) λ_=>cz (aN (λ_=>?w7) λ_=>?_)))))
   case w2=>
    refine⟨.ag k,sc,f-1,p,rfl,hκ,jn hκ (ZX _),an.bP (by lia),u2.hs,λqa Xa ua ga=>⟨.ag k,sc,f-1,p,rfl,hκ,jn hκ (ZX _),an.bP (by lia),ua.hs,λqb Xb ub gb=>⟨l3,fin _ (.both qa qb) ((u2.tr ua).tr ub) ⟨.both (vh (gJ hκ)) ga.ty gb.ty,?_,?_,by rw[U6];exact λv hv=>ga.c.gh gb.c hv⟩⟩⟩⟩
    ·have:=cP hκ (ZX _) ga;have:=cP hκ (ZX _) gb;rw[nq,b1];lia
    ·have:=cP hκ (ZX _) ga;have:=cP hκ (ZX _) gb;rw[dq,b2];lia
   case w3=>
    refine⟨p,7,rfl,u2.hs,by decide,by decide,λr X3 u3 t0 t1=>⟨.ag k,sc,f-1,p,rfl,hκ,jn hκ (ZX _),an.bP (by lia),u3.hs,λqa Xa ua ga=>⟨l3,fin _ (.times (r-3) qa) ((u2.tr u3).tr ua) ⟨.times ga.ty,?_,?_,by
     have t1:r<7:=t1;have l2:lit (r-3)=2:=if_pos (Zq (by lia:_<8) (by decide));rw[U6];intro v hv e he;rw[cq,l2];exact ga.c.N9 hv e he⟩⟩⟩⟩
    ·have:=cP hκ (ZX _) ga;rw[nq,b1];lia
    ·have:=cP hκ (ZX _) ga;rw[dq,b2];lia
   case Ys=>
    refine⟨sc,1,p,rfl,by decide,by decide,by lia,an.bP (Zj _),u2.hs,λc Xc Xe tc Xf Xg Vb=>⟨.ag k,sc,f-1,p,rfl,hκ,jn hκ (ZX _),an.bP (by lia),Xe.hs,λqa Xa ua ga=>⟨l3,fin _ (.aZ c qa) ((u2.tr Xe).tr ua) ⟨.aZ tc ga.ty,?_,?_,λv hv e he=>Nat.max_le.mpr ⟨Vb.c v hv e he,ga.c.up (by lia) v hv e he⟩⟩⟩⟩⟩
    ·have Xf:nq c<=17:=Xf;have:=cP hκ (ZX _) ga;rw[nq,b1];lia
    ·have Xg:dq c<=8:=Xg;have:=cP hκ (ZX _) ga;rw[dq,b2];lia
   case Yt=>
    refine⟨_,rfl,k,sc,f-1,p,rfl,hk,by unfold Rk;lia,an.bP (by lia),u2.hs,λqa Xa ua ga=>⟨l2,fin _ (.one qa) (u2.tr ua) ⟨.one ga.ty,?_,?_,ga.c.up (by lia)⟩⟩⟩
    ·have:=cP hk (ZX _) ga;rw[nq,b1];lia
    ·have:=cP hk (ZX _) ga;rw[dq,b2];lia
   case w7=>
    exact⟨.ag k,sc,f,p,rfl,hκ,fp,by lia,an,u2.hs,λqa Xa ua ga=>fin _ qa (u2.tr ua) ga⟩
   show B.w (Va (w:=w) n).wd nm.aq Dd (cx Q) [some (kD (.ag k)),some (aV sc),some (.int f),some (.ref p),none,none,some (.lst (vs.map qD)),some (.lst (ws.map qD)),some (.int c6),none,none] Y;refine ff λYu Pm=>?_;have go:∀X,Sx M' p X->Yu [some (kD (.ag k)),some (aV sc),some (.int f),some (.ref p),none,none,some (.lst (vs.map qD)),some (.lst (ws.map qD)),some (.int c6),none,none] X:=by
    intro X uX;refine Pm _ _ ?_;refine⟨l3,.inl ⟨p,3,rfl,uX.hs,by decide,by decide,λr Z Wi r0 r1=>?_⟩⟩;obtain⟨d,e3,e4⟩:=dS (xs:=[.str "t",.str "s",.str "z"]) r0 r1;obtain⟨x,rfl,U⟩:∃x:Str,d=.str x/\x≠"w":=by
     simp only[ZN,ZF,or_false]at e4;rcases e4 with z |z |z
     ·exact⟨_,z,by decide +kernel⟩
     ·exact⟨_,z,by decide +kernel⟩
     ·exact⟨_,z,by decide +kernel⟩
    refine⟨_,e3,?_⟩;have Df:=uX.tr Wi;have ext:∀{κ':Kd},κ'∈AK->d7 ((x,κ')::sc) (f-1).toNat:=λ{κ'}h4=>by
     refine⟨λq hq=>?_,?_,λq hq=>?_⟩
     ·rcases List.mem_cons.mp hq with rfl |hq
      ·exact h4
      ·exact an.UN q hq
     ·have:=an.len;rw[Zg];lia
     ·rcases List.mem_cons.mp hq with rfl |hq
      ·exact U
      ·exact an.nw q hq
    have sl:([D.tup [.str x,kD .num]].length+(fc sc).length)<=sizeLine:=Y9 (by have:=an.len;unfold fc;simp;lia:_<=300) (by decide)
    refine cz (aN (λ_=>?_) λ_=>?_)
    ·refine⟨l1,l1,l2,l2,.inl ⟨p,2,rfl,Wi.hs,by decide,by decide,λr X3 u3 r0 r1=>?_⟩⟩;obtain⟨d,Wf,U'⟩:=dS (xs:=[kD .num,kD (.ag .num)]) r0 r1;obtain⟨κ',rfl,hκ'⟩:∃ κ',d=kD κ'/\κ'∈AK:=by
      simp only[ZN,ZF,or_false]at U';rcases U' with z |z
      ·exact⟨_,z,by decide +kernel⟩
      ·exact⟨_,z,by decide +kernel⟩
     refine⟨_,Wf,?_⟩;refine⟨κ',sc,f-2,p,rfl,hκ',jn hκ' (by lia),an.bP (by lia),u3.hs,λqa Xa ua ga=>⟨l2,l1,.inl ⟨sl,.inl ⟨.ag k,(x,κ')::sc,f-1,p,rfl,hκ,jn hκ (ZX _),ext hκ',ua.hs,λqb Xb ub gb=>⟨l4,fin _ (.let x qa qb) (((Df.tr u3).tr ua).tr ub) ⟨.let (Y9 (dy hκ') (by decide)) ga.ty gb.ty,?_,?_,by
      by_cases f2:f=1
      ·subst f2;exact Cq.let1 ga.c gb.c
      ·obtain⟨g,hg⟩:∃g:Nat,f=(g:Int)+2:=⟨(f-2).toNat,by lia⟩;subst hg;have a:=ga.c;have b:=gb.c
       rw[show ((g:Int)+2-2).toNat=g by lia]at a;rw[show ((g:Int)+2-1).toNat=g+1 by lia]at b;exact Cq.let a b⟩⟩⟩⟩⟩⟩
     ·have:=cP hκ' (by lia) ga;have:=cP hκ (ZX _) gb;rw[nq,b1];lia
     ·have:=cP hκ' (by lia) ga;have:=cP hκ (ZX _) gb;rw[dq,b2];lia
    ·refine⟨sc,f-1,p,rfl,by lia,an.bP (by lia),Wi.hs,λqa κ' Xa ua hκ' ty Ur Us Dg=>⟨rfl,_,rfl,l2,l1,.inl ⟨sl,.inl ⟨.ag k,(x,κ')::sc,f-1,p,rfl,hκ,jn hκ (ZX _),ext (gJ hκ'),ua.hs,λqb Xb ub gb=>⟨l4,fin _ (.for x qa qb) ((Df.tr ua).tr ub) ⟨.for ⟨Y9 (dy (gJ hκ')) (by decide),vh (gJ hκ')⟩ ty gb.ty,?_,?_,by
      by_cases f2:f=1
      ·subst f2;exact Cq.Oa Dg gb.c
      ·obtain⟨g,hg⟩:∃g:Nat,f=(g:Int)+2:=⟨(f-2).toNat,by lia⟩;subst hg;have a:=Dg;have b:=gb.c
       rw[show ((g:Int)+2-1).toNat-1=g by lia]at a;rw[show ((g:Int)+2-1).toNat=g+1 by lia]at b;exact Cq.for a b⟩⟩⟩⟩⟩⟩
     ·have:=cP hκ (ZX _) gb;rw[nq,b1];lia
     ·have:=cP hκ (ZX _) gb;rw[dq,b2];lia
   refine cz (aN (λ_=>⟨p,2,rfl,u2.hs,by decide,by decide,λr X3 u3 _ _=>cz (aN (λ_=>⟨_,rfl,l2,fin _ (.none k) (u2.tr u3) (Dc hκ)⟩) λ_=>go _ (u2.tr u3))⟩) λ_=>ai (by decide) (go Y u2))
  exact aN (λe1=>aJ rfl iF) λe1=>aN (λe2=>iF) λe2=>Pl (by have:=of_decide_eq_false (Bool.eq_false_iff.mpr e1);lia)
 ·rintro y xs ys M' ⟨rfl,rest,vs,e1,rfl,hr,hv,lv⟩;cases rest with
  |nil=>cases e1
  |cons g rest=>
   obtain⟨gf,gk⟩:=g;cases e1;have hg:=hr _ Za;have cS:∀p∈rest,p∈bM:=λp hp=>hr p (Zc _ hp);rw[Zg]at lv;have C9:kd (.ag gk)<=50:=(by decide +kernel:∀p∈bM,kd (.ag p.2)<=50) _ hg;refine⟨trivial,Zd (by rw[Y6];lia:_<=5) (by decide),λN hN=>⟨rfl,l2,kK (a:=.ag gk) (b:=.ag k) C9 (aN (λe=>⟨l2,?_⟩) λe=>hN _ _ ⟨rfl,rest,vs,rfl,rfl,cS,hv,by lia⟩)⟩⟩;have e:Kd.ag gk=.ag k:=of_decide_eq_true e;cases e;have:=hN (vs.map qD++[qD (.tab gf)]) _ ⟨rfl,rest,vs++[.tab gf],rfl,by rw[Zt];rfl,cS,λv eO=>?_,by simp;lia⟩
   ·exact this
   ·rcases List.mem_append.mp eO with z |z
    ·exact hv v z
    ·rw[List.mem_singleton.mp z];exact⟨.tab (uO (by decide +kernel) hg),by rw[nq];lia,by rw[dq];lia,λv hv e _=>hv⟩
structure Pn(w:Wo)(n:Nat):Prop where
 s:FO w 22 (n+26) (ig n)
 c:FO w 23 (n+26) (k7 n)
 o:FO w 24 (n+26) (ql n)
 t:FO w 25 (n+26) (qk n)
 a:FO w 26 (n+26) (fi n)
theorem Dh(O:Lw w):∀n,Pn w n
 | 0=>by
  have no:∀i d sp,d6[i]?=some d->(∀ds M Q E,¬sp ds M Q E)->FO w i 26 sp:=λi d sp h g=>FO.imp (kH O.ok (by rw[O.hd];exact h) (cs:=[]) trivial) λds M Q E z=>(g ds M Q E z).elim;refine⟨no _ _ _ rfl ?_,no _ _ _ rfl ?_,no _ _ _ rfl ?_,no _ _ _ rfl ?_,no _ _ _ rfl ?_⟩
  ·rintro ds M Q E ⟨κ,sc,f,p,_,_,rk,_⟩;unfold Rk at rk;lia
  ·rintro ds M Q E ⟨sc,f,p,_,_,_,rk,_⟩;lia
  ·rintro ds M Q E ⟨sc,f,p,_,rk,_⟩;lia
  ·rintro ds M Q E ⟨κ,sc,f,p,_,_,_,rk,_⟩;lia
  ·rintro ds M Q E ⟨κ,sc,f,p,_,hκ,rk,_⟩;have:=(qg hκ).2.2.2.2;unfold Rk at rk;lia
 |n+1=>let g:=Dh O n;⟨Om O g.s g.a,Oz O g.s g.c,OV O g.a,OH O g.a,Pk O g.s g.c g.o g.t g.a⟩
end K97
end
section
namespace K97
open PySem N NQ NV
open L2
variable{w:Wo}
def nE(xs:NV.Bg):Prop:=xs.length<sizeLine/\∃k,kd k<=21/\∀p∈xs,aG k p.1/\eF p.1
mutual
def bg(σ:Vn):Qn->Vn->Prop
 |.num _,_=>True
 |.word _,_=>True
 |.var _,_=>True
 |.tab _,_=>True
 |.none _,_=>True
 |.row fs,ρ=>nG σ fs ρ
 |.at _ q,ρ=>bg σ q ρ
 |.add a b,ρ=>(bg σ a ρ/\bg σ b ρ)/\CM (iv (ah σ a ρ)) (iv (ah σ b ρ))
 |.mul a b,ρ=>(bg σ a ρ/\bg σ b ρ)/\CM (iv (ah σ a ρ)) (iv (ah σ b ρ))
 |.one q,ρ=>bg σ q ρ/\nE [(ah σ q ρ,1)]
 |.both a b,ρ=>(bg σ a ρ/\bg σ b ρ)/\nE (bv (ah σ a ρ)++bv (ah σ b ρ))
 |.times i q,ρ=>bg σ q ρ/\nE (sc i (bv (ah σ q ρ)))/\∀p∈bv (ah σ q ρ),CM i p.2
 |.for x a b,ρ=>bg σ a ρ/\(∀p∈bv (ah σ a ρ),bg σ b (ρ.put x p.1)/\∀q∈bv (ah σ b (ρ.put x p.1)),CM p.2 q.2)/\nE (cG (bv (ah σ a ρ)) λv=>bv (ah σ b (ρ.put x v)))
 |.aZ c q,ρ=>bg σ c ρ/\bg σ q ρ
 |.let x a b,ρ=>bg σ a ρ/\bg σ b (ρ.put x (ah σ a ρ))
 |.same a b,ρ=>(bg σ a ρ/\bg σ b ρ)/\∃k,kd k<=21/\aG k (ah σ a ρ)
 |.under a b,ρ=>bg σ a ρ/\bg σ b ρ
 |.and a b,ρ=>bg σ a ρ/\bg σ b ρ
 |.or a b,ρ=>bg σ a ρ/\bg σ b ρ
 |.not a,ρ=>bg σ a ρ
def nG(σ:Vn):List (Str×Qn)->Vn->Prop
 |[],_=>True
 |(_,q)::r,ρ=>bg σ q ρ/\nG σ r ρ
end
def ij(v:D)(kvs:List (Key×D))(M:Mp):Prop:=v=dD kvs\/∃p,v=.ref p/\M p=some (.au kvs)
def gL(v:D)(G:Sc)(ρ:Vn)(m:Nat)(M:Mp):Prop:=∃kvs,ij v kvs M/\kvs.length+m<=1000/\∀x k,NQ.lk x G=some k->aX kvs (.inr x)=some (vD (ρ x))
def nH(v:D)(S:Str->Option Kd)(σ:Vn)(M:Mp):Prop:=∀x k,S x=some k->∃kvs,ij v kvs M/\aX kvs (.inr x)=some (vD (σ x))
theorem ij.up{v:D}{kvs:List (Key×D)}{M:Mp}(h:ij v kvs M){p:Addr}{o:MO}(hp:M p=none):ij v kvs (N.up M p o):=h.imp id λ⟨a,e,q⟩=>⟨a,e,by rw[av (b7 q hp)];exact q⟩
theorem nH.up{v:D}{S:Str->Option Kd}{σ:Vn}{M:Mp}(h:nH v S σ M){p:Addr}{o:MO}(hp:M p=none):nH v S σ (N.up M p o):=λx k e=>let ⟨kvs,a,b⟩:=h x k e;⟨kvs,a.up hp,b⟩
theorem gL.up{v:D}{G:Sc}{ρ:Vn}{m:Nat}{M:Mp}(h:gL v G ρ m M){p:Addr}{o:MO}(hp:M p=none):gL v G ρ m (N.up M p o):=let ⟨kvs,a,b⟩:=h;⟨kvs,a.up hp,b⟩
theorem Di{v:D}{kvs:List (Key×D)}{x:Str}{d:D}{M:Mp}{Q:QK}(h:ij v kvs M)(e:aX kvs (.inr x)=some d)(q:Q d M):aB v (.str x) M Q:=by
 rcases h with rfl |⟨p,rfl,hp⟩
 ·exact⟨d,by rw[h7];exact e,q⟩
 ·exact .inr ⟨kvs,hp,d,e,q⟩
theorem gL.bP{v:D}{G:Sc}{ρ:Vn}{m n:Nat}{M:Mp}(h:gL v G ρ m M)(l:n<=m):gL v G ρ n M:=let ⟨kvs,a,b,c⟩:=h;⟨kvs,a,by lia,c⟩
structure nI(n m:Nat)(σ ρ:Vn)(G:Sc)(S:Str->Option Kd)(q:Qn)(vs st:D)(M:Mp):Prop where
 d:dq q<=n
 e:c5 G ρ
 t:gH S σ
 re:gL vs G ρ m M
 rt:nH st S σ M
 f:bg σ q ρ
def gM(n:Nat):Sp:=λds M Q _=>∃q σ ρ G S k vs st,ds=[qD q,vs,st]/\Ty S G q k/\nI n n σ ρ G S q vs st M/\Q (vD (ah σ q ρ)) M
def k9(n:Nat):Sp:=λds M Q _=>∃q σ ρ G S vs st,ds=[qD q,vs,st]/\b4 S G q/\nI n n σ ρ G S q vs st M/\Q (.bl (bu σ q ρ)) M
def qm(n:Nat):Sp:=λds M Q _=>∃q σ ρ G S k vs st,ds=[qD q,vs,st]/\(∃x a b,(q=.for x a b\/q=.let x a b)/\dq a<=n/\dq b<=n)/\Ty S G q k/\nI 1000 (n+1) σ ρ G S q vs st M/\Q (vD (ah σ q ρ)) M
noncomputable def Po:B:=.cons (.ret (.cmp .Lt (.ix (.v 4) (.c (.int 1))) (.ix (.v 5) (.c (.int 1))))) .nil
noncomputable def Pp:B:=.cons (.cond (.cmp .Eq (.ix (.v 0) (.c (.int 0))) (.c (.str "same"))) (.cons (.ret (.cmp .Eq (.v 4) (.v 5))) .nil) .nil) Po
noncomputable def Pr:B:=.cons (.set (.one 5) (.call 16 (.cons (.ix (.v 0) (.c (.int 2))) (.cons (.v 1) (.cons (.v 2) .nil))))) Pp
noncomputable def Pt:B:=.cons (.set (.one 4) (.call 16 (.cons (.ix (.v 0) (.c (.int 1))) (.cons (.v 1) (.cons (.v 2) .nil))))) Pr
noncomputable def Pu:B:=.cons (.cond (.cmp .In (.ix (.v 0) (.c (.int 0))) (.tup (.cons (.c (.str "and")) (.cons (.c (.str "or")) .nil)))) (.cons (.set (.one 3) (.call 14 (.cons (.ix (.v 0) (.c (.int 1))) (.cons (.v 1) (.cons (.v 2) .nil))))) (.cons (.cond (.cmp .Eq (.v 3) (.cmp .Eq (.ix (.v 0) (.c (.int 0))) (.c (.str "or")))) (.cons (.ret (.v 3)) .nil) .nil) (.cons (.ret (.call 14 (.cons (.ix (.v 0) (.c (.int 2))) (.cons (.v 1) (.cons (.v 2) .nil))))) .nil))) .nil) Pt
noncomputable def Pw:B:=.cons (.cond (.cmp .Eq (.ix (.v 0) (.c (.int 0))) (.c (.str "not"))) (.cons (.ret (.not (.call 14 (.cons (.ix (.v 0) (.c (.int 1))) (.cons (.v 1) (.cons (.v 2) .nil)))))) .nil) .nil) Pu
theorem Px:aO ["claim","values","store","first","one","other"] ["claim","values","store"] (ao (ae 20)):=⟨rfl,rfl,rfl,by decide +kernel,rfl,by decide +kernel,by decide +kernel⟩
theorem PB:aQ nm 40 ["claim","values","store","first","one","other"] (ao (ae 20)) (aH (ae 20))=Pw:=by kernel_rfl
noncomputable abbrev PC(n:Nat):bD w:={ cs:=[(14,k9 n),(16,gM n)] }
theorem c7{σ:Vn}{n l:Nat}{ρ:Vn}{G:Sc}{S:Str->Option Kd}{q r:Qn}{vs st:D}{M:Mp}(h:nI n l σ ρ G S q vs st M){m:Nat}(hl:m<=l)(hd:dq r<=m)(hf:bg σ r ρ):nI m m σ ρ G S r vs st M:=⟨hd,h.e,h.t,h.re.bP hl,h.rt,hf⟩
theorem a5{s t z:Str}{M:Mp}{k:Bool->Prop}{b:Bool}(hb:ek (.str z) [D.str s,D.str t]=b)(q:k b):iL (.str z) (.tup [.str s,.str t]) M k:=by
 refine⟨⟨rfl,rfl,by rw[aW,aW,aW,aI,aI];decide,?_⟩⟩;rw[hb];exact q
theorem Dj{n a b:Bool}{M:Mp}{k:Bool->Prop}(q:k (a == b)):fF n (.bl a) (.bl b) M k:=by
 refine .mk (.inl ⟨rfl,rfl,Zj _⟩) ?_;have:aw (.bl a) (.bl b)=(a == b):=by cases a <;> cases b <;> decide
 show k (aw (.bl a) (.bl b));rw[this];exact q
theorem PD(O:Lw w){n j:Nat}(ht:FO w 14 j (k9 n))(ha:FO w 16 j (gM n)):FO w 14 (j+1) (k9 (n+1)):=by
 refine bh O.ok O.hn _ ⟨"_law_truth",ae 20,["claim","values","store"]⟩ (by rw[O.hd];rfl) (PC n) { cs:=⟨⟨j,Y8 _,ht⟩,⟨j,Y8 _,ha⟩,trivial⟩ } Px PB λds M Q _ h=>?_;obtain⟨q,σ,ρ,G,S,vs,st,rfl,ty,i,h⟩:=h;have d:=i.d;cases ty with
 |not ta=>
  rw[dq]at d;refine⟨rfl,_,rfl,aj (aJ (by decide) ⟨_,rfl,_,σ,ρ,G,S,vs,st,rfl,ta,c7 i (by lia) (by lia) i.f,?_⟩)⟩;exact aC h
 |@and _ a b ta tb=>
  rw[dq]at d;refine⟨rfl,_,rfl,aj (ai (by decide) ⟨_,rfl,l2,a5 (b:=true) (by decide +kernel) (aJ rfl ⟨_,rfl,_,σ,ρ,G,S,vs,st,rfl,ta,c7 i (by lia) (by lia) i.f.1,?_⟩)⟩)⟩;refine⟨_,rfl,aj (Dj ?_)⟩;rw[bu]at h;cases e:bu σ a ρ with
  |true=>rw[e]at h;exact ai (by decide) ⟨_,rfl,_,σ,ρ,G,S,vs,st,rfl,tb,c7 i (by lia) (by lia) i.f.2,aC h⟩
  |false=>rw[e]at h;exact aJ (by decide) (aC h)
 |@or _ a b ta tb=>
  rw[dq]at d;refine⟨rfl,_,rfl,aj (ai (by decide) ⟨_,rfl,l2,a5 (b:=true) (by decide +kernel) (aJ rfl ⟨_,rfl,_,σ,ρ,G,S,vs,st,rfl,ta,c7 i (by lia) (by lia) i.f.1,?_⟩)⟩)⟩;refine⟨_,rfl,aj (Dj ?_)⟩;rw[bu]at h;cases e:bu σ a ρ with
  |true=>rw[e]at h;exact aJ (by decide) (aC h)
  |false=>rw[e]at h;exact ai (by decide) ⟨_,rfl,_,σ,ρ,G,S,vs,st,rfl,tb,c7 i (by lia) (by lia) i.f.2,aC h⟩
 |gD ta tb=>
  rw[dq]at d;refine⟨rfl,_,rfl,aj (ai (by decide) ⟨_,rfl,l2,a5 (b:=false) (by decide +kernel) (ai (by decide) ?_)⟩)⟩;refine⟨_,rfl,_,σ,ρ,G,S,_,vs,st,rfl,ta,c7 i (by lia) (by lia) i.f.1.1,_,rfl,_,σ,ρ,G,S,_,vs,st,rfl,tb,c7 i (by lia) (by lia) i.f.1.2,?_⟩;obtain⟨k,hk,hu⟩:=i.f.2;rw[bu]at h;exact⟨_,rfl,aj (aJ (by decide) (p3 hu hk (aC h)))⟩
 |gE ta tb=>
  rw[dq]at d;refine⟨rfl,_,rfl,aj (ai (by decide) ⟨_,rfl,l2,a5 (b:=false) (by decide +kernel) (ai (by decide) ?_)⟩)⟩;refine⟨_,rfl,_,σ,ρ,G,S,_,vs,st,rfl,ta,c7 i (by lia) (by lia) i.f.1.1,_,rfl,_,σ,ρ,G,S,_,vs,st,rfl,tb,c7 i (by lia) (by lia) i.f.1.2,?_⟩;obtain⟨k,hk,hu⟩:=i.f.2;rw[bu]at h;exact⟨_,rfl,aj (aJ (by decide) (p3 hu hk (aC h)))⟩
 |under ta tb=>
  rw[dq]at d;refine⟨rfl,_,rfl,aj (ai (by decide) ⟨_,rfl,l2,a5 (b:=false) (by decide +kernel) (ai (by decide) ?_)⟩)⟩;refine⟨_,rfl,_,σ,ρ,G,S,_,vs,st,rfl,ta,c7 i (by lia) (by lia) i.f.1,_,rfl,_,σ,ρ,G,S,_,vs,st,rfl,tb,c7 i (by lia) (by lia) i.f.2,?_⟩;rw[jj (bI i.t ta ρ i.e),jj (bI i.t tb ρ i.e)];rw[bu]at h;exact⟨_,rfl,aj (ai (by decide) ⟨_,rfl,_,rfl,aC h⟩)⟩
noncomputable def PH:B:=.cons (.ret (.call 12 (.cons (.v 5) .nil))) .nil
noncomputable def PJ:B:=.cons (.loop (.many [6,7]) (.seq (.ix (.v 4) (.c (.int 1)))) (.cons (.put (.v 3) (.ix (.v 0) (.c (.int 1))) (.v 6)) (.cons (.ex (.call 13 (.cons (.v 5) (.cons (.call 16 (.cons (.ix (.v 0) (.c (.int 3))) (.cons (.v 3) (.cons (.v 2) .nil)))) (.cons (.v 7) .nil))))) .nil))) PH
noncomputable def PK:B:=.cons (.set (.one 5) (.lst .nil)) PJ
noncomputable def PM:B:=.cons (.cond (.cmp .Eq (.ix (.v 0) (.c (.int 0))) (.c (.str "let"))) (.cons (.put (.v 3) (.ix (.v 0) (.c (.int 1))) (.v 4)) (.cons (.ret (.call 16 (.cons (.ix (.v 0) (.c (.int 3))) (.cons (.v 3) (.cons (.v 2) .nil))))) .nil)) .nil) PK
noncomputable def PN:B:=.cons (.set (.one 4) (.call 16 (.cons (.ix (.v 0) (.c (.int 2))) (.cons (.v 1) (.cons (.v 2) .nil))))) PM
noncomputable def PQ:B:=.cons (.set (.one 3) (.bi .dict (.cons (.v 1) .nil))) PN
theorem PR:aO ["asked","values","store","inner","over","counts","value","count"] ["asked","values","store"] (ao (ae 21)):=⟨rfl,rfl,rfl,by decide +kernel,rfl,by decide +kernel,by decide +kernel⟩
theorem PU:aQ nm 40 ["asked","values","store","inner","over","counts","value","count"] (ao (ae 21)) (aH (ae 21))=PQ:=by kernel_rfl
noncomputable abbrev PV(n:Nat):bD w:={ cs:=[(16,gM n),(13,nu),(12,kZ)] }
theorem fS{a k:Key}{v:D}{r:List (Key×D)}:aX ((a,v)::r) k=if a=k then some v else aX r k:=by
 unfold aX;rw[List.find?_cons];by_cases h:a=k
 ·simp [h]
 ·simp [h]
theorem vt{k k':Key}{d:D}(h:k'≠k):∀r:List (Key×D),aX (r.map λkv=>if kv.1=k then (kv.1,d) else kv) k'=aX r k'
 |[]=>rfl
 |(a,v)::r=>by
  rw[Zh];by_cases e:a=k
  ·rw[if_pos e,fS,fS,if_neg (λz=>h (by rw[<- z,e])),if_neg (λz=>h (by rw[<- z,e])),vt h r]
  ·rw[if_neg e,fS,fS,vt h r]
theorem Dk{k:Key}{d:D}:∀r:List (Key×D),(r.any λkv=>decide (kv.1=k))=true->aX (r.map λkv=>if kv.1=k then (kv.1,d) else kv) k=some d
 |[],h=>by cases h
 |(a,v)::r,h=>by
  rw[Zh];by_cases e:a=k
  ·rw[if_pos e,fS,if_pos e]
  ·rw[if_neg e,fS,if_neg e];rw[aaF,decide_eq_false e,Bool.false_or]at h;exact Dk r h
theorem qn{kvs:List (Key×D)}{k k':Key}{d:D}:aX (aY kvs k d) k'=if k'=k then some d else aX kvs k':=by
 unfold aY;by_cases h:(kvs.any λkv=>decide (kv.1=k))=true
 ·rw[if_pos h];by_cases e:k'=k
  ·subst e;rw[if_pos rfl,Dk kvs h]
  ·rw[if_neg e,vt e]
 ·rw[if_neg h]
  induction kvs with
  |nil=>
   rw[aaw,fS];by_cases e:k'=k
   ·rw[if_pos e,if_pos e.symm]
   ·rw[if_neg e,if_neg (ZO e)]
  |cons p r ih=>
   obtain⟨a,v⟩:=p;have h':¬a=k/\¬(r.any λkv=>decide (kv.1=k))=true:=by
    rw[aaF]at h;exact⟨λz=>h (by simp [z]),λz=>h (by rw[z,Bool.or_true])⟩
   rw[Z9,fS,fS,ih h'.2];by_cases e:k'=k
   ·subst e;rw[if_neg h'.1,if_pos rfl,if_pos rfl]
   ·rw[if_neg e,if_neg e]
theorem PX{K:List (Key×D)}{k:Key}{a b:D}:aY (aY K k a) k b=aY K k b:=by
 have mp:∀K:List (Key×D),(K.map λkv=>if kv.1=k then (kv.1,a) else kv).map (λkv=>if kv.1=k then (kv.1,b) else kv)=K.map λkv=>if kv.1=k then (kv.1,b) else kv:=λK=>by
  rw[Z6];refine aak λkv _=>?_;show (if (if kv.1=k then (kv.1,a) else kv).1=k then ((if kv.1=k then (kv.1,a) else kv).1,b) else (if kv.1=k then (kv.1,a) else kv))=_
  by_cases h:kv.1=k
  ·simp only[if_pos h]
  ·simp only[if_neg h]
 have Yv:∀K:List (Key×D),((K.map λkv=>if kv.1=k then (kv.1,a) else kv).any λkv=>decide (kv.1=k))=K.any λkv=>decide (kv.1=k):=λK=>by
  rw[List.any_map]
  congr 1;funext kv
  show decide ((if kv.1=k then (kv.1,a) else kv).1=k)=_
  by_cases h:kv.1=k
  ·simp only[if_pos h]
  ·simp only[if_neg h]
 by_cases h:(K.any λkv=>decide (kv.1=k))=true
 ·have e:aY K k a=K.map λkv=>if kv.1=k then (kv.1,a) else kv:=if_pos h
  rw[e];unfold aY;rw[Yv K,if_pos h,if_pos h,mp]
 ·have e:aY K k a=K++[(k,a)]:=if_neg h;rw[e];unfold aY;have no:∀kv∈K,kv.1≠k:=λkv hk z=>h (List.any_eq_true.mpr ⟨kv,hk,decide_eq_true z⟩);rw[if_pos (by simp),if_neg h,Zt]
  congr 1
  ·refine (aak λkv hk=>if_neg (no kv hk)).trans (List.map_id _)
  ·simp
theorem Dl{v:D}{kvs:List (Key×D)}{M:Mp}{q:QK}(h:ij v kvs M)(k:gg kvs M q):sq [v] M q:=.inl (by
 rcases h with rfl |⟨p,rfl,hp⟩
 ·show gg _ M q;rw[h7];exact k
 ·exact⟨kvs,hp,k⟩)
theorem Dm{K:List (Key×D)}{G:Sc}{ρ:Vn}{x:Str}{l:Kd}{v:Val}(h:∀y k,NQ.lk y G=some k->aX K (.inr y)=some (vD (ρ y))):∀y k,NQ.lk y ((x,l)::G)=some k->aX (aY K (.inr x) (vD v)) (.inr y)=some (vD (ρ.put x v y)):=λy k e=>by
 rw[qn];rw[NQ.lk]at e;unfold Vn.put;by_cases z:y=x
 ·rw[if_pos z,if_pos (by rw[z])]
 ·rw[if_neg z]at e;rw[if_neg z,if_neg (λu=>z (aaY u))];exact h y k e
theorem PY(O:Lw w){n j:Nat}(hj:23<=j)(ha:FO w 16 j (gM n)):FO w 15 (j+1) (qm n):=by
 refine bh O.ok O.hn _ ⟨"_law_bound",ae 21,["asked","values","store"]⟩ (by rw[O.hd];rfl) (PV n) { cs:=⟨⟨j,Y8 _,ha⟩,⟨1,by lia,p5 O⟩,⟨23,hj,ny O⟩,trivial⟩ } PR PU λds M Q _ h=>?_;obtain⟨q,σ,ρ,G,S,k,vs,st,rfl,⟨x,a,b,hq,UA,Vs⟩,ty,i,h⟩:=h;obtain⟨kvs,hd,hl,jN⟩:=i.re;have er:1000<sizeLine:=by decide
 refine⟨rfl,Dl hd (.inr λpd gN=>?_)⟩;have Dn:∀o,gL vs G ρ n (up M pd o):=λo=>gL.up ⟨kvs,hd,by lia,jN⟩ gN;have vv:∀o,nH st S σ (up M pd o):=λo=>i.rt.up gN;rcases hq with rfl |rfl
 ·cases ty with
  |@«for» _ _ _ _ _ l kl ta tb=>
   obtain⟨f1,f2,f3,U8,Ps,PZ⟩:=i.f;have ha:=bI i.t ta ρ i.e;obtain⟨ea,ca,Dp⟩:=bV ha;refine⟨_,rfl,a,σ,ρ,G,S,_,vs,st,rfl,ta,⟨UA,i.e,i.t,Dn _,vv _,f1⟩,?_⟩;rw[ea,kU];generalize dY:bv (ah σ a ρ)=ps at *;refine⟨_,rfl,aj (ai (by decide) ⟨Zj _,.inr λpc a6=>⟨_,rfl,?_⟩⟩)⟩;have lg:pd≠pc:=b7 ak a6;have Dq:M pc=none:=(by rw[av (ZO lg)]at a6;exact a6);refine cZ (λxs τ M'=>∃pre rest u6 u7 K',xs=rest.map pD/\ps=pre++rest/\(K'=kvs\/∃d,K'=aY kvs (.inr x) d)/\τ=[some (qD (.for x a b)),some vs,some st,some (.ref pd),some (.tup [.str "bag",.tup (ps.map pD)]),some (.ref pc),u6,u7]/\M'=up (up M pd (.au K')) pc (.lst ((cG pre λv=>bv (ah σ b (ρ.put x v))).map pD))) ?_ ?_ _ _ _ ⟨[],ps,none,none,kvs,rfl,rfl,.inl rfl,rfl,rfl⟩
   ·rintro τ M' ⟨pre,rest,u6,u7,K',e1,e2,US,rfl,rfl⟩;have:rest=[]:=(by simpa using e1.symm);subst this;rw[Zu]at e2;subst e2;refine⟨trivial,.rfl ⟨pc,_,U8,rfl,ak,f3,Ps,PZ,?_⟩⟩;refine uT (M:=M) (bC.tr (hY gN rfl) (hY (by rw[av (ZO lg)];exact Dq) rfl)) ?_;rw[ah,dY]at h;exact h
   ·rintro y ys τ M' ⟨pre,rest,u6,u7,K',e1,e2,US,rfl,rfl⟩;cases rest with
    |nil=>cases e1
    |cons p rest=>
     cases e1;have hp:p∈ps:=(by rw[e2];simp);obtain⟨g1,g2⟩:=f2 p hp;have hb:=bI i.t tb (ρ.put x p.1) (i.e.put (Dp p hp));have wE:K'.length<=kvs.length+1:=by
      rcases US with rfl |⟨d,rfl⟩
      ·exact aag _
      ·exact iK _ _ _
     have Yw:aY K' (.inr x) (vD p.1)=aY kvs (.inr x) (vD p.1):=by
      rcases US with rfl |⟨d,rfl⟩
      ·rfl
      ·exact PX
     refine⟨trivial,λN hN=>⟨rfl,_,rfl,.inr ⟨K',by rw[av lg];exact ak,Zd (by lia:_<=1000) er,?_⟩⟩⟩;have Vm:∀L,up (up (up M pd (.au K')) pc L) pd (.au (aY kvs (.inr x) (vD p.1)))=up (up M pd (.au (aY kvs (.inr x) (vD p.1)))) pc L:=λL=>(by rw[fQ (ZO lg),_root_.N.bj]);rw[Yw,Vm];have eb:=(bV hb).1;have VB:cG ps (λv=>bv (ah σ b (ρ.put x v)))=cG pre (λv=>bv (ah σ b (ρ.put x v)))++(sc p.2 (bv (ah σ b (ρ.put x p.1)))++cG rest λv=>bv (ah σ b (ρ.put x v))):=by
      rw[e2];unfold cG;rw[List.flatMap_append,List.flatMap_cons];rfl
     have lt:(cG pre λv=>bv (ah σ b (ρ.put x v))).length+(bv (ah σ b (ρ.put x p.1))).length<sizeLine:=by
      have:=f3;rw[VB,Zi,Zi]at this;unfold sc at this;rw[Y6]at this;lia
     have lk:=iK kvs (.inr x) (vD p.1);refine⟨_,rfl,b,σ,ρ.put x p.1,(x,l)::G,S,_,.ref pd,st,rfl,tb,⟨Vs,i.e.put (Dp p hp),i.t,⟨_,.inr ⟨pd,rfl,by rw[av lg];exact ak⟩,by lia,Dm jN⟩,(i.rt.up gN).up (by rw[av (ZO lg)];exact Dq),g1⟩,?_⟩;refine⟨pc,_,bv (ah σ b (ρ.put x p.1)),p.2,by rw[<- eb];rfl,ak,lt,g2,hN _ _ ⟨pre++[p],rest,_,_,_,rfl,by rw[e2];simp,.inr ⟨vD p.1,rfl⟩,rfl,?_⟩⟩;rw[_root_.N.bj]
     congr 3
     unfold cG;rw[List.flatMap_append,List.flatMap_cons,List.flatMap_nil,Zu];rfl
 ·cases ty with
  |@«let» _ _ _ _ _ l kl ta tb=>
   obtain⟨f1,f2⟩:=i.f;have ha:=bI i.t ta ρ i.e;refine⟨_,rfl,a,σ,ρ,G,S,_,vs,st,rfl,ta,⟨UA,i.e,i.t,Dn _,vv _,f1⟩,?_⟩;refine⟨_,rfl,aj (aJ (by decide) ⟨_,rfl,.inr ⟨kvs,ak,Zd (by lia:_<=1000) er,?_⟩⟩)⟩;rw[_root_.N.bj];refine⟨_,rfl,b,σ,ρ.put x (ah σ a ρ),(x,l)::G,S,_,.ref pd,st,rfl,tb,⟨Vs,i.e.put ha,i.t,⟨_,.inr ⟨pd,rfl,ak⟩,by have:=iK kvs (.inr x) (vD (ah σ a ρ));lia,Dm jN⟩,vv _,f2⟩,gC gN rfl h⟩
variable{w:Wo}
noncomputable def P0:B:=.cons (.ret (.call 12 (.cons (.v 6) .nil))) .nil
noncomputable def P1:B:=.cons (.cond (.cmp .Eq (.v 3) (.c (.str "one"))) (.cons (.ex (.mt .append (.v 6) (.cons (.tup (.cons (.call 16 (.cons (.ix (.v 0) (.c (.int 1))) (.cons (.v 1) (.cons (.v 2) .nil)))) (.cons (.c (.int 1)) .nil))) .nil))) .nil) (.cons (.cond (.cmp .Eq (.v 3) (.c (.str "both"))) (.cons (.ex (.call 13 (.cons (.v 6) (.cons (.call 16 (.cons (.ix (.v 0) (.c (.int 1))) (.cons (.v 1) (.cons (.v 2) .nil)))) (.cons (.c (.int 1)) .nil))))) (.cons (.ex (.call 13 (.cons (.v 6) (.cons (.call 16 (.cons (.ix (.v 0) (.c (.int 2))) (.cons (.v 1) (.cons (.v 2) .nil)))) (.cons (.c (.int 1)) .nil))))) .nil)) (.cons (.cond (.cmp .Eq (.v 3) (.c (.str "times"))) (.cons (.ex (.call 13 (.cons (.v 6) (.cons (.call 16 (.cons (.ix (.v 0) (.c (.int 2))) (.cons (.v 1) (.cons (.v 2) .nil)))) (.cons (.ix (.v 0) (.c (.int 1))) .nil))))) .nil) (.cons (.cond (.and (.cmp .Eq (.v 3) (.c (.str "when"))) (.call 14 (.cons (.ix (.v 0) (.c (.int 1))) (.cons (.v 1) (.cons (.v 2) .nil))))) (.cons (.ret (.call 16 (.cons (.ix (.v 0) (.c (.int 2))) (.cons (.v 1) (.cons (.v 2) .nil))))) .nil) .nil) .nil)) .nil)) .nil)) P0
noncomputable def P2:B:=.cons (.set (.one 6) (.lst .nil)) P1
noncomputable def P4:B:=.cons (.cond (.cmp .In (.v 3) (.tup (.cons (.c (.str "add")) (.cons (.c (.str "mul")) .nil)))) (.cons (.set (.one 4) (.ix (.call 16 (.cons (.ix (.v 0) (.c (.int 1))) (.cons (.v 1) (.cons (.v 2) .nil)))) (.c (.int 1)))) (.cons (.set (.one 5) (.ix (.call 16 (.cons (.ix (.v 0) (.c (.int 2))) (.cons (.v 1) (.cons (.v 2) .nil)))) (.c (.int 1)))) (.cons (.ret (.tup (.cons (.c (.str "num")) (.cons (.ix (.lst (.cons (.op .Add (.v 4) (.v 5)) (.cons (.op .Mult (.v 4) (.v 5)) .nil))) (.bi .int (.cons (.cmp .Eq (.v 3) (.c (.str "mul"))) .nil))) .nil)))) .nil))) .nil) P2
noncomputable def P5:B:=.cons (.cond (.cmp .In (.v 3) (.tup (.cons (.c (.str "for")) (.cons (.c (.str "let")) .nil)))) (.cons (.ret (.call 15 (.cons (.v 0) (.cons (.v 1) (.cons (.v 2) .nil))))) .nil) .nil) P4
noncomputable def P6:B:=.cons (.cond (.cmp .Eq (.v 3) (.c (.str "at"))) (.cons (.ret (.ix (.bi .dict (.cons (.ix (.call 16 (.cons (.ix (.v 0) (.c (.int 2))) (.cons (.v 1) (.cons (.v 2) .nil)))) (.c (.int 1))) .nil)) (.ix (.v 0) (.c (.int 1))))) .nil) .nil) P5
noncomputable def P7:B:=.cons (.cond (.cmp .Eq (.v 3) (.c (.str "row"))) (.cons (.ret (.tup (.cons (.c (.str "row")) (.cons (.bi .tuple (.cons (.lc 2 [2,1] (.many [0,1]) (.seq (.ix (.v 0) (.c (.int 1)))) .ar (.tup (.cons (.v 0) (.cons (.call 16 (.cons (.v 1) (.cons (.v 3) (.cons (.v 2) .nil)))) .nil)))) .nil)) .nil)))) .nil) .nil) P6
noncomputable def P8:B:=.cons (.cond (.cmp .Eq (.v 3) (.c (.str "table"))) (.cons (.ret (.ix (.v 2) (.ix (.v 0) (.c (.int 1))))) .nil) .nil) P7
noncomputable def P9:B:=.cons (.cond (.cmp .Eq (.v 3) (.c (.str "var"))) (.cons (.ret (.ix (.v 1) (.ix (.v 0) (.c (.int 1))))) .nil) .nil) P8
noncomputable def P':B:=.cons (.cond (.cmp .In (.v 3) (.tup (.cons (.c (.str "num")) (.cons (.c (.str "word")) .nil)))) (.cons (.ret (.v 0)) .nil) .nil) P9
noncomputable def Qa:B:=.cons (.set (.one 3) (.ix (.v 0) (.c (.int 0)))) P'
theorem Qb:aO ["asked","values","store","word","one","other","counts"] ["asked","values","store"] (ao (ae 22)):=⟨rfl,rfl,rfl,by decide +kernel,rfl,by decide +kernel,by decide +kernel⟩
theorem Qc:aQ nm 40 ["asked","values","store","word","one","other","counts"] (ao (ae 22)) (aH (ae 22))=Qa:=by kernel_rfl
noncomputable abbrev Qd(n:Nat):bD w:={ cs:=[(16,gM n),(15,qm n),(14,k9 n),(12,kZ),(13,nu)] }
theorem Dr{f:Str}:∀(ps:List (Str×Val))(al:List (Key×D)),(ps.map (·.1)).Nodup->aX ((ps.map λp=>((aae p.1:Key),vD p.2)).foldl (λal kv=>aY al kv.1 kv.2) al) (.inr f)=if f∈ps.map (·.1) then some (vD (UI f ps)) else aX al (.inr f)
 |[],al,_=>by simp
 |p::ps,al,nd=>by
  rw[Zh,List.nodup_cons]at nd;rw[Zh,List.foldl_cons,Dr ps _ nd.2,qn,UI];by_cases e:f=p.1
  ·subst e;rw[if_neg nd.1,if_pos rfl,if_pos rfl,if_pos (by simp)]
  ·rw[if_neg (λz:(aae f:Key)=aae p.1=>e (aaY z)),if_neg e];simp only[Zh,ZN,e,false_or]
theorem Du:∀{fs:List (Str×Kd)}{ps:List (Str×Val)},bN fs ps->ps.map (·.1)=fs.map (·.1)
 |[],ps,e=>by rw[bN]at e;subst e;rfl
 |(f,l)::r,ps,e=>by rw[bN]at e;obtain⟨u,qs,rfl,a,b⟩:=e;rw[Zh,Zh,Du b]
theorem Qe{f:Str}{k:Kd}{fs:Sc}(h:NQ.lk f fs=some k):f∈fs.map (·.1):=List.mem_map.mpr ⟨_,di h,rfl⟩
theorem Qf{f:Str}{k:Kd}{fs:List (Str×Kd)}{ps:List (Str×Val)}(h:bN fs ps)(nd:(fs.map (·.1)).Nodup)(e:NQ.lk f fs=some k):aX (cM (ps.map λp=>((aae p.1:Key),vD p.2))) (.inr f)=some (vD (UI f ps)):=by
 unfold cM;have nm:=Du h;rw[Dr ps _ (by rw[nm];exact nd),if_pos (by rw[nm];exact Qe e)]
theorem Dv(ps:NV.Bg):sc 1 ps=ps:=by
 unfold sc;refine (aak λp _=>?_).trans (List.map_id _);show (p.1,1 * p.2)=p;rw[Int.one_mul]
theorem Qg(O:Lw w){n j:Nat}(hj:24<=j)(ha:FO w 16 j (gM n))(hb:FO w 15 j (qm n))(ht:FO w 14 j (k9 n)):FO w 16 (j+1) (gM (n+1)):=by
 refine bh O.ok O.hn _ ⟨"_law_answer",ae 22,["asked","values","store"]⟩ (by rw[O.hd];rfl) (Qd n) { cs:=⟨⟨j,Y8 _,ha⟩,⟨j,Y8 _,hb⟩,⟨j,Y8 _,ht⟩,⟨23,by lia,ny O⟩,⟨1,by lia,p5 O⟩,trivial⟩ } Qb Qc λds M Q _ h=>?_;obtain⟨q,σ,ρ,G,S,k,vs,st,rfl,ty,i,h⟩:=h;have d:=i.d;cases ty with
 |num=>
  refine⟨rfl,_,rfl,l2,a5 (b:=true) (by decide +kernel) (aJ rfl (aC h))⟩
 |word=>exact⟨rfl,_,rfl,l2,a5 (b:=true) (by decide +kernel) (aJ rfl (aC h))⟩
 |var U=>
  obtain⟨kvs,h1,h2,h3⟩:=i.re;exact⟨rfl,_,rfl,l2,a5 (b:=false) (by decide +kernel) (ai (by decide) (aj (aJ (by decide) ⟨_,rfl,Di h1 (h3 _ _ U) (aC h)⟩)))⟩
 |tab U=>
  obtain⟨kvs,h1,h2⟩:=i.rt _ _ U;exact⟨rfl,_,rfl,l2,a5 (b:=false) (by decide +kernel) (ai (by decide) (aj (ai (by decide) (aj (aJ (by decide) ⟨_,rfl,Di h1 h2 (aC h)⟩)))))⟩
 |none h1 h2=>
  refine⟨rfl,_,rfl,l2,a5 (b:=false) (by decide +kernel) (ai (by decide) (aj (ai (by decide) (aj (ai (by decide) (aj (ai (by decide) (aj (ai (by decide) ⟨l2,a5 (b:=false) (by decide +kernel) (ai (by decide) ⟨l2,a5 (b:=false) (by decide +kernel) (ai (by decide) ⟨Zj _,.inr λpc a6=>?_⟩)⟩)⟩)))))))))⟩;refine aj (ai (by decide) (aj (ai (by decide) (aj (ai (by decide) (aj (ai (by decide) (ai (by decide) ⟨pc,[],.num,rfl,ak,by decide,by decide,λ_ z=>(nomatch z),gC a6 rfl h⟩))))))))
 |@row _ fs ks h1 h2 h3=>
  rw[dq]at d;have hr:bN ks (b5 σ fs ρ):=by
   have:=bI i.t (.row h1 h2 h3) ρ i.e;rw[ah,aG]at this;obtain⟨_,e,a⟩:=this;cases e;exact a
  refine⟨rfl,_,rfl,l2,a5 (b:=false) (by decide +kernel) (ai (by decide) (aj (ai (by decide) (aj (ai (by decide) (aj (aJ (by decide) ⟨_,rfl,?_⟩)))))))⟩;refine dQ (λxs ys M'=>M'=M/\∃pre rest Wj,xs=bz rest/\fs=pre++rest/\ys=(b5 σ pre ρ).map (λp=>D.tup [.str p.1,vD p.2])/\c0 S G rest Wj) ?_ ?_ _ _ _ ⟨rfl,[],fs,ks,rfl,rfl,rfl,h3⟩
  ·rintro ys M' ⟨rfl,pre,rest,Wj,e1,e2,rfl,t⟩;cases rest with
   |cons p r=>obtain⟨f,q⟩:=p;rw[bz]at e1;cases e1
   |nil=>
    rw[Zu]at e2;subst e2;have ln:(b5 σ fs ρ).length=fs.length:=by
     have:∀fs:List (Str×Qn),(b5 σ fs ρ).length=fs.length:=λfs=>(by induction fs with |nil=>rfl |cons p r ih=>obtain⟨f,q⟩:=p;rw[b5,Zg,Zg,ih]);exact this fs
    refine⟨trivial,Zd (by rw[Y6,ln];lia:_<=100) (by decide),.inl ⟨l2,aC ?_⟩⟩;rw[ah,p0]at h;exact h
  ·rintro x xs ys M' ⟨rfl,pre,rest,Wj,e1,e2,rfl,t⟩;cases rest with
   |nil=>rw[bz]at e1;cases e1
   |cons p rest=>
    obtain⟨f,q⟩:=p;rw[bz]at e1;cases e1;cases t with
    |cons Yx tr=>
     have ln:∀fs:List (Str×Qn),(b5 σ fs ρ).length=fs.length:=λfs=>(by induction fs with |nil=>rfl |cons p r ih=>obtain⟨f,q⟩:=p;rw[b5,Zg,Zg,ih]);have app:∀pre:List (Str×Qn),b5 σ (pre++[(f,q)]) ρ=b5 σ pre ρ++[(f,ah σ q ρ)]:=λpre=>(by induction pre with |nil=>rfl |cons p r ih=>obtain⟨g,l⟩:=p;rw[Z9,b5,b5,ih];rfl);have lp:pre.length<=fs.length:=(by rw[e2];simp);have VD:∀{fs:List (Str×Qn)}{p:Str×Qn},p∈fs->dq p.2<=ck fs:=λ{fs p}hp=>by
      induction fs with
      |nil=>cases hp
      |cons a r ih=>
       obtain⟨g,l⟩:=a;rw[ck];rcases List.mem_cons.mp hp with rfl |hp
       ·exact ZI _ _
       ·exact Y9 (ih hp) (ZQ _ _)
     have VP:∀{fs:List (Str×Qn)}{p:Str×Qn},nG σ fs ρ->p∈fs->bg σ p.2 ρ:=λ{fs p}hf hp=>by
      induction fs with
      |nil=>cases hp
      |cons a r ih=>
       obtain⟨g,l⟩:=a;rw[nG]at hf;rcases List.mem_cons.mp hp with rfl |hp
       ·exact hf.1
       ·exact ih hf.2 hp
     have hm:(f,q)∈fs:=(by rw[e2];simp);have dd:=VD hm;refine⟨trivial,Zd (by rw[Y6,ln];lia:_<=100) (by decide),λN hN=>⟨rfl,q,σ,ρ,G,S,_,vs,st,rfl,Yx,c7 i (by lia) (by show dq q<=n;have:dq q<=ck fs:=dd;lia) (VP i.f hm),l2,?_⟩⟩
     have:=hN _ _ ⟨rfl,pre++[(f,q)],rest,_,rfl,by rw[e2];simp,rfl,tr⟩;rw[app,Zt]at this;exact this
 |@«at» _ f a ks κ h1 h2 h3=>
  rw[dq]at d;have hr:=bI i.t h2 ρ i.e;rw[aG]at hr;obtain⟨ps,ea,hr⟩:=hr;refine⟨rfl,_,rfl,l2,a5 (b:=false) (by decide +kernel) (ai (by decide) (aj (ai (by decide) (aj (ai (by decide) (aj (ai (by decide) (aj (aJ (by decide) ?_)))))))))⟩;refine⟨_,rfl,a,σ,ρ,G,S,_,vs,st,rfl,h2,c7 i (by lia) (by lia) i.f,?_⟩;rw[ah,ea]at h;rw[ea,p0];refine⟨_,rfl,.inr ⟨ps.map λp=>(.inr p.1,vD p.2),by rw[Z6];rfl,.inl ⟨_,rfl,?_⟩⟩⟩;exact⟨_,by rw[h7];exact Qf hr h1.1 h3,aC h⟩
 |@add _ a b ta tb=>
  rw[dq]at d;obtain⟨⟨fa,fb⟩,UJ⟩:=i.f;refine⟨rfl,_,rfl,l2,a5 (b:=false) (by decide +kernel) (ai (by decide) (aj (ai (by decide) (aj (ai (by decide) (aj (ai (by decide) (aj (ai (by decide) ⟨l2,a5 (b:=false) (by decide +kernel) (ai (by decide) ⟨l2,a5 (b:=true) (by decide +kernel) (aJ rfl ?_)⟩)⟩)))))))))⟩;refine⟨_,rfl,a,σ,ρ,G,S,_,vs,st,rfl,ta,c7 i (by lia) (by lia) fa,?_⟩;have ea:=jj (bI i.t ta ρ i.e);have eb:=jj (bI i.t tb ρ i.e);rw[ea];refine⟨_,rfl,_,rfl,b,σ,ρ,G,S,_,vs,st,rfl,tb,c7 i (by lia) (by lia) fb,?_⟩;rw[eb];exact⟨_,rfl,UJ,l2,.inl (aj ⟨_,uP,l2,aC h⟩)⟩
 |@mul _ a b ta tb=>
  rw[dq]at d;obtain⟨⟨fa,fb⟩,UJ⟩:=i.f;refine⟨rfl,_,rfl,l2,a5 (b:=false) (by decide +kernel) (ai (by decide) (aj (ai (by decide) (aj (ai (by decide) (aj (ai (by decide) (aj (ai (by decide) ⟨l2,a5 (b:=false) (by decide +kernel) (ai (by decide) ⟨l2,a5 (b:=true) (by decide +kernel) (aJ rfl ?_)⟩)⟩)))))))))⟩;refine⟨_,rfl,a,σ,ρ,G,S,_,vs,st,rfl,ta,c7 i (by lia) (by lia) fa,?_⟩;have ea:=jj (bI i.t ta ρ i.e);have eb:=jj (bI i.t tb ρ i.e);rw[ea];refine⟨_,rfl,_,rfl,b,σ,ρ,G,S,_,vs,st,rfl,tb,c7 i (by lia) (by lia) fb,?_⟩;rw[eb];exact⟨_,rfl,UJ,l2,.inl (aj ⟨_,uP,l2,aC h⟩)⟩
 |@one _ a κ t=>
  rw[dq]at d;obtain⟨fa,kl,k',kk,Vt⟩:=i.f;refine⟨rfl,_,rfl,l2,a5 (b:=false) (by decide +kernel) (ai (by decide) (aj (ai (by decide) (aj (ai (by decide) (aj (ai (by decide) (aj (ai (by decide) ⟨l2,a5 (b:=false) (by decide +kernel) (ai (by decide) ⟨l2,a5 (b:=false) (by decide +kernel) (ai (by decide) ⟨Zj _,.inr λpc a6=>?_⟩)⟩)⟩)))))))))⟩;refine aj (aJ (by decide) ⟨⟨rfl,_,ak⟩,_,rfl,a,σ,ρ,G,S,_,vs,st,rfl,t,⟨by lia,i.e,i.t,(i.re.bP (aag _)).up a6,i.rt.up a6,fa⟩,l2,_,ak,by decide,?_⟩);rw[_root_.N.bj];refine⟨pc,[(ah σ a ρ,1)],k',rfl,ak,kl,kk,Vt,gC a6 rfl ?_⟩;rw[Ny ⟨ZT _ _,λp hp=>by rw[List.mem_singleton.mp hp];show (1:Int)≠0;decide⟩];exact h
 |@both _ a b κ hz ta tb=>
  rw[dq]at d;obtain⟨⟨fa,fb⟩,kl,k',kk,Vt⟩:=i.f;have ea:=(bV (bI i.t ta ρ i.e)).1;have eb:=(bV (bI i.t tb ρ i.e)).1;rw[Zi]at kl;refine⟨rfl,_,rfl,l2,a5 (b:=false) (by decide +kernel) (ai (by decide) (aj (ai (by decide) (aj (ai (by decide) (aj (ai (by decide) (aj (ai (by decide) ⟨l2,a5 (b:=false) (by decide +kernel) (ai (by decide) ⟨l2,a5 (b:=false) (by decide +kernel) (ai (by decide) ⟨Zj _,.inr λpc a6=>?_⟩)⟩)⟩)))))))))⟩;refine aj (ai (by decide) (aj (aJ (by decide) ?_)));refine⟨_,rfl,a,σ,ρ,G,S,_,vs,st,rfl,ta,⟨by lia,i.e,i.t,(i.re.bP (aag _)).up a6,i.rt.up a6,fa⟩,pc,[],bv (ah σ a ρ),1,by rw[<- ea];rfl,ak,by simp;lia,λ_ _=>kL (by decide),?_⟩;rw[_root_.N.bj,aaw,Dv];refine⟨_,rfl,b,σ,ρ,G,S,_,vs,st,rfl,tb,⟨by lia,i.e,i.t,(i.re.bP (aag _)).up a6,i.rt.up a6,fb⟩,pc,bv (ah σ a ρ),bv (ah σ b ρ),1,by rw[<- eb];rfl,ak,kl,λ_ _=>kL (by decide),?_⟩;rw[_root_.N.bj,Dv];exact⟨pc,_,k',rfl,ak,by rw[Zi];exact kl,kk,Vt,gC a6 rfl h⟩
 |@times _ m a κ t=>
  rw[dq]at d;obtain⟨fa,⟨kl,k',kk,Vt⟩,Yy⟩:=i.f;have ea:=(bV (bI i.t t ρ i.e)).1;refine⟨rfl,_,rfl,l2,a5 (b:=false) (by decide +kernel) (ai (by decide) (aj (ai (by decide) (aj (ai (by decide) (aj (ai (by decide) (aj (ai (by decide) ⟨l2,a5 (b:=false) (by decide +kernel) (ai (by decide) ⟨l2,a5 (b:=false) (by decide +kernel) (ai (by decide) ⟨Zj _,.inr λpc a6=>?_⟩)⟩)⟩)))))))))⟩;refine aj (ai (by decide) (aj (ai (by decide) (aj (aJ (by decide) ?_)))));refine⟨_,rfl,a,σ,ρ,G,S,_,vs,st,rfl,t,⟨by lia,i.e,i.t,(i.re.bP (aag _)).up a6,i.rt.up a6,fa⟩,_,rfl,pc,[],bv (ah σ a ρ),m,by rw[<- ea];rfl,ak,by unfold sc at kl;rw[Y6]at kl;simpa using kl,Yy,?_⟩;rw[_root_.N.bj,aaw];exact⟨pc,_,k',rfl,ak,kl,kk,Vt,gC a6 rfl h⟩
 |@«for» _ x a b κ l hk ta tb=>
  rw[dq]at d;obtain⟨kvs,_,hl,_⟩:=id i.re;exact⟨rfl,_,rfl,l2,a5 (b:=false) (by decide +kernel) (ai (by decide) (aj (ai (by decide) (aj (ai (by decide) (aj (ai (by decide) (aj (ai (by decide) ⟨l2,a5 (b:=true) (by decide +kernel) (aJ rfl ⟨_,σ,ρ,G,S,_,vs,st,rfl,⟨x,a,b,.inl rfl,by lia,by lia⟩,.for hk ta tb,⟨by rw[dq];lia,i.e,i.t,i.re,i.rt,i.f⟩,aC h⟩)⟩)))))))))⟩
 |@aZ _ c a κ tc t=>
  rw[dq]at d;refine⟨rfl,_,rfl,l2,a5 (b:=false) (by decide +kernel) (ai (by decide) (aj (ai (by decide) (aj (ai (by decide) (aj (ai (by decide) (aj (ai (by decide) ⟨l2,a5 (b:=false) (by decide +kernel) (ai (by decide) ⟨l2,a5 (b:=false) (by decide +kernel) (ai (by decide) ⟨Zj _,.inr λpc a6=>?_⟩)⟩)⟩)))))))))⟩;refine aj (ai (by decide) (aj (ai (by decide) (aj (ai (by decide) (aj (aJ (by decide) ?_)))))));refine⟨_,rfl,c,σ,ρ,G,S,vs,st,rfl,tc,⟨by lia,i.e,i.t,(i.re.bP (aag _)).up a6,i.rt.up a6,i.f.1⟩,?_⟩;rw[ah]at h;refine aN (λe=>?_) λe=>?_
  ·rw[if_pos e]at h;exact⟨_,rfl,a,σ,ρ,G,S,_,vs,st,rfl,t,⟨by lia,i.e,i.t,(i.re.bP (aag _)).up a6,i.rt.up a6,i.f.2⟩,gC a6 rfl h⟩
  ·rw[if_neg e]at h;exact⟨pc,[],.num,rfl,ak,by decide,by decide,λ_ z=>(nomatch z),gC a6 rfl h⟩
 |@«let» _ x a b κ l hk ta tb=>
  rw[dq]at d;obtain⟨kvs,_,hl,_⟩:=id i.re;exact⟨rfl,_,rfl,l2,a5 (b:=false) (by decide +kernel) (ai (by decide) (aj (ai (by decide) (aj (ai (by decide) (aj (ai (by decide) (aj (ai (by decide) ⟨l2,a5 (b:=true) (by decide +kernel) (aJ rfl ⟨_,σ,ρ,G,S,_,vs,st,rfl,⟨x,a,b,.inr rfl,by lia,by lia⟩,.let hk ta tb,⟨by rw[dq];lia,i.e,i.t,i.re,i.rt,i.f⟩,aC h⟩)⟩)))))))))⟩
end K97
end
section
namespace K97
open PySem N NQ
open L2
variable{w:Wo}
noncomputable def us:Qn->List Qn
 |.row fs=>fs.map (·.2)
 |.at _ q=>[q]
 |.add a b=>[a,b] |.mul a b=>[a,b]
 |.one q=>[q]
 |.both a b=>[a,b]
 |.times _ q=>[q]
 |.for _ a b=>[a,b] |.aZ a b=>[a,b] |.let _ a b=>[a,b]
 |.same a b=>[a,b] |.under a b=>[a,b] |.and a b=>[a,b] |.or a b=>[a,b]
 |.not q=>[q]
 |_=>[]
theorem Dw(O:Lw w){s:Str}{b:Bool}{M:Mp}{k:Bool->Prop}(hb:ek (.str s) (pU.map D.str)=b)(h:k b):iL (.str s) (w.gv.getD 0 .az) M k:=by
 rw[O.g0];refine⟨⟨rfl,by decide +kernel,by decide +kernel,?_⟩⟩;rw[hb];exact h
noncomputable def Qh:B:=(.cons (.cond (.cmp .Eq (.ix (.v 0) (.c (.int 0))) (.c (.str "row"))) (.cons (.ret (.bi .tuple (.cons (.lc 2 [] (.many [0,1]) (.seq (.ix (.v 0) (.c (.int 1)))) .ar (.v 1)) .nil))) .nil) .nil) (.cons (.ret (.ite (.cmp .In (.ix (.v 0) (.c (.int 0))) (.g 0)) (.sl (.v 0) (.c (.int 2)) .ar) (.sl (.v 0) (.c (.int 1)) .ar))) .nil))
theorem Qi:aO ["question"] ["question"] (ao (ae 2)):=⟨rfl,rfl,rfl,by decide +kernel,rfl,by decide +kernel,by decide +kernel⟩
theorem Qj:aQ nm 40 ["question"] (ao (ae 2)) (aH (ae 2))=Qh:=by kernel_rfl
def nJ:Sp:=λds M Q _=>∃q,ds=[qD q]/\(us q).length<100/\Q (.tup ((us q).map qD)) M
theorem Dx:∀fs:List (Str×Qn),bz fs=fs.map λp=>.tup [.str p.1,qD p.2]
 |[]=>by rw[bz];rfl
 |(f,q)::r=>by rw[bz,Dx r];rfl
theorem qo(O:Lw w):FO w 0 1 nJ:=by
 refine bh O.ok O.hn _ ⟨"under",ae 2,["question"]⟩ (by rw[O.hd];rfl) {} { cs:=trivial } Qi Qj λds M Q _ h=>?_;obtain⟨q,rfl,hl,h⟩:=h;cases q with
 |row fs=>
  refine⟨rfl,_,rfl,aj (aJ (by decide) ⟨_,rfl,?_⟩)⟩;show et (λ_=>True) (.many [0,1]) oL _ _ _ (bz fs) [] M;rw[Dx];have hl:fs.length<100:=by simpa [us] using hl
  refine m7 (λp:Str×Qn=>.tup [.str p.1,qD p.2]) (λp=>qD p.2) fs ?_ (aaQ hl (by decide)) (λp _ N hN=>?_) ?_
  ·exact trivial
  ·exact⟨rfl,hN⟩
  ·refine .inl (aC ?_);rw[us,Z6]at h;exact h
 |_=>
  refine⟨rfl,_,rfl,aj (ai (by decide) ⟨_,rfl,?_⟩)⟩;dsimp only[E.w,jH]
  first
  |exact Dw O (b:=true) (by decide +kernel) (aJ rfl (aC h))
  |exact Dw O (b:=false) (by decide +kernel) (ai (by decide) (aC h))
noncomputable def Qk:B:=(.cons (.ex (.mt .append (.fld (.v 0) "waiting") (.cons (.tup (.cons (.v 1) (.cons (.v 2) (.cons (.v 3) .nil)))) .nil))) .nil)
theorem Ql:aO ["self","step","question","around"] ["self","step","question","around"] (ao (bq (ae 6) 1)):=⟨rfl,rfl,rfl,by decide +kernel,rfl,by decide +kernel,by decide +kernel⟩
theorem Qm:aQ nm 40 ["self","step","question","around"] (ao (bq (ae 6) 1)) (aH (bq (ae 6) 1))=Qk:=by kernel_rfl
noncomputable def Qo:B:=(.cons (.ex (.mt .append (.fld (.v 0) "found") (.cons (.v 1) .nil))) .nil)
theorem Qp:aO ["self","result"] ["self","result"] (ao (bq (ae 6) 2)):=⟨rfl,rfl,rfl,by decide +kernel,rfl,by decide +kernel,by decide +kernel⟩
theorem Qq:aQ nm 40 ["self","result"] (ao (bq (ae 6) 2)) (aH (bq (ae 6) 2))=Qo:=by kernel_rfl
noncomputable def Qr:B:=(.cons (.set (.one 2) (.lc 1 [0] (.one 0) (.gy (.v 1)) .ar (.mt .pop (.fld (.v 1) "found") .nil))) (.cons (.ret (.rev (.v 2))) .nil))
theorem Qs:aO ["self","many","taken"] ["self","many"] (ao (bq (ae 6) 3)):=⟨rfl,rfl,rfl,by decide +kernel,rfl,by decide +kernel,by decide +kernel⟩
theorem Qt:aQ nm 40 ["self","many","taken"] (ao (bq (ae 6) 3)) (aH (bq (ae 6) 3))=Qr:=by kernel_rfl
noncomputable def Qu:B:=(.cons (.mN (.v 0) "waiting" (.lst .nil)) (.cons (.mN (.v 0) "found" (.lst .nil)) .nil))
theorem Qv:aO ["self"] ["self"] (ao (bq (ae 6) 0)):=⟨rfl,rfl,rfl,by decide +kernel,rfl,by decide +kernel,by decide +kernel⟩
theorem Qw:aQ nm 40 ["self"] (ao (bq (ae 6) 0)) (aH (bq (ae 6) 0))=Qu:=by kernel_rfl
def vw(w:Wo):Sp:=λds M Q _=>∃x a b dx s q r xs,ds=[.ref x,s,q,r]/\M x=some (.ins (w.ca 0) dx [("waiting",.ref a),("found",.ref b)])/\M a=some (.lst xs)/\xs.length<sizeLine/\Q .az (up M a (.lst (xs++[.tup [s,q,r]])))
theorem Dy(O:Lw w):d2 w 1 1 (vw w):=by
 refine mW O.ok O.hn _ ⟨"later",(bq (ae 6) 1),["self","step","question","around"]⟩ (by rw[O.hms];rfl) {} { cs:=trivial } Ql Qm λds M Q _ h=>?_;obtain⟨x,a,b,dx,s,q,r,xs,rfl,U,ha,hl,h⟩:=h;exact⟨rfl,_,_,_,U,_,O.fw,rfl,⟨rfl,_,ha⟩,l3,_,ha,hl,aC h⟩
def Dz(w:Wo):Sp:=λds M Q _=>∃x a b dx d xs,ds=[.ref x,d]/\M x=some (.ins (w.ca 0) dx [("waiting",.ref a),("found",.ref b)])/\M b=some (.lst xs)/\xs.length<sizeLine/\Q .az (up M b (.lst (xs++[d])))
theorem Qx(O:Lw w):d2 w 2 1 (Dz w):=by
 refine mW O.ok O.hn _ ⟨"tell",(bq (ae 6) 2),["self","result"]⟩ (by rw[O.hms];rfl) {} { cs:=trivial } Qp Qq λds M Q _ h=>?_;obtain⟨x,a,b,dx,d,xs,rfl,U,hb,hl,h⟩:=h;exact⟨rfl,_,_,_,U,_,O.Vq,rfl,⟨rfl,_,hb⟩,_,hb,hl,aC h⟩
def DB(w:Wo):Sp:=λds M Q _=>∃x a b dx n fs ks,ds=[.ref x,.int n]/\M x=some (.ins (w.ca 0) dx [("waiting",.ref a),("found",.ref b)])/\M b=some (.lst (fs++ks))/\(ks.length:Int)=n/\n<1000/\Q (.lst ks) (up M b (.lst fs))
theorem Qy(O:Lw w):d2 w 3 1 (DB w):=by
 refine mW O.ok O.hn _ ⟨"take",(bq (ae 6) 3),["self","many"]⟩ (by rw[O.hms];rfl) {} { cs:=trivial } Qs Qt λds M Q _ h=>?_;obtain⟨x,a,b,dx,n,fs,ks,rfl,U,hb,hn,hl,h⟩:=h;have Qz:x≠b:=by rintro rfl;rw[U]at hb;cases hb
 refine⟨rfl,Int.le_trans (by decide) (by lia:0<=n),Int.lt_trans hl (by decide),?_⟩;refine dQ (λxs ys M'=>xs.length<=ks.length/\M'=up M b (.lst (fs++ks.take xs.length))/\ys=(ks.drop xs.length).reverse) ?_ ?_ _ _ _ ⟨?_,?_,?_⟩
 ·rintro ys M' ⟨_,rfl,rfl⟩;refine⟨trivial,Zd (by simp;lia:_<=1000) (by decide),.inl (.inl ?_)⟩;have e1:ks.drop ([]:List D).length=ks:=rfl;rw[e1,List.reverse_reverse];have e2:fs++ks.take ([]:List D).length=fs:=by simp
  rw[e2];exact aC h
 ·rintro d xs ys M' ⟨h1,rfl,rfl⟩;rw[Zg]at h1 ⊢;refine⟨trivial,Zd (by simp;lia:_<=1000) (by decide),λN hN=>?_⟩;have a8:xs.length<ks.length:=by lia
  refine⟨_,dx,[("waiting",.ref a),("found",.ref b)],by rw[av Qz];exact U,.ref b,O.Vq,rfl,⟨rfl,_,ak⟩,_,ak,ks[xs.length],?_,?_⟩
  ·have:(fs++ks.take (xs.length+1)).length-1=fs.length+xs.length:=(by simp;lia);rw[this,Zy (by lia),Nat.add_sub_cancel_left,List.getElem?_take,if_pos (by lia),Y5 a8]
  ·have e1:(fs++ks.take (xs.length+1)).dropLast=fs++ks.take xs.length:=by
    rw[List.take_succ,Y5 a8,Option.toList_some,<- Zl,List.dropLast_concat]
   rw[e1,_root_.N.bj];refine hN _ _ ⟨by lia,rfl,?_⟩;rw[Zz a8,aaM]
 ·unfold cF;simp;lia
 ·have:(cF 0 n.toNat).length=ks.length:=by unfold cF;simp;lia
  rw[this,aba,nr hb]
 ·have:(cF 0 n.toNat).length=ks.length:=by unfold cF;simp;lia
  rw[this,List.drop_length];rfl
def DC(w:Wo):Sp:=λds M Q _=>∃x dx,ds=[.ref x]/\M x=some (.ins (w.ca 0) dx [])/\∀a b,M a=none->M b=none->a≠b->Q .az (Wm (up M x (.ins (w.ca 0) dx [("waiting",.ref a),("found",.ref b)])) a b [] [])
theorem QA(O:Lw w):d2 w 0 1 (DC w):=by
 refine mW O.ok O.hn _ ⟨"__init__",(bq (ae 6) 0),["self"]⟩ (by rw[O.hms];rfl) {} { cs:=trivial } Qv Qw λds M Q _ h=>?_;obtain⟨x,dx,rfl,U,h⟩:=h;refine⟨rfl,Zj _,.inr λa ha=>?_⟩;have na:x≠a:=b7 U ha;refine⟨_,dx,[],by rw[av na];exact U,O.fw,by decide,Zj _,.inr λb hb=>?_⟩;have nb:x≠b:=by rintro rfl;rw[ak]at hb;cases hb
 rw[av (ZO nb)]at hb;have U4:a≠b:=by rintro rfl;rw[ak]at hb;cases hb
 rw[av (ZO U4)]at hb;refine⟨_,dx,[("waiting",.ref a)],by rw[av nb];exact ak,O.Vq,(show 1<1000 by decide),aC ?_⟩;have e:=h a b ha hb U4;have z:Wm (up M x (.ins (w.ca 0) dx [("waiting",.ref a),("found",.ref b)])) a b [] []=up (up (up (up M a (.lst [])) x (.ins (w.ca 0) dx [("waiting",.ref a)])) b (.lst [])) x (.ins (w.ca 0) dx [("waiting",.ref a),("found",.ref b)]):=by
  unfold Wm;rw[fQ (p:=b) (r:=x) (ZO nb),_root_.N.bj,fQ (p:=a) (r:=x) (ZO na)]
 rw[z]at e;exact e
variable{w:Wo}
theorem FO.DD{i k:Nat}{sp:Sp}{d:Ds}(h:FO w i k sp)(hd:w.ds[i]?=some d):eU w.G k (gF w d.x) sp:=by
 obtain⟨d',f,fd,h1,D,F⟩:=h;rw[hd]at h1;cases h1;have e:gF w d.x=f:=by unfold gF;rw[D.mg]
 rw[e];exact⟨fd,d.ps,w.G.K,F,D.kp,D.b,λz m b o=>m.gW.keeps λa ob q=>o.fz a _ (b.b a ob q)⟩
noncomputable def DF:S->B
 |.mO _ b=>b
 |_=>.nil
noncomputable def wd:Qn->Str
 |.num _=>"num" |.word _=>"word" |.var _=>"var" |.tab _=>"table" |.none _=>"none" |.row _=>"row" |.at _ _=>"at"
 |.add _ _=>"add" |.mul _ _=>"mul" |.one _=>"one" |.both _ _=>"both" |.times _ _=>"times" |.for _ _ _=>"for"
 |.aZ _ _=>"when" |.let _ _ _=>"let" |.same _ _=>"same" |.under _ _=>"under" |.and _ _=>"and" |.or _ _=>"or" |.not _=>"not"
theorem vx(q:Qn):∃r,qD q=.tup (.str (wd q)::r):=by cases q <;> exact⟨_,rfl⟩
noncomputable def DH:B:=(.cons (.mO (.fld (.v 0) "waiting") (.cons (.set (.many [1,2,3]) (.mt .pop (.fld (.v 0) "waiting") .nil)) (.cons (.ex (.app (.v 1) (.cons (.v 0) (.cons (.v 2) (.cons (.v 3) .nil))))) .nil))) (.cons (.ret (.mt .pop (.fld (.v 0) "found") .nil)) .nil))
theorem QB:aO ["self","step","question","around"] ["self"] (ao (bq (ae 6) 4)):=⟨rfl,rfl,rfl,by decide +kernel,rfl,by decide +kernel,by decide +kernel⟩
theorem QC:aQ nm 40 ["self","step","question","around"] (ao (bq (ae 6) 4)) (aH (bq (ae 6) 4))=DH:=by kernel_rfl
noncomputable abbrev Wk(w:Wo)(ca:Addr->Sp->Prop):bD w:={ ca:=ca }
def Lp(w:Wo)(ca:Addr->Sp->Prop)(e:En)(n:Nat)(x:Addr)(M:Mp):Prop:=∀u v z,jA (E.w (Wk w ca).wd nm.aq (.fld (.v 0) "waiting")).2 (B.w (Wk w ca).wd nm.aq (DF (ng DH))) e n [some (.ref x),u,v,z] M
theorem turn(O:Lw w){ca:Addr->Sp->Prop}{e:En}{n:Nat}{M0:Mp}{x a b:Addr}{ws fs:List D}{f:Addr}{sp:Sp}{qd r:D}(hc:ca f sp)(W:Wc (w.ca 0) M0 x a b)
  (h:∀Q:QK,(∀d M',Lp w ca e n x M'->Q d M')->sp [.ref x,qd,r] (Wm M0 a b ws fs) Q X0):Lp w ca e (n+1) x (Wm M0 a b (ws++[.tup [.ref f,qd,r]]) fs):=by
 intro u v z;obtain⟨dx,U⟩:=W.gx (ws:=ws++[.tup [.ref f,qd,r]]) (fs:=fs);refine⟨_,dx,_,U,.ref a,O.fw,rfl,⟨_,W.ga,?_⟩⟩;have gm:(!(ws++[D.tup [.ref f,qd,r]]).isEmpty)=true:=by simp
 rw[gm];refine⟨_,dx,_,U,.ref a,O.fw,rfl,⟨rfl,_,W.ga⟩,_,W.ga,.tup [.ref f,qd,r],by simp,rfl,sp,hc,?_⟩;rw[List.dropLast_concat,W.pa];exact h _ λd M' z=>z _ _ _
theorem QD(O:Lw w){ca:Addr->Sp->Prop}{e:En}{n:Nat}{M0:Mp}{x a b:Addr}{fs:List D}(W:Wc (w.ca 0) M0 x a b)(h:∀u v z,e.nx [some (.ref x),u,v,z] (Wm M0 a b [] fs)):Lp w ca e (n+1) x (Wm M0 a b [] fs):=by
 intro u v z;obtain⟨dx,U⟩:=W.gx (ws:=[]) (fs:=fs);exact⟨_,dx,_,U,.ref a,O.fw,rfl,⟨_,W.ga,h u v z⟩⟩
mutual
noncomputable def dn:Qn->Nat
 |.var _=>1 |.tab _=>1 |.num _=>1 |.word _=>1 |.none _=>1
 |.for _ a b=>1+max (dn a) (dn b)
 |.let _ a b=>1+max (dn a) (dn b)
 |.row fs=>1+lh fs
 |.at _ q=>1+dn q
 |.add a b=>1+max (dn a) (dn b)
 |.mul a b=>1+max (dn a) (dn b)
 |.one q=>1+dn q
 |.both a b=>1+max (dn a) (dn b)
 |.times _ q=>1+dn q
 |.aZ a b=>1+max (dn a) (dn b)
 |.same a b=>1+max (dn a) (dn b)
 |.under a b=>1+max (dn a) (dn b)
 |.and a b=>1+max (dn a) (dn b)
 |.or a b=>1+max (dn a) (dn b)
 |.not q=>1+dn q
noncomputable def lh:List (Str×Qn)->Nat
 |[]=>0
 |(_,q)::r=>max (dn q) (lh r)
end
noncomputable def jo:List Qn->Nat
 |[]=>0
 |q::r=>max (dn q) (jo r)
theorem DJ:∀fs:List (Str×Qn),jo (fs.map (·.2))=lh fs
 |[]=>by rw[lh];rfl
 |(x,q)::r=>by rw[lh,<- DJ r];rfl
theorem QE(q:Qn):dn q=1+jo (us q):=by
 cases q with
 |row fs=>rw[dn,us,DJ]
 |_=>simp [dn,us,jo]
theorem j1{m a:Nat}(h:m<=a):1+m<=1+a:=Nat.add_le_add_left h 1
theorem Wl{m n a b:Nat}(h:m<=a)(e:n<=b):max m n<=max a b:=Nat.max_le.mpr ⟨Y9 h (ZI ..),Y9 e (ZQ ..)⟩
theorem j2{m n a b:Nat}(h:m<=a)(e:n<=b):1+max m n<=1+max a b:=j1 (Wl h e)
mutual
theorem bE:∀q:Qn,dn q<=dq q
 |.row fs=>Nat.add_le_add (by decide) (DL fs)
 |.at _ a=>j1 (bE a) |.one a=>j1 (bE a) |.times _ a=>j1 (bE a) |.not a=>j1 (bE a)
 |.add a b=>j2 (bE a) (bE b) |.mul a b=>j2 (bE a) (bE b) |.both a b=>j2 (bE a) (bE b) |.for _ a b=>Nat.add_le_add (by decide) (Wl (bE a) (bE b)) |.aZ a b=>j2 (bE a) (bE b) |.let _ a b=>j2 (bE a) (bE b)
 |.same a b=>j2 (bE a) (bE b) |.under a b=>j2 (bE a) (bE b) |.and a b=>j2 (bE a) (bE b) |.or a b=>j2 (bE a) (bE b)
 |.num _=>Y8 _ |.word _=>Y8 _ |.var _=>Y8 _ |.tab _=>Y8 _ |.none _=>Z0 ..
theorem DL:∀fs:List (Str×Qn),lh fs<=ck fs
 |[]=>Y8 _
 |(_,q)::r=>Wl (bE q) (DL r)
end
theorem QF{q:Qn}(h:∀y,q≠.tab y):wd q≠"table":=by cases q <;> first |exact absurd rfl (h _) |(rw[wd];decide)
theorem dj{z y:Str}{p r:Prop}(n:z≠y)(h:r):if decide (z=y)=true then p else r:=by
 rw[if_neg];exact h;exact λe=>n (of_decide_eq_true e)
theorem QG{C x dx a b:Addr}{M:Mp}{i0 i1:List (Str×D)}{ws fs:List D}(h1:M x=none)(h2:M dx=none)(h3:up (up M dx (.own x)) x (.ins C dx i0) a=none)(h4:up (up M dx (.own x)) x (.ins C dx i0) b=none)(n1:dx≠x)(n2:a≠b):bC M (Wm (up (up (up M dx (.own x)) x (.ins C dx i0)) x (.ins C dx i1)) a b ws fs)/\Wc C (up (up (up M dx (.own x)) x (.ins C dx i0)) x (.ins C dx [("waiting",.ref a),("found",.ref b)])) x a b:=by
 have xa:x≠a:=by rintro rfl;rw[ak]at h3;cases h3
 have xb:x≠b:=by rintro rfl;rw[ak]at h4;cases h4
 have UA:dx≠a:=by rintro rfl;rw[av n1,ak]at h3;cases h3
 have Vs:dx≠b:=by rintro rfl;rw[av n1,ak]at h4;cases h4
 rw[av (ZO xa),av (ZO UA)]at h3;rw[av (ZO xb),av (ZO Vs)]at h4;refine⟨MX (λc hc=>?_) λc e q gm=>?_,⟨dx,ak⟩,n2,xa,xb⟩
 ·unfold Wm;rw[av,av,av,av,av]
  ·rintro rfl;exact hc h2
  ·rintro rfl;exact hc h1
  ·rintro rfl;exact hc h1
  ·rintro rfl;exact hc h3
  ·rintro rfl;exact hc h4
 ·unfold Wm at q;by_cases cb:c=b
  ·subst cb;rw[ak]at q;cases q
  rw[av cb]at q;by_cases ca:c=a
  ·subst ca;rw[ak]at q;cases q
  rw[av ca]at q;by_cases VH:c=x
  ·subst VH;rw[ak]at q;cases q
  rw[av VH,av VH]at q;by_cases cd:c=dx
  ·subst cd;rw[ak]at q;cases q;exact absurd h1 gm
  rw[av cd]at q;exact q
variable{w:Wo}
mutual
noncomputable def ax:Qn->List Str
 |.tab x=>[x]
 |.row fs=>fT fs
 |.at _ q=>ax q
 |.one q=>ax q
 |.times _ q=>ax q
 |.not q=>ax q
 |.add a b=>ax a++ax b
 |.mul a b=>ax a++ax b
 |.both a b=>ax a++ax b
 |.for _ a b=>ax a++ax b
 |.aZ a b=>ax a++ax b
 |.let _ a b=>ax a++ax b
 |.same a b=>ax a++ax b
 |.under a b=>ax a++ax b
 |.and a b=>ax a++ax b
 |.or a b=>ax a++ax b
 |.num _=>[] |.word _=>[] |.var _=>[] |.none _=>[]
noncomputable def fT:List (Str×Qn)->List Str
 |[]=>[]
 |(_,q)::r=>ax q++fT r
end
mutual
def wq:Qn->Prop
 |.row fs=>fs.length<100/\nK fs
 |.at _ q=>wq q
 |.one q=>wq q
 |.times _ q=>wq q
 |.not q=>wq q
 |.add a b=>wq a/\wq b
 |.mul a b=>wq a/\wq b
 |.both a b=>wq a/\wq b
 |.for _ a b=>wq a/\wq b
 |.aZ a b=>wq a/\wq b
 |.let _ a b=>wq a/\wq b
 |.same a b=>wq a/\wq b
 |.under a b=>wq a/\wq b
 |.and a b=>wq a/\wq b
 |.or a b=>wq a/\wq b
 |.num _=>True |.word _=>True |.var _=>True |.none _=>True |.tab _=>True
def nK:List (Str×Qn)->Prop
 |[]=>True
 |(_,q)::r=>wq q/\nK r
end
noncomputable def bA:List Qn->Nat
 |[]=>0
 |q::r=>nq q+bA r
theorem vy:∀{a b:List Qn},bA (a++b)=bA a+bA b
 |[],b=>by rw[aaw,bA];lia
 |q::r,b=>by rw[Z9,bA,bA,vy];lia
theorem DM:∀fs:List (Str×Qn),bA (fs.map (·.2))=cy fs
 |[]=>by rw[cy];rfl
 |(x,q)::r=>by rw[cy,<- DM r];rfl
theorem ik(q:Qn):nq q=1+bA (us q):=by
 cases q with
 |row fs=>rw[nq,us,DM]
 |_=>simp [nq,us,bA,Nat.add_assoc]
theorem DN:∀fs:List (Str×Qn),(fs.map (·.2)).flatMap ax=fT fs
 |[]=>by rw[fT];rfl
 |(x,q)::r=>by rw[fT,<- DN r];rfl
theorem QH{q:Qn}(h:∀x,q≠.tab x):ax q=(us q).flatMap ax:=by
 cases q with
 |tab x=>exact absurd rfl (h x)
 |row fs=>rw[ax,us,DN]
 |_=>simp [ax,us]
theorem DP:∀fs:List (Str×Qn),nK fs->∀p∈fs.map (·.2),wq p
 |[],_,p,h=>by cases h
 |(x,q)::r,hw,p,h=>by
  rw[nK]at hw;rcases List.mem_cons.mp h with e |h
  ·rw[e];exact hw.1
  ·exact DP r hw.2 p h
theorem qp{q:Qn}(h:wq q):(us q).length<100/\∀p∈us q,wq p:=by
 cases q with
 |row fs=>rw[wq]at h;rw[us];exact⟨by simpa using h.1,DP fs h.2⟩
 |_=>simp [us] <;> simpa [wq] using h
structure Fq(S:Str->Option Kd)(q:Qn):Prop where
 w:wq q
 t:∀x∈ax q,∃l,S x=some l
section
variable{S:Str->Option Kd}
theorem f2{a b:Qn}(h:Fq S a)(e:Fq S b):(wq a/\wq b)/\∀x∈ax a++ax b,∃l,S x=some l:=⟨⟨h.w,e.w⟩,λx z=>(List.mem_append.mp z).elim (h.t x) (e.t x)⟩
theorem fj{q a b:Qn}(hw:wq q=(wq a/\wq b))(ht:ax q=ax a++ax b)(h:Fq S a)(e:Fq S b):Fq S q:=⟨hw ▸ (f2 h e).1,ht ▸ (f2 h e).2⟩
theorem vz{G:Sc}{q:Qn}{k:Kd}:Ty S G q k->Fq S q:=
 (Ty.all (P:=λ_ q _=>Fq S q) (L:=λ_ fs _=>nK fs/\∀x∈fT fs,∃l,S x=some l) (C:=λ_ q=>Fq S q)
  ⟨True.intro,λ_ z=>nomatch z⟩ ⟨True.intro,λ_ z=>nomatch z⟩ (λ_=>⟨True.intro,λ_ z=>nomatch z⟩) (λh=>⟨True.intro,λx z=>by rw[List.mem_singleton.mp z];exact⟨_,h⟩⟩) (λ_ _=>⟨True.intro,λ_ z=>nomatch z⟩) (λl _ h=>⟨⟨l,h.1⟩,h.2⟩) (λ_ h _=>⟨h.w,h.t⟩)
  (fj rfl rfl) (fj rfl rfl) (λh=>⟨h.w,h.t⟩) (λ_=>fj rfl rfl) (λh=>⟨h.w,h.t⟩) (λ_=>fj rfl rfl) (fj rfl rfl) (λ_=>fj rfl rfl) ⟨True.intro,λ_ z=>nomatch z⟩ (λh e=>⟨⟨h.w,e.1⟩,λx z=>(List.mem_append.mp z).elim (h.t x) (e.2 x)⟩)
  (fj rfl rfl) (fj rfl rfl) (fj rfl rfl) (fj rfl rfl) (fj rfl rfl) (λh=>⟨h.w,h.t⟩)).1
end
theorem DQ{x:Str}{p:Qn}:x∈ax p ↔ (p=.tab x\/x∈(us p).flatMap ax):=by
 by_cases h:∃y,p=.tab y
 ·obtain⟨y,rfl⟩:=h;simp [ax,us,eq_comm]
 ·rw[QH λy e=>h ⟨y,e⟩];exact⟨.inr,λz=>z.elim (λe=>absurd ⟨x,e⟩ h) id⟩
theorem vA:∀l:List Qn,l.length<=bA l
 |[]=>Y8 _
 |q::r=>by have:=vA r;rw[bA,ik,Zg];lia
inductive Kn:Qn->Qn->Prop
 |rfl {q:Qn}:Kn q q
 |sub {p r q:Qn}:r∈us q->Kn p r->Kn p q
theorem vC{p q:Qn}:Kn p q ↔ p=q\/∃r∈us q,Kn p r:=⟨λh=>by
 cases h with
 |rfl=>exact .inl rfl
 |sub a b=>exact .inr ⟨_,a,b⟩,λh=>by
 rcases h with rfl |⟨r,a,b⟩
 ·exact .rfl
 ·exact .sub a b⟩
def fk(p:Qn)(ws:List Qn):Prop:=∃r∈ws,Kn p r
theorem DR{p:Qn}{a b:List Qn}:fk p (a++b) ↔ fk p a\/fk p b:=by
 unfold fk;constructor
 ·rintro⟨r,h,k⟩;rcases List.mem_append.mp h with h |h
  ·exact .inl ⟨r,h,k⟩
  ·exact .inr ⟨r,h,k⟩
 ·rintro (⟨r,h,k⟩ |⟨r,h,k⟩)
  ·exact⟨r,ZG _ h,k⟩
  ·exact⟨r,List.mem_append_right _ h,k⟩
theorem QI{p q:Qn}:fk p [q] ↔ p=q\/fk p (us q):=by
 rw[show fk p (us q) ↔ ∃r∈us q,Kn p r from Iff.rfl,<- vC];unfold fk;simp
theorem DU:∀{l:List Qn}{r:Qn},r∈l->nq r<=bA l
 |q::l,r,h=>by
  rw[bA];rcases List.mem_cons.mp h with e |h
  ·rw[e];exact Z0 ..
  ·exact Y9 (DU h) (Nat.le_add_left ..)
theorem vE{q r:Qn}(h:r∈us q):nq r<nq q:=by
 rw[ik q];have:=DU h;lia
theorem vF{x:Str}:∀(n:Nat)(q:Qn),nq q<=n->(Kn (.tab x) q ↔ x∈ax q)
 | 0,q,h=>by rw[ik]at h;lia
 |n+1,q,h=>by
  rw[vC,DQ];refine or_congr eq_comm ⟨?_,?_⟩
  ·rintro⟨r,a,b⟩;exact List.mem_flatMap.mpr ⟨r,a,(vF n r (by have:=vE a;lia)).mp b⟩
  ·intro z;obtain⟨r,a,b⟩:=List.mem_flatMap.mp z;exact⟨r,a,(vF n r (by have:=vE a;lia)).mpr b⟩
noncomputable def QJ:B:=.cons (.ret (.v 1)) .nil
noncomputable def DV:B:=.cons (.mO (.v 2) (.cons (.set (.one 3) (.mt .pop (.v 2) .nil)) (.cons (.ex (.mt .append (.v 1) (.cons (.v 3) .nil))) (.cons (.ex (.mt .extend (.v 2) (.cons (.call 0 (.cons (.v 3) .nil)) .nil))) .nil)))) QJ
noncomputable def QL:B:=.cons (.set (.one 2) (.lst (.cons (.v 0) .nil))) DV
noncomputable def QO:B:=.cons (.set (.one 1) (.lst .nil)) QL
theorem QP:aO ["question","found","waiting","part"] ["question"] (ao (ae 3)):=⟨rfl,rfl,rfl,by decide +kernel,rfl,by decide +kernel,by decide +kernel⟩
theorem QQ:aQ nm 40 ["question","found","waiting","part"] (ao (ae 3)) (aH (ae 3))=QO:=by kernel_rfl
def vG:Sp:=λds M Q _=>∃q,ds=[qD q]/\wq q/\nq q<1000000/\∀kl:List Qn,(∀p,p∈kl ↔ Kn p q)->kl.length<=nq q->Q (.lst (kl.map qD)) M
noncomputable abbrev vH(w:Wo):bD w:={ cs:=[(0,nJ)] }
theorem QR{M:Mp}{q0:Qn}{a b:Addr}{e:En}(hq:nq q0<1000000)(ne:a≠b)(h:∀ v(kl:List Qn),(∀ p,p∈kl ↔ Kn p q0)->kl.length<=nq q0->e.nx [some (qD q0),some (.ref a),some (.ref b),v] (Wm M a b (kl.map qD) [])):
  ∀(n:Nat)(ws kl:List Qn)v,bA ws=n->(∀p∈ws,wq p)->(∀p,(p∈kl\/fk p ws) ↔ Kn p q0)->kl.length+n<=nq q0 ->
   jA (E.w (vH w).wd nm.aq (.v 2)).2 (B.w (vH w).wd nm.aq (DF (ng DV))) e (n+1) [some (qD q0),some (.ref a),some (.ref b),v] (Wm M a b (kl.map qD) (ws.map qD)):=by
 have ga:∀{ws fs:List D},Wm M a b ws fs a=some (.lst ws):=by intro ws fs;unfold Wm;rw[av ne];exact ak
 have pa:∀{ws fs i7:List D},up (Wm M a b ws fs) a (.lst i7)=Wm M a b i7 fs:=by intro ws fs i7;unfold Wm;rw[fQ (ZO ne),_root_.N.bj]
 intro n
 induction n with
 |zero=>
  intro ws kl v e1 hw ht hl;have:ws=[]:=by
   cases ws with
   |nil=>rfl
   |cons p r=>rw[bA,ik]at e1;lia
  subst this;exact⟨_,Wm.gb,h v kl (λx=>by have:=ht x;simpa [fk] using this) (by lia)⟩
 |succ n ih=>
  intro ws kl v e1 hw ht hl;rcases List.eq_nil_or_concat ws with rfl |⟨init,p,rfl⟩
  ·cases e1
  rw[List.concat_eq_append]at e1 hw ht ⊢;have wp:=qp (hw p (by simp));rw[vy,bA,bA,ik p]at e1;have hn:(!((init++[p]).map qD).isEmpty)=true:=by simp
  refine⟨_,Wm.gb,?_⟩;rw[hn];have bl:=vA (us p);have bi:=vA init;refine⟨⟨rfl,_,Wm.gb⟩,_,Wm.gb,qD p,by simp,?_⟩;rw[Wm.pb,Zt,Zh,Z',List.dropLast_concat];refine⟨⟨rfl,_,ga⟩,_,ga,Zd (by rw[Y6];lia:_<=1000000) (by decide),?_⟩;rw[pa];refine⟨⟨rfl,_,Wm.gb⟩,p,rfl,wp.1,_,Wm.gb,Y9 (by rw[Y6,Y6];lia:_<=2000000) (by decide),?_⟩;have UH:kl.map qD++[qD p]=(kl++[p]).map qD:=by simp
  rw[Wm.pb,<- Zt,UH];refine ih (init++us p) (kl++[p]) _ (by rw[vy];lia) (λr hr=>?_) (λx=>?_) (by rw[Zi,List.length_singleton];lia)
  ·rcases List.mem_append.mp hr with z |z
   ·exact hw r (ZG _ z)
   ·exact wp.2 r z
  ·rw[<- ht x,DR,DR,aa5,List.mem_singleton,QI];constructor
   ·rintro ((z |z) |z |z)
    ·exact .inl z
    ·exact .inr (.inr (.inl z))
    ·exact .inr (.inl z)
    ·exact .inr (.inr (.inr z))
   ·rintro (z |z |z |z)
    ·exact .inl (.inl z)
    ·exact .inr (.inl z)
    ·exact .inl (.inr z)
    ·exact .inr (.inr z)
theorem DW(O:Lw w):FO w 1 2 vG:=by
 refine bh O.ok O.hn _ ⟨"knots",ae 3,["question"]⟩ (by rw[O.hd];rfl) (vH w) { cs:=⟨⟨1,by decide,qo O⟩,trivial⟩ } QP QQ λds M Q _ h=>?_;obtain⟨q,rfl,hw,hn,h⟩:=h;refine⟨rfl,Zj _,.inr λa ha=>⟨l1,.inr λb hb=>⟨nq q+1,?_⟩⟩⟩;have ne:a≠b:=by rintro rfl;rw[ak]at hb;cases hb
 rw[av (ZO ne)]at hb;refine QR (M:=M) hn ne ?_ (nq q) [q] [] _ (by rw[bA,bA];lia) (λp hp=>by rw[List.mem_singleton.mp hp];exact hw) (λx=>by simp [fk]) (by simp);intro v kl e2 e3;refine BX (M:=M) ?_ ha (by unfold Wm;rw[av ne];exact ak) (h kl e2 e3);exact kM (kM .rfl ha rfl) hb rfl
noncomputable def tn:Qn->Option Str
 |.tab x=>some x
 |_=>none
theorem DX{kl:List Qn}{x:Str}:x∈kl.filterMap tn ↔ Qn.tab x∈kl:=by
 rw[List.mem_filterMap];constructor
 ·rintro⟨g,h1,h2⟩;cases g <;> cases h2;exact h1
 ·exact λh=>⟨_,h,rfl⟩
noncomputable def QT:B:=(.cons (.ret (.sset (.lc 1 [] (.one 0) (.seq (.call 1 (.cons (.v 0) .nil))) (.cmp .Eq (.ix (.v 0) (.c (.int 0))) (.c (.str "table"))) (.ix (.v 0) (.c (.int 1)))))) .nil)
theorem QU:aO ["question"] ["question"] (ao (ae 4)):=⟨rfl,rfl,rfl,by decide +kernel,rfl,by decide +kernel,by decide +kernel⟩
theorem QV:aQ nm 40 ["question"] (ao (ae 4)) (aH (ae 4))=QT:=by kernel_rfl
def DY:Sp:=λds M Q _=>∃(q:Qn)(N:List Str),ds=[qD q]/\wq q/\nq q<1000000/\N.length<64/\(∀x∈ax q,x∈N)/\∀ys:List Str,ys.Nodup->(∀x,x∈ys ↔ x∈ax q)->Q (.lst (ys.map D.str)) M
theorem QW(O:Lw w):FO w 2 3 DY:=by
 refine bh O.ok O.hn _ ⟨"tables",ae 4,["question"]⟩ (by rw[O.hd];rfl) { cs:=[(1,vG)] } { cs:=⟨⟨2,by decide,DW O⟩,trivial⟩ } QU QV λds M Q _ h=>?_;obtain⟨q,N,rfl,hw,hn,hN,hs,h⟩:=h;refine⟨rfl,q,rfl,hw,hn,λkl m6 hl=>?_⟩;have hk:∀x,Qn.tab x∈kl ↔ x∈ax q:=λx=>(m6 _).trans (vF _ q (Y8 _));refine dQ (λxs ys M'=>M'=M/\∃rest pre,xs=rest.map qD/\kl=pre++rest/\ys=(pre.filterMap tn).map D.str) ?_ ?_ _ _ _ ⟨rfl,kl,[],rfl,rfl,rfl⟩
 ·rintro ys M' ⟨rfl,rest,pre,e1,e2,rfl⟩;have:rest=[]:=by simpa using e1.symm
  subst this;rw[Zu]at e2;subst e2;have ln:(kl.filterMap tn).length<=kl.length:=List.length_filterMap_le ..;exact⟨trivial,Zd (by rw[Y6];lia:_<=1000000) (by decide),.inl ⟨kl.filterMap tn,N,rfl,hN,λx U=>hs x ((hk x).mp (DX.mp U)),λys nd hy _=>.inl (aC (h ys nd λx=>(hy x).trans (DX.trans (hk x))))⟩⟩
 ·rintro x xs ys M' ⟨rfl,rest,pre,e1,e2,rfl⟩;cases rest with
  |nil=>cases e1
  |cons g rest=>
   cases e1;have ln:(pre.filterMap tn).length<=pre.length:=List.length_filterMap_le ..;have lp:pre.length<=kl.length:=(by rw[e2];simp);refine⟨trivial,Zd (by rw[Y6];lia:_<=1000000) (by decide),λN' gO=>?_⟩;by_cases hg:∃x,g=.tab x
   ·obtain⟨x,rfl⟩:=hg;exact⟨_,rfl,aj (aJ (by decide) ⟨_,rfl,gO _ _ ⟨rfl,rest,pre++[.tab x],rfl,by rw[e2];simp,by rw[List.filterMap_append,Zt];rfl⟩⟩)⟩
   ·obtain⟨r,hr⟩:=vx g;have hd:=QF λx e=>hg ⟨x,e⟩;have ht:tn g=none:=by cases g <;> first |rfl |exact absurd ⟨_,rfl⟩ hg
    rw[hr];exact⟨_,uU,aj (dj hd (gO _ _ ⟨rfl,rest,pre++[g],rfl,by rw[e2];simp,by rw[List.filterMap_append,List.filterMap_cons,ht,List.filterMap_nil,Zu]⟩))⟩
noncomputable def Ap:Qn->Option Qn
 |.one q=>some q
 |.at _ q=>some q
 |.let _ a _=>some a
 |_=>none
def Ev(q:Qn):Prop:=∀p,Kn p q->∀r,Ap p=some r->ax r=[]
theorem Ev.sub{q r:Qn}(h:Ev q)(hr:r∈us q):Ev r:=λp k=>h p (.sub hr k)
theorem Ev.ae{q r:Qn}(h:Ev q)(e:Ap q=some r):ax r=[]:=h q .rfl r e
theorem Ev.QX{q:Qn}(h:∀r∈us q,Ev r)(t:∀r,Ap q=some r->ax r=[]):Ev q:=λp k=>by
 rcases vC.mp k with rfl |⟨r,a,b⟩
 ·exact t
 ·exact h r a p b
theorem Ev.QY{q:Qn}(h:us q=[])(e:Ap q=none):Ev q:=.QX (by rw[h];exact λ_ z=>(nomatch z)) (by rw[e];exact λ_ z=>(nomatch z))
theorem cT{a b:Qn}:a∈[a,b]:=Za
theorem cC{a b:Qn}:b∈[a,b]:=Zc _ Za
theorem il{α:Type}{a b:List α}(h:a=[])(e:b=[]):a++b=[]:=by rw[h,e];rfl
theorem vJ{S:Str->Option Kd}:(∀{G:Sc}{q:Qn}{k:Kd},Ty S G q k->Ev q->(k=.num\/k=.word)->ax q=[])/\∀{G:Sc}{q:Qn},b4 S G q->Ev q->ax q=[]:=by
 have nb:∀{k:Kd}{P:Prop},(Kd.ag k=.num\/Kd.ag k=.word)->P:=λz=>by rcases z with z |z <;> cases z
 have A:=Ty.all (S:=S) (P:=λ_ q k=>Ev q->(k=.num\/k=.word)->ax q=[]) (L:=λ_ _ _=>True) (C:=λ_ q=>Ev q->ax q=[])
  (λ_ _=>rfl) (λ_ _=>rfl) (λ_ _ _=>rfl) (λ_ _=>nb) (λ_ _ _=>nb) (λ_ _ _ _ z=>by rcases z with z |z <;> cases z)
  (λ{_ f q _ _}_ _ _ h _=>(Ev.ae (q:=.at f q) h (r:=q) rfl:ax q=[])) (λha hb h _=>il (ha (h.sub cT) (.inl rfl)) (hb (h.sub cC) (.inl rfl))) (λha hb h _=>il (ha (h.sub cT) (.inl rfl)) (hb (h.sub cC) (.inl rfl)))
  (λ_ _=>nb) (λ_ _ _ _=>nb) (λ_ _=>nb) (λ_ _ _ _=>nb) (λ_ _ _=>nb) (λ_ _ hb h z=>il (h.ae rfl) (hb (h.sub cC) z)) trivial (λ_ _=>trivial)
  (λha hb h=>il (ha (h.sub cT) (.inl rfl)) (hb (h.sub cC) (.inl rfl))) (λha hb h=>il (ha (h.sub cT) (.inr rfl)) (hb (h.sub cC) (.inr rfl))) (λha hb h=>il (ha (h.sub cT) (.inl rfl)) (hb (h.sub cC) (.inl rfl)))
  (λha hb h=>il (ha (h.sub cT)) (hb (h.sub cC))) (λha hb h=>il (ha (h.sub cT)) (hb (h.sub cC))) (λha h=>ha (h.sub (List.mem_singleton.mpr rfl)))
 exact⟨A.1,A.2.2⟩
noncomputable def aD(ns:List Str):Qn->Nat
 |.tab x=>if x∈ns then 1 else 0
 |.both a b=>max (aD ns a) (aD ns b)
 |.for _ a b=>aD ns a+aD ns b
 |.times _ a=>aD ns a
 |.aZ _ a=>aD ns a
 |.let _ _ b=>aD ns b
 |_=>0
variable{w:Wo}
noncomputable def uI(w:Wo)(q:Qn)(r:D):D:=.tup [w.gv.getD 5 .az,qD q,r]
noncomputable def Vu(w:Wo)(q:Qn)(r:D):D:=.tup [w.gv.getD 6 .az,qD q,r]
noncomputable def QZ:B:=(.cons (.ex (.hJ 1 (.v 0) (.cons (.g 6) (.cons (.v 1) (.cons (.v 2) .nil))))) (.cons (.loop (.one 3) (.tT (.call 0 (.cons (.v 1) .nil))) (.cons (.ex (.hJ 1 (.v 0) (.cons (.g 5) (.cons (.v 3) (.cons (.v 2) .nil))))) .nil)) .nil))
theorem Q3:aO ["walk","question","told_of","part"] ["walk","question","told_of"] (ao (ae 8)):=⟨rfl,rfl,rfl,by decide +kernel,rfl,by decide +kernel,by decide +kernel⟩
theorem Q4:aQ nm 40 ["walk","question","told_of","part"] (ao (ae 8)) (aH (ae 8))=QZ:=by kernel_rfl
noncomputable def Q5:B:=(.cons (.ex (.hJ 2 (.v 0) (.cons (.app (.v 2) (.cons (.v 1) (.cons (.hJ 3 (.v 0) (.cons (.bi .len (.cons (.call 0 (.cons (.v 1) .nil)) .nil)) .nil)) .nil))) .nil))) .nil)
theorem Q6:aO ["walk","question","told_of"] ["walk","question","told_of"] (ao (ae 9)):=⟨rfl,rfl,rfl,by decide +kernel,rfl,by decide +kernel,by decide +kernel⟩
theorem Q7:aQ nm 40 ["walk","question","told_of"] (ao (ae 9)) (aH (ae 9))=Q5:=by kernel_rfl
noncomputable def Q8:B:=.cons (.ret (.hJ 4 (.v 2) .nil)) .nil
noncomputable def Q9:B:=.cons (.ex (.hJ 1 (.v 2) (.cons (.g 5) (.cons (.v 0) (.cons (.v 1) .nil))))) Q8
noncomputable def Ra:B:=.cons (.set (.one 2) (.new 0 .nil)) Q9
theorem Rb:aO ["question","told_of","walk"] ["question","told_of"] (ao (ae 7)):=⟨rfl,rfl,rfl,by decide +kernel,rfl,by decide +kernel,by decide +kernel⟩
theorem Rc:aQ nm 40 ["question","told_of","walk"] (ao (ae 7)) (aH (ae 7))=Ra:=by kernel_rfl
def DZ(w:Wo):Sp:=λds M Q _=>∃M0 x a b ws fs q r,ds=[.ref x,qD q,r]/\M=Wm M0 a b ws fs/\Wc (w.ca 0) M0 x a b/\ws.length<1000000/\(us q).length<100/\Q .az (Wm M0 a b (ws++[Vu w q r]++((us q).map λp=>uI w p r).reverse) fs)
theorem Rd(O:Lw w):FO w 4 2 (DZ w):=by
 refine bh O.ok O.hn _ ⟨"unfold",ae 8,["walk","question","told_of"]⟩ (by rw[O.hd];rfl) { cs:=[(0,nJ)],ms:=[(1,vw w)] } { cs:=⟨⟨1,by decide,qo O⟩,trivial⟩,ms:=⟨⟨1,by decide,Dy O⟩,trivial⟩ } Q3 Q4 λds M Q _ h=>?_;obtain⟨M0,x,a,b,ws,fs,q,r,rfl,rfl,W,vK,hu,h⟩:=h;have m2:w.ca 0=w.mc 1:=(O.mc _ (by decide)).symm;obtain⟨dx,U⟩:=W.gx (ws:=ws) (fs:=fs);refine⟨rfl,_,dx,_,U,m2,kO (by decide +kernel) (by decide +kernel),x,a,b,dx,_,_,_,ws,rfl,U,W.ga,aaQ vK (by decide),?_⟩;rw[W.pa];refine⟨q,rfl,hu,?_⟩;refine cZ (λxs τ M'=>∃rest done v,us q=rest++done/\xs=(rest.map qD).reverse/\τ=[some (.ref x),some (qD q),some r,v]/\M'=Wm M0 a b (ws++[Vu w q r]++(done.map λp=>uI w p r).reverse) fs) ?_ ?_ _ _ _ ⟨us q,[],none,by simp,rfl,rfl,by rw[Z',List.reverse_nil,Zu];rfl⟩
 ·rintro τ M' ⟨rest,done,v,e1,e2,rfl,rfl⟩;have:rest=[]:=by
   have:=congrArg aaI e2;simpa using this.symm
  subst this;rw[aaw]at e1;rw[e1]at h;exact⟨trivial,.rfl (aC h)⟩
 ·rintro y xs τ M' ⟨rest,done,v,e1,e2,rfl,rfl⟩;refine⟨trivial,?_⟩;rcases List.eq_nil_or_concat rest with z |⟨r',q',z⟩
  ·subst z;cases e2
  subst z;rw[List.concat_eq_append]at e1 e2;rw[Zt,Zh,Z',abc]at e2;cases e2;have hlen:(us q).length=r'.length+1+done.length:=by rw[e1];simp;lia
  obtain⟨UX,hy⟩:=W.gx (ws:=ws++[Vu w q r]++(done.map λp=>uI w p r).reverse) (fs:=fs);refine λN hN=>⟨_,UX,_,hy,m2,kO (by decide +kernel) (by decide +kernel),x,a,b,UX,_,_,_,_,rfl,hy,W.ga,Zd (by simp;lia:_<=2000000) (by decide),hN _ _ ⟨r',q'::done,_,by rw[e1];simp,rfl,rfl,?_⟩⟩;rw[W.pa,Zh,aaM,<- Zl];rfl
def Gd(g:Qn->D)(P:Sp):Prop:=∀{q:Qn}{M:Mp}{Q:QK}{E:XQ},(us q).length<100->Q (g q) M->P [qD q,.lst ((us q).map g)] M Q E
def D0(w:Wo)(f:Addr)(g:Qn->D):Sp:=λds M Q _=>∃M0 x a b ws fs q,ds=[.ref x,qD q,.ref f]/\M=Wm M0 a b ws (fs++(us q).map g)/\Wc (w.ca 0) M0 x a b/\fs.length<1000000/\(us q).length<100/\Q .az (Wm M0 a b ws (fs++[g q]))
theorem Rg(O:Lw w){f:Addr}{g:Qn->D}{P:Sp}(hf:eU w.G 2 f P)(hg:Gd g P):FO w 5 3 (D0 w f g):=by
 refine bh O.ok O.hn _ ⟨"fold",ae 9,["walk","question","told_of"]⟩ (by rw[O.hd];rfl) { cs:=[(0,nJ)],ms:=[(2,Dz w),(3,DB w)],ca:=λh sp=>h=f/\sp=P } { cs:=⟨⟨1,by decide,qo O⟩,trivial⟩,ms:=⟨⟨1,by decide,Qx O⟩,⟨1,by decide,Qy O⟩,trivial⟩,ca:=?_ } Q6 Q7 λds M Q _ h=>?_
 ·rintro _ sp ⟨rfl,rfl⟩;exact hf
 obtain⟨M0,x,a,b,ws,fs,q,rfl,rfl,W,Re,hu,h⟩:=h;have m3:w.ca 0=w.mc 2:=(O.mc _ (by decide)).symm;have m4:w.ca 0=w.mc 3:=(O.mc _ (by decide)).symm;obtain⟨dx,U⟩:=W.gx (ws:=ws) (fs:=fs++(us q).map g);obtain⟨UX,hy⟩:=W.gx (ws:=ws) (fs:=fs);refine⟨rfl,_,dx,_,U,m3,kO (by decide +kernel) (by decide +kernel),_,⟨rfl,rfl⟩,_,dx,_,U,m4,kO (by decide +kernel) (by decide +kernel),q,rfl,hu,x,a,b,dx,_,fs,(us q).map g,rfl,U,Wm.gb,by simp,by simp;lia,?_⟩;rw[Wm.pb];refine hg hu ⟨x,a,b,UX,_,fs,rfl,hy,Wm.gb,aaQ Re (by decide),?_⟩;rw[Wm.pb];exact aC h
def nL(w:Wo)(f:Addr)(g:Qn->D)(h:Addr)(sp:Sp):Prop:=(h=gF w "unfold"/\sp=DZ w)\/(h=gF w "fold"/\sp=D0 w f g)
theorem Rh(O:Lw w){q:Qn}{r:D}:uI w q r=.tup [.ref (gF w "unfold"),qD q,r]:=by unfold uI;rw[O.W6]
theorem Ri(O:Lw w){q:Qn}{r:D}:Vu w q r=.tup [.ref (gF w "fold"),qD q,r]:=by unfold Vu;rw[O.go]
theorem D1(O:Lw w){f:Addr}{g:Qn->D}{M0:Mp}{x a b:Addr}(W:Wc (w.ca 0) M0 x a b){e:En}:∀(m:Nat)(q:Qn),nq q<=m->wq q->∀{n:Nat}{ws fs:List D},ws.length+110 * dn q<900000->fs.length+110 * dn q<900000 ->
  Lp w (nL w f g) e n x (Wm M0 a b ws (fs++[g q]))->Lp w (nL w f g) e (n+2 * nq q) x (Wm M0 a b (ws++[uI w q (.ref f)]) fs)
 | 0,q,h,_,_,_,_,_,_,_=>by rw[ik]at h;lia
 |m+1,q,h,hw,n,ws,fs,lw,lf,k=>by
  obtain⟨hu,vK⟩:=qp hw;have hd:=QE q;rw[ik]at h ⊢;rw[show n+2 * (1+bA (us q))=(n+1+2 * bA (us q))+1 by lia,Rh O];refine turn O (.inl ⟨rfl,rfl⟩) W λQ hQ=>⟨M0,x,a,b,ws,fs,q,_,rfl,rfl,W,by lia,hu,hQ _ _ ?_⟩;have list:∀(qs:List Qn),bA qs<=m->(∀ p∈qs,wq p)->∀{n:Nat}{ws fs:List D},ws.length+qs.length+110 * jo qs<900000->fs.length+qs.length+110 * jo qs<900000 ->
    Lp w (nL w f g) e n x (Wm M0 a b ws (fs++qs.map g))->Lp w (nL w f g) e (n+2 * bA qs) x (Wm M0 a b (ws++(qs.map λp=>uI w p (.ref f)).reverse) fs):=by
   intro qs
   induction qs with
   |nil=>intro _ _ n ws fs _ _ k;rw[Z',Zu]at k;rw[Z',List.reverse_nil,Zu];exact k
   |cons p r ih=>
    intro hm D2 n ws fs lw lf k;rw[bA]at hm;rw[jo,Zg]at lw lf;have n1:=ik p;rw[Zh,aaM,<- Zl,bA,show n+2 * (nq p+bA r)=(n+2 * bA r)+2 * nq p by lia];refine D1 O W m p (by lia) (D2 p Za) (by simp;lia) (by lia) ?_;refine ih (by lia) (λz hz=>D2 z (Zc _ hz)) (by lia) (by simp;lia) ?_;rw[Zl];exact k
  refine list (us q) (by lia) vK (by simp;lia) (by lia) ?_;rw[Ri O];exact turn O (.inr ⟨rfl,rfl⟩) W λQ hQ=>⟨M0,x,a,b,ws,fs,q,rfl,rfl,W,by lia,hu,hQ _ _ k⟩
def D3(w:Wo)(f:Addr)(g:Qn->D):Sp:=λds M Q _=>∃M0 x a b q,ds=[.ref x]/\M=Wm M0 a b [uI w q (.ref f)] []/\Wc (w.ca 0) M0 x a b/\wq q/\dn q<500/\Q (g q) (Wm M0 a b [] [])
theorem Rj(O:Lw w){f:Addr}{g:Qn->D}{P:Sp}(hf:eU w.G 2 f P)(hg:Gd g P):d2 w 4 4 (D3 w f g):=by
 refine mW O.ok O.hn _ ⟨"run",(bq (ae 6) 4),["self"]⟩ (by rw[O.hms];rfl) (Wk w (nL w f g)) { cs:=trivial,ca:=?_ } QB QC λds M Q _ h=>?_
 ·rintro _ sp (⟨rfl,rfl⟩ |⟨rfl,rfl⟩)
  ·exact FO.DD ((Rd O).mono (by decide)) (d:=⟨"unfold",ae 8,["walk","question","told_of"]⟩) (by rw[O.hd];rfl)
  ·exact FO.DD (Rg O hf hg) (d:=⟨"fold",ae 9,["walk","question","told_of"]⟩) (by rw[O.hd];rfl)
 obtain⟨M0,x,a,b,q,rfl,rfl,W,hw,hd,h⟩:=h;refine⟨rfl,1+2 * nq q,?_⟩;refine D1 O W (nq q) q (Y8 _) hw (ws:=[]) (fs:=[]) (n:=1) (by simp;lia) (by simp;lia) (QD O W λ_ _ _=>?_) _ _ _;obtain⟨dx,U⟩:=W.gx (ws:=[]) (fs:=[]++[g q]);refine⟨_,dx,_,U,.ref b,O.Vq,rfl,⟨rfl,_,Wm.gb⟩,_,Wm.gb,g q,rfl,?_⟩;rw[Wm.pb];exact aC h
def Rl(f:Addr)(g:Qn->D):Sp:=λds M Q _=>∃q,ds=[qD q,.ref f]/\wq q/\dn q<500/\Q (g q) M
theorem Rm(O:Lw w){f:Addr}{g:Qn->D}{P:Sp}(hf:eU w.G 2 f P)(hg:Gd g P):FO w 3 5 (Rl f g):=by
 refine bh O.ok O.hn _ ⟨"folded",ae 7,["question","told_of"]⟩ (by rw[O.hd];rfl) { ms:=[(1,vw w),(4,D3 w f g)],ci:=[(0,0,DC w)] } { cs:=trivial,ms:=⟨⟨1,by decide,Dy O⟩,⟨4,by decide,Rj O hf hg⟩,trivial⟩,ci:=⟨⟨O.mc _ (by decide),by rw[O.hms];rfl,1,by decide,QA O⟩,trivial⟩ } Rb Rc λds M Q _ h=>?_;obtain⟨q,rfl,hw,hd,h⟩:=h;have m2:w.ca 0=w.mc 1:=(O.mc _ (by decide)).symm;have Yz:w.ca 0=w.mc 4:=(O.mc _ (by decide)).symm;refine⟨rfl,λx dx U Rn nd=>⟨x,dx,rfl,ak,λa b ha hb ne=>⟨rfl,?_⟩⟩⟩;obtain⟨sb,W⟩:=QG (i1:=[("waiting",.ref a),("found",.ref b)]) (ws:=[]) (fs:=[]) U Rn ha hb nd ne;obtain⟨UX,hy⟩:=W.gx (ws:=[]) (fs:=[]);refine⟨_,UX,_,hy,m2,kO (by decide +kernel) (by decide +kernel),x,a,b,UX,_,_,_,[],rfl,hy,W.ga,by decide,?_⟩;rw[W.pa];obtain⟨YA,hz⟩:=W.gx (ws:=[]++[.tup [w.gv.getD 5 .az,qD q,.ref f]]) (fs:=[]);exact⟨_,YA,_,hz,Yz,kO (by decide +kernel) (by decide +kernel),_,x,a,b,q,rfl,rfl,W,hw,hd,uT sb h⟩
variable{w:Wo}
theorem lj{s t u z:Str}{M:Mp}{k:Bool->Prop}{b:Bool}(hb:ek (.str z) [D.str s,D.str t,D.str u]=b)(q:k b):iL (.str z) (.tup [.str s,.str t,.str u]) M k:=by
 refine⟨⟨rfl,rfl,by rw[aW,aW,aW,aW,aI,aI,aI];decide,?_⟩⟩;rw[hb];exact q
theorem Kn.wq{p q:Qn}(h:Kn p q):NQ.nq p<=NQ.nq q/\(K97.wq q->K97.wq p)/\∀x∈ax p,x∈ax q:=by
 induction h with
 |rfl=>exact⟨Y8 _,id,λ_ z=>z⟩
 |sub hr _ ih=>exact⟨Y9 ih.1 (aaj (vE hr)),λz=>ih.2.1 ((qp z).2 _ hr),λx z=>DQ.mpr (.inr (List.mem_flatMap.mpr ⟨_,hr,ih.2.2 x z⟩))⟩
theorem Kn.tr{p q r:Qn}(h:Kn q r)(g:Kn p q):Kn p r:=by
 induction h with
 |rfl=>exact g
 |sub hr _ ih=>exact .sub hr ih
theorem Ro{p r:Qn}(h:Ap p=some r):∃s,us p=r::s:=by
 cases p <;> cases h <;> exact⟨_,rfl⟩
theorem Rq(p:Qn):ek (.str (wd p)) [D.str "one",D.str "at",D.str "let"]=(Ap p).isSome:=by
 cases p <;> (rw[wd];first |(show _=true;decide +kernel) |(show _=false;decide +kernel))
noncomputable def Rr:B:=(.cons (.set (.one 1) (.lc 1 [] (.one 0) (.seq (.call 1 (.cons (.v 0) .nil))) (.cmp .In (.ix (.v 0) (.c (.int 0))) (.tup (.cons (.c (.str "one")) (.cons (.c (.str "at")) (.cons (.c (.str "let")) .nil))))) (.ix (.call 0 (.cons (.v 0) .nil)) (.c (.int 0))))) (.cons (.ret (.not (.bi .any (.cons (.lc 1 [] (.one 0) (.seq (.v 1)) .ar (.call 2 (.cons (.v 0) .nil))) .nil)))) .nil))
theorem Rt:aO ["question","apart"] ["question"] (ao (ae 11)):=⟨rfl,rfl,rfl,by decide +kernel,rfl,by decide +kernel,by decide +kernel⟩
theorem Ru:aQ nm 40 ["question","apart"] (ao (ae 11)) (aH (ae 11))=Rr:=by kernel_rfl
def D4:Sp:=λds M Q _=>∃(q:Qn)(N:List Str),ds=[qD q]/\wq q/\nq q<1000000/\N.length<64/\(∀x∈ax q,x∈N)/\∀e:Bool,(e=true ↔ Ev q)->Q (.bl e) M
noncomputable abbrev Rv(w:Wo):bD w:={ cs:=[(0,nJ),(1,vG),(2,DY)] }
theorem Rw(O:Lw w):FO w 6 4 D4:=by
 refine bh O.ok O.hn _ ⟨"is_even",ae 11,["question"]⟩ (by rw[O.hd];rfl) (Rv w) { cs:=⟨⟨1,by decide,qo O⟩,⟨2,by decide,DW O⟩,⟨3,by decide,QW O⟩,trivial⟩ } Rt Ru λds M Q _ h=>?_;obtain⟨q,N,rfl,hw,hn,hN,hs,h⟩:=h;refine⟨rfl,q,rfl,hw,hn,λkl hk hl=>?_⟩;refine dQ (λxs ys M'=>M'=M/\∃rest pre,xs=rest.map qD/\kl=pre++rest/\ys=(pre.filterMap Ap).map qD) ?_ ?_ _ _ _ ⟨rfl,kl,[],rfl,rfl,rfl⟩
 ·rintro ys M' ⟨rfl,rest,pre,e1,e2,rfl⟩;have:rest=[]:=by simpa using e1.symm
  subst this;rw[Zu]at e2;subst e2;have ln:(kl.filterMap Ap).length<=kl.length:=List.length_filterMap_le ..;have er:(1000000:Nat)<sizeLine:=by decide
  refine⟨trivial,Zd (by rw[Y6];lia:_<=1000000) er,.inl ?_⟩;have an:∀p∈kl.filterMap Ap,Kn p q:=λp hp=>by
   obtain⟨g,h1,h2⟩:=List.mem_filterMap.mp hp;obtain⟨s,e⟩:=Ro h2;exact ((hk g).mp h1).tr (.sub (by rw[e];exact Za) .rfl)
  refine dQ (λxs ys M1=>M1=M'/\∃(rest pre:List Qn)(ls:List (List D)),xs=rest.map qD/\kl.filterMap Ap=pre++rest/\ys=ls.map D.lst/\ls.length=pre.length/\((ls.any λl=>!l.isEmpty)=false ↔ ∀p∈pre,ax p=[])) ?_ ?_ _ _ _ ⟨rfl,kl.filterMap Ap,[],[],rfl,rfl,rfl,rfl,by simp⟩
  ·rintro ys M1 ⟨rfl,rest,pre,ls,e1,e2,rfl,e3,eE⟩;have:rest=[]:=(by simpa using e1.symm);subst this;rw[Zu]at e2;rw[<- e2]at eE e3;refine⟨trivial,Zd (by rw[Y6];lia:_<=1000000) er,.inl ⟨ls,rfl,aC (h _ ?_)⟩⟩;rw[Bool.not_eq_true',eE];constructor
   ·intro z p hp r hr;exact z r (List.mem_filterMap.mpr ⟨p,(hk p).mpr hp,hr⟩)
   ·intro z r hr;obtain⟨p,h1,h2⟩:=List.mem_filterMap.mp hr;exact z p ((hk p).mp h1) r h2
  ·rintro x xs ys M1 ⟨rfl,rest,pre,ls,e1,e2,rfl,e3,eE⟩;cases rest with
   |nil=>cases e1
   |cons g rest=>
    cases e1;have Ve:=an g (by rw[e2];simp);obtain⟨w1,w2,w3⟩:=Ve.wq;have lp:pre.length<=(kl.filterMap Ap).length:=(by rw[e2];simp);refine⟨trivial,Zd (by rw[Y6];lia:_<=1000000) er,λN' gO=>⟨g,N,rfl,w2 hw,by lia,hN,λx z=>hs x (w3 x z),λzs nd hz=>gO _ _ ⟨rfl,rest,pre++[g],ls++[zs.map D.str],rfl,by rw[e2];simp,by rw[Zt];rfl,by simp [e3],?_⟩⟩⟩;have U0:(zs.map D.str).isEmpty=true ↔ ax g=[]:=by
     rw[List.isEmpty_iff,List.map_eq_nil_iff];constructor
     ·intro e;subst e;exact List.eq_nil_iff_forall_not_mem.mpr λx U=>(ZF ((hz x).mpr U))
     ·intro e;exact List.eq_nil_iff_forall_not_mem.mpr λx U=>by have:=(hz x).mp U;rw[e]at this;exact ZF this
    rw[List.any_append,Bool.or_eq_false_iff,eE,aaF,List.any_nil,Bool.or_false,Bool.not_eq_false',U0];constructor
    ·rintro⟨a,b⟩ p hp;rcases List.mem_append.mp hp with z |z
     ·exact a p z
     ·rw[List.mem_singleton.mp z];exact b
    ·exact λz=>⟨λp hp=>z p (ZG _ hp),z g (by simp)⟩
 ·rintro x xs ys M' ⟨rfl,rest,pre,e1,e2,rfl⟩;cases rest with
  |nil=>cases e1
  |cons g rest=>
   cases e1;have ln:(pre.filterMap Ap).length<=pre.length:=List.length_filterMap_le ..;have lp:pre.length<=kl.length:=(by rw[e2];simp);have Ve:Kn g q:=(hk g).mp (by rw[e2];simp);have hu:=(qp (Ve.wq.2.1 hw)).1;refine⟨trivial,Zd (by rw[Y6];lia:_<=1000000) (by decide),λN' gO=>?_⟩;have put:∀{r:Qn},Ap g=some r->N' ((pre.filterMap Ap).map qD++[qD r]) M':=λ{r}e=>gO _ _ ⟨rfl,rest,pre++[g],rfl,by rw[e2];simp,by rw[List.filterMap_append,Zt,List.filterMap_cons,e];rfl⟩;cases ea:Ap g with
   |some r=>
    cases g <;> cases ea
    all_goals exact⟨_,rfl,l3,lj (b:=true) (by decide +kernel) (aJ rfl ⟨_,rfl,hu,_,rfl,put rfl⟩)⟩
   |none=>
    have no:N' ((pre.filterMap Ap).map qD) M':=gO _ _ ⟨rfl,rest,pre++[g],rfl,by rw[e2];simp,by rw[List.filterMap_append,List.filterMap_cons,ea,List.filterMap_nil,Zu]⟩;have hi:=Rq g;rw[ea]at hi;obtain⟨r,hr⟩:=vx g;rw[hr];exact⟨_,uU,l3,lj hi (ai (by decide) no)⟩
noncomputable def vL:B:=(.cons (.set (.one 3) (.ix (.v 0) (.c (.int 0)))) (.cons (.cond (.cmp .Eq (.v 3) (.c (.str "table"))) (.cons (.ret (.ite (.cmp .In (.ix (.v 0) (.c (.int 1))) (.v 2)) (.c (.int 1)) (.c (.int 0)))) .nil) .nil) (.cons (.cond (.cmp .Eq (.v 3) (.c (.str "both"))) (.cons (.ret (.bi .max (.cons (.v 1) .nil))) .nil) .nil) (.cons (.cond (.cmp .Eq (.v 3) (.c (.str "for"))) (.cons (.ret (.bi .sum (.cons (.v 1) .nil))) .nil) .nil) (.cons (.cond (.cmp .In (.v 3) (.tup (.cons (.c (.str "times")) (.cons (.c (.str "when")) (.cons (.c (.str "let")) .nil))))) (.cons (.ret (.ix (.v 1) (.neg (.c (.int 1))))) .nil) .nil) (.cons (.ret (.c (.int 0))) .nil))))))
noncomputable def fm(ns:List Str)(q:Qn):D:=.int (aD ns q:Nat)
def Rx(v:D):Sp:=λds M Q _=>∃(ns:List Str)(q:Qn),v=.lst (ns.map D.str)/\ds=[qD q,.lst ((us q).map (fm ns))]/\(us q).length<100/\Q (fm ns q) M
theorem vM{x:Str}:∀{ns:List Str},ek (.str x) (ns.map D.str)=decide (x∈ns)
 |[]=>rfl
 |y::ns=>by
  have ih:=@vM x ns;unfold ek at ih ⊢;rw[Zh,aaF,ih];have:aw (.str y) (.str x)=decide (x=y):=by show (some x == some y)=_;by_cases e:x=y <;> simp [e]
  rw[this];simp [Bool.decide_or]
theorem qq:∀{ns:List Str},aP (ns.map D.str)=true/\aW (ns.map D.str)=0
 |[]=>⟨rfl,rfl⟩
 |y::ns=>by rw[Zh,aP,aW,(qq (ns:=ns)).1,(qq (ns:=ns)).2];exact⟨rfl,rfl⟩
theorem Ry{x:Str}{ns:List Str}{M:Mp}{k:Bool->Prop}(h:k (decide (x∈ns))):iL (.str x) (.lst (ns.map D.str)) M k:=⟨⟨rfl,qq.1,by rw[qq.2];exact Zj _,by rw[vM];exact h⟩⟩
theorem Rz{ns:List Str}{q:Qn}(h:(["table","both","for","times","when","let"]:List Str).all (λs=>decide (wd q≠s))=true)(e:aD ns q=0){M:Mp}{Q:QK}(hq:Q (fm ns q) M):
  B.w ({}:bD w).wd nm.aq vL (cx Q) [some (qD q),some (.lst ((us q).map (fm ns))),some (.lst (ns.map D.str)),none] M:=by
 have g:=λs hs=>of_decide_eq_true (List.all_eq_true.mp h s hs);have g1:=g "table" (by simp);have g2:=g "both" (by simp);have g3:=g "for" (by simp)
 have g4:ek (.str (wd q)) [D.str "times",D.str "when",D.str "let"]=false:=by
  have:=@vM (wd q) ["times","when","let"];rw[show ([D.str "times",D.str "when",D.str "let"]:List D)=(["times","when","let"]:List Str).map D.str from rfl,this];refine decide_eq_false λz=>?_;simp only[ZN,ZF,or_false]at z;rcases z with z |z |z
  ·exact g "times" (by simp) z
  ·exact g "when" (by simp) z
  ·exact g "let" (by simp) z
 have hq:Q (.int 0) M:=by unfold fm at hq;rw[e]at hq;exact hq
 obtain⟨r,hr⟩:=vx q;rw[hr];exact⟨_,uU,aj (dj g1 (aj (dj g2 (aj (dj g3 ⟨l3,lj g4 (ai (by decide) (aC hq))⟩)))))⟩
theorem RA{ns:List Str}{q:Qn}{M:Mp}{Q:QK}(h:Q (fm ns q) M):B.w ({}:bD w).wd nm.aq vL (cx Q) [some (qD q),some (.lst ((us q).map (fm ns))),some (.lst (ns.map D.str)),none] M:=by
 cases q with
 |tab x=>
  refine⟨_,rfl,aj (aJ (by decide) ⟨_,rfl,Ry (aN (λz=>?_) λz=>?_)⟩)⟩
  ·have e:aD ns (.tab x)=1:=if_pos (of_decide_eq_true z);unfold fm at h;rw[e]at h;exact aC h
  ·have e:aD ns (.tab x)=0:=if_neg λy=>z (decide_eq_true y);unfold fm at h;rw[e]at h;exact aC h
 |both a b=>
  refine⟨_,rfl,aj (dj (by decide) (aj (aJ (by decide) ⟨[(aD ns a:Int),(aD ns b:Int)],rfl,Nat.succ_pos _,λm hm D5=>?_⟩)))⟩;have e:m=((aD ns (.both a b):Nat):Int):=by
   have h1:=D5 (aD ns a) (by simp);have h2:=D5 (aD ns b) (by simp);show m=((max (aD ns a) (aD ns b):Nat):Int);simp only[ZN,ZF,or_false]at hm;rcases hm with rfl |rfl <;> lia
  rw[e];exact aC h
 | «for» y a b=>
  refine⟨_,rfl,aj (dj (by decide) (aj (dj (by decide) (aj (aJ (by decide) ⟨[(aD ns a:Int),(aD ns b:Int)],rfl,?_⟩)))))⟩;have e:([(aD ns a:Int),(aD ns b:Int)]).sum=((aD ns (.for y a b):Nat):Int):=by
   show (aD ns a:Int)+((aD ns b:Int)+0)=((aD ns a+aD ns b:Nat):Int);lia
  rw[e];exact aC h
 |times i a=>exact⟨_,rfl,aj (dj (by decide) (aj (dj (by decide) (aj (dj (by decide) ⟨l3,lj (b:=true) (by decide +kernel) (aJ rfl ⟨_,rfl,aC h⟩)⟩)))))⟩
 |aZ c a=>exact⟨_,rfl,aj (dj (by decide) (aj (dj (by decide) (aj (dj (by decide) ⟨l3,lj (b:=true) (by decide +kernel) (aJ rfl ⟨_,rfl,aC h⟩)⟩)))))⟩
 | «let» y a b=>exact⟨_,rfl,aj (dj (by decide) (aj (dj (by decide) (aj (dj (by decide) ⟨l3,lj (b:=true) (by decide +kernel) (aJ rfl ⟨_,rfl,aC h⟩)⟩)))))⟩
 |_=>exact Rz (by rw[wd];decide +kernel) rfl h
noncomputable def RB:Expr:=pC.es.headD (.Name "" ⟨0,0,0,0⟩)
theorem RC:aH (ae 12)=[.FunctionDef pC.name pC.params pC.body [] none [] pC.scope none pC.name pC.np,.Return (some (.Call (.Name pC.g pC.VI) (RB::pC.es.tail) [] pC.Vo)) pC.rp]:=by kernel_rfl
theorem RD:aO ["question","names","degree_of"] ["question","names"] (ao (ae 12)):=⟨rfl,rfl,rfl,by decide +kernel,rfl,by decide +kernel,by decide +kernel⟩
def vO:Sp:=λds M Q _=>∃(q:Qn)(ns:List Str),ds=[qD q,.lst (ns.map D.str)]/\wq q/\dn q<500/\Q (fm ns q) M
theorem D6(O:Lw w):FO w 7 6 vO:=by
 refine Mo O.ok O.hn (kp:=1) (n:=40) (np:=40) (j:=2) (ci:=1) (ns:=["question","names","degree_of"]) (kI:=["part","below"]) (ls:=["word"]) (x:="names") (b:=vL) (t:=.cons (.v 0) (.cons (.v 2) .nil)) (m9:=Rx) 7 3 ⟨"degree",ae 12,["question","names"]⟩ (by rw[O.hd];rfl) RC (λf fd q=>O.VJ f fd q) {} { cs:=trivial } RD (by kernel_rfl) (by kernel_rfl) (by decide) rfl (by decide) (by kernel_rfl)
  (λ_ _ _ _=>rfl) (λ_ _ _ _=>rfl) (λ_=>rfl) (by kernel_rfl) (by kernel_rfl) (λ_=>by kernel_rfl) (by kernel_rfl) (by kernel_rfl) (by kernel_rfl) (by kernel_rfl) (by kernel_rfl) ⟨by kernel_rfl,by kernel_rfl,by kernel_rfl,by decide +kernel,by decide +kernel,by decide +kernel,by decide +kernel⟩ (by decide +kernel) (λq clos doc pm c ctv K=>bS.all λus h=>?_) (by kernel_rfl) (λe v l=>⟨{},{ cs:=trivial },λds M Q E hs=>?_⟩) λds M Q E hs=>?_
 ·match us,h with
  |[_,_],_=>rfl
 ·obtain⟨ns,q,rfl,rfl,hu,h⟩:=hs;exact⟨rfl,RA (w:=w.at e) h⟩
 ·obtain⟨q,ns,rfl,hw,hd,h⟩:=hs;exact⟨rfl,λf e v l ev hh=>by
   cases ev;exact⟨_,Rm (g:=fm ns) (O.at l) hh (λ{q M Q E}hu h=>⟨ns,q,rfl,rfl,hu,h⟩),q,rfl,hw,hd,aC h⟩⟩
end K97
end
section
namespace K97
open PySem N NQ NV
open L2
variable{w:Wo}
structure RE(w:Wo)(n:Nat):Prop where
 a:FO w 16 (2 * n+24) (gM n)
 t:FO w 14 (2 * n+24) (k9 n)
 b:FO w 15 (2 * n+25) (qm n)
theorem vP:∀q:Qn,1<=dq q:=λq=>by cases q <;> (rw[dq];lia)
theorem D7(O:Lw w):∀n,RE w n
 | 0=>by
  have no:∀i d sp k,d6[i]?=some d->(∀ds M Q E,¬sp ds M Q E)->FO w i k sp:=λi d sp k h g=>FO.imp (kH O.ok (by rw[O.hd];exact h) (cs:=[]) trivial) λds M Q E z=>(g ds M Q E z).elim;refine⟨no _ _ _ _ rfl ?_,no _ _ _ _ rfl ?_,no _ _ _ _ rfl ?_⟩
  ·rintro ds M Q E ⟨q,σ,ρ,G,S,k,vs,st,_,_,i,_⟩;have:=i.d;have:=vP q;lia
  ·rintro ds M Q E ⟨q,σ,ρ,G,S,vs,st,_,_,i,_⟩;have:=i.d;have:=vP q;lia
  ·rintro ds M Q E ⟨q,σ,ρ,G,S,k,vs,st,_,⟨x,a,b,_,h,_⟩,_⟩;have:=vP a;lia
 |n+1=>
  have g:=D7 O n;have a:=Qg O (n:=n) (j:=2 * n+25) (by lia) (g.a.mono (by lia)) g.b (g.t.mono (by lia));have t:=PD O (n:=n) (j:=2 * n+25) (g.t.mono (by lia)) (g.a.mono (by lia))
  ⟨a,t,PY O (n:=n+1) (j:=2 * (n+1)+24) (by lia) a⟩
variable{w:Wo}
noncomputable def eG:Nat:=256
def EB(e:Str->Nat)(G:Sc)(ρ:Vn):Prop:=∀x k,NQ.lk x G=some k->2<=e x/\Bd (e x) (ρ x) (e x)
structure SB(ns:List Str)(S:Str->Option Kd)(σ:Vn):Prop where
 b:∀x k,S x=some k->x∈ns/\Bd 2 (σ x) 15
def fo(ns:List Str)(q:Qn)(e:Str->Nat):Prop:=cq q e<=eG/\aD ns q<=3
theorem vQ(i:Int):2<=lit i:=by unfold lit;split <;> decide
mutual
theorem bO:∀(q:Qn)(e:Str->Nat),2<=cq q e
 |.num i,_=>vQ i
 |.word _,_=>Y8 _
 |.var x,e=>ZI _ _
 |.tab _,_=>Y8 _
 |.none _,_=>Y8 _
 |.row fs,e=>RF fs e
 |.at _ q,e=>bO q e
 |.add a b,e=>Y9 (bO a e) (Z0 _ _)
 |.mul a b,e=>Y9 (bO a e) (Z0 _ _)
 |.one q,e=>bO q e
 |.both a b,e=>Y9 (bO a e) (Z0 _ _)
 |.times i q,e=>Y9 (vQ i) (Z0 _ _)
 |.for x a b,e=>Y9 (bO a e) (Nat.le_mul_of_pos_right _ (Zq (by decide) (bO b _)))
 |.aZ c q,e=>Y9 (bO q e) (ZQ _ _)
 |.let x a b,e=>Y9 (bO a e) (ZI _ _)
 |.same a b,e=>Y9 (bO a e) (ZI _ _)
 |.under a b,e=>Y9 (bO a e) (ZI _ _)
 |.and a b,e=>Y9 (bO a e) (ZI _ _)
 |.or a b,e=>Y9 (bO a e) (ZI _ _)
 |.not a,e=>bO a e
theorem RF:∀(fs:List (Str×Qn))(e:Str->Nat),2<=cB fs e
 |[],_=>Y8 _
 |(_,q)::r,e=>Y9 (bO q e) (ZI _ _)
end
noncomputable def Ln(ns:List Str)(q:Qn)(e:Str->Nat):Nat:=15 ^ aD ns q * cq q e
structure Good(ns:List Str)(σ:Vn)(q:Qn)(e:Str->Nat)(ρ:Vn):Prop where
 b:Bd (cq q e) (ah σ q ρ) (Ln ns q e)
 f:bg σ q ρ
theorem jq{ns:List Str}{q:Qn}{e:Str->Nat}(h:fo ns q e):Ln ns q e<=864000:=by
 unfold Ln;have h1:15 ^ aD ns q<=15 ^ 3:=Zx (by decide) h.2;exact Y9 (Nat.mul_le_mul h1 h.1) (by decide)
theorem EB.put{e:Str->Nat}{G:Sc}{ρ:Vn}(h:EB e G ρ){x:Str}{l:Kd}{v:Val}{c:Nat}(c2:2<=c)(hv:Bd c v c):EB (ep e x c) ((x,l)::G) (ρ.put x v):=λy k hk=>by
 rw[NQ.lk]at hk;unfold ep Vn.put;by_cases z:y=x
 ·rw[if_pos z,if_pos z];exact⟨c2,hv⟩
 ·rw[if_neg z]at hk;rw[if_neg z,if_neg z];exact h y k hk
theorem vU{c:Nat}(hc:c<=1000){i j:Int}(hi:i.natAbs<bw c)(hj:j.natAbs<bw c):CM i j:=by
 have:bw c<=2 ^ lU:=Zx (by decide) (by show 200 * c-100<=1000000;lia);exact .inr ⟨Zq hi this,Zq hj this⟩
theorem nN{k:Kd}{v:Val}(h:aG (.ag k) v){c L:Nat}(b:Bd c v L):(bv v).length<=L/\∀p∈bv v,p.2.natAbs<bw c/\Bd c p.1 c:=by
 rw[(bV h).1,Bd]at b;exact⟨b.1,pY.mp b.2⟩
theorem D8{v:Val}(h:aG .num v){c L:Nat}(b:Bd c v L):(iv v).natAbs<bw c:=by
 rw[jj h,Bd]at b;exact b
variable{w:Wo}
theorem qr(a:Nat):1<=bw a:=Nat.pow_pos (by decide)
theorem qt{a b c L:Nat}(ha:2<=a)(hb:2<=b)(h:a+b<=c)(hm:L<=2 ^ 24):L * (bw a * bw b)<bw c:=by
 have h2:bw a * bw b * 2 ^ 24=2 ^ (200 * a-100+(200 * b-100)+24):=by unfold bw;rw[<- Nat.pow_add,<- Nat.pow_add]
 have h3:2 ^ (200 * a-100+(200 * b-100)+24)<bw c:=Nat.pow_lt_pow_right (by decide) (by lia)
 calc L * (bw a * bw b)<=2 ^ 24 * (bw a * bw b):=ZE _ hm
  _=bw a * bw b * 2 ^ 24:=Nat.mul_comm _ _
  _<bw c:=by rw[h2];exact h3
theorem D9{a b x:Nat}(h:x<bw a):x<=bw a * bw b:=Y9 (aaj h) (Nat.le_mul_of_pos_right _ (qr b))
theorem D'{a b x:Nat}(h:x<bw b):x<=bw a * bw b:=Y9 (aaj h) (Nat.le_mul_of_pos_left _ (qr a))
theorem Ea:2 ^ 100<=bw 2:=Zx (by decide) (by decide)
theorem Eb{i:Int}(h:lit i<=eG):i.natAbs<bw (lit i):=by
 unfold lit at h ⊢;by_cases z:i.natAbs<2 ^ 100
 ·rw[if_pos z];exact Zq z Ea
 ·rw[if_neg z]at h;exact absurd h (by decide)
theorem gP{ns:List Str}:∀{q:Qn},ax q=[]->aD ns q=0
 |.num _,_=>rfl
 |.word _,_=>rfl
 |.var _,_=>rfl
 |.tab _,h=>nomatch h
 |.none _,_=>rfl
 |.row _,_=>rfl
 |.at _ _,_=>rfl
 |.add _ _,_=>rfl
 |.mul _ _,_=>rfl
 |.one _,_=>rfl
 |.both a b,h=>by
  obtain⟨x,y⟩:=List.append_eq_nil_iff.mp h;rw[aD,gP x,gP y];rfl
 |.times _ a,h=>gP (q:=a) h
 |.for _ a b,h=>by
  obtain⟨x,y⟩:=List.append_eq_nil_iff.mp h;rw[aD,gP x,gP y]
 |.aZ _ a,h=>gP (q:=a) (List.append_eq_nil_iff.mp h).2
 |.let _ _ b,h=>gP (q:=b) (List.append_eq_nil_iff.mp h).2
 |.same _ _,_=>rfl
 |.under _ _,_=>rfl
 |.and _ _,_=>rfl
 |.or _ _,_=>rfl
 |.not _,_=>rfl
theorem nP{ns:List Str}{q:Qn}{e:Str->Nat}(h:ax q=[]):Ln ns q e=cq q e:=by
 unfold Ln;rw[gP h,Nat.pow_zero,Nat.one_mul]
theorem ip{ns:List Str}{q:Qn}{e:Str->Nat}(h:ax q=[])(l:cq q e<=eG):fo ns q e:=⟨l,by rw[gP h];decide⟩
theorem fo.of{ns:List Str}{q r:Qn}{e f:Str->Nat}(h:fo ns q e)(l:cq r f<=cq q e)(d:aD ns r<=aD ns q):fo ns r f:=⟨Y9 l h.1,Y9 d h.2⟩
theorem vV{ns:List Str}{q:Qn}{e:Str->Nat}:cq q e<=Ln ns q e:=Nat.le_mul_of_pos_left _ (Nat.pow_pos (by decide))
theorem qu{c:Nat}(h:c<=864000):c<sizeLine:=Zd h (by decide)
theorem vW{k:Kd}{xs:NV.Bg}{L c:Nat}(hk:kd (.ag k)<=21)(ht:∀p∈xs,aG k p.1)(hl:xs.length<=L)(hL:L<=864000)(hc:c<=eG)(hb:∀p∈xs,Bd c p.1 c):nE xs:=by
 have dm:c<sizeLine:=qu (Y9 hc (by decide));exact⟨qu (Y9 hl hL),k,by rw[kd]at hk;lia,λp hp=>⟨ht p hp,Bd.ok dm dm (hb p hp)⟩⟩
theorem Good.lt{ns:List Str}{σ ρ:Vn}{q:Qn}{e:Str->Nat}{k:Kd}(g:Good ns σ q e ρ)(h:aG (.ag k) (ah σ q ρ)):(bv (ah σ q ρ)).length<=Ln ns q e/\∀p∈bv (ah σ q ρ),p.2.natAbs<bw (cq q e)/\Bd (cq q e) p.1 (cq q e):=nN h g.b
section
variable(ns:List Str)(S:Str->Option Kd)(σ:Vn)
def PG(G:Sc)(q:Qn)(k:Kd):Prop:=Ty S G q k/\(Ev q->(ax q=[]\/∃l,k=.ag l)->kd k<=21->∀e ρ,EB e G ρ->c5 G ρ->fo ns q e->Good ns σ q e ρ)
def LG(G:Sc)(fs:List (Str×Qn))(ks:List (Str×Kd)):Prop:=c0 S G fs ks/\(fT fs=[]->(∀p∈fs,Ev p.2)->cj ks<=21->∀e ρ,EB e G ρ->c5 G ρ->cB fs e<=eG->(∀c,cB fs e<=c->cA c (b5 σ fs ρ) c)/\nG σ fs ρ)
def Xh(G:Sc)(q:Qn):Prop:=b4 S G q/\(Ev q->∀e ρ,EB e G ρ->c5 G ρ->cq q e<=eG->bg σ q ρ)
end
variable{ns:List Str}{S:Str->Option Kd}{σ:Vn}
theorem Ec{G:Sc}{a b q:Qn}(hq:(q=.add a b)\/q=.mul a b)(hσ:gH S σ)(ha:PG ns S σ G a .num)(hb:PG ns S σ G b .num):Ev q->(ax q=[]\/∃l,Kd.num=.ag l)->kd .num<=21->∀e ρ,EB e G ρ->c5 G ρ->fo ns q e->Good ns σ q e ρ:=λh ht kk e ρ he hr hs=>by
 have ht:ax q=[]:=ht.elim id λ⟨_,z⟩=>nomatch z;have t2:ax a=[]/\ax b=[]:=by rcases hq with rfl |rfl <;> exact List.append_eq_nil_iff.mp ht
 have ea:Ev a:=by rcases hq with rfl |rfl <;> exact h.sub cT
 have eb:Ev b:=by rcases hq with rfl |rfl <;> exact h.sub cC
 have UH:cq q e=cq a e+cq b e:=by rcases hq with rfl |rfl <;> rfl
 have hc:=hs.1;rw[UH]at hc;have ga:=ha.2 ea (.inl t2.1) kk e ρ he hr (ip t2.1 (by lia));have gb:=hb.2 eb (.inl t2.2) kk e ρ he hr (ip t2.2 (by lia));have na:=D8 (bI hσ ha.1 ρ hr) ga.b;have nb:=D8 (bI hσ hb.1 ρ hr) gb.b;have U7:CM (iv (ah σ a ρ)) (iv (ah σ b ρ)):=vU (c:=cq a e+cq b e) (Y9 hc (by decide)) (Zq na (gI (by lia))) (Zq nb (gI (by lia)));have hm:=qt (bO a e) (bO b e) (Y8 _) (show 2<=2 ^ 24 by decide);have l1:=D9 (b:=cq b e) na;have l2:=D' (a:=cq a e) nb;refine⟨?_,?_⟩
 ·rw[UH];rcases hq with rfl |rfl
  ·rw[ah,Bd];lia
  ·rw[ah,Bd,Int.natAbs_mul];have:=Nat.mul_le_mul (aaj na) (aaj nb);lia
 ·rcases hq with rfl |rfl <;> exact⟨⟨ga.f,gb.f⟩,U7⟩
theorem RG{G:Sc}{a b:Qn}{k:Kd}(hσ:gH S σ)(ha:PG ns S σ G a (.ag k))(hb:PG ns S σ G b (.ag k))(h:Ev (.both a b))(kk:kd (.ag k)<=21){e:Str->Nat}{ρ:Vn}(he:EB e G ρ)(hr:c5 G ρ)(hs:fo ns (.both a b) e):Good ns σ (.both a b) e ρ:=by
 have hc:cq a e+cq b e<=eG:=hs.1;have U3:aD ns a<=aD ns (.both a b):=ZI _ _;have VC:aD ns b<=aD ns (.both a b):=ZQ _ _;have ga:=ha.2 (h.sub cT) (.inr ⟨_,rfl⟩) kk e ρ he hr (hs.of (Z0 _ _) U3);have gb:=hb.2 (h.sub cC) (.inr ⟨_,rfl⟩) kk e ρ he hr (hs.of (Nat.le_add_left _ _) VC);have ta:=bI hσ ha.1 ρ hr;have tb:=bI hσ hb.1 ρ hr;obtain⟨la,pa⟩:=ga.lt ta;obtain⟨lb,pb⟩:=gb.lt tb;have hL:Ln ns a e+Ln ns b e<=Ln ns (.both a b) e:=by
  have h1:=ZE (cq a e) (Zx (show 0<15 by decide) U3);have h2:=ZE (cq b e) (Zx (show 0<15 by decide) VC);show _<=15 ^ aD ns (.both a b) * (cq a e+cq b e);rw[Nat.mul_add];exact Nat.add_le_add h1 h2
 have ll:(bv (ah σ a ρ)++bv (ah σ b ρ)).length<=Ln ns (.both a b) e:=by rw[Zi];lia
 have hp:∀p∈bv (ah σ a ρ)++bv (ah σ b ρ),aG k p.1/\p.2.natAbs<=bw (cq a e) * bw (cq b e)/\Bd (cq a e+cq b e) p.1 (cq a e+cq b e):=λp hp=>by
  rcases List.mem_append.mp hp with z |z
  ·exact⟨(bV ta).2.2 p z,D9 (pa p z).1,(pa p z).2.up (by lia) (by lia)⟩
  ·exact⟨(bV tb).2.2 p z,D' (pb p z).1,(pb p z).2.up (by lia) (by lia)⟩
 refine⟨?_,⟨ga.f,gb.f⟩,vW kk (λp z=>(hp p z).1) ll (jq hs) hc λp z=>(hp p z).2.2⟩;rw[ah];exact pZ ll (λp z=>(hp p z).2) (qt (bO a e) (bO b e) (Y8 _) (Y9 (jq hs) (by decide)))
theorem RH{G:Sc}{a:Qn}{i:Int}{k:Kd}(hσ:gH S σ)(ha:PG ns S σ G a (.ag k))(h:Ev (.times i a))(kk:kd (.ag k)<=21){e:Str->Nat}{ρ:Vn}(he:EB e G ρ)(hr:c5 G ρ)(hs:fo ns (.times i a) e):Good ns σ (.times i a) e ρ:=by
 have hc:lit i+cq a e<=eG:=hs.1;have ga:=ha.2 (h.sub (List.mem_singleton.mpr rfl)) (.inr ⟨_,rfl⟩) kk e ρ he hr (hs.of (Nat.le_add_left _ _) (Y8 _));have ta:=bI hσ ha.1 ρ hr;obtain⟨la,pa⟩:=ga.lt ta;have hi:i.natAbs<bw (lit i):=Eb (by lia);have hL:Ln ns a e<=Ln ns (.times i a) e:=Nat.mul_le_mul_left _ (Nat.le_add_left _ _);have ll:((bv (ah σ a ρ)).map λp=>(p.1,i * p.2)).length<=Ln ns (.times i a) e:=by rw[Y6];lia
 have hp:∀p∈(bv (ah σ a ρ)).map λp=>(p.1,i * p.2),aG k p.1/\p.2.natAbs<=bw (lit i) * bw (cq a e)/\Bd (lit i+cq a e) p.1 (lit i+cq a e):=λp hp=>by
  obtain⟨p,z,rfl⟩:=List.mem_map.mp hp;exact⟨(bV ta).2.2 p z,by show (i * p.2).natAbs<=_;rw[Int.natAbs_mul];exact Nat.mul_le_mul (aaj hi) (aaj (pa p z).1),(pa p z).2.up (by lia) (by lia)⟩
 refine⟨?_,ga.f,vW kk (λp z=>(hp p z).1) ll (jq hs) hc λp z=>(hp p z).2.2,λp z=>vU (Y9 hc (by decide)) (Zq hi (gI (by lia))) (Zq (pa p z).1 (gI (by lia)))⟩;rw[ah];exact pZ ll (λp z=>(hp p z).2) (qt (vQ i) (bO a e) (Y8 _) (Y9 (jq hs) (by decide)))
theorem Ed{g:Val->NV.Bg}{b:Nat}:∀{ps:NV.Bg},(∀p∈ps,(g p.1).length<=b)->(cG ps g).length<=ps.length * b
 |[],_=>by simp [cG]
 |p::ps,h=>by
  have ih:=Ed (ps:=ps) λq hq=>h q (Zc _ hq);have h0:=h p Za;unfold cG at ih ⊢;rw[List.flatMap_cons,Zi,Y6,Zg,Nat.succ_mul];lia
theorem RI{G:Sc}{x:Str}{a b:Qn}{k l:Kd}(hσ:gH S σ)(kl:kd l<=20)(ha:PG ns S σ G a (.ag l))(hb:PG ns S σ ((x,l)::G) b (.ag k))(h:Ev (.for x a b))(kk:kd (.ag k)<=21){e:Str->Nat}{ρ:Vn}(he:EB e G ρ)(hr:c5 G ρ)(hs:fo ns (.for x a b) e):Good ns σ (.for x a b) e ρ:=by
 have qv:kd (.ag l)<=21:=by rw[kd];lia
 have a2:=bO a e;have b2:=bO b (ep e x (cq a e));have c1:cq a e<=cq (.for x a b) e:=Nat.le_mul_of_pos_right _ (by lia);have c2:cq b (ep e x (cq a e))<=cq (.for x a b) e:=Nat.le_mul_of_pos_left _ (by lia);have c3:cq a e+cq b (ep e x (cq a e))<=cq (.for x a b) e:=by
  show _<=cq a e * cq b (ep e x (cq a e));generalize cq a e=u at *;generalize cq b _=v at *;obtain⟨u,rfl⟩:=Nat.exists_eq_add_of_le a2;obtain⟨v,rfl⟩:=Nat.exists_eq_add_of_le b2;have:=Nat.mul_le_mul_left u (Z0 2 v);rw[Nat.add_mul];lia
 have ga:=ha.2 (h.sub cT) (.inr ⟨_,rfl⟩) qv e ρ he hr (hs.of c1 (Z0 _ _));have ta:=bI hσ ha.1 ρ hr;obtain⟨la,pa⟩:=ga.lt ta;have rows:=(bV ta).2.2;have gb:∀p∈bv (ah σ a ρ),aG (.ag k) (ah σ b (ρ.put x p.1))/\Good ns σ b (ep e x (cq a e)) (ρ.put x p.1):=λp hp=>
  ⟨bI hσ hb.1 _ (hr.put (rows p hp)),hb.2 (h.sub cC) (.inr ⟨_,rfl⟩) kk _ _ (he.put a2 (pa p hp).2) (hr.put (rows p hp)) (hs.of c2 (Nat.le_add_left _ _))⟩
 have ll:(cG (bv (ah σ a ρ)) λv=>bv (ah σ b (ρ.put x v))).length<=Ln ns (.for x a b) e:=by
  refine Y9 (Ed λp hp=>((gb p hp).2.lt (gb p hp).1).1) (Y9 (ZE _ la) ?_);unfold Ln;rw[aD,cq,Nat.pow_add,Nat.mul_mul_mul_comm];exact Y8 _
 have hp:∀p∈cG (bv (ah σ a ρ)) λv=>bv (ah σ b (ρ.put x v)),aG k p.1/\p.2.natAbs<=bw (cq a e) * bw (cq b (ep e x (cq a e)))/\Bd (cq (.for x a b) e) p.1 (cq (.for x a b) e):=λp hp=>by
  obtain⟨p,z,q,y,rfl⟩:=vc hp;obtain⟨tb,g⟩:=gb p z;have pb:=(g.lt tb).2 q y;exact⟨(bV tb).2.2 q y,by show (p.2 * q.2).natAbs<=_;rw[Int.natAbs_mul];exact Nat.mul_le_mul (aaj (pa p z).1) (aaj pb.1),pb.2.up c2 c2⟩
 refine⟨?_,ga.f,λp z=>⟨(gb p z).2.f,λq y=>?_⟩,vW kk (λp z=>(hp p z).1) ll (jq hs) hs.1 λp z=>(hp p z).2.2⟩
 ·rw[ah];exact pZ ll (λp z=>(hp p z).2) (qt a2 b2 c3 (Y9 (jq hs) (by decide)))
 ·exact vU (Y9 hs.1 (by decide)) (Zq (pa p z).1 (gI c1)) (Zq (((gb p z).2.lt (gb p z).1).2 q y).1 (gI c2))
variable{w:Wo}
variable{ns:List Str}{S:Str->Option Kd}{σ:Vn}
theorem Ee:∀{fs:List (Str×Qn)}{ρ:Vn},(b5 σ fs ρ).length=fs.length
 |[],_=>rfl
 |(_,_)::r,ρ=>by rw[b5,Zg,Zg,Ee]
theorem Ef{f:Str}{c L:Nat}:∀{ps:List (Str×Val)},cA c ps L->Bd c (UI f ps) L
 |[],_=>by rw[UI,Bd];exact qr c
 |p::ps,h=>by
  rw[cA]at h;rw[UI];split
  ·exact h.1
  ·exact Ef h.2
theorem RJ{f:Str}{c L:Nat}{v:Val}(h:Bd c v L):Bd c (fld f v) L:=by
 cases v with
 |row ps=>rw[Bd]at h;exact Ef h.2
 |_=>show Bd c (.num 0) L;rw[Bd];exact qr c
theorem RK(hσ:gH S σ)(hs:SB ns S σ):(∀{G q k},Ty S G q k->PG ns S σ G q k)/\(∀{G q k},c0 S G q k->LG S σ G q k)/\∀{G q},b4 S G q->Xh S σ G q:=by
 have Ut:∀{q:Qn}{P:Prop},(P\/∃l,Kd.num=.ag l)->P:=λz=>z.elim id λ⟨_,e⟩=>nomatch e;have vX:∀{G:Sc}{a b q:Qn}{k:Kd},(k=.num\/k=.word)->PG ns S σ G a k->PG ns S σ G b k->us q=[a,b]->(∀e,cq q e=max (cq a e) (cq b e))->Ev q->∀e ρ,EB e G ρ->c5 G ρ->cq q e<=eG->bg σ a ρ/\bg σ b ρ:=λ{G a b q k}hk ha hb hu hc h e ρ he hr l=>by
  have ea:Ev a:=h.sub (by rw[hu];exact cT);have eb:Ev b:=h.sub (by rw[hu];exact cC);have ta:=vJ.1 ha.1 ea hk;have tb:=vJ.1 hb.1 eb hk;have kk:kd k<=21:=by rcases hk with rfl |rfl <;> decide
  rw[hc]at l;have l1:=ZI (cq a e) (cq b e);have l2:=ZQ (cq a e) (cq b e);exact⟨(ha.2 ea (.inl ta) kk e ρ he hr (ip ta (by lia))).f,(hb.2 eb (.inl tb) kk e ρ he hr (ip tb (by lia))).f⟩
 refine Ty.all (S:=S) (P:=PG ns S σ) (L:=LG S σ) (C:=Xh S σ) ?_ ?_ ?_ ?_ ?_ ?_ ?_ ?_ ?_ ?_ ?_ ?_ ?_ ?_ ?_ ?_ ?_ ?_ ?_ ?_ ?_ ?_ ?_
 ·exact λ{G i}=>⟨.num,λ_ _ _ e ρ he hr hs=>⟨by rw[ah,Bd];exact Eb hs.1,trivial⟩⟩
 ·exact λ{G i}=>⟨.word,λ_ _ _ e ρ he hr hs=>⟨by rw[ah,Bd];trivial,trivial⟩⟩
 ·exact λ{G x k}U=>⟨.var U,λ_ _ _ e ρ he hr hs=>⟨by
   have m:e x<=cq (.var x) e:=ZQ _ _;rw[ah];exact (he x k U).2.up m (Y9 m vV),trivial⟩⟩
 ·exact λ{G x k}U=>⟨.tab U,λ_ _ _ e ρ he hr jZ=>⟨by
   obtain⟨m,b⟩:=hs.b x k U;rw[ah,Ln,aD,if_pos m];exact b.up (Y8 _) (by rw[cq];decide),trivial⟩⟩
 ·exact λ{G k}h1 h2=>⟨.none h1 h2,λ_ _ _ e ρ he hr hs=>⟨by rw[ah,Bd];exact⟨Zj _,trivial⟩,trivial⟩⟩
 ·exact λ{G fs ks}hl hn h=>⟨.row hl hn h.1,λev ht kk e ρ he hr hs=>by
   have ht:fT fs=[]:=ht.elim id λ⟨_,z⟩=>nomatch z;obtain⟨a,b⟩:=h.2 ht (λp hp=>ev.sub (List.mem_map.mpr ⟨p,hp,rfl⟩)) (by rw[kd]at kk;lia) e ρ he hr hs.1;refine⟨?_,b⟩;rw[nP (q:=.row fs) ht,ah,Bd,Ee];exact⟨by lia,a _ (Y8 _)⟩⟩
 ·exact λ{G f q ks k}hk h e0=>⟨.at hk h.1 e0,λev ht kk e ρ he hr hs=>by
   have t0:ax q=[]:=ev.ae rfl;have g:=h.2 (ev.sub (List.mem_singleton.mpr rfl)) (.inl t0) (by lia) e ρ he hr (ip t0 hs.1);refine⟨?_,g.f⟩;rw[ah];exact RJ (by have:=g.b;rw[nP t0]at this;exact this.up (Y8 _) vV)⟩
 ·exact λ{G a b}ha hb=>⟨.add ha.1 hb.1,Ec (.inl rfl) hσ ha hb⟩
 ·exact λ{G a b}ha hb=>⟨.mul ha.1 hb.1,Ec (.inr rfl) hσ ha hb⟩
 ·exact λ{G q k}h=>⟨.one h.1,λev ht kk e ρ he hr hs=>by
   have t0:ax q=[]:=ev.ae rfl;have qv:kd k<=21:=(by rw[kd]at kk;lia);have g:=h.2 (ev.sub (List.mem_singleton.mpr rfl)) (.inl t0) qv e ρ he hr (ip t0 hs.1);have gb:=g.b;rw[nP t0]at gb;have l1:1<=Ln ns (.one q) e:=Y9 (by decide) (Y9 (bO (.one q) e) vV);have hc:cq q e<sizeLine:=qu (Y9 hs.1 (by decide));refine⟨?_,g.f,by show 1<_;decide,k,qv,λp hp=>?_⟩
   ·rw[ah,Bd];exact⟨l1,⟨by show (1:Int).natAbs<_;exact Zq (by decide:1<2 ^ 100) (Y9 Ea (gI (bO q e))),gb⟩,trivial⟩
   ·rw[List.mem_singleton.mp hp];exact⟨bI hσ h.1 ρ hr,Bd.ok hc hc gb⟩⟩
 ·exact λ{G a b k}z ha hb=>⟨.both z ha.1 hb.1,λev _ kk e ρ he hr hs=>RG hσ ha hb ev kk he hr hs⟩
 ·exact λ{G i a k}ha=>⟨.times ha.1,λev _ kk e ρ he hr hs=>RH hσ ha ev kk he hr hs⟩
 ·exact λ{G x a b k l}z ha hb=>⟨.for z ha.1 hb.1,λev _ kk e ρ he hr hs=>RI hσ z.1 ha hb ev kk he hr hs⟩
 ·exact λ{G c a k}hc ha=>⟨.aZ hc.1 ha.1,λev _ kk e ρ he hr hs=>by
   have m1:cq c e<=cq (.aZ c a) e:=ZI _ _;have m2:cq a e<=cq (.aZ c a) e:=ZQ _ _;have g:=ha.2 (ev.sub cC) (.inr ⟨_,rfl⟩) kk e ρ he hr (hs.of m2 (Y8 _));refine⟨?_,hc.2 (ev.sub cT) e ρ he hr (Y9 m1 hs.1),g.f⟩;rw[ah];split
   ·exact g.b.up m2 (Nat.mul_le_mul_left _ m2)
   ·rw[Bd];exact⟨Zj _,trivial⟩⟩
 ·exact λ{G x a b k l}z ha hb=>⟨.let z ha.1 hb.1,λev ht kk e ρ he hr hs=>by
   have t0:ax a=[]:=ev.ae rfl;have m1:cq a e<=cq (.let x a b) e:=ZI _ _;have m2:cq b (ep e x (cq a e))<=cq (.let x a b) e:=ZQ _ _;have g:=ha.2 (ev.sub cT) (.inl t0) (by lia) e ρ he hr (ip t0 (Y9 m1 hs.1));have gb:=g.b;rw[nP t0]at gb;have g2:=hb.2 (ev.sub cC) (ht.imp (λt=>(List.append_eq_nil_iff.mp t).2) id) kk _ _ (he.put (bO a e) gb) (hr.put (bI hσ ha.1 ρ hr)) (hs.of m2 (Y8 _));refine⟨?_,g.f,g2.f⟩;rw[ah];exact g2.b.up m2 (Nat.mul_le_mul_left _ m2)⟩
 ·exact λ{G}=>⟨.nil,λ_ _ _ e ρ he hr hs=>⟨λ_ _=>trivial,trivial⟩⟩
 ·exact λ{G f q k r s}hq cS=>⟨.cons hq.1 cS.1,λht ev kk e ρ he hr hs=>by
   have ht:ax q++fT r=[]:=ht;obtain⟨t1,t2⟩:=List.append_eq_nil_iff.mp ht;rw[cj]at kk;have m1:cq q e<=cB ((f,q)::r) e:=ZI _ _;have m2:cB r e<=cB ((f,q)::r) e:=ZQ _ _;have g:=hq.2 (ev _ Za) (.inl t1) (by lia) e ρ he hr (ip t1 (Y9 m1 hs));obtain⟨b,c⟩:=cS.2 t2 (λp hp=>ev p (Zc _ hp)) (by lia) e ρ he hr (Y9 m2 hs);have gb:=g.b;rw[nP t1]at gb;refine⟨λm hm=>?_,g.f,c⟩;rw[b5,cA];exact⟨gb.up (by lia) (by lia),b m (by lia)⟩⟩
 ·exact λ{G a b}ha hb=>⟨.gD ha.1 hb.1,λev e ρ he hr hs=>⟨vX (.inl rfl) ha hb rfl (λ_=>rfl) ev e ρ he hr hs,.num,by decide,bI hσ ha.1 ρ hr⟩⟩
 ·exact λ{G a b}ha hb=>⟨.gE ha.1 hb.1,λev e ρ he hr hs=>⟨vX (.inr rfl) ha hb rfl (λ_=>rfl) ev e ρ he hr hs,.word,by decide,bI hσ ha.1 ρ hr⟩⟩
 ·exact λ{G a b}ha hb=>⟨.under ha.1 hb.1,λev e ρ he hr hs=>vX (.inl rfl) ha hb rfl (λ_=>rfl) ev e ρ he hr hs⟩
 ·exact λ{G a b}ha hb=>⟨.and ha.1 hb.1,λev e ρ he hr hs=>⟨ha.2 (ev.sub cT) e ρ he hr (Y9 (ZI _ _) hs),hb.2 (ev.sub cC) e ρ he hr (Y9 (ZQ _ _) hs)⟩⟩
 ·exact λ{G a b}ha hb=>⟨.or ha.1 hb.1,λev e ρ he hr hs=>⟨ha.2 (ev.sub cT) e ρ he hr (Y9 (ZI _ _) hs),hb.2 (ev.sub cC) e ρ he hr (Y9 (ZQ _ _) hs)⟩⟩
 ·exact λ{G a}ha=>⟨.not ha.1,λev e ρ he hr hs=>ha.2 (ev.sub (List.mem_singleton.mpr rfl)) e ρ he hr hs⟩
theorem RL(hσ:gH S σ)(hs:SB ns S σ){G:Sc}{q:Qn}{k:Kd}(ty:Ty S G q (.ag k))(h:Ev q)(kk:kd (.ag k)<=21){e:Str->Nat}{ρ:Vn}(he:EB e G ρ)(hr:c5 G ρ)(sm:fo ns q e):Good ns σ q e ρ:=((RK hσ hs).1 ty).2 h (.inr ⟨_,rfl⟩) kk e ρ he hr sm
variable{w:Wo}
abbrev Cf:=Nat->Int
inductive Py:Nat->(Cf->Int)->Prop
 |const (k:Int):Py 0 λ_=>k
 |co (i:Nat):Py 1 λc=>c i
 |add {n F G}:Py n F->Py n G->Py n λc=>F c+G c
 |mul {a b F G}:Py a F->Py b G->Py (a+b) λc=>F c * G c
 |up {n m F}:Py n F->n<=m->Py m F
noncomputable def st(c:Cf)(i:Nat)(b:Int):Cf:=λj=>if j=i then b else c j
theorem Py.res{n:Nat}{F:Cf->Int}(h:Py n F)(i:Nat)(b:Int):Py n λc=>F (st c i b):=by
 induction h with
 |const k=>exact .const k
 |co j=>
  unfold st;by_cases e:j=i
  ·simp only[if_pos e];exact (Py.const b).up (Zj _)
  ·simp only[if_neg e];exact .co j
 |add _ _ f g=>exact .add f g
 |mul _ _ f g=>exact .mul f g
 |up _ l f=>exact .up f l
def Pz:Nat->(Cf->Int)->Prop
 | 0,F=>∀c,F c=0
 |n+1,F=>Py n F
theorem qw{n:Nat}{F:Cf->Int}(h:∀c,F c=0):Py n F:=by
 rw[show F=λ_=>0 from funext h];exact (Py.const 0).up (Zj _)
theorem Eg{n:Nat}{F:Cf->Int}(h:∀c,F c=0):Pz n F:=by
 cases n with
 |zero=>exact h
 |succ n=>exact qw h
theorem Pz.add{n:Nat}{F G:Cf->Int}(h:Pz n F)(g:Pz n G):Pz n λc=>F c+G c:=by
 cases n with
 |zero=>intro c;show F c+G c=0;rw[h c,g c];rfl
 |succ n=>exact Py.add h g
theorem Pz.up{n m:Nat}{F:Cf->Int}(h:Pz n F)(l:n<=m):Pz m F:=by
 cases n with
 |zero=>exact Eg h
 |succ n=>cases m with
  |zero=>lia
  |succ m=>exact Py.up h (by lia)
theorem Pz.mul{a b:Nat}{F G:Cf->Int}(h:Pz a F)(g:Py b G):Pz (a+b) λc=>F c * G c:=by
 cases a with
 |zero=>exact Eg λc=>by rw[h c,Int.zero_mul]
 |succ a=>rw[Nat.succ_add];exact Py.mul h g
theorem Py.RM{n:Nat}{F:Cf->Int}(h:Py n F)(i:Nat):Pz n λc=>F (st c i 0)-F (st c i 1):=by
 induction h with
 |const k=>exact λc=>Int.sub_self k
 |co j=>
  show Py 0 _;unfold st;by_cases e:j=i
  ·simp only[if_pos e];exact .const (0-1)
  ·simp only[if_neg e];exact qw λc=>Int.sub_self _
 |@add n F G _ _ f g=>
  rw[show (λc=>F (st c i 0)+G (st c i 0)-(F (st c i 1)+G (st c i 1)))=λc=>(F (st c i 0)-F (st c i 1))+(G (st c i 0)-G (st c i 1)) from funext λc=>by lia];exact f.add g
 |@mul a b F G hf hg f g=>
  rw[show (λc=>F (st c i 0) * G (st c i 0)-F (st c i 1) * G (st c i 1))=λc=>(F (st c i 0)-F (st c i 1)) * G (st c i 0)+(G (st c i 0)-G (st c i 1)) * F (st c i 1) from funext λc=>by rw[Int.sub_mul,Int.sub_mul,Int.mul_comm (G (st c i 0)) (F (st c i 1)),Int.mul_comm (G (st c i 1)) (F (st c i 1))];lia];exact (f.mul (hg.res i 0)).add (by rw[Nat.add_comm];exact g.mul (hf.res i 1))
 |up _ l f=>exact f.up l
noncomputable def lq:Nat->(Cf->Int)->Cf->Int
 | 0,F,c=>F c
 |m+1,F,c=>lq m (λc=>F (st c m 0)-F (st c m 1)) c
theorem Eh:∀{m:Nat}{F:Cf->Int},(∀c,F c=0)->∀c,lq m F c=0
 | 0,F,h,c=>h c
 |m+1,F,h,c=>Eh (F:=λc=>F (st c m 0)-F (st c m 1)) (λc=>by show F _-F _=0;rw[h (st c m 0),h (st c m 1)];rfl) c
theorem Ei:∀{m n:Nat}{F:Cf->Int},Py n F->n<m->∀c,lq m F c=0
 | 0,_,_,_,h,_=>by lia
 |m+1,n,F,h,l,c=>by
  have d:=h.RM m;cases n with
  |zero=>exact Eh d c
  |succ n=>exact Ei (n:=n) d (by lia) c
noncomputable def cb(k:Nat):Cf:=λj=>if k.testBit j then 1 else 0
noncomputable def sgn:Nat->Nat->Int
 | 0,_=>1
 |m+1,k=>if k.testBit m then 0-sgn m k else sgn m k
theorem Ej{m k:Nat}:∀{j:Nat},j<=m->sgn j (2 ^ m+k)=sgn j k
 | 0,_=>rfl
 |j+1,h=>by rw[sgn,sgn,Ej (by lia),Nat.testBit_two_pow_add_gt (by lia)]
theorem Ek:∀(m:Nat)(F:Cf->Int),lq m F (λ_=>0)=((ZL (2 ^ m)).map λk=>sgn m k * F (cb k)).sum
 | 0,F=>by
  have:cb 0=λ_=>0:=funext λj=>by unfold cb;rw[Nat.zero_testBit];rfl
  simp [lq,sgn,this]
 |m+1,F=>by
  rw[lq,Ek m,Nat.pow_succ,Nat.mul_two,List.range_add,Zt,List.sum_append,Z6];have sm:∀(l:List Nat)(f g h:Nat->Int),(∀k∈l,f k=g k+h k)->(l.map f).sum=(l.map g).sum+(l.map h).sum:=λl f g h=>by
   induction l with
   |nil=>intro _;rfl
   |cons k l ih=>
    intro e;rw[Zh,Zh,Zh,List.sum_cons,List.sum_cons,List.sum_cons,ih λk hk=>e k (Zc _ hk),e k Za];lia
  refine sm _ _ _ _ λk hk=>?_;have hk:k<2 ^ m:=List.mem_range.mp hk;have t0:k.testBit m=false:=Nat.testBit_lt_two_pow hk;have t1:(2 ^ m+k).testBit m=true:=by rw[Nat.testBit_two_pow_add_eq,t0];rfl
  have e0:st (cb k) m 0=cb k:=funext λj=>by
   unfold st cb;by_cases e:j=m
   ·rw[if_pos e,e,t0];rfl
   ·rw[if_neg e]
  have e1:st (cb k) m 1=cb (2 ^ m+k):=funext λj=>by
   unfold st cb;by_cases e:j=m
   ·rw[if_pos e,e,t1];rfl
   ·rw[if_neg e];rcases Nat.lt_or_gt_of_ne e with l |l
    ·rw[Nat.testBit_two_pow_add_gt l]
    ·rw[Nat.testBit_lt_two_pow (Zq hk (Zx (by decide) (by lia))),Nat.testBit_lt_two_pow];have:2 ^ (m+1)<=2 ^ j:=Zx (by decide) l;rw[Nat.pow_succ]at this;lia
  show sgn m k * (F (st (cb k) m 0)-F (st (cb k) m 1))=sgn (m+1) k * F (cb k)+sgn (m+1) (2 ^ m+k) * F (cb (2 ^ m+k));rw[e0,e1,sgn,sgn,t0,t1,Ej (Y8 m),if_neg (by decide),if_pos rfl,Int.mul_sub,Int.sub_mul,Int.zero_mul];lia
variable{w:Wo}
noncomputable def sm(vs:List Val)(f:Val->Int):Int:=(vs.map f).sum
theorem lr{v:Val}{vs:List Val}{f:Val->Int}:sm (v::vs) f=f v+sm vs f:=by unfold sm;rw[Zh,List.sum_cons]
theorem vY:∀{vs:List Val}{f:Val->Int},(∀v∈vs,f v=0)->sm vs f=0
 |[],_,_=>rfl
 |v::vs,f,h=>by rw[lr,h v Za,vY λu hu=>h u (Zc _ hu)];rfl
theorem RN{vs:List Val}{f g:Val->Int}:sm vs (λv=>f v+g v)=sm vs f+sm vs g:=by
 induction vs with
 |nil=>rfl
 |cons v vs ih=>rw[lr,lr,lr,ih];lia
theorem El{n:Nat}{F:Val->Cf->Int}:∀{vs:List Val},(∀v∈vs,Py n (F v))->Py n λc=>sm vs λv=>F v c
 |[],_=>qw λc=>rfl
 |v::vs,h=>by
  rw[show (λc=>sm (v::vs) λv=>F v c)=λc=>F v c+sm vs λv=>F v c from funext λc=>lr];exact .add (h v Za) (El λu hu=>h u (Zc _ hu))
theorem RO(vs:List Val):∃ws:List Val,ws.Nodup/\∀v,v∈ws ↔ v∈vs:=by
 induction vs with
 |nil=>exact⟨[],.nil,λ_=>Iff.rfl⟩
 |cons v vs ih=>
  obtain⟨ws,n,h⟩:=ih;rcases Classical.em (v∈ws) with m |m
  ·exact⟨ws,n,λu=>(h u).trans ⟨λz=>Zc _ z,λz=>(List.mem_cons.mp z).elim (λe=>e ▸ (h v).mp m) id⟩⟩
  ·exact⟨v::ws,List.nodup_cons.mpr ⟨m,n⟩,λu=>by rw[ZN,ZN,h]⟩
theorem Em{g:Val->Int}{a:Val}{k:Int}:∀{ws:List Val},ws.Nodup->a∈ws->sm ws (λv=>(if a=v then k else 0) * g v)=k * g a
 |v::ws,n,h=>by
  rw[List.nodup_cons]at n;rw[lr];by_cases e:a=v
  ·rw[if_pos e,vY,e,Int.add_zero];intro u hu;rw[if_neg (λz=>n.1 (by rw[<- e,z];exact hu)),Int.zero_mul]
  ·rw[if_neg e,Int.zero_mul,Int.zero_add];exact Em n.2 ((List.mem_cons.mp h).resolve_left e)
theorem lu{u:Val}{i:Int}:∀{xs:NV.Bg},cnt u (xs.map λp=>(p.1,i * p.2))=i * cnt u xs
 |[]=>by rw[Z',cnt,Int.mul_zero]
 |p::xs=>by
  rw[Zh,cnt,cnt,lu,Int.mul_add];split <;> simp
theorem Eo{u:Val}{g:Val->NV.Bg}{ws:List Val}(n:ws.Nodup):∀{xs:NV.Bg},(∀p∈xs,p.1∈ws)->cnt u (cG xs g)=sm ws λv=>cnt v xs * cnt u (g v)
 |[],_=>by rw[vY (λv _=>by rw[cnt,Int.zero_mul])];rfl
 |p::xs,h=>by
  have ih:=Eo (u:=u) (g:=g) n (xs:=xs) λq hq=>h q (Zc _ hq);have:cG (p::xs) g=((g p.1).map λq=>(q.1,p.2 * q.2))++cG xs g:=by unfold cG;rw[List.flatMap_cons]
  rw[this,fg,ih,lu,<- Em (g:=λv=>cnt u (g v)) (k:=p.2) n (h p Za),<- RN]
  congr 1;funext v
  rw[cnt,Int.add_mul]
mutual
theorem cm{σ τ:Vn}:∀(q:Qn)(ρ:Vn),ax q=[]->ah σ q ρ=ah τ q ρ
 |.num _,_,_=>rfl
 |.word _,_,_=>rfl
 |.var _,_,_=>rfl
 |.tab _,_,h=>nomatch h
 |.none _,_,_=>rfl
 |.row fs,ρ,h=>by rw[ah,ah,Ep fs ρ h]
 |.at f q,ρ,h=>by rw[ah,ah,cm q ρ h]
 |.add a b,ρ,h=>by obtain⟨x,y⟩:=List.append_eq_nil_iff.mp h;rw[ah,ah,cm a ρ x,cm b ρ y]
 |.mul a b,ρ,h=>by obtain⟨x,y⟩:=List.append_eq_nil_iff.mp h;rw[ah,ah,cm a ρ x,cm b ρ y]
 |.one q,ρ,h=>by rw[ah,ah,cm q ρ h]
 |.both a b,ρ,h=>by obtain⟨x,y⟩:=List.append_eq_nil_iff.mp h;rw[ah,ah,cm a ρ x,cm b ρ y]
 |.times i q,ρ,h=>by rw[ah,ah,cm q ρ h]
 |.for x a b,ρ,h=>by
  obtain⟨y,z⟩:=List.append_eq_nil_iff.mp h;rw[ah,ah,cm a ρ y]
  congr 3;funext v;rw[cm b _ z]
 |.aZ c q,ρ,h=>by obtain⟨x,y⟩:=List.append_eq_nil_iff.mp h;rw[ah,ah,jr c ρ x,cm q ρ y]
 |.let x a b,ρ,h=>by obtain⟨y,z⟩:=List.append_eq_nil_iff.mp h;rw[ah,ah,cm a ρ y,cm b _ z]
 |.same _ _,_,_=>rfl
 |.under _ _,_,_=>rfl
 |.and _ _,_,_=>rfl
 |.or _ _,_,_=>rfl
 |.not _,_,_=>rfl
theorem Ep{σ τ:Vn}:∀(fs:List (Str×Qn))(ρ:Vn),fT fs=[]->b5 σ fs ρ=b5 τ fs ρ
 |[],_,_=>rfl
 |(f,q)::r,ρ,h=>by obtain⟨x,y⟩:=List.append_eq_nil_iff.mp h;rw[b5,b5,cm q ρ x,Ep r ρ y]
theorem jr{σ τ:Vn}:∀(q:Qn)(ρ:Vn),ax q=[]->bu σ q ρ=bu τ q ρ
 |.same a b,ρ,h=>by obtain⟨x,y⟩:=List.append_eq_nil_iff.mp h;rw[bu,bu,cm a ρ x,cm b ρ y]
 |.under a b,ρ,h=>by obtain⟨x,y⟩:=List.append_eq_nil_iff.mp h;rw[bu,bu,cm a ρ x,cm b ρ y]
 |.and a b,ρ,h=>by obtain⟨x,y⟩:=List.append_eq_nil_iff.mp h;rw[bu,bu,jr a ρ x,jr b ρ y]
 |.or a b,ρ,h=>by obtain⟨x,y⟩:=List.append_eq_nil_iff.mp h;rw[bu,bu,jr a ρ x,jr b ρ y]
 |.not a,ρ,h=>by rw[bu,bu,jr a ρ h]
 |.num _,_,_=>rfl
 |.word _,_,_=>rfl
 |.var _,_,_=>rfl
 |.tab _,_,_=>rfl
 |.none _,_,_=>rfl
 |.row _,_,_=>rfl
 |.at _ _,_,_=>rfl
 |.add _ _,_,_=>rfl
 |.mul _ _,_,_=>rfl
 |.one _,_,_=>rfl
 |.both _ _,_,_=>rfl
 |.times _ _,_,_=>rfl
 |.for _ _ _,_,_=>rfl
 |.aZ _ _,_,_=>rfl
 |.let _ _ _,_,_=>rfl
end
structure Mv(ns:List Str)(σ:Cf->Vn):Prop where
 s:∀x,∃vs:List Val,∀c,∀p∈bv (σ c x),p.1∈vs
 p:∀x u,Py (if x∈ns then 1 else 0) λc=>cnt u (bv (σ c x))
structure Pq(ns:List Str)(σ:Cf->Vn)(q:Qn)(ρ:Vn):Prop where
 s:∃vs:List Val,∀c,∀p∈bv (ah (σ c) q ρ),p.1∈vs
 p:∀u,Py (aD ns q) λc=>cnt u (bv (ah (σ c) q ρ))
theorem ly{ns:List Str}{σ:Cf->Vn}{q:Qn}{ρ:Vn}(h:ax q=[]):Pq ns σ q ρ:=by
 have e:∀c,ah (σ c) q ρ=ah (σ λ_=>0) q ρ:=λc=>cm q ρ h;refine⟨⟨(bv (ah (σ λ_=>0) q ρ)).map (·.1),λc p hp=>List.mem_map.mpr ⟨p,by rw[e c]at hp;exact hp,rfl⟩⟩,λu=>?_⟩;rw[show (λc=>cnt u (bv (ah (σ c) q ρ)))=λ_=>cnt u (bv (ah (σ λ_=>0) q ρ)) from funext λc=>by rw[e c]];exact (Py.const _).up (Zj _)
theorem qx{ns:List Str}{σ:Cf->Vn}{q:Qn}{ρ:Vn}(h:∀c,bv (ah (σ c) q ρ)=[]):Pq ns σ q ρ:=⟨⟨[],λc p hp=>by rw[h]at hp;cases hp⟩,λu=>qw λc=>by rw[h];rfl⟩
theorem qy{u:Val}{xs:NV.Bg}:cnt u (nf xs)=cnt u xs:=(dT xs).2 u
theorem RP{ns:List Str}{S:Str->Option Kd}{σ:Cf->Vn}(hm:Mv ns σ):(∀{G q k},Ty S G q k->Ty S G q k/\(Ev q->∀ ρ,Pq ns σ q ρ)):=by
 refine (Ty.all (S:=S) (P:=λG q k=>Ty S G q k/\(Ev q->∀ ρ,Pq ns σ q ρ)) (L:=λG q k=>c0 S G q k) (C:=λG q=>b4 S G q) ?_ ?_ ?_ ?_ ?_ ?_ ?_ ?_ ?_ ?_ ?_ ?_ ?_ ?_ ?_ ?_ ?_ ?_ ?_ ?_ ?_ ?_ ?_).1
 ·exact λ{G i}=>⟨.num,λ_ ρ=>ly rfl⟩
 ·exact λ{G i}=>⟨.word,λ_ ρ=>ly rfl⟩
 ·exact λ{G x k}U=>⟨.var U,λ_ ρ=>ly rfl⟩
 ·exact λ{G x k}U=>⟨.tab U,λ_ ρ=>⟨hm.s x,hm.p x⟩⟩
 ·exact λ{G k}h1 h2=>⟨.none h1 h2,λ_ ρ=>ly rfl⟩
 ·exact λ{G fs ks}hl hn h=>⟨.row hl hn h,λ_ ρ=>qx λc=>rfl⟩
 ·exact λ{G f q ks k}hk h e0=>⟨.at hk h.1 e0,λev ρ=>ly (q:=.at f q) (ev.ae (q:=.at f q) (r:=q) rfl)⟩
 ·exact λ{G a b}ha hb=>⟨.add ha.1 hb.1,λ_ ρ=>qx λc=>rfl⟩
 ·exact λ{G a b}ha hb=>⟨.mul ha.1 hb.1,λ_ ρ=>qx λc=>rfl⟩
 ·exact λ{G q k}h=>⟨.one h.1,λev ρ=>ly (q:=.one q) (ev.ae (q:=.one q) (r:=q) rfl)⟩
 ·exact λ{G a b k}z ha hb=>⟨.both z ha.1 hb.1,λev ρ=>by
   obtain⟨⟨va,sa⟩,pa⟩:=ha.2 (ev.sub cT) ρ;obtain⟨⟨Wn,sb⟩,pb⟩:=hb.2 (ev.sub cC) ρ;refine⟨⟨va++Wn,λc p hp=>?_⟩,λu=>?_⟩
   ·rw[ah]at hp;obtain⟨q,hq,e⟩:=h8 hp;rw[<- e];exact List.mem_append.mpr ((List.mem_append.mp hq).imp (sa c q) (sb c q))
   ·rw[show (λc=>cnt u (bv (ah (σ c) (.both a b) ρ)))=λc=>cnt u (bv (ah (σ c) a ρ))+cnt u (bv (ah (σ c) b ρ)) from funext λc=>by rw[ah,bv,qy,fg]];exact .add ((pa u).up (ZI _ _)) ((pb u).up (ZQ _ _))⟩
 ·exact λ{G i a k}ha=>⟨.times ha.1,λev ρ=>by
   obtain⟨⟨va,sa⟩,pa⟩:=ha.2 (ev.sub (List.mem_singleton.mpr rfl)) ρ;refine⟨⟨va,λc p hp=>?_⟩,λu=>?_⟩
   ·rw[ah]at hp;obtain⟨q,hq,e⟩:=h8 hp;obtain⟨r,hr,rfl⟩:=List.mem_map.mp hq;rw[<- e];exact sa c r hr
   ·rw[show (λc=>cnt u (bv (ah (σ c) (.times i a) ρ)))=λc=>i * cnt u (bv (ah (σ c) a ρ)) from funext λc=>by rw[ah,bv,qy,lu]];have:=Py.mul (Py.const i) (pa u);rw[Nat.zero_add]at this;exact this⟩
 ·exact λ{G x a b k l}z ha hb=>⟨.for z ha.1 hb.1,λev ρ=>by
   obtain⟨⟨va,sa⟩,pa⟩:=ha.2 (ev.sub cT) ρ;have hb':=λv=>hb.2 (ev.sub cC) (ρ.put x v);obtain⟨ws,nw,Xi⟩:=RO va;refine⟨⟨ws.flatMap λv=>Classical.choose (hb' v).s,λc p hp=>?_⟩,λu=>?_⟩
   ·rw[ah]at hp;obtain⟨q,hq,e⟩:=h8 hp;obtain⟨r,hr,y,hy,rfl⟩:=vc hq;rw[<- e];exact List.mem_flatMap.mpr ⟨r.1,(Xi _).mpr (sa c r hr),Classical.choose_spec (hb' r.1).s c y hy⟩
   ·rw[show (λc=>cnt u (bv (ah (σ c) (.for x a b) ρ)))=λc=>sm ws λv=>cnt v (bv (ah (σ c) a ρ)) * cnt u (bv (ah (σ c) b (ρ.put x v))) from funext λc=>by rw[ah,bv,qy,Eo nw λp hp=>(Xi _).mpr (sa c p hp)]];exact El λv _=>.mul (pa v) ((hb' v).p u)⟩
 ·exact λ{G c a k}hc ha=>⟨.aZ hc ha.1,λev ρ=>by
   have tc:=vJ.2 hc (ev.sub cT);obtain⟨⟨va,sa⟩,pa⟩:=ha.2 (ev.sub cC) ρ;have e:∀d,bu (σ d) c ρ=bu (σ λ_=>0) c ρ:=λd=>jr c ρ tc;cases z:bu (σ λ_=>0) c ρ with
   |true=>
    have e2:∀d,ah (σ d) (.aZ c a) ρ=ah (σ d) a ρ:=λd=>(by rw[ah,e d,z,if_pos rfl]);refine⟨⟨va,λd p hp=>sa d p (by rw[<- e2];exact hp)⟩,λu=>?_⟩;rw[show (λd=>cnt u (bv (ah (σ d) (.aZ c a) ρ)))=λd=>cnt u (bv (ah (σ d) a ρ)) from funext λd=>by rw[e2]];exact pa u
   |false=>exact qx λd=>by rw[ah,e d,z,if_neg (by decide)];rfl⟩
 ·exact λ{G x a b k l}z ha hb=>⟨.let z ha.1 hb.1,λev ρ=>by
   have t0:ax a=[]:=ev.ae rfl;obtain⟨⟨Wn,sb⟩,pb⟩:=hb.2 (ev.sub cC) (ρ.put x (ah (σ λ_=>0) a ρ));have e:∀d,ah (σ d) (.let x a b) ρ=ah (σ d) b (ρ.put x (ah (σ λ_=>0) a ρ)):=λd=>(by rw[ah,cm a ρ t0]);refine⟨⟨Wn,λd p hp=>sb d p (by rw[<- e];exact hp)⟩,λu=>?_⟩;rw[show (λd=>cnt u (bv (ah (σ d) (.let x a b) ρ)))=λd=>cnt u (bv (ah (σ d) b (ρ.put x (ah (σ λ_=>0) a ρ)))) from funext λd=>by rw[e]];exact pb u⟩
 ·exact .nil
 ·exact λa b=>.cons a.1 b
 ·exact λa b=>.gD a.1 b.1
 ·exact λa b=>.gE a.1 b.1
 ·exact λa b=>.under a.1 b.1
 ·exact λa b=>.and a b
 ·exact λa b=>.or a b
 ·exact λa=>.not a
theorem RQ{ns:List Str}{S:Str->Option Kd}{σ:Cf->Vn}(hm:Mv ns σ){G:Sc}{q:Qn}{k:Kd}(ty:Ty S G q k)(ev:Ev q)(ρ:Vn){m:Nat}(h:aD ns q<m)(u:Val):((ZL (2 ^ m)).map λk=>sgn m k * cnt u (bv (ah (σ (cb k)) q ρ))).sum=0:=by
 rw[<- Ek m λc=>cnt u (bv (ah (σ c) q ρ))];exact Ei (((RP hm ty).2 ev ρ).p u) h _
variable{w:Wo}
noncomputable def RS:B:=(.cons (.cond (.cmp .Lt (.v 1) (.bi .len (.cons (.v 0) .nil))) (.cons (.ret (.ix (.v 0) (.v 1))) .nil) .nil) (.cons (.ret (.c (.int 0))) .nil))
theorem RT:aO ["script","k"] ["script","k"] (ao (ae 14)):=⟨rfl,rfl,rfl,by decide +kernel,rfl,by decide +kernel,by decide +kernel⟩
theorem RU:aQ nm 40 ["script","k"] (ao (ae 14)) (aH (ae 14))=RS:=by kernel_rfl
def Er:Sp:=λds M Q _=>∃(ns:List Int)(k:Int),ds=[.lst (ns.map D.int),.int k]/\0<=k/\∀c,Q (.int c) M
theorem RV(O:Lw w):FO w 8 1 Er:=by
 refine bh O.ok O.hn _ ⟨"_law_cell_at",ae 14,["script","k"]⟩ (by rw[O.hd];rfl) {} { cs:=trivial } RT RU λds M Q _ h=>?_;obtain⟨ns,k,rfl,h0,h⟩:=h;refine⟨rfl,aN (λe=>?_) λe=>aC (h 0)⟩;have e:k<(ns.map D.int).length:=of_decide_eq_true e;obtain⟨d,e1,e2⟩:=dS h0 e;obtain⟨c,_,rfl⟩:=List.mem_map.mp e2;exact⟨_,e1,aC (h c)⟩
noncomputable def kN:List Str:=bM.map (·.1)
theorem nQ{x:Str}{k:Kd}(h:kS x=some k):x∈kN:=List.mem_map.mpr ⟨_,di h,rfl⟩
theorem nR{x:Str}(h:x∈kN):∃k,kS x=some k:=by
 have:(lk x bM).isSome=true:=by rw[NQ.mZ];exact decide_eq_true h
 exact Option.isSome_iff_exists.mp this
structure Fe(q:Qn):Prop where
 ty:∃ κ,.ag κ∈AK/\Ty kS [] q (.ag κ)
 ev:Ev q
 UM:aD kN q<=3
 cq:cq q (λ_=>2)<=eG
 n:nq q<1000000
 d:dq q<=40
theorem RW{m:Nat}(h:m<=3):d7 [] m:=⟨λ_ z=>(nomatch z),by show 0+m<=40;lia,λ_ z=>(nomatch z)⟩
theorem RX:Fe (.tab "t"):=⟨⟨.num,by decide +kernel,.tab (by decide +kernel)⟩,.QY rfl rfl,by decide +kernel,by decide,by decide,by decide⟩
def Es:Sp:=λds M Q _=>∃c,ds=[.int c]/\∀q X,Fe q->Q (qD q) X
theorem vZ{ms:Sc}{x:Str}{k:Kd}{M:Mp}{Q:QK}(h:lk x ms=some k)(q:Q (kD k) M):aB (dR ms) (.str x) M Q:=⟨kD k,by rw[pS,nc,h];rfl,q⟩
theorem Et{d:D}{n:Nat}{m:Int}(h:d∈cF 0 n)(l:(n:Int)<=m):∃i:Int,d=.int i/\0<=i/\i<m:=by
 unfold cF at h;obtain⟨i,hi,rfl⟩:=List.mem_map.mp h;have:=List.mem_range.mp hi;exact⟨_,rfl,by lia,by lia⟩
noncomputable def RY:B:=(.cons (.loop (.one 1) (.gy (.c (.int 8))) (.cons (.set (.one 2) (.call 9 (.cons (.op .Add (.v 0) (.op .Mult (.c (.int 991)) (.v 1))) .nil))) (.cons (.set (.one 3) (.tup (.cons (.c (.str "bag")) (.cons (.ix (.call 18 .nil) (.ix (.lst (.cons (.c (.str "r")) (.cons (.c (.str "t")) .nil))) (.call 10 (.cons (.v 2) (.cons (.c (.int 2)) .nil))))) .nil)))) (.cons (.set (.one 4) (.call 26 (.cons (.v 3) (.cons (.lst .nil) (.cons (.op .Add (.c (.int 1)) (.call 10 (.cons (.v 2) (.cons (.c (.int 3)) .nil)))) (.cons (.v 2) .nil)))))) (.cons (.cond (.and (.call 6 (.cons (.v 4) .nil)) (.cmp .Lt (.call 7 (.cons (.v 4) (.cons (.lst (.cons (.c (.str "r")) (.cons (.c (.str "s")) (.cons (.c (.str "t")) (.cons (.c (.str "u")) (.cons (.c (.str "v")) .nil)))))) .nil))) (.c (.int 4)))) (.cons (.ret (.v 4)) .nil) .nil) .nil))))) (.cons (.ret (.tup (.cons (.c (.str "table")) (.cons (.c (.str "t")) .nil)))) .nil))
theorem RZ:aO ["cell","k","seed","kind","asked"] ["cell"] (ao (ae 39)):=⟨rfl,rfl,rfl,by decide +kernel,rfl,by decide +kernel,by decide +kernel⟩
theorem R0:aQ nm 40 ["cell","k","seed","kind","asked"] (ao (ae 39)) (aH (ae 39))=RY:=by kernel_rfl
noncomputable abbrev R1(w:Wo):bD w:={ cs:=[(9,uV),(18,kP),(10,gK),(26,fi 80),(6,D4),(7,vO)] }
theorem R2(O:Lw w):FO w 30 120 Es:=by
 refine bh O.ok O.hn _ ⟨"_law_first_even",ae 39,["cell"]⟩ (by rw[O.hd];rfl) (R1 w) { cs:=⟨⟨1,by decide,B0 O⟩,⟨1,by decide,nh O⟩,⟨1,by decide,ie O⟩,⟨106,by decide,(Dh O 80).a⟩,⟨4,by decide,Rw O⟩,⟨6,by decide,D6 O⟩,trivial⟩ } RZ R0 λds M Q _ h=>?_;obtain⟨c,rfl,h⟩:=h;refine⟨rfl,by decide,by decide,?_⟩;refine cZ (λxs τ M'=>(∀d∈xs,∃i:Int,d=.int i/\0<=i/\i<8)/\∃v1 v2 v3 v4,τ=[some (.int c),v1,v2,v3,v4]) ?_ ?_ _ _ _ ⟨λd hd=>?_,none,none,none,none,rfl⟩
 ·rintro τ M' ⟨_,v1,v2,v3,v4,rfl⟩;exact⟨trivial,.rfl ⟨l2,aC (h (.tab "t") _ RX)⟩⟩
 ·rintro x xs τ M' ⟨hi,v1,v2,v3,v4,rfl⟩;obtain⟨i,rfl,i0,i1⟩:=hi x Za;refine⟨trivial,λN hN=>?_⟩;have hN:∀ v1 v2 v3 v4 X,N [some (.int c),v1,v2,v3,v4] X:=λv1 v2 v3 v4 X=>hN _ _ ⟨λd hd=>hi d (Zc _ hd),v1,v2,v3,v4,rfl⟩;refine⟨U7 ⟨by lia,by lia⟩,_,rfl,λp o hp so=>⟨rfl,l2,.inl ⟨p,2,rfl,⟨o,ak,so⟩,by decide,by decide,λr X1 u1 r0 r1=>?_⟩⟩⟩;obtain⟨d,e1,e2⟩:=dS (xs:=[.str "r",.str "t"]) r0 r1;obtain⟨x,κ,rfl,U,hκ⟩:∃ x κ,d=.str x/\kS x=some κ/\.ag κ∈AK:=by
   simp only[ZN,ZF,or_false]at e2;rcases e2 with z |z
   ·exact⟨"r",jg,z,by decide +kernel,by decide +kernel⟩
   ·exact⟨"t",.num,z,by decide +kernel,by decide +kernel⟩
  refine⟨_,e1,vZ U ⟨l2,?_⟩⟩;have Uu:=dy hκ;refine⟨Zj _,.inl ⟨p,3,rfl,u1.hs,by decide,by decide,λr2 X2 u2 qj k6=>?_⟩⟩;have k6:r2<3:=k6;obtain⟨f,hf⟩:∃f:Nat,1+r2=(f:Int):=⟨(1+r2).toNat,by lia⟩;refine⟨.ag κ,[],1+r2,p,rfl,hκ,by unfold Rk;rw[UG];lia,RW (by lia),u2.hs,λq X3 u3 g=>?_⟩;rw[hf]at g;have f3:f<=3:=by lia
  have Eu:nq q<1000000:=Zd (Y9 g.n (Y9 (fh hκ).2.1 (Y9 (qh (show (f:Int).toNat<=3 by lia)) (by decide:zf 3<=2990)))) (by decide);have Rs:dq q<=9 * f+9:=Y9 g.d (fh hκ).2.2.2;have Ew:=(vz g.ty).w;have R3:dn q<500:=Zd (Y9 (bE q) Rs) (by lia);have R4:cq q (λ_=>2)<=eG:=Y9 (g.c 2 (Y8 _) _ λ_ _=>Y8 _) (Y9 (Zx (by decide) (nC (show (f:Int).toNat<=3 by lia))) (by decide:2 ^ Kf 3<=eG));refine⟨q,kN,rfl,Ew,Eu,(by decide:5<64),λx U=>?_,λe he=>?_⟩
  ·obtain⟨l,h⟩:=(vz g.ty).t x U;exact nQ h
  refine aN (λe1=>?_) λe1=>ai (by decide) (hN _ _ _ _ _);have ev:=he.mp e1;refine⟨l5,.inl ⟨q,kN,rfl,Ew,R3,?_⟩⟩;refine aN (λe2=>?_) λe2=>hN _ _ _ _ _;have hg:aD kN q<4:=by have:((aD kN q:Nat):Int)<4:=of_decide_eq_true e2;lia
  exact aC (h q _ ⟨⟨κ,hκ,g.ty⟩,ev,by lia,R4,Eu,by lia⟩)
 ·exact Et hd (by decide)
variable{w:Wo}
abbrev Nv:=List (Str×Str)
noncomputable def gQ(nv:Nv):List (Key×D):=nv.map λm=>(.inr m.1,.str m.2)
structure R5(nv:Nv):Prop where
 nd:(nv.map (·.1)).Nodup
 sub:∀p∈nv,p.1∈kN
 len:nv.length<=5
theorem qz{Q:QK}{M M':Mp}{p:Addr}{K:List (Key×D)}(hs:bC M M')(hp:M p=none)(h':M' p=some (.au K))(h:Q (dD K) M):bU Q (.ref p) M':=⟨M,_,hs,.au h' hp .rfl,h⟩
theorem R6{nv:Nv}{x y:Str}(h:x ∉ nv.map (·.1)):aY (gQ nv) (.inr x) (.str y)=gQ (nv++[(x,y)]):=by
 unfold aY;rw[if_neg]
 ·unfold gQ;simp
 ·intro z;obtain⟨kv,h1,h2⟩:=List.any_eq_true.mp z;unfold gQ at h1;obtain⟨m,hm,rfl⟩:=List.mem_map.mp h1;exact h (List.mem_map.mpr ⟨m,hm,aaY (of_decide_eq_true h2)⟩)
def Ex:Sp:=λds M Q _=>∃p,ds=[.ref p,.str "d"]/\Hs M p/\∀nv X,Sx M p X->R5 nv->Q (dD (gQ nv)) X
theorem R7{x:Str}(U:x∈kN):("d" : Str).length+x.length<=sizeLine:=Y9 ((by decide +kernel:∀x∈kN,("d" : Str).length+x.length<=100) x U) (by decide)
noncomputable def R8:B:=.cons (.ret (.v 2)) .nil
noncomputable def R9:B:=.cons (.loop (.one 3) (.seq (.lst (.cons (.c (.str "r")) (.cons (.c (.str "s")) (.cons (.c (.str "t")) (.cons (.c (.str "u")) (.cons (.c (.str "v")) .nil))))))) (.cons (.cond (.cmp .Gt (.call 10 (.cons (.v 0) (.cons (.c (.int 4)) .nil))) (.c (.int 0))) (.cons (.put (.v 2) (.v 3) (.op .Add (.v 1) (.v 3))) .nil) .nil) .nil)) R8
noncomputable def R':B:=.cons (.set (.one 2) .i8) R9
theorem Se:aO ["seed","mark","names","name"] ["seed","mark"] (ao (ae 37)):=⟨rfl,rfl,rfl,by decide +kernel,rfl,by decide +kernel,by decide +kernel⟩
theorem Sf:aQ nm 40 ["seed","mark","names","name"] (ao (ae 37)) (aH (ae 37))=R':=by kernel_rfl
theorem Sg(O:Lw w):FO w 29 2 Ex:=by
 refine bh O.ok O.hn _ ⟨"_law_names",ae 37,["seed","mark"]⟩ (by rw[O.hd];rfl) { cs:=[(10,gK)] } { cs:=⟨⟨1,by decide,ie O⟩,trivial⟩ } Se Sf λds M Q _ h=>?_;obtain⟨p,rfl,hp,h⟩:=h;have kn:kN.Nodup:=by decide +kernel
 refine⟨rfl,.inr λpn im=>⟨l5,.inl ?_⟩⟩;have d8:pn≠p:=by obtain⟨o,e,_⟩:=hp;exact ZO (b7 e im)
 refine cZ (λxs τ M'=>∃rest pre nv u X,xs=rest.map D.str/\kN=pre++rest/\((nv.map (·.1)).Nodup/\(∀p∈nv,p.1∈pre)/\nv.length<=pre.length)/\τ=[some (.ref p),some (.str "d"),some (.ref pn),u]/\Sx M p X/\M'=up X pn (.au (gQ nv))) ?_ ?_ _ _ _ ⟨kN,[],[],none,M,rfl,rfl,⟨.nil,(λ_ z=>nomatch z),Y8 _⟩,rfl,.rfl hp,rfl⟩
 ·rintro τ M' ⟨rest,pre,nv,u,X,e1,e2,hv,rfl,s,rfl⟩;have:rest=[]:=by simpa using e1.symm
  subst this;rw[Zu]at e2;refine⟨trivial,.rfl ?_⟩;have xn:X pn=none:=by rw[s.ne d8];exact im
  exact qz (hY xn rfl) xn ak (h nv X s ⟨hv.1,λp hp=>by rw[e2];exact hv.2.1 p hp,by have:=hv.2.2;rw[<- e2]at this;exact this⟩)
 ·rintro y xs τ M' ⟨rest,pre,nv,u,X,e1,e2,hv,rfl,s,rfl⟩;cases rest with
  |nil=>cases e1
  |cons x rest=>
   cases e1;have U:x∈kN:=(by rw[e2];simp);have nx:x ∉ pre:=λz=>(by rw[e2]at kn;exact (List.nodup_append.mp kn).2.2 x z x Za rfl);have Ey:x ∉ nv.map (·.1):=λz=>by obtain⟨q,hq,e⟩:=List.mem_map.mp z;have e:q.1=x:=e;exact nx (e ▸ hv.2.1 q hq)
   have pl:pre.length<=5:=by have:=congrArg aaI e2;rw[Zi]at this;have:kN.length=5:=rfl;lia
   have hl:=hv.2.2;have hs:Hs (up X pn (.au (gQ nv))) p:=(by obtain⟨o,e,so⟩:=s.hs;exact⟨o,by rw[av (ZO d8)];exact e,so⟩);have d5:kN=(pre++[x])++rest:=(by rw[e2];simp);refine⟨trivial,λN hN=>⟨p,4,rfl,hs,by decide,by decide,λr Y u2 _ _=>?_⟩⟩;obtain⟨o2,qA,rfl⟩:=u2;have s2:Sx M p (up X p o2):=s.tr ⟨o2,qA,rfl⟩;rw[fQ d8];refine aN (λ_=>?_) λ_=>?_
   ·refine⟨R7 U,.inr ⟨_,ak,Zd (by unfold gQ;rw[Y6];lia:_<=5) (by decide),hN _ _ ⟨rest,pre++[x],nv++[(x,"d"++x)],_,_,rfl,d5,⟨?_,λq hq=>?_,?_⟩,rfl,s2,?_⟩⟩⟩
    ·rw[Zt];exact BS hv.1 Ey
    ·rcases List.mem_append.mp hq with z |z
     ·exact ZG _ (hv.2.1 q z)
     ·rw[List.mem_singleton.mp z];simp
    ·simp;lia
    ·rw[_root_.N.bj,R6 Ey]
   ·exact hN _ _ ⟨rest,pre++[x],nv,_,_,rfl,d5,⟨hv.1,λq hq=>ZG _ (hv.2.1 q hq),by simp;lia⟩,rfl,s2,rfl⟩
structure Vl(x:Str)(v:Val)(L:Nat):Prop where
 h:∀k,kS x=some k->aG (.ag k) v
 b:Bd 2 v L
 c:∀p∈bv v,p.2.natAbs<=L * 2 ^ 40
structure Rp(n:Nat)(K:List (Key×D))(σ:Vn):Prop where
 len:K.length<=n
 v:∀x∈kN,aX K (.inr x)=some (vD (σ x))
def Ez:Sp:=λds M Q _=>∃p,ds=[.ref p]/\Hs M p/\∀K σ X,Sx M p X->Rp 5 K σ->(∀x∈kN,Vl x (σ x) 3)->Q (dD K) X
noncomputable def Si:B:=.cons (.ret (.v 2)) .nil
noncomputable def Sj:B:=.cons (.loop (.one 3) (.seq (.bi .sorted (.cons (.v 1) .nil))) (.cons (.put (.v 2) (.v 3) (.call 17 (.cons (.tup (.cons (.c (.str "bag")) (.cons (.ix (.v 1) (.v 3)) .nil))) (.cons (.v 0) (.cons (.c (.int 0)) .nil))))) .nil)) Si
noncomputable def Sk:B:=.cons (.set (.one 2) .i8) Sj
noncomputable def Sl:B:=.cons (.set (.one 1) (.call 18 .nil)) Sk
theorem Sm:aO ["seed","kinds","store","name"] ["seed"] (ao (ae 25)):=⟨rfl,rfl,rfl,by decide +kernel,rfl,by decide +kernel,by decide +kernel⟩
theorem Sn:aQ nm 40 ["seed","kinds","store","name"] (ao (ae 25)) (aH (ae 25))=Sl:=by kernel_rfl
theorem wc{x:Str}{k:Kd}(h:kS x=some k):.ag k∈AK/\kd (.ag k)<=10:=by
 have:∀p∈bM,Kd.ag p.2∈AK/\kd (.ag p.2)<=10:=by decide +kernel
 exact this _ (di h)
theorem So(O:Lw w):FO w 19 34 Ez:=by
 refine bh O.ok O.hn _ ⟨"_law_store",ae 25,["seed"]⟩ (by rw[O.hd];rfl) { cs:=[(18,kP),(17,nA 9)] } { cs:=⟨⟨1,by decide,nh O⟩,⟨33,by decide,p8 O 9⟩,trivial⟩ } Sm Sn λds M Q _ h=>?_;obtain⟨p,rfl,hp,h⟩:=h;refine⟨rfl,rfl,.inr λpn im=>.inl ⟨kN,?_,?_,λns pm _=>.inl ?_⟩⟩
 ·rfl
 ·decide
 have d8:pn≠p:=by obtain⟨o,e,_⟩:=hp;exact ZO (b7 e im)
 have nd:ns.Nodup:=pm.nodup_iff.mpr (by decide +kernel);have hl:ns.length=5:=pm.length_eq;refine cZ (λxs τ M'=>∃rest pre K σ u X,xs=rest.map D.str/\ns=pre++rest/\(K.length<=pre.length/\∀x∈pre,aX K (.inr x)=some (vD (σ x))/\Vl x (σ x) 3)/\τ=[some (.ref p),some (dR bM),some (.ref pn),u]/\Sx M p X/\M'=up X pn (.au K)) ?_ ?_ _ _ _ ⟨ns,[],[],λ_=>.num 0,none,M,rfl,rfl,⟨Y8 _,λ_ z=>nomatch z⟩,rfl,.rfl hp,rfl⟩
 ·rintro τ M' ⟨rest,pre,K,σ,u,X,e1,e2,hv,rfl,s,rfl⟩;have:rest=[]:=by simpa using e1.symm
  subst this;rw[Zu]at e2;subst e2;refine⟨trivial,.rfl ?_⟩;have xn:X pn=none:=by rw[s.ne d8];exact im
  exact qz (hY xn rfl) xn ak (h K σ X s ⟨by lia,λx U=>(hv.2 x (pm.mem_iff.mpr U)).1⟩ λx U=>(hv.2 x (pm.mem_iff.mpr U)).2)
 ·rintro y xs τ M' ⟨rest,pre,K,σ,u,X,e1,e2,hv,rfl,s,rfl⟩;cases rest with
  |nil=>cases e1
  |cons x rest=>
   cases e1;have U:x∈kN:=pm.mem_iff.mp (by rw[e2];simp);have nx:x ∉ pre:=λz=>(by rw[e2]at nd;exact (List.nodup_append.mp nd).2.2 x z x Za rfl);have pl:pre.length<=5:=by have:=congrArg aaI e2;rw[Zi]at this;lia
   have hl:=hv.1;obtain⟨o,UK,so⟩:=s.hs;have d5:ns=(pre++[x])++rest:=(by rw[e2];simp);obtain⟨k,hk⟩:=nR U;obtain⟨VO,nS⟩:=wc hk;refine⟨trivial,λN hN=>vZ hk ⟨l2,.ag k,p,0,o,rfl,VO,nS,.inl rfl,by rw[av (ZO d8)];exact UK,so,λv o' v0 eO hb=>?_⟩⟩;have s2:Sx M p (up X p o'):=s.tr ⟨o',v0,rfl⟩;rw[fQ d8];refine .inr ⟨_,ak,Zd (by lia:_<=5) (by decide),hN _ _ ⟨rest,pre++[x],aY K (.inr x) (vD v),Vn.put σ x v,_,_,rfl,d5,⟨?_,λq hq=>?_⟩,rfl,s2,?_⟩⟩
   ·have:=iK K (.inr x) (vD v);simp;lia
   ·rw[qn];unfold Vn.put;by_cases e:q=x
    ·subst e;rw[if_pos rfl,if_pos rfl];exact⟨rfl,λk' e'=>by rw[hk]at e';cases e';exact eO,hb.1.1,hb.2⟩
    ·rw[if_neg (λz=>e (aaY z)),if_neg e];exact hv.2 q ((List.mem_append.mp hq).resolve_right λz=>e (List.mem_singleton.mp z))
   ·rw[_root_.N.bj]
variable{w:Wo}
noncomputable def b6(ns:List Str)(δ:Vn):List (Key×D):=ns.map λx=>(.inr x,vD (δ x))
theorem EA{ns:List Str}{δ:Vn}{x:Str}{v:Val}(h:x ∉ ns):aY (b6 ns δ) (.inr x) (vD v)=b6 (ns++[x]) (δ.put x v):=by
 unfold aY;rw[if_neg]
 ·unfold b6 Vn.put;rw[Zt]
  congr 1
  ·exact aak λy hy=>by rw[if_neg (λe:y=x=>h (e ▸ hy))]
  ·simp
 ·intro z;obtain⟨kv,h1,h2⟩:=List.any_eq_true.mp z;unfold b6 at h1;obtain⟨m,hm,rfl⟩:=List.mem_map.mp h1;exact h (by rw[<- aaY (of_decide_eq_true h2)];exact hm)
theorem Sq{ns:List Str}{δ:Vn}{x:Str}(h:x∈ns):aX (b6 ns δ) (.inr x)=some (vD (δ x)):=by
 induction ns with
 |nil=>cases h
 |cons y ns ih=>
  unfold b6 at ih ⊢;rw[Zh,fS];by_cases e:y=x
  ·rw[if_pos (by rw[e]),e]
  ·rw[if_neg (λz=>e (aaY z))];exact ih ((List.mem_cons.mp h).resolve_left λz=>e z.symm)
def qB(ns:List Str):Prop:=ns.Nodup/\(∀x∈ns,x∈kN)/\ns.length<=5
def EC:Sp:=λds M Q _=>∃p ns,ds=[.ref p,.lst (ns.map D.str),.int 1]/\qB ns/\Hs M p/\∀ δ X,Sx M p X->(∀x∈ns,Vl x (δ x) 3)->Q (dD (b6 ns δ)) X
noncomputable def Sr:B:=.cons (.ret (.v 4)) .nil
noncomputable def Ss:B:=.cons (.loop (.one 5) (.seq (.v 1)) (.cons (.cond (.or (.cmp .Eq (.v 2) (.c (.int 0))) (.cmp .Gt (.call 10 (.cons (.v 0) (.cons (.c (.int 3)) .nil))) (.c (.int 0)))) (.cons (.put (.v 4) (.v 5) (.call 17 (.cons (.tup (.cons (.c (.str "bag")) (.cons (.ix (.v 3) (.v 5)) .nil))) (.cons (.v 0) (.cons (.c (.int 0)) .nil))))) .nil) (.cons (.put (.v 4) (.v 5) (.tup (.cons (.c (.str "bag")) (.cons (.tup .nil) .nil)))) .nil)) .nil)) Sr
noncomputable def Su:B:=.cons (.set (.one 4) .i8) Ss
noncomputable def Sv:B:=.cons (.set (.one 3) (.call 18 .nil)) Su
theorem Sy:aO ["seed","names","way","kinds","change","name"] ["seed","names","way"] (ao (ae 33)):=⟨rfl,rfl,rfl,by decide +kernel,rfl,by decide +kernel,by decide +kernel⟩
theorem Sz:aQ nm 40 ["seed","names","way","kinds","change","name"] (ao (ae 33)) (aH (ae 33))=Sv:=by kernel_rfl
theorem SA(O:Lw w):FO w 27 34 EC:=by
 refine bh O.ok O.hn _ ⟨"_law_change",ae 33,["seed","names","way"]⟩ (by rw[O.hd];rfl) { cs:=[(10,gK),(18,kP),(17,nA 9)] } { cs:=⟨⟨1,by decide,ie O⟩,⟨1,by decide,nh O⟩,⟨33,by decide,p8 O 9⟩,trivial⟩ } Sy Sz λds M Q _ h=>?_;obtain⟨p,ns,rfl,⟨nd,hsub,hl⟩,hp,h⟩:=h;refine⟨rfl,rfl,.inr λpn im=>?_⟩;have d8:pn≠p:=by obtain⟨o,e,_⟩:=hp;exact ZO (b7 e im)
 refine cZ (λxs τ M'=>∃rest pre δ u X,xs=rest.map D.str/\ns=pre++rest/\(∀x∈pre,Vl x (δ x) 3)/\τ=[some (.ref p),some (.lst (ns.map D.str)),some (.int 1),some (dR bM),some (.ref pn),u]/\Sx M p X/\M'=up X pn (.au (b6 pre δ))) ?_ ?_ _ _ _ ⟨ns,[],λ_=>.num 0,none,M,rfl,rfl,(λ_ z=>nomatch z),rfl,.rfl hp,rfl⟩
 ·rintro τ M' ⟨rest,pre,δ,u,X,e1,e2,hv,rfl,s,rfl⟩;have:rest=[]:=by simpa using e1.symm
  subst this;rw[Zu]at e2;subst e2;refine⟨trivial,.rfl ?_⟩;have xn:X pn=none:=by rw[s.ne d8];exact im
  exact qz (hY xn rfl) xn ak (h δ X s hv)
 ·rintro y xs τ M' ⟨rest,pre,δ,u,X,e1,e2,hv,rfl,s,rfl⟩;cases rest with
  |nil=>cases e1
  |cons x rest=>
   cases e1;have U:x∈kN:=hsub _ (by rw[e2];simp);have nx:x ∉ pre:=λz=>(by rw[e2]at nd;exact (List.nodup_append.mp nd).2.2 x z x Za rfl);have pl:pre.length<=5:=by have:=congrArg aaI e2;rw[Zi]at this;lia
   have d5:ns=(pre++[x])++rest:=(by rw[e2];simp);obtain⟨k,hk⟩:=nR U;obtain⟨VO,nS⟩:=wc hk;have hs:Hs (up X pn (.au (b6 pre δ))) p:=(by obtain⟨o,e,so⟩:=s.hs;exact⟨o,by rw[av (ZO d8)];exact e,so⟩);refine⟨trivial,λN hN=>?_⟩;have fin:∀X' v,Sx M p X'->Vl x v 3->N [some (.ref p),some (.lst (ns.map D.str)),some (.int 1),some (dR bM),some (.ref pn),some (.str x)] (up X' pn (.au (b6 (pre++[x]) (Vn.put δ x v)))):=λX' v s' hb=>hN _ _ ⟨rest,pre++[x],Vn.put δ x v,_,X',rfl,d5,λq hq=>by
    unfold Vn.put;by_cases e:q=x
    ·rw[if_pos e,e];exact hb
    ·rw[if_neg e];exact hv q ((List.mem_append.mp hq).resolve_right λz=>e (List.mem_singleton.mp z)),rfl,s',rfl⟩
   have len:(b6 pre δ).length<sizeLine:=Zd (by unfold b6;rw[Y6];exact pl) (by decide);refine cz (ai (by decide) ⟨p,3,rfl,hs,by decide,by decide,λr Y u2 _ _=>?_⟩);obtain⟨o2,qA,rfl⟩:=u2;have s2:Sx M p (up X p o2):=s.tr ⟨o2,qA,rfl⟩;rw[fQ d8];refine aN (λ_=>?_) λ_=>?_
   ·refine vZ hk ⟨l2,.ag k,p,0,o2,rfl,VO,nS,.inl rfl,by rw[av (ZO d8)];exact ak,qA,λv o' v0 eO hb=>?_⟩;rw[fQ d8,_root_.N.bj];refine .inr ⟨_,ak,len,?_⟩;rw[_root_.N.bj,EA nx];exact fin _ v (s.tr ⟨o',v0,rfl⟩) ⟨λk' e'=>by rw[hk]at e';cases e';exact eO,hb.1.1,hb.2⟩
   ·refine⟨Zj _,l2,.inr ⟨_,ak,len,?_⟩⟩;rw[_root_.N.bj];have:=EA (v:=.ag []) (δ:=δ) nx;rw[kU]at this;exact (congrArg (λz=>N _ (up (up X p o2) pn (.au z))) this).mpr (fin _ (.ag []) s2 ⟨λk' _=>⟨[],rfl,⟨.nil,λ_ z=>nomatch z⟩,λ_ z=>nomatch z⟩,by rw[Bd];exact⟨Zj _,trivial⟩,λ_ z=>nomatch z⟩)
variable{w:Wo}
noncomputable def gR(σ:Vn)(ns:List Str)(δ:Vn):Vn:=λx=>if x∈ns then .ag (nf (bv (σ x)++bv (δ x))) else σ x
def ED:Sp:=λds M Q _=>∃K σ ns δ L n,ds=[dD K,dD (b6 ns δ)]/\qB ns/\(Rp n K σ/\n<=900)/\L<=100/\(∀x∈kN,Vl x (σ x) L)/\(∀x∈ns,Vl x (δ x) 3)/\∀K',Rp (n+5) K' (gR σ ns δ)->Q (dD K') M
noncomputable def SD:B:=.cons (.ret (.v 2)) .nil
noncomputable def SE:B:=.cons (.loop (.one 3) (.seq (.v 1)) (.cons (.set (.one 4) (.lst .nil)) (.cons (.ex (.call 13 (.cons (.v 4) (.cons (.ix (.v 0) (.v 3)) (.cons (.c (.int 1)) .nil))))) (.cons (.ex (.call 13 (.cons (.v 4) (.cons (.ix (.v 1) (.v 3)) (.cons (.c (.int 1)) .nil))))) (.cons (.put (.v 2) (.v 3) (.call 12 (.cons (.v 4) .nil))) .nil))))) SD
noncomputable def SF:B:=.cons (.set (.one 2) (.bi .dict (.cons (.v 0) .nil))) SE
theorem SG:aO ["store","change","found","name","counts"] ["store","change"] (ao (ae 34)):=⟨rfl,rfl,rfl,by decide +kernel,rfl,by decide +kernel,by decide +kernel⟩
theorem SH:aQ nm 40 ["store","change","found","name","counts"] (ao (ae 34)) (aH (ae 34))=SF:=by kernel_rfl
theorem SJ{K:List (Key×D)}{M:Mp}:ij (dD K) K M:=.inl rfl
theorem SK{ns:List Str}{δ:Vn}:(((b6 ns δ).map (·.1)).zip ((b6 ns δ).map (·.2))).map (λp=>g9 p.1)=ns.map D.str:=by
 rw[h7];unfold b6;rw[Z6];rfl
theorem qC(ps:NV.Bg):sc 1 ps=ps:=by
 unfold sc;conv=>rhs;rw[<- List.map_id ps]
 exact aak λp _=>by simp
theorem SM(O:Lw w):FO w 28 30 ED:=by
 refine bh O.ok O.hn _ ⟨"_law_with",ae 34,["store","change"]⟩ (by rw[O.hd];rfl) { cs:=[(13,nu),(12,kZ)] } { cs:=⟨⟨1,by decide,p5 O⟩,⟨23,by decide,ny O⟩,trivial⟩ } SG SH λds M Q _ h=>?_;obtain⟨K,σ,ns,δ,L,n,rfl,⟨nd,hsub,hl⟩,⟨rp,hn⟩,hL,hσ,hδ,h⟩:=h;refine⟨rfl,Dl SJ (.inr λpd gN=>?_)⟩;refine cZ (λxs τ M'=>∃rest pre K' u v,xs=rest.map D.str/\ns=pre++rest/\Rp (n+pre.length) K' (gR σ pre δ)/\τ=[some (dD K),some (dD (b6 ns δ)),some (.ref pd),u,v]/\bC M M'/\M' pd=some (.au K')) ?_ ?_ _ _ _ ⟨ns,[],K,none,none,SK,rfl,rp,rfl,hY gN rfl,ak⟩
 ·rintro τ M' ⟨rest,pre,K',u,v,e1,e2,hv,rfl,s,hp⟩;have:rest=[]:=by simpa using e1.symm
  subst this;rw[Zu]at e2;subst e2;exact⟨trivial,.rfl (qz s gN hp (h K' ⟨by have:=hv.len;lia,hv.v⟩))⟩
 ·rintro y xs τ M' ⟨rest,pre,K',u,v,e1,e2,hv,rfl,s,hp⟩;cases rest with
  |nil=>cases e1
  |cons x rest=>
   cases e1;have qE:x∈ns:=(by rw[e2];simp);have U:x∈kN:=hsub _ qE;have nx:x ∉ pre:=λz=>(by rw[e2]at nd;exact (List.nodup_append.mp nd).2.2 x z x Za rfl);have pl:pre.length<=5:=by have:=congrArg aaI e2;rw[Zi]at this;lia
   have d5:ns=(pre++[x])++rest:=(by rw[e2];simp);obtain⟨k,hk⟩:=nR U;obtain⟨VO,nS⟩:=wc hk;rw[kd]at nS;have a1:=(hσ x U).h k hk;have a2:=(hδ x qE).h k hk;obtain⟨ea,_,ra⟩:=bV a1;obtain⟨eb,_,YB⟩:=bV a2;obtain⟨la,pa⟩:=nN a1 (hσ x U).b;obtain⟨lb,pb⟩:=nN a2 (hδ x qE).b;refine⟨trivial,λN hN=>⟨Zj _,.inr λpc a6=>?_⟩⟩;have nn:pc≠pd:=ZO (b7 hp a6);have er:200<sizeLine:=(by decide);refine⟨_,by rw[h7];exact rp.v x U,?_⟩;refine⟨pc,[],bv (σ x),1,by rw[<- ea];rfl,ak,by show 0+_<_;lia,λq _=>kL ⟨by decide,by decide⟩,?_⟩;rw[_root_.N.bj];refine⟨_,by rw[h7];exact Sq qE,?_⟩;refine⟨pc,[]++sc 1 (bv (σ x)),bv (δ x),1,by rw[<- eb];rfl,ak,by rw[qC];simp only[aaw];lia,λq _=>kL ⟨by decide,by decide⟩,?_⟩;rw[_root_.N.bj,qC,qC,aaw];refine⟨pc,bv (σ x)++bv (δ x),k,rfl,ak,by rw[Zi];lia,by lia,λp eY=>?_,?_⟩
   ·have b2:(2:Nat)<sizeLine:=(by decide);rcases List.mem_append.mp eY with z |z
    ·exact⟨ra p z,Bd.ok b2 b2 (pa p z).2⟩
    ·exact⟨YB p z,Bd.ok b2 b2 (pb p z).2⟩
   ·refine .inr ⟨_,by rw[av (ZO nn)];exact hp,Zd (Y9 hv.len (by lia:_<=1000)) (by decide),hN _ _ ⟨rest,pre++[x],_,_,_,rfl,d5,⟨?_,λq hq=>?_⟩,rfl,kM (kM s (bC.no s a6) rfl) gN rfl,ak⟩⟩
    ·have:=iK K' (.inr x) (vD (.ag (nf (bv (σ x)++bv (δ x)))));have:=hv.len;simp;lia
    ·rw[qn];unfold gR;by_cases e:q=x
     ·subst e;rw[if_pos rfl,if_pos (by simp)]
     ·rw[if_neg (λz=>e (aaY z)),hv.v q hq];unfold gR;by_cases m:q∈pre
      ·rw[if_pos m,if_pos (ZG _ m)]
      ·rw[if_neg m,if_neg (λz=>(List.mem_append.mp z).elim m λz=>e (List.mem_singleton.mp z))]
variable{w:Wo}
theorem EE{u:Val}{xs:NV.Bg}{B:Nat}(c:Cn xs)(h:∀p∈xs,p.2.natAbs<=B):(cnt u xs).natAbs<=B:=by
 by_cases m:∃p∈xs,p.1=u
 ·obtain⟨p,hp,rfl⟩:=m;rw[c.get hp];exact h p hp
 ·rw[B7 λp hp e=>m ⟨p,hp,e⟩];exact Zj _
theorem SN{σ δ:Vn}{ns:List Str}{x:Str}{L:Nat}(U:x∈kN)(hL:L<=100)(h:Vl x (σ x) L)(g:x∈ns->Vl x (δ x) 3):Vl x (gR σ ns δ x) (L+3):=by
 unfold gR;by_cases m:x∈ns
 ·rw[if_pos m];have g:=g m;obtain⟨k,hk⟩:=nR U;have a1:=h.h k hk;have a2:=g.h k hk;obtain⟨_,c1,r1⟩:=bV a1;obtain⟨_,c2,r2⟩:=bV a2;obtain⟨l1,b1⟩:=nN a1 h.b;obtain⟨l2,b2⟩:=nN a2 g.b;have Vb:∀ p∈nf (bv (σ x)++bv (δ x)),p.2.natAbs<=(L+3) * 2 ^ 40:=λp hp=>by
   have e:=(dT (bv (σ x)++bv (δ x))).1.get hp;rw[(dT _).2,fg]at e;have e1:=EE (u:=p.1) c1 h.c;have e2:=EE (u:=p.1) c2 g.c;rw[Nat.add_mul];lia
  refine⟨λk' e=>?_,?_,Vb⟩
  ·rw[hk]at e;cases e;exact nk λp hp=>(List.mem_append.mp hp).elim (r1 p) (r2 p)
  ·rw[Bd];refine⟨Y9 (u9 _) (by rw[Zi];lia),pY.mpr λp hp=>⟨?_,?_⟩⟩
   ·refine Zd (Y9 (Vb p hp) (ZE _ (by lia:L+3<=103))) (aaQ (by decide) vi)
   ·obtain⟨q,hq,e⟩:=h8 hp;rw[<- e];exact (List.mem_append.mp hq).elim (λz=>(b1 q z).2) λz=>(b2 q z).2
 ·rw[if_neg m];exact⟨h.h,h.b.up (Y8 _) (by lia),λp hp=>Y9 (h.c p hp) (ZE _ (by lia))⟩
noncomputable def lt(σ:Vn)(ns:List Str)(δ:Nat->Vn):Nat->Nat->Vn
 | 0,_=>σ
 |j+1,c=>if c.testBit j then gR (lt σ ns δ j c) ns (δ j) else lt σ ns δ j c
noncomputable def sg(σ:Vn)(ns:List Str)(δ:Nat->Vn):Nat->Cf->Vn
 | 0,_=>σ
 |j+1,c=>λx=>if x∈ns then .ag (nf (bv (sg σ ns δ j c x)++(bv (δ j x)).map λp=>(p.1,c j * p.2))) else sg σ ns δ j c x
theorem nT{σ:Vn}{ns:List Str}{δ:Nat->Vn}{j:Nat}{c:Cf}{x:Str}:sg σ ns δ (j+1) c x=if x∈ns then .ag (nf (bv (sg σ ns δ j c x)++(bv (δ j x)).map λp=>(p.1,c j * p.2))) else sg σ ns δ j c x:=rfl
theorem we{σ:Vn}{ns:List Str}{δ:Nat->Vn}{m:Nat}(hm:m<=10)(h:∀x∈kN,Vl x (σ x) 3)(g:∀j,j<m->∀x∈ns,Vl x (δ j x) 3)(c:Nat):∀j,j<=m->∀x∈kN,Vl x (lt σ ns δ j c x) (3+3 * j)
 | 0,_,x,U=>h x U
 |j+1,l,x,U=>by
  have ih:=we hm h g c j (by lia) x U;rw[lt];by_cases b:c.testBit j
  ·rw[if_pos b];exact SN U (show 3+3 * j<=100 by lia) ih (g j (by lia) x)
  ·rw[if_neg b];exact⟨ih.h,ih.b.up (Y8 _) (by lia),λp hp=>Y9 (ih.c p hp) (ZE _ (by lia))⟩
theorem SO{σ:Vn}{ns:List Str}{δ:Nat->Vn}(hs:∀x∈ns,x∈kN)(h:∀x∈kN,Vl x (σ x) 3){x:Str}(U:x∈ns)(c:Cf):∀j,sg σ ns δ j c x=.ag (bv (sg σ ns δ j c x))/\Cn (bv (sg σ ns δ j c x))
 | 0=>by
  obtain⟨k,hk⟩:=nR (hs x U);have:=bV ((h x (hs x U)).h k hk);exact⟨this.1,this.2.1⟩
 |j+1=>by
  rw[nT,if_pos U];exact⟨rfl,(dT _).1⟩
theorem EF{σ:Vn}{ns:List Str}{δ:Nat->Vn}(hs:∀x∈ns,x∈kN)(h:∀x∈kN,Vl x (σ x) 3)(c:Nat):∀j,lt σ ns δ j c=sg σ ns δ j (cb c)
 | 0=>rfl
 |j+1=>by
  funext x;rw[lt,nT,EF hs h c j];by_cases m:x∈ns
  ·rw[if_pos m];by_cases b:c.testBit j
   ·have e:cb c j=1:=(by unfold cb;rw[if_pos b]);rw[if_pos b,gR,if_pos m,e];have:(bv (δ j x)).map (λp=>(p.1,(1:Int) * p.2))=bv (δ j x):=qC _;rw[this]
   ·have e:cb c j=0:=(by unfold cb;rw[if_neg b]);rw[if_neg b,e];obtain⟨a1,a2⟩:=SO (δ:=δ) hs h m (cb c) j;have:nf (bv (sg σ ns δ j (cb c) x)++(bv (δ j x)).map λp=>(p.1,(0:Int) * p.2))=bv (sg σ ns δ j (cb c) x):=by
     refine (nj a2 λv=>?_).symm;rw[fg,lu,Int.zero_mul,Int.add_zero]
    rw[this];exact a1
  ·rw[if_neg m];split
   ·rw[gR,if_neg m]
   ·rfl
theorem EG{σ:Vn}{ns:List Str}{δ:Nat->Vn}:∀j,Mv ns (sg σ ns δ j)
 | 0=>⟨λx=>⟨(bv (σ x)).map (·.1),λ_ p hp=>List.mem_map.mpr ⟨p,hp,rfl⟩⟩,λx u=>(Py.const (cnt u (bv (σ x)))).up (Zj _)⟩
 |j+1=>by
  have ih:=EG (σ:=σ) (ns:=ns) (δ:=δ) j;refine⟨λx=>?_,λx u=>?_⟩
  ·obtain⟨vs,hv⟩:=ih.s x;refine⟨vs++(bv (δ j x)).map (·.1),λc p hp=>?_⟩;rw[nT]at hp;split at hp
   ·obtain⟨q,hq,e⟩:=h8 hp;rw[<- e];rcases List.mem_append.mp hq with z |z
    ·exact ZG _ (hv c q z)
    ·obtain⟨r,hr,rfl⟩:=List.mem_map.mp z;exact List.mem_append_right _ (List.mem_map.mpr ⟨r,hr,rfl⟩)
   ·exact ZG _ (hv c p hp)
  ·have p:=ih.p x u;by_cases m:x∈ns
   ·rw[if_pos m]at p ⊢;rw[show (λc=>cnt u (bv (sg σ ns δ (j+1) c x)))=λc=>cnt u (bv (sg σ ns δ j c x))+c j * cnt u (bv (δ j x)) from funext λc=>by rw[nT,if_pos m,bv,qy,fg,lu]];exact .add p (.mul (.co j) (.const _))
   ·rw[if_neg m]at p ⊢;rw[show (λc=>cnt u (bv (sg σ ns δ (j+1) c x)))=λc=>cnt u (bv (sg σ ns δ j c x)) from funext λc=>by rw[nT,if_neg m]];exact p
theorem gS{ns ms:List Str}(h:∀x∈ns,x∈ms):∀q:Qn,aD ns q<=aD ms q
 |.tab x=>by
  rw[aD,aD];by_cases m:x∈ns
  ·rw[if_pos m,if_pos (h x m)];exact Y8 _
  ·rw[if_neg m];exact Zj _
 |.both a b=>by
  have:=gS h a;have:=gS h b
  rw[aD,aD];lia
 |.for _ a b=>Nat.add_le_add (gS h a) (gS h b)
 |.times _ a=>gS h a
 |.aZ _ a=>gS h a
 |.let _ _ b=>gS h b
 |.num _=>Y8 _ |.word _=>Y8 _ |.var _=>Y8 _ |.none _=>Y8 _ |.row _=>Y8 _ |.at _ _=>Y8 _ |.add _ _=>Y8 _ |.mul _ _=>Y8 _ |.one _=>Y8 _
 |.same _ _=>Y8 _ |.under _ _=>Y8 _ |.and _ _=>Y8 _ |.or _ _=>Y8 _ |.not _=>Y8 _
noncomputable def ρ0:Vn:=λ_=>.num 0
noncomputable def fq(q:Qn)(σ:Nat->Vn)(m:Nat):Nat->NV.Bg
 | 0=>[]
 |n+1=>fq q σ m n++sc (sgn m n) (bv (ah (σ n) q ρ0))
theorem EH{q:Qn}{σ:Nat->Vn}{m:Nat}{u:Val}:∀n,cnt u (fq q σ m n)=((ZL n).map λk=>sgn m k * cnt u (bv (ah (σ k) q ρ0))).sum
 | 0=>rfl
 |n+1=>by
  rw[fq,fg,EH n,List.range_succ,Zt,List.sum_append]
  congr 1
  show _=sgn m n * cnt u (bv (ah (σ n) q ρ0))+0;rw[Int.add_zero];exact lu
theorem SP{xs:NV.Bg}(h:∀v,cnt v xs=0):nf xs=[]:=(nj (qs:=[]) ⟨.nil,λ_ z=>nomatch z⟩ λv=>(h v).symm).symm
theorem SQ{q:Qn}(fe:Fe q){σ:Vn}{ns:List Str}{δ:Nat->Vn}(hs:∀x∈ns,x∈kN)(h:∀x∈kN,Vl x (σ x) 3){m:Nat}(hm:aD ns q<m):nf (fq q (lt σ ns δ m) m (2 ^ m))=[]:=by
 obtain⟨κ,_,ty⟩:=fe.ty;refine SP λv=>?_;rw[EH,<- RQ (EG (σ:=σ) (ns:=ns) (δ:=δ) m) ty fe.ev ρ0 hm v]
 congr 1
 exact aak λk _=>by rw[EF hs h k m]
variable{w:Wo}
noncomputable def SR:B:=.cons (.ret (.c (.bl true))) .nil
noncomputable def EI:B:=.cons (.loop (.one 2) (.gy (.c (.int 3))) (.cons (.set (.one 3) (.call 9 (.cons (.op .Add (.call 8 (.cons (.v 0) (.cons (.op .Add (.c (.int 1)) (.v 2)) .nil))) (.v 2)) .nil))) (.cons (.set (.one 4) (.call 19 (.cons (.v 3) .nil))) (.cons (.set (.one 5) (.bi .sorted (.cons (.call 29 (.cons (.v 3) (.cons (.c (.str "d")) .nil))) .nil))) (.cons (.set (.one 7) (.lc 1 [5,3] (.one 0) (.gy (.op .Add (.call 7 (.cons (.v 1) (.cons (.v 5) .nil))) (.c (.int 1)))) .ar (.call 27 (.cons (.v 2) (.cons (.v 1) (.cons (.c (.int 1)) .nil)))))) (.cons (.set (.one 8) (.lst .nil)) (.cons (.loop (.one 9) (.gy (.op .LShift (.c (.int 1)) (.bi .len (.cons (.v 7) .nil)))) (.cons (.set (.one 10) (.v 4)) (.cons (.set (.one 11) (.c (.int 1))) (.cons (.loop (.one 6) (.gy (.bi .len (.cons (.v 7) .nil))) (.cons (.cond (.cmp .Eq (.op .BitAnd (.op .RShift (.v 9) (.v 6)) (.c (.int 1))) (.c (.int 1))) (.cons (.set (.one 10) (.call 28 (.cons (.v 10) (.cons (.ix (.v 7) (.v 6)) .nil)))) (.cons (.set (.one 11) (.op .Sub (.c (.int 0)) (.v 11))) .nil)) .nil) .nil)) (.cons (.ex (.call 13 (.cons (.v 8) (.cons (.call 16 (.cons (.v 1) (.cons .i8 (.cons (.v 10) .nil)))) (.cons (.v 11) .nil))))) .nil))))) (.cons (.cond (.cmp .NotEq (.call 12 (.cons (.v 8) .nil)) (.tup (.cons (.c (.str "bag")) (.cons (.tup .nil) .nil)))) (.cons (.ret (.c (.bl false))) .nil) .nil) .nil)))))))) SR
noncomputable def SS:B:=.cons (.set (.one 1) (.call 30 (.cons (.call 8 (.cons (.v 0) (.cons (.c (.int 0)) .nil))) .nil))) EI
theorem SU:aO ["script","asked","k","seed","store","names","j","changes","counts","choice","later","sign"] ["script"] (ao (ae 40)):=⟨rfl,rfl,rfl,by decide +kernel,rfl,by decide +kernel,by decide +kernel⟩
theorem SV:aQ nm 40 ["script","asked","k","seed","store","names","j","changes","counts","choice","later","sign"] (ao (ae 40)) (aH (ae 40))=SS:=by kernel_rfl
def spLaw:Sp:=λds M Q _=>∃ns:List Int,ds=[.lst (ns.map D.int)]/\ns.length<=63/\∀M',Q (.bl true) M'
noncomputable abbrev Wq(w:Wo):bD w:={ cs:=[(30,Es),(8,Er),(9,uV),(19,Ez),(29,Ex),(7,vO),(27,EC),(28,ED),(16,gM 40),(13,nu),(12,kZ)] }
noncomputable def EJ:B:=Cs (ng EI)
noncomputable def EK:Nat->B->B
 | 0,b=>b
 |n+1,b=>EK n (MU b)
noncomputable def cD(ns:List Str)(δ:Nat->Vn)(m:Nat):List D:=(ZL m).map λj=>dD (b6 ns (δ j))
theorem SW{M:Mp}{k:Bool->Prop}(q:k true):fF true (vD (.ag [])) (.tup [.str "bag",.tup []]) M k:=by
 have:=p3 (n:=true) (k:=.ag .num) (u:=.ag []) (v:=.ag []) (M:=M) (c:=k) ⟨[],rfl,⟨.nil,λ_ z=>nomatch z⟩,λ_ z=>nomatch z⟩ (by decide) (by rw[decide_eq_true rfl];exact q);rw[kU]at this ⊢;exact this
theorem wg(n:Nat):cF 0 n=(List.range' 0 n).map λi:Nat=>D.int (i:Int):=by
 unfold cF;rw[List.range_eq_range'];exact aak λi _=>by rw[Int.zero_add]
theorem EL:∀m n:Nat,sgn m n=1\/sgn m n=-1
 | 0,_=>.inl rfl
 |m+1,n=>by
  rw[sgn];rcases EL m n with e |e <;> rw[e] <;> split
  ·exact .inr rfl
  ·exact .inl rfl
  ·exact .inl rfl
  ·exact .inr rfl
theorem wj{q:Qn}{σ:Nat->Vn}{m B:Nat}(h:∀k,(bv (ah (σ k) q ρ0)).length<=B):∀n,(fq q σ m n).length<=n * B
 | 0=>by rw[fq];simp
 |n+1=>by
  have:=wj (m:=m) h n;have:=h n;rw[fq,Zi,Nat.succ_mul];unfold sc;rw[Y6];lia
theorem EM{q:Qn}{σ:Nat->Vn}{m:Nat}{p:Val×Int}:∀{n},p∈fq q σ m n->∃k,∃r∈bv (ah (σ k) q ρ0),r.1=p.1
 | 0,h=>nomatch h
 |n+1,h=>by
  rw[fq]at h;rcases List.mem_append.mp h with z |z
  ·exact EM z
  ·obtain⟨r,hr,rfl⟩:=List.mem_map.mp z;exact⟨n,r,hr,rfl⟩
theorem S2(n j:Nat):Builtin.bitAnd ((n:Int) / 2 ^ ((j:Int).toNat)) 1=if n.testBit j then 1 else 0:=by
 have e:(n:Int) / 2 ^ ((j:Int).toNat)=((n / 2 ^ j:Nat):Int):=by
  rw[aau,Int.natCast_ediv];norm_cast
 rw[e];have:Builtin.bitAnd ((n / 2 ^ j:Nat):Int) 1=(((n / 2 ^ j) &&& 1:Nat):Int):=by
  unfold Builtin.bitAnd;rw[decide_eq_true (Int.natCast_nonneg _)];rfl
 rw[this,Nat.and_one_is_mod,Nat.testBit_eq_decide_div_mod_eq];by_cases b:n / 2 ^ j % 2=1
 ·rw[b];simp
 ·have:n / 2 ^ j % 2=0:=by lia
  rw[this];simp
theorem S3{ns:List Str}{δ:Nat->Vn}{m j:Nat}(h:j<m):cK (cD ns δ m) (j:Int)=some (dD (b6 ns (δ j))):=by
 have l:(cD ns δ m).length=m:=by unfold cD;simp
 unfold cK eL;rw[if_pos (Int.natCast_nonneg _),if_pos (by rw[l];lia),aau];unfold cD;simp [h]
section
variable{N:St->Mp->Prop}{Uz:St->Mp->Prop}{Q:QK}{sc:D}{c:Int}{M:Mp}{v2 v3 v6 v9 d9 ec:Option D}
theorem S4(O:Lw w){q:Qn}(fe:Fe q){K:List (Key×D)}{σ:Vn}(rp:Rp 5 K σ)(hσ:∀ x∈kN,Vl x (σ x) 3){ns:List Str}(hn:qB ns){δ:Nat->Vn}{m:Nat}(hm:m=aD ns q+1)(hδ:∀ j,j<m->∀ x∈ns,Vl x (δ j x) 3){pc:Addr}(a6:M pc=some (.lst []))
  (hN:∀v2 v3 v4 v5 v6 v7 v8 v9 d9 ec M,N [some sc,some (qD q),v2,v3,v4,v5,v6,v7,v8,v9,d9,ec] M) :
  B.w (Wq w).wd nm.aq (EK 5 EJ) { nx:=N,ct:=N,rt:=bU Q,Uz:=Uz } [some sc,some (qD q),v2,v3,some (dD K),some (.lst (ns.map D.str)),v6,some (.lst (cD ns δ m)),some (.ref pc),v9,d9,ec] M:=by
 have m4:m<=4:=by have:=gS hn.2.1 q;have:=fe.UM;lia
 have Wr:(cD ns δ m).length=m:=by unfold cD;simp
 obtain⟨κ,hκ,ty⟩:=fe.ty;have kk:kd (.ag κ)<=21:=by have:=dy hκ;lia
 have vl:∀k,∀x∈kN,Vl x (lt σ ns δ m k x) 15:=λk x U=>by
  have:=we (m:=m) (by lia) hσ hδ k m (Y8 _) x U;exact⟨this.h,this.b.up (Y8 _) (by lia),λp hp=>Y9 (this.c p hp) (ZE _ (by lia))⟩
 have st:∀k,gH kS (lt σ ns δ m k):=λk x l e=>(vl k x (nQ e)).h l e;have en:c5 [] ρ0:=λx k e=>nomatch e;have gd:∀k,Good kN (lt σ ns δ m k) q (λ_=>2) ρ0:=λk=>RL (st k) ⟨λx l e=>⟨nQ e,(vl k x (nQ e)).b⟩⟩ ty fe.ev kk (λx k e=>nomatch e) en ⟨fe.cq,fe.UM⟩;have hs:∀k,aG (.ag κ) (ah (lt σ ns δ m k) q ρ0):=λk=>bI (st k) ty ρ0 en;have ll:∀k,(bv (ah (lt σ ns δ m k) q ρ0)).length<=864000:=λk=>Y9 ((gd k).lt (hs k)).1 (jq ⟨fe.cq,fe.UM⟩);have p2:2 ^ m<=16:=Zx (n:=2) (by decide) m4;have e2:((1:Int) * 2 ^ ((cD ns δ m).length:Int).toNat)=((2 ^ m:Nat):Int):=by rw[Wr,aau,Int.one_mul];norm_cast
 refine⟨⟨by lia,by lia,by decide⟩,?_,?_,?_⟩
 ·show -2 ^ 62<=(1:Int) * 2 ^ ((cD ns δ m).length:Int).toNat;rw[e2];exact Int.le_trans (by decide) (Int.natCast_nonneg _)
 ·show (1:Int) * 2 ^ ((cD ns δ m).length:Int).toNat<2 ^ 62;rw[e2];exact Int.lt_of_le_of_lt (Int.ofNat_le.mpr p2) (by decide)
 refine cZ (λxs τ M'=>∃n r u2 u3 u6 Ws wk wm,xs=(List.range' n r).map (λi:Nat=>D.int (i:Int))/\n+r=2 ^ m/\τ=[some sc,some (qD q),u2,u3,some (dD K),some (.lst (ns.map D.str)),u6,some (.lst (cD ns δ m)),some (.ref pc),Ws,wk,wm]/\M' pc=some (.lst ((fq q (lt σ ns δ m) m n).map pD))) ?_ ?_ _ _ _ ⟨0,2 ^ m,v2,v3,v6,v9,d9,ec,?_,Nat.zero_add _,rfl,a6⟩
 ·rintro τ M' ⟨n,r,u2,u3,u6,Ws,wk,wm,e1,e3,rfl,hp⟩;have:r=0:=by have:=congrArg aaI e1;simpa using this.symm
  subst this;rw[Nat.add_zero]at e3;subst e3;refine⟨trivial,.rfl ⟨pc,_,κ,rfl,hp,Zd (Y9 (wj ll _) (ZE _ p2)) (by decide),by rw[kd]at kk;lia,λp eY=>?_,?_⟩⟩
  ·obtain⟨k,r,hr,e⟩:=EM eY;rw[<- e];have b:=((gd k).lt (hs k)).2 r hr;have cl:cq q (λ_=>2)<sizeLine:=qu (Y9 fe.cq (by decide));exact⟨(bV (hs k)).2.2 r hr,Bd.ok cl cl b.2⟩
  ·rw[SQ fe hn.2.1 hσ (by lia:aD ns q<m)];exact⟨Zj _,l2,SW (ai (by decide) (hN _ _ _ _ _ _ _ _ _ _ _))⟩
 ·rintro y xs τ M' ⟨n,r,u2,u3,u6,Ws,wk,wm,e1,e3,rfl,hp⟩;cases r with
  |zero=>cases e1
  |succ r=>
   rw[List.range'_succ,Zh]at e1;cases e1;refine⟨trivial,λN' gO=>⟨?_,?_,?_⟩⟩
   ·rw[Wr];lia
   ·rw[Wr];lia
   have an:n<2 ^ m:=(by lia);refine cZ (λxs τ M1=>∃j r K2 u6,xs=(List.range' j r).map (λi:Nat=>D.int (i:Int))/\j+r=m/\Rp (5+5 * j) K2 (lt σ ns δ j n)/\τ=[some sc,some (qD q),u2,u3,some (dD K),some (.lst (ns.map D.str)),u6,some (.lst (cD ns δ m)),some (.ref pc),some (.int (n:Int)),some (dD K2),some (.int (sgn j n))]/\M1=M') ?_ ?_ _ _ _ ⟨0,m,K,u6,?_,Nat.zero_add _,rp,rfl,rfl⟩
   ·rintro τ M1 ⟨j,r',K2,YC,f1,f2,f3,rfl,rfl⟩;have:r'=0:=by have:=congrArg aaI f1;simpa using this.symm
    subst this;rw[Nat.add_zero]at f2;subst f2;refine⟨trivial,.rfl (.inl ?_)⟩;refine⟨q,lt σ ns δ j n,ρ0,[],kS,.ag κ,dD [],dD K2,rfl,ty,⟨fe.d,en,st n,⟨[],.inl rfl,by decide,λx k e=>nomatch e⟩,λx k e=>⟨K2,.inl rfl,f3.v x (nQ e)⟩,(gd n).f⟩,?_⟩;have a1:=wj (q:=q) (m:=j) ll n;have a2:=ll n;refine⟨pc,fq q (lt σ ns δ j) j n,bv (ah (lt σ ns δ j n) q ρ0),sgn j n,by rw[<- (bV (hs n)).1];rfl,hp,?_,λp _=>kL (by rcases EL j n with e |e <;> rw[e] <;> decide),?_⟩
    ·have:n * 864000<=15 * 864000:=ZE _ (by lia);have:13900000<sizeLine:=(by decide);lia
    ·exact gO _ _ ⟨n+1,r,_,_,_,_,_,_,rfl,by lia,rfl,ak⟩
   ·rintro y ys τ M1 ⟨j,r',K2,YC,f1,f2,f3,rfl,rfl⟩;cases r' with
    |zero=>cases f1
    |succ r'=>
     rw[List.range'_succ,Zh]at f1;cases f1;refine⟨trivial,λN2 EN=>⟨Int.natCast_nonneg _,?_⟩⟩;have be:=S2 n j;refine cz (aN (λe=>?_) λe=>?_)
     ·have b:n.testBit j=true:=by
       have e:Builtin.bitAnd ((n:Int) / 2 ^ ((j:Int).toNat)) 1=1:=of_decide_eq_true e;cases b:n.testBit j with
       |true=>rfl
       |false=>rw[be,b]at e;exact absurd e (by decide)
      refine⟨_,S3 (by lia),K2,lt σ ns δ j n,ns,δ j,3+3 * j,5+5 * j,rfl,hn,⟨f3,by lia⟩,by lia,λx U=>we (m:=m) (by lia) hσ hδ n j (by lia) x U,hδ j (by lia),λYD r3=>?_⟩;exact EN _ _ ⟨j+1,r',YD,_,rfl,by lia,by rw[lt,if_pos b];exact r3,by rw[sgn,if_pos b];rfl,rfl⟩
     ·have b:n.testBit j=false:=by
       have e:¬Builtin.bitAnd ((n:Int) / 2 ^ ((j:Int).toNat)) 1=1:=of_decide_eq_false (Bool.eq_false_iff.mpr e);cases b:n.testBit j with
       |false=>rfl
       |true=>rw[be,b]at e;exact absurd rfl e
      exact EN _ _ ⟨j+1,r',K2,_,rfl,by lia,by rw[lt,b,if_neg (by decide)];exact⟨Y9 f3.len (by lia),f3.v⟩,by rw[sgn,b,if_neg (by decide)];rfl,rfl⟩
   ·show cF 0 _=_;rw[<- wg]
    congr 1
 ·show cF 0 _=_;rw[<- wg]
  congr 1
  show ((1:Int) * 2 ^ ((cD ns δ m).length:Int).toNat-0).toNat=_;rw[e2,Int.sub_zero,aau]
theorem S5{ns:List Str}{δ:Nat->Vn}{δ':Vn}{n:Nat}:cD ns (λj=>if j=n then δ' else δ j) (n+1)=cD ns δ n++[dD (b6 ns δ')]:=by
 unfold cD;rw[List.range_succ,Zt]
 congr 1
 ·refine aak λj hj=>?_;show dD (b6 ns (if j=n then δ' else δ j))=_
  rw[if_neg (by have:=List.mem_range.mp hj;lia)]
 ·simp
theorem S6(O:Lw w){q:Qn}(fe:Fe q){wn:List Int}{i:Int}(i0:0<=i){v3 v4 v5 v7 v8:Option D}
  (hN:∀v2 v3 v4 v5 v6 v7 v8 v9 d9 ec M,N [some (.lst (wn.map D.int)),some (qD q),v2,v3,v4,v5,v6,v7,v8,v9,d9,ec] M) :
  B.w (Wq w).wd nm.aq EJ { nx:=N,ct:=N,rt:=bU Q,Uz:=Uz } [some (.lst (wn.map D.int)),some (qD q),some (.int i),v3,v4,v5,v6,v7,v8,v9,d9,ec] M:=by
 refine⟨wn,1+i,rfl,by lia,λc=>⟨_,rfl,λp o hp so=>⟨p,rfl,⟨o,ak,so⟩,λK σ X u rp hσ=>⟨p,rfl,u.hs,λnv X2 u2 hv=>?_⟩⟩⟩⟩;refine .inl ⟨nv.map (·.1),by rw[h7];unfold gQ;rw[Z6,Z6];rfl,Zd (by rw[Y6];exact hv.len:_<=5) (by decide),λns pm _=>.inl ?_⟩;have hn:qB ns:=⟨pm.nodup_iff.mpr hv.nd,λx U=>by
  obtain⟨m,hm,rfl⟩:=List.mem_map.mp (pm.mem_iff.mp U);exact hv.sub m hm,by rw[pm.length_eq,Y6];exact hv.len⟩
 obtain⟨κ,hκ,ty⟩:=fe.ty;have d3:=gS hn.2.1 q;have d4:=fe.UM;refine⟨q,ns,rfl,(vz ty).w,Zd (Y9 (bE q) fe.d) (by decide),?_⟩;have lc:∀{n:Nat}{δ:Nat->Vn},(cD ns δ n).length=n:=λ{n δ}=>by unfold cD;simp
 have e0:(((aD ns q:Nat):Int)+1)=((aD ns q+1:Nat):Int):=by lia
 generalize hm:aD ns q+1=m at e0;refine⟨?_,?_,?_⟩
 ·show -2 ^ 62<=((aD ns q:Nat):Int)+1;lia
 ·show ((aD ns q:Nat):Int)+1<2 ^ 62;lia
 refine dQ (λxs ys Y=>∃n r δ,xs=(List.range' n r).map (λi:Nat=>D.int (i:Int))/\n+r=m/\ys=cD ns δ n/\(∀j,j<n->∀x∈ns,Vl x (δ j x) 3)/\Sx X2 p Y) ?_ ?_ _ _ _ ⟨0,m,λ_ _=>.num 0,?_,Nat.zero_add _,rfl,λj z=>absurd z (Nat.not_lt_zero _),.rfl u2.hs⟩
 ·rintro ys Y ⟨n,r,δ,e1,e3,rfl,hδ,s⟩;have:r=0:=by have:=congrArg aaI e1;simpa using this.symm
  subst this;rw[Nat.add_zero]at e3;subst e3;refine⟨trivial,Zd (by rw[lc];lia:_<=4) (by decide),.inl ⟨Zj _,.inr λpc a6=>?_⟩⟩;exact S4 O fe rp hσ hn hm.symm hδ ak hN
 ·rintro x xs ys Y ⟨n,r,δ,e1,e3,rfl,hδ,s⟩;cases r with
  |zero=>cases e1
  |succ r=>
   rw[List.range'_succ,Zh]at e1;cases e1;refine⟨trivial,Zd (by rw[lc];lia:_<=4) (by decide),λN4 h4=>?_⟩;refine⟨p,ns,rfl,hn,s.hs,fun δ' X' s' hb=>?_⟩;refine h4 (cD ns δ n++[dD (b6 ns δ')]) _ ⟨n+1,r,λj=>if j=n then δ' else δ j,rfl,by lia,S5.symm,λj hj x U=>?_,s.tr s'⟩
   show Vl x ((if j=n then δ' else δ j) x) 3
   by_cases e:j=n
   ·rw[if_pos e];exact hb x U
   ·rw[if_neg e];exact hδ j (by lia) x U
 ·show cF 0 (((aD ns q:Nat):Int)+1-0).toNat=_;rw[<- wg,e0];rfl
end
theorem S7(O:Lw w):FO w 31 130 spLaw:=by
 refine bh O.ok O.hn _ ⟨"law",ae 40,["script"]⟩ (by rw[O.hd];rfl) (Wq w) { cs:=⟨⟨120,by decide,R2 O⟩,⟨1,by decide,RV O⟩,⟨1,by decide,B0 O⟩,⟨34,by decide,So O⟩,⟨2,by decide,Sg O⟩,⟨6,by decide,D6 O⟩,⟨34,by decide,SA O⟩,⟨30,by decide,SM O⟩,⟨104,by decide,(D7 O 40).a⟩,⟨1,by decide,p5 O⟩,⟨23,by decide,ny O⟩,trivial⟩ } SU SV λds M Q _ h=>?_;obtain⟨ns,rfl,hl,h⟩:=h;refine⟨rfl,ns,0,rfl,by decide,λWz=>⟨Wz,rfl,λq X fe=>?_⟩⟩;refine⟨by decide,by decide,?_⟩;refine cZ (λxs τ M'=>(∀d∈xs,∃i:Int,d=.int i/\0<=i/\i<3)/\∃v2 v3 v4 v5 v6 v7 v8 v9 d9 ec,τ=[some (.lst (ns.map D.int)),some (qD q),v2,v3,v4,v5,v6,v7,v8,v9,d9,ec]) ?_ ?_ _ _ _ ⟨λd hd=>?_,none,none,none,none,none,none,none,none,none,none,rfl⟩
 ·rintro τ M' ⟨_,v2,v3,v4,v5,v6,v7,v8,v9,d9,ec,rfl⟩;exact⟨trivial,.rfl (aC (h _))⟩
 ·rintro x xs τ M' ⟨hi,v2,v3,v4,v5,v6,v7,v8,v9,d9,ec,rfl⟩;obtain⟨i,rfl,i0,i1⟩:=hi x Za;refine⟨trivial,λN hN=>?_⟩;exact S6 O fe i0 λv2 v3 v4 v5 v6 v7 v8 v9 d9 ec X'=>hN _ _ ⟨λd hd=>hi d (Zc _ hd),v2,v3,v4,v5,v6,v7,v8,v9,d9,ec,rfl⟩
 ·exact Et hd (by decide)
end K97
end
section
namespace NH
open PySem N NQ
open L2
def qF(K:PySem.W.Frag)(d:Ds):Prop:=∃(n:Str)(f:Addr)(fd:FuncData),PySem.W.nsIn K mainGlobals d.x=some (some (.ref f))/\eo K n n d.st f fd
theorem S8{K:PySem.W.Frag}{d:Ds}{n:Str}{f:Addr}{oc:Value}{od Ux:Option Addr}{cL:Array (Option Value)}{kV doc pm a9 ct:Value}(a:PySem.W.nsIn K mainGlobals d.x=some (some (.ref f)))
  (l:K.lookup f=some ⟨oc,od,.func (PySem.W.fnOf n n (eS d.st) (aH d.st) (ao d.st) .none kV doc pm Ux a9 ct),cL⟩) (c:PySem.W.codeIn K a9 n=true) (k:PySem.W.keepIn K (.ref f)=true):qF K d:=⟨n,f,_,a,rX l c k⟩
def wo(d:Ds):Prop:=∀(n:Str)(kV doc pm:Value)(Ux:Option Addr)(a9 ct:Value)(us:List Value),us.length=d.ps.length->bindArgs (PySem.W.fnOf n n (eS d.st) (aH d.st) (ao d.st) .none kV doc pm Ux a9 ct) ⟨us,[]⟩=pure (d.ps.zip us)
theorem EO{P:List Value->Prop}(h:P []):∀us,us.length=0->P us
 |[],_=>h
theorem dU{P:List Value->Prop}(h:∀a,P [a]):∀us,us.length=1->P us
 |a::us,e=>EO (P:=λus=>P (a::us)) (h a) us (Nat.succ.inj e)
theorem fU{P:List Value->Prop}(h:∀a b,P [a,b]):∀us,us.length=2->P us
 |a::us,e=>dU (P:=λus=>P (a::us)) (h a) us (Nat.succ.inj e)
theorem ft{P:List Value->Prop}(h:∀a b c,P [a,b,c]):∀us,us.length=3->P us
 |a::us,e=>fU (P:=λus=>P (a::us)) (h a) us (Nat.succ.inj e)
theorem qG{P:List Value->Prop}(h:∀a b c d,P [a,b,c,d]):∀us,us.length=4->P us
 |a::us,e=>ft (P:=λus=>P (a::us)) (h a) us (Nat.succ.inj e)
def nU(K:PySem.W.Frag):List Ds->Prop
 |[]=>True
 |d::r=>(qF K d/\wo d)/\nU K r
theorem nU.at{K:PySem.W.Frag}:∀{l:List Ds}{i:Nat}{d:Ds},nU K l->l[i]?=some d->qF K d/\wo d
 |[],_,_,_,h=>by simp at h
 |e::r,0,d,a,h=>by simp at h;rw[<- h];exact a.1
 |e::r,i+1,d,a,h=>nU.at a.2 (by simpa using h)
def js(K:PySem.W.Frag)(C:Addr)(d:Ds):Prop:=∃(q:Str)(f:Addr)(fd:FuncData),eo K d.x q d.st f fd/\jG K C d.x f/\bS K fd d.ps []
theorem nV{K:PySem.W.Frag}{C:Addr}{d:Ds}{q:Str}{f:Addr}{oc:Value}{od Ux:Option Addr}{cL:Array (Option Value)}{kV doc pm a9 ct:Value}(a:PySem.W.findIn K (.ref C) d.x=some (some (.ref f)))
  (l:K.lookup f=some ⟨oc,od,.func (PySem.W.fnOf d.x q (eS d.st) (aH d.st) (ao d.st) .none kV doc pm Ux a9 ct),cL⟩) (c:PySem.W.codeIn K a9 q=true) (k:PySem.W.keepIn K (.ref f)=true) (n:PySem.W.isFn K (.ref f)=true)
  (b:∀us:List Value,us.length=d.ps.length->bindArgs (PySem.W.fnOf d.x q (eS d.st) (aH d.st) (ao d.st) .none kV doc pm Ux a9 ct) ⟨us,[]⟩=pure (d.ps.zip us)):js K C d:=⟨q,f,_,rX l c k,⟨a,n,k⟩,.all b⟩
noncomputable def nW(mg:Str->Option Value)(x:Str):Addr:=match mg x with
 |some (.ref f)=>f
 |_=>0
section
variable{G:Gx}{h:Heap}{w:World}
noncomputable def nX:List Value->List Str->Bool
 |[],[]=>true
 |.str y _::r,x::s=>decide (y=x) && nX r s
 |_,_=>false
theorem jS{F:Fz}:∀{us:List Value}{xs:List Str},nX us xs=true->af G F (xs.map D.str) us
 |[],[],_=>.nil
 |.str y t::r,x::s,h=>by
  rw[nX,Zf]at h;cases of_decide_eq_true h.1;exact .cons (by rw[aa];exact⟨t,rfl⟩) (jS h.2)
structure wt(K:PySem.W.Frag)(x:Str)(xs:List Str):Prop where
 ex:∃(a:Addr)(us:List Value)(n:Nat),PySem.W.nsIn K mainGlobals x=some (some (.ref a))/\K.lookup a=some ⟨.type "tuple",none,.seq us.toArray n,#[]⟩/\nX us xs=true
theorem S9{K:PySem.W.Frag}{x:Str}{xs:List Str}{a:Addr}{us:List Value}{n:Nat}(h1:PySem.W.nsIn K mainGlobals x=some (some (.ref a)))(h2:K.lookup a=some ⟨.type "tuple",none,.seq us.toArray n,#[]⟩)(h3:nX us xs=true):wt K x xs:=⟨a,us,n,h1,h2,h3⟩
theorem Ta{K:PySem.W.Frag}{mg:Str->Option Value}{x:Str}{xs:List Str}(hb:K.In G.base)(X:K.In h)(Gn:h.Ns mainGlobals mg)(hl:xs.length<=100)(T:wt K x xs):∃u,mg x=some u/\∀F:Fz,(∀b o,G.base.get? b=some o->F b=some (.dat o))->aa G F (.tup (xs.map D.str)) u:=by
 obtain⟨a,us,n,h1,h2,h3⟩:=T.ex;refine⟨.ref a,PySem.W.mg_of X Gn h1,λF hF=>?_⟩;have rs:=jS (G:=G) (F:=F) h3;exact qV (hF a _ (hb a _ h2)) ⟨rfl,rfl,⟨n,rfl⟩,by rw[<- rs.len,Y6];exact Y9 hl (by decide)⟩ rs
theorem EP{K:PySem.W.Frag}{d:Ds}(US:G.K=K)(X:K.In h)(Gn:h.Ns mainGlobals G.mg)(a:qF K d)(b:wo d):∃f fd,mU G d.x d.st f fd d.ps:=by
 obtain⟨n,f,fd,e,F⟩:=a;subst US;refine⟨f,fd,⟨n,F⟩,F.iI (b n),PySem.W.mg_of X Gn e⟩
end
end NH
end
section
namespace K97
open PySem N NQ NH
open L2
noncomputable def ER:List Str:=["HAVE_MORE"]
noncomputable def ES(mg:Str->Option Value):List D:=[.tup (pU.map D.str)]
noncomputable def wO(G:Gx)(C:Addr):Wo where
 G:=G
 ds:=d6
 fN:=nm.fN
 gv:=ES G.mg++d6.map λd=>.ref (nW G.mg d.x)
 fl:=λc f=>c=C/\(f="waiting"\/f="found")
 cls:=nm.cls
 ca:=λ_=>C
 ms:=pT
 mc:=λ_=>C
theorem Tc{i:Nat}{x:Str}(h:nm.fN[i]?=some x):(i<1/\ER[i]?=some x)\/∃j d,i=1+j/\d6[j]?=some d/\d.x=x:=by
 have e:nm.fN=ER++d6.map (·.x):=by kernel_rfl
 rw[e]at h;by_cases hi:i<1
 ·rw[ZH hi]at h;exact .inl ⟨hi,h⟩
 ·rw[Zy (by show 1<=i;lia),Zr]at h;obtain⟨d,h1,h2⟩:=Option.map_eq_some_iff.mp h;exact .inr ⟨i-1,d,by lia,h1,h2⟩
structure wu(K:PySem.W.Frag)(x:Str)(st:Stmt)(c T:Addr):Prop where
 d:∃(n:Str)(f:Addr)(fd:FuncData),PySem.W.nsIn K mainGlobals x=some (some (.ref f))/\eo K n n st f fd/\fd.code=.ref c/\n=x
 h:PySem.W.codeHdIn K c T=true
theorem Td{K:PySem.W.Frag}{x:Str}{st:Stmt}{c T f:Addr}{oc:Value}{od Ux:Option Addr}{cL:Array (Option Value)}{kV doc pm ct:Value}(a:PySem.W.nsIn K mainGlobals x=some (some (.ref f)))
  (l:K.lookup f=some ⟨oc,od,.func (PySem.W.fnOf x x (eS st) (aH st) (ao st) .none kV doc pm Ux (.ref c) ct),cL⟩) (Vb:PySem.W.codeIn K (.ref c) x=true) (k:PySem.W.keepIn K (.ref f)=true) (h:PySem.W.codeHdIn K c T=true):wu K x st c T:=⟨⟨x,f,_,a,rX l Vb k,rfl,rfl⟩,h⟩
structure nY(P:Params)(K:PySem.W.Frag)(C:Addr):Prop where
 ds:nU K d6
 s0:wt K "HAVE_MORE" pU
 bi:kE.all (λx=>decide (PySem.W.nsIn K mainGlobals x=some none))=true
 wa:PySem.W.nsIn K mainGlobals "Walk"=some (some (.ref C))
 Wt:c9 K C
 w1:eh K C "waiting"
 w2:eh K C "found"
 Wu:PySem.W.makesIn K C=true
 Wv:PySem.W.keepIn K (.ref C)=true
 m0:js K C ⟨"__init__",(bq (ae 6) 0),["self"]⟩
 m1:js K C ⟨"later",(bq (ae 6) 1),["self","step","question","around"]⟩
 m2:js K C ⟨"tell",(bq (ae 6) 2),["self","result"]⟩
 m3:js K C ⟨"take",(bq (ae 6) 3),["self","many"]⟩
 m4:js K C ⟨"run",(bq (ae 6) 4),["self"]⟩
 lc:wu K "degree" (ae 12) 111 107
 bt:∃ob:Obj,PySem.W.nsIn K mainGlobals "__builtins__"=some (some (.ref 4))/\K.lookup 4=some ob/\(4:Addr)≠builtinsNs/\(4:Addr)≠mainGlobals/\ob.cls=.type "module"/\ob.dict=some builtinsNs/\ob.data=.plain
noncomputable def tbs2:gA:=[(107,pC.np,"degree.<locals>."++pC.name)]
section
variable{P:Program}{w:World}{K:PySem.W.Frag}{mg:Str->Option Value}{base h:Heap}{C:Addr}
theorem Te(X:K.In h)(Gn:h.Ns mainGlobals mg)(hb:K.In base)(F:nY w.params K C):(wO ⟨P,w,K,mg,base,N.dv tbs2⟩ C).Ok where
 df:=λi d hd=>let ⟨a,b⟩:=F.ds.at hd;EP (G:=⟨P,w,K,mg,base,N.dv tbs2⟩) rfl X Gn a b
 gv:=λi x U=>by
  rcases Tc U with ⟨h1,h2⟩ |⟨j,d,rfl,h1,rfl⟩
  ·obtain rfl:i=0:=(by lia);cases h2;exact Ta (G:=⟨P,w,K,mg,base,N.dv tbs2⟩) hb X Gn (by decide) F.s0
  ·obtain⟨a,b⟩:=F.ds.at h1;obtain⟨f,fd,Xj⟩:=EP (G:=⟨P,w,K,mg,base,N.dv tbs2⟩) rfl X Gn a b;refine⟨.ref f,Xj.mg,λFz _=>?_⟩;have e:(wO ⟨P,w,K,mg,base,N.dv tbs2⟩ C).gv.getD (1+j) .az=.ref f:=by
    show (ES mg++d6.map λd=>D.ref (nW mg d.x):List D).getD (1+j) .az=_;rw[Zm,Zy (by show 1<=1+j;lia)];show ((d6.map λd=>D.ref (nW mg d.x))[1+j-1]?).getD .az=_;rw[Nat.add_sub_cancel_left,Zr,h1];show D.ref (nW mg d.x)=_;have:mg d.x=some (.ref f):=Xj.mg;unfold nW;rw[this]
   rw[e,aa]
 bl:=λx U=>PySem.W.mg_none_of X Gn (of_decide_eq_true (List.all_eq_true.mp F.bi x U))
 fl:=λc f h=>by
  obtain⟨rfl,e |e⟩:=h
  ·rw[e];exact⟨F.Wt,F.w1⟩
  ·rw[e];exact⟨F.Wt,F.w2⟩
 mt:=λi d hd=>by
  have mk:∀{d:Ds},js K C d->∃f fd,uy K C d f fd:=λ⟨q,f,fd,F1,M1,YE⟩=>⟨f,fd,⟨q,F1⟩,YE,M1,F.Wt⟩;have lm:pT[i]?=some d:=hd
  match i,lm with
  | 0,e=>cases e;exact mk F.m0
  | 1,e=>cases e;exact mk F.m1
  | 2,e=>cases e;exact mk F.m2
  | 3,e=>cases e;exact mk F.m3
  | 4,e=>cases e;exact mk F.m4
  |n+5,e=>cases e
 cl:=λi x U=>by
  have gc:(["Walk"]:List Str)[i]?=some x:=U
  match i,gc with
  | 0,e=>cases e;exact⟨PySem.W.mg_of X Gn F.wa,λf a n=>⟨F.Wu,a,n,F.Wv⟩⟩
  |n+1,e=>cases e
theorem Tf(X:K.In h)(Gn:h.Ns mainGlobals mg)(F:nY w.params K C){x:Str}{st:Stmt}{c T:Addr}{p:Pos}{q0:Str}(A:wu K x st c T)(hT:tbs2.lookup T=some (p,x++q0))(YF:mainGlobals≠T)(nB:(4:Addr)≠T):∀f fd q,eo K q q st f fd->mg x=some (.ref f)->∃c T,fd.code=.ref c/\hW ⟨P,w,K,mg,base,N.dv tbs2⟩ c T p (q++q0):=by
 intro f fd q Fn hm;obtain⟨n,f0,ET,e1,F0,e2,rfl⟩:=A.d;have m0:=PySem.W.mg_of X Gn e1;rw[m0]at hm;cases hm;obtain⟨oc,od,kV,doc,pm,Ux,a9,ct,cL,hf,l1,_⟩:=Fn.ex;obtain⟨Tg,Th,Ti,BI,Tj,Tk,Tl,Tn,To,EU,l2,_⟩:=F0.ex;rw[l1]at l2;injection l2 with l3;injection l3 with _ _ l4;injection l4 with l5;have UU:fd=ET:=l5;have eq:q=n:=by
  have:fd.name=ET.name:=congrArg FuncData.name l5;rw[hf,EU]at this;exact this
 subst eq;subst UU;obtain⟨ob,b1,b2,b3,UB,V',Wa,Wb⟩:=F.bt;exact⟨c,T,e2,A.h,⟨4,ob,PySem.W.mg_of X Gn b1,b2,b3,UB,nB,V',Wa,Wb⟩,YF,by show (tbs2.lookup T).map _=_;rw[hT];rfl⟩
theorem Tp(X:K.In h)(Gn:h.Ns mainGlobals mg)(hb:K.In base)(F:nY w.params K C):Lw (wO ⟨P,w,K,mg,base,N.dv tbs2⟩ C) where
 ok:=Te X Gn hb F
 hn:=by show (⟨d6.map (·.x),nm.fN,nm.cls,pT.map (·.x)⟩:Nm)=nm;kernel_rfl
 hd:=rfl
 hms:=rfl
 g0:=rfl
 W6:=rfl
 go:=rfl
 fw:=⟨rfl,.inl rfl⟩
 Vq:=⟨rfl,.inr rfl⟩
 mc:=λ_ _=>rfl
 VJ:=by
  intro f fd q h1 h2;have:=Tf (P:=P) (base:=base) X Gn F (p:=pC.np) (q0:=".<locals>."++pC.name) F.lc (by kernel_rfl) (by decide) (by decide) f fd q h1 h2;exact this
end
section
variable{P:Program}{w:World}{K:PySem.W.Frag}{mg:Str->Option Value}{h:Heap}{C:Addr}
theorem law_ok{fa:Addr}(X:K.In h)(Gn:h.Ns mainGlobals mg)(EV:mg "law"=some (.ref fa))(F:nY w.params K C):
  ∃fd:FuncData,(∀(s:Shared)(v:Value),BindsTo s fd ⟨[v],[]⟩ [("script",v)])/\∀base:Heap,K.In base->base.Ns mainGlobals mg->bb ⟨P,w,K,mg,base,N.dv tbs2⟩ 130 fa fd ["script"] spLaw:=by
 obtain⟨a,b⟩:=F.ds.at (i:=31) (d:=⟨"law",ae 40,["script"]⟩) rfl;obtain⟨n,f,fd,e,Fn⟩:=a;have m1:=PySem.W.mg_of X Gn e;have m2:mg "law"=some (.ref f):=m1;rw[EV]at m2;cases m2;refine⟨fd,?_,λbase hb _=>?_⟩
 ·obtain⟨oc,od,kV,doc,pm,Ux,a9,ct,cL,rfl,lk,eg⟩:=Fn.ex;exact λs v=>.of_eq rfl
 obtain⟨d',UL,BA,h1,Xk,Tq⟩:=S7 (Tp (P:=P) (base:=base) X Gn hb F);have e:d'=⟨"law",ae 40,["script"]⟩:=by
  have h2:d6[31]?=some d':=h1;have h3:d6[31]?=some ⟨"law",ae 40,["script"]⟩:=rfl;rw[h3]at h2;cases h2;rfl
 subst e;have m3:mg "law"=some (.ref UL):=Xk.mg;rw[EV]at m3;cases m3;obtain⟨_,Tr⟩:=Xk.fn;obtain⟨oc,od,kV,doc,pm,Ux,a9,ct,cL,hf,l1,_⟩:=Fn.ex;obtain⟨Tg,Th,Ti,BI,Tj,Tk,Tl,Tn,To,EU,l2,_⟩:=Tr.ex;have Ts:K.lookup fa=_:=l1;have EW:K.lookup fa=_:=l2;rw[Ts]at EW;injection EW with l3;injection l3 with _ _ l4;injection l4 with l5;rw[l5];exact Tq
end
theorem room_law:bx 130 callerA:=⟨rfl,by decide,by decide⟩
theorem Uv:PySem.Challenge.rw_keptnest_k97_whole_alternating_sums=PySem.Challenge.rw_keptnest_k97_whole_alternating_sums/\zK=zK:=by k_fill;exact⟨rfl,rfl⟩
theorem zF(w:World):nY w.params (zK w.params) 75:=by
 refine' ⟨?ds,?s0,?bi,?wa,⟨?c1,?c2,?c3,?c4⟩,?w1,?w2,?Wu,?Wv,?m0,?m1,?m2,?m3,?m4,?lc,?bt⟩
 case ds=>
  refine' ⟨⟨?_,λ_ _ _ _ _ _ _=>dU λ_=>rfl⟩,⟨⟨?_,λ_ _ _ _ _ _ _=>dU λ_=>rfl⟩,⟨⟨?_,λ_ _ _ _ _ _ _=>dU λ_=>rfl⟩,⟨⟨?_,λ_ _ _ _ _ _ _=>fU λ_ _=>rfl⟩,⟨⟨?_,λ_ _ _ _ _ _ _=>ft λ_ _ _=>rfl⟩,⟨⟨?_,λ_ _ _ _ _ _ _=>ft λ_ _ _=>rfl⟩,⟨⟨?_,λ_ _ _ _ _ _ _=>dU λ_=>rfl⟩,⟨⟨?_,λ_ _ _ _ _ _ _=>fU λ_ _=>rfl⟩,⟨⟨?_,λ_ _ _ _ _ _ _=>fU λ_ _=>rfl⟩,⟨⟨?_,λ_ _ _ _ _ _ _=>dU λ_=>rfl⟩,⟨⟨?_,λ_ _ _ _ _ _ _=>fU λ_ _=>rfl⟩,⟨⟨?_,λ_ _ _ _ _ _ _=>dU λ_=>rfl⟩,⟨⟨?_,λ_ _ _ _ _ _ _=>dU λ_=>rfl⟩,⟨⟨?_,λ_ _ _ _ _ _ _=>ft λ_ _ _=>rfl⟩,⟨⟨?_,λ_ _ _ _ _ _ _=>ft λ_ _ _=>rfl⟩,⟨⟨?_,λ_ _ _ _ _ _ _=>ft λ_ _ _=>rfl⟩,⟨⟨?_,λ_ _ _ _ _ _ _=>ft λ_ _ _=>rfl⟩,⟨⟨?_,λ_ _ _ _ _ _ _=>ft λ_ _ _=>rfl⟩,⟨⟨?_,λ_ _ _ _ _ _ _=>EO rfl⟩,⟨⟨?_,λ_ _ _ _ _ _ _=>dU λ_=>rfl⟩,⟨⟨?_,λ_ _ _ _ _ _ _=>dU λ_=>rfl⟩,⟨⟨?_,λ_ _ _ _ _ _ _=>fU λ_ _=>rfl⟩,⟨⟨?_,λ_ _ _ _ _ _ _=>qG λ_ _ _ _=>rfl⟩,⟨⟨?_,λ_ _ _ _ _ _ _=>ft λ_ _ _=>rfl⟩,⟨⟨?_,λ_ _ _ _ _ _ _=>ft λ_ _ _=>rfl⟩,⟨⟨?_,λ_ _ _ _ _ _ _=>qG λ_ _ _ _=>rfl⟩,⟨⟨?_,λ_ _ _ _ _ _ _=>qG λ_ _ _ _=>rfl⟩,⟨⟨?_,λ_ _ _ _ _ _ _=>ft λ_ _ _=>rfl⟩,⟨⟨?_,λ_ _ _ _ _ _ _=>fU λ_ _=>rfl⟩,⟨⟨?_,λ_ _ _ _ _ _ _=>fU λ_ _=>rfl⟩,⟨⟨?_,λ_ _ _ _ _ _ _=>dU λ_=>rfl⟩,⟨⟨?_,λ_ _ _ _ _ _ _=>dU λ_=>rfl⟩,trivial⟩⟩⟩⟩⟩⟩⟩⟩⟩⟩⟩⟩⟩⟩⟩⟩⟩⟩⟩⟩⟩⟩⟩⟩⟩⟩⟩⟩⟩⟩⟩⟩
  all_goals (refine' S8 ?a ?l ?c ?k;(case a=>k_is);(case l=>k_is);(case c=>k_is);(case k=>k_is))
 case s0=>refine' S9 ?a ?l ?c;(case a=>k_is);(case l=>k_is);(case c=>kernel_rfl)
 case bi=>kernel_rfl
 (case wa=>k_is);(case c1=>k_is);(case c2=>k_is);(case c3=>k_is);(case c4=>k_is);(case w1=>show PySem.W.findIn _ _ _=_;k_is);(case w2=>show PySem.W.findIn _ _ _=_;k_is);(case Wu=>k_is);(case Wv=>k_is)
 case m0=>refine' nV ?a ?l ?c ?k ?n (dU λ_=>rfl);(case a=>k_is);(case l=>k_is);(case c=>k_is);(case k=>k_is);(case n=>k_is)
 case m1=>refine' nV ?a ?l ?c ?k ?n (qG λ_ _ _ _=>rfl);(case a=>k_is);(case l=>k_is);(case c=>k_is);(case k=>k_is);(case n=>k_is)
 case m2=>refine' nV ?a ?l ?c ?k ?n (fU λ_ _=>rfl);(case a=>k_is);(case l=>k_is);(case c=>k_is);(case k=>k_is);(case n=>k_is)
 case m3=>refine' nV ?a ?l ?c ?k ?n (fU λ_ _=>rfl);(case a=>k_is);(case l=>k_is);(case c=>k_is);(case k=>k_is);(case n=>k_is)
 case m4=>refine' nV ?a ?l ?c ?k ?n (dU λ_=>rfl);(case a=>k_is);(case l=>k_is);(case c=>k_is);(case k=>k_is);(case n=>k_is)
 case lc=>refine' Td ?a ?l ?c ?k ?h;(case a=>k_is);(case l=>k_is);(case c=>k_is);(case k=>k_is);(case h=>kernel_rfl)
 case bt=>refine' ⟨{ cls:=PySem.Value.type "module",data:=PySem.Data.plain,dict:=some 0 },?a,?l,?h1,?h2,?h4,?h5,?h6⟩;(case a=>kernel_rfl);(case l=>kernel_rfl);(case h1=>decide);(case h2=>decide);(case h4=>rfl);(case h5=>rfl);(case h6=>rfl)
end K97
open PySem PySem.W PyProof.Rows
set_option maxRecDepth 100000 in
set_option maxHeartbeats 0 in
theorem PySem.Challenge.cw_keptnest_k97_whole_alternating_sums_holds : PySem.Challenge.rw_keptnest_k97_whole_alternating_sums.Holds := by
 w_on
 refine PySem.W.holds_law K97.zS fun said=>?_
 refine PySem.W.holds_open (q:=K97.zV) (loose:=K97.zL) (Xt:=fun s=>PySem.W.xlAt K97.zV [] s && PySem.W.recOk (PySem.W.RowW.records (PySem.W.OpenRow.toRowW PySem.Challenge.rw_keptnest_k97_whole_alternating_sums.row)) s) (XP:=PySem.W.XL K97.zV []) (Yf:=PySem.W.Hook.obs (PySem.W.kmHook K97.zK K97.zA K97.zE K97.zTs)) (Ya:=PySem.W.Hook.val (PySem.W.kmHook K97.zK K97.zA K97.zE K97.zTs)) (YP:=PySem.W.Hook.says (PySem.W.kmHook K97.zK K97.zA K97.zE K97.zTs)) (N:=3032) (Hq.left_two "special-get-raises" K97.zR_false K97.zR_true) (PySem.W.Hook.of _) (PySem.W.Hook.keeps _) (fun s e=>PySem.W.xl_of s (Bool.and_eq_true_iff.mp e).1) PySem.W.XL.keeps (by rfl) (by rfl) (by rfl) (fun s e=>PySem.W.recFacts_of (Bool.and_eq_true_iff.mp e).2) (by rfl) (by first | assumption | decide +kernel) (by decide +kernel) ⟨rfl,rfl,rfl,rfl,rfl,by decide +kernel⟩ ?hw ?hc
 case hw=>w_witness2
 k_fill
 refine N.walk_of (l:=PySem.Challenge.rw_keptnest_k97_whole_alternating_sums) (K:=K97.zK) (ts:=K97.tbs2) (x:="script") (k:=130) (sp:=fun _=>K97.spLaw) (n:=63) rfl (by decide) rfl K97.room_law (fun w h Y=>⟨PySem.W.km_in_of Y,fun T hT=>?Tb⟩) ?KT ?F (fun w ns hl=>⟨ns,rfl,hl,fun _=>rfl⟩)
 case Tb=>
  have:T∈K97.zTs:=by simpa [K97.tbs2,K97.zTs] using hT
  exact PySem.W.km_tabs_of Y T this
 case KT=>
  intro w T hT
  obtain rfl:T=107:=by simpa [K97.tbs2] using hT
  exact⟨by kernel_rfl,111,by kernel_rfl⟩
 case F=>
  intro w mg fa h KX G hmg
  exact K97.law_ok KX G hmg (K97.zF w)
#print axioms PySem.Challenge.cw_keptnest_k97_whole_alternating_sums_holds
end
