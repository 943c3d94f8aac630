import PyProof.Rows.All
import Wide.All
import OpenK.AllK
import Wide.FinOn
import PySem.Challenge.RW_keptnest_k47_put_in
import Lean
import PyProof.EqAt
import PyProof.EqKinds
import PyProof.TupleCall
import PyProof.ZipIter
import PyProof.NeKinds
import PyProof.Draws
import KE.KRevIter
import PyProof.AutoSeq1
import KE.KEqDict
import PyProof.SeqI3
import KE.KUnpack
import KE.KTupSum
import PyProof.ConsumeS
import PyProof.AttrMissHeap
import KE.KItemsList
import KE.KDictOf
import PyProof.Rows.SortStr
import PyProof.Rows.SetFrom
import KE.KPairComp
import KE.KSortAsk
import KE.KSortTup
import PyProof.PureStr
import KE.KNestM
import KE.KLam
import KE.KNest
set_option Elab.async false
set_option linter.all false
set_option maxRecDepth 100000
set_option maxHeartbeats 4000000
open PySem renaming wpAny_bind->WO,wpAny_pure->WS,wpAny_callSpecial?_slot->Xm,wpAny_call_entry->Xp,wpAny_newObj_type->Xx,wpAny_field->XH,wpAny_holding->XN,wpAny_Call_Name_kw->XU,builtinLookup_eq_fast->XX,codeAny_builtin->Yl,wpAny_setState_of->Ym,plainId_quiet->Yr,wpAny_truthy_bool->Yw,typeLookup_type->Yx,wpAny_seqItems->YF,codeAny_mono->YG,wpAny_ite_split->YJ,wpAny_isInstance->YS,wpAny_attempt->YT,wpAny_pyIter_list->YY,wpAny_mono->Y5,isSubtype_type->Y6,wpAny_setField_rec->Y9,wpAny_pyIter_tuple->Y',wpAny_passesOwn->Zb,sizeLine_eq->Zc
open List renaming length_map->WQ,size_toArray->WV,getElem?_eq_getElem->WW,mem_cons_of_mem->WY,mem_cons_self->WZ,map_cons->W0,length_append->W3,mem_append_left->W5,getElem?_map->W8,map_append->W',append_nil->Xc,not_mem_nil->Xd,length_cons->Xe,mem_append_right->Xf,lookup_cons->Xh,mem_cons->Xk,getD_eq_getElem?_getD->Xn,range->Xu,mem_of_getElem?->Xw,zipWith->Xy,getElem?_append_right->XD,getElem?_append_left->XG,sum_cons->XJ,replicate->XS,map_nil->XT,length_range->X5,append_assoc->X6,map_map->X7,length_filter_le->Yd,zip_cons_cons->Yi,mem_append->Yj,drop_eq_getElem_cons->Yk,find?_cons->Yo,length_zip->Yu,reverse_cons->YB,length_reverse->YD,zipWith_cons_cons->YE,cons_append->YL,length->YQ,of_mem_zip->YV,length_set->YW,drop_of_length_le->Y2,filter_append->Y4,getElem?_eq_none->Y7,dropLast_concat->Za,length_drop->Zd,replicate_succ->Zf
open PySem.Heap renaming get?_push_of_some->WR,get?_push_size->WX,lt_size->W4,size_push->Xq,get?_update_self->Xr,SameBut->YA,ExtBut->YX,size_update->YZ,get?_update_other->Y3
open Bool renaming and_eq_true->WT,false_ne_true->Xi,eq_iff_iff->Yv,noConfusion->Ze
open Nat renaming le_refl->WU,le_trans->W2,lt_of_le_of_lt->W6,ne_of_lt->W7,zero_le->W9,lt_of_lt_of_le->Xj,lt_trans->Xz,ne_of_gt->XR,lt_succ_of_lt->Yg,lt_irrefl->Yh,lt_succ_self->Yq,le_of_succ_le_succ->YH,le_add_right->YN,le_succ->YR,le_of_eq->Y8
open Array renaming length_toList->Xg,getElem?_eq_getElem->XM,getElem?_toList->Yc,getD_eq_getD_getElem?->YC
open Option.some renaming inj->Xl
open PySem.Heap.SameBut renaming update->Xo
open PySem.Obj renaming mapSeq->Xs,mapFields->Yz
open PySem.AutoSeq1 renaming wpAny_loadPart'->Xv
open PySem.Builtin.SmallTypes renaming nextOf->XA,ownedTupleIsFree->Yt
open Option renaming some_ne_none->XB,some->YM
open Ne renaming symm->XC
open PyProof.Rows renaming callWith_type1->XF,slot_tuple_getitem->X9
open PySem.Value renaming ref->XI,none->XZ,type->Yy
open PySem.Around renaming under_plainId->XO
open Sum renaming inr->XW
open PySem.Builtin.Tuple renaming tupleExact->XY
open Int renaming toNat_natCast->X8
open PySem.Builtin.Str renaming occurrences->Yb
open PySem.Builtin.Slice renaming slicePlaces->Ye,sliceApplied->Y0
open PySem.Calls renaming spliced_cons->Yn,spliced_nil->YU
open PySem.Str renaming ofString->Yp
open PySem.Builtin.List renaming listTooLong->Ys
open PySem.NameKind renaming free->YI
open Sum.inr renaming inj->YK
open ForInStep renaming yield->YO
open Nat.succ renaming inj->Y1
section
namespace Hq
open PySem PySem.W
def vS(s:PySem.Str)(n:Tok):Value:=.str s n
def vI(i:Int)(n:Tok):Value:=.int i n
def vR(a:Addr):Value:=.ref a
def vN:Value:=.none
def sO(s:String):PySem.Str:=PySem.Str.ofString s
def eN(P:Params)(k:PySem.Str)(n:Tok)(v:Value):DictEntry:=⟨PyData.keyHash P k,.str k n,v⟩
def U'(s:Stmt):Arguments:=match s with
 |.FunctionDef _ a _ _ _ _ _ _ _ _=>a
 |_=>{ posonlyargs:=[],args:=[],vararg:=none,kwonlyargs:=[],kw_defaults:=[],kwarg:=none,defaults:=[] }
def Va(s:Stmt):List Stmt:=match s with
 |.FunctionDef _ _ b _ _ _ _ _ _ _=>b
 |_=>[]
def Vb(s:Stmt):Scope:=match s with
 |.FunctionDef _ _ _ _ _ _ sc _ _ _=>sc
 |_=>{ kind:=.function,names:=[],isGenerator:=false,isCoroutine:=false }
def Th(s:Stmt):List Stmt:=match s with
 |.ClassDef _ _ _ b _ _ _ _ _ _ _=>b
 |_=>[]
def fO(nm qual:PySem.Str)(st:Stmt)(m cd:Value):Obj:={ cls:=.type "function",data:=.func (PySem.W.fnOf nm qual (U' st) (Va st) (Vb st) .none .none .none m none cd .none) }
def kF(p q:Program)(loose:List PySem.Str)(Xt:Shared->Bool){α:Type}(Yf:Shared->α)(Ya:World->α)(N:Nat)(row:String)(b:Bool):Prop:=
 ∀w:World,(fencedOpening treeTable p w N).map (λs₀=>(topFrom treeTable p (w.withFollow row b) N s₀).map λs=>(openSeen q loose (importedModules p.main.body) Xt true s,Yf s))=some (some (openGood q loose,Ya (w.withFollow row b)))
theorem left_two{p q:Program}{loose:List PySem.Str}{Xt:Shared->Bool}{α:Type}{Yf:Shared->α}{Ya:World->α}{N:Nat}(row:String)(h0:kF p q loose Xt Yf Ya N row false)(h1:kF p q loose Xt Yf Ya N row true):LeftO p q loose Xt Yf Ya N:=λw=>by
 obtain⟨s₀,a,b1⟩:=Option.map_eq_some_iff.mp (h0 w);obtain⟨s₁,S7,b2⟩:=Option.map_eq_some_iff.mp (h1 w);rw[a]at S7;cases S7;have e:=World.withFollow_self w row;unfold openEnds;rw[a];cases hb:w.params.followText row <;> rw[hb]at e
 ·rw[e]at b1;exact b1
 ·rw[e]at b2;exact b2
end Hq
end
section
set_option maxHeartbeats 0
namespace K47
open PySem Hq
def zT(i:Nat):Stmt:=PySem.Challenge.pw_keptnest_k47_put_in.main.body.getD i (.Pass ⟨0,0,0,0⟩)
def zM(i j:Nat):Stmt:=(Th (zT i)).getD j (.Pass ⟨0,0,0,0⟩)
def zC(a b:PySem.Str)(t:Nat)(l n:Int)(c r:Addr)(x y z:Value)(s:Addr)(e:Nat):Obj:={ cls:=PySem.Value.type "code",data:=PySem.Data.fields #[vS a t,vS b (t+1),vS "/claim/cut.py" (t+2),vI l 0,vI n 0,vI 0 0,vI 0 0,vI 3 0,vR c,PySem.Value.bool Bool.true,vI 181 0,vR r,x,y,z,vR s,vI e 0,vI l 0,vS "/claim/cut.py" (e+1)] }
def zK(P:Params):PySem.W.Frag:=(nat_lit 3,{ cls:=PySem.Value.type "dict",data:=PySem.Data.dict #[eN P "__name__" 165 (vS "law_keptnest_k47_put_in" 587),eN P "__doc__" 166 (vN),eN P "__package__" 167 (vN),eN P "__loader__" 168 (PySem.Value.builtin "__main__.__loader__#opaque"),eN P "__spec__" 169 (vN),eN P "__annotations__" 170 (vR 6),eN P "__builtins__" 171 (vR 4),eN P "__file__" 173 (vS "/claim/cut.py" 172),eN P "__cached__" 174 (vN),eN P "LETTERS" 190 (vS "abcdefghijklmnopqrstuvwxyz" 189),eN P "LONGEST_NAME" 192 (vI 8 191),eN P "TAKEN_WORDS" 214 (vR 15),eN P "only_of" 220 (vR 20),eN P "is_name" 227 (vR 27),eN P "new_name" 235 (vR 34),eN P "text_behind" 243 (vR 41),eN P "unfolded" 256 (vR 48),eN P "HAVE_MORE" 268 (vR 49),eN P "under" 274 (vR 54),eN P "with_under" 280 (vR 59),eN P "free" 293 (vR 66),eN P "bound_in" 301 (vR 73),eN P "Walk" 366 (vR 116),eN P "Place" 459 (vR 186),eN P "many_shared" 470 (vR 197),eN P "with_part" 480 (vR 204),eN P "Spare" 520 (vR 228),eN P "names_in" 526 (vR 237),eN P "put_in" 538 (vR 244),eN P "put" 549 (vR 251),eN P "begin" 561 (vR 258),eN P "begin_binding" 567 (vR 263),eN P "is_free" 577 (vR 270),eN P "finish" 586 (vR 277),eN P "_law_deck" 599 (vR 284),eN P "_law_take" 609 (vR 291),eN P "_law_stock" 617 (vR 298),eN P "_law_ways" 623 (vR 303),eN P "_law_with" 633 (vR 310),eN P "_law_name" 641 (vR 317),eN P "_law_kind" 650 (vR 324),eN P "_law_leaf" 656 (vR 329),eN P "_law_claim" 668 (vR 336),eN P "_law_bound" 682 (vR 343),eN P "_law_bag" 694 (vR 350),eN P "_law_at_row" 710 (vR 357),eN P "_law_ask" 716 (vR 362),eN P "_law_parts" 722 (vR 367),eN P "_law_rebuilt" 728 (vR 372),eN P "_law_free" 734 (vR 377),eN P "_law_knots" 740 (vR 382),eN P "_law_question" 753 (vR 389),eN P "_law_standing" 762 (vR 396),eN P "_law_fresh" 772 (vR 403),eN P "_law_swap" 778 (vR 408),eN P "_law_put" 784 (vR 413),eN P "law" 790 (vR 418)] 57 }) ::
 (nat_lit 4,{ cls:=PySem.Value.type "module",data:=PySem.Data.plain,dict:=some 0 }) ::
 (nat_lit 15,{ cls:=PySem.Value.type "tuple",data:=PySem.Data.seq #[vS "num" 193,vS "word" 194,vS "row" 195,vS "bag" 196,vS "var" 197,vS "table" 198,vS "at" 199,vS "add" 200,vS "mul" 201,vS "none" 202,vS "one" 203,vS "both" 204,vS "times" 205,vS "for" 206,vS "when" 207,vS "let" 208,vS "same" 209,vS "under" 210,vS "and" 211,vS "or" 212,vS "not" 213] }) ::
 (nat_lit 19,zC "only_of" "only_of" 215 5 2 16 17 vN vN vN 18 218) ::
 (nat_lit 20,fO "only_of" "only_of" (zT 4) (vS "keptnest.data.signs" 187) (vR 19)) ::
 (nat_lit 26,zC "is_name" "is_name" 221 7 1 21 22 vN (vR 23) (vR 24) 25 225) ::
 (nat_lit 27,fO "is_name" "is_name" (zT 5) (vS "keptnest.data.signs" 187) (vR 26)) ::
 (nat_lit 33,zC "new_name" "new_name" 228 9 1 28 29 vN (vR 30) (vR 31) 32 233) ::
 (nat_lit 34,fO "new_name" "new_name" (zT 6) (vS "keptnest.data.signs" 187) (vR 33)) ::
 (nat_lit 40,zC "text_behind" "text_behind" 236 14 1 35 36 vN (vR 37) (vR 38) 39 241) ::
 (nat_lit 41,fO "text_behind" "text_behind" (zT 7) (vS "keptnest.data.signs" 187) (vR 40)) ::
 (nat_lit 47,zC "unfolded" "unfolded" 246 22 2 42 43 vN (vR 44) (vR 45) 46 254) ::
 (nat_lit 48,fO "unfolded" "unfolded" (zT 9) (vS "keptnest.data.values" 244) (vR 47)) ::
 (nat_lit 49,{ cls:=PySem.Value.type "tuple",data:=PySem.Data.seq #[vS "num" 259,vS "word" 260,vS "var" 261,vS "table" 262,vS "none" 263,vS "at" 264,vS "times" 265,vS "for" 266,vS "let" 267] }) ::
 (nat_lit 53,zC "under" "under" 269 34 1 50 51 vN vN vN 52 272) ::
 (nat_lit 54,fO "under" "under" (zT 12) (vS "keptnest.asks.questions" 257) (vR 53)) ::
 (nat_lit 58,zC "with_under" "with_under" 275 38 2 55 56 vN vN vN 57 278) ::
 (nat_lit 59,fO "with_under" "with_under" (zT 13) (vS "keptnest.asks.questions" 257) (vR 58)) ::
 (nat_lit 65,zC "free" "free" 281 44 1 60 61 vN (vR 62) (vR 63) 64 291) ::
 (nat_lit 66,fO "free" "free" (zT 14) (vS "keptnest.asks.questions" 257) (vR 65)) ::
 (nat_lit 72,zC "bound_in" "bound_in" 294 54 2 67 68 vN (vR 69) (vR 70) 71 299) ::
 (nat_lit 73,fO "bound_in" "bound_in" (zT 15) (vS "keptnest.asks.questions" 257) (vR 72)) ::
 (nat_lit 86,zC "__init__" "Walk.__init__" 316 61 1 81 82 vN (vR 83) (vR 84) 85 320) ::
 (nat_lit 87,fO "__init__" "Walk.__init__" (zM 17 0) (vS "keptnest.asks.walks" 302) (vR 86)) ::
 (nat_lit 93,zC "later" "Walk.later" 323 65 4 88 89 vN (vR 90) (vR 91) 92 330) ::
 (nat_lit 94,fO "later" "Walk.later" (zM 17 1) (vS "keptnest.asks.walks" 302) (vR 93)) ::
 (nat_lit 100,zC "tell" "Walk.tell" 333 68 2 95 96 vN (vR 97) (vR 98) 99 338) ::
 (nat_lit 101,fO "tell" "Walk.tell" (zM 17 2) (vS "keptnest.asks.walks" 302) (vR 100)) ::
 (nat_lit 105,zC "take" "Walk.take" 341 71 2 102 103 vN vN vN 104 344) ::
 (nat_lit 106,fO "take" "Walk.take" (zM 17 3) (vS "keptnest.asks.walks" 302) (vR 105)) ::
 (nat_lit 112,zC "run" "Walk.run" 347 75 1 107 108 vN (vR 109) (vR 110) 111 354) ::
 (nat_lit 113,fO "run" "Walk.run" (zM 17 4) (vS "keptnest.asks.walks" 302) (vR 112)) ::
 (nat_lit 115,{ cls:=PySem.Value.type "dict",data:=PySem.Data.dict #[eN P "__module__" 311 (vS "keptnest.asks.walks" 302),eN P "__firstlineno__" 315 (vI 59 314),eN P "__init__" 322 (vR 87),eN P "later" 332 (vR 94),eN P "tell" 340 (vR 101),eN P "take" 346 (vR 106),eN P "run" 356 (vR 113),eN P "__static_attributes__" 359 (vR 114),eN P "__dict__" 361 (vR 117),eN P "__weakref__" 363 (vR 118),eN P "__doc__" 364 (vN)] 4 }) ::
 (nat_lit 116,{ cls:=PySem.Value.type "type",data:=PySem.Data.cls { name:=sO "Walk",bases:=[PySem.Value.type "object"],mro:=[vR 116,PySem.Value.type "object"],ns:=115,qualname:=sO "Walk" },slots:=#[Option.none,Option.none,YM (vS "Walk" 304),YM (vS "Walk" 312),YM (PySem.Value.builtin "object.__new__"),YM (PySem.Value.bool Bool.true)] }) ::
 (nat_lit 133,zC "__init__" "Place.__init__" 381 83 2 128 129 vN (vR 130) (vR 131) 132 386) ::
 (nat_lit 134,fO "__init__" "Place.__init__" (zM 19 0) (vS "keptnest.turns.places" 367) (vR 133)) ::
 (nat_lit 140,zC "knot" "Place.knot" 389 89 1 135 136 vN (vR 137) (vR 138) 139 393) ::
 (nat_lit 141,fO "knot" "Place.knot" (zM 19 1) (vS "keptnest.turns.places" 367) (vR 140)) ::
 (nat_lit 147,zC "go" "Place.go" 396 92 2 142 143 vN (vR 144) (vR 145) 146 403) ::
 (nat_lit 148,fO "go" "Place.go" (zM 19 2) (vS "keptnest.turns.places" 367) (vR 147)) ::
 (nat_lit 154,zC "down" "Place.down" 406 101 2 149 150 vN (vR 151) (vR 152) 153 412) ::
 (nat_lit 155,fO "down" "Place.down" (zM 19 3) (vS "keptnest.turns.places" 367) (vR 154)) ::
 (nat_lit 161,zC "up" "Place.up" 415 110 1 156 157 vN (vR 158) (vR 159) 160 421) ::
 (nat_lit 162,fO "up" "Place.up" (zM 19 4) (vS "keptnest.turns.places" 367) (vR 161)) ::
 (nat_lit 168,zC "put" "Place.put" 424 119 2 163 164 vN (vR 165) (vR 166) 167 429) ::
 (nat_lit 169,fO "put" "Place.put" (zM 19 5) (vS "keptnest.turns.places" 367) (vR 168)) ::
 (nat_lit 175,zC "whole" "Place.whole" 432 123 1 170 171 vN (vR 172) (vR 173) 174 436) ::
 (nat_lit 176,fO "whole" "Place.whole" (zM 19 6) (vS "keptnest.turns.places" 367) (vR 175)) ::
 (nat_lit 182,zC "names" "Place.names" 439 127 1 177 178 vN (vR 179) (vR 180) 181 445) ::
 (nat_lit 183,fO "names" "Place.names" (zM 19 7) (vS "keptnest.turns.places" 367) (vR 182)) ::
 (nat_lit 185,{ cls:=PySem.Value.type "dict",data:=PySem.Data.dict #[eN P "__module__" 376 (vS "keptnest.turns.places" 367),eN P "__firstlineno__" 380 (vI 81 379),eN P "__init__" 388 (vR 134),eN P "knot" 395 (vR 141),eN P "go" 405 (vR 148),eN P "down" 414 (vR 155),eN P "up" 423 (vR 162),eN P "put" 431 (vR 169),eN P "whole" 438 (vR 176),eN P "names" 447 (vR 183),eN P "__static_attributes__" 452 (vR 184),eN P "__dict__" 454 (vR 187),eN P "__weakref__" 456 (vR 188),eN P "__doc__" 457 (vN)] 4 }) ::
 (nat_lit 186,{ cls:=PySem.Value.type "type",data:=PySem.Data.cls { name:=sO "Place",bases:=[PySem.Value.type "object"],mro:=[vR 186,PySem.Value.type "object"],ns:=185,qualname:=sO "Place" },slots:=#[Option.none,Option.none,YM (vS "Place" 369),YM (vS "Place" 377),YM (PySem.Value.builtin "object.__new__"),YM (PySem.Value.bool Bool.true)] }) ::
 (nat_lit 196,zC "many_shared" "many_shared" 460 137 2 191 192 vN (vR 193) (vR 194) 195 468) ::
 (nat_lit 197,fO "many_shared" "many_shared" (zT 20) (vS "keptnest.turns.places" 367) (vR 196)) ::
 (nat_lit 203,zC "with_part" "with_part" 471 147 3 198 199 vN (vR 200) (vR 201) 202 478) ::
 (nat_lit 204,fO "with_part" "with_part" (zT 21) (vS "keptnest.turns.places" 367) (vR 203)) ::
 (nat_lit 217,zC "__init__" "Spare.__init__" 493 153 3 212 213 vN (vR 214) (vR 215) 216 499) ::
 (nat_lit 218,fO "__init__" "Spare.__init__" (zM 22 0) (vS "keptnest.turns.places" 367) (vR 217)) ::
 (nat_lit 224,zC "fresh" "Spare.fresh" 502 158 1 219 220 vN (vR 221) (vR 222) 223 507) ::
 (nat_lit 225,fO "fresh" "Spare.fresh" (zM 22 1) (vS "keptnest.turns.places" 367) (vR 224)) ::
 (nat_lit 227,{ cls:=PySem.Value.type "dict",data:=PySem.Data.dict #[eN P "__module__" 488 (vS "keptnest.turns.places" 367),eN P "__firstlineno__" 492 (vI 151 491),eN P "__init__" 501 (vR 218),eN P "fresh" 509 (vR 225),eN P "__static_attributes__" 513 (vR 226),eN P "__dict__" 515 (vR 229),eN P "__weakref__" 517 (vR 230),eN P "__doc__" 518 (vN)] 4 }) ::
 (nat_lit 228,{ cls:=PySem.Value.type "type",data:=PySem.Data.cls { name:=sO "Spare",bases:=[PySem.Value.type "object"],mro:=[vR 228,PySem.Value.type "object"],ns:=227,qualname:=sO "Spare" },slots:=#[Option.none,Option.none,YM (vS "Spare" 481),YM (vS "Spare" 489),YM (PySem.Value.builtin "object.__new__"),YM (PySem.Value.bool Bool.true)] }) ::
 (nat_lit 236,zC "names_in" "names_in" 521 165 1 233 234 vN vN vN 235 524) ::
 (nat_lit 237,fO "names_in" "names_in" (zT 23) (vS "keptnest.turns.places" 367) (vR 236)) ::
 (nat_lit 243,zC "put_in" "put_in" 529 168 3 238 239 vN (vR 240) (vR 241) 242 536) ::
 (nat_lit 244,fO "put_in" "put_in" (zT 25) (vS "keptnest.turns.rules" 527) (vR 243)) ::
 (nat_lit 250,zC "put" "put" 539 172 4 245 246 vN (vR 247) (vR 248) 249 547) ::
 (nat_lit 251,fO "put" "put" (zT 26) (vS "keptnest.turns.rules" 527) (vR 250)) ::
 (nat_lit 257,zC "begin" "begin" 550 176 3 252 253 vN (vR 254) (vR 255) 256 559) ::
 (nat_lit 258,fO "begin" "begin" (zT 27) (vS "keptnest.turns.rules" 527) (vR 257)) ::
 (nat_lit 262,zC "begin_binding" "begin_binding" 562 188 4 259 260 vN vN vN 261 565) ::
 (nat_lit 263,fO "begin_binding" "begin_binding" (zT 28) (vS "keptnest.turns.rules" 527) (vR 262)) ::
 (nat_lit 269,zC "is_free" "is_free" 568 199 2 264 265 vN (vR 266) (vR 267) 268 575) ::
 (nat_lit 270,fO "is_free" "is_free" (zT 29) (vS "keptnest.turns.rules" 527) (vR 269)) ::
 (nat_lit 276,zC "finish" "finish" 578 210 3 271 272 vN (vR 273) (vR 274) 275 584) ::
 (nat_lit 277,fO "finish" "finish" (zT 30) (vS "keptnest.turns.rules" 527) (vR 276)) ::
 (nat_lit 283,zC "_law_deck" "_law_deck" 589 213 2 278 279 vN (vR 280) (vR 281) 282 597) ::
 (nat_lit 284,fO "_law_deck" "_law_deck" (zT 32) (vS "law_keptnest_k47_put_in" 587) (vR 283)) ::
 (nat_lit 290,zC "_law_take" "_law_take" 600 221 2 285 286 vN (vR 287) (vR 288) 289 607) ::
 (nat_lit 291,fO "_law_take" "_law_take" (zT 33) (vS "law_keptnest_k47_put_in" 587) (vR 290)) ::
 (nat_lit 297,zC "_law_stock" "_law_stock" 610 227 0 292 293 vN (vR 294) (vR 295) 296 615) ::
 (nat_lit 298,fO "_law_stock" "_law_stock" (zT 34) (vS "law_keptnest_k47_put_in" 587) (vR 297)) ::
 (nat_lit 302,zC "_law_ways" "_law_ways" 618 231 2 299 300 vN vN vN 301 621) ::
 (nat_lit 303,fO "_law_ways" "_law_ways" (zT 35) (vS "law_keptnest_k47_put_in" 587) (vR 302)) ::
 (nat_lit 309,zC "_law_with" "_law_with" 624 239 3 304 305 vN (vR 306) (vR 307) 308 631) ::
 (nat_lit 310,fO "_law_with" "_law_with" (zT 36) (vS "law_keptnest_k47_put_in" 587) (vR 309)) ::
 (nat_lit 316,zC "_law_name" "_law_name" 634 243 1 311 312 vN (vR 313) (vR 314) 315 639) ::
 (nat_lit 317,fO "_law_name" "_law_name" (zT 37) (vS "law_keptnest_k47_put_in" 587) (vR 316)) ::
 (nat_lit 323,zC "_law_kind" "_law_kind" 642 246 1 318 319 vN (vR 320) (vR 321) 322 648) ::
 (nat_lit 324,fO "_law_kind" "_law_kind" (zT 38) (vS "law_keptnest_k47_put_in" 587) (vR 323)) ::
 (nat_lit 328,zC "_law_leaf" "_law_leaf" 651 250 3 325 326 vN vN vN 327 654) ::
 (nat_lit 329,fO "_law_leaf" "_law_leaf" (zT 39) (vS "law_keptnest_k47_put_in" 587) (vR 328)) ::
 (nat_lit 335,zC "_law_claim" "_law_claim" 657 266 3 330 331 vN (vR 332) (vR 333) 334 666) ::
 (nat_lit 336,fO "_law_claim" "_law_claim" (zT 40) (vS "law_keptnest_k47_put_in" 587) (vR 335)) ::
 (nat_lit 342,zC "_law_bound" "_law_bound" 669 276 4 337 338 vN (vR 339) (vR 340) 341 680) ::
 (nat_lit 343,fO "_law_bound" "_law_bound" (zT 41) (vS "law_keptnest_k47_put_in" 587) (vR 342)) ::
 (nat_lit 349,zC "_law_bag" "_law_bag" 683 282 4 344 345 vN (vR 346) (vR 347) 348 692) ::
 (nat_lit 350,fO "_law_bag" "_law_bag" (zT 42) (vS "law_keptnest_k47_put_in" 587) (vR 349)) ::
 (nat_lit 356,zC "_law_at_row" "_law_at_row" 695 295 4 351 352 vN (vR 353) (vR 354) 355 708) ::
 (nat_lit 357,fO "_law_at_row" "_law_at_row" (zT 43) (vS "law_keptnest_k47_put_in" 587) (vR 356)) ::
 (nat_lit 361,zC "_law_ask" "_law_ask" 711 303 4 358 359 vN vN vN 360 714) ::
 (nat_lit 362,fO "_law_ask" "_law_ask" (zT 44) (vS "law_keptnest_k47_put_in" 587) (vR 361)) ::
 (nat_lit 366,zC "_law_parts" "_law_parts" 717 320 1 363 364 vN vN vN 365 720) ::
 (nat_lit 367,fO "_law_parts" "_law_parts" (zT 45) (vS "law_keptnest_k47_put_in" 587) (vR 366)) ::
 (nat_lit 371,zC "_law_rebuilt" "_law_rebuilt" 723 327 2 368 369 vN vN vN 370 726) ::
 (nat_lit 372,fO "_law_rebuilt" "_law_rebuilt" (zT 46) (vS "law_keptnest_k47_put_in" 587) (vR 371)) ::
 (nat_lit 376,zC "_law_free" "_law_free" 729 331 1 373 374 vN vN vN 375 732) ::
 (nat_lit 377,fO "_law_free" "_law_free" (zT 47) (vS "law_keptnest_k47_put_in" 587) (vR 376)) ::
 (nat_lit 381,zC "_law_knots" "_law_knots" 735 340 1 378 379 vN vN vN 380 738) ::
 (nat_lit 382,fO "_law_knots" "_law_knots" (zT 48) (vS "law_keptnest_k47_put_in" 587) (vR 381)) ::
 (nat_lit 388,zC "_law_question" "_law_question" 741 342 5 383 384 vN (vR 385) (vR 386) 387 751) ::
 (nat_lit 389,fO "_law_question" "_law_question" (zT 49) (vS "law_keptnest_k47_put_in" 587) (vR 388)) ::
 (nat_lit 395,zC "_law_standing" "_law_standing" 754 349 1 390 391 vN (vR 392) (vR 393) 394 760) ::
 (nat_lit 396,fO "_law_standing" "_law_standing" (zT 50) (vS "law_keptnest_k47_put_in" 587) (vR 395)) ::
 (nat_lit 402,zC "_law_fresh" "_law_fresh" 763 357 1 397 398 vN (vR 399) (vR 400) 401 770) ::
 (nat_lit 403,fO "_law_fresh" "_law_fresh" (zT 51) (vS "law_keptnest_k47_put_in" 587) (vR 402)) ::
 (nat_lit 407,zC "_law_swap" "_law_swap" 773 365 3 404 405 vN vN vN 406 776) ::
 (nat_lit 408,fO "_law_swap" "_law_swap" (zT 52) (vS "law_keptnest_k47_put_in" 587) (vR 407)) ::
 (nat_lit 412,zC "_law_put" "_law_put" 779 374 4 409 410 vN vN vN 411 782) ::
 (nat_lit 413,fO "_law_put" "_law_put" (zT 53) (vS "law_keptnest_k47_put_in" 587) (vR 412)) ::
 (nat_lit 417,zC "law" "law" 785 389 1 414 415 vN vN vN 416 788) ::
 (nat_lit 418,fO "law" "law" (zT 54) (vS "law_keptnest_k47_put_in" 587) (vR 417))::[]
def zA:List Addr:=[3,4,15,19,20,26,27,33,34,40,41,47,48,49,53,54,58,59,65,66,72,73,86,87,93,94,100,101,105,106,112,113,115,116,133,134,140,141,147,148,154,155,161,162,168,169,175,176,182,183,185,186,196,197,203,204,217,218,224,225,227,228,236,237,243,244,250,251,257,258,262,263,269,270,276,277,283,284,290,291,297,298,302,303,309,310,316,317,323,324,328,329,335,336,342,343,349,350,356,357,361,362,366,367,371,372,376,377,381,382,388,389,395,396,402,403,407,408,412,413,417,418]
def zV:Program:={ PySem.Challenge.pw_keptnest_k47_put_in with main:={ PySem.Challenge.pw_keptnest_k47_put_in.main with body:=[1,2,3,4,5,6,7,9,11,12,13,14,15,17,19,20,21,22,23,25,26,27,28,29,30,32,33,34,35,36,37,38,39,40,41,42,43,44,45,46,47,48,49,50,51,52,53,54].filterMap λi=>PySem.Challenge.pw_keptnest_k47_put_in.main.body[i]? } }
theorem zE:∀P,zA=(zK P).map (·.1):=λ_=>rfl
def zTs:List Addr:=[234]
def zL:List PySem.Str:=[]
end K47
end
section
namespace Hq
open PySem PySem.W
def m6(st:SharedT->Thread->Option (SharedT×Thread))(ok:Thread->Bool):Nat->SharedT->Thread->Option SharedT
 | 0,_,_=>none
 |n+1,s,t=>match through t with
  |true=>some s
  |false=>match ok t with
   |false=>none
   |true=>match st s t with
    |some (s',t')=>m6 st ok n s' t'
    |none=>none
theorem vO{tb:String->Option Builtin}{p:Program}{w:World}{n₀:Nat}{qi:Option Value}:∀{n:Nat}{s s':SharedT}{t:Thread},m6 (stepT (denote tb) p w) (stepOk n₀ qi) n s t=some s'->topRun tb p w n₀ qi n s.abs t=some s'.abs
 | 0,_,_,_,h=>by cases h
 |n+1,s,s',t,h=>by
  unfold m6 at h;unfold topRun;cases he:through t with
  |true=>rw[he]at h;cases h;rfl
  |false=>
   rw[he]at h;cases hk:stepOk n₀ qi t with
   |false=>rw[hk]at h;cases h
   |true=>
    rw[hk]at h;cases hs:stepT (denote tb) p w s t with
    |none=>rw[hs]at h;cases h
    |some r=>obtain⟨s₂,t₂⟩:=r;rw[hs]at h;rw[stepT_spec hs];exact vO h
def m7:List Obj->BT->Nat->Option (BT×Nat)
 |[],t,n=>some (t,n)
 |o::l,t,n=>match ((t.ins n o).get n).isSome with
  |true=>m7 l (t.ins n o) (n+1)
  |false=>none
theorem vP{life:Life}:∀{l:List Obj}{t t':BT}{n n':Nat},m7 l t n=some (t',n')->absHeap t' n' life=⟨(absHeap t n life).objs++l.toArray,life⟩
 |[],t,t',n,n',h=>by cases h;simp;rfl
 |o::l,t,t',n,n',h=>by
  unfold m7 at h;cases e:((t.ins n o).get n).isSome with
  |false=>rw[e]at h;cases h
  |true=>
   rw[e]at h;rw[vP h,absHeap_ins e];unfold Heap.push;simp
def vQ(s:Shared):Option SharedT:=(m7 s.heap.objs.toList .nil 0).map λx=>⟨x.1,x.2,s.heap.life,s.gens,s.drawn,s.toks,s.os⟩
theorem Du{s:Shared}{T:SharedT}(h:vQ s=some T):T.abs=s:=by
 obtain⟨x,a,b⟩:=Option.map_eq_some_iff.mp h;obtain⟨t,n⟩:=x;cases b;have:=vP (life:=s.heap.life) a;unfold SharedT.abs;obtain⟨⟨objs,life⟩,gens,drawn,toks,os⟩:=s;simp only at this ⊢;rw[this];simp [absHeap,BT.list]
def qj(st:SharedT->Thread->Option (SharedT×Thread))(sk:Nat->Option Value->Thread->Bool)(p:Program)(N:Nat){β:Type}(F:Shared->β)(s₀:Shared):Option β:=
 match s₀.heap.isNs mainGlobals && s₀.gens.size == 0 with
 | true=>(vQ s₀).bind λT₀=>(m6 st (sk s₀.heap.objs.size (s₀.heap.nsMap mainGlobals "__annotations__")) N T₀ (topStub p)).bind λT₁=>match staticsOk (importedModules p.main.body) s₀.heap T₁.abs.heap && namesBound p T₁.abs.heap && gensDone T₁.abs && laidKept s₀.heap T₁.abs.heap with
   |true=>some (F T₁.abs)
   |false=>none
 |false=>none
theorem Dv{tb:String->Option Builtin}{p:Program}{w:World}{N:Nat}{β:Type}{F:Shared->β}{s₀:Shared}{y:β}(h:qj (stepT (denote tb) p w) stepOk p N F s₀=some y):(topFrom tb p w N s₀).map F=some y:=by
 unfold qj at h;unfold topFrom;cases e:(s₀.heap.isNs mainGlobals && s₀.gens.size == 0) with
 |false=>rw[e]at h;cases h
 |true=>
  rw[e]at h;obtain⟨T₀,a,h⟩:=Option.bind_eq_some_iff.mp h;obtain⟨T₁,b,h⟩:=Option.bind_eq_some_iff.mp h;have b':=vO b;rw[Du a]at b';dsimp only;rw[b'];dsimp only[Option.bind_some];cases q:(staticsOk (importedModules p.main.body) s₀.heap T₁.abs.heap && namesBound p T₁.abs.heap && gensDone T₁.abs && laidKept s₀.heap T₁.abs.heap) with
  |false=>rw[q]at h;cases h
  |true=>rw[q]at h;exact h
def m8(Vc:Program->World->Nat->Shared->Thread->Option Shared)(UD:Program->Shared×Thread)(Vd:Program->Shared->Option Shared)(st:Program->World->SharedT->Thread->Option (SharedT×Thread))(sk:Nat->Option Value->Thread->Bool)(p:Program){β:Type}(F:Shared->β)(y:World->β)(N:Nat)(row:String)(b:Bool):Prop:=
 ∀w:World,((Vc (opening p) w N (UD (opening p)).1 (UD (opening p)).2).bind (Vd p)).bind (qj (st p (w.withFollow row b)) sk p N F)=some (y (w.withFollow row b))
theorem m8.to{p:Program}{β:Type}{F:Shared->β}{y:World->β}{N:Nat}{row:String}{b:Bool}(h:m8 (importEnds treeTable) start fenceModules? (stepT (denote treeTable)) stepOk p F y N row b)(w:World):(fencedOpening treeTable p w N).map (λs₀=>(topFrom treeTable p (w.withFollow row b) N s₀).map F)=some (some (y (w.withFollow row b))):=by
 obtain⟨s₀,a,e⟩:=Option.bind_eq_some_iff.mp (h w);unfold fencedOpening;rw[a,Option.map_some,Dv e]
open Fast in
abbrev f6{β:Type}(p:Program)(F:Shared->β)(y:World->β)(N:Nat)(row:String)(b:Bool):Prop:=m8 (tw10274390034422433532 tw14364793385576792824) tw1435165496053646825 tw14289696077712309145 (tw10156331382660048174 (tw11892475500146522536 tw14364793385576792824)) tw6613529449190102663 p F y N row b
open Fast in
theorem f6.to{p:Program}{β:Type}{F:Shared->β}{y:World->β}{N:Nat}{row:String}{b:Bool}(h:f6 p F y N row b):m8 (importEnds treeTable) start fenceModules? (stepT (denote treeTable)) stepOk p F y N row b:=by
 rw[te10274390034422433532,te14364793385576792824,te1435165496053646825,te14289696077712309145,te10156331382660048174,te11892475500146522536,te6613529449190102663];exact h
open Fast in
theorem f6.eI{p q:Program}{loose:List PySem.Str}{Xt:Shared->Bool}{α:Type}{Yf:Shared->α}{Ya:World->α}{N:Nat}{row:String}{b:Bool}(h:f6 p (openSeen q loose (importedModules p.main.body) Xt true) (λ_=>openGood q loose) N row b)(h':f6 p Yf Ya N row b):kF p q loose Xt Yf Ya N row b:=λw=>by
 have a:=h.to.to w;have b':=h'.to.to w;obtain⟨s₀,e,a⟩:=Option.map_eq_some_iff.mp a;rw[e,Option.map_some]at b' ⊢;obtain⟨s₁,e',a⟩:=Option.map_eq_some_iff.mp a;rw[e',Option.map_some]at b' ⊢;rw[a,Xl (Xl b')]
end Hq
end
section
set_option maxHeartbeats 0
namespace K47
open PySem Hq
theorem Dw:f6 PySem.Challenge.pw_keptnest_k47_put_in (PySem.W.openSeen zV zL (importedModules PySem.Challenge.pw_keptnest_k47_put_in.main.body) (λs=>PySem.W.xlAt zV [] s && PySem.W.recOk (PySem.W.RowW.records (PySem.W.OpenRow.toRowW PySem.Challenge.rw_keptnest_k47_put_in.row)) s) true) (λ_=>PySem.W.openGood zV zL) 4970 "special-get-raises" false:=by
 intro w
 kernel_rfl
theorem Dy:f6 PySem.Challenge.pw_keptnest_k47_put_in (PySem.W.Hook.obs (PySem.W.kmHook zK zA zE zTs)) (PySem.W.Hook.val (PySem.W.kmHook zK zA zE zTs)) 4970 "special-get-raises" false:=by
 intro w
 kernel_rfl
theorem zR_false:kF PySem.Challenge.pw_keptnest_k47_put_in zV zL (λs=>PySem.W.xlAt zV [] s && PySem.W.recOk (PySem.W.RowW.records (PySem.W.OpenRow.toRowW PySem.Challenge.rw_keptnest_k47_put_in.row)) s) (PySem.W.Hook.obs (PySem.W.kmHook zK zA zE zTs)) (PySem.W.Hook.val (PySem.W.kmHook zK zA zE zTs)) 4970 "special-get-raises" false:=Dw.eI Dy
theorem Dz:f6 PySem.Challenge.pw_keptnest_k47_put_in (PySem.W.openSeen zV zL (importedModules PySem.Challenge.pw_keptnest_k47_put_in.main.body) (λs=>PySem.W.xlAt zV [] s && PySem.W.recOk (PySem.W.RowW.records (PySem.W.OpenRow.toRowW PySem.Challenge.rw_keptnest_k47_put_in.row)) s) true) (λ_=>PySem.W.openGood zV zL) 4970 "special-get-raises" true:=by
 intro w
 kernel_rfl
theorem DB:f6 PySem.Challenge.pw_keptnest_k47_put_in (PySem.W.Hook.obs (PySem.W.kmHook zK zA zE zTs)) (PySem.W.Hook.val (PySem.W.kmHook zK zA zE zTs)) 4970 "special-get-raises" true:=by
 intro w
 kernel_rfl
theorem zR_true:kF PySem.Challenge.pw_keptnest_k47_put_in zV zL (λs=>PySem.W.xlAt zV [] s && PySem.W.recOk (PySem.W.RowW.records (PySem.W.OpenRow.toRowW PySem.Challenge.rw_keptnest_k47_put_in.row)) s) (PySem.W.Hook.obs (PySem.W.kmHook zK zA zE zTs)) (PySem.W.Hook.val (PySem.W.kmHook zK zA zE zTs)) 4970 "special-get-raises" true:=Dz.eI DB
theorem zS:PySem.Challenge.rw_keptnest_k47_put_in.wellSaid=true:=by kernel_rfl
end K47
end
section
namespace L2
open PySem PySem.Spec PyProof.Rows
abbrev Key:=Sum Int Str
noncomputable def gS:Key->Value->Bool
 |.inl k,v=>Value.isInt k v
 |.inr x,v=>Value.isStrOf x v
noncomputable def DC(w:World):Key->Int
 |.inl k=>hashInt k
 |.inr x=>hashStr w x
theorem dZ:∀{k:Key}{v:Value},gS k v=true->(∃i t,k=Sum.inl i/\v=Value.int i t)\/(∃x t,k=XW x/\v=Value.str x t)
 |.inl i,v,h=>by
  obtain⟨t,e⟩:=Value.isInt_shape (k:=i) (v:=v) h;exact .inl ⟨i,t,rfl,e⟩
 |.inr x,v,h=>by
  obtain⟨t,e⟩:=Value.isStrOf_shape (x:=x) (v:=v) h;exact .inr ⟨x,t,rfl,e⟩
theorem DD(i:Int)(t:Tok):gS (.inl i) (.int i t)=true:=by simp [gS,Value.isInt]
theorem DH(x:Str)(t:Tok):gS (.inr x) (.str x t)=true:=by simp [gS,Value.isStrOf]
theorem DJ(a b:Int):decide ((Sum.inl a:Key)=Sum.inl b)=(a == b):=by
 by_cases e:a=b
 ·subst e;simp
 ·have h:¬(Sum.inl a:Key)=Sum.inl b:=λq=>e (Sum.inl.inj q);rw[decide_eq_false h];exact (beq_eq_false_iff_ne.mpr e).symm
theorem DL(a b:Str):decide ((XW a:Key)=XW b)=decide (a=b):=by
 by_cases e:a=b
 ·subst e;simp
 ·have h:¬(XW a:Key)=XW b:=λq=>e (YK q);rw[decide_eq_false h,decide_eq_false e]
theorem DM(a:Int)(b:Str):decide ((Sum.inl a:Key)=XW b)=false:=decide_eq_false (λq=>nomatch q)
theorem DN(a:Str)(b:Int):decide ((XW a:Key)=Sum.inl b)=false:=decide_eq_false (λq=>nomatch q)
noncomputable def bx(prog:Program)(w:World):PySem.KeyKind prog w Key where
 is:=gS
 hash:=DC w
 inj:=λv a b ha hb=>by
  rcases dZ ha with ⟨i,t,rfl,rfl⟩ |⟨x,t,rfl,rfl⟩
  ·rcases dZ hb with ⟨j,u,rfl,e⟩ |⟨y,u,rfl,e⟩
   ·injection e with e1 _;rw[e1]
   ·exact nomatch e
  ·rcases dZ hb with ⟨j,u,rfl,e⟩ |⟨y,u,rfl,e⟩
   ·exact nomatch e
   ·injection e with e1 _;rw[e1]
 byValue:=λk v h=>by
  rcases dZ h with ⟨i,t,rfl,rfl⟩ |⟨x,t,rfl,rfl⟩ <;> rfl
 pyHash:=λhv h=>by
  rcases dZ hv with ⟨i,t,rfl,rfl⟩ |⟨x,t,rfl,rfl⟩
  ·exact wpAny_pyHash_int h
  ·exact wpAny_pyHash_str h
 eqBool:=λhu hv h=>by
  rcases dZ hu with ⟨i,t,rfl,rfl⟩ |⟨x,t,rfl,rfl⟩
  ·rcases dZ hv with ⟨j,u,rfl,rfl⟩ |⟨y,u,rfl,rfl⟩
   ·rw[DJ]at h;exact wpAny_eqBool_int h
   ·rw[DM]at h;exact SeqAt.EqAt.int_str i t y u _ _ _ _ h
  ·rcases dZ hv with ⟨j,u,rfl,rfl⟩ |⟨y,u,rfl,rfl⟩
   ·rw[DN]at h;exact SeqAt.EqAt.str_int x t j u _ _ _ _ h
   ·rw[DL]at h;exact wpAny_eqBool_str h
 «strs»:=λk x t v h=>by
  rcases dZ h with ⟨i,u,rfl,e⟩ |⟨y,u,rfl,e⟩
  ·exact nomatch e
  ·injection e with e1 _;subst e1;cases v <;> rfl
end L2
namespace L2
open PySem PySem.Spec PyProof.Rows
def jt(sc:Scope)(x:Str):Prop:=sc.names.lookup x=some .local\/sc.names.lookup x=some .cell\/sc.names.lookup x=some .free
def ju(sc:Scope)(x:Str):Prop:=sc.names.lookup x=some .local\/sc.names.lookup x=some .cell
def jv(env:Env)(h:Heap)(m:Str->Option Value)(x:Str)(u:Value):Prop:=
 (env.kindOf x=some .local/\m x=some u)\/((env.kindOf x=some .cell\/env.kindOf x=some .free)/\∃c,env.cells.lookup x=some c/\h.IsCell c (some u))
section
variable{X:Cx}{a':List (Addr×Obj)}{σ:List (Option V)}{H Wj:Hp}{s:Shared}{h':Heap}
theorem DP{N:List Str}(hN:N.Nodup){i j:Nat}{x:Str}(a:N[i]?=some x)(b:N[j]?=some x):i=j:=by
 obtain⟨h1,e1⟩:=List.getElem?_eq_some_iff.mp a;obtain⟨h2,e2⟩:=List.getElem?_eq_some_iff.mp b;exact (List.getElem_inj hN).mp (e1.trans e2.symm)
end
end L2
namespace L2
open PySem PySem.Spec PyProof.Rows
theorem m9{M:Model}{A:Around}{E:Value->Shared->Prop}{s:Shared}{tg:Expr}{it:Addr}{u:Value}{o:Obj}{n:String}{vs:Array Value}{Q:Unit->Shared->Prop}(ho:s.heap.get? it=some o)(hc:o.cls=.type n)(hd:o.data=.fields vs)
    (hn:["enumerate","zip","dict_itemiterator","dict_reverseitemiterator","odict_iterator","itertools.zip_longest","itertools.pairwise"].contains n=false) (hQ:Q () s):wpAny M A (letOwnedTupleGo tg (.ref it) u) Q E s:=by
  unfold letOwnedTupleGo;cases tg <;> first
    |exact WS hQ
    | (cases u <;> first
        |exact WS hQ
        | (refine WO (wpAny_load ho ?_)
           rw[hc,hd];show wpAny M A (if (["enumerate","zip","dict_itemiterator","dict_reverseitemiterator","odict_iterator","itertools.zip_longest","itertools.pairwise"].contains n && vs[0]? == some (rawInt _))=true then _ else _) Q E s
           rw[if_neg (by intro h;rw[hn,Bool.false_and]at h;cases h)];exact WS hQ))
end L2
namespace L2
open PySem PySem.Spec PyProof.Rows
end L2
namespace L2
open PySem PySem.Spec PyProof.Rows
section
variable{prog:Program}{w:World}{A:Around}{E:Value->Shared->Prop}{s:Shared}
theorem qk{J t:Addr}{i:Nat}{its:Array Value}{x:Value}{Q:Value->Shared->Prop}(hJ:s.heap.IsTupleIter J t i)(ht:s.heap.IsTuple t its)(hx:its[i]?=some x)
  (q:∀h',h'.IsTupleIter J t (i+1)->YA J s.heap h'->Q x { s with heap:=h' }):wpAny (model prog w) A (XA (.ref J)) Q E s:=by
 obtain⟨ob,h1,h2,h3⟩:=id hJ;obtain⟨ot,g1,_,nt,g2⟩:=ht;unfold XA;refine WO (Xm (name:=Yp "__next__") hJ.typeIs F.slot_tuple_iterator_next (Xp F.slot_tuple_iterator_next hJ.typeIs F.entry_tuple_iterator_next ?_ (F.args_tuple_iterator_next_1 _)));show wpAny _ _ (field (.ref J) 0 >>= _) _ _ s;refine WO (XH h1 h3 (x:=.ref t) rfl ?_);show wpAny _ _ (if (XI t == XZ)=true then _ else _) _ _ s
 rw[if_neg (show ¬((XI t == XZ)=true) from λz=>Xi z)];show wpAny _ _ (field (.ref J) 1 >>= _) _ _ s;refine WO (XH h1 h3 (x:=.int i 0) rfl ?_);show wpAny _ _ (seqItems? (.ref t) >>= _) _ _ s;refine WO (YF g1 g2 ?_);simp only[X8,hx];refine WO (wpAny_setField h1 h3 (by simp) (WS ⟨x,rfl,WS (q _ ?a (Xo ..))⟩));exact⟨_,Xr _ h1 (Obj.isFreed_of_fields (Obj.data_mapFields h3 _)),Eq.trans (Obj.cls_mapFields ..) h2,by rw[Obj.data_mapFields h3] <;> simp [rawInt]⟩
theorem ng{J t:Addr}{i:Nat}{its:Array Value}{Q:Value->Shared->Prop}(hh:A.handled=none)(hJ:s.heap.IsTupleIter J t i)(ht:s.heap.IsTuple t its)(hx:its[i]?=none)
  (q:∀h' e,YX J s.heap h'->(∃o,h'.get? e=some o/\o.cls=.type "StopIteration")->E (.ref e) { s with heap:=h' }):wpAny (model prog w) A (XA (.ref J)) Q E s:=by
 obtain⟨ob,h1,h2,h3⟩:=id hJ;obtain⟨ot,g1,_,nt,g2⟩:=ht;unfold XA;refine WO (Xm (name:=Yp "__next__") hJ.typeIs F.slot_tuple_iterator_next (Xp F.slot_tuple_iterator_next hJ.typeIs F.entry_tuple_iterator_next ?_ (F.args_tuple_iterator_next_1 _)));show wpAny _ _ (field (.ref J) 0 >>= _) _ _ s;refine WO (XH h1 h3 (x:=.ref t) rfl ?_);show wpAny _ _ (if (XI t == XZ)=true then _ else _) _ _ s
 rw[if_neg (show ¬((XI t == XZ)=true) from λz=>Xi z)];show wpAny _ _ (field (.ref J) 1 >>= _) _ _ s;refine WO (XH h1 h3 (x:=.int i 0) rfl ?_);show wpAny _ _ (seqItems? (.ref t) >>= _) _ _ s;refine WO (YF g1 g2 ?_);simp only[X8,hx];refine WO (wpAny_rule (WO (wpAny_setField h1 h3 (by simp) ?_)));show wpAny _ _ (newExc (.type "StopIteration") [] >>= _) _ _ _;refine WO ?_;simp only[newExc,newTuple];refine WO (Xx ?_ (by size_fits));refine WO (m:=firstArgMember _ _) (wpAny_of_eq (a:=XZ) (by first |rfl |(simp only[firstArgMember] <;> rfl)) ?_)
 refine Xx ?_ (by size_fits);simp only[raiseNew];refine WO (wpAny_handled ?_)
 first |rw[show A.in1.handled=none from hh] |rw[hh]
 refine WO (WS (wpAny_throw (q _ _ ?_ ⟨_,WX _ rfl,rfl⟩)));exact ((Xo ..).extBut.push _).push _
def bX(q:Bool)(h:Heap)(a:Addr)(xs:Array Value):Prop:=match q with
 |true=>h.IsTuple a xs
 |false=>h.IsList a xs
noncomputable abbrev jw(q:Bool):String:=match q with
 |true=>"tuple_iterator"
 |false=>"list_iterator"
def cA(q:Bool)(h:Heap)(J t:Addr)(i:Nat):Prop:=∃o,h.get? J=some o/\o.cls=.type (jw q)/\o.data=.fields #[.ref t,.int i 0]
theorem cA.extBut{q:Bool}{h h':Heap}{J t c:Addr}{i:Nat}(x:cA q h J t i)(e:YX c h h')(n:J≠c):cA q h' J t i:=
 let ⟨o,a,b⟩:=x;⟨o,e _ _ n a,b⟩
theorem bX.extBut{q:Bool}{h h':Heap}{t c:Addr}{xs:Array Value}(x:bX q h t xs)(e:YX c h h')(n:t≠c):bX q h' t xs:=by
 cases q
 ·exact Heap.IsList.extBut x e n
 ·exact Heap.IsTuple.extBut x e n
theorem ql{q:Bool}{J t:Addr}{i:Nat}{its:Array Value}{x:Value}{Q:Value->Shared->Prop}(hJ:cA q s.heap J t i)(ht:bX q s.heap t its)(hx:its[i]?=some x)
  (h:∀h',cA q h' J t (i+1)->YA J s.heap h'->Q x { s with heap:=h' }):wpAny (model prog w) A (XA (.ref J)) Q E s:=by
 cases q
 ·exact wpAny_nextOf_list_item hJ ht hx h
 ·exact qk hJ ht hx h
theorem vT{q:Bool}{J t:Addr}{i:Nat}{its:Array Value}{Q:Value->Shared->Prop}(hh:A.handled=none)(hJ:cA q s.heap J t i)(ht:bX q s.heap t its)(hx:its[i]?=none)
  (h:∀h' e,YX J s.heap h'->(∃o,h'.get? e=some o/\o.cls=.type "StopIteration")->E (.ref e) { s with heap:=h' }):wpAny (model prog w) A (XA (.ref J)) Q E s:=by
 cases q
 ·exact wpAny_nextOf_list_end hh hJ ht hx h
 ·exact ng hh hJ ht hx h
theorem bX.lt{q:Bool}{h:Heap}{t:Addr}{xs:Array Value}(x:bX q h t xs):t<h.objs.size:=by
 cases q <;> (obtain⟨_,e,_⟩:=x;exact W4 e)
end
end L2
namespace L2
open PySem PySem.Spec PyProof.Rows
theorem _root_.PySem.Draws.tuple{prog:Program}{w:World}{A:Around}(hh:A.handled=none)(it l:Addr)(bn:l≠it)(items:Array Value):
  Draws prog w A it [it,l] items.size (λi v=>items[i]?=some v) (λi h=>h.IsTupleIter it l i/\h.IsTuple l items) where
 live:=λ_ _ st=>let ⟨o,ho,_⟩:=st.1;⟨o,ho⟩
 frame:=λ_ _ _ st hk=>⟨st.1.at λo e=>hk it (by simp) o e,st.2.at λo e=>hk l (by simp) o e⟩
 item:=λi s Q E hi st hQ=>by
  refine qk st.1 st.2 (x:=items[i]) (by simp [hi]) λh' qm gT=>?_;exact hQ _ h' s.toks (by simp [hi]) ⟨qm,st.2.extBut gT.extBut bn⟩ gT
 done:=λs Q E st Ve=>ng hh st.1 st.2 (by simp) Ve
section
open AutoSeq1 (wpAny_loadPart')
theorem DQ(l:Addr)(items:Array Value)(n:Nat)(ag:Option Addr)(sl:Array (Option Value)):
  Meets (Builtin.«enumerate.__new__» ⟨[.type "enumerate",.ref l],[]⟩) (λ_ R s=>s.heap.get? l=some { cls:=.type "tuple",dict:=ag,data:=.seq items n,slots:=sl } /\
   R (.ok (.ret (.ref (s.heap.push { cls:=.type "tuple_iterator",data:=.fields #[.ref l,.int 0 0] }).objs.size)))
    { s with heap:=(s.heap.push { cls:=.type "tuple_iterator",data:=.fields #[.ref l,.int 0 0] }).push { cls:=.type "enumerate",data:=.fields #[.none,.bool false,.ref s.heap.objs.size,rawInt 0,.none,.none] } }):=
 .of_wp λprog w A R s h=>by
  obtain⟨hp,g,d,tk,os⟩:=s;obtain⟨hl,h⟩:=h;have hsub:=sub_enumerate;have hL:Heap.IsTuple (Shared.heap ⟨hp,g,d,tk,os⟩) l items:=⟨_,hl,rfl,n,rfl⟩
  wp_walk using Xv hl
  refine wpAny_stack_any λst=>WS ?_;split
  ·rename_i c _ _ _ _ _;cases (c == Yy "enumerate")
   ·wp_walk using Xv hl,Y' hL
    exact⟨_,rfl,h⟩
   ·wp_walk using Xv hl,Y' hL
    exact⟨_,rfl,h⟩
  ·wp_walk using Xv hl,Y' hL
   exact⟨_,rfl,h⟩
end
section
variable{prog:Program}{w:World}{A:Around}{E:Value->Shared->Prop}{s:Shared}
theorem vU{l:Addr}{items:Array Value}{Q:Value->Shared->Prop}(hL:IsTup s.heap l items)
  (h:∀h',IsEnum h' (s.heap.objs.size+1) s.heap.objs.size 0 .none->h'.IsTupleIter s.heap.objs.size l 0->h'.objs.size=s.heap.objs.size+2 ->
   (∀b o,s.heap.get? b=some o->h'.get? b=some o)->Q (.ref (s.heap.objs.size+1)) { s with heap:=h' }) :
  wpAny (model prog w) A (call (.type "enumerate") [.ref l]) Q E s:=by
 obtain⟨⟨c,ag,SQ,sl⟩,hl,hc,n,hd⟩:=hL;replace hc:c=.type "tuple":=hc;replace hd:SQ=.seq items n:=hd;subst hc hd;refine callType_new F.called_enumerate (by decide) (F.typeCall_enumerate_1 _) (F.newCall_enumerate_1 _) (λobj=>F.args_object_init_2 obj _) F.entry_enumerate_new
  (DQ l items n ag sl) ⟨hl,?_⟩
 have hz:(s.heap.push { cls:=.type "tuple_iterator",data:=.fields #[.ref l,.int 0 0] }).objs.size=s.heap.objs.size+1:=Xq ..;show _/\_;rw[hz];have he:IsEnum ((s.heap.push { cls:=.type "tuple_iterator",data:=.fields #[.ref l,.int 0 0] }).push
   { cls:=.type "enumerate",data:=.fields #[.none,.bool false,.ref s.heap.objs.size,rawInt 0,.none,.none] }) (s.heap.objs.size+1) s.heap.objs.size 0 .none:=by
  have:=WX (s.heap.push { cls:=.type "tuple_iterator",data:=.fields #[.ref l,.int 0 0] })
   (o:={ cls:=.type "enumerate",data:=.fields #[.none,.bool false,.ref s.heap.objs.size,rawInt 0,.none,.none] }) rfl
  rw[hz]at this;exact this
 refine⟨⟨_,he,rfl⟩,h _ he ⟨_,WR _ (WX _ rfl),rfl,rfl⟩ (by rw[Xq,hz]) λb o x=>WR _ (WR _ x)⟩
theorem vV{e it l:Addr}{i:Nat}{items:Array Value}{old:Value}{Q:Option Value->Shared->Prop}(hh:A.handled=none)
  (he:IsEnum s.heap e it i old) (hit:s.heap.IsTupleIter it l i) (hl:s.heap.IsTuple l items) (hx:items[i]?=none)
  (hQ:∀h',YX it s.heap h'->Q none { s with heap:=h' }):wpAny (model prog w) A (pyNext (.ref e)) Q E s:=by
 have hT:s.TypeIs (.ref e) "enumerate":=⟨_,he,rfl⟩;unfold pyNext;refine WO (YT (Xm (name:=Yp "__next__") hT F.slot_enumerate_next
  (Xp F.slot_enumerate_next hT F.entry_enumerate_next ?_ (F.args_enumerate_next_1 _))))
 show wpAny _ _ (field (.ref e) 2 >>= _) _ _ _;refine WO (XH he rfl (x:=.ref it) rfl ?_);refine WO (ng hh hit hl hx λh' x io c7=>?_);obtain⟨o,ho,hc⟩:=c7;refine WO (YS (T:="StopIteration") (b:=true) ⟨o,ho,hc⟩ isSubtype_stop ?_);exact WS (hQ _ io)
end
end L2
namespace L2
open PySem PySem.Spec PyProof.Rows PySem.W
theorem vW:Manifest.owners.lookup (String.ofList ['d','e','s','r','e','v','e','r'].reverse)=some Manifest.sig_reversed:=by kernel_rfl
theorem kG:Slot "reversed" "__next__" "reversed.__next__":=
 .of (owner:="reversed") (n:="__next__") (by rw[Yx,XX];kernel_rfl) (by decide +kernel) (by decide +kernel) (by decide +kernel)
  (by first |exact .inl (by decide +kernel) |exact .inr (by decide +kernel)) (by rw[Y6];kernel_rfl)
theorem vX:entryFor table "reversed.__next__"=some Builtin.«reversed.__next__»:=entryFor_of_tree (by kernel_rfl)
theorem vY(a:Value):argsOk "reversed.__next__" ⟨[a],[]⟩:=by
 unfold argsOk;rw[signature?_of (id:="reversed.__next__") (n:=['_','_','t','x','e','n','_','_']) (o:=['d','e','s','r','e','v','e','r']) (by kernel_rfl) vW];kernel_rfl
theorem vZ:Slot "reversed" "__iter__" "reversed.__iter__":=
 .of (owner:="reversed") (n:="__iter__") (by rw[Yx,XX];kernel_rfl) (by decide +kernel) (by decide +kernel) (by decide +kernel)
  (by first |exact .inl (by decide +kernel) |exact .inr (by decide +kernel)) (by rw[Y6];kernel_rfl)
theorem DR(a:Value):argsOk "reversed.__iter__" ⟨[a],[]⟩:=by
 unfold argsOk;rw[signature?_of (id:="reversed.__iter__") (n:=['_','_','r','e','t','i','_','_']) (o:=['d','e','s','r','e','v','e','r']) (by kernel_rfl) vW];kernel_rfl
theorem DU:entryFor table "reversed.__iter__"=some Builtin.«dict_keyiterator.__iter__»:=
 entryFor_alias (id':="dict_keyiterator.__iter__") (by kernel_rfl) (by first |rfl |decide +kernel |(unfold String.splitOn;simp +decide [String.splitOnAux])) (by decide +kernel) (by kernel_rfl)
theorem DV:Slot "reversed" "__init__" "object.__init__":=
 .of (owner:="object") (n:="__init__") (by rw[Yx,XX];kernel_rfl) (by decide +kernel) (by decide +kernel) (by decide +kernel)
  (by first |exact .inl (by decide +kernel) |exact .inr (by decide +kernel)) (by rw[Y6];kernel_rfl)
theorem DW:TypeCalled "reversed" "reversed.__new__" "object.__init__":=
 ⟨by decide +kernel,by decide +kernel,⟨_,_,F.mro_reversed⟩,F.made_reversed,by decide +kernel,by rw[Y6];kernel_rfl,DV⟩
theorem DX:typeLookup (.type "tuple") "__reversed__"=pure none:=by rw[Yx,XX];kernel_rfl
theorem DY:isSubtype (.type "tuple") (.type "dict")=pure false:=by rw[Y6];kernel_rfl
section
open AutoSeq1 (wpAny_loadPart')
theorem DZ(l:Addr)(items:Array Value)(n:Nat)(ag:Option Addr)(sl:Array (Option Value))(hz:items.size<=sizeLine):
  Meets (Builtin.«reversed.__new__» ⟨[.type "reversed",.ref l],[]⟩) (λ_ R s=>s.heap.get? l=some { cls:=.type "tuple",dict:=ag,data:=.seq items n,slots:=sl } /\
   ∀tk,R (.ok (.ret (.ref s.heap.objs.size))) { s with heap:=s.heap.push { cls:=.type "reversed",data:=.fields #[.ref l,rawInt ((items.size:Int)-1)] },toks:=tk }):=
 .of_wp λprog w A R s h=>by
  obtain⟨hp,g,d,tk,os⟩:=s;obtain⟨hl,h⟩:=h;have hsub:=F.sub_reversed_self;have hL:Heap.IsTuple (Shared.heap ⟨hp,g,d,tk,os⟩) l items:=⟨_,hl,rfl,n,rfl⟩;have f1:=DX;have f2:=DY;have f3:=F.slot_tuple_getitem.lookup;have qn:(items.size:Int)<2 ^ 63:=by have:items.size<=16777216:=hz;lia
  unfold Builtin.«reversed.__new__»;refine WO (wpAny_of_eq (newClass_reversed _) ?_);refine WO (wpAny_of_eq (a:=()) (by kernel_rfl) (WO (wpAny_of_eq (a:=()) (by kernel_rfl) ?_)));dsimp only;refine WO (wpAny_specialOf hL.typeIs f1 ?_);dsimp only;refine WO (Y5 (Q:=λb s'=>b=true/\s'=(⟨hp,g,d,tk,os⟩:Shared)) ?slot (λb s' hb=>?rest) λ_ _ x=>x)
  case slot=>
   wp_walk using Xv hl
   exact⟨rfl,rfl⟩
  obtain⟨rfl,rfl⟩:=hb;rw[if_neg (by decide)];refine WO (PyProof.Rows.len_tuple hL qn ?_)
  wp_walk using Xv hl
  exact⟨_,rfl,h _⟩
end
section
variable{prog:Program}{w:World}{A:Around}{E:Value->Shared->Prop}{s:Shared}
def d0(h:Heap)(a l:Addr)(i:Int):Prop:=∃o,h.get? a=some o/\o.cls=.type "reversed"/\o.data=.fields #[.ref l,rawInt i]
theorem d0.typeIs{a l:Addr}{i:Int}(x:d0 s.heap a l i):s.TypeIs (.ref a) "reversed":=let ⟨o,ho,hc,_⟩:=x;⟨o,ho,hc⟩
theorem d0.at{h h':Heap}{a l:Addr}{i:Int}(x:d0 h a l i)(e:∀o,h.get? a=some o->h'.get? a=some o):d0 h' a l i:=let ⟨o,ho,r⟩:=x;⟨o,e _ ho,r⟩
theorem D0{l:Addr}{items:Array Value}{Q:Value->Shared->Prop}(hL:IsTup s.heap l items)(hz:items.size<=sizeLine)
  (h:∀h' tk,d0 h' s.heap.objs.size l ((items.size:Int)-1)->h'.objs.size=s.heap.objs.size+1->(∀b o,s.heap.get? b=some o->h'.get? b=some o)->Q (.ref s.heap.objs.size) { s with heap:=h',toks:=tk }) :
  wpAny (model prog w) A (call (.type "reversed") [.ref l]) Q E s:=by
 obtain⟨⟨c,ag,SQ,sl⟩,hl,hc,n,hd⟩:=hL;replace hc:c=.type "tuple":=hc;replace hd:SQ=.seq items n:=hd;subst hc hd;refine callType_new DW (by decide) (F.typeCall_reversed_1 _) (F.newCall_reversed_1 _) (λobj=>F.args_object_init_2 obj _) F.entry_reversed_new
  (DZ l items n ag sl hz) ⟨hl,λtk=>?_⟩
 have he:(s.heap.push { cls:=.type "reversed",data:=.fields #[.ref l,rawInt ((items.size:Int)-1)] }).get? s.heap.objs.size=some { cls:=.type "reversed",data:=.fields #[.ref l,rawInt ((items.size:Int)-1)] }:=WX _ rfl;exact⟨⟨_,he,rfl⟩,h _ tk ⟨_,he,rfl,rfl⟩ (Xq ..) λb o x=>WR _ x⟩
theorem D1{it l:Addr}{i:Nat}{items:Array Value}{x:Value}{Q:Option Value->Shared->Prop}(hit:d0 s.heap it l (i:Int))(hl:IsTup s.heap l items)(hz:items.size<=sizeLine)(hx:items[i]?=some x)
  (q:∀h' tk,d0 h' it l ((i:Int)-1)->YA it s.heap h'->Q (some x) { s with heap:=h',toks:=tk }):wpAny (model prog w) A (pyNext (.ref it)) Q E s:=by
 have ty:=hit.typeIs;have hi:i<items.size:=(Array.getElem?_eq_some_iff.mp hx).1;have hz':items.size<=16777216:=hz;obtain⟨ob,h1,h2,h3⟩:=hit;have Vf:seqIndex? (i:Int) items.size=some i:=by
  unfold seqIndex?;rw[if_neg (show ¬(i:Int)<0 by lia),if_pos (by rw[WT];exact⟨decide_eq_true (by lia),decide_eq_true (by lia)⟩)];rfl
 unfold pyNext;refine WO (YT (Xm (name:=Yp "__next__") ty kG (Xp kG ty vX ?_ (vY _))));unfold Builtin.«reversed.__next__»;refine WO (wpAny_of_eq (a:=(XI it,[])) rfl (WO (XH h1 h3 (x:=.ref l) rfl (WO (XH h1 h3 (x:=rawInt (i:Int)) rfl ?_)))));refine (show wpAny _ _ (if (i:Int)<0 then _ else specialOf (.ref l) "__getitem__" >>= _) _ _ s from ?_)
 rw[if_neg (by lia)];refine WO (wpAny_specialOf hl.typeIs F.slot_tuple_getitem.lookup (show wpAny _ _ (mkInt (i:Int) >>= _) _ _ s from WO (wpAny_mkInt (WO (YT (getItem_tuple (j:=i) (x:=x) (show IsTup s.heap l items from hl) (by lia) (by lia) Vf hx ?_))))));refine (show wpAny _ _ (field (.ref it) 1 >>= _) _ _ _ from WO (XH (show s.heap.get? it=some ob from h1) h3 (x:=rawInt (i:Int)) rfl (show wpAny _ _ (setField (.ref it) 1 (rawInt ((i:Int)-1)) >>= _) _ _ _ from WO (wpAny_setField (show s.heap.get? it=some ob from h1) h3 (by simp) (WS ⟨x,rfl,WS (q _ _ ?_ (Xo ..))⟩)))));refine⟨_,Xr _ h1 (Obj.isFreed_of_fields (Obj.data_mapFields h3 _)),Eq.trans (Obj.cls_mapFields ..) h2,?_⟩;rw[Obj.data_mapFields h3] <;> simp
theorem D2{it l:Addr}{Q:Option Value->Shared->Prop}(hh:A.handled=none)(hit:d0 s.heap it l (-1))
  (q:∀h' tk,YX it s.heap h'->Q none { s with heap:=h',toks:=tk }):wpAny (model prog w) A (pyNext (.ref it)) Q E s:=by
 have ty:=hit.typeIs;obtain⟨⟨c,dd,data,sl⟩,h1,h2,h3⟩:=hit;simp only at h2 h3;subst h2 h3;unfold pyNext;refine WO (YT (Xm (name:=Yp "__next__") ty kG (Xp kG ty vX ?_ (vY _))));obtain⟨hp,g,d,tk,os⟩:=s
 wp_walk using Xv h1
 unfold raiseNew;refine WO (wpAny_handled ?_);rw[show A.in1.handled=none from hh];refine WO (WS (wpAny_throw ?_));refine WO (YS (T:="StopIteration") (b:=true) ⟨_,WX _ rfl,rfl⟩ isSubtype_stop (WS (q _ _ ?_)));exact λb u nb e=>WR _ (WR _ ((Xo ..).extBut b u nb ((Xo ..).extBut b u nb e)))
theorem we{it l:Addr}{i:Int}{Q:Value->Shared->Prop}(hit:d0 s.heap it l i)(h:Q (.ref it) s):wpAny (model prog w) A (pyIter (.ref it)) Q E s:=by
 refine wpAny_pyIter_slot hit.typeIs vZ (Xp vZ hit.typeIs DU ?_ (DR _));show wpAny _ _ (ret (.ref it)) _ _ s;exact WS ⟨_,rfl,"reversed",_,hit.typeIs,kG.lookup,h⟩
end
end L2
end
section
namespace N
open PySem PySem.Spec PyProof.Rows L2
inductive D where
 |ai |bl (b:Bool) |int (i:Int) |str (x:Str) |ref (a:Addr) |ty (n:String)
 |tup (ds:List D) |lst (ds:List D) |ag (ks:List Key) (ds:List D)
inductive Fo where
 |dat (o:Obj) |pin (o:Obj) |jx (o:Obj) |tab (p:Pos) (q:Str)
abbrev Fz:=Addr->Option Fo
structure Gx where
 P:Program
 w:World
 K:PySem.W.Frag
 mg:Str->Option Value
 base:Heap
 ex:Fz
def Le(F F':Fz):Prop:=∀a f,F a=some f->F' a=some f
theorem Le.rfl{F:Fz}:Le F F:=λ_ _ h=>h
theorem Le.tr{F F1 F2:Fz}(a:Le F F1)(b:Le F1 F2):Le F F2:=λc f h=>b c f (a c f h)
structure Bs(G:Gx)(F:Fz):Prop where
 b:∀b o,G.base.get? b=some o->F b=some (.dat o)
 x:Le G.ex F
theorem Bs.up{G:Gx}{F F':Fz}(h:Bs G F)(l:Le F F'):Bs G F':=⟨λb o e=>l b _ (h.b b o e),h.x.tr l⟩
def b0(F F':Fz):Prop:=∀a o,F a=some (.dat o)->F' a=some (.dat o)
theorem Le.d{F F':Fz}(l:Le F F'):b0 F F':=λa o=>l a (.dat o)
section
variable{α:Type}
noncomputable def up(F:Addr->Option α)(a:Addr)(o:α):Addr->Option α:=λb=>if b=a then some o else F b
theorem ak{F:Addr->Option α}{a:Addr}{o:α}:up F a o a=some o:=if_pos rfl
theorem aj{F:Addr->Option α}{a b:Addr}{o:α}(h:b≠a):up F a o b=F b:=if_neg h
noncomputable def rm(F:Addr->Option α)(a:Addr):Addr->Option α:=λb=>if b=a then none else F b
theorem jy{F:Addr->Option α}{a:Addr}:rm F a a=none:=if_pos rfl
theorem f7{F:Addr->Option α}{a b:Addr}(h:b≠a):rm F a b=F b:=if_neg h
theorem bR{F:Addr->Option α}{a b:Addr}{o:α}(h:F a=some o)(h':F b=none):a≠b:=λe=>by rw[e,h']at h;cases h
end
theorem Le.new{F:Fz}{a:Addr}{f:Fo}(h:F a=none):Le F (up F a f):=λb g e=>by rw[aj (bR e h)];exact e
structure kH(o:Obj)(us:List Value):Prop where
 cls:o.cls=.type "tuple"
 dict:o.dict=none
 data:∃n,o.data=.seq us.toArray n
 len:us.length<=sizeLine
noncomputable def bH(us:List Value)(n:Nat):Obj:={ cls:=.type "list",data:=.seq us.toArray n }
structure kI(G:Gx)(o:Obj)(ks:List Key)(us:List Value):Prop where
 ex:o.ExactDict
 bf:∃es ep,o.data=.dict es ep/\KeysOf (bx G.P G.w) es/\Pairs (bx G.P G.w) es.toList (ks.zip us)
 nd:ks.Nodup
 len:us.length=ks.length
 sz:ks.length<=sizeLine
mutual
def aa(G:Gx)(F:Fz):D->Value->Prop
 |.ai,u=>u=.none
 |.bl b,u=>u=.bool b
 |.int i,u=>∃t,u=.int i t
 |.str x,u=>∃t,u=.str x t
 |.ref a,u=>u=.ref a
 |.ty n,u=>u=.type n
 |.tup ds,u=>∃a o us,u=.ref a/\F a=some (.dat o)/\kH o us/\ae G F ds us
 |.lst ds,u=>∃a n us,u=.ref a/\F a=some (.dat (bH us n))/\us.length<=sizeLine/\ae G F ds us
 |.ag ks ds,u=>∃a o us,u=.ref a/\F a=some (.dat o)/\kI G o ks us/\(a == sysModules)=false/\ae G F ds us
def ae(G:Gx)(F:Fz):List D->List Value->Prop
 |[],us=>us=[]
 |d::ds,us=>∃u r,us=u::r/\aa G F d u/\ae G F ds r
end
section
variable{G:Gx}{F F':Fz}
theorem ae.nil:ae G F [] []:=by rw[ae]
theorem ae.cons{d:D}{ds:List D}{u:Value}{us:List Value}(h:aa G F d u)(t:ae G F ds us):ae G F (d::ds) (u::us):=by rw[ae];exact⟨u,us,rfl,h,t⟩
theorem ae.p:∀{ds:List D}{us:List Value},ae G F ds us->Paired (aa G F) ds us
 |[],us,h=>by rw[ae]at h;subst h;exact .nil
 |d::ds,us,h=>by rw[ae]at h;obtain⟨y,ys,rfl,h1,h2⟩:=h;exact .cons h1 h2.p
theorem ae.len{ds:List D}{us:List Value}(h:ae G F ds us):ds.length=us.length:=h.p.length
mutual
theorem aa.up(l:b0 F F'):∀{d:D}{u:Value},aa G F d u->aa G F' d u
 |.ai,u,h=>by rw[aa]at h ⊢;exact h
 |.bl _,u,h=>by rw[aa]at h ⊢;exact h
 |.int _,u,h=>by rw[aa]at h ⊢;exact h
 |.str _,u,h=>by rw[aa]at h ⊢;exact h
 |.ref _,u,h=>by rw[aa]at h ⊢;exact h
 |.ty _,u,h=>by rw[aa]at h ⊢;exact h
 |.tup ds,u,h=>by rw[aa]at h ⊢;obtain⟨a,o,us,e,h1,h2,h3⟩:=h;exact⟨a,o,us,e,l a o h1,h2,h3.up l⟩
 |.lst ds,u,h=>by rw[aa]at h ⊢;obtain⟨a,o,us,e,h1,h2,h3⟩:=h;exact⟨a,o,us,e,l a _ h1,h2,h3.up l⟩
 |.ag ks ds,u,h=>by rw[aa]at h ⊢;obtain⟨a,o,us,e,h1,h2,h4,h3⟩:=h;exact⟨a,o,us,e,l a o h1,h2,h4,h3.up l⟩
theorem ae.up(l:b0 F F'):∀{ds:List D}{us:List Value},ae G F ds us->ae G F' ds us
 |[],us,h=>by rw[ae]at h ⊢;exact h
 |d::ds,us,h=>by rw[ae]at h ⊢;obtain⟨u,r,e,h1,h2⟩:=h;exact⟨u,r,e,h1.up l,h2.up l⟩
end
end
def f9(G:Gx)(F:Fz):Option D->Option Value->Prop
 |some d,some u=>aa G F d u
 |none,none=>True
 |_,_=>False
theorem f9.up{G:Gx}{F F':Fz}(l:b0 F F'){d:Option D}{u:Option Value}(h:f9 G F d u):f9 G F' d u:=by
 cases d with
 |none=>cases u with
  |none=>trivial
  |some u=>exact h
 |some d=>cases u with
  |none=>exact h
  |some u=>exact aa.up l h
def KV{κ:Type}(G:Gx)(F:Fz):List (κ×D)->List (κ×Value)->Prop:=Paired λp q=>p.1=q.1/\aa G F p.2 q.2
theorem Paired.T6{α β:Type}{P Q:α->β->Prop}(f:∀a b,P a b->Q a b):∀{l:List α}{m:List β},Paired P l m->Paired Q l m
 |_,_,.nil=>.nil
 |_,_,.cons r t=>.cons (f _ _ r) (Paired.T6 f t)
theorem KV.up{κ:Type}{G:Gx}{F F':Fz}(l:b0 F F'){a:List (κ×D)}{b:List (κ×Value)}(h:KV G F a b):KV G F' a b:=Paired.T6 (λ_ _ r=>⟨r.1,r.2.up l⟩) h
inductive MO where
 |lst (ds:List D) |ag (kvs:List (Key×D)) |ins (C dx:Addr) (fs:List (Str×D)) |own (x:Addr) |kJ (ps:Array Value)
abbrev Mp:=Addr->Option MO
def d7(G:Gx)(F:Fz)(M:Mp)(h:Heap)(a:Addr):MO->Prop
 |.lst ds=>ds.length<=sizeLine/\∃us n,ae G F ds us/\h.get? a=some (bH us n)
 |.ag kvs=>kvs.length<=sizeLine/\(a == sysModules)=false/\∃vs,KV G F kvs vs/\h.DictOf (bx G.P G.w) a vs
 |.ins C dx fs=>M dx=some (.own a)/\fs.length<=1000/\dx≠a/\h.get? a=some (PySem.W.instObj C dx)/\∃mA,h.Ns1 dx mA/\(∀f,f9 G F (fs.lookup f) (mA f))/\PySem.Within mA (fs.map (·.1))
 |.own _=>∃o,h.get? a=some o
 |.kJ ps=>h.get? a=some { cls:=.none,data:=.fields ps }
def Fo.At(h:Heap)(a:Addr):Fo->Prop
 |.dat o=>h.get? a=some o
 |.pin o=>h.get? a=some o
 |.jx o=>∃sl,h.get? a=some { o with slots:=sl }
 |.tab _ _=>∃ps,h.get? a=some { cls:=.none,data:=.fields ps }
def gU(o:Obj)(q:Str):Prop:=∃vs t,o.data=.fields vs/\vs[1]?=some (.str q t)
def D3(F:Fz)(h:Heap)(T:Addr)(p:Pos)(q:Str):Prop:=h.get? T=some { cls:=.none,data:=.fields #[] }\/∃c o,h.get? T=some { cls:=.none,data:=.fields #[rawInt p.line,rawInt p.col,.ref c] }/\F c=some (.dat o)/\gU o q
def nh(F:Fz)(h:Heap):Prop:=∀T p q,F T=some (.tab p q)->D3 F h T p q
structure aF(G:Gx)(F:Fz)(M:Mp)(h:Heap):Prop where
 fz:∀a f,F a=some f->f.At h a
 ob:∀a o,M a=some o->F a=none/\d7 G F M h a o
 tb:nh F h
section
variable{G:Gx}{F F':Fz}{M M':Mp}{h h':Heap}{a:Addr}{o:MO}{f:Fo}
theorem d7.lt(x:d7 G F M h a o):a<h.objs.size:=by
 cases o with
 |lst xs=>obtain⟨_,_,_,_,e⟩:=x;exact W4 e
 |ag kvs=>obtain⟨_,_,_,_,o,_,_,e,_⟩:=x;exact W4 e
 |ins C dx fs=>obtain⟨_,_,_,e,_⟩:=x;exact W4 e
 |own y=>obtain⟨_,e⟩:=x;exact W4 e
 |kJ ps=>exact W4 (show h.get? a=some _ from x)
theorem Fo.At.lt(x:f.At h a):a<h.objs.size:=by
 cases f with
 |dat o=>exact W4 (show h.get? a=some o from x)
 |pin o=>exact W4 (show h.get? a=some o from x)
 |jx o=>obtain⟨_,e⟩:=x;exact W4 e
 |tab p q=>obtain⟨_,e⟩:=x;exact W4 e
def bp(h h':Heap)(b:Addr):Prop:=∀o,h.get? b=some o->h'.get? b=some o
theorem Fo.At.go(x:f.At h a)(k:bp h h' a):f.At h' a:=by
 cases f with
 |dat o=>exact k _ x
 |pin o=>exact k _ x
 |jx o=>obtain⟨sl,e⟩:=x;exact⟨sl,k _ e⟩
 |tab p q=>obtain⟨sl,e⟩:=x;exact⟨sl,k _ e⟩
theorem nh.go(x:nh F h)(b:∀T p q,F' T=some (.tab p q)->F T=some (.tab p q))(l:b0 F F')(k:∀T p q,F' T=some (.tab p q)->bp h h' T):nh F' h':=λT p q e=>by
 rcases x T p q (b T p q e) with y |⟨c,o,h1,h2,h3⟩
 ·exact .inl (k T p q e _ y)
 ·exact .inr ⟨c,o,k T p q e _ h1,l c o h2,h3⟩
theorem d7.go(x:d7 G F M h a o)(l:b0 F F')(k:∀b,b=a\/M b=some (.own a)->bp h h' b)(ho:∀b,M b=some (.own a)->M' b=some (.own a)):d7 G F' M' h' a o:=by
 cases o with
 |lst xs=>obtain⟨z,us,n,r,e⟩:=x;exact⟨z,us,n,r.up l,k a (.inl rfl) _ e⟩
 |ag kvs=>obtain⟨z,y,vs,r,ob,es,ep,e,c⟩:=x;exact⟨z,y,vs,r.up l,ob,es,ep,k a (.inl rfl) _ e,c⟩
 |ins C dx fs=>
  obtain⟨d,z,ne,e,mA,⟨od,es,ep,e2,c⟩,r1,r2⟩:=x;exact⟨ho _ d,z,ne,k a (.inl rfl) _ e,mA,⟨od,es,ep,k dx (.inr d) _ e2,c⟩,λf=>(r1 f).up l,r2⟩
 |own y=>obtain⟨ob,e⟩:=x;exact⟨ob,k a (.inl rfl) _ e⟩
 |kJ ps=>exact k a (.inl rfl) _ x
theorem aF.cB(x:aF G F M h)(e:h.objs.size<=a):F a=none:=by
 cases q:F a with
 |none=>rfl
 |some u=>exact absurd (Xj (x.fz a u q).lt e) (Yh _)
theorem aF.c8(x:aF G F M h)(e:h.objs.size<=a):M a=none:=by
 cases q:M a with
 |none=>rfl
 |some u=>exact absurd (Xj (x.ob a u q).2.lt e) (Yh _)
theorem aF.keep(x:aF G F M h)(k:∀b,F b≠none\/M b≠none->bp h h' b):aF G F M h':=
 ⟨λb f e=>(x.fz b f e).go (k b (.inl (by rw[e];exact XB f))),λb o e=>⟨(x.ob b o e).1,(x.ob b o e).2.go Le.rfl.d (λc hc=>k c (.inr (by
  rcases hc with rfl |hc
  ·rw[e];exact XB o
  ·rw[hc];exact XB _))) λ_ q=>q⟩,x.tb.go (λ_ _ _ e=>e) Le.rfl.d λT p q e=>k T (.inl (by rw[e];exact XB _))⟩
theorem aF.lay(x:aF G F M h)(k:∀b,bp h h' b)(hp:h.objs.size<=a)(new:d7 G F (up M a o) h' a o):aF G F (up M a o) h':=
 ⟨λb f e=>(x.fz b f e).go (k b),λb u e=>by
  by_cases hb:b=a
  ·subst hb;rw[ak]at e;cases e;exact⟨x.cB hp,new⟩
  ·rw[aj hb]at e;exact⟨(x.ob b u e).1,(x.ob b u e).2.go Le.rfl.d (λc _=>k c) λc q=>by rw[aj (bR q (x.c8 hp))];exact q⟩,x.tb.go (λ_ _ _ e=>e) Le.rfl.d λT _ _ _=>k T⟩
theorem aF.kK(x:aF G F M h)(hF:F a=none)(hM:M a=none)(e:f.At h a)(nt:∀p q,f≠.tab p q:=by intro _ _ h;cases h):aF G (up F a f) M h:=by
 refine⟨λb g q=>?_,λb u q=>⟨by rw[aj (bR q hM)];exact (x.ob b u q).1,(x.ob b u q).2.go (Le.new hF).d (λ_ _ _ e=>e) λ_ e=>e⟩,x.tb.go (λT p q e=>?_) (Le.new hF).d λ_ _ _ _ _ e=>e⟩
 case refine_2=>
  by_cases hb:T=a
  ·subst hb;rw[ak]at e;cases e;exact absurd rfl (nt p q)
  ·rw[aj hb]at e;exact e
 by_cases hb:b=a
 ·subst hb;rw[ak]at q;cases q;exact e
 ·rw[aj hb]at q;exact x.fz b g q
theorem aF.kL(x:aF G F M h)(k:∀b,bp h h' b)(hp:h.objs.size<=a)(new:f.At h' a)(nt:∀p q,f≠.tab p q:=by intro _ _ h;cases h):aF G (up F a f) M h':=(x.keep λb _=>k b).kK (x.cB hp) (x.c8 hp) new nt
noncomputable def MO.mut:MO->Bool
 |.own _=>false
 |.kJ _=>false
 |_=>true
theorem aF.put{x e:Addr}{o':MO}(ok:aF G F M h)(hx:M x=some o)(T7:o.mut=true)(he:e=x\/M e=some (.own x))(k:∀b,b≠e->bp h h' b)(qo:∃u,h'.get? e=some u)(new:d7 G F (up M x o') h' x o'):aF G F (up M x o') h':=by
 have v1:∀c y,M c=some (.own y)->c≠x:=λc y r z=>by rw[z,hx]at r;cases r;cases T7
 have hF:F e=none:=by
  rcases he with rfl |he
  ·exact (ok.ob _ _ hx).1
  ·exact (ok.ob _ _ he).1
 refine⟨λb f q=>(ok.fz b f q).go (k b (bR q hF)),λb u q=>?_,ok.tb.go (λ_ _ _ e=>e) Le.rfl.d λT _ _ q=>k T (bR q hF)⟩;by_cases hb:b=x
 ·subst hb;rw[ak]at q;cases q;exact⟨(ok.ob _ _ hx).1,new⟩
 ·rw[aj hb]at q;refine⟨(ok.ob b u q).1,?_⟩;by_cases ni:b=e
  ·have q':M b=some (.own x):=he.elim (λz=>absurd (ni.trans z) hb) λz=>(by rw[ni];exact z);rw[q]at q';cases q';obtain⟨v,hv⟩:=qo;exact⟨v,by rw[ni];exact hv⟩
  ·refine (ok.ob b u q).2.go Le.rfl.d (λc hc=>k c ?_) λc r=>(by rw[aj (v1 c b r)];exact r);rcases hc with rfl |hc
   ·exact ni
   ·rintro rfl;rcases he with z |z
    ·exact v1 c b hc z
    ·rw[hc]at z;cases z;exact hb rfl
end
noncomputable def ba(F P:Fz):Fz:=λb=>match P b with
 |some f=>some f
 |none=>F b
noncomputable def aS(F P:Fz):Fz:=λb=>match P b with
 |some _=>none
 |none=>F b
section
variable{G:Gx}{F F' P:Fz}{M:Mp}{h h':Heap}{b:Addr}{f:Fo}
theorem dM(e:P b=some f):ba F P b=some f:=by unfold ba;rw[e]
theorem fu(e:P b=none):ba F P b=F b:=by unfold ba;rw[e]
theorem fw(e:P b=some f):aS F P b=none:=by unfold aS;rw[e]
theorem fx(e:P b=none):aS F P b=F b:=by unfold aS;rw[e]
theorem Le.pin(d:∀b,P b≠none->F b=none):Le F (ba F P):=λb f e=>by
 cases q:P b with
 |none=>rw[fu q];exact e
 |some g=>rw[d b (by rw[q];exact XB g)]at e;cases e
theorem Le.aS(d:∀b,P b≠none->F b=none)(l:Le (ba F P) F'):Le F (aS F' P):=λb f e=>by
 cases q:P b with
 |none=>rw[fx q];exact l b f (by rw[fu q];exact e)
 |some g=>rw[d b (by rw[q];exact XB g)]at e;cases e
def nj(P:Fz):Prop:=∀b o,P b≠some (.dat o)
theorem b0.aS(n:nj P)(l:Le (ba F P) F'):b0 F' (aS F' P):=λb o e=>by
 cases q:P b with
 |none=>rw[fx q];exact e
 |some g=>
  have:=l b g (dM q);rw[e]at this;cases this;exact absurd q (n b o)
theorem aF.pin(x:aF G F M h)(p:∀b f,P b=some f->f.At h b/\M b=none)(d:∀b,P b≠none->F b=none)(nt:∀b p q,P b≠some (.tab p q)):aF G (ba F P) M h:=by
 refine⟨λb f e=>?_,λb o e=>⟨?_,(x.ob b o e).2.go (Le.pin d).d (λ_ _ _ q=>q) λ_ q=>q⟩,x.tb.go (λT a b e=>?_) (Le.pin d).d λ_ _ _ _ _ e=>e⟩
 case refine_3=>
  cases q:P T with
  |none=>rw[fu q]at e;exact e
  |some g=>rw[dM q]at e;cases e;exact absurd q (nt _ _ _)
 ·cases q:P b with
  |none=>rw[fu q]at e;exact x.fz b f e
  |some g=>rw[dM q]at e;cases e;exact (p b _ q).1
 ·rw[fu];exact (x.ob b o e).1;cases q:P b with
  |none=>rfl
  |some g=>have:=(p b _ q).2;rw[e]at this;cases this
theorem aF.aS(x:aF G F' M h)(n:nj P)(l:Le (ba F P) F'):aF G (aS F' P) M h:=by
 refine⟨λb f e=>?_,λb o e=>⟨?_,(x.ob b o e).2.go (b0.aS n l) (λ_ _ _ q=>q) λ_ q=>q⟩,x.tb.go (λT a b e=>?_) (b0.aS n l) λ_ _ _ _ _ e=>e⟩
 case refine_3=>
  cases q:P T with
  |none=>rw[fx q]at e;exact e
  |some g=>rw[fw q]at e;cases e
 ·cases q:P b with
  |none=>rw[fx q]at e;exact x.fz b f e
  |some g=>rw[fw q]at e;cases e
 ·cases q:P b with
  |none=>rw[fx q];exact (x.ob b o e).1
  |some g=>exact fw q
end
abbrev St:=List (Option D)
structure Z where
 F:Fz
 M:Mp
 s:Shared
structure qp where
 C:Value
 fs:List (Str×D)
structure Mod(G:Gx):Prop where
 gc:G.K.In G.base
 eJ:G.base.Ns mainGlobals G.mg
 kM:∃b,G.base.Ns builtinsNs b/\∀x:Str,x≠"__name__"->b x=bootBuiltins x
 d8:G.base.NoLimit
structure Cx where
 G:Gx
 A:Around
 N:List Str
 os:OsState
 env:Env
 outer:List Env
 stk:List Env
 fn:Str->Bool
 calm:Bool
 x:qp->St->Mp->Prop
structure Cx.Ok(X:Cx):Prop where
 mod:Mod X.G
 kind:X.env.scope.kind=.function
 eJ:X.env.globals=mainGlobals
 kM:X.env.builtins=builtinsNs
 inj:∀x y c,X.env.cells.lookup x=some c->X.env.cells.lookup y=some c->x=y
 has:∀x,(X.env.kindOf x=some .cell\/X.env.kindOf x=some .free)->∃c,X.env.cells.lookup x=some c
 hd:X.calm=true->X.A.handled=none
 frames:X.A.frames=some X.stk
 stk:X.stk=X.outer\/(X.stk=X.env::X.outer/\X.env.frame=some X.env.locals)
def jz(G:Gx)(F:Fz)(env:Env):Prop:=env.scope.kind≠.module/\∃L o,env.frame=some L/\F L=some (.jx o)/\G.base.get? L=none/\∀vs,o.data≠.fields vs
structure ab(X:Cx)(τ:St)(z:Z):Prop where
 ok:X.Ok
 bs:Bs X.G z.F
 os:z.s.os=X.os
 bare:AllBare z.s.gens
 bY:∀env∈X.outer,jz X.G z.F env
 loc:∃m,z.s.heap.Ns X.env.locals m/\∀(i:Nat)(x:Str)(d:D),X.N[i]?=some x->τ[i]?=some (some d)->jt X.env.scope x->∃u,aa X.G z.F d u/\jv X.env z.s.heap m x u
 cell:∀x c,X.env.cells.lookup x=some c->(∃v,z.s.heap.IsCell c v)/\z.M c=none/\((X.fn x=true/\z.F c=none)\/(X.fn x=false/\∃o,z.F c=some (.pin o)))
 free:z.F X.env.locals=none/\z.M X.env.locals=none
 hok:aF X.G z.F z.M z.s.heap
 len:τ.length=X.N.length
def wg(G:Gx)(z:Z)(x:qp)(e:Value):Prop:=False
def XE(X:Cx)(e:Value)(s:Shared):Prop:=∃x τ z,z.s=s/\ab X τ z/\wg X.G z x e/\X.x x τ z.M
theorem XE.no{X:Cx}{e:Value}{s:Shared}(h:XE X e s):False:=by obtain⟨_,_,_,_,_,h,_⟩:=h;exact h
def cC(X:Cx)(b:Addr):Prop:=b=X.env.locals\/∃x,X.env.cells.lookup x=some b
def wj(h h':Heap)(b:Addr):Prop:=∀o,h.get? b=some o->∃sl,h'.get? b=some { o with slots:=sl }
theorem bp.s{h h':Heap}{b:Addr}(k:bp h h' b):wj h h' b:=λo e=>⟨o.slots,k o e⟩
section
variable{X:Cx}{τ:St}{z z':Z}{h':Heap}{a b:Addr}
theorem ab.SD(I:ab X τ z):∀b o,X.G.base.get? b=some o->z.s.heap.get? b=some o:=λb o e=>I.hok.fz b _ (I.bs.b b o e)
theorem ab.b7(I:ab X τ z):X.G.K.In z.s.heap:=I.ok.mod.gc.keeps I.SD
theorem ab.c9(I:ab X τ z)(h:cC X b):z.M b=none:=by
 rcases h with rfl |⟨x,h⟩
 ·exact I.free.2
 ·exact (I.cell x b h).2.1
theorem ab.wk(I:ab X τ z)(h:cC X b):∃o,z.s.heap.get? b=some o:=by
 rcases h with rfl |⟨x,h⟩
 ·obtain⟨m,⟨o,_,_,e,_⟩,_⟩:=I.loc;exact⟨o,e⟩
 ·obtain⟨⟨v,o,e,_⟩,_⟩:=I.cell x b h;exact⟨o,e⟩
theorem ab.gg(I:ab X τ z)(h:cC X b):b<z.s.heap.objs.size:=let ⟨_,e⟩:=I.wk h;W4 e
theorem ab.kN(I:ab X τ z){x:Str}{c:Addr}(e:X.env.cells.lookup x=some c):c≠X.env.locals:=λq=>by
 obtain⟨⟨v,o,ho,hd⟩,_⟩:=I.cell x c e;obtain⟨m,⟨o',es,ep,qq,iH,_⟩,_⟩:=I.loc;rw[q,qq]at ho;cases ho;rw[iH]at hd;cases hd
theorem jz.go{G:Gx}{F F':Fz}{env:Env}(l:Le F F')(h:jz G F env):jz G F' env:=by
 obtain⟨h1,L,o,h2,h3,h4⟩:=h;exact⟨h1,L,o,h2,l L _ h3,h4⟩
theorem ab.go(I:ab X τ z)(l:Le z.F z'.F)(ok:aF X.G z'.F z'.M z'.s.heap)(own:∀b,cC X b->wj z.s.heap z'.s.heap b/\z'.M b=none/\z'.F b=z.F b)(os:z'.s.os=z.s.os)(bare:AllBare z'.s.gens):ab X τ z':=by
 have hL:=own X.env.locals (.inl rfl);have wm:∀x c v,X.env.cells.lookup x=some c->z.s.heap.IsCell c v->z'.s.heap.IsCell c v:=λx c v e h=>by
  obtain⟨o,ho,hd⟩:=h;obtain⟨sl,q⟩:=(own c (.inr ⟨x,e⟩)).1 o ho;exact⟨_,q,hd⟩
 refine⟨I.ok,I.bs.up l,os.trans I.os,bare,λenv he=>(I.bY env he).go l,?_,λx c e=>?_,⟨hL.2.2.trans I.free.1,hL.2.1⟩,ok,I.len⟩
 ·obtain⟨m,⟨o,es,ep,ho,r⟩,hl⟩:=I.loc;obtain⟨sl,q⟩:=hL.1 o ho;refine⟨m,⟨_,es,ep,q,r⟩,λi x d e1 e2 e3=>?_⟩;obtain⟨u,r,k⟩:=hl i x d e1 e2 e3;refine⟨u,r.up l.d,?_⟩;rcases k with k |⟨k,c,e,y⟩
  ·exact .inl k
  ·exact .inr ⟨k,c,e,wm x c _ e y⟩
 ·obtain⟨⟨v,h1⟩,_,h3⟩:=I.cell x c e;have h:=own c (.inr ⟨x,e⟩);exact⟨⟨v,wm x c v e h1⟩,h.2.1,by rw[h.2.2];exact h3⟩
theorem ab.kept(I:ab X τ z){t:Nat}(k:∀b,bp z.s.heap h' b):ab X τ ⟨z.F,z.M,{ z.s with heap:=h',toks:=t }⟩:=
 I.go Le.rfl (I.hok.keep λb _=>k b) (λb hb=>⟨(k b).s,I.c9 hb,rfl⟩) rfl I.bare
theorem ab.kO(I:ab X τ z)(t:Nat):ab X τ ⟨z.F,z.M,{ z.s with toks:=t }⟩:=I.kept (h':=z.s.heap) λ_ _ e=>e
theorem ab.lay(I:ab X τ z){o:MO}{t:Nat}(k:∀b,bp z.s.heap h' b)(hp:z.s.heap.objs.size<=a)(new:d7 X.G z.F (up z.M a o) h' a o):ab X τ ⟨z.F,up z.M a o,{ z.s with heap:=h',toks:=t }⟩:=
 I.go Le.rfl (I.hok.lay k hp new) (λb hb=>⟨(k b).s,(aj (W7 (Xj (I.gg hb) hp))).trans (I.c9 hb),rfl⟩) rfl I.bare
theorem ab.kL(I:ab X τ z){f:Fo}{t:Nat}(k:∀b,bp z.s.heap h' b)(hp:z.s.heap.objs.size<=a)(new:f.At h' a)(nt:∀p q,f≠.tab p q:=by intro _ _ h;cases h):ab X τ ⟨up z.F a f,z.M,{ z.s with heap:=h',toks:=t }⟩:=
 I.go (Le.new (I.hok.cB hp)) (I.hok.kL k hp new nt) (λb hb=>⟨(k b).s,I.c9 hb,aj (W7 (Xj (I.gg hb) hp))⟩) rfl I.bare
theorem ab.put(I:ab X τ z){x e:Addr}{o o':MO}{t:Nat}(hx:z.M x=some o)(T7:o.mut=true)(he:e=x\/z.M e=some (.own x))(k:∀ b,b≠e->bp z.s.heap h' b)(qo:∃ u,h'.get? e=some u)(new:d7 X.G z.F (up z.M x o') h' x o'):
  ab X τ ⟨z.F,up z.M x o',{ z.s with heap:=h',toks:=t }⟩:=by
 have ne:∀b,cC X b->b≠x:=λb hb q=>by have:=I.c9 hb;rw[q,hx]at this;cases this
 have D4:∀b,cC X b->b≠e:=λb hb q=>by
  rcases he with r |r
  ·exact ne b hb (q.trans r)
  ·have:=I.c9 hb;rw[q,r]at this;cases this
 exact I.go Le.rfl (I.hok.put hx T7 he k qo new) (λb hb=>⟨(k b (D4 b hb)).s,(aj (ne b hb)).trans (I.c9 hb),rfl⟩) rfl I.bare
theorem ab.turn(I:ab X τ z){t:Nat}(k:∀b,b≠a->bp z.s.heap h' b)(hF:z.F a=none)(hM:z.M a=none)(Vg:¬cC X a):ab X τ ⟨z.F,z.M,{ z.s with heap:=h',toks:=t }⟩:=
 I.go Le.rfl (I.hok.keep λb hb=>k b (by rintro rfl;rcases hb with h |h;exact h hF;exact h hM)) (λb hb=>⟨(k b (by rintro rfl;exact Vg hb)).s,I.c9 hb,rfl⟩) rfl I.bare
theorem ab.D5{τ':St}(I:ab X τ z)(hl:τ'.length=τ.length)(w:∀(i:Nat)d,τ'[i]?=some (some d)->τ[i]?=some (some d)):ab X τ' z:=
 ⟨I.ok,I.bs,I.os,I.bare,I.bY,let ⟨m,hn,D6⟩:=I.loc;⟨m,hn,λi x v e1 e2 e3=>D6 i x v e1 (w i v e2) e3⟩,I.cell,I.free,I.hok,hl.trans I.len⟩
theorem ae.get{G:Gx}{F:Fz}:∀{ds:List D}{us:List Value}{i:Nat}{d:D},ae G F ds us->ds[i]?=some d->∃u,us[i]?=some u/\aa G F d u
 |[],us,i,d,h,e=>by simp at e
 |d'::ds,us,0,d,h,e=>by rw[ae]at h;obtain⟨u,r,rfl,h1,_⟩:=h;cases e;exact⟨u,rfl,h1⟩
 |d'::ds,us,i+1,d,h,e=>by rw[ae]at h;obtain⟨u,r,rfl,_,h2⟩:=h;exact ae.get (i:=i) h2 e
end
open Classical in
noncomputable def Cx.a'(X:Cx)(h:Heap):Fz:=λb=>if b=X.env.locals then (h.get? b).map Fo.jx else if ∃x,X.fn x=true/\X.env.cells.lookup x=some b then (h.get? b).map Fo.pin else none
structure dN(G:Gx)(A:Around)(outer:List Env)(z:Z):Prop where
 frames:A.frames=some outer
 mod:Mod G
 bs:Bs G z.F
 bY:∀env∈outer,jz G z.F env
 hok:aF G z.F z.M z.s.heap
 bare:AllBare z.s.gens
section
variable{X:Cx}{τ:St}{z z':Z}{b:Addr}{f:Fo}
theorem Cx.qr{h:Heap}:nj (X.a' h):=λb o e=>by
 unfold Cx.a' at e;split at e
 ·cases q:h.get? b <;> rw[q]at e <;> cases e
 ·split at e
  ·cases q:h.get? b <;> rw[q]at e <;> cases e
  ·cases e
theorem Cx.D7{h:Heap}(b:Addr)(p:Pos)(q:Str):X.a' h b≠some (.tab p q):=λe=>by
 unfold Cx.a' at e;split at e
 ·cases q:h.get? b <;> rw[q]at e <;> cases e
 ·split at e
  ·cases q:h.get? b <;> rw[q]at e <;> cases e
  ·cases e
theorem ab.gh(I:ab X τ z){h:Heap}(e:X.a' h b≠none):cC X b/\z.F b=none:=by
 unfold Cx.a' at e;split at e
 ·rename_i q;exact⟨.inl q,q ▸ I.free.1⟩
 ·split at e
  ·rename_i q;obtain⟨x,h1,h2⟩:=q;refine⟨.inr ⟨x,h2⟩,?_⟩;rcases (I.cell x b h2).2.2 with r |r
   ·exact r.2
   ·rw[h1]at r;cases r.1
  ·exact absurd rfl e
theorem wo{h:Heap}(e:X.a' h b=some f):f.At h b:=by
 unfold Cx.a' at e;split at e
 ·cases q:h.get? b with
  |none=>rw[q]at e;cases e
  |some o=>rw[q]at e;cases e;exact⟨o.slots,q⟩
 ·split at e
  ·cases q:h.get? b with
   |none=>rw[q]at e;cases e
   |some o=>rw[q]at e;cases e;exact q
  ·cases e
theorem ab.nr(I:ab X τ z):aF X.G (ba z.F (X.a' z.s.heap)) z.M z.s.heap:=
 I.hok.pin (λb f e=>⟨wo e,I.c9 (I.gh (h:=z.s.heap) (by rw[e];exact XB f)).1⟩) (λb e=>(I.gh e).2) X.D7
theorem ab.du(I:ab X τ z):Le z.F (ba z.F (X.a' z.s.heap)):=Le.pin λb e=>(I.gh e).2
theorem ab.wq(I:ab X τ z):∃o es ep,z.s.heap.get? X.env.locals=some o/\o.data=.dict es ep/\X.a' z.s.heap X.env.locals=some (.jx o):=by
 obtain⟨m,⟨o,es,ep,ho,hd,_⟩,_⟩:=I.loc;refine⟨o,es,ep,ho,hd,?_⟩;unfold Cx.a';rw[if_pos rfl,ho];rfl
theorem ab.dc(I:ab X τ z):dN X.G X.A X.stk ⟨ba z.F (X.a' z.s.heap),z.M,z.s⟩:=by
 refine⟨I.ok.frames,I.ok.mod,I.bs.up I.du,λenv he=>?_,I.nr,I.bare⟩;rcases I.ok.stk with e |⟨e,hf⟩
 ·rw[e]at he;exact (I.bY env he).go I.du
 ·rw[e]at he;rcases List.mem_cons.mp he with rfl |he
  ·obtain⟨o,es,ep,ho,hd,hp⟩:=I.wq;refine⟨by rw[I.ok.kind];decide,_,o,hf,dM hp,?_,λvs q=>by rw[hd]at q;cases q⟩;cases q:X.G.base.get? X.env.locals with
   |none=>rfl
   |some ob=>have:=I.bs.b _ _ q;rw[I.free.1]at this;cases this
  ·exact (I.bY env he).go I.du
theorem ab.after(I:ab X τ z)(l:Le (ba z.F (X.a' z.s.heap)) z'.F)(ok:aF X.G z'.F z'.M z'.s.heap)(os:z'.s.os=z.s.os)(bare:AllBare z'.s.gens):ab X τ ⟨aS z'.F (X.a' z.s.heap),z'.M,z'.s⟩:=by
 refine I.go (Le.aS (λb e=>(I.gh e).2) l) (ok.aS X.qr l) (λb hb=>?_) os bare;cases q:X.a' z.s.heap b with
 |some g=>
  have h1:=l b g (dM q);refine⟨λo e=>?_,?_,?_⟩
  ·have h2:=ok.fz b g h1;have h3:=wo q;unfold Cx.a' at q;rw[e]at q;split at q
   ·cases q;exact h2
   ·split at q
    ·cases q;exact⟨o.slots,h2⟩
    ·cases q
  ·cases r:z'.M b with
   |none=>rfl
   |some o=>have:=(ok.ob b o r).1;rw[h1]at this;cases this
  ·show aS z'.F _ b=_;rw[fw q,(I.gh (h:=z.s.heap) (by rw[q];exact XB g)).2]
 |none=>
  -- a cell of the RI RJ
  rcases hb with rfl |⟨x,hx⟩
  ·obtain⟨o,_,_,_,_,hp⟩:=I.wq;rw[q]at hp;cases hp
  ·rcases (I.cell x b hx).2.2 with ⟨r,_⟩ |⟨r,o,hF⟩
   ·exfalso;obtain⟨o,ho⟩:=I.wk (.inr ⟨x,hx⟩:cC X b);unfold Cx.a' at q;rw[if_neg (I.kN hx),if_pos ⟨x,r,hx⟩,ho]at q;cases q
   ·have h1:=l b _ (by rw[fu q];exact hF);refine⟨λo' e=>?_,?_,?_⟩
    ·have h2:z'.s.heap.get? b=some o:=ok.fz b _ h1;have h3:z.s.heap.get? b=some o:=I.hok.fz b _ hF;rw[e]at h3;cases h3;exact⟨_,h2⟩
    ·cases r':z'.M b with
     |none=>rfl
     |some o'=>have:=(ok.ob b o' r').1;rw[h1]at this;cases this
    ·show aS z'.F _ b=_;rw[fx q,h1,hF]
end
abbrev W(X:Cx){α:Type}(t:Sem α)(R:α->Shared->Prop)(s:Shared):Prop:=wpAny (model X.G.P X.G.w) X.A t R (XE X) s
abbrev QK:=D->Mp->Prop
abbrev DE:=St->Mp->QK->Prop
abbrev DT:=St->Mp->(Bool->Mp->Prop)->Prop
abbrev DA:=St->Mp->(List D->Mp->Prop)->Prop
abbrev Q1:=D->Mp->QK->Prop
abbrev Q2:=D->D->Mp->QK->Prop
abbrev QN:=List D->Mp->QK->Prop
structure En where
 nx:St->Mp->Prop
 rt:QK
 SD:St->Mp->Prop:=λ_ _=>False
 ct:St->Mp->Prop:=λ_ _=>False
abbrev DS:=En->St->Mp->Prop
abbrev KE(X:Cx)(τ:St)(F:Fz)(Q:QK)(R:Value->Shared->Prop):Prop:=∀d z u,Le F z.F->ab X τ z->aa X.G z.F d u->Q d z.M->R u z.s
abbrev KT(X:Cx)(τ:St)(F:Fz)(Q:Bool->Mp->Prop)(R:Bool->Shared->Prop):Prop:=∀b z,Le F z.F->ab X τ z->Q b z.M->R b z.s
abbrev KA(X:Cx)(τ:St)(F:Fz)(Q:List D->Mp->Prop)(R:List Value->Shared->Prop):Prop:=∀ds z us,Le F z.F->ab X τ z->ae X.G z.F ds us->Q ds z.M->R us z.s
structure KS(X:Cx)(F:Fz)(e:En)(R:Flow->Shared->Prop):Prop where
 nx:∀ τ z,Le F z.F->ab X τ z->e.nx τ z.M->R .next z.s
 rt:∀d τ z u,Le F z.F->ab X τ z->aa X.G z.F d u->e.rt d z.M->R (.ret u) z.s
 SD:∀ τ z,Le F z.F->ab X τ z->e.SD τ z.M->R .brk z.s
 ct:∀ τ z,Le F z.F->ab X τ z->e.ct τ z.M->R .cont z.s
theorem KS.up{X:Cx}{F F':Fz}{e:En}{R:Flow->Shared->Prop}(k:KS X F e R)(l:Le F F'):KS X F' e R:=
 ⟨fun τ z l1=>k.nx τ z (l.tr l1),λd τ z u l1=>k.rt d τ z u (l.tr l1),fun τ z l1=>k.SD τ z (l.tr l1),fun τ z l1=>k.ct τ z (l.tr l1)⟩
def PE(X:Cx)(e:Expr)(t:DE):Prop:=∀ τ z Q R,ab X τ z->t τ z.M Q->KE X τ z.F Q R->W X (eval e X.env) R z.s
def PT(X:Cx)(e:Expr)(t:DT):Prop:=∀ τ z Q R,ab X τ z->t τ z.M Q->KT X τ z.F Q R->W X (isTrue e X.env (eval e X.env)) R z.s
def PW(X:Cx)(e:Expr)(t:DT):Prop:=∀(iI:Sem Value)τ z Q R,ab X τ z->t τ z.M Q->KT X τ z.F Q R->W X (isTrue e X.env iI) R z.s
def PA(X:Cx)(es:List Expr)(t:DA):Prop:=∀(pos:Pos)τ z Q R,ab X τ z->t τ z.M Q->KA X τ z.F Q R->W X (spliced (backTo pos (starEach es X.env))) R z.s
def PS(X:Cx)(st:Stmt)(t:DS):Prop:=∀ τ z e R,ab X τ z->t e τ z.M->KS X z.F e R->W X (exec st X.env) R z.s
def d9(X:Cx)(st:List Stmt)(t:DS):Prop:=∀ τ z e R,ab X τ z->t e τ z.M->KS X z.F e R->W X (execs st X.env) R z.s
def O1(X:Cx)(f:Value->Sem Value)(r:Q1):Prop:=∀ τ z Q R d v,ab X τ z->aa X.G z.F d v->r d z.M Q->KE X τ z.F Q R->W X (f v) R z.s
def O2(X:Cx)(f:Value->Value->Sem Value)(r:Q2):Prop:=∀ τ z Q R d e v u,ab X τ z->aa X.G z.F d v->aa X.G z.F e u->r d e z.M Q->KE X τ z.F Q R->W X (f v u) R z.s
def ON(X:Cx)(f:List Value->Sem Value)(r:QN):Prop:=∀ τ z Q R ds us,ab X τ z->ae X.G z.F ds us->r ds z.M Q->KE X τ z.F Q R->W X (f us) R z.s
def qt(i:Nat):DE:=fun τ M q=>match τ[i]? with
 |some (some d)=>q d M
 |_=>False
def kP(d:D)(k:Bool->Prop):Prop:=match d with
 |.bl b=>k b
 |_=>False
def bI(d:D)(k:Int->Prop):Prop:=match d with
 |.int i=>k i
 |_=>False
def nu(r:Q2)(ta tb:DE):DE:=fun τ M q=>ta τ M λx M1=>tb τ M1 λy M2=>r x y M2 q
def jA(r:Q1)(ta:DE):DE:=fun τ M q=>ta τ M λx M1=>r x M1 q
def gV:DA:=λ_ M q=>q [] M
def qu(ta:DE)(tr:DA):DA:=fun τ M q=>ta τ M λx M1=>tr τ M1 λxs M2=>q (x::xs) M2
def wt(t:DA):DE:=fun τ M q=>t τ M λds M1=>ds.length<=sizeLine/\q (.tup ds) M1
def bS(ds:List D)(M:Mp)(q:QK):Prop:=q (.lst ds) M\/∀p,M p=none->q (.ref p) (up M p (.lst ds))
def wu(t:DA):DE:=fun τ M q=>t τ M λds M1=>ds.length<=sizeLine/\bS ds M1 q
def wx(ta tb:DE):DE:=fun τ M q=>ta τ M λx M1=>kP x λc=>if c=true then tb τ M1 q else q (.bl false) M1
def wy(ta tb:DE):DE:=fun τ M q=>ta τ M λx M1=>kP x λc=>if c=true then q (.bl true) M1 else tb τ M1 q
def wz(ta:DE):DE:=fun τ M q=>ta τ M λx M1=>kP x λc=>q (.bl (!c)) M1
def wA(t u:DT):DT:=fun τ M q=>t τ M λc M1=>if c=true then u τ M1 q else q false M1
def wB(t u:DT):DT:=fun τ M q=>t τ M λc M1=>if c=true then q true M1 else u τ M1 q
def wC(t:DT):DT:=fun τ M q=>t τ M λc M1=>q (!c) M1
def wD(t:DT)(ta tb:DE):DE:=fun τ M q=>t τ M λc M1=>if c=true then ta τ M1 q else tb τ M1 q
def qv(t u:DS):DS:=λe τ M=>t { e with nx:=u e } τ M
def wF(te:DE):DS:=λe τ M=>te τ M λ_ M1=>e.nx τ M1
def wG(te:DE):DS:=λe τ M=>te τ M e.rt
def wH(t:DT)(a b:DS):DS:=λe τ M=>t τ M λc M1=>if c=true then a e τ M1 else b e τ M1
section
variable{X:Cx}{τ:St}{z:Z}
theorem ab.wI{τ':St}{m:Str->Option Value}{e:Addr}{h':Heap}{t:Nat}(I:ab X τ z)(he:e=X.env.locals\/∃ x,X.env.cells.lookup x=some e/\z.F e=none)(hs:YA e z.s.heap h')(hn:h'.Ns X.env.locals m)
  (hl:∀(i:Nat)(x:Str)(d:D),X.N[i]?=some x->τ'[i]?=some (some d)->jt X.env.scope x->∃u,aa X.G z.F d u/\jv X.env h' m x u) (hc:∀x,X.env.cells.lookup x=some e->∃v,h'.IsCell e v) (len:τ'.length=τ.length) :
  ab X τ' ⟨z.F,z.M,{ z.s with heap:=h',toks:=t }⟩:=by
 have hF:z.F e=none/\z.M e=none:=by
  rcases he with rfl |⟨x,h1,h2⟩
  ·exact I.free
  ·exact⟨h2,(I.cell x e h1).2.1⟩
 refine⟨I.ok,I.bs,I.os,I.bare,I.bY,⟨m,hn,hl⟩,λx c q=>⟨?_,(I.cell x c q).2⟩,I.free,I.hok.keep λb hb o q=>(hs.2 b ?_).trans q,len.trans I.len⟩
 ·by_cases h:c=e
  ·rw[h];exact hc x (h ▸ q)
  ·obtain⟨⟨v,k⟩,_⟩:=I.cell x c q;exact⟨v,k.sameBut hs h⟩
 ·rintro rfl;rcases hb with h |h;exact h hF.1;exact h hF.2
theorem qw{M:Model}{A:Around}{E:Value->Shared->Prop}{i:Nat}{x:Str}{d:D}{u:Value}{Q:Unit->Shared->Prop}(I:ab X τ z)(hN:X.N.Nodup)(hi:X.N[i]?=some x)(hx:ju X.env.scope x)(hf:X.fn x=true\/X.env.scope.names.lookup x=some .local)(r:aa X.G z.F d u)
  (h:∀s',ab X (τ.set i (some d)) ⟨z.F,z.M,s'⟩->Q () s'):wpAny M A (storeName X.env x u) Q E z.s:=by
 obtain⟨m,hn,hl⟩:=id I.loc;have D8:(X.env.scope.kind == .class ||(X.env.scope.kind == .module && X.env.locals != X.env.globals))=false:=by rw[I.ok.kind];rfl
 have hiσ:i < τ.length:=by rw[I.len];exact (List.getElem?_eq_some_iff.mp hi).1
 have loc:∀{h':Heap}{m':Str->Option Value}{e:Addr},YA e z.s.heap h'->jv X.env h' m' x u->(∀ y w,y≠x->jv X.env z.s.heap m y w->jv X.env h' m' y w) ->
   ∀(j:Nat)(y:Str)(d':D),X.N[j]?=some y->(τ.set i (some d))[j]?=some (some d')->jt X.env.scope y->∃u,aa X.G z.F d' u/\jv X.env h' m' y u:=λhs h1 h2 j y d' e1 e2 e3=>by
  by_cases hj:j=i
  ·subst hj;rw[hi]at e1;cases e1;rw[List.getElem?_set_self hiσ]at e2;cases e2;exact⟨u,r,h1⟩
  ·rw[List.getElem?_set_ne (XC hj)]at e2;obtain⟨w,r',q⟩:=hl j y d' e1 e2 e3;exact⟨w,r',h2 y w (λe=>hj (DP hN e1 (e ▸ hi))) q⟩
 rcases hx with hk |hk
 ·refine wpAny_storeName_local hk hn (λh' qx hs=>h _ (I.wI (.inl rfl) hs qx (loc hs (.inl ⟨hk,if_pos rfl⟩) λy w ne q=>?_) (λy hy=>absurd rfl (I.kN hy)) (YW ..))) D8;rcases q with ⟨k,e⟩ |⟨k,c,e,q⟩
  ·exact .inl ⟨k,(if_neg ne).trans e⟩
  ·exact .inr ⟨k,c,e,q.sameBut hs (I.kN e)⟩
 ·have D9:X.fn x=true:=hf.elim id λe=>by rw[e]at hk;cases hk
  obtain⟨c,hc⟩:=I.ok.has x (.inl hk);obtain⟨⟨Wk,q⟩,_,hF⟩:=I.cell x c hc;refine wpAny_storeName_cell I.ok.kind hk hc q λh' hc' hs=>h _ (I.wI (.inr ⟨x,hc,hF.elim (·.2) λq=>by rw[D9]at q;cases q.1⟩) hs (hn.sameBut hs (XC (I.kN hc))) (loc hs (.inr ⟨.inl hk,c,hc,hc'⟩) λy w ne q=>?_) (λ_ _=>⟨_,hc'⟩) (YW ..));rcases q with q |⟨k,c',e,q⟩
  ·exact .inl q
  ·exact .inr ⟨k,c',e,q.sameBut hs λe'=>ne (I.ok.inj _ _ _ (e' ▸ e) hc)⟩
end
section
variable{X:Cx}{a b c:Expr}{ta tb:DE}{tA tB:DT}{pos:Pos}{rest:List Expr}
theorem Ea{i:Nat}{x:Str}(hN:X.N[i]?=some x)(hv:jt X.env.scope x)(hd:(x == ("__debug__" : Str))=false)(ef:(x == ("__classdict__" : Str))=false):PE X (.Name x pos) (qt i):=by
 intro τ z Q R I h k;unfold qt at h;split at h
 ·rename_i d e;obtain⟨m,hn,hl⟩:=I.loc;obtain⟨u,r,l⟩:=hl i x d hN e hv;have fin:=k d z u Le.rfl I r h;rcases l with ⟨hk,hm⟩ |⟨hk,c,hc,np⟩
  ·exact wpAny_Name (wpAny_loadName_local I.ok.kind hk hn hm fin) hd
  ·rcases hk with hk |hk
   ·exact wpAny_Name (wpAny_loadName_cell I.ok.kind hk hc np fin) hd
   ·exact wpAny_Name (wpAny_loadName_free I.ok.kind hk hc np fin ef) hd
 ·exact h.elim
def SN(d:D):DE:=λ_ M q=>q d M
theorem iJ{G:Gx}{F:Fz}{b:Bool}:aa G F (.bl b) (.bool b):=by rw[aa]
theorem bM{G:Gx}{F:Fz}{i:Int}{t:Tok}:aa G F (.int i) (.int i t):=by rw[aa];exact⟨t,rfl⟩
theorem fy{G:Gx}{F:Fz}{x:Str}{t:Tok}:aa G F (.str x) (.str x t):=by rw[aa];exact⟨t,rfl⟩
theorem qy{G:Gx}{F:Fz}{a:Addr}:aa G F (.ref a) (.ref a):=by rw[aa]
theorem Eb{G:Gx}{F:Fz}:aa G F .ai .none:=by rw[aa]
theorem ab.fin{τ:St}{z:Z}{F:Fz}{Q:QK}{R:Value->Shared->Prop}{d:D}{u:Value}(I:ab X τ z)(k:KE X τ F Q R)(l:Le F z.F)(r:aa X.G z.F d u)(q:Q d z.M)(t:Nat):R u { z.s with toks:=t }:=k d ⟨z.F,z.M,{ z.s with toks:=t }⟩ u l (I.kO t) r q
theorem wJ{i j}:PE X (.Constant (.int i) j pos) (SN (.int i)):=fun τ z Q R I h k=>wpAny_Constant_int (I.fin k Le.rfl bM h _)
theorem Ec{b j}:PE X (.Constant (.bool b) j pos) (SN (.bl b)):=fun τ z Q R I h k=>Constant_bool (k (.bl b) z _ Le.rfl I iJ h)
theorem Ed{j}:PE X (.Constant .none j pos) (SN .ai):=fun τ z Q R I h k=>Constant_none (k .ai z _ Le.rfl I Eb h)
theorem Ee{x j}:PE X (.Constant (.str x) j pos) (SN (.str x)):=fun τ z Q R I h k=>Calls.Constant_str (I.fin k Le.rfl fy h _)
def Gl(X:Cx)(x:Str):Prop:=X.env.kindOf x=some .globalImplicit
theorem jB{E:Value->Shared->Prop}{τ:St}{z:Z}{x:Str}{u:Value}{Q:Value->Shared->Prop}(I:ab X τ z)(hg:Gl X x)(hm:X.G.mg x=some u)(hd:(x == ("__debug__" : Str))=false)(h:Q u z.s):wpAny (model X.G.P X.G.w) X.A (eval (.Name x pos) X.env) Q E z.s:=
 Calls.Name_function_global I.ok.kind hg (Calls.loadGlobal_global (by rw[I.ok.eJ];exact I.ok.mod.eJ.keeps I.SD) hm h) hd
theorem dO{E:Value->Shared->Prop}{τ:St}{z:Z}{x:Str}{u:Value}{Q:Value->Shared->Prop}(I:ab X τ z)(hg:Gl X x)(hm:X.G.mg x=none)(hv:bootBuiltins x=some u)(hn:x≠"__name__")(hd:(x == ("__debug__" : Str))=false)(h:Q u z.s):wpAny (model X.G.P X.G.w) X.A (eval (.Name x pos) X.env) Q E z.s:=by
 obtain⟨mb,h1,h2⟩:=I.ok.mod.kM;exact Calls.Name_function_global I.ok.kind hg (Calls.loadGlobal_builtin (by rw[I.ok.eJ];exact I.ok.mod.eJ.keeps I.SD) hm (by rw[I.ok.kM];exact h1.keeps I.SD) ((h2 x hn).trans hv) h) hd
theorem Ef{x:Str}{d:D}{u:Value}(hg:Gl X x)(hm:X.G.mg x=some u)(hd:(x == ("__debug__" : Str))=false)(r:∀ τ z,ab X τ z->aa X.G z.F d u):PE X (.Name x pos) (SN d):=
 fun τ z Q R I h k=>jB I hg hm hd (k d z u Le.rfl I (r τ z I) h)
theorem Eg{o:Operator}{r:Q2}(ho:O2 X (binaryOp o) r)(ha:PE X a ta)(hb:PE X b tb):PE X (.BinOp a o b pos) (nu r ta tb):=fun τ z Q R I h k=>
 wpAny_BinOp (ha τ z _ _ I h λx z1 v l1 I1 r1 q1=>hb τ z1 _ _ I1 q1 λy z2 u l2 I2 r2 q2=>ho τ z2 Q _ x y v u I2 (r1.up l2.d) r2 q2 λd z3 w l3=>k d z3 w (l1.tr (l2.tr l3)))
theorem Eh(ha:PT X a tA):PW X (.BoolOp .And [a] pos) tA:=λwh τ z Q R I h k=>isTrue_and (ha τ z _ _ I h λb z1 l1 I1 q1=>by
 cases b with
 |true=>exact isTrue_and_nil (k true z1 l1 I1 q1)
 |false=>exact k false z1 l1 I1 q1)
theorem Ei(ha:PT X a tA):PW X (.BoolOp .Or [a] pos) tA:=λwh τ z Q R I h k=>isTrue_or (ha τ z _ _ I h λb z1 l1 I1 q1=>by
 cases b with
 |true=>exact k true z1 l1 I1 q1
 |false=>exact isTrue_or_nil (k false z1 l1 I1 q1))
theorem Ej(ha:PT X a tA)(hb:PW X (.BoolOp .And (b::rest) pos) tB):PW X (.BoolOp .And (a::b::rest) pos) (wA tA tB):=λwh τ z Q R I h k=>isTrue_and (ha τ z _ _ I h λb z1 l1 I1 q1=>by
 cases b with
 |true=>exact hb wh τ z1 Q R I1 q1 λb z2 l2=>k b z2 (l1.tr l2)
 |false=>exact k false z1 l1 I1 q1)
theorem Ek(ha:PT X a tA)(hb:PW X (.BoolOp .Or (b::rest) pos) tB):PW X (.BoolOp .Or (a::b::rest) pos) (wB tA tB):=λwh τ z Q R I h k=>isTrue_or (ha τ z _ _ I h λb z1 l1 I1 q1=>by
 cases b with
 |true=>exact k true z1 l1 I1 q1
 |false=>exact hb wh τ z1 Q R I1 q1 λb z2 l2=>k b z2 (l1.tr l2))
theorem El(ha:PT X a tA):PT X (.UnaryOp .Not a pos) (wC tA):=fun τ z Q R I h k=>isTrue_not (ha τ z _ _ I h λb z1 l1 I1 q1=>k (!b) z1 l1 I1 q1)
theorem wK{op}(h:PE X a ta):PE X (.BoolOp op [a] pos) ta:=fun τ z Q R I q k=>BoolOp_one (h τ z Q R I q k)
theorem qz{d:D}{k:Bool->Prop}{G:Gx}{F:Fz}{u:Value}(h:kP d k)(r:aa G F d u):∃b,u=.bool b/\k b:=by
 unfold kP at h;split at h
 ·rw[aa]at r;exact⟨_,r,h⟩
 ·exact h.elim
theorem Em(ha:PE X a ta)(hb:PE X (.BoolOp .And (b::rest) pos) tb):PE X (.BoolOp .And (a::b::rest) pos) (wx ta tb):=fun τ z Q R I h k=>BoolOp_and (ha τ z _ _ I h λx z1 v l1 I1 r1 q1=>by
 obtain⟨c,rfl,q1⟩:=qz q1 r1;refine Yw ?_;cases c with
 |true=>exact hb τ z1 Q R I1 q1 λd z2 u l2=>k d z2 u (l1.tr l2)
 |false=>exact k (.bl false) z1 _ l1 I1 iJ q1)
theorem Eo(ha:PE X a ta)(hb:PE X (.BoolOp .Or (b::rest) pos) tb):PE X (.BoolOp .Or (a::b::rest) pos) (wy ta tb):=fun τ z Q R I h k=>BoolOp_or (ha τ z _ _ I h λx z1 v l1 I1 r1 q1=>by
 obtain⟨c,rfl,q1⟩:=qz q1 r1;refine Yw ?_;cases c with
 |false=>exact hb τ z1 Q R I1 q1 λd z2 u l2=>k d z2 u (l1.tr l2)
 |true=>exact k (.bl true) z1 _ l1 I1 iJ q1)
theorem Ep(ha:PE X a ta):PE X (.UnaryOp .Not a pos) (wz ta):=fun τ z Q R I h k=>UnaryOp_ (ha τ z _ _ I h λx z1 v l1 I1 r1 q1=>by
 obtain⟨c,rfl,q1⟩:=qz q1 r1;exact not_of (Yw (k (.bl (!c)) z1 _ l1 I1 iJ q1)))
theorem Er(hc:PT X c tA)(ha:PE X a ta)(hb:PE X b tb):PE X (.IfExp c a b pos) (wD tA ta tb):=fun τ z Q R I h k=>wpAny_IfExp (hc τ z _ _ I h λd z1 l1 I1 q1=>by
 cases d with
 |true=>exact ha τ z1 Q R I1 q1 λd z2 u l2=>k d z2 u (l1.tr l2)
 |false=>exact hb τ z1 Q R I1 q1 λd z2 u l2=>k d z2 u (l1.tr l2))
theorem nv:PA X [] gV:=λ_ τ z Q R I h k=>YU (k [] z [] Le.rfl I .nil h)
theorem ny{es:List Expr}{t:DA}(ha:PE X a ta)(hr:PA X es t)(hs:starEach (a::es) X.env=(false,eval a X.env)::starEach es X.env):PA X (a::es) (qu ta t):=by
 intro pos τ z Q R I h k;rw[hs];show W X (spliced ((false,eval a X.env)::backTo pos (starEach es X.env))) R z.s;exact Yn (ha τ z _ _ I h λx z1 v l1 I1 r1 q1=>hr pos τ z1 _ _ I1 q1 λxs z2 us l2 I2 r2 q2=>k (x::xs) z2 (v::us) (l1.tr l2) I2 (.cons (r1.up l2.d) r2) q2)
theorem nz{G:Gx}{F:Fz}{ds:List D}{us:List Value}{a:Addr}{o:Obj}(h:F a=some (.dat o))(t:kH o us)(r:ae G F ds us):aa G F (.tup ds) (.ref a):=by rw[aa];exact⟨a,o,us,rfl,h,t,r⟩
theorem nA{G:Gx}{F:Fz}{ds:List D}{us:List Value}{a:Addr}{n:Nat}(h:F a=some (.dat (bH us n)))(t:us.length<=sizeLine)(r:ae G F ds us):aa G F (.lst ds) (.ref a):=by rw[aa];exact⟨a,n,us,rfl,h,t,r⟩
theorem ab.tup{τ:St}{z:Z}{ds:List D}{us:List Value}{h':Heap}{a:Addr}{o:Obj}{t:Nat}{Q:QK}{R:Value->Shared->Prop}{F:Fz}(I:ab X τ z)(k:KE X τ F Q R)(l:Le F z.F)(r:ae X.G z.F ds us)(kp:∀b,bp z.s.heap h' b)(hp:z.s.heap.objs.size<=a)(ho:h'.get? a=some o)(to:kH o us)(q:Q (.tup ds) z.M):R (.ref a) { z.s with heap:=h',toks:=t }:=
 have l1:Le z.F (up z.F a (.dat o)):=Le.new (I.hok.cB hp)
 k (.tup ds) _ _ (l.tr l1) (I.kL (t:=t) (f:=.dat o) kp hp ho) (nz ak to (r.up l1.d)) q
theorem ab.lst{τ:St}{z:Z}{ds:List D}{us:List Value}{h':Heap}{a:Addr}{n t:Nat}{Q:QK}{R:Value->Shared->Prop}{F:Fz}(I:ab X τ z)(k:KE X τ F Q R)(l:Le F z.F)(r:ae X.G z.F ds us)(kp:∀b,bp z.s.heap h' b)(hp:z.s.heap.objs.size<=a)(ho:h'.get? a=some (bH us n))(hz:us.length<=sizeLine)(q:bS ds z.M Q):R (.ref a) { z.s with heap:=h',toks:=t }:=by
 rcases q with q |q
 ·have l1:Le z.F (up z.F a (.dat (bH us n))):=Le.new (I.hok.cB hp);exact k (.lst ds) _ _ (l.tr l1) (I.kL (t:=t) (f:=.dat (bH us n)) kp hp ho) (nA ak hz (r.up l1.d)) q
 ·exact k (.ref a) ⟨z.F,_,_⟩ _ l (I.lay (t:=t) (o:=.lst ds) kp hp ⟨by rw[r.len];exact hz,us,n,r,ho⟩) qy (q a (I.hok.c8 hp))
theorem Es{es:List Expr}{t:DA}{x1}(h:PA X es t):PE X (.Tuple es x1 pos) (wt t):=fun τ z Q R I hq k=>wpAny_Tuple_spliced (h pos τ z _ _ I hq λds z1 us l1 I1 r1 q1=>by
 have hz:us.length<=sizeLine:=by rw[<- r1.len];exact q1.1
 exact⟨hz,I1.tup (t:=z1.s.toks) k l1 r1 (λb o e=>WR _ e) (WU _) (WX _ rfl) ⟨rfl,rfl,⟨_,rfl⟩,hz⟩ q1.2⟩)
theorem Et{es:List Expr}{t:DA}(h:PA X es t):PE X (.List es pos) (wu t):=fun τ z Q R I hq k=>wpAny_List_spliced (h pos τ z _ _ I hq λds z1 us l1 I1 r1 q1=>by
 have hz:us.length<=sizeLine:=by rw[<- r1.len];exact q1.1
 exact⟨hz,I1.lst (t:=z1.s.toks) (n:=0) k l1 r1 (λb o e=>WR _ e) (WU _) (WX _ rfl) hz q1.2⟩)
variable{st:Stmt}{wn:List Stmt}{t u:DS}
theorem Eu:d9 X [] (λe τ M=>e.nx τ M):=fun τ z e R I h k=>wpAny_execs_nil (k.nx τ z Le.rfl I h)
theorem Ex(h1:PS X st t)(h2:d9 X wn u):d9 X (st::wn) (qv t u):=fun τ z e R I h k=>wpAny_execs_cons (h1 τ z { e with nx:=u e } _ I h
 ⟨fun τ1 z1 l1 I1 q=>h2 τ1 z1 e R I1 q (k.up l1),k.rt,k.SD,k.ct⟩)
theorem wL(h1:PS X st t):d9 X [st] t:=fun τ z e R I h k=>wpAny_execs_cons (h1 τ z e _ I h ⟨fun τ1 z1 l1 I1 q=>wpAny_execs_nil (k.nx τ1 z1 l1 I1 q),k.rt,k.SD,k.ct⟩)
theorem Ey:PS X (.Pass pos) (λe τ M=>e.nx τ M):=fun τ z e R I h k=>wpAny_Pass (k.nx τ z Le.rfl I h)
theorem Ez:PS X (.Break pos) (λe τ M=>e.SD τ M):=fun τ z e R I h k=>wpAny_Break (k.SD τ z Le.rfl I h)
theorem EA:PS X (.Continue pos) (λe τ M=>e.ct τ M):=fun τ z e R I h k=>wpAny_Continue (k.ct τ z Le.rfl I h)
theorem ab.EB{τ:St}{z:Z}(I:ab X τ z):interactive X.env=false:=by simp [interactive,I.ok.kind]
theorem EC(he:PE X a ta)(hs:swapsWith a none pos.line X.env=pure false):PS X (.Expr a pos) (wF ta):=fun τ z e R I h k=>wpAny_Expr_any (he τ z _ _ I h λd z1 u l1 I1 r1 q1=>k.nx τ z1 l1 I1 q1) I.EB hs
theorem wM(he:PE X a ta):PS X (.Return (some a) pos) (wG ta):=fun τ z e R I h k=>wpAny_Return_some (he τ z _ _ I h λd z1 u l1 I1 r1 q1=>k.rt d τ z1 u l1 I1 r1 q1)
theorem ED{xs ys:List Stmt}(hc:PT X c tA)(ha:d9 X xs t)(hb:d9 X ys u):PS X (.If c xs ys pos) (wH tA t u):=fun τ z e R I h k=>wpAny_If (hc τ z _ _ I h λd z1 l1 I1 q1=>by
 cases d with
 |true=>exact ha τ z1 e R I1 q1 (k.up l1)
 |false=>exact hb τ z1 e R I1 q1 (k.up l1))
theorem de:PS X st (λ_ _ _=>False):=λ_ _ _ _ _ h _=>h.elim
theorem kQ:PE X a (λ_ _ _=>False):=λ_ _ _ _ _ h _=>h.elim
theorem qA:PT X a (λ_ _ _=>False):=λ_ _ _ _ _ h _=>h.elim
theorem wN:PW X a (λ_ _ _=>False):=λ_ _ _ _ _ _ h _=>h.elim
end
end N
end
section
set_option maxHeartbeats 1000000
namespace N
open PySem PySem.Spec PyProof.Rows L2
def bg(d:D)(M:Mp)(k:List D->Prop):Prop:=match d with
 |.lst ds=>k ds
 |.ref a=>∃ds,M a=some (.lst ds)/\k ds
 |_=>False
def cQ(d:D)(M:Mp)(k:List D->Prop):Prop:=match d with
 |.tup ds=>k ds
 |d=>bg d M k
structure eK(G:Gx)(F:Fz)(h:Heap)(a:Addr)(ds:List D)(us:List Value)(n:Nat):Prop where
 e:h.get? a=some (bH us n)
 r:ae G F ds us
 z:us.length<=sizeLine
structure qB(G:Gx)(F:Fz)(h:Heap)(a:Addr)(ds:List D)(us:List Value)(o:Obj):Prop where
 e:h.get? a=some o
 t:kH o us
 r:ae G F ds us
section
variable{X:Cx}{τ:St}{z:Z}{d:D}{u:Value}{a:Addr}
theorem eK.p{G:Gx}{F:Fz}{h:Heap}{ds:List D}{us:List Value}{n:Nat}(l:eK G F h a ds us n):PlainL h a us.toArray:=⟨_,n,l.e,rfl,rfl,rfl⟩
theorem qB.p{G:Gx}{F:Fz}{h:Heap}{ds:List D}{us:List Value}{o:Obj}(l:qB G F h a ds us o):IsTup h a us.toArray:=⟨o,l.e,l.t.cls,l.t.data⟩
theorem ab.eL(I:ab X τ z){ds:List D}(h:z.M a=some (.lst ds)):∃us n,eK X.G z.F z.s.heap a ds us n:=by
 obtain⟨_,h1,us,n,r,e⟩:=I.hok.ob a _ h;exact⟨us,n,e,r,by rw[<- r.len];exact h1⟩
theorem ab.gi(I:ab X τ z){ds:List D}(r:aa X.G z.F (.lst ds) u):∃a us n,u=.ref a/\eK X.G z.F z.s.heap a ds us n:=by
 rw[aa]at r;obtain⟨a,n,us,e,h1,h2,h3⟩:=r;exact⟨a,us,n,e,I.hok.fz a _ h1,h3,h2⟩
theorem ab.cD(I:ab X τ z){ds:List D}(r:aa X.G z.F (.tup ds) u):∃a us o,u=.ref a/\qB X.G z.F z.s.heap a ds us o:=by
 rw[aa]at r;obtain⟨a,o,us,e,h1,h2,h3⟩:=r;exact⟨a,us,o,e,I.hok.fz a _ h1,h2,h3⟩
theorem ab.bg{k:List D->Prop}(I:ab X τ z)(r:aa X.G z.F d u)(h:bg d z.M k):∃a ds us n,u=.ref a/\eK X.G z.F z.s.heap a ds us n/\k ds:=by
 unfold N.bg at h;split at h
 ·obtain⟨a,us,n,e,l⟩:=I.gi r;exact⟨a,_,us,n,e,l,h⟩
 ·rw[aa]at r;obtain⟨ds,h1,h2⟩:=h;obtain⟨us,n,l⟩:=I.eL h1;exact⟨_,ds,us,n,r,l,h2⟩
 ·exact h.elim
end
abbrev DG:=D->St->Mp->(St->Mp->Prop)->Prop
def PG(X:Cx)(tg:Expr)(t:DG):Prop:=∀ τ z d u Q R,ab X τ z->aa X.G z.F d u->t d τ z.M Q->(∀ τ' z',Le z.F z'.F->ab X τ' z'->Q τ' z'.M->R () z'.s)->W X (assign tg X.env u) R z.s
inductive G where
 |one (i:Nat)
 |many (is:List Nat)
noncomputable def fA:List Nat->List D->St->St
 |i::is,d::ds,τ=>fA is ds (τ.set i (some d))
 |_,_,τ=>τ
def cm:G->DG
 |.one i=>λd τ M k=>k (τ.set i (some d)) M
 |.many is=>λd τ M k=>cQ d M λds=>ds.length=is.length/\k (fA is ds τ) M
structure iK(X:Cx)(is:List Nat)(xs:List Str):Prop where
 nd:X.N.Nodup
 ok:∀i x,(i,x)∈is.zip xs->X.N[i]?=some x/\ju X.env.scope x/\(X.fn x=true\/X.env.scope.names.lookup x=some .local)
section
variable{X:Cx}{pos:Pos}
theorem wQ{i:Nat}{x:Str}(h:iK X [i] [x]):PG X (.Name x pos) (cm (.one i)):=fun τ z d u Q R I r q k=>
 have o:=h.ok i x (List.mem_singleton.mpr rfl)
 wpAny_assign_Name (qw I h.nd o.1 o.2.1 o.2.2 r λs' I'=>k _ ⟨z.F,z.M,s'⟩ Le.rfl I' q)
theorem EE{env:Env}{x:Str}{p:Pos}{es:List Expr}:(assignEach (.Name x p::es) env).map (·.2)=assign (.Name x p) env::(assignEach es env).map (·.2):=rfl
theorem EF:∀(is:List Nat)(es:List (Str×Pos))(ds:List D){τ:St}{z:Z}{us:List Value}{R:Unit->Shared->Prop},iK X is (es.map (·.1))->is.length=es.length->ds.length=is.length->ab X τ z->ae X.G z.F ds us->(∀ s',ab X (fA is ds τ) ⟨z.F,z.M,s'⟩->R () s') ->
  W X (assignInOrder ((assignEach (es.map λp=>.Name p.1 p.2) X.env).map (·.2)) us) R z.s:=by
 intro is
 induction is with
 |nil=>
  intro es ds τ z us R h hl hd I r k;cases es with
  |cons _ _=>cases hl
  |nil=>cases ds with
   |cons _ _=>cases hd
   |nil=>rw[ae]at r;subst r;exact assignInOrder_nil (k z.s I)
 |cons i is ih=>
  intro es ds τ z us R h hl hd I r k;cases es with
  |nil=>cases hl
  |cons p es=>cases ds with
   |nil=>cases hd
   |cons d ds=>
    rw[ae]at r;obtain⟨u,us,rfl,r1,r2⟩:=r;have o:=h.ok i p.1 WZ;rw[W0,EE];exact assignInOrder_cons (wpAny_assign_Name (qw I h.nd o.1 o.2.1 o.2.2 r1 λs' I'=>ih es ds (z:=⟨z.F,z.M,s'⟩) ⟨h.nd,λj y hj=>h.ok j y (WY _ hj)⟩ (Y1 hl) (Y1 hd) I' r2 k))
theorem wR{env:Env}:∀(es:List (Str×Pos)),(assignEach (es.map λp=>Expr.Name p.1 p.2) env).length=es.length/\(assignEach (es.map λp=>Expr.Name p.1 p.2) env).findIdx? (·.1)=none
 |[]=>⟨rfl,rfl⟩
 |p::es=>by
  obtain⟨h1,h2⟩:=wR (env:=env) es;refine⟨congrArg (·+1) h1,?_⟩;show List.findIdx? _ ((false,_)::assignEach (es.map λp=>Expr.Name p.1 p.2) env)=none;rw[List.findIdx?_cons,h2];rfl
theorem EG{is:List Nat}{es:List (Str×Pos)}{k:Nat}(hc:X.calm=true)(h:iK X is (es.map (·.1)))(hl:is.length=es.length):PG X (.Tuple (es.map λp=>.Name p.1 p.2) k pos) (cm (.many is)):=by
 intro τ z d u Q R I r q kk;obtain⟨e1,e2⟩:=wR (env:=X.env) es;have fin:∀(ds:List D)(us:List Value),ae X.G z.F ds us->ds.length=is.length->Q (fA is ds τ) z.M->∀ h',(∀ b o,b≠z.s.heap.objs.size->z.s.heap.get? b=some o->h'.get? b=some o) ->
   W X (assignInOrder ((assignEach (es.map λp=>.Name p.1 p.2) X.env).map (·.2)) us) R { z.s with heap:=h' }:=λds us r hd q h' ext=>
  EF is es ds (z:=⟨z.F,z.M,{ z.s with heap:=h',toks:=z.s.toks }⟩) h hl hd (I.kept λb o e=>ext b o (W7 (W4 e)) e) r λs' I'=>kk _ ⟨z.F,z.M,s'⟩ Le.rfl I' q
 have lst:∀{d:D}{p:List D->Prop},aa X.G z.F d u->bg d z.M p->(∀ds,p ds->ds.length=is.length/\Q (fA is ds τ) z.M)->W X (assign (.Tuple (es.map λp=>.Name p.1 p.2) k pos) X.env u) R z.s:=λr q hk=>by
  obtain⟨a,ds,us,n,rfl,l,q⟩:=I.bg r q;obtain⟨hd,q⟩:=hk ds q;have len:us.toArray.size=es.length:=by rw[WV,<- l.r.len,hd,hl]
  rw[assign_Tuple];refine WO (wpAny_standAt ?_);unfold unpack;rw[e1,e2,<- len];exact WO (XN (PySem.W.kun_itemsOf (I.ok.hd hc) l.p.isList λh' ext=>fin ds us l.r hd q h' ext))
 unfold cm cQ at q;cases d with
 |tup ds=>
  obtain⟨a,us,o,rfl,l⟩:=I.cD r;exact assign_Tuple_tuple (I.ok.hd hc) l.p (by rw[e1,WV,<- l.r.len,q.1,hl]) e2 λh' hx=>fin ds us l.r q.1 q.2 h' hx
 |lst ds=>exact lst r q λ_ h=>h
 |ref a=>exact lst r q λ_ h=>h
 |_=>exact q.elim
abbrev QS:=D->D->D->Mp->(Mp->Prop)->Prop
def OS(X:Cx)(r:QS):Prop:=∀ τ z o i d ov iv u Q R,ab X τ z->aa X.G z.F o ov->aa X.G z.F i iv->aa X.G z.F d u->r o i d z.M Q->(∀z',Le z.F z'.F->ab X τ z'->Q z'.M->R () z'.s)->W X (setItem ov iv u) R z.s
def wU(r:QS)(to ti:DE):DG:=λd τ M Q=>to τ M λo M1=>ti τ M1 λi M2=>r o i d M2 λM3=>Q τ M3
theorem EH{o i : Expr}{to ti : DE}{r : QS}(ho : PE X o to)(hi : PE X i ti)(hs : OS X r)(ha : ∀ v, assign (.Subscript o i pos) X.env v = (do
      let ov <- holding [v] (eval o X.env)
      let iv <- holding [v,ov] (eval i X.env)
      standAt pos
      holding [v,ov,iv] (setItem ov iv v)
      release [v,ov,iv] [])):PG X (.Subscript o i pos) (wU r to ti):=by
  intro τ z d u Q R I rd q k;rw[ha];exact WO (XN (ho τ z _ _ I q λx z1 v l1 I1 r1 q1=>WO (XN (hi τ z1 _ _ I1 q1 λy z2 w l2 I2 r2 q2=>WO (wpAny_standAt (WO (XN
    (hs τ z2 x y d v w u _ _ I2 (r1.up l2.d) r2 (rd.up (l1.tr l2).d) q2 λz3 l3 I3 q3=>wpAny_release (k τ z3 (l1.tr (l2.tr l3)) I3 q3)))))))))
def kR(te:DE)(g:DG):DS:=λe τ M=>te τ M λd M1=>g d τ M1 e.nx
theorem wV{tg e:Expr}{te:DE}{g:DG}(he:PE X e te)(hg:PG X tg g)(hs:swapsWithSole [tg] e pos.line X.env=pure false)(hw:swappedStores [tg] e X.env=pure none)(h1:(assignEach [tg] X.env).map (·.2)=[assign tg X.env]):PS X (.Assign [tg] e pos) (kR te g):=fun τ z e R I h k=>
 wpAny_Assign_stores (he τ z _ _ I h λd z1 u l1 I1 r1 q1=>by
  rw[h1];exact hg τ z1 d u _ _ I1 r1 q1 fun τ' z' l2 I2 q2=>k.nx τ' z' (l1.tr l2) I2 q2) hs hw
theorem wW{i:Nat}{x:Str}{e:Expr}{te:DE}{p:Pos}(h:iK X [i] [x])(he:PE X e te)(hs:swapsWith e (some (.Name x p)) pos.line X.env=pure false):PS X (.Assign [.Name x p] e pos) (kR te (cm (.one i))):=fun τ z e R I q k=>
 have o:=h.ok i x (List.mem_singleton.mpr rfl)
 wpAny_Assign_Name (he τ z _ _ I q λd z1 u l1 I1 r1 q1=>qw I1 h.nd o.1 o.2.1 o.2.2 r1 λs' I'=>k.nx _ ⟨z1.F,z1.M,s'⟩ l1 I' q1) hs
def b8(t:DT)(tb:DS)(e:En):Nat->St->Mp->Prop
 | 0,_,_=>False
 |n+1,τ,M=>t τ M λc M1=>if c=true then tb { e with nx:=b8 t tb e n,ct:=b8 t tb e n,SD:=e.nx } τ M1 else e.nx τ M1
def wX(t:DT)(tb:DS):DS:=λe τ M=>∃n,b8 t tb e n τ M
theorem iL:PassesOwn (model X.G.P X.G.w) X.A X.env (XE X):=by
 have:XE X=λ_ _=>False:=funext λe=>funext λs=>propext ⟨XE.no,False.elim⟩;rw[this];exact PassesOwn.never
theorem EI{c:Expr}{body:List Stmt}{tc:DT}{tb:DS}(hc:PT X c tc)(hb:d9 X body tb):PS X (.While c body [] pos) (wX tc tb):=by
 intro τ z e R I h k;obtain⟨n,h⟩:=h;refine wpAny_While (codeAny_whileLoop (λn s'=>∃ τ' z',Le z.F z'.F/\ab X τ' z'/\b8 tc tb e n τ' z'.M/\z'.s=s') ?_ n ⟨τ,z,Le.rfl,I,h,rfl⟩);rintro n s1 ⟨τ1,z1,l1,I1,w1,rfl⟩;cases n with
 |zero=>exact w1.elim
 |succ n=>
  refine Zb iL (hc τ1 z1 _ _ I1 w1 λb z2 l2 I2 q2=>?_);cases b with
  |true=>
   rw[if_pos rfl];exact Zb iL (hb τ1 z2 _ _ I2 q2 ⟨fun τ3 z3 l3 I3 q3=>⟨n,Yq n,τ3,z3,l1.tr (l2.tr l3),I3,q3,rfl⟩,λd τ3 z3 u l3=>k.rt d τ3 z3 u (l1.tr (l2.tr l3)),fun τ3 z3 l3=>k.nx τ3 z3 (l1.tr (l2.tr l3)),fun τ3 z3 l3 I3 q3=>⟨n,Yq n,τ3,z3,l1.tr (l2.tr l3),I3,q3,rfl⟩⟩)
  |false=>
   rw[if_neg Xi];exact wpAny_execs_nil (k.nx τ1 z2 (l1.tr l2) I2 q2)
end
end N
end
section
set_option maxHeartbeats 1000000
namespace N
open PySem PySem.Spec PyProof.Rows L2
structure Fp(X:Cx)(z:Z)(b:Addr):Prop where
 f:z.F b=none
 m:z.M b=none
 o:¬cC X b
inductive nB(X:Cx)(τ:St)(z:Z)(d:D)(u:Value)(fp:List Addr)(tn:Nat->Heap->Prop)(i:Nat)(s:Shared):Prop
 |mk {F:Fz} (l:Le z.F F) (I:ab X τ ⟨F,z.M,s⟩) (r:aa X.G F d u) (t:tn i s.heap) (n:∀b∈fp,F b=none)
structure fB(G:Gx)(tg:Expr)(xs:List D)(ok:Mp->Prop)(F0:Fz)(fp:List Addr)(it:Addr)(tn:Nat->Heap->Prop):Prop where
 obj:∀i h,tn i h->∀b∈fp,∃o,h.get? b=some o
 keep:∀i h h',tn i h->(∀b∈fp,bp h h' b)->tn i h'
 item:∀(X:Cx),X.G=G->X.calm=true->∀i τ z d E,ab X τ z->Le F0 z.F->(∀b∈fp,Fp X z b)->tn i z.s.heap->ok z.M->xs[i]?=some d ->
  wpAny (model G.P G.w) X.A (pyNext (.ref it)) (λr s1=>∃u,r=some u/\wpAny (model G.P G.w) X.A (letOwnedTupleGo tg (.ref it) u) (λ_ s2=>nB X τ z d u fp tn (i+1) s2) E s1) E z.s
 done:∀(X:Cx),X.G=G->X.calm=true->∀i τ z E,ab X τ z->Le F0 z.F->(∀b∈fp,Fp X z b)->tn i z.s.heap->ok z.M->xs.length<=i->wpAny (model G.P G.w) X.A (pyNext (.ref it)) (λr s1=>r=none/\ab X τ ⟨z.F,z.M,s1⟩) E z.s
 self:∀(A:Around)i(s:Shared)(Q E:Value->Shared->Prop),tn i s.heap->Q (.ref it) s->wpAny (model G.P G.w) A (pyIter (.ref it)) Q E s
inductive qC(X:Cx)(tg:Expr)(xs:List D)(ok:Mp->Prop)(z:Z)(it:Addr):Prop
 |mk {fp:List Addr}{tn:Nat->Heap->Prop} (T:fB X.G tg xs ok z.F fp it tn) (t:tn 0 z.s.heap) (f:∀b∈fp,Fp X z b)
abbrev DI:=St->Mp->(List D->(Mp->Prop)->Mp->Prop)->Prop
abbrev KI(X:Cx)(τ:St)(tg:Expr)(F:Fz)(k:List D->(Mp->Prop)->Mp->Prop)(R:Value->Shared->Prop):Prop:=∀xs ok z it,Le F z.F->ab X τ z->qC X tg xs ok z it->k xs ok z.M->R (.ref it) z.s
def PI(X:Cx)(tg iter:Expr)(t:DI):Prop:=∀ τ z k R,ab X τ z->t τ z.M k->KI X τ tg z.F k R->W X (eval iter X.env) (λv s1=>W X (pyIter v) R s1) z.s
open Classical in
noncomputable def aW(fp:List Addr)(h:Heap):Fz:=λb=>if b∈fp then (h.get? b).map Fo.pin else none
section
variable{X:Cx}{τ τ':St}{z z':Z}{fp:List Addr}{h h':Heap}{b a:Addr}
theorem jC:nj (aW fp h):=λb o e=>by
 unfold aW at e;split at e
 ·cases q:h.get? b <;> rw[q]at e <;> cases e
 ·cases e
theorem nC{f:Fo}(e:aW fp h b=some f):b∈fp/\∃o,h.get? b=some o/\f=.pin o:=by
 unfold aW at e;split at e
 ·rename_i hb;cases q:h.get? b with
  |none=>rw[q]at e;cases e
  |some o=>rw[q]at e;cases e;exact⟨hb,o,rfl,rfl⟩
 ·cases e
theorem gW{o:Obj}(hb:b∈fp)(e:h.get? b=some o):aW fp h b=some (.pin o):=by unfold aW;rw[if_pos hb,e];rfl
theorem kS(hb:b ∉ fp):aW fp h b=none:=if_neg hb
theorem ab.kT(I:ab X τ z)(hf:∀b∈fp,Fp X z b):Le z.F (ba z.F (aW fp z.s.heap))/\ab X τ ⟨ba z.F (aW fp z.s.heap),z.M,z.s⟩:=by
 have SV:∀b,aW fp z.s.heap b≠none->z.F b=none:=λb e=>by
  cases q:aW fp z.s.heap b with
  |none=>exact absurd q e
  |some f=>exact (hf b (nC q).1).f
 refine⟨Le.pin SV,I.go (Le.pin SV) (I.hok.pin (λb f e=>?_) SV λb p q e=>by obtain⟨_,_,_,z⟩:=nC e;cases z) (λb hb=>⟨bp.s λ_ e=>e,I.c9 hb,fu (kS λm=>(hf b m).o hb)⟩) rfl I.bare⟩;obtain⟨hb,o,h1,rfl⟩:=nC e;exact⟨h1,(hf b hb).m⟩
theorem ab.jD(I:ab X τ' z'){F:Fz}(hf:∀ b∈fp,F b=none/\¬cC X b)(l:Le (ba F (aW fp h)) z'.F)(bs:Bs X.G F)(of:∀ env∈X.outer,jz X.G F env):
  Le F (aS z'.F (aW fp h))/\ab X τ' ⟨aS z'.F (aW fp h),z'.M,z'.s⟩:=by
 have SV:∀b,aW fp h b≠none->F b=none:=λb e=>by
  cases q:aW fp h b with
  |none=>exact absurd q e
  |some f=>exact (hf b (nC q).1).1
 have lu:=Le.aS SV l;have ld:=b0.aS (jC (fp:=fp) (h:=h)) l;have own:∀b,cC X b->aS z'.F (aW fp h) b=z'.F b:=λb hb=>fx (kS λm=>(hf b m).2 hb);refine⟨lu,⟨I.ok,bs.up lu,I.os,I.bare,λenv he=>(of env he).go lu,?_,λx c e=>?_,⟨(own _ (.inl rfl)).trans I.free.1,I.free.2⟩,I.hok.aS jC l,I.len⟩⟩
 ·obtain⟨m,h1,h2⟩:=I.loc;exact⟨m,h1,λi x d e1 e2 e3=>let ⟨u,r,k⟩:=h2 i x d e1 e2 e3;⟨u,r.up ld,k⟩⟩
 ·obtain⟨h1,h2,h3⟩:=I.cell x c e;exact⟨h1,h2,by show (_/\aS _ _ c=none)\/_/\∃o,aS _ _ c=_;rw[own c (.inr ⟨x,e⟩)];exact h3⟩
theorem ab.gX(I:ab X τ z)(hb:z.s.heap.objs.size<=b){s':Shared}:Fp X ⟨z.F,z.M,s'⟩ b:=⟨I.hok.cB hb,I.hok.c8 hb,λo=>absurd (Xj (I.gg o) hb) (Yh _)⟩
def fC(ok:Mp->Prop)(g:DG)(tb:DS)(e:En):List D->St->Mp->Prop
 |[],τ,M=>ok M/\e.nx τ M
 |x::xs,τ,M=>ok M/\g x τ M fun τ1 M1=>tb { e with nx:=fC ok g tb e xs,ct:=fC ok g tb e xs,SD:=e.nx } τ1 M1
def qD(ti:DI)(g:DG)(tb:DS):DS:=λe τ M=>ti τ M λxs ok M1=>fC ok g tb e xs τ M1
theorem EJ{tg iter:Expr}{body:List Stmt}{ti:DI}{g:DG}{tb:DS}{pos:Pos}(hc:X.calm=true)(hi:PI X tg iter ti)(hg:PG X tg g)(hb:d9 X body tb)(hs:∀x,foldedSetIterable iter X.env x=pure x):PS X (.For tg iter body [] pos) (qD ti g tb):=by
 intro τ z e R I h k;refine wpAny_For (hi τ z _ _ I h λxs ok z1 it l1 I1 hit h1=>?_) hs;obtain⟨T,t0,f0⟩:=hit;rename_i fp tn;refine codeAny_forLoop_any (λn s'=>∃i τ' z',Le z1.F z'.F/\ab X τ' z'/\tn i z'.s.heap/\(∀b∈fp,Fp X z' b)/\fC ok g tb e (xs.drop i) τ' z'.M/\n+i=xs.length/\z'.s=s') ?_ xs.length ⟨0,τ,z1,Le.rfl,I1,t0,f0,h1,rfl,rfl⟩;rintro n s3 ⟨i,τ3,z3,l3,I3,t3,f3,w3,hn,rfl⟩;cases hx:xs[i]? with
 |none=>
  have hl:xs.length<=i:=List.getElem?_eq_none_iff.mp hx;rw[Y2 hl]at w3;refine Zb iL (Y5 (T.done X rfl hc i τ3 z3 (XE X) I3 l3 f3 t3 w3.1 hl) (λr s4 h4=>?_) λ_ _ q=>q);obtain⟨rfl,I4⟩:=h4;exact wpAny_execs_nil (k.nx τ3 ⟨z3.F,z3.M,s4⟩ (l1.tr l3) I4 w3.2)
 |some d=>
  obtain⟨ap,hd⟩:=List.getElem?_eq_some_iff.mp hx;rw[Yk ap,hd]at w3;refine Zb iL (Y5 (T.item X rfl hc i τ3 z3 d (XE X) I3 l3 f3 t3 w3.1 hx) (λr s4 h4=>?_) λ_ _ q=>q);obtain⟨u,rfl,h4⟩:=h4;refine Zb iL (Y5 h4 (λ_ s5 h5=>?_) λ_ _ q=>q);obtain⟨l5,I5,r5,t5,n5⟩:=h5;rename_i F5;have f5:∀b∈fp,Fp X ⟨F5,z3.M,s5⟩ b:=λb hb=>⟨n5 b hb,(f3 b hb).m,(f3 b hb).o⟩;obtain⟨lp,Ip⟩:=I5.kT f5;refine Zb iL (hg τ3 _ d u _ _ Ip (r5.up lp.d) w3.2 fun τ6 z6 l6 I6 q6=>Zb iL (hb τ6 z6 _ _ I6 q6 ?_));have off:∀{τ7:St}{z7:Z},Le z6.F z7.F->ab X τ7 z7->Le z.F (aS z7.F (aW fp s5.heap))/\ab X τ7 ⟨aS z7.F (aW fp s5.heap),z7.M,z7.s⟩/\(Le z1.F (aS z7.F (aW fp s5.heap))/\tn (i+1) z7.s.heap/\∀b∈fp,Fp X ⟨aS z7.F (aW fp s5.heap),z7.M,z7.s⟩ b):=λ{τ7 z7}l7 I7=>by
   have l8:=l6.tr l7;obtain⟨u1,u2⟩:=I7.jD (fp:=fp) (h:=s5.heap) (F:=F5) (λb hb=>⟨n5 b hb,(f3 b hb).o⟩) l8 I5.bs I5.bY;have bf:∀b∈fp,∃o,s5.heap.get? b=some o/\z7.F b=some (.pin o):=λb hb=>by
    obtain⟨o,ho⟩:=T.obj _ _ t5 b hb;exact⟨o,ho,l8 b _ (dM (gW hb ho))⟩
   refine⟨l1.tr (l3.tr (l5.tr u1)),u2,l3.tr (l5.tr u1),T.keep _ _ _ t5 λb hb o ho=>?_,λb hb=>?_⟩
   ·obtain⟨o',h1,h2⟩:=bf b hb;rw[ho]at h1;cases h1;exact I7.hok.fz b _ h2
   ·obtain⟨o',h1,h2⟩:=bf b hb;refine⟨fw (gW hb h1),?_,(f3 b hb).o⟩;cases q:z7.M b with
    |none=>rfl
    |some m=>have:=(I7.hok.ob b m q).1;rw[h2]at this;cases this
  have again:∀ τ7 z7,Le z6.F z7.F->ab X τ7 z7->fC ok g tb e (xs.drop (i+1)) τ7 z7.M->∃m,m<n/\∃i τ' z',Le z1.F z'.F/\ab X τ' z'/\tn i z'.s.heap/\(∀b∈fp,Fp X z' b)/\fC ok g tb e (xs.drop i) τ' z'.M/\m+i=xs.length/\z'.s=z7.s:=fun τ7 z7 l7 I7 q7=>by
   obtain⟨_,u2,u3,u4,u5⟩:=off l7 I7;exact⟨n-1,by lia,i+1,τ7,_,u3,u2,u4,u5,q7,by lia,rfl⟩
  exact⟨again,λVh τ7 z7 u7 l7 I7 r7 q7=>by
    obtain⟨u1,u2,_⟩:=off l7 I7;exact k.rt Vh τ7 ⟨aS z7.F (aW fp s5.heap),z7.M,z7.s⟩ u7 u1 u2 (r7.up (b0.aS (F:=F5) jC (l6.tr l7))) q7,
   fun τ7 z7 l7 I7 q7=>by
    obtain⟨u1,u2,_⟩:=off l7 I7;exact k.nx τ7 ⟨aS z7.F (aW fp s5.heap),z7.M,z7.s⟩ u1 u2 q7,again⟩
end
end N
end
section
set_option maxHeartbeats 1000000
namespace N
open PySem PySem.Spec PyProof.Rows L2
section
variable{X:Cx}{τ:St}{z:Z}{fp:List Addr}{h':Heap}{a:Addr}{t:Nat}
theorem ab.b3(I:ab X τ z)(hf:∀b∈fp,Fp X z b)(k:∀b,b ∉ fp->bp z.s.heap h' b):ab X τ ⟨z.F,z.M,{ z.s with heap:=h',toks:=t }⟩:=
 I.go Le.rfl (I.hok.keep λb hb=>k b λm=>hb.elim (λh=>h (hf b m).f) λh=>h (hf b m).m) (λb hb=>⟨(k b λm=>(hf b m).o hb).s,I.c9 hb,rfl⟩) rfl I.bare
theorem ab.kK(I:ab X τ z){f:Fo}(hf:Fp X z a)(e:f.At z.s.heap a)(nt:∀p q,f≠.tab p q:=by intro _ _ h;cases h):Le z.F (up z.F a f)/\ab X τ ⟨up z.F a f,z.M,z.s⟩:=
 have l:Le z.F (up z.F a f):=Le.new hf.f
 ⟨l,I.go l (I.hok.kK hf.f hf.m e nt) (λb hb=>⟨bp.s λ_ e=>e,I.c9 hb,aj λq=>hf.o (q ▸ hb)⟩) rfl I.bare⟩
end
def jE(G:Gx)(F0:Fz)(q:Bool)(a:Addr)(xs:List D)(ok:Mp->Prop):Prop:=∀(X:Cx)τ z,X.G=G->ab X τ z->Le F0 z.F->ok z.M->∃us,ae G z.F xs us/\us.length<=sizeLine/\bX q z.s.heap a us.toArray
def gY(d:D)(M:Mp)(k:List D->(Mp->Prop)->Prop):Prop:=match d with
 |.tup ds=>k ds λ_=>True
 |.lst ds=>k ds λ_=>True
 |.ref a=>∃ds,M a=some (.lst ds)/\k ds λM'=>M' a=some (.lst ds)
 |_=>False
theorem ab.gZ{X:Cx}{τ:St}{z:Z}{d:D}{u:Value}{k:List D->(Mp->Prop)->Prop}(I:ab X τ z)(r:aa X.G z.F d u)(h:gY d z.M k):∃q a xs ok,u=.ref a/\jE X.G z.F q a xs ok/\ok z.M/\k xs ok:=by
 unfold gY at h;split at h
 ·rw[aa]at r;obtain⟨a,o,us,e,h1,h2,h3⟩:=r;exact⟨true,a,_,_,e,λX' τ' z' g I' l _=>⟨us,g ▸ h3.up l.d,h2.len,o,I'.hok.fz a _ (l a _ h1),h2.cls,h2.data⟩,trivial,h⟩
 ·rw[aa]at r;obtain⟨a,n,us,e,h1,h2,h3⟩:=r;exact⟨false,a,_,_,e,λX' τ' z' g I' l _=>⟨us,g ▸ h3.up l.d,h2,_,I'.hok.fz a _ (l a _ h1),rfl,n,rfl⟩,trivial,h⟩
 ·rw[aa]at r;obtain⟨ds,h1,h2⟩:=h;refine⟨false,_,ds,_,r,λX' τ' z' g I' l q=>?_,h1,h2⟩;obtain⟨us,n,e1,e2,e3⟩:=I'.eL q;exact⟨us,g ▸ e2,e3,_,e1,rfl,n,rfl⟩
 ·exact h.elim
section
variable{X:Cx}{tg:Expr}{G:Gx}{F0:Fz}{xs:List D}{ok:Mp->Prop}{a:Addr}
theorem eM{G:Gx}{F:Fz}{ds:List D}{us:List Value}{i:Nat}{d:D}(r:ae G F ds us)(h:ds[i]?=some d):∃u,us.toArray[i]?=some u/\aa G F d u:=by
 obtain⟨u,h1,h2⟩:=r.get h;exact⟨u,by simpa using h1,h2⟩
theorem jF{G:Gx}{F:Fz}{ds:List D}{us:List Value}{i:Nat}(r:ae G F ds us)(h:ds.length<=i):us.toArray[i]?=none:=by
 rw[r.len]at h;simpa using h
theorem kU{it b:Addr}(hb:b∈[it]):b=it:=by simpa using hb
theorem EK{q:Bool}{it:Addr}(S:jE G F0 q a xs ok):fB G tg xs ok F0 [it] it (λi h=>cA q h it a i) where
 obj:=λi h st b hb=>by obtain⟨o,e,_⟩:=st;exact⟨o,by rw[kU hb];exact e⟩
 keep:=λi h h' st k=>by obtain⟨o,e,c⟩:=st;exact⟨o,k it (List.mem_singleton.mpr rfl) _ e,c⟩
 item:=by
  intro X hG hc i τ z d E I l hf st hok hd;subst hG;obtain⟨us,r,hz,hq⟩:=S X τ z rfl I l hok;obtain⟨u,hu,ru⟩:=eM r hd;have fin:∀h',cA q h' it a (i+1)->YA it z.s.heap h'->∃u',(some u:Option Value)=some u'/\wpAny (model X.G.P X.G.w) X.A (letOwnedTupleGo tg (.ref it) u') (λ_ s2=>nB X τ z d u' [it] (λi h=>cA q h it a i) (i+1) s2) E { z.s with heap:=h' }:=λh' a2 sb=>by
   obtain⟨o,e,c,SQ⟩:=id a2;refine⟨u,rfl,m9 (s:={ z.s with heap:=h' }) e c SQ (by cases q <;> decide) ⟨Le.rfl,I.b3 (t:=z.s.toks) hf (λb hb o' e'=>(sb.2 b λq=>hb (List.mem_singleton.mpr q)).trans e'),ru,a2,λb hb=>(hf b hb).f⟩⟩
  cases q with
  |true=>exact wpAny_pyNext_tuple_item st hq hu fin
  |false=>exact wpAny_pyNext_list_item st hq hu fin
 done:=by
  intro X hG hc i τ z E I l hf st hok hd;subst hG;obtain⟨us,r,hz,hq⟩:=S X τ z rfl I l hok;have fin:∀h',YX it z.s.heap h'->(none:Option Value)=none/\ab X τ ⟨z.F,z.M,{ z.s with heap:=h' }⟩:=λh' eb=>⟨rfl,I.b3 (t:=z.s.toks) hf λb hb o e=>eb b o (λq=>hb (List.mem_singleton.mpr q)) e⟩;cases q with
  |true=>exact wpAny_pyNext_tuple_end (I.ok.hd hc) st hq (jF r hd) fin
  |false=>exact wpAny_pyNext_list_end (I.ok.hd hc) st hq (jF r hd) fin
 self:=λ_ _ _ _ _ st h=>by
  cases q with
  |true=>exact wpAny_pyIter_tupleiter st h
  |false=>exact wpAny_pyIter_listiter st h
noncomputable def eO(x:Str):List D:=x.cps.toList.map λc=>.str ⟨#[c]⟩
theorem EL{it:Addr}{x:Str}{t:Tok}:fB G tg (eO x) ok F0 [it] it (λi h=>h.IsStrIter it "str_ascii_iterator" x t i) where
 obj:=λi h st b hb=>by obtain⟨o,e,_⟩:=st;exact⟨o,by rw[kU hb];exact e⟩
 keep:=λi h h' st k=>by obtain⟨o,e,c⟩:=st;exact⟨o,k it (List.mem_singleton.mpr rfl) _ e,c⟩
 item:=by
  intro X hG hc i τ z d E I l hf st hok hd;subst hG;unfold eO at hd;rw[W8]at hd;obtain⟨c,hx,rfl⟩:=Option.map_eq_some_iff.mp hd;refine wpAny_pyNext_ascii_item st (by simpa using hx) λh' a2 sb=>?_;obtain⟨o,e,c',SQ⟩:=id a2;exact⟨_,rfl,m9 (s:={ z.s with heap:=h',toks:=z.s.toks+1 }) e c' SQ (by decide) ⟨Le.rfl,I.b3 hf (λb hb o' e'=>(sb.2 b λq=>hb (List.mem_singleton.mpr q)).trans e'),fy,a2,λb hb=>(hf b hb).f⟩⟩
 done:=by
  intro X hG hc i τ z E I l hf st hok hd;subst hG;unfold eO at hd;rw[WQ]at hd;exact wpAny_pyNext_ascii_end (I.ok.hd hc) st (by simpa using hd) λh' eb=>⟨rfl,I.b3 (t:=z.s.toks) hf λb hb o e=>eb b o (λq=>hb (List.mem_singleton.mpr q)) e⟩
 self:=λ_ _ _ _ _ st h=>wpAny_pyIter_striter_ascii st h
noncomputable def dv(lo:Int)(n:Nat):List D:=(Xu n).map λi:Nat=>.int (lo+(i:Int))
theorem EM{it:Addr}{lo:Int}{n:Nat}:fB G tg (dv lo n) ok F0 [it] it (λi h=>IsRangeIter h it (lo+(i:Nat) * 1) ((n:Int)-(i:Nat)) 1) where
 obj:=λi h st b hb=>by rw[kU hb];exact⟨_,st⟩
 keep:=λi h h' st k=>k it (List.mem_singleton.mpr rfl) _ st
 item:=by
  intro X hG hc i τ z d E I l hf st hok hd;subst hG;unfold dv at hd;rw[W8]at hd;obtain⟨j,hj,rfl⟩:=Option.map_eq_some_iff.mp hd;obtain⟨hi,e⟩:=List.getElem?_eq_some_iff.mp hj;rw[X5]at hi;rw[List.getElem_range]at e;subst e;refine (Walks.range (prog:=X.G.P) (w:=X.G.w) (I.ok.hd hc) it lo 1 n).item i z.s _ _ hi st λv h' tk hv a2 kk=>?_;obtain⟨t,rfl⟩:=hv;refine⟨_,rfl,m9 (s:={ z.s with heap:=h',toks:=tk }) (n:="range_iterator") a2 rfl rfl (by decide) ⟨Le.rfl,I.b3 hf λb hb o e=>kk b o hb e,?_,a2,λb hb=>(hf b hb).f⟩⟩;rw[Int.mul_one];exact bM
 done:=by
  intro X hG hc i τ z E I l hf st hok hd;subst hG;unfold dv at hd;rw[WQ,X5]at hd;exact wpAny_pyNext_range_end (I.ok.hd hc) st (by lia) λh' eb=>⟨rfl,I.b3 (t:=z.s.toks) hf λb hb o e=>eb b o (λq=>hb (List.mem_singleton.mpr q)) e⟩
 self:=λ_ _ _ _ _ st h=>wpAny_pyIter_rangeiter st h
variable{e:Expr}{te:DE}
theorem jG{τ:St}{z:Z}{s':Shared}{it:Addr}{tn:Nat->Heap->Prop}(I:ab X τ z)(h:z.s.heap.objs.size<=it)(T:fB X.G tg xs ok z.F [it] it tn)(t:tn 0 s'.heap):qC X tg xs ok ⟨z.F,z.M,s'⟩ it:=.mk T t λb hb=>by rw[kU hb];exact I.gX h
def wY(t:DE):DI:=fun τ M k=>t τ M λd M1=>bI d λn=>-(2 ^ 62)<=n/\n<2 ^ 62/\k (dv 0 n.toNat) (λ_=>True) M1
def wZ(t u:DE):DI:=fun τ M k=>t τ M λd M1=>u τ M1 λe M2=>bI d λi=>bI e λj=>(-(2 ^ 62)<=i/\i<2 ^ 62/\-(2 ^ 62)<=j/\j<2 ^ 62)/\k (dv i (j-i).toNat) (λ_=>True) M2
theorem cn{d:D}{k:Int->Prop}{G:Gx}{F:Fz}{u:Value}(h:bI d k)(r:aa G F d u):∃i t,u=.int i t/\k i:=by
 unfold bI at h;split at h
 ·rw[aa]at r;obtain⟨t,e⟩:=r;exact⟨_,t,e,h⟩
 ·exact h.elim
theorem w2{τ:St}{z:Z}{F:Fz}{R:Value->Shared->Prop}{k:List D->(Mp->Prop)->Mp->Prop}{lo hi:Int}{t u v:Tok}{tk:Nat}(I:ab X τ z)(K:KI X τ tg F k R)(l:Le F z.F)(h:-(2 ^ 62)<=lo/\lo<2 ^ 62/\-(2 ^ 62)<=hi/\hi<2 ^ 62)(q:k (dv lo (hi-lo).toNat) (λ_=>True) z.M):
  W X (pyIter (.ref z.s.heap.objs.size)) R { z.s with heap:=z.s.heap.push { cls:=.type "range",data:=.fields #[.int lo t,.int hi u,.int 1 v] },toks:=tk }:=by
 refine wpAny_pyIter_range (IsRange.new ..) (small_one h.1 h.2.1 h.2.2.1 h.2.2.2) ?_;have I1:ab X τ ⟨z.F,z.M,{ z.s with heap:=z.s.heap.push { cls:=.type "range",data:=.fields #[.int lo t,.int hi u,.int 1 v] },toks:=tk }⟩:=I.kept λb o e=>WR _ e;refine K _ _ ⟨z.F,z.M,_⟩ _ l (I1.kept (t:=tk) λb o e=>WR _ e) (jG I (by rw[Xq];exact YR _) (EM (n:=(hi-lo).toNat) (lo:=lo)) ?_) q;have e1:lo+((0:Nat):Int) * 1=lo:=by simp
 have e2:(((hi-lo).toNat:Nat):Int)-((0:Nat):Int)=Builtin.Range.rangeSize lo hi 1:=by rw[rangeSize_one];split <;> lia
 show IsRangeIter _ _ (lo+((0:Nat):Int) * 1) ((((hi-lo).toNat:Nat):Int)-((0:Nat):Int)) 1;rw[e1,e2];exact WX _ rfl
variable{a b:Expr}{ta tb:DE}{p pos:Pos}
theorem qE(ha:PE X a ta)(hs:starEach [a] X.env=[(false,eval a X.env)])(pos:Pos){τ:St}{z:Z}{Q:QK}{R:List Value->Shared->Prop}(I:ab X τ z)(h:ta τ z.M Q)(k:∀d z' u,Le z.F z'.F->ab X τ z'->aa X.G z'.F d u->Q d z'.M->R [u] z'.s):W X (spliced (backTo pos (starEach [a] X.env))) R z.s:=by
 rw[hs];exact Yn (ha τ z _ _ I h λd z1 u l1 I1 r1 q1=>YU (k d z1 u l1 I1 r1 q1))
theorem w4(ha:PE X a ta)(hb:PE X b tb)(hs:starEach [a,b] X.env=[(false,eval a X.env),(false,eval b X.env)])(pos:Pos){τ:St}{z:Z}{Q:D->D->Mp->Prop}{R:List Value->Shared->Prop}(I:ab X τ z)(h:ta τ z.M λx M=>tb τ M λy M=>Q x y M)(k:∀d e z' u v,Le z.F z'.F->ab X τ z'->aa X.G z'.F d u->aa X.G z'.F e v->Q d e z'.M->R [u,v] z'.s):W X (spliced (backTo pos (starEach [a,b] X.env))) R z.s:=by
 rw[hs];exact Yn (ha τ z _ _ I h λd z1 u l1 I1 r1 q1=>Yn (hb τ z1 _ _ I1 q1 λe z2 v l2 I2 r2 q2=>YU (k d e z2 u v (l1.tr l2) I2 (r1.up l2.d) r2 q2)))
theorem eh{G:Gx}{F:Fz}{d:D}{us:List Value}(h:ae G F [d] us):∃u,us=[u]/\aa G F d u:=by
 rw[ae]at h;obtain⟨u,r,rfl,h1,h2⟩:=h;rw[ae]at h2;subst h2;exact⟨u,rfl,h1⟩
theorem g6{G:Gx}{F:Fz}{d e:D}{us:List Value}(h:ae G F [d,e] us):∃u v,us=[u,v]/\aa G F d u/\aa G F e v:=by
 rw[ae]at h;obtain⟨u,r,rfl,h1,h2⟩:=h;obtain⟨v,rfl,h3⟩:=eh h2;exact⟨u,v,rfl,h1,h3⟩
theorem EN(hg:Gl X "range")(hm:X.G.mg "range"=none)(ha:PE X a ta)(hs:starEach [a] X.env=[(false,eval a X.env)]):PI X tg (.Call (.Name "range" p) [a] [] pos) (wY ta):=fun τ z k R I h K=>
 Call_ (dO I hg hm boot_range (by decide) (by decide) (XF (qE ha hs pos I h λd z1 u l1 I1 r1 q1=>by
  obtain⟨i,t,rfl,h1,h2,q⟩:=cn q1 r1;exact call_range_1 (w2 I1 K l1 ⟨by decide,by decide,h1,h2⟩ (by simpa using q))) hs rfl))
theorem EO(hg:Gl X "range")(hm:X.G.mg "range"=none)(ha:PE X a ta)(hb:PE X b tb)(hs:starEach [a,b] X.env=[(false,eval a X.env),(false,eval b X.env)])(hs2:starEach [b] X.env=[(false,eval b X.env)]):PI X tg (.Call (.Name "range" p) [a,b] [] pos) (wZ ta tb):=fun τ z k R I h K=>
 Call_ (dO I hg hm boot_range (by decide) (by decide) (XF (w4 ha hb hs pos I h λd e z1 u v l1 I1 r1 r2 q1=>by
  obtain⟨i,t,rfl,q1⟩:=cn q1 r1;obtain⟨j,t',rfl,h1,q⟩:=cn q1 r2;exact call_range_2 (w2 I1 K l1 h1 q)) (by rw[hs,hs2]) (by rw[hs2];rfl)))
theorem qF{τ:St}{z:Z}{s':Shared}{x y:D}{u v:Value}{T:Addr}{o:Obj}{fp:List Addr}{tn:Nat->Heap->Prop}{i:Nat}(I:ab X τ ⟨z.F,z.M,s'⟩)(hT:Fp X ⟨z.F,z.M,s'⟩ T)(ho:s'.heap.get? T=some o)(to:kH o [u,v])(r1:aa X.G z.F x u)(r2:aa X.G z.F y v)(t:tn i s'.heap)(n:∀ b∈fp,z.F b=none/\b≠T):
  nB X τ z (.tup [x,y]) (.ref T) fp tn i s':=
 have h:=I.kK (f:=.dat o) hT ho
 ⟨h.1,h.2,nz ak to (.cons (r1.up h.1.d) (.cons (r2.up h.1.d) .nil)),t,λb hb=>(aj (n b hb).2).trans (n b hb).1⟩
end
section
variable{prog:Program}{w:World}{A:Around}{E:Value->Shared->Prop}{s:Shared}
structure kW(p q:Bool)(h:Heap)(z TI TO i1 i2 t1 t2:Addr)(k:Nat)(f:Value):Prop where
 z:IsZip h z TI TO f
 ti:IsPair h TI (.ref i1) (.ref i2)
 to:∃a b,IsPair h TO a b
 j1:cA p h i1 t1 k
 UE:cA q h i2 t2 k
structure qG(z TI TO i1 i2 t1 t2:Addr):Prop where
 SF:TI≠z
 SE:TO≠z
 SH:i1≠z
 SI:i2≠z
 S8:TI≠TO
 TB:TI≠i1
 T9:TI≠i2
 TC:TO≠i1
 TH:TO≠i2
 b1:i1≠i2
 c1:t1≠z/\t1≠TO/\t1≠i1/\t1≠i2
 c2:t2≠z/\t2≠TO/\t2≠i1/\t2≠i2
theorem EP{p q:Bool}{z TI TO i1 i2 t1 t2:Addr}{k:Nat}{xs ys:Array Value}{x y:Value}{Q:Option Value->Shared->Prop}(D:qG z TI TO i1 i2 t1 t2)(Z:kW p q s.heap z TI TO i1 i2 t1 t2 k .none)
  (jp:bX p s.heap t1 xs) (qH:bX q s.heap t2 ys) (hx:xs[k]?=some x) (hy:ys[k]?=some y)
  (hQ:∀h',kW p q h' z TI TO i1 i2 t1 t2 (k+1) (rawInt s.heap.objs.size)->IsPair h' s.heap.objs.size x y->h'.objs.size=s.heap.objs.size+1 ->
   (∀c o,c≠z->c≠TO->c≠i1->c≠i2->s.heap.get? c=some o->h'.get? c=some o)->Q (some (.ref s.heap.objs.size)) { s with heap:=h' }) :
  wpAny (model prog w) A (pyNext (.ref z)) Q E s:=by
 have hT:s.TypeIs (.ref z) "zip":=⟨_,Z.z,rfl⟩;obtain⟨u0,v0,qI⟩:=Z.to;unfold pyNext;refine WO (YT (Xm (name:=Yp "__next__") hT F.slot_zip_next (Xp F.slot_zip_next hT F.entry_zip_next ?_ (F.args_zip_next_1 _))));show wpAny _ _ (field (.ref z) 2 >>= _) _ _ _;refine WO (XH Z.z rfl (x:=.bool false) rfl ?_);show wpAny _ _ (field (.ref z) 3 >>= _) _ _ _;refine WO (XH Z.z rfl (x:=.ref TI) rfl ?_);refine WO (YF Z.ti rfl ?_);show wpAny _ _ (Yt (.ref z) >>= _) _ _ _;refine WO ?_;unfold Yt;refine WO (XH Z.z rfl (x:=.none) rfl (WS ?_));simp only[if_true];refine WO (wpAny_rule (WO (XH Z.z rfl (x:=.ref TO) rfl ?_)));refine WO (Y9 Z.z (by simp) λg1 z1 s1=>?_);have z1:IsZip g1 z TI TO .ellipsis:=z1;refine WO ?_;simp only[List.zipIdx_cons,List.zipIdx_nil,List.forIn_cons,List.forIn_nil];refine WO (WO (wpAny_onRaise ?_));show wpAny _ _ (XA (.ref i1) >>= _) _ _ _;refine WO (ql (Z.j1.extBut s1.extBut D.SH) (jp.extBut s1.extBut D.c1.1) hx λg2 wv s2=>WS ?_);have o2:IsPair g2 TO u0 v0:=s2.extBut _ _ D.TC (s1.extBut _ _ D.SE qI);refine WO (YF o2 rfl ?_);refine WO (wpAny_updateSeq_pair o2 λg3 o3 s3=>?_);have o3:IsPair g3 TO x v0:=o3;refine WO (wpAny_letGo (WS ?_));refine WO (WO (wpAny_onRaise ?_));show wpAny _ _ (XA (.ref i2) >>= _) _ _ _;refine WO (ql (((Z.UE.extBut s1.extBut D.SI).extBut s2.extBut D.b1.symm).extBut s3.extBut D.TH.symm) (((qH.extBut s1.extBut D.c2.1).extBut s2.extBut D.c2.2.2.1).extBut s3.extBut D.c2.2.1) hy λg4 EQ s4=>WS ?_);have o4:IsPair g4 TO x v0:=s4.extBut _ _ D.TH o3;refine WO (YF o4 rfl ?_);refine WO (wpAny_updateSeq_pair o4 λg5 o5 s5=>?_);have o5:IsPair g5 TO x y:=o5;refine WO (wpAny_letGo (WS (WS ?_)));refine WO (YF o5 rfl ?_);refine WO (wpAny_newTuple ?_);have sz:g5.objs.size=s.heap.objs.size:=by rw[s5.1,s4.1,s3.1,s2.1,s1.1]
 have z5:IsZip g5 z TI TO .ellipsis:=s5.extBut _ _ D.SE.symm (s4.extBut _ _ D.SI.symm (s3.extBut _ _ D.SE.symm (s2.extBut _ _ D.SH.symm z1)));have TJ:∀c o,c≠z->c≠TO->c≠i1->c≠i2->s.heap.get? c=some o->g5.get? c=some o:=λc o e1 e2 e3 e4 q=>s5.extBut _ _ e2 (s4.extBut _ _ e4 (s3.extBut _ _ e2 (s2.extBut _ _ e3 (s1.extBut _ _ e1 q))));have ER:cA p g5 i1 t1 (k+1):=((wv.extBut s3.extBut D.TC.symm).extBut s4.extBut D.b1).extBut s5.extBut D.TC.symm;have ES:cA q g5 i2 t2 (k+1):=EQ.extBut s5.extBut D.TH.symm;have ww:z<g5.objs.size:=W4 z5;show wpAny _ _ (Builtin.SmallTypes.ownedTupleHandOut (.ref z) (.ref g5.objs.size) >>= _) _ _ _;refine WO ?_;unfold Builtin.SmallTypes.ownedTupleHandOut;have z6:IsZip (g5.push { cls:=.type "tuple",data:=.seq #[x,y] }) z TI TO .ellipsis:=WR _ z5;refine WO (Y9 z6 (by simp) λVi z7 s7=>?_);have z7:IsZip Vi z TI TO (rawInt g5.objs.size):=z7;refine Y9 z7 (by simp) λTs z8 s8=>?_;have z8:IsZip Ts z TI TO (rawInt g5.objs.size):=z8;have up:∀c o,c≠z->g5.get? c=some o->Ts.get? c=some o:=λc o e q=>s8.extBut _ _ e (s7.extBut _ _ e (WR _ q));have T8:IsPair Ts g5.objs.size x y:=s8.extBut _ _ (XR ww) (s7.extBut _ _ (XR ww) (WX _ rfl));have UG:Ts.objs.size=g5.objs.size+1:=by rw[s8.1,s7.1,Xq]
 rw[sz]at z8 T8 UG;refine WS ⟨_,rfl,WS ?_⟩;show Q (some (.ref g5.objs.size)) _;rw[sz];refine hQ Ts ⟨z8,up _ _ D.SF (TJ _ _ D.SF D.S8 D.TB D.T9 Z.ti),⟨_,_,up _ _ D.SE o5⟩,?_,?_⟩ T8 UG λc o e1 e2 e3 e4 q=>up c o e1 (TJ c o e1 e2 e3 e4 q)
 ·obtain⟨ob,q1,q2⟩:=ER;exact⟨ob,up _ _ D.SH q1,q2⟩
 ·obtain⟨ob,q1,q2⟩:=ES;exact⟨ob,up _ _ D.SI q1,q2⟩
theorem ET{p q:Bool}{z TI TO i1 i2 t1 t2:Addr}{k:Nat}{xs ys:Array Value}{Q:Option Value->Shared->Prop}(hh:A.handled=none)(D:qG z TI TO i1 i2 t1 t2)(Z:kW p q s.heap z TI TO i1 i2 t1 t2 k .none)
  (jp:bX p s.heap t1 xs) (qH:bX q s.heap t2 ys) (EU:xs[k]?=none\/ys[k]?=none)
  (hQ:∀h',(∀c o,c≠z->c≠TO->c≠i1->c≠i2->s.heap.get? c=some o->h'.get? c=some o)->Q none { s with heap:=h' }) :
  wpAny (model prog w) A (pyNext (.ref z)) Q E s:=by
 have hT:s.TypeIs (.ref z) "zip":=⟨_,Z.z,rfl⟩;obtain⟨u0,v0,qI⟩:=Z.to;unfold pyNext;refine WO (YT (Xm (name:=Yp "__next__") hT F.slot_zip_next (Xp F.slot_zip_next hT F.entry_zip_next ?_ (F.args_zip_next_1 _))));show wpAny _ _ (field (.ref z) 2 >>= _) _ _ _;refine WO (XH Z.z rfl (x:=.bool false) rfl ?_);show wpAny _ _ (field (.ref z) 3 >>= _) _ _ _;refine WO (XH Z.z rfl (x:=.ref TI) rfl ?_);refine WO (YF Z.ti rfl ?_);show wpAny _ _ (Yt (.ref z) >>= _) _ _ _;refine WO ?_;unfold Yt;refine WO (XH Z.z rfl (x:=.none) rfl (WS ?_));simp only[if_true];refine WO (wpAny_rule (WO (XH Z.z rfl (x:=.ref TO) rfl ?_)));refine WO (Y9 Z.z (by simp) λg1 z1 s1=>?_);have z1:IsZip g1 z TI TO .ellipsis:=z1;refine WO ?_;simp only[List.zipIdx_cons,List.zipIdx_nil,List.forIn_cons,List.forIn_nil];refine WO (WO (wpAny_onRaise ?_));show wpAny _ _ (XA (.ref i1) >>= _) _ _ _;cases hx:xs[k]? with
 |none=>
  refine WO (vT hh (Z.j1.extBut s1.extBut D.SH) (jp.extBut s1.extBut D.c1.1) hx λg2 e s2 he=>?_);obtain⟨Ua,q1,q2⟩:=he;have z2:IsZip g2 z TI TO .ellipsis:=s2 _ _ D.SH.symm z1;have ne:e≠z:=λx=>by subst x;rw[z2]at q1;cases q1;simp at q2
  exact Y9 z2 (by simp) λg3 _ s3=>WO (YS (T:="StopIteration") (b:=true) ⟨Ua,s3.extBut _ _ ne q1,q2⟩ isSubtype_stop (WS (hQ _ λc o c1 _ c3 _ x=>s3.extBut _ _ c1 (s2 _ _ c3 (s1.extBut _ _ c1 x)))))
 |some x=>
  have hy:ys[k]?=none:=by
   rcases EU with q |q
   ·rw[hx]at q;cases q
   ·exact q
  refine WO (ql (Z.j1.extBut s1.extBut D.SH) (jp.extBut s1.extBut D.c1.1) hx λg2 wv s2=>WS ?_);have o2:IsPair g2 TO u0 v0:=s2.extBut _ _ D.TC (s1.extBut _ _ D.SE qI);refine WO (YF o2 rfl ?_);refine WO (wpAny_updateSeq_pair o2 λg3 o3 s3=>?_);refine WO (wpAny_letGo (WS ?_));refine WO (WO (wpAny_onRaise ?_));show wpAny _ _ (XA (.ref i2) >>= _) _ _ _;refine WO (vT hh (((Z.UE.extBut s1.extBut D.SI).extBut s2.extBut D.b1.symm).extBut s3.extBut D.TH.symm) (((qH.extBut s1.extBut D.c2.1).extBut s2.extBut D.c2.2.2.1).extBut s3.extBut D.c2.2.1) hy λg4 e s4 he=>?_);obtain⟨Ua,q1,q2⟩:=he;have z4:IsZip g4 z TI TO .ellipsis:=s4 _ _ D.SI.symm (s3.extBut _ _ D.SE.symm (s2.extBut _ _ D.SH.symm z1));have ne:e≠z:=λx=>by subst x;rw[z4]at q1;cases q1;simp at q2
  exact Y9 z4 (by simp) λg5 _ s5=>WO (YS (T:="StopIteration") (b:=true) ⟨Ua,s5.extBut _ _ ne q1,q2⟩ isSubtype_stop (WS (hQ _ λc o c1 c2 c3 c4 x=>s5.extBut _ _ c1 (s4 _ _ c4 (s3.extBut _ _ c2 (s2.extBut _ _ c3 (s1.extBut _ _ c1 x)))))))
noncomputable abbrev nD(p:Bool)(h:Heap)(a:Addr):Heap:=h.push { cls:=.type (jw p),data:=.fields #[.ref a,.int 0 0] }
noncomputable abbrev nE(p q:Bool)(h:Heap)(a b:Addr):Heap:=(nD p h a).push { cls:=.type (jw q),data:=.fields #[.ref b,.int 0 0] }
noncomputable abbrev nF(p q:Bool)(h:Heap)(a b:Addr):Heap:=(nE p q h a b).push { cls:=.type "tuple",data:=.seq #[.ref h.objs.size,.ref (nD p h a).objs.size] }
noncomputable abbrev nG(p q:Bool)(h:Heap)(a b:Addr):Heap:=(nF p q h a b).push { cls:=.type "tuple",data:=.seq #[.none,.none] }
noncomputable abbrev iM(p q:Bool)(h:Heap)(a b:Addr):Heap:=(nG p q h a b).push { cls:=.type "zip",data:=.fields #[.none,.bool false,.bool false,.ref (nE p q h a b).objs.size,.ref (nF p q h a b).objs.size] }
end
theorem w5{prog:Program}{w:World}{A:Around}{E:Value->Shared->Prop}{s:Shared}{q:Bool}{a:Addr}{xs:Array Value}{Q:Value->Shared->Prop}(h:bX q s.heap a xs)(k:Q (.ref s.heap.objs.size) { s with heap:=s.heap.push { cls:=.type (jw q),data:=.fields #[.ref a,.int 0 0] } }):wpAny (model prog w) A (pyIter (.ref a)) Q E s:=by
 cases q with
 |true=>exact Y' h k
 |false=>exact YY h k
theorem EV(p q:Bool)(a b:Addr)(xs ys:Array Value):
  Meets (Builtin.«zip.__new__» ⟨[.type "zip",.ref a,.ref b],[]⟩) (λ_ R s=>bX p s.heap a xs/\bX q s.heap b ys/\R (.ok (.ret (.ref (nG p q s.heap a b).objs.size))) { s with heap:=iM p q s.heap a b }):=
 .of_wp λprog w A R s h=>by
  obtain⟨hp,g,d,tk,os⟩:=s;obtain⟨q1,q2,h⟩:=h;have sub:=sub_zip;have e1:bX p (Shared.heap ⟨hp,g,d,tk,os⟩) a xs:=q1;have e2:bX q (Shared.heap ⟨hp.push { cls:=.type (jw p),data:=.fields #[.ref a,.int 0 0] },g,d,tk,os⟩) b ys:=by
   cases q
   ·exact Heap.IsList.push q2 _
   ·exact Heap.IsTuple.push q2 _
  wp_walk using w5 e1,w5 e2
  exact⟨_,rfl,h⟩
section
variable{prog:Program}{w:World}{A:Around}{E:Value->Shared->Prop}{s:Shared}
theorem EW{p q:Bool}{a b:Addr}{xs ys:Array Value}{Q:Value->Shared->Prop}(h1:bX p s.heap a xs)(h2:bX q s.heap b ys)
  (h:∀h',kW p q h' (s.heap.objs.size+4) (s.heap.objs.size+2) (s.heap.objs.size+3) s.heap.objs.size (s.heap.objs.size+1) a b 0 .none->h'.objs.size=s.heap.objs.size+5 ->
   (∀c o,s.heap.get? c=some o->h'.get? c=some o)->Q (.ref (s.heap.objs.size+4)) { s with heap:=h' }):wpAny (model prog w) A (call (.type "zip") [.ref a,.ref b]) Q E s:=by
 refine callType_new F.called_zip (by decide) (F.typeCall_zip_2 _ _) (F.newCall_zip_2 _ _) (λobj=>F.args_object_init_3 obj _ _) F.entry_zip_new (EV p q a b xs ys) ⟨h1,h2,?_⟩;have n1:(nD p s.heap a).objs.size=s.heap.objs.size+1:=Xq ..;have n2:(nE p q s.heap a b).objs.size=s.heap.objs.size+2:=by rw[Xq,n1]
 have n3:(nF p q s.heap a b).objs.size=s.heap.objs.size+3:=by rw[Xq,n2]
 have Ub:(nG p q s.heap a b).objs.size=s.heap.objs.size+4:=by rw[Xq,n3]
 have n5:(iM p q s.heap a b).objs.size=s.heap.objs.size+5:=by rw[Xq,Ub]
 have p5:(iM p q s.heap a b).get? (nG p q s.heap a b).objs.size=some _:=WX _ rfl;have p4:(iM p q s.heap a b).get? (nF p q s.heap a b).objs.size=some _:=WR _ (WX _ rfl);have p3:(iM p q s.heap a b).get? (nE p q s.heap a b).objs.size=some _:=WR _ (WR _ (WX _ rfl));have p2:(iM p q s.heap a b).get? (nD p s.heap a).objs.size=some _:=WR _ (WR _ (WR _ (WX _ rfl)));have p1:(iM p q s.heap a b).get? s.heap.objs.size=some _:=WR _ (WR _ (WR _ (WR _ (WX _ rfl))));show _/\_;rw[n2,n3,Ub]at p5;rw[n1,n2]at p3;rw[n3]at p4;rw[n1]at p2;rw[Ub];exact⟨⟨_,p5,rfl⟩,h _ ⟨p5,p3,⟨_,_,p4⟩,⟨_,p1,rfl,rfl⟩,⟨_,p2,rfl,rfl⟩⟩ n5 λc o x=>
  WR _ (WR _ (WR _ (WR _ (WR _ x))))⟩
end
end N
end
section
set_option maxHeartbeats 1000000
namespace N
open PySem PySem.Spec PyProof.Rows L2
section
variable{X:Cx}{G:Gx}{F0:Fz}{xs ys:List D}{ok kt:Mp->Prop}{a b:Addr}{p q:Bool}{g7:List Expr}{kk:Nat}{tp:Pos}
theorem EX{z TI TO i1 i2:Addr}(D':qG z TI TO i1 i2 a b)(S:jE G F0 p a xs ok)(S':jE G F0 q b ys kt):
  fB G (.Tuple g7 kk tp) (Xy (λx y=>.tup [x,y]) xs ys) (λM=>ok M/\kt M) F0 [z,TI,TO,i1,i2] z (λi h=>kW p q h z TI TO i1 i2 a b i .none) where
 obj:=λi h st c hc=>by
  obtain⟨q1,q2,⟨u,v,q3⟩,⟨o4,q4,_⟩,⟨o5,q5,_⟩⟩:=st;simp only[Xk,Xd,or_false]at hc;rcases hc with rfl |rfl |rfl |rfl |rfl
  ·exact⟨_,q1⟩
  ·exact⟨_,q2⟩
  ·exact⟨_,q3⟩
  ·exact⟨_,q4⟩
  ·exact⟨_,q5⟩
 keep:=λi h h' st k=>by
  obtain⟨q1,q2,⟨u,v,q3⟩,⟨o4,q4,r4⟩,⟨o5,q5,r5⟩⟩:=st;exact⟨k z (by simp) _ q1,k TI (by simp) _ q2,⟨u,v,k TO (by simp) _ q3⟩,⟨o4,k i1 (by simp) _ q4,r4⟩,⟨o5,k i2 (by simp) _ q5,r5⟩⟩
 item:=by
  intro X hG hc i τ z' d E I l hf st hok hd;subst hG;rw[List.getElem?_zipWith]at hd;obtain⟨us,r1,_,h1⟩:=S X τ z' rfl I l hok.1;obtain⟨vs,r2,_,h2⟩:=S' X τ z' rfl I l hok.2;cases hx:xs[i]? with
  |none=>rw[hx]at hd;cases hd
  |some x=>cases hy:ys[i]? with
   |none=>rw[hx,hy]at hd;cases hd
   |some y=>
    rw[hx,hy]at hd;cases hd;obtain⟨u,hu,ru⟩:=eM r1 hx;obtain⟨v,hv,rv⟩:=eM r2 hy;refine EP D' st h1 h2 hu hv λh' Z' T' n' keep=>⟨_,rfl,wpAny_letOwnedTupleGo_zip Z'.z λeP kZ sb=>?_⟩;have EY:z<z'.s.heap.objs.size:=W4 st.z;have I':ab X τ ⟨z'.F,z'.M,{ z'.s with heap:=eP,toks:=z'.s.toks }⟩:=I.b3 hf λc hc o e=>by
     simp only[Xk,Xd,or_false,not_or]at hc;exact sb.extBut _ _ hc.1 (keep c o hc.1 hc.2.2.1 hc.2.2.2.1 hc.2.2.2.2 e)
    refine qF I' (I.gX (WU _)) (sb.extBut _ _ (XR EY) T') ⟨rfl,rfl,⟨0,rfl⟩,by show 2<=sizeLine;decide⟩ ru rv ?_ λc hc=>⟨(hf c hc).f,?_⟩
    ·obtain⟨_,q2,⟨e1,e2,q3⟩,⟨o4,q4,r4⟩,⟨o5,q5,r5⟩⟩:=Z';exact⟨kZ,sb.extBut _ _ D'.SF q2,⟨e1,e2,sb.extBut _ _ D'.SE q3⟩,⟨o4,sb.extBut _ _ D'.SH q4,r4⟩,⟨o5,sb.extBut _ _ D'.SI q5,r5⟩⟩
    ·obtain⟨q1,q2,⟨e1,e2,q3⟩,⟨o4,q4,r4⟩,⟨o5,q5,r5⟩⟩:=st;simp only[Xk,Xd,or_false]at hc;rcases hc with rfl |rfl |rfl |rfl |rfl
     ·exact W7 (W4 q1)
     ·exact W7 (W4 q2)
     ·exact W7 (W4 q3)
     ·exact W7 (W4 q4)
     ·exact W7 (W4 q5)
 done:=by
  intro X hG hc i τ z' E I l hf st hok hd;subst hG;obtain⟨us,r1,_,h1⟩:=S X τ z' rfl I l hok.1;obtain⟨vs,r2,_,h2⟩:=S' X τ z' rfl I l hok.2;rw[List.length_zipWith]at hd;refine ET (I.ok.hd hc) D' st h1 h2 (by
   by_cases h:xs.length<=i
   ·exact .inl (jF r1 h)
   ·exact .inr (jF r2 (by lia))) λh' keep=>⟨rfl,I.b3 (t:=z'.s.toks) hf λc hc o e=>?_⟩
  simp only[Xk,Xd,or_false,not_or]at hc;exact keep c o hc.1 hc.2.2.1 hc.2.2.2.1 hc.2.2.2.2 e
 self:=λ_ _ _ _ _ st h=>wpAny_pyIter_zip st.z h
variable{ea eb:Expr}{ta tb:DE}{pn pos:Pos}{tg:Expr}
def w6(t u:DE):DI:=fun τ M k=>t τ M λd M1=>u τ M1 λe M2=>gY d M2 λxs ok=>gY e M2 λys kt=>k (Xy (λx y=>.tup [x,y]) xs ys) (λM=>ok M/\kt M) M2
theorem EZ(hg:Gl X "zip")(hm:X.G.mg "zip"=none)(ha:PE X ea ta)(hb:PE X eb tb)(hs:starEach [ea,eb] X.env=[(false,eval ea X.env),(false,eval eb X.env)])(hs2:starEach [eb] X.env=[(false,eval eb X.env)]):PI X (.Tuple g7 kk tp) (.Call (.Name "zip" pn) [ea,eb] [] pos) (w6 ta tb):=fun τ z k R I h K=>
 Call_ (dO I hg hm boot_zip (by decide) (by decide) (XF (w4 ha hb hs pos I h λd e z1 u v l1 I1 r1 r2 q1=>by
  obtain⟨p,x,xs,ok,rfl,S,hok,q1⟩:=I1.gZ r1 q1;obtain⟨q,y,ys,kt,rfl,S',E0,q1⟩:=I1.gZ r2 q1;obtain⟨us,_,_,h1⟩:=S X τ z1 rfl I1 Le.rfl hok;obtain⟨vs,_,_,h2⟩:=S' X τ z1 rfl I1 Le.rfl E0;have f:∀c:Addr,c<z1.s.heap.objs.size->∀k:Nat,c≠z1.s.heap.objs.size+k:=λc hc k=>W7 (Xj hc (YN _ _));have n:∀{i j:Nat},i≠j->z1.s.heap.objs.size+i≠z1.s.heap.objs.size+j:=λh e=>h (Nat.add_left_cancel e);refine EW h1 h2 λh' Z n5 keep=>wpAny_pyIter_zip Z.z (K _ _ ⟨z1.F,z1.M,_⟩ _ l1 (I1.kept (t:=z1.s.toks) λb o e=>keep b o e) (.mk (EX ⟨n (by decide),n (by decide),n (i:=0) (by decide),n (by decide),n (by decide),n (j:=0) (by decide),n (by decide),n (j:=0) (by decide),n (by decide),n (i:=0) (by decide),⟨f _ h1.lt 4,f _ h1.lt 3,W7 h1.lt,f _ h1.lt 1⟩,⟨f _ h2.lt 4,f _ h2.lt 3,W7 h2.lt,f _ h2.lt 1⟩⟩ S S') Z λc hc=>I1.gX ?_) q1);simp only[Xk,Xd,or_false]at hc;rcases hc with rfl |rfl |rfl |rfl |rfl
  ·exact YN _ _
  ·exact YN _ _
  ·exact YN _ _
  ·exact WU _
  ·exact YN _ _) (by rw[hs,hs2]) (by rw[hs2];rfl)))
noncomputable def bN(ds:List D):List D:=ds.mapIdx λi d=>.tup [.int i,d]
theorem E1{h:Heap}{it:Addr}{i:Nat}{us:Array Value}(x:cA q h it a i)(y:bX q h a us):a≠it:=λz=>by
 obtain⟨o1,g1,g2,_⟩:=x;cases q with
 |true=>obtain⟨o2,g3,g4,_⟩:=y;rw[z,g1]at g3;cases g3;rw[g2]at g4;injection g4 with g5;exact absurd g5 (by decide)
 |false=>obtain⟨o2,g3,g4,_⟩:=y;rw[z,g1]at g3;cases g3;rw[g2]at g4;injection g4 with g5;exact absurd g5 (by decide)
theorem E2{prog:Program}{w:World}{A:Around}(hh:A.handled=none){it:Addr}(bn:a≠it)(us:Array Value):Draws prog w A it [it,a] us.size (λi v=>us[i]?=some v) (λi h=>cA q h it a i/\bX q h a us):=by
 cases q with
 |true=>exact Draws.tuple hh it a bn us
 |false=>exact Draws.list hh it a bn us
theorem E3{e it:Addr}(ne:e≠it)(S:jE G F0 q a xs ok):fB G (.Tuple g7 kk tp) (bN xs) ok F0 [e,it] e (λi h=>(∃old,IsEnum h e it i old)/\cA q h it a i) where
 obj:=λi h st c hc=>by
  obtain⟨⟨old,q1⟩,⟨o4,q4,_⟩⟩:=st;simp only[Xk,Xd,or_false]at hc;rcases hc with rfl |rfl
  ·exact⟨_,q1⟩
  ·exact⟨_,q4⟩
 keep:=λi h h' st k=>by
  obtain⟨⟨old,q1⟩,⟨o4,q4,r4⟩⟩:=st;exact⟨⟨old,k e (by simp) _ q1⟩,⟨o4,k it (by simp) _ q4,r4⟩⟩
 item:=by
  intro X hG hc i τ z d E I l hf st hok hd;subst hG;unfold bN at hd;rw[List.getElem?_mapIdx]at hd;obtain⟨x,hx,rfl⟩:=Option.map_eq_some_iff.mp hd;obtain⟨us,r1,_,h1⟩:=S X τ z rfl I l hok;obtain⟨u,hu,ru⟩:=eM r1 hx;obtain⟨⟨old,q1⟩,hit⟩:=id st;have wE:e<z.s.heap.objs.size:=W4 q1;have E4:it<z.s.heap.objs.size:=by obtain⟨o,q,_⟩:=hit;exact W4 q
  have E5:e≠a:=λy=>by
   cases q with
   |true=>obtain⟨o2,g3,g4,_⟩:=h1;rw[<- y,q1]at g3;cases g3;have qJ:Yy "enumerate"=Yy "tuple":=g4;injection qJ with g5;exact absurd g5 (by decide)
   |false=>obtain⟨o2,g3,g4,_⟩:=h1;rw[<- y,q1]at g3;cases g3;have qJ:Yy "enumerate"=Yy "list":=g4;injection qJ with g5;exact absurd g5 (by decide)
  refine wpAny_pyNext_enum_itemD (E2 (q:=q) (A:=X.A.in1) (I.ok.hd hc) (E1 hit h1) us.toArray) q1 ⟨hit,h1⟩ (Array.getElem?_eq_some_iff.mp hu).1 ne (by simp only[Xk,Xd,or_false,not_or];exact⟨ne,E5⟩) λu' h' cR hP Z' E6 T' n' keep=>⟨_,rfl,wpAny_letOwnedTupleGo_enum Z' λeP kZ sb=>?_⟩;obtain rfl:u=u':=by rw[hu]at hP;injection hP
  have I':ab X τ ⟨z.F,z.M,{ z.s with heap:=eP,toks:=cR+1 }⟩:=I.b3 hf λc hc o e=>by
   simp only[Xk,Xd,or_false,not_or]at hc;exact sb.extBut _ _ hc.1 (keep c o hc.1 hc.2 e)
  refine qF I' (I.gX (WU _)) (sb.extBut _ _ (XR wE) T') ⟨rfl,rfl,⟨0,rfl⟩,by show 2<=sizeLine;decide⟩ bM ru ⟨⟨u,?_⟩,E6.1.extBut sb.extBut ne.symm⟩ λc hc=>⟨(hf c hc).f,?_⟩
  ·rw[Int.natCast_add];exact kZ
  ·simp only[Xk,Xd,or_false]at hc;rcases hc with rfl |rfl
   ·exact W7 wE
   ·exact W7 E4
 done:=by
  intro X hG hc i τ z E I l hf st hok hd;subst hG;unfold bN at hd;rw[List.length_mapIdx]at hd;obtain⟨us,r1,_,h1⟩:=S X τ z rfl I l hok;obtain⟨⟨old,q1⟩,hit⟩:=st;have fin:∀h',YX it z.s.heap h'->(none:Option Value)=none/\ab X τ ⟨z.F,z.M,{ z.s with heap:=h' }⟩:=λh' eb=>⟨rfl,I.b3 (t:=z.s.toks) hf λb hb o e=>eb b o (λq=>hb (by simp [q])) e⟩;cases q with
  |true=>exact vV (I.ok.hd hc) q1 hit h1 (jF r1 hd) fin
  |false=>exact wpAny_pyNext_enum_end (I.ok.hd hc) q1 hit h1 (jF r1 hd) fin
 self:=λ_ _ _ _ _ st h=>by obtain⟨⟨old,q1⟩,_⟩:=st;exact wpAny_pyIter_enum q1 h
def w7(t:DE):DI:=fun τ M k=>t τ M λd M1=>gY d M1 λxs ok=>k (bN xs) ok M1
theorem E7(hg:Gl X "enumerate")(hm:X.G.mg "enumerate"=none)(ha:PE X ea ta)(hs:starEach [ea] X.env=[(false,eval ea X.env)]):PI X (.Tuple g7 kk tp) (.Call (.Name "enumerate" pn) [ea] [] pos) (w7 ta):=fun τ z k R I h K=>
 Call_ (dO I hg hm boot_enumerate (by decide) (by decide) (XF (qE ha hs pos I h λd z1 u l1 I1 r1 q1=>by
  obtain⟨q,x,xs,ok,rfl,S,hok,q1⟩:=I1.gZ r1 q1;obtain⟨us,_,_,h1⟩:=S X τ z1 rfl I1 Le.rfl hok;have fin:∀h',IsEnum h' (z1.s.heap.objs.size+1) z1.s.heap.objs.size 0 .none->cA q h' z1.s.heap.objs.size x 0->(∀b o,z1.s.heap.get? b=some o->h'.get? b=some o)->W X (pyIter (.ref (z1.s.heap.objs.size+1))) R { z1.s with heap:=h' }:=λh' Z J keep=>
   wpAny_pyIter_enum Z (K _ _ ⟨z1.F,z1.M,_⟩ _ l1 (I1.kept (t:=z1.s.toks) λb o e=>keep b o e) (.mk (E3 (XR (Yq _)) S) ⟨⟨_,Z⟩,J⟩ λc hc=>I1.gX (by
    simp only[Xk,Xd,or_false]at hc;rcases hc with rfl |rfl
    ·exact YR _
    ·exact WU _)) q1)
  cases q with
  |true=>exact vU h1 λh' Z J n2 keep=>fin h' Z J keep
  |false=>exact call_enumerate_list h1 λh' Z J n2 keep=>fin h' Z J keep) hs rfl))
def gj(q:Bool)(h:Heap)(it a:Addr)(i:Int):Prop:=match q with
 |true=>d0 h it a i
 |false=>h.IsRevIter it a i
theorem gj.o{h:Heap}{it:Addr}{i:Int}(x:gj q h it a i):∃o n vs,h.get? it=some o/\o.cls=.type n/\o.data=.fields vs/\["enumerate","zip","dict_itemiterator","dict_reverseitemiterator","odict_iterator","itertools.zip_longest","itertools.pairwise"].contains n=false:=by
 cases q with
 |true=>obtain⟨o,e,c,d⟩:=x;exact⟨o,_,_,e,c,d,by decide⟩
 |false=>obtain⟨o,e,c,d⟩:=x;exact⟨o,_,_,e,c,d,by decide⟩
theorem gj.at{h h':Heap}{it:Addr}{i:Int}(x:gj q h it a i)(k:bp h h' it):gj q h' it a i:=by
 cases q with
 |true=>exact d0.at x k
 |false=>exact Heap.IsRevIter.at x k
theorem E8{it:Addr}{n:Nat}(hn:n=xs.length)(S:jE G F0 q a xs ok):fB G tg xs.reverse ok F0 [it] it (λi h=>i<=n/\gj q h it a ((n:Int)-1-(i:Int))) where
 obj:=λi h st b hb=>by rw[kU hb];obtain⟨o,_,_,e,_⟩:=st.2.o;exact⟨o,e⟩
 keep:=λi h h' st k=>⟨st.1,st.2.at (k it (List.mem_singleton.mpr rfl))⟩
 item:=by
  intro X hG hc i τ z d E I l hf st hok hd;subst hG;have hi:i<n:=by have:=(List.getElem?_eq_some_iff.mp hd).1;rw[YD]at this;lia
  rw[List.getElem?_reverse (by lia),<- hn]at hd;obtain⟨us,r1,hz,h1⟩:=S X τ z rfl I l hok;obtain⟨u,hu,ru⟩:=eM r1 hd;have st2:=st.2;rw[show (n:Int)-1-(i:Int)=((n-1-i:Nat):Int) by lia]at st2;have fin:∀h' tk,gj q h' it a (((n-1-i:Nat):Int)-1)->YA it z.s.heap h'->∃u',(some u:Option Value)=some u'/\wpAny (model X.G.P X.G.w) X.A (letOwnedTupleGo tg (.ref it) u') (λ_ s2=>nB X τ z d u' [it] (λi h=>i<=n/\gj q h it a ((n:Int)-1-(i:Int))) (i+1) s2) E { z.s with heap:=h',toks:=tk }:=λh' tk a2 sb=>by
   obtain⟨o,_,_,e,c,SQ,qx⟩:=a2.o;refine⟨u,rfl,m9 (s:={ z.s with heap:=h',toks:=tk }) e c SQ qx ⟨Le.rfl,I.b3 (t:=tk) hf (λb hb o' e'=>(sb.2 b λq=>hb (List.mem_singleton.mpr q)).trans e'),ru,⟨hi,?_⟩,λb hb=>(hf b hb).f⟩⟩;rw[show (n:Int)-1-((i+1:Nat):Int)=((n-1-i:Nat):Int)-1 by lia];exact a2
  cases q with
  |true=>exact D1 st2 h1 (by rw[WV];exact hz) hu fin
  |false=>exact wpAny_pyNext_rev_item st2 h1 hu λh'=>fin h' z.s.toks
 done:=by
  intro X hG hc i τ z E I l hf st hok hd;subst hG;rw[YD]at hd;have st2:=st.2;rw[show (n:Int)-1-(i:Int)=-1 by have:=st.1;lia]at st2
  have fin:∀h' tk,YX it z.s.heap h'->(none:Option Value)=none/\ab X τ ⟨z.F,z.M,{ z.s with heap:=h',toks:=tk }⟩:=λh' tk eb=>⟨rfl,I.b3 hf λb hb o e=>eb b o (λq=>hb (List.mem_singleton.mpr q)) e⟩;cases q with
  |true=>exact D2 (I.ok.hd hc) st2 fin
  |false=>exact wpAny_pyNext_rev_end (I.ok.hd hc) st2 λh'=>fin h' z.s.toks
 self:=λ_ _ _ _ _ st h=>by
  cases q with
  |true=>exact we st.2 h
  |false=>exact wpAny_pyIter_revIter st.2 h
def w8(t:DE):DI:=fun τ M k=>t τ M λd M1=>gY d M1 λxs ok=>k xs.reverse ok M1
theorem E9(hg:Gl X "reversed")(hm:X.G.mg "reversed"=none)(ha:PE X ea ta)(hs:starEach [ea] X.env=[(false,eval ea X.env)]):PI X tg (.Call (.Name "reversed" pn) [ea] [] pos) (w8 ta):=fun τ z k R I h K=>
 Call_ (dO I hg hm boot_reversed (by decide) (by decide) (XF (qE ha hs pos I h λd z1 u l1 I1 r1 q1=>by
  obtain⟨q,x,xs,ok,rfl,S,hok,q1⟩:=I1.gZ r1 q1;obtain⟨us,rr,hz,h1⟩:=S X τ z1 rfl I1 Le.rfl hok;have e0:((us.toArray.size:Nat):Int)-1=(xs.length:Int)-1-((0:Nat):Int):=by rw[WV,<- rr.len];simp
  have fin:∀h' tk,gj q h' z1.s.heap.objs.size x ((us.toArray.size:Int)-1)->(∀b o,z1.s.heap.get? b=some o->h'.get? b=some o)->R (.ref z1.s.heap.objs.size) { z1.s with heap:=h',toks:=tk }:=λh' tk Z keep=>
   K _ _ ⟨z1.F,z1.M,_⟩ _ l1 (I1.kept λb o e=>keep b o e) (jG I1 (WU _) (E8 rfl S) ⟨W9 _,by rw[<- e0];exact Z⟩) q1
  cases q with
  |true=>exact D0 h1 (by rw[WV];exact hz) λh' tk Z n2 keep=>we Z (fin h' tk Z keep)
  |false=>exact call_reversed_list h1 (wpAny_pyIter_revIter (l:=x) (i:=(us.toArray.size:Int)-1) ⟨_,WX _ rfl,rfl,rfl⟩ (fin _ z1.s.toks ⟨_,WX _ rfl,rfl,rfl⟩ λb o e=>WR _ e))) hs rfl))
end
end N
end
section
set_option maxHeartbeats 1000000
namespace N
open PySem PySem.Spec PyProof.Rows L2
noncomputable def qK:D->Option (List D)
 |.tup ds=>some ds
 |_=>none
noncomputable def qL:D->Option (List D)
 |.lst ds=>some ds
 |_=>none
noncomputable def oI:D->Option Int
 |.int i=>some i
 |.bl b=>some (if b then 1 else 0)
 |_=>none
noncomputable def k4:D->Option Str
 |.str x=>some x
 |_=>none
noncomputable def nH:D->Bool
 |.ai=>true
 |_=>false
mutual
noncomputable def au:D->D->Bool
 |.ai=>nH
 |.bl a=>λe=>oI e == some (if a then 1 else 0)
 |.int a=>λe=>oI e == some a
 |.str a=>λe=>k4 e == some a
 |.tup a=>λe=>(qK e).any (bF a)
 |.lst a=>λe=>(qL e).any (bF a)
 |.ref _=>λ_=>false
 |.ty _=>λ_=>false
 |.ag _ _=>λ_=>false
noncomputable def bF:List D->List D->Bool
 |[]=>List.isEmpty
 |d::ds=>λes=>match es with
  |e::es=>au d e && bF ds es
  |[]=>false
end
mutual
noncomputable def ar:D->Bool
 |.ai=>true
 |.bl _=>true
 |.int _=>true
 |.str _=>true
 |.tup ds=>aI ds
 |.lst ds=>aI ds
 |.ref _=>false
 |.ty _=>false
 |.ag _ _=>false
noncomputable def aI:List D->Bool
 |[]=>true
 |d::ds=>ar d && aI ds
end
mutual
noncomputable def aH:D->Nat
 |.tup ds=>aR ds+1
 |.lst ds=>aR ds+1
 |.ai=>0
 |.bl _=>0
 |.int _=>0
 |.str _=>0
 |.ref _=>0
 |.ty _=>0
 |.ag _ _=>0
noncomputable def aR:List D->Nat
 |[]=>0
 |d::ds=>max (aH d) (aR ds)
end
inductive Sh(G:Gx)(F:Fz)(s:Shared):D->Value->Prop
 |ai:Sh G F s .ai .none
 |bl {b}:Sh G F s (.bl b) (.bool b)
 |int {i t}:Sh G F s (.int i) (.int i t)
 |str {x t}:Sh G F s (.str x) (.str x t)
 |tup {ds us a} (h:s.heap.IsTuple a us.toArray) (r:ae G F ds us) (k:aI ds=true):Sh G F s (.tup ds) (.ref a)
 |lst {ds us a} (h:s.heap.IsList a us.toArray) (r:ae G F ds us) (k:aI ds=true):Sh G F s (.lst ds) (.ref a)
section
variable{G:Gx}{F:Fz}{M:Mp}{s:Shared}{A:Around}
theorem dg(ok:aF G F M s.heap){d:D}{u:Value}(r:aa G F d u)(h:ar d=true):Sh G F s d u:=by
 cases d with
 |ai=>rw[aa]at r;subst r;exact .ai
 |bl b=>rw[aa]at r;subst r;exact .bl
 |int i=>rw[aa]at r;obtain⟨t,rfl⟩:=r;exact .int
 |str i=>rw[aa]at r;obtain⟨t,rfl⟩:=r;exact .str
 |tup ds=>rw[aa]at r;obtain⟨a,o,us,rfl,h1,h2,h3⟩:=r;rw[ar]at h;exact .tup ⟨o,ok.fz a _ h1,h2.cls,h2.data⟩ h3 h
 |lst ds=>rw[aa]at r;obtain⟨a,n,us,rfl,h1,h2,h3⟩:=r;rw[ar]at h;exact .lst ⟨_,ok.fz a _ h1,rfl,n,rfl⟩ h3 h
 |ref a=>rw[ar]at h;cases h
 |ty n=>rw[ar]at h;cases h
 |ag ks ds=>rw[ar]at h;cases h
theorem jH:∀{ds:List D}{i:Nat}{d:D},aI ds=true->ds[i]?=some d->ar d=true/\aH d<=aR ds
 |[],i,d,_,h=>by simp at h
 |c::ds,0,d,k,h=>by rw[aI,WT]at k;cases h;exact⟨k.1,by rw[aR];exact Nat.le_max_left _ _⟩
 |c::ds,i+1,d,k,h=>by
  rw[aI,WT]at k;obtain⟨h1,h2⟩:=jH (i:=i) (d:=d) k.2 h;exact⟨h1,by rw[aR];exact W2 h2 (Nat.le_max_right _ _)⟩
theorem iN:∀(ds es:List D),bF ds es=((Xu (min ds.length es.length)).all (λj=>((ds[j]?).bind λd=>(es[j]?).map (au d)).getD false) && (ds.length == es.length))
 |[],[]=>rfl
 |[],e::es=>by rw[bF];rfl
 |d::ds,[]=>by rw[bF];rfl
 |d::ds,e::es=>by
  rw[bF];show (au d e && bF ds es)=_;rw[iN ds es,Xe,Xe,Nat.succ_min_succ,List.range_succ_eq_map,List.all_cons,List.all_map];simp only[List.getElem?_cons_zero,Option.bind_some,Option.map_some,Option.getD_some,Bool.and_assoc]
  congr 1
  congr 1
  rw[Yv];simp
mutual
theorem w9:∀(d:D){e:D}{u:Value},aa G F d u->aa G F e u->ar d=true->ar e=true->d=e
 |.ai,e,u,r,r',k,k'=>by
  rw[aa]at r;subst r;cases e <;> first |rfl |(rw[aa]at r';first |(obtain⟨_,_,_,q,_⟩:=r';cases q;done) |(obtain⟨_,q⟩:=r';cases q;done) |(cases r';done))
 |.bl b,e,u,r,r',k,k'=>by
  rw[aa]at r;subst r;cases e <;> (rw[aa]at r';first |(obtain⟨_,_,_,q,_⟩:=r';cases q;done) |(obtain⟨_,q⟩:=r';cases q;done) |(cases r';done) |(cases r';rfl))
 |.int b,e,u,r,r',k,k'=>by
  rw[aa]at r;obtain⟨t,rfl⟩:=r;cases e <;> (rw[aa]at r';first |(obtain⟨_,_,_,q,_⟩:=r';cases q;done) |(obtain⟨_,q⟩:=r';cases q;done) |(cases r';done) |(obtain⟨_,q⟩:=r';cases q;rfl))
 |.str b,e,u,r,r',k,k'=>by
  rw[aa]at r;obtain⟨t,rfl⟩:=r;cases e <;> (rw[aa]at r';first |(obtain⟨_,_,_,q,_⟩:=r';cases q;done) |(obtain⟨_,q⟩:=r';cases q;done) |(cases r';done) |(obtain⟨_,q⟩:=r';cases q;rfl))
 |.tup ds,e,u,r,r',k,k'=>by
  rw[aa]at r;obtain⟨a,o,us,rfl,h1,h2,h3⟩:=r;cases e with
  |tup es=>
   rw[aa]at r';obtain⟨b,o',vs,q,g1,g2,g3⟩:=r';cases q;rw[h1]at g1;cases g1;obtain⟨n,e1⟩:=h2.data;obtain⟨n',e2⟩:=g2.data;rw[e1]at e2;injection e2 with e3 _;cases (show us=vs by simpa using congrArg Array.toList e3);rw[ar]at k k';rw[nI ds h3 g3 k k']
  |lst es=>
   rw[aa]at r';obtain⟨b,o',vs,q,g1,g2,g3⟩:=r';cases q;rw[h1]at g1;cases g1;have:=h2.cls;injection this with this;exact absurd this (by decide)
  |ref b=>rw[ar]at k';cases k'
  |ag _ _=>rw[ar]at k';cases k'
  |ty _=>rw[ar]at k';cases k'
  |ai=>rw[aa]at r';cases r'
  |bl _=>rw[aa]at r';cases r'
  |int _=>rw[aa]at r';obtain⟨_,q⟩:=r';cases q
  |str _=>rw[aa]at r';obtain⟨_,q⟩:=r';cases q
 |.lst ds,e,u,r,r',k,k'=>by
  rw[aa]at r;obtain⟨a,n,us,rfl,h1,h2,h3⟩:=r;cases e with
  |lst es=>
   rw[aa]at r';obtain⟨b,n',vs,q,g1,g2,g3⟩:=r';cases q;rw[h1]at g1;have e3:bH us n=bH vs n':=Fo.dat.inj (Xl g1);unfold bH at e3;injection e3 with _ _ e3 _;injection e3 with e3 _;cases (show us=vs by simpa using congrArg Array.toList e3);rw[ar]at k k';rw[nI ds h3 g3 k k']
  |tup es=>
   rw[aa]at r';obtain⟨b,o',vs,q,g1,g2,g3⟩:=r';cases q;rw[h1]at g1;cases g1;have:=g2.cls;injection this with this;exact absurd this (by decide)
  |ref b=>rw[ar]at k';cases k'
  |ag _ _=>rw[ar]at k';cases k'
  |ty _=>rw[ar]at k';cases k'
  |ai=>rw[aa]at r';cases r'
  |bl _=>rw[aa]at r';cases r'
  |int _=>rw[aa]at r';obtain⟨_,q⟩:=r';cases q
  |str _=>rw[aa]at r';obtain⟨_,q⟩:=r';cases q
 |.ref _,_,_,_,_,k,_=>by rw[ar]at k;cases k
 |.ty _,_,_,_,_,k,_=>by rw[ar]at k;cases k
 |.ag _ _,_,_,_,_,k,_=>by rw[ar]at k;cases k
theorem nI:∀(ds:List D){es:List D}{us:List Value},ae G F ds us->ae G F es us->aI ds=true->aI es=true->ds=es
 |[],es,us,r,r',_,_=>by
  rw[ae]at r;subst r;cases es with
  |nil=>rfl
  |cons e es=>rw[ae]at r';obtain⟨_,_,q,_⟩:=r';cases q
 |d::ds,es,us,r,r',k,k'=>by
  rw[ae]at r;obtain⟨u,us,rfl,r1,r2⟩:=r;cases es with
  |nil=>rw[ae]at r';cases r'
  |cons e es=>
   rw[ae]at r';obtain⟨_,_,q,g1,g2⟩:=r';cases q;rw[aI,WT]at k k';rw[w9 d r1 g1 k.1 k'.1,nI ds r2 g2 k.2 k'.2]
end
mutual
theorem gk:∀(d:D),ar d=true->au d d=true
 |.ai,_=>by rw[au];rfl
 |.bl b,_=>by rw[au];simp [oI]
 |.int b,_=>by rw[au];simp [oI]
 |.str b,_=>by rw[au];simp [k4]
 |.tup ds,k=>by rw[ar]at k;rw[au];exact nJ ds k
 |.lst ds,k=>by rw[ar]at k;rw[au];exact nJ ds k
 |.ref _,k=>by rw[ar]at k;cases k
 |.ty _,k=>by rw[ar]at k;cases k
 |.ag _ _,k=>by rw[ar]at k;cases k
theorem nJ:∀(ds:List D),aI ds=true->bF ds ds=true
 |[],_=>rfl
 |d::ds,k=>by rw[aI,WT]at k;rw[bF,WT];exact⟨gk d k.1,nJ ds k.2⟩
end
theorem w'(ds:List D){es:List D}{us:List Value}(r:ae G F ds us)(r':ae G F es us)(k:aI ds=true)(k':aI es=true):bF ds es=true:=by
 cases nI ds r r' k k';exact nJ ds k
end
end N
end
section
set_option maxHeartbeats 1000000
namespace N
open PySem PySem.Spec PyProof.Rows L2
noncomputable abbrev k5(ds es:List D)(j:Nat):Bool:=((ds[j]?).bind λd=>(es[j]?).map (au d)).getD false
section
variable{G:Gx}{F:Fz}{M:Mp}{s:Shared}{A:Around}
theorem xc.inj{h:Heap}{a:Addr}{us vs:List Value}(x:h.IsList a us.toArray\/h.IsTuple a us.toArray)(y:h.IsList a vs.toArray\/h.IsTuple a vs.toArray):us=vs:=by
 have g:∀{ws:List Value},(h.IsList a ws.toArray\/h.IsTuple a ws.toArray)->∃o n,h.get? a=some o/\o.data=.seq ws.toArray n:=λq=>by
  rcases q with ⟨o,e,_,n,d⟩ |⟨o,e,_,n,d⟩ <;> exact⟨o,n,e,d⟩
 obtain⟨o,n,e,d⟩:=g x;obtain⟨o',n',e',d'⟩:=g y;rw[e]at e';cases e';rw[d]at d';injection d' with d' _;simpa using congrArg Array.toList d'
theorem k6:∀(n:Nat){A:Around}{d e:D}{u v:Value},aF G F M s.heap->Sh G F s d u->Sh G F s e v->aH d<=n->A.units+n<cLine->SeqAt.EqAt A s u v (au d e):=by
 intro n
 induction n with
 |zero=>
  intro A d e u v ok hd he hn hu;have ac:A.units<cLine:=hu;cases hd with
  |tup h r k=>rw[aH]at hn;cases hn
  |lst h r k=>rw[aH]at hn;cases hn
  |ai=>cases he with
   |ai=>exact SeqAt.EqAt.same _
   |bl=>exact SeqAt.EqAt.none_bool _
   |int=>exact SeqAt.EqAt.none_int _ _
   |str=>exact SeqAt.EqAt.none_str _ _
   |tup h r k=>exact SeqAt.EqAt.none_tuple h ac
   |lst h r k=>exact SeqAt.EqAt.none_list h ac
  |@bl a=>cases he with
   |ai=>exact SeqAt.EqAt.bool_none _
   |@bl b=>rw[show au (.bl a) (.bl b)=(a == b) by rw[au];cases a <;> cases b <;> rfl];exact SeqAt.EqAt.bool_bool _ _
   |@int b t=>rw[show au (.bl a) (.int b)=((if a then 1 else 0) == b) by rw[au,Yv];simp [oI];exact eq_comm];exact SeqAt.EqAt.bool_int _ _ _
   |str=>exact SeqAt.EqAt.bool_str _ _ _
   |tup h r k=>exact SeqAt.EqAt.bool_tuple _ h ac
   |lst h r k=>exact SeqAt.EqAt.bool_list _ h ac
  |@int a t=>cases he with
   |ai=>exact SeqAt.EqAt.int_none _ _
   |@bl b=>rw[show au (.int a) (.bl b)=(a == (if b then 1 else 0)) by rw[au,Yv];simp [oI];exact eq_comm];exact SeqAt.EqAt.int_bool _ _ _
   |@int b t'=>rw[show au (.int a) (.int b)=(a == b) by rw[au,Yv];simp [oI];exact eq_comm];exact SeqAt.EqAt.int_int _ _ _ _
   |str=>exact SeqAt.EqAt.int_str _ _ _ _
   |tup h r k=>exact SeqAt.EqAt.int_tuple _ _ h ac
   |lst h r k=>exact SeqAt.EqAt.int_list _ _ h ac
  |@str a t=>cases he with
   |ai=>exact SeqAt.EqAt.str_none _ _
   |bl=>exact SeqAt.EqAt.str_bool _ _ _
   |int=>exact SeqAt.EqAt.str_int _ _ _ _
   |@str b t'=>rw[show au (.str a) (.str b)=(a == b) by rw[au,Yv];simp [k4];exact eq_comm];exact SeqAt.EqAt.str_str _ _ _ _
   |tup h r k=>exact SeqAt.EqAt.str_tuple _ _ h ac
   |lst h r k=>exact SeqAt.EqAt.str_list _ _ h ac
 |succ n ih=>
  intro A d e u v ok hd he hn hu;have cE:aH d<=n->SeqAt.EqAt A s u v (au d e):=λh=>ih ok hd he h (Nat.lt_of_succ_lt hu);have ac:A.units<cLine:=W6 (YN _ _) hu;have items:∀{ds es:List D}{us vs:List Value},ae G F ds us->ae G F es vs->aI ds=true->aI es=true->aR ds<=n->∀j(h1:j<us.toArray.size)(h2:j<vs.toArray.size),SeqAt.EqAt A.in1 s us.toArray[j] vs.toArray[j] (k5 ds es j):=λ{ds es us vs}r1 r2 k1 k2 hd j h1 h2=>by
   have g1:j<ds.length:=(by rw[r1.len];simpa using h1);have g2:j<es.length:=(by rw[r2.len];simpa using h2);obtain⟨u,e1,q1⟩:=eM r1 (WW g1);obtain⟨v,e2,q2⟩:=eM r2 (WW g2);have m1:=jH k1 (WW g1);have m2:=jH k2 (WW g2);rw[(Array.getElem?_eq_some_iff.mp e1).2,(Array.getElem?_eq_some_iff.mp e2).2];unfold k5;rw[WW g1,WW g2];exact ih ok (dg ok q1 m1.1) (dg ok q2 m2.1) (W2 m1.2 hd) (by show A.units+1+n<cLine;lia)
  cases hd with
  |ai=>exact cE (W9 _)
  |bl=>exact cE (W9 _)
  |int=>exact cE (W9 _)
  |str=>exact cE (W9 _)
  |@tup ds us a h r k=>
   rw[aH]at hn;cases he with
   |ai=>exact SeqAt.EqAt.tuple_none h ac
   |bl=>exact SeqAt.EqAt.tuple_bool _ h ac
   |int=>exact SeqAt.EqAt.tuple_int _ _ h ac
   |str=>exact SeqAt.EqAt.tuple_str _ _ h ac
   |lst h' r' k'=>exact SeqAt.EqAt.tuple_list h h' ac
   |@tup es vs b h' r' k'=>
    have e:au (.tup ds) (.tup es)=bF ds es:=(by rw[au];rfl);rw[e];by_cases fD:a=b
    ·subst fD;cases xc.inj (.inr h) (.inr h');rw[w' ds r r' k k'];exact SeqAt.EqAt.same _
    ·have q:=SeqAt.RcAt.tuples (A:=A) h h' ac (items r r' k k' (YH hn));rw[WV,WV,<- r.len,<- r'.len,<- iN]at q;exact SeqAt.EqAt.of_refs fD q
  |@lst ds us a h r k=>
   rw[aH]at hn;cases he with
   |ai=>exact SeqAt.EqAt.list_none h ac
   |bl=>exact SeqAt.EqAt.list_bool _ h ac
   |int=>exact SeqAt.EqAt.list_int _ _ h ac
   |str=>exact SeqAt.EqAt.list_str _ _ h ac
   |tup h' r' k'=>exact SeqAt.EqAt.list_tuple h h' ac
   |@lst es vs b h' r' k'=>
    have e:au (.lst ds) (.lst es)=bF ds es:=(by rw[au];rfl);rw[e];by_cases fD:a=b
    ·subst fD;cases xc.inj (.inl h) (.inl h');rw[w' ds r r' k k'];exact SeqAt.EqAt.same _
    ·refine SeqAt.EqAt.of_refs fD ?_;have l1:=r.len;have l2:=r'.len;by_cases hl:ds.length=es.length
     ·have q:=SeqAt.RcAt.lists (A:=A) h h' (by rw[WV,WV,<- l1,<- l2,hl]) ac (items r r' k k' (YH hn));rw[WV,<- l1]at q;rw[iN,<- hl,Nat.min_self,beq_self_eq_true,Bool.and_true];exact q
     ·rw[iN,beq_false_of_ne hl,Bool.and_false];exact SeqAt.RcAt.lists_lengths h h' (by rw[WV,WV,<- l1,<- l2];simpa using hl) ac
theorem Fb{ds es:List D}{us vs:List Value}{n:Nat}(ok:aF G F M s.heap)(r1:ae G F ds us)(r2:ae G F es vs)(k1:aI ds=true)(k2:aI es=true)(hd:aR ds<=n)(hu:A.units+n<cLine)(j:Nat)(h1:j<us.toArray.size)(h2:j<vs.toArray.size):SeqAt.EqAt A s us.toArray[j] vs.toArray[j] (k5 ds es j):=by
 have g1:j<ds.length:=by rw[r1.len];simpa using h1
 have g2:j<es.length:=by rw[r2.len];simpa using h2
 obtain⟨u,e1,q1⟩:=eM r1 (WW g1);obtain⟨v,e2,q2⟩:=eM r2 (WW g2);have m1:=jH k1 (WW g1);have m2:=jH k2 (WW g2);rw[(Array.getElem?_eq_some_iff.mp e1).2,(Array.getElem?_eq_some_iff.mp e2).2];unfold k5;rw[WW g1,WW g2];exact k6 n ok (dg ok q1 m1.1) (dg ok q2 m2.1) (W2 m1.2 hd) hu
theorem Fc{n:Nat}{d e:D}{u v:Value}(ok:aF G F M s.heap)(hd:Sh G F s d u)(he:Sh G F s e v)(hn:aH d<=n+1)(hu:A.units+1+n<cLine):SeqAt.RcAt A s u v (au d e)/\SeqAt.RcNeAt A s u v (!au d e):=by
  have ac:A.units<cLine:=by lia
  have items:∀{ds es:List D}{us vs:List Value},ae G F ds us->ae G F es vs->aI ds=true->aI es=true->aR ds<=n->∀j(h1:j<us.toArray.size)(h2:j<vs.toArray.size),SeqAt.EqAt A.in1 s us.toArray[j] vs.toArray[j] (k5 ds es j):=λr1 r2 k1 k2 hd=>Fb ok r1 r2 k1 k2 hd hu;cases hd with
  |ai=>cases he with
   |ai=>exact⟨SeqAt.RcAt.none_none,SeqAt.RcNeAt.none_none⟩
   |bl=>exact⟨SeqAt.RcAt.none_bool _,SeqAt.RcNeAt.none_bool _⟩
   |int=>exact⟨SeqAt.RcAt.none_int _ _,SeqAt.RcNeAt.none_int _ _⟩
   |str=>exact⟨SeqAt.RcAt.none_str _ _,SeqAt.RcNeAt.none_str _ _⟩
   |tup h r k=>exact⟨SeqAt.RcAt.none_tuple h ac,SeqAt.RcNeAt.none_tuple h ac⟩
   |lst h r k=>exact⟨SeqAt.RcAt.none_list h ac,SeqAt.RcNeAt.none_list h ac⟩
  |@bl a=>cases he with
   |ai=>exact⟨SeqAt.RcAt.bool_none _,SeqAt.RcNeAt.bool_none _⟩
   |@bl b=>rw[show au (.bl a) (.bl b)=(a == b) by rw[au];cases a <;> cases b <;> rfl];exact⟨SeqAt.RcAt.bool_bool _ _,SeqAt.RcNeAt.bool_bool _ _⟩
   |@int b t'=>rw[show au (.bl a) (.int b)=((if a then 1 else 0) == b) by rw[au,Yv];simp [oI];exact eq_comm];exact⟨SeqAt.RcAt.bool_int _ _ _,SeqAt.RcNeAt.bool_int _ _ _⟩
   |str=>exact⟨SeqAt.RcAt.bool_str _ _ _,SeqAt.RcNeAt.bool_str _ _ _⟩
   |tup h r k=>exact⟨SeqAt.RcAt.bool_tuple _ h ac,SeqAt.RcNeAt.bool_tuple _ h ac⟩
   |lst h r k=>exact⟨SeqAt.RcAt.bool_list _ h ac,SeqAt.RcNeAt.bool_list _ h ac⟩
  |@int a t=>cases he with
   |ai=>exact⟨SeqAt.RcAt.int_none _ _,SeqAt.RcNeAt.int_none _ _⟩
   |@bl b=>rw[show au (.int a) (.bl b)=(a == (if b then 1 else 0)) by rw[au,Yv];simp [oI];exact eq_comm];exact⟨SeqAt.RcAt.int_bool _ _ _,SeqAt.RcNeAt.int_bool _ _ _⟩
   |@int b t'=>rw[show au (.int a) (.int b)=(a == b) by rw[au,Yv];simp [oI];exact eq_comm];exact⟨SeqAt.RcAt.int_int _ _ _ _,SeqAt.RcNeAt.int_int _ _ _ _⟩
   |str=>exact⟨SeqAt.RcAt.int_str _ _ _ _,SeqAt.RcNeAt.int_str _ _ _ _⟩
   |tup h r k=>exact⟨SeqAt.RcAt.int_tuple _ _ h ac,SeqAt.RcNeAt.int_tuple _ _ h ac⟩
   |lst h r k=>exact⟨SeqAt.RcAt.int_list _ _ h ac,SeqAt.RcNeAt.int_list _ _ h ac⟩
  |@str a t=>cases he with
   |ai=>exact⟨SeqAt.RcAt.str_none _ _,SeqAt.RcNeAt.str_none _ _⟩
   |bl=>exact⟨SeqAt.RcAt.str_bool _ _ _,SeqAt.RcNeAt.str_bool _ _ _⟩
   |int=>exact⟨SeqAt.RcAt.str_int _ _ _ _,SeqAt.RcNeAt.str_int _ _ _ _⟩
   |@str b t'=>rw[show au (.str a) (.str b)=(a == b) by rw[au,Yv];simp [k4];exact eq_comm];exact⟨SeqAt.RcAt.str_str _ _ _ _,SeqAt.RcNeAt.str_str _ _ _ _⟩
   |tup h r k=>exact⟨SeqAt.RcAt.str_tuple _ _ h ac,SeqAt.RcNeAt.str_tuple _ _ h ac⟩
   |lst h r k=>exact⟨SeqAt.RcAt.str_list _ _ h ac,SeqAt.RcNeAt.str_list _ _ h ac⟩
  |@tup ds us a h r k=>
   rw[aH]at hn;cases he with
   |ai=>exact⟨SeqAt.RcAt.tuple_none h ac,SeqAt.RcNeAt.tuple_none h ac⟩
   |bl=>exact⟨SeqAt.RcAt.tuple_bool _ h ac,SeqAt.RcNeAt.tuple_bool _ h ac⟩
   |int=>exact⟨SeqAt.RcAt.tuple_int _ _ h ac,SeqAt.RcNeAt.tuple_int _ _ h ac⟩
   |str=>exact⟨SeqAt.RcAt.tuple_str _ _ h ac,SeqAt.RcNeAt.tuple_str _ _ h ac⟩
   |lst h' r' k'=>exact⟨SeqAt.RcAt.tuple_list h h' ac,SeqAt.RcNeAt.tuple_list h h' ac⟩
   |@tup es vs b h' r' k'=>
    have q1:=SeqAt.RcAt.tuples (A:=A) h h' ac (items r r' k k' (YH hn));have q2:=SeqAt.RcNeAt.tuples (A:=A) h h' ac (items r r' k k' (YH hn));rw[WV,WV,<- r.len,<- r'.len,<- iN]at q1 q2;rw[show au (.tup ds) (.tup es)=bF ds es by rw[au];rfl];exact⟨q1,q2⟩
  |@lst ds us a h r k=>
   rw[aH]at hn;cases he with
   |ai=>exact⟨SeqAt.RcAt.list_none h ac,SeqAt.RcNeAt.list_none h ac⟩
   |bl=>exact⟨SeqAt.RcAt.list_bool _ h ac,SeqAt.RcNeAt.list_bool _ h ac⟩
   |int=>exact⟨SeqAt.RcAt.list_int _ _ h ac,SeqAt.RcNeAt.list_int _ _ h ac⟩
   |str=>exact⟨SeqAt.RcAt.list_str _ _ h ac,SeqAt.RcNeAt.list_str _ _ h ac⟩
   |tup h' r' k'=>exact⟨SeqAt.RcAt.list_tuple h h' ac,SeqAt.RcNeAt.list_tuple h h' ac⟩
   |@lst es vs b h' r' k'=>
    have l1:=r.len;have l2:=r'.len;rw[show au (.lst ds) (.lst es)=bF ds es by rw[au];rfl];by_cases hl:ds.length=es.length
    ·have hz:us.toArray.size=vs.toArray.size:=(by rw[WV,WV,<- l1,<- l2,hl]);have q1:=SeqAt.RcAt.lists (A:=A) h h' hz ac (items r r' k k' (YH hn));have q2:=SeqAt.RcNeAt.lists (A:=A) h h' hz ac (items r r' k k' (YH hn));rw[WV,<- l1]at q1 q2;rw[iN,<- hl,Nat.min_self,beq_self_eq_true,Bool.and_true];exact⟨q1,q2⟩
    ·have hz:(us.toArray.size != vs.toArray.size)=true:=(by rw[WV,WV,<- l1,<- l2];simpa using hl);rw[iN,beq_false_of_ne hl,Bool.and_false];exact⟨SeqAt.RcAt.lists_lengths h h' hz ac,SeqAt.RcNeAt.lists_lengths h h' hz ac⟩
end
end N
end
section
namespace L2
open PySem PySem.Spec PyProof.Rows
theorem xd(prog:Program)(w:World)(i:Int)(t:Tok):(bx prog w).is (.inl i) (.int i t)=true:=DD i t
theorem xf(prog:Program)(w:World)(x:Str)(t:Tok):(bx prog w).is (.inr x) (.str x t)=true:=DH x t
end L2
namespace L2
open PySem PySem.Spec PyProof.Rows
section
variable{X:Cx}{a b c:Expr}{ta tb tc:TE}{pos:Pos}
def xg(i j:Int):Prop:=0<=j/\j<=1000000/\i.natAbs<2 ^ 64
def qM(i j:Int):Prop:=(-(2 ^ 64)<i/\i<2 ^ 64)\/(-(2 ^ 64)<j/\j<2 ^ 64)
theorem qM.ok{i j:Int}(h:qM i j):IntMulOk i j:=by
 rcases h with ⟨h1,h2⟩ |⟨h1,h2⟩
 ·exact .of_left (intBits_le_64 h1 h2)
 ·exact .of_right (intBits_le_64 h1 h2)
theorem Fd(k:Nat):(0:Int)<=2 ^ k:=by
 rw[two_pow_cast];exact Int.natCast_nonneg _
end
section
variable{X:Cx}{a b c:Expr}{ta tb tc:TE}{pos:Pos}
theorem nK:(sizeLine:Nat)<2 ^ 63:=by rw[Zc];decide
end
end L2
namespace HT
open PySem PyProof.Rows
section
variable{prog:Program}{w:World}{A:Around}{E:Value->Shared->Prop}{s:Shared}
theorem Fe{t b:Addr}{vs ws:List Value}{Q:Value->Shared->Prop}(ht:IsTup s.heap t vs.toArray)(hb:IsTup s.heap b ws.toArray)(hv:vs≠[])
  (h1:ws=[]->Q (.ref t) s) (h2:ws≠[]->Q (.ref s.heap.objs.size) { s with heap:=s.heap.push { cls:=.type "tuple",data:=.seq (vs++ws).toArray } })
  (hsz:vs.length+ws.length<=sizeLine):wpAny (model prog w) A (binaryOp .Add (.ref t) (.ref b)) Q E s:=by
 obtain⟨⟨cls,dd,data,sl⟩,ho,hc,n,hd⟩:=id ht;obtain⟨⟨wP,iO,wS,k7⟩,eg,f8,n2,g8⟩:=id hb;simp only at hc hd f8 g8;subst hc hd f8 g8;have e:vs.toArray++ws.toArray=(vs++ws).toArray:=by simp
 by_cases hw:ws=[]
 ·exact concat_meets ⟨_,ho,rfl⟩ ⟨_,eg,rfl⟩ noFill_tuple_add seq_tuple_add PySem.F.slot_tuple_add PySem.F.entry_tuple_add (PySem.F.args_tuple_add_2 _ _)
   (tuple_addW1 t b vs.toArray ws.toArray n n2 dd iO sl k7 (by simpa using hv) (by simp [hw])) ⟨ho,eg,h1 hw⟩
 ·refine concat_meets ⟨_,ho,rfl⟩ ⟨_,eg,rfl⟩ noFill_tuple_add seq_tuple_add PySem.F.slot_tuple_add PySem.F.entry_tuple_add (PySem.F.args_tuple_add_2 _ _)
   (tuple_addW2 t b vs.toArray ws.toArray n n2 dd iO sl k7 (by simpa using hv) (by simpa using hw) (by rw[WV,WV];exact hsz)) ⟨ho,eg,?_⟩
  rw[e];exact h2 hw
end
end HT
namespace L2
open PySem PySem.Spec PyProof.Rows
noncomputable def ei(n:Nat)(i:Int):Option Nat:=if 0<=i then (if i<n then some i.toNat else none) else if -(n:Int)<=i then some (i+n).toNat else none
noncomputable def bq{α:Type}(xs:List α)(i:Int):Option α:=(ei xs.length i).bind λj=>xs[j]?
theorem xh{n:Nat}{i:Int}{j:Nat}(h:ei n i=some j):seqIndex? i n=some j/\j<n/\-(n:Int)<=i/\i<n:=by
 unfold ei at h;by_cases h0:0<=i
 ·rw[if_pos h0]at h;by_cases h1:i<n
  ·rw[if_pos h1]at h;have e:i.toNat=j:=Xl h;exact⟨by rw[seqIndex_of h0 h1,e],by lia,by lia,h1⟩
  ·rw[if_neg h1]at h;cases h
 ·rw[if_neg h0]at h;by_cases h1:-(n:Int)<=i
  ·rw[if_pos h1]at h;have e:(i+n).toNat=j:=Xl h;exact⟨by rw[seqIndex_neg (by lia) h1,e],by lia,h1,by lia⟩
  ·rw[if_neg h1]at h;cases h
theorem qN{α:Type}{xs:List α}{i:Int}{v:α}(h:bq xs i=some v):∃j,seqIndex? i xs.length=some j/\xs[j]?=some v/\j<xs.length/\-(xs.length:Int)<=i/\i<xs.length:=by
 unfold bq at h;cases e:ei xs.length i with
 |none=>rw[e]at h;cases h
 |some j=>
  rw[e]at h;obtain⟨h1,h2,h3,h4⟩:=xh e;exact⟨j,h1,h,h2,h3,h4⟩
section
variable{X:Cx}{a b:Expr}{ta tb:TE}{pos:Pos}
theorem xi(its:List Value)(n j:Nat)(u:Value):Xs (·.setIfInBounds j u) { cls:=.type "list",data:=.seq its.toArray n }={ cls:=.type "list",data:=.seq (its.set j u).toArray n }:=by
 simp [Xs]
variable{o e:Expr}{es:List Expr}{to:TE}{t:TA}{name:Str}{co cpos:Pos}{T id:String}{r:V->List V->Hp->VK->Prop}
end
end L2
namespace L2
open PySem PySem.Spec PyProof.Rows
end L2
namespace L2
open PySem PySem.Spec PyProof.Rows
def Ff(i j:Int):Prop:=i.natAbs<2 ^ 600/\j.natAbs<2 ^ 600
theorem xj{a:Int}(h:a.natAbs<2 ^ 600):Builtin.Int.intBits a<=2 ^ 20:=by
 unfold Builtin.Int.intBits;split
 ·exact W9 _
 ·rename_i z;have hz:a.natAbs≠0:=by first |exact λe=>z (by simpa using e) |(intro e;apply z;lia)
  have:=(Nat.log2_lt hz).mpr h;lia
end L2
namespace L2
open PySem PySem.Spec PyProof.Rows
theorem xk(its:List Value):∀(k:Nat)(acc:List Value),
  List.foldl (λx1 x2=>x1++x2) acc.toArray (XS k its.toArray)=(acc++(XS k its).flatten).toArray
 | 0,acc=>by simp
 |k+1,acc=>by
  have e:acc.toArray++its.toArray=(acc++its).toArray:=by simp
  have e2:(acc++its)++(XS k its).flatten=acc++(XS (k+1) its).flatten:=by
   rw[Zf,List.flatten_cons,X6]
  rw[<- e2,<- xk its k (acc++its),<- e,Zf,List.foldl_cons]
section
variable{X:Cx}{a':List (Addr×Obj)}{σ:St}{H:Hp}{s:Shared}{l b:Addr}{xs ys zs:List V}
theorem qO{n:Nat}(h:n<=sizeLine):Ys n=false:=by
 unfold Ys;exact decide_eq_false (by lia)
end
section
variable{X:Cx}
theorem Fh{α:Type}(xs:List α)(k:Nat):(XS k xs).flatten.length=k * xs.length:=by
 induction k with
 |zero=>simp
 |succ k ih=>rw[Zf,List.flatten_cons,W3,ih,Nat.succ_mul,Nat.add_comm]
end
end L2
namespace L2
open PySem PySem.Spec PyProof.Rows
end L2
namespace HT
open PySem PyProof.Rows
section
variable{prog:Program}{w:World}{A:Around}{E:Value->Shared->Prop}{s:Shared}
noncomputable def aC(n d:Nat):Option Int->Nat
 |none=>d
 |some v=>if v<0 then (v+(n:Int)).toNat else min v.toNat n
theorem nL(n d:Nat):aC n d none=d:=rfl
theorem qP(n d k:Nat):aC n d (some (k:Int))=min k n:=by
 show (if (k:Int)<0 then ((k:Int)+(n:Int)).toNat else min (k:Int).toNat n)=min k n
 rw[if_neg (by lia),X8]
theorem Fj(n d:Nat)(hd:d<=n)(o:Option Int):aC n d o<=n:=by
 cases o with
 |none=>exact hd
 |some v=>
  show (if v<0 then (v+(n:Int)).toNat else min v.toNat n)<=n
  by_cases hv:v<0
  ·rw[if_pos hv];lia
  ·rw[if_neg hv];exact Nat.min_le_right _ _
theorem xl(v:Int)(n d:Nat):(if v<0 then max (v+(n:Int)) 0 else min v (n:Int))=((aC n d (some v):Nat):Int):=by
 show (if v<0 then max (v+(n:Int)) 0 else min v (n:Int))=(((if v<0 then (v+(n:Int)).toNat else min v.toNat n):Nat):Int)
 by_cases hv:v<0
 ·simp only[if_pos hv];lia
 ·simp only[if_neg hv];lia
theorem Fl(lo hi:Option Int)(n:Nat):Builtin.Slice.sliceAdjust lo hi 1 (n:Int)=(((aC n 0 lo:Nat):Int),((aC n n hi:Nat):Int)):=by
 have h1:¬((1:Int)<0):=by lia
 unfold Builtin.Slice.sliceAdjust;simp only[h1,if_false];refine Prod.ext ?_ ?_
 ·cases lo with
  |none=>rfl
  |some v=>exact xl v n 0
 ·cases hi with
  |none=>rfl
  |some v=>exact xl v n n
theorem Fq(i j:Nat):Ye (i:Int) (j:Int) 1=j-i:=by
 unfold Ye;have h1:(1:Int) > 0:=by lia
 simp only[h1,if_true,Int.ediv_one];split <;> lia
theorem xm{v:Value}{o:Option Int}{Q:Option Int->Shared->Prop}(p:IsPart v o)(h:Q o s):wpAny (model prog w) A (Builtin.Slice.slicePartIndex v) Q E s:=by
 cases p with
 |none=>exact slicePart_none h
 |int i t=>exact slicePart_int h
theorem xn{sl:Addr}{vl vu:Value}{lo hi:Option Int}{n:Nat}{Q:Int×Int×Nat->Shared->Prop}(hs:s.heap.IsSliceOf sl vl vu .none)(pl:IsPart vl lo)(pu:IsPart vu hi)
  (h:Q (((aC n 0 lo:Nat):Int),1,aC n n hi-aC n 0 lo) s):wpAny (model prog w) A (Y0 (.ref sl) (pure (n:Int))) Q E s:=by
 obtain⟨os,cS,hcs,dL⟩:=id hs;unfold Y0 Builtin.Slice.sliceFields;refine WO (WO (XH cS dL (x:=vl) rfl (WO (XH cS dL (x:=vu) rfl (WO (XH cS dL (x:=.none) rfl (WS ?_)))))));refine WO (slicePart_none ?_);show wpAny _ _ (if ((1:Int) == 0)=true then _ else _) _ _ s
 rw[if_neg (by decide)];refine WO (xm pl (WO (xm pu (WO (WS ?_)))));show wpAny _ _ (match Builtin.Slice.sliceAdjust lo hi 1 (n:Int) with |(lo,hi)=>pure (lo,(1:Int),Ye lo hi 1)) _ _ s
 rw[Fl lo hi n];show wpAny _ _ (pure (((aC n 0 lo:Nat):Int),(1:Int),Ye ((aC n 0 lo:Nat):Int) ((aC n n hi:Nat):Int) 1)) _ _ s;rw[Fq];exact WS h
theorem Fs(xs:Array Value)(i k:Nat):((Xu k).filterMap λ(m:Nat)=>xs[((i:Int)+(m:Int) * 1).toNat]?).toArray=((xs.toList.drop i).take k).toArray:=by
 have e:(λ(m:Nat)=>xs[((i:Int)+(m:Int) * 1).toNat]?)=λm=>xs[i+m]?:=by
  funext m;have:((i:Int)+(m:Int) * 1).toNat=i+m:=by lia
  rw[this]
 rw[e];have:=pick_run xs i k;rw[List.filterMap_map]at this;have e2:((λx=>xs[x]?) ∘ λx=>i+x)=λm=>xs[i+m]?:=rfl;rw[e2]at this;rw[this]
theorem Ft{t sl:Addr}{items:Array Value}{vl vu:Value}{lo hi:Option Int}{Q:Value->Shared->Prop}(ht:IsTup s.heap t items)(hs:s.heap.IsSliceOf sl vl vu .none)(pl:IsPart vl lo)(pu:IsPart vu hi)
  (hw:¬(aC items.size 0 lo=0/\aC items.size items.size hi=items.size))
  (h:Q (.ref s.heap.objs.size) { s with heap:=s.heap.push { cls:=.type "tuple",data:=.seq ((items.toList.drop (aC items.size 0 lo)).take (aC items.size items.size hi-aC items.size 0 lo)).toArray } })
  (hsz:items.size<=sizeLine):wpAny (model prog w) A (getItem (.ref t) (.ref sl)) Q E s:=by
 have ge:sizeOk (.seq ((items.toList.drop (aC items.size 0 lo)).take (aC items.size items.size hi-aC items.size 0 lo)).toArray):=by
  show ((items.toList.drop (aC items.size 0 lo)).take (aC items.size items.size hi-aC items.size 0 lo)).toArray.size<=sizeLine;rw[WV,List.length_take,Zd,Xg];lia
 have hj:aC items.size items.size hi<=items.size:=Fj _ _ (WU _) hi;obtain⟨os,cS,hcs,dL⟩:=id hs;have k8:s.TypeIs (.ref sl) "slice":=⟨os,cS,hcs⟩;unfold getItem
 try with_reducible refine XN ?_
 first |refine WO (WS ?_) |skip
 refine WO (wpAny_sequenceKey ht.typeIs (by decide) ?_);refine WO (Xm (name:=Yp "__getitem__") ht.typeIs X9
  (Xp X9 ht.typeIs entry_tuple_getitem ?_ (args_tuple_getitem _ _)))
 show wpAny _ _ (Builtin.Tuple.tupleItemsOf (.ref t) >>= _) _ _ s;refine WO (tupleItemsOf_ ht ?_);refine WO (wpAny_typeOf k8 ?_);rw[if_pos (by decide)];refine WO (xn hs pl pu ?_);have Fa:¬((((aC items.size 0 lo:Nat):Int) == 0 && (1:Int) == 1 && (aC items.size items.size hi-aC items.size 0 lo) == items.size)=true):=by
  intro q;rw[WT,WT]at q;have q1:((aC items.size 0 lo:Nat):Int)=0:=eq_of_beq q.1.1;have q2:aC items.size items.size hi-aC items.size 0 lo=items.size:=eq_of_beq q.2;exact hw ⟨by lia,by lia⟩
 show wpAny _ _ (if (((aC items.size 0 lo:Nat):Int) == 0 && (1:Int) == 1 && (aC items.size items.size hi-aC items.size 0 lo) == items.size)=true then _ else _) _ _ s
 rw[if_neg Fa,Fs]
 first
  |exact WO (m:=XY _) (Xx (WS ⟨_,rfl,WS h⟩) ge)
  |exact WO (m:=XY _) (Xx (WO (WS (WS ⟨_,rfl,WS h⟩))) ge)
  |exact WO (WO (m:=XY _) (Xx (WS (WS ⟨_,rfl,WS h⟩)) ge))
  |exact WO (WO (m:=XY _) (Xx (WS ⟨_,rfl,WS h⟩) ge))
end
end HT
namespace L2
open PySem PySem.Spec PyProof.Rows
section
variable{X:Cx}{a b:Expr}{ta tb:TE}{pos:Pos}
theorem Fu(lo hi:Option Int)(n:Nat):(sliceBounds lo hi none n).1=((HT.aC n 0 lo:Nat):Int)/\(sliceBounds lo hi none n).2.1=((HT.aC n n hi:Nat):Int)/\(sliceBounds lo hi none n).2.2=1:=by
 refine⟨?_,?_,rfl⟩
 ·cases lo with
  |none=>simp [sliceBounds,HT.aC]
  |some i=>
   simp only[sliceBounds,HT.aC,Option.getD_none,show (1:Int) > 0 by decide,if_true];by_cases h:i<0
   ·simp only[h,if_true] <;> lia
   ·simp only[h,if_false] <;> lia
 ·cases hi with
  |none=>simp [sliceBounds,HT.aC]
  |some i=>
   simp only[sliceBounds,HT.aC,Option.getD_none,show (1:Int) > 0 by decide,if_true];by_cases h:i<0
   ·simp only[h,if_true] <;> lia
   ·simp only[h,if_false] <;> lia
theorem Fv(its:List Value)(lo hi:Option Int):slicePick its.toArray lo hi none=((its.drop (HT.aC its.length 0 lo)).take (HT.aC its.length its.length hi-HT.aC its.length 0 lo)).toArray:=by
 obtain⟨h1,h2,h3⟩:=Fu lo hi its.toArray.size;unfold slicePick;rw[h1,h2,h3];simp only[sliceRange_one,pick_run,WV] <;> rfl
variable{o e:Expr}{es:List Expr}{to:TE}{t:TA}{name:Str}{co cpos:Pos}{T id:String}{r:V->List V->Hp->VK->Prop}
end
end L2
namespace L2
open PySem PySem.Spec PyProof.Rows
end L2
namespace L2
open PySem PySem.Spec PyProof.Rows
theorem eQ{α:Type}{t:Sem α}{Q Q':α->Shared->Prop}{M:Model}{A:Around}{E:Value->Shared->Prop}{s:Shared}(h:wpAny M A t Q E s)(hQ:∀a s,Q a s->Q' a s):wpAny M A t Q' E s:=Y5 h hQ λ_ _ x=>x
end L2
namespace L2
open PySem PySem.Spec PyProof.Rows
end L2
namespace L2
open PySem PySem.Spec PyProof.Rows
section
variable{prog:Program}{w:World}{A:Around}{E:Value->Shared->Prop}{s:Shared}
theorem Fw{t sl:Addr}{items:Array Value}{vl vu:Value}{lo hi:Option Int}{Q:Value->Shared->Prop}(ht:IsTup s.heap t items)(hs:s.heap.IsSliceOf sl vl vu .none)(pl:IsPart vl lo)(pu:IsPart vu hi)
  (hw:HT.aC items.size 0 lo=0/\HT.aC items.size items.size hi=items.size) (h:Q (.ref t) s):wpAny (model prog w) A (getItem (.ref t) (.ref sl)) Q E s:=by
 obtain⟨os,cS,hcs,dL⟩:=id hs;have k8:s.TypeIs (.ref sl) "slice":=⟨os,cS,hcs⟩;unfold getItem
 try with_reducible refine XN ?_
 first |refine WO (WS ?_) |skip
 refine WO (wpAny_sequenceKey ht.typeIs (by decide) ?_);refine WO (Xm (name:=Yp "__getitem__") ht.typeIs X9
  (Xp X9 ht.typeIs entry_tuple_getitem ?_ (args_tuple_getitem _ _)))
 show wpAny _ _ (Builtin.Tuple.tupleItemsOf (.ref t) >>= _) _ _ s;refine WO (tupleItemsOf_ ht ?_);refine WO (wpAny_typeOf k8 ?_);rw[if_pos (by decide)];refine WO (HT.xn hs pl pu ?_);have yes:(((HT.aC items.size 0 lo:Nat):Int) == 0 && (1:Int) == 1 && (HT.aC items.size items.size hi-HT.aC items.size 0 lo) == items.size)=true:=by
  rw[hw.1,hw.2];simp
 show wpAny _ _ (if (((HT.aC items.size 0 lo:Nat):Int) == 0 && (1:Int) == 1 && (HT.aC items.size items.size hi-HT.aC items.size 0 lo) == items.size)=true then _ else _) _ _ s
 rw[if_pos yes];obtain⟨o,ho,hc,n,hd⟩:=id ht;have ex:wpAny (model prog w) A.in1 (Builtin.Tuple.tupleIsExact (.ref t)) (λb s'=>b=true/\s'=s) E s:=by
  unfold Builtin.Tuple.tupleIsExact
  first
   |exact WO (wpAny_typeOf ⟨o,ho,hc⟩ (WS ⟨by rfl,rfl⟩))
   |exact WO (wpAny_load ho (WS ⟨by rw[hc];rfl,rfl⟩))
 refine WO (eQ ex λb s' hb=>?_);obtain⟨rfl,rfl⟩:=hb;rw[if_pos rfl];exact WO (wpAny_rule (WS ⟨_,rfl,WS h⟩))
end
end L2
namespace L2
open PySem
end L2
namespace L2
open PySem PySem.Spec PyProof.Rows
structure bC(k:Nat)(A:Around):Prop where
 hd:A.handled=none
 SW:A.depth+3 * k+5<recursionLimit
 un:A.units+16 * k+200<cLine
theorem bC.mono{j k:Nat}{A:Around}(r:bC k A)(h:j<=k):bC j A:=⟨r.hd,by have:=r.SW;lia,by have:=r.un;lia⟩
theorem bC.deeper{k:Nat}{A:Around}(r:bC (k+1) A)(env:Env):bC k (A.deeper env):=
 ⟨r.hd,by have:=r.SW;show A.depth+1+3 * k+5<_;lia,by have:=r.un;show A.units+3+16 * k+200<_;lia⟩
theorem Fx{A:Around}{C:Addr}{us:List Value}{kw:List (Str×Value)}:(A.under (.builtin "type.__call__" ⟨.ref C::us,kw⟩)).depth=A.depth+1:=by
 first |rfl |simp [Around.under,Code.weight,Code.isCreation,Code.isGuard,Code.isCaller,Code.frames,Code.isFrame,RK]
theorem Fy{A:Around}{C:Addr}{us:List Value}{kw:List (Str×Value)}:(A.under (.builtin "type.__call__" ⟨.ref C::us,kw⟩)).units=A.units+1:=by
 first |rfl |simp [Around.under,Code.cUnits,Code.frames,Code.isFrame]
theorem bC.make{k:Nat}{A:Around}(r:bC (k+1) A)(C:Addr)(us:List Value)(kw:List (Str×Value)):bC k (A.under (.builtin "type.__call__" ⟨.ref C::us,kw⟩)):=
 ⟨r.hd,by have:=r.SW;rw[Fx];lia,by have:=r.un;rw[Fy];lia⟩
theorem bC.depth{k:Nat}{A:Around}(r:bC k A):A.depth<recursionLimit:=by have:=r.SW;lia
def bO(K:PySem.W.Frag)(fd:FuncData)(ps:List Str)(ds:List Value):Prop:=
 ∀(s:Shared)(us:List Value),K.In s.heap->(us++ds).length=ps.length->BindsTo s fd ⟨us,[]⟩ (ps.zip (us++ds))
theorem bO.all{K:PySem.W.Frag}{fd:FuncData}{ps:List Str}(h:∀us:List Value,us.length=ps.length->bindArgs fd ⟨us,[]⟩=pure (ps.zip us)):bO K fd ps []:=λs us _ hl=>by
 rw[Xc]at hl ⊢;exact .of_eq (h us hl)
structure aJ(N P:List Str)(sc:Scope):Prop where
 kind:sc.kind=.function
 Uc:sc.isCoroutine=false
 k9:sc.isGenerator=false
 nd:N.Nodup
 pre:N.take P.length=P
 xo:∀x∈P,sc.names.lookup x=some .local\/sc.names.lookup x=some .cell
 FA:∀y∈sc.names,y.2≠.free
theorem xp{kindOf:Str->Option NameKind}{x:Str}:∀{iP:List (Str×Value)}{m:Str->Option Value},(∀v,(x,v) ∉ iP)->bindL kindOf iP m x=m x
 |[],_,_=>rfl
 |(n,v)::r,m,h=>by
  unfold bindL;rw[xp λw hw=>h w (WY _ hw)];split
  ·have:x≠n:=(by rintro rfl;exact h v WZ);simp [this]
  ·rfl
theorem xq{kindOf:Str->Option NameKind}{x:Str}:∀{iP:List (Str×Value)}{m:Str->Option Value},(∀v,(x,v) ∉ iP)->bindC kindOf iP m x=m x
 |[],_,_=>rfl
 |(n,v)::r,m,h=>by
  unfold bindC;rw[xq λw hw=>h w (WY _ hw)];split
  ·rfl
  ·have:x≠n:=(by rintro rfl;exact h v WZ);simp [this]
theorem xt{kindOf:Str->Option NameKind}{x:Str}{v:Value}:∀{P:List Str}{vs:List Value}{i:Nat}{m:Str->Option Value},P.Nodup->P[i]?=some x->vs[i]?=some v->kindOf x=some .local ->
  bindL kindOf (P.zip vs) m x=some v
 |[],_,_,_,_,h,_,_=>by simp at h
 |_::_,[],_,_,_,_,h,_=>by simp at h
 |p::P,w::vs,0,m,nd,h1,h2,hk=>by
  simp at h1 h2;subst h1;subst h2;show bindL kindOf ((p,w)::P.zip vs) m p=_;unfold bindL;rw[xp λv hv=>(List.nodup_cons.mp nd).1 (YV hv).1,if_pos hk];simp
 |p::P,w::vs,i+1,m,nd,h1,h2,hk=>by
  show bindL kindOf ((p,w)::P.zip vs) m x=_;unfold bindL;exact xt (i:=i) (List.nodup_cons.mp nd).2 (by simpa using h1) (by simpa using h2) hk
theorem xu{kindOf:Str->Option NameKind}{x:Str}{v:Value}:∀{P:List Str}{vs:List Value}{i:Nat}{m:Str->Option Value},P.Nodup->P[i]?=some x->vs[i]?=some v->kindOf x≠some .local ->
  bindC kindOf (P.zip vs) m x=some v
 |[],_,_,_,_,h,_,_=>by simp at h
 |_::_,[],_,_,_,_,h,_=>by simp at h
 |p::P,w::vs,0,m,nd,h1,h2,hk=>by
  simp at h1 h2;subst h1;subst h2;show bindC kindOf ((p,w)::P.zip vs) m p=_;unfold bindC;rw[xq λv hv=>(List.nodup_cons.mp nd).1 (YV hv).1,if_neg hk];simp
 |p::P,w::vs,i+1,m,nd,h1,h2,hk=>by
  show bindC kindOf ((p,w)::P.zip vs) m x=_;unfold bindC;exact xu (i:=i) (List.nodup_cons.mp nd).2 (by simpa using h1) (by simpa using h2) hk
theorem xv{sc:Scope}{n:Nat}{x:Str}(h:sc.names.lookup x=some .cell):∃c,(cellsFrom n sc.names []).lookup x=some c:=by
 have q:=PySem.W.cellsFrom_some sc.names n [] (.inl h);exact Option.isSome_iff_exists.mp q
end L2
namespace L2
open PySem PySem.Spec PyProof.Rows
end L2
namespace L2
open PySem PySem.Spec PyProof.Rows
structure iQ(h:Heap)(x dx C:Addr)(mA:Str->Option Value):Prop where
 obj:h.get? x=some (PySem.W.instObj C dx)
 ns:h.Ns1 dx mA
 ne:dx≠x
theorem FC{h:Heap}{dx:Addr}{mA:Str->Option Value}(n:h.Ns1 dx mA):∃od,h.get? dx=some od/\∀name,PySem.W.lookIn name od=some (mA name):=by
 obtain⟨o,es,ep,ho,hd,hk,_,hm⟩:=n;refine⟨o,ho,λname=>?_⟩;have e:=hm name;unfold nsFind findBy at e;rw[<- Array.find?_toList]at e;unfold PySem.W.lookIn;rw[hd];dsimp only;split
 ·rename_i y q;rw[q]at e;exact congrArg some e
 ·rename_i q;rw[q]at e;have a:es.toList.any (·.refKey)=false:=by
   rw[List.any_eq_false];intro y hy;obtain⟨z,t,nw⟩:=hk y (Array.mem_toList_iff.mp hy);simp [DictEntry.refKey,nw]
  have S7:¬es.toList.any (·.refKey)=true:=by rw[a];exact Xi
  rw[if_neg S7];exact congrArg some e
theorem iQ.qQ{h:Heap}{x dx C:Addr}{mA:Str->Option Value}(I:iQ h x dx C mA):∃od,PySem.W.InstAt h x (PySem.W.instObj C dx) C (some od)/\∀name,PySem.W.lookIn name od=some (mA name):=
 let ⟨od,ho,hl⟩:=FC I.ns
 ⟨od,⟨I.obj,rfl,rfl,ho⟩,hl⟩
section
variable{prog:Program}{w:World}{A:Around}{E:Value->Shared->Prop}{s:Shared}{K:PySem.W.Frag}{x dx C f:Addr}{mA:Str->Option Value}{name:Str}{v:Value}
theorem FD{Fk:Bool}{Q:Value->Shared->Prop}(X:K.In s.heap)(I:iQ s.heap x dx C mA)(hg:PySem.W.plainGet K C name=true)(hh:PySem.W.hasDictIn K C=true)
  (ha:PySem.W.findIn K (.ref C) name=some none) (hv:mA name=some v) (qR:PySem.W.handedIn v=true) (h:Q v { s with toks:=s.toks+1 }) :
  wpAny (model prog w) A (getAttr (.ref x) name Fk) Q E s:=by
 obtain⟨od,J,hl⟩:=I.qQ;exact PySem.W.get_value X J (PySem.W.plainGet_of hg).1 (PySem.W.findObj_own hh ha rfl (by rw[hl,hv])) qR h
theorem FE{pl:Sem Bool}{Q:Value×List Value->Shared->Prop}(X:K.In s.heap)(I:iQ s.heap x dx C mA)(hg:PySem.W.plainGet K C name=true)
  (hf:PySem.W.findIn K (.ref C) name=some (some (.ref f))) (ht:PySem.W.isFn K (.ref f)=true) (hv:mA name=none) (h:Q (.ref f,[.ref x]) s) :
  wpAny (model prog w) A (getMethod (.ref x) name pl) Q E s:=by
 obtain⟨od,J,hl⟩:=I.qQ;exact PySem.W.method_fn X J (PySem.W.plainGet_of hg).1 (PySem.W.plainGet_of hg).2 hf (beq_iff_eq.mp ht) (by show (PySem.W.lookIn name od).map (·.isSome)=some false;rw[hl,hv];rfl) h
theorem FF{ns:List Str}{Q:Unit->Shared->Prop}(X:K.In s.heap)(I:iQ s.heap x dx C mA)
  (hs:PySem.W.findIn K (.ref C) "__setattr__"=some (some (.builtin "object.__setattr__"))) (hp:PySem.W.plainOver K C=true) (ht:PySem.W.takerIn K C name=some none) (hh:PySem.W.hasDictIn K C=true)
  (hw:PySem.Within mA ns) (hsz:ns.length<=sizeLine)
  (h:∀h',iQ h' x dx C (λy=>if y=name then some v else mA y)->YA dx s.heap h'->Q () { s with heap:=h',toks:=s.toks+2 }) :
  wpAny (model prog w) A (setAttr (.ref x) name v) Q E s:=by
 obtain⟨od,J,hl⟩:=I.qQ;refine PySem.W.set_plain X J hs (PySem.W.osa_open (s:={ s with toks:=s.toks+1 }) (r:=none) X J hp ht λb=>?_);obtain⟨cd,hc,iH⟩:=PySem.W.any_some hh;have hx:s.heap.get? x=some ⟨.ref C,some dx,.plain,#[]⟩:=I.obj;refine WO (WS (WO (WO (wpAny_loadPart hx (WO (PySem.W.Looks.here (s:={ s with toks:=s.toks+1 }) (PySem.W.looks_clsIn X hc) ?_))))));rw[iH];refine WS (a:=some dx) (WO (WS (WO ?_)));refine wpAny_nsSet1 (s:={ s with toks:=s.toks+1 }) I.ns λh' nM hs2=>?_;obtain⟨Wl,RL,RM,FG,FH,FI⟩:=nM.count (PySem.Within.cons name v hw);refine WO (wpAny_lookBehind FG (by rw[FH];exact pastItsLine_dict (W2 FI (by rw[Xe];lia))) ?_);exact WS (h _ ⟨(hs2.2 _ (XC I.ne)).trans I.obj,nM,I.ne⟩ hs2)
theorem FJ{R:Result->Shared->Prop}{vs:List Value}{kw:List (Str×Value)}(X:K.In s.heap)(hm:PySem.W.makesIn K C=true)
  (hi:PySem.W.findIn K (.ref C) "__init__"=some (some (.ref f))) (hf:PySem.W.typeIn K (.ref f)=some (.type "function"))
  (h:codeAny (model prog w) (A.under (.builtin "type.__call__" ⟨.ref C::vs,kw⟩)) (.call (.ref f) ⟨.ref (s.heap.objs.size+1)::vs,kw⟩) (PySem.W.InitBack (s.heap.objs.size+1) R)
   { s with heap:=(s.heap.push PySem.W.emptyDict).push (PySem.W.instObj C s.heap.objs.size) }) :
  codeAny (model prog w) A (.call (.ref C) ⟨vs,kw⟩) R s:=by
 obtain⟨hh,g,d,t,os⟩:=s;exact PySem.W.make_core (PySem.W.makes_of X hm) (PySem.W.looks_findIn X hi) (λself=>PySem.W.bind_fn X self hf) (.inl rfl) h
end
structure b9(K:PySem.W.Frag)(C:Addr):Prop where
 Vj:PySem.W.plainGet K C Str.empty=true
 hd:PySem.W.hasDictIn K C=true
 Vk:PySem.W.plainOver K C=true
 sa:PySem.W.findIn K (.ref C) "__setattr__"=some (some (.builtin "object.__setattr__"))
theorem b9.get{K:PySem.W.Frag}{C:Addr}(c:b9 K C)(f:Str):PySem.W.plainGet K C f=true:=c.Vj
def dP(K:PySem.W.Frag)(C:Addr)(f:Str):Prop:=PySem.W.findIn K (.ref C) f=some none
theorem dP.FK{K:PySem.W.Frag}{C:Addr}{f:Str}(n:dP K C f):PySem.W.takerIn K C f=some none:=by
 unfold PySem.W.takerIn;rw[show PySem.W.findIn K (.ref C) f=some none from n];rfl
structure jI(K:PySem.W.Frag)(C:Addr)(m:Str)(f:Addr):Prop where
 bf:PySem.W.findIn K (.ref C) m=some (some (.ref f))
 fn:PySem.W.isFn K (.ref f)=true
 kp:PySem.W.keepIn K (.ref f)=true
section
variable{X:Cx}{a':List (Addr×Obj)}{σ:St}{H:Hp}{s:Shared}{a C dx:Addr}{fs:List (Str×V)}{f:Str}{v:V}{A:Around}{E:Value->Shared->Prop}
theorem FL{prog:Program}{w:World}{env:Env}{e:Expr}{f:Str}{pos:Pos}{s:Shared}{Q:Value->Shared->Prop}(hb:attributeBase e f env (eval e env)=eval e env)
  (h:wpAny (model prog w) A (eval e env) (λo s₁=>wpAny (model prog w) A (getAttr o f true) Q E s₁) E s):wpAny (model prog w) A (eval (.Attribute e f pos) env) Q E s:=
 Attribute_any_ h (by rw[arm_eval_Attribute,hb])
end
end L2
namespace L2
open PySem PySem.Spec PyProof.Rows
section
variable{X:Cx}{Wn:RN}{k:Nat}{f C:Addr}{fd:FuncData}{ps:List Str}{sp:Sp}{bo:List V}{ds:List Value}{E:XK}{x m:Str}{p pos co:Pos}{e o:Expr}{es:List Expr}{ta:TE}{t:TA}
structure Mk(K:PySem.W.Frag)(C f:Addr):Prop where
 FN:PySem.W.makesIn K C=true
 init:PySem.W.findIn K (.ref C) "__init__"=some (some (.ref f))
 fn:PySem.W.isFn K (.ref f)=true
 kp:PySem.W.keepIn K (.ref C)=true
end
end L2
namespace L2
open PySem PySem.Spec PyProof.Rows
end L2
namespace L2
open PySem PySem.Spec PyProof.Rows PySem.W
theorem FP(xs:Array Value):((Xu xs.size).filterMap λ(k:Nat)=>xs[(((xs.size:Int)-1)+(k:Int) * (-1)).toNat]?).toArray=xs.toList.reverse.toArray:=by
 congr 1
 have k9:∀(l:List Nat),(∀k∈l,k<xs.size)->l.filterMap (λ(k:Nat)=>xs[(((xs.size:Int)-1)+(k:Int) * (-1)).toNat]?)=l.map λk=>xs.toList.getD (xs.size-1-k) XZ:=by
  intro l
  induction l with
  |nil=>intro _;rfl
  |cons k l ih=>
   intro h;have hk':k<xs.size:=h k WZ;have e1:(((xs.size:Int)-1)+(k:Int) * (-1)).toNat=xs.size-1-k:=(by lia);have e2:xs[(((xs.size:Int)-1)+(k:Int) * (-1)).toNat]?=some (xs.toList.getD (xs.size-1-k) XZ):=by
    rw[e1,Xn,<- Yc,WW (by rw[Xg];lia)];rfl
   rw[List.filterMap_cons,e2,W0,ih λz hz=>h z (WY _ hz)]
 rw[k9 _ λk hk=>List.mem_range.mp hk];apply List.ext_getElem?;intro i;by_cases hi:i<xs.size
 ·rw[W8,List.getElem?_range hi,List.getElem?_reverse (by rw[Xg];exact hi),Xg];show some (xs.toList.getD (xs.size-1-i) XZ)=_;rw[Xn,WW (by rw[Xg];lia)];rfl
 ·rw[Y7 (by simpa using hi),Y7 (by simpa using hi)]
section
variable{prog:Program}{w:World}{A:Around}{E:Value->Shared->Prop}{s:Shared}
theorem FQ{t sl:Addr}{items:Array Value}{tk:Tok}{Q:Value->Shared->Prop}(ht:IsTup s.heap t items)(hs:s.heap.IsSliceOf sl .none .none (.int (-1) tk))
  (h:Q (.ref s.heap.objs.size) { s with heap:=s.heap.push { cls:=.type "tuple",data:=.seq items.toList.reverse.toArray } })
  (hsz:items.size<=sizeLine):wpAny (model prog w) A (getItem (.ref t) (.ref sl)) Q E s:=by
 have ge:sizeOk (.seq items.toList.reverse.toArray):=by
  show items.toList.reverse.toArray.size<=sizeLine;rw[WV,YD,Xg];exact hsz
 obtain⟨os,cS,hcs,dL⟩:=id hs;have k8:s.TypeIs (.ref sl) "slice":=⟨os,cS,hcs⟩;unfold getItem
 try with_reducible refine XN ?_
 first |refine WO (WS ?_) |skip
 refine WO (wpAny_sequenceKey ht.typeIs (by decide) ?_);refine WO (Xm (name:=Yp "__getitem__") ht.typeIs X9
  (Xp X9 ht.typeIs entry_tuple_getitem ?_ (args_tuple_getitem _ _)))
 show wpAny _ _ (Builtin.Tuple.tupleItemsOf (.ref t) >>= _) _ _ s;refine WO (tupleItemsOf_ ht ?_);refine WO (wpAny_typeOf k8 ?_);rw[if_pos (by decide)];have Vl:∀{Q:Int×Int×Nat->Shared->Prop}{E:Value->Shared->Prop}{A:Around},Q ((items.size:Int)-1,-1,items.size) s->wpAny (model prog w) A (Y0 (.ref sl) (pure (items.size:Int))) Q E s:=by
  intro Q E A q;unfold Y0 Builtin.Slice.sliceFields;refine WO (WO (XH cS dL (x:=.none) rfl (WO (XH cS dL (x:=.none) rfl (WO (XH cS dL (x:=.int (-1) tk) rfl (WS ?_)))))));refine WO (slicePart_int ?_);show wpAny _ _ (if ((-1:Int) == 0)=true then _ else _) _ _ s
  rw[if_neg (by decide)];refine WO (slicePart_none (WO (slicePart_none (WO (WS ?_)))));refine WS ?_;have e:Ye ((items.size:Int)-1) (-1) (-1)=items.size:=by
   unfold Ye;rw[if_neg (by decide)];split
   ·have:((items.size:Int)-1 - -1-1) / (- -1)=(items.size:Int)-1:=(by rw[show (- -1:Int)=1 from rfl,Int.ediv_one];lia);lia
   ·lia
  show Q ((items.size:Int)-1,-1,Ye ((items.size:Int)-1) (-1) (-1)) s;rw[e];exact q
 refine WO (Vl ?_);show wpAny _ _ (if (((items.size:Int)-1 == 0) && (-1:Int) == 1 && (items.size == items.size))=true then _ else _) _ _ s
 rw[if_neg (by simp),FP]
 first
  |exact WO (m:=XY _) (Xx (WS ⟨_,rfl,WS h⟩) ge)
  |exact WO (m:=XY _) (Xx (WO (WS (WS ⟨_,rfl,WS h⟩))) ge)
  |exact WO (WO (m:=XY _) (Xx (WS (WS ⟨_,rfl,WS h⟩)) ge))
  |exact WO (WO (m:=XY _) (Xx (WS ⟨_,rfl,WS h⟩) ge))
end
end L2
namespace L2
open PySem PySem.Spec PyProof.Rows
theorem FR{α:Type}(l:List α):l.eraseIdx (l.length-1)=l.dropLast:=by
 induction l with
 |nil=>rfl
 |cons a r ih=>
  cases r with
  |nil=>rfl
  |cons b r=>
   have e:(a::b::r).length-1=((b::r).length-1)+1:=by
    have h1:(a::b::r).length=r.length+2:=rfl;have h2:(b::r).length=r.length+1:=rfl;lia
   rw[e,List.eraseIdx_cons_succ,ih]
   all_goals rfl
end L2
namespace L2
open PySem PySem.Spec PyProof.Rows
end L2
end
section
set_option maxHeartbeats 1000000
namespace N
open PySem PySem.Spec PyProof.Rows L2
def b4(d:D)(M:Mp)(k:List (Key×D)->Prop):Prop:=match d with
 |.ag ks ds=>k (ks.zip ds)
 |.ref a=>∃kvs,M a=some (.ag kvs)/\k kvs
 |_=>False
structure jJ(G:Gx)(F:Fz)(h:Heap)(a:Addr)(kvs:List (Key×D))(vs:List (Key×Value)):Prop where
 r:KV G F kvs vs
 d:h.DictOf (bx G.P G.w) a vs
 z:kvs.length<=sizeLine
 n:(a == sysModules)=false
theorem KV.zip{G:Gx}{F:Fz}:∀{ks:List Key}{ds:List D}{us:List Value},ae G F ds us->KV G F (ks.zip ds) (ks.zip us)
 |[],ds,us,_=>by rw[List.zip_nil_left,List.zip_nil_left];exact .nil
 |k::ks,[],us,r=>by rw[ae]at r;subst r;exact .nil
 |k::ks,d::ds,us,r=>by rw[ae]at r;obtain⟨u,us,rfl,r1,r2⟩:=r;exact .cons ⟨rfl,r1⟩ (KV.zip r2)
section
variable{X:Cx}{τ:St}{z:Z}{d:D}{u:Value}{a:Addr}
theorem ab.gm(I:ab X τ z){kvs:List (Key×D)}(h:z.M a=some (.ag kvs)):∃vs,jJ X.G z.F z.s.heap a kvs vs:=by
 obtain⟨_,h1,h2,vs,r,dd⟩:=I.hok.ob a _ h;exact⟨vs,r,dd,h1,h2⟩
theorem ab.b4{k:List (Key×D)->Prop}(I:ab X τ z)(r:aa X.G z.F d u)(h:b4 d z.M k):∃a kvs vs,u=.ref a/\jJ X.G z.F z.s.heap a kvs vs/\k kvs:=by
 unfold N.b4 at h;split at h
 ·rw[aa]at r;obtain⟨a,o,us,e,h1,h2,h4,h3⟩:=r;obtain⟨es,ep,g1,g2,g3⟩:=h2.bf;refine⟨a,_,_,e,⟨KV.zip h3,⟨o,es,ep,I.hok.fz a _ h1,h2.ex,g1,g2,g3,?_⟩,?_,h4⟩,h⟩
  ·rw[List.map_fst_zip (Y8 h2.len.symm)];exact h2.nd
  ·rw[Yu];exact W2 (Nat.min_le_left _ _) h2.sz
 ·rw[aa]at r;obtain⟨kvs,h1,h2⟩:=h;obtain⟨vs,l⟩:=I.gm h1;exact⟨_,kvs,vs,r,l,h2⟩
 ·exact h.elim
end
def dQ(d:D)(k:Key->Prop):Prop:=match d with
 |.int i=>k (.inl i)
 |.str x=>k (.inr x)
 |_=>False
noncomputable def aK(kvs:List (Key×D))(k:Key):Option D:=(kvs.find? λkv=>decide (kv.1=k)).map (·.2)
noncomputable def aZ(kvs:List (Key×D))(k:Key)(v:D):List (Key×D):=
 if (kvs.any λkv=>decide (kv.1=k))=true then kvs.map (λkv=>if kv.1=k then (kv.1,v) else kv) else kvs++[(k,v)]
theorem jK(kvs:List (Key×D))(k:Key)(v:D):(aZ kvs k v).length<=kvs.length+1:=by
 unfold aZ;split
 ·rw[WQ];exact YR _
 ·rw[W3];exact WU _
theorem jL{G:Gx}{F:Fz}{P:Program}{w:World}{d:D}{k:Key->Prop}{u:Value}(h:dQ d k)(r:aa G F d u):∃x,(bx P w).is x u=true/\k x:=by
 unfold dQ at h;split at h
 ·rw[aa]at r;obtain⟨t,rfl⟩:=r;exact⟨_,xd P w _ t,h⟩
 ·rw[aa]at r;obtain⟨t,rfl⟩:=r;exact⟨_,xf P w _ t,h⟩
 ·exact h.elim
theorem KV.val{G:Gx}{F:Fz}{kvs:List (Key×D)}{vs:List (Key×Value)}(r:KV G F kvs vs)(k:Key):f9 G F (aK kvs k) (valueAt vs k):=by
 unfold KV at r
 induction r with
 |nil=>exact True.intro
 |@cons p q ps qs h t ih=>
  by_cases e:p.1=k
  ·have e':q.1=k:=h.1.symm.trans e;rw[show valueAt (q::qs) k=some q.2 by simp [valueAt,Yo,e'],show aK (p::ps) k=some p.2 by simp [aK,Yo,e]];exact h.2
  ·have e':¬q.1=k:=λz=>e (h.1.trans z);rw[show valueAt (q::qs) k=valueAt qs k by simp [valueAt,Yo,e'],show aK (p::ps) k=aK ps k by simp [aK,Yo,e]];exact ih
theorem f9.so{G:Gx}{F:Fz}{o:Option D}{u:Option Value}(r:f9 G F o u):o.isSome=u.isSome:=by
 cases o <;> cases u <;> first |rfl |exact r.elim
theorem KV.put{G:Gx}{F:Fz}{kvs:List (Key×D)}{vs:List (Key×Value)}(r:KV G F kvs vs)(k:Key){y:D}{u:Value}(UH:aa G F y u):KV G F (aZ kvs k y) (stored vs k u):=by
 have any:(kvs.any λkv=>decide (kv.1=k))=vs.any λkv=>decide (kv.1=k):=by
  unfold KV at r
  induction r with
  |nil=>rfl
  |cons h t ih=>rw[List.any_cons,List.any_cons,h.1,ih]
 unfold aZ stored;rw[any];by_cases e:(vs.any λkv=>decide (kv.1=k))=true
 ·rw[if_pos e,if_pos e];clear e any;unfold KV at r ⊢
  induction r with
  |nil=>exact .nil
  |@cons p q ps qs h t ih=>
   refine .cons ?_ ih;dsimp only;by_cases e:p.1=k
   ·rw[if_pos e,if_pos (h.1.symm.trans e)];exact⟨h.1,UH⟩
   ·rw[if_neg e,if_neg λz=>e (h.1.trans z)];exact h
 ·rw[if_neg e,if_neg e];exact Paired.snoc r ⟨rfl,UH⟩
def sI(C:Int->Int->Prop)(f:Int->Int->Int):Q2:=λx y M Q=>bI x λi=>bI y λj=>C i j/\Q (.int (f i j)) M
def qS(f:Int->Int->Int):Q2:=λx y M Q=>bI x λi=>bI y λj=>Q (.int (f i j)) M
def CM(i j:Int):Prop:=qM i j\/Ff i j
noncomputable def nN(a:Addr):Option MO->D
 |some (.lst ds)=>.lst ds
 |_=>.ref a
noncomputable def bP(d:D)(M:Mp):D:=match d with
 |.ref a=>nN a (M a)
 |d=>d
def lg:Q2:=λx y M Q=>match x,y with
 |.int i,.int j=>Q (.int (i+j)) M
 |.str a,.str b=>a.length+b.length<=sizeLine/\Q (.str (a++b)) M
 |.tup a,.tup b=>a.length+b.length<=sizeLine/\Q (.tup (a++b)) M
 |x,y=>bg x M λa=>bg y M λb=>a.length+b.length<=sizeLine/\bS (a++b) M Q
def qT:Q2:=λx y M Q=>match x with
 |.int i=>bI y λj=>CM i j/\Q (.int (i * j)) M
 |x=>bg x M λds=>bI y λk=>-(2 ^ 63)<=k/\k<2 ^ 63/\ds.length * k.toNat<=sizeLine/\bS (XS k.toNat ds).flatten M Q
def qU:Operator->Q2
 |.Add=>lg
 |.Sub=>qS λi j=>i-j
 |.Mult=>qT
 |.FloorDiv=>sI (λ_ j=>0<j/\j<2 ^ 200) λi j=>i / j
 |.Mod=>sI (λ_ j=>0<j) λi j=>i % j
 |.Pow=>sI xg λi j=>i ^ j.toNat
 |.LShift=>sI xg λi j=>i * 2 ^ j.toNat
 |.RShift=>sI (λ_ j=>0<=j) λi j=>i / 2 ^ j.toNat
 |.BitAnd=>qS λi j=>Builtin.bitAnd i j
 |_=>λ_ _ _ _=>False
section
variable{X:Cx}
theorem lj{f:Value->Value->Sem Value}{C:Int->Int->Prop}{g:Int->Int->Int}(rule:∀(i j:Int)(t u:Tok)(s:Shared)(Q E:Value->Shared->Prop),C i j->Q (.int (g i j) s.toks) { s with toks:=s.toks+1 }->wpAny (model X.G.P X.G.w) X.A (f (.int i t) (.int j u)) Q E s):O2 X f (sI C g):=fun τ z Q R d e v u I r1 r2 q k=>by
 obtain⟨i,t,rfl,q⟩:=cn q r1;obtain⟨j,t',rfl,hc,q⟩:=cn q r2;exact rule i j t t' z.s _ _ hc (I.fin k Le.rfl bM q _)
theorem xw{f:Value->Value->Sem Value}{g:Int->Int->Int}(rule:∀(i j:Int)(t u:Tok)(s:Shared)(Q E:Value->Shared->Prop),Q (.int (g i j) s.toks) { s with toks:=s.toks+1 }->wpAny (model X.G.P X.G.w) X.A (f (.int i t) (.int j u)) Q E s):O2 X f (qS g):=fun τ z Q R d e v u I r1 r2 q k=>by
 obtain⟨i,t,rfl,q⟩:=cn q r1;obtain⟨j,t',rfl,q⟩:=cn q r2;exact rule i j t t' z.s _ _ (I.fin k Le.rfl bM q _)
theorem ae.app{G:Gx}{F:Fz}:∀{ds es:List D}{us vs:List Value},ae G F ds us->ae G F es vs->ae G F (ds++es) (us++vs)
 |[],es,us,vs,r,r'=>by rw[ae]at r;subst r;exact r'
 |d::ds,es,us,vs,r,r'=>by rw[ae]at r;obtain⟨u,us,rfl,r1,r2⟩:=r;exact .cons r1 (ae.app r2 r')
theorem ae.nl{G:Gx}{F:Fz}{ds:List D}{us:List Value}(r:ae G F ds us):us=[] ↔ ds=[]:=by
 rw[<- List.length_eq_zero_iff,<- List.length_eq_zero_iff,r.len]
theorem FT:O2 X (binaryOp .Add) lg:=fun τ z Q R d e v u I r1 r2 q k=>by
 have lst:∀{d e:D},aa X.G z.F d v->aa X.G z.F e u->(bg d z.M λa=>bg e z.M λb=>a.length+b.length<=sizeLine/\bS (a++b) z.M Q)->W X (binaryOp .Add v u) R z.s:=λr1 r2 q=>by
  obtain⟨a,ds,us,n,rfl,l,q⟩:=I.bg r1 q;obtain⟨b,es,vs,n',rfl,l',hz,q⟩:=I.bg r2 q;have hz':us.length+vs.length<=sizeLine:=by rw[<- l.r.len,<- l'.r.len];exact hz
  refine PySem.P.add_list l.e l'.e ?_ (by rw[WV,WV];exact hz');rw[show us.toArray++vs.toArray=(us++vs).toArray by simp];exact I.lst (t:=z.s.toks) (n:=0) k Le.rfl (l.r.app l'.r) (λb o e=>WR _ e) (WU _) (WX _ rfl) (by rw[W3];exact hz') q
 unfold lg at q;split at q
 ·rw[aa]at r1 r2;obtain⟨t,rfl⟩:=r1;obtain⟨t',rfl⟩:=r2;exact add_int (I.fin k Le.rfl bM q _)
 ·rw[aa]at r1 r2;obtain⟨t,rfl⟩:=r1;obtain⟨t',rfl⟩:=r2;exact add_str (λt' tk=>I.fin k Le.rfl fy q.2 _) q.1
 ·obtain⟨a,us,o,rfl,l⟩:=I.cD r1;obtain⟨b,vs,o',rfl,l'⟩:=I.cD r2;rename_i ds es;have hz:us.length+vs.length<=sizeLine:=by rw[<- l.r.len,<- l'.r.len];exact q.1
  by_cases hx:us=[]
  ·cases l.r.nl.mp hx;subst hx;obtain⟨⟨cls,dd,data,sl⟩,ho,hc,n,hd⟩:=id l.p;obtain⟨⟨wP,iO,wS,k7⟩,eg,f8,n2,g8⟩:=id l'.p;simp only at hc hd f8 g8;subst hc hd f8 g8;exact concat_meets ⟨_,ho,rfl⟩ ⟨_,eg,rfl⟩ noFill_tuple_add seq_tuple_add PySem.F.slot_tuple_add PySem.F.entry_tuple_add (PySem.F.args_tuple_add_2 _ _)
    (tuple_addW0 a b _ vs.toArray n n2 dd iO sl k7 (by simp)) ⟨ho,eg,k (.tup es) z _ Le.rfl I r2 q.2⟩
  ·refine HT.Fe l.p l'.p hx (λe=>?_) (λe=>?_) hz
   ·rw[l'.r.nl.mp e,Xc]at q;exact k (.tup ds) z _ Le.rfl I r1 q.2
   ·exact I.tup (t:=z.s.toks) k Le.rfl (l.r.app l'.r) (λb o e=>WR _ e) (WU _) (WX _ rfl) ⟨rfl,rfl,⟨_,rfl⟩,by rw[W3];exact hz⟩ q.2
 ·exact lst r1 r2 q
end
end N
end
section
namespace L2
open PySem PySem.Spec PyProof.Rows PySem.W
section
variable{X:Cx}
section
open PySem.AutoSeq1 (wpAny_loadPart')
open PySem.MeetsSeq PySem.MeetsSeq2 PySem.MeetsSeq3 PySem.SeqAt
theorem FU(l b:Addr)(xs ys:Array Value)(n m:Nat)(dd:Option Addr)(sl:Array (Option Value))(Wq:¬(!xs.isEmpty && Ys (xs.size+ys.size))=true)(c1:xs.size<=sizeLine)(c2:xs.size+ys.size<=sizeLine+1):
  Meets (Builtin.«list.extend» ⟨[.ref l,.ref b],[]⟩) (λ_ R s=>s.heap.get? l=some (seqObj "list" xs n)/\s.heap.get? b=some { cls:=.type "tuple",dict:=dd,data:=.seq ys m,slots:=sl }/\R (.ok (.ret .none)) { s with heap:=s.heap.update l (Xs (·++ys)),toks:=s.toks }):=
 .of_wp λprog w A R s ⟨h1,h2,h3⟩=>by
  obtain⟨hp,g,d,tk,os⟩:=s;have f1:=AutoSeq1.idx_int;have f2:=AutoSeq1.sub_tuple_tuple;have f3:=AutoSeq1.sub_list_list;have f4:=AutoSeq1.sub_tuple_list;have f5:=AutoSeq1.sub_list_tuple;have c3:(xs++ys).size<=sizeLine+1:=by rw[Array.size_append];exact c2
  wp_walk using (wpAny_updateSeq h1 rfl (hz:=c1) (_hz':=c3)),Xv h1,Xv h2
  exact⟨_,rfl,h3⟩
end
end
end L2
namespace L2
open PySem PySem.Spec PyProof.Rows
theorem qV{env:Env}:∀(names:List (Str×NameKind))(acc:List (Str×Addr)),(∀ y∈names,y.2=.free->∃ c,env.cells.lookup y.1=some c) ->
  (∀x c,acc.lookup x=some c->env.cells.lookup x=some c) ->
  ∃cl,(forIn names acc (λy cs=>if (y.2 == YI)=true then (cellOf env y.1 >>= λc=>pure (YO ((y.1,c)::cs))) else pure (YO cs)):Sem (List (Str×Addr)))=pure cl /\
   (∀x c,cl.lookup x=some c->env.cells.lookup x=some c)/\(∀y∈names,y.2=.free->∃c,cl.lookup y.1=some c)/\∀x c,acc.lookup x=some c->∃c',cl.lookup x=some c'
 |[],acc,_,ha=>⟨acc,rfl,ha,λy hy=>(nomatch hy),λx c h=>⟨c,h⟩⟩
 |(n,k)::r,acc,h,ha=>by
  by_cases hk:k=.free
  ·subst hk;obtain⟨c,hc⟩:=h (n,.free) WZ rfl;have FM:∀ x c',((n,c)::acc).lookup x=some c'->env.cells.lookup x=some c':=λx c' q=>by
    rw[Xh]at q;cases e:x == n with
    |true=>
     rw[e]at q;cases q;rw[eq_of_beq e];exact hc
    |false=>
     rw[e]at q;exact ha x c' q
   obtain⟨cl,e1,e2,e3,e4⟩:=qV r ((n,c)::acc) (λy hy=>h y (WY _ hy)) FM;refine⟨cl,?_,e2,λy hy hf=>?_,λx c' q=>?_⟩
   ·rw[List.forIn_cons];have ec:cellOf env n=pure c:=(by unfold cellOf;rw[hc]);simp only[beq_self_eq_true,if_true,ec,pure_bind];exact e1
   ·rcases List.mem_cons.mp hy with rfl |hy
    ·exact e4 n c (by simp)
    ·exact e3 y hy hf
   ·cases e:x == n with
    |true=>exact e4 x c (by rw[Xh,e])
    |false=>exact e4 x c' (by rw[Xh,e];exact q)
  ·obtain⟨cl,e1,e2,e3,e4⟩:=qV r acc (λy hy=>h y (WY _ hy)) ha;refine⟨cl,?_,e2,λy hy hf=>?_,e4⟩
   ·rw[List.forIn_cons];have hb:(k == YI)=false:=(by simpa using hk);simp only[hb,Bool.false_eq_true,if_false,pure_bind];exact e1
   ·rcases List.mem_cons.mp hy with rfl |hy
    ·exact absurd hf hk
    ·exact e3 y hy hf
theorem xx{scope:Scope}{env:Env}(h:∀ y∈scope.names,y.2=.free->∃ c,env.cells.lookup y.1=some c):
  ∃cl,closureFor scope env=pure cl/\(∀x c,cl.lookup x=some c->env.cells.lookup x=some c)/\∀y∈scope.names,y.2=.free->∃c,cl.lookup y.1=some c:=by
 obtain⟨cl,e1,e2,e3,_⟩:=qV (env:=env) scope.names [] h (λx c q=>by simp at q);refine⟨cl,?_,e2,e3⟩;unfold closureFor
 first
  |exact e1
  |(simp only[bind_pure_comp,map_pure,bind_pure]at e1 ⊢;exact e1)
  |(rw[show (forIn scope.names [] _:Sem (List (Str×Addr)))=pure cl from e1];rfl)
theorem xy{env:Env}:∀{names:List (Str×NameKind)}{x:Str},names.lookup x=some .free ->
  let l:=(names.map λ(n,k)=>if (k == YI && env.scope.kind == .function && env.kindOf n == some .cell) then (n,NameKind.cell) else (n,k)).lookup x
  l=some .cell\/l=some .free
 |[],_,h=>by simp at h
 |(n,k)::r,x,h=>by
  have ih:=@xy env r x;simp only at ih ⊢;rw[W0];cases hx:x == n with
  |true=>
   rw[Xh,hx]at h;cases h;by_cases hc:(YI == YI && env.scope.kind == .function && env.kindOf n == some .cell)=true
   ·left;simp only[hc,if_true,Xh,hx]
   ·right;simp only[if_neg hc,Xh,hx]
  |false=>
   rw[Xh,hx]at h;by_cases hc:(k == YI && env.scope.kind == .function && env.kindOf n == some .cell)=true
   ·simp only[if_pos hc,Xh,hx];exact ih h
   ·simp only[if_neg hc,Xh,hx];exact ih h
theorem qW{env:Env}:∀{names:List (Str×NameKind)}{x:Str}{k':NameKind},(∀ y∈names,y.2≠.cell)->(k'=.cell\/k'=.free) ->
  (names.map λ(n,k)=>if (k == YI && env.scope.kind == .function && env.kindOf n == some .cell) then (n,NameKind.cell) else (n,k)).lookup x=some k'->(x,YI)∈names
 |[],_,_,_,_,h=>by simp at h
 |(n,k)::r,x,k',hn,hk,h=>by
  rw[W0]at h;cases hx:x == n with
  |true=>
   have e:x=n:=eq_of_beq hx;subst e;by_cases hc:(k == YI && env.scope.kind == .function && env.kindOf x == some .cell)=true
   ·have hf:k=.free:=by
     simp only[WT,beq_iff_eq]at hc;exact hc.1.1
    subst hf;exact WZ
   ·simp only[if_neg hc,Xh,hx]at h;have e2:k=k':=Xl h;subst e2;rcases hk with rfl |rfl
    ·exact absurd rfl (hn _ WZ)
    ·exact WZ
  |false=>
   have ih:=@qW env r x k' (λy hy=>hn y (WY _ hy)) hk;by_cases hc:(k == YI && env.scope.kind == .function && env.kindOf n == some .cell)=true
   ·simp only[if_pos hc,Xh,hx]at h;exact WY _ (ih h)
   ·simp only[if_neg hc,Xh,hx]at h;exact WY _ (ih h)
theorem FV{prog:Program}{w:World}{A:Around}{s:Shared}{a7 tg iter:Expr}{a1:List Expr}{scope:Scope}{pos:Pos}{it acc:Value}{env:Env}{P:Shared->Prop}{R:Result->Shared->Prop}
  (Tt:∀s',P s'->R (.ok .next) s') (J:Nat->Shared->Prop)
  (turn:∀n s,J n s->wpAny (model prog w) A (pyNext it) (λr s1=>match r with
   |none=>P s1
   | some v=>wpAny (model prog w) A (letOwnedTupleGo tg it v) (λ_ s2=>wpAny (model prog w) A (assign tg env v) (λ_ s3=>
     wpAny (model prog w) A (forIn a1 true λc r=>if r=true then do let ok <- isTrue c env (eval c env);pure (YO ok) else pure (YO r)) (λok s4=>
      if ok=true then wpAny (model prog w) A (eval a7 env) (λx s5=>
       wpAny (model prog w) A (call (.builtin "list.append") [acc,x]) (λ_ UI=>∃m,m<n/\J m UI) (λ_ _=>False) s5) (λ_ _=>False) s4
      else ∃m,m<n/\J m s4) (λ_ _=>False) s3) (λ_ _=>False) s2) (λ_ _=>False) s1) (λ_ _=>False) s)
  (n:Nat) (h:J n s):codeAny (model prog w) A (.compLoop (.ListComp a7 [⟨tg,iter,a1,0⟩] scope pos) 0 it acc env) R s:=by
 refine codeAny_loop rfl J (λn s hJ=>?_) n h;show wpAny _ A ((compTurn (.ListComp a7 [⟨tg,iter,a1,0⟩] scope pos) 0 it acc env).onRaise (λx=>do noteFrame x env;theTreesLotGoes x)) _ _ s
 refine wpAny_noted (Y5 (E:=λ_ _=>False) ?_ (λ_ _ q=>q) λ_ _ q=>q.elim);rw[compTurn_list];refine WO (wpAny_standAt (WO (eQ (turn n s hJ) λr s1 h1=>?_)));cases r with
 |none=>exact WS (Tt _ h1)
 |some v=>
  refine WO (eQ h1 λ_ s2 h2=>WO (eQ h2 λ_ s3 h3=>WO (eQ h3 λok s4 h4=>?_)));cases ok with
  |false=>exact WS ⟨rfl,h4⟩
  |true=>exact WO (WO (eQ h4 λx s5 h5=>WO (eQ h5 λ_ UI h6=>WS (WS ⟨rfl,h6⟩))))
end L2
namespace L2
open PySem PySem.Spec PyProof.Rows PySem.W
def xA(t T:String)(b:Bool):Prop:=∀K:PySem.W.Frag,PySem.W.kitOne K (.type t) (.type T)=some b
theorem qX(t:String):xA t t true:=λK=>by unfold PySem.W.kitOne;rw[if_pos (by simp)]
theorem FW:xA "int" "str" false:=λK=>by kernel_rfl
end L2
namespace L2
open PySem PySem.Spec PyProof.Rows
noncomputable def bU:Expr->Bool
 |.Starred _ _=>false
 |_=>true
noncomputable def bh:List Expr->Bool
 |[]=>true
 |e::es=>bU e && bh es
theorem bJ{env:Env}{e:Expr}{es:List Expr}(h:bU e=true):starEach (e::es) env=(false,eval e env)::starEach es env:=by
 cases e <;> first |rfl |exact absurd h Xi
theorem eR{env:Env}{pos:Pos}:∀{es:List Expr},bh es=true->(backTo pos (starEach es env)).any (·.1)=false
 |[],_=>rfl
 |e::es,h=>by
  have h':(bU e && bh es)=true:=h;rw[WT]at h';rw[bJ h'.1];show (false ||(backTo pos (starEach es env)).any (·.1))=false;rw[eR h'.2];rfl
end L2
namespace L2
open PySem PySem.Spec PyProof.Rows
section
variable{X:Cx}{pos:Pos}{a b c e o:Expr}{es:List Expr}{ta tb tc te to:TE}{t u:TS}{Wr Ws:TT}{tA:TA}{st:Stmt}{rest:List Stmt}
theorem xB{env:Env}{cpos:Pos}{es:List Expr}(h:bh es=true)(hl:es.length<29):
  ((backTo cpos (starEach es env)).all (λx=>!x.1) && (backToKw cpos (keywordEach [] env)).all (λx=>x.1.isSome)
   && decide (es.length+([]:List Keyword).length+(if ([]:List Keyword).isEmpty then 0 else 1)<30))=true:=by
 have h1:(backTo cpos (starEach es env)).all (λx=>!x.1)=true:=by
  have:=eR (env:=env) (pos:=cpos) h;rw[List.all_eq_not_any_not];simpa using this
 have h2:(backToKw cpos (keywordEach [] env)).all (λx=>x.1.isSome)=true:=rfl;rw[h1,h2];simp;lia
variable{tg iter:Expr}{wi:TI}{g:TG}
variable{a1:List Expr}{scope:Scope}{Nt:List Str}{fr:List (Str×Nat)}{Tu:ZC->TG}{tz:ZC->TT}{UJ:ZC->TE}
end
end L2
namespace PL
open PySem L2
noncomputable def fE:Expr->Bool
 |.Call (.Name x _) [] [] _=>x == "super"
 |_=>false
theorem jM{o:Expr}{f:Str}{env:Env}{s:Sem Value}(h:fE o=false):attributeBase o f env s=s:=by
 unfold attributeBase;split
 ·rename_i id _ _;have h:(id == ("super" : Str))=false:=h;have h':(id != ("super" : Str))=true:=by rw[bne,h];rfl
  rw[h',Bool.true_or,Bool.true_or,Bool.true_or];rfl
 ·rfl
end PL
namespace L2
open PySem
noncomputable def lq(sc:Scope)(N:List Str)(scope:Scope)(fr:List (Str×Nat)):Bool:=
 (scope.kind == .function) && scope.names.all (λy=>decide (y.2≠.cell)) && scope.names.all (λy=>decide (y.2=.local->scope.names.lookup y.1=some .local)) &&
  scope.names.all (λy=>decide (y.2=.free->sc.names.lookup y.1=some .cell)) && fr.all (λp=>decide (N[p.2]?=some p.1) && decide (scope.names.lookup p.1=some .free))
end L2
namespace L2
open PySem PySem.Spec PyProof.Rows
noncomputable def eS(s:Stmt):Arguments:=match s with
 |.FunctionDef _ a _ _ _ _ _ _ _ _=>a
 |_=>{ posonlyargs:=[],args:=[],vararg:=none,kwonlyargs:=[],kw_defaults:=[],kwarg:=none,defaults:=[] }
noncomputable def aD(s:Stmt):List Stmt:=match s with
 |.FunctionDef _ _ b _ _ _ _ _ _ _=>b
 |_=>[]
noncomputable def ah(s:Stmt):Scope:=match s with
 |.FunctionDef _ _ _ _ _ _ sc _ _ _=>sc
 |_=>{ kind:=.function,names:=[],isGenerator:=false,isCoroutine:=false }
structure ej(K:PySem.W.Frag)(x qual:Str)(st:Stmt)(f:Addr)(fd:FuncData):Prop where
 ex:∃(oc:Value)(od:Option Addr)(kV am pm:Value)(an:Option Addr)(al ct:Value)(cq:Array (Option Value)),
  fd=PySem.W.fnOf x qual (eS st) (aD st) (ah st) .none kV am pm an al ct/\K.lookup f=some ⟨oc,od,.func fd,cq⟩/\PySem.W.codeIn K al qual=true
 kp:PySem.W.keepIn K (.ref f)=true
section
variable{P:Program}{w:World}{K:PySem.W.Frag}{mg:Str->Option Value}{base:Heap}
theorem ej.iP{x qual:Str}{st:Stmt}{f:Addr}{fd:FuncData}{ps:List Str}(F:ej K x qual st f fd)
  (h:∀(kV am pm:Value)(an:Option Addr)(al ct:Value)(us:List Value),us.length=ps.length->bindArgs (PySem.W.fnOf x qual (eS st) (aD st) (ah st) .none kV am pm an al ct) ⟨us,[]⟩=pure (ps.zip us)):bO K fd ps []:=by
 obtain⟨oc,od,kV,am,pm,an,al,ct,cq,rfl,lk,ef⟩:=F.ex;exact .all (h kV am pm an al ct)
theorem qY{x qual:Str}{st:Stmt}{f:Addr}{oc:Value}{od an:Option Addr}{cq:Array (Option Value)}{kV am pm al ct:Value}(l:K.lookup f=some ⟨oc,od,.func (PySem.W.fnOf x qual (eS st) (aD st) (ah st) .none kV am pm an al ct),cq⟩)
  (c:PySem.W.codeIn K al qual=true) (k:PySem.W.keepIn K (.ref f)=true):ej K x qual st f (PySem.W.fnOf x qual (eS st) (aD st) (ah st) .none kV am pm an al ct):=⟨⟨oc,od,kV,am,pm,an,al,ct,cq,rfl,l,c⟩,k⟩
end
end L2
namespace L2
open PySem PySem.Spec PyProof.Rows
def xC(P:Program)(w:World)(A:Around)(s:Shared)(x y:Value):Prop:=∀(E:Value->Shared->Prop)(Q:Bool->Shared->Prop),Q true s->wpAny (model P w) A (eqBool x y) Q E s
section
open PySem.AutoSeq1 (wpAny_loadPart')
open PySem.MeetsSeq PySem.MeetsSeq2 PySem.MeetsSeq3 PySem.SeqAt
variable{P:Program}{w:World}{a b:Addr}{xs ys:Array Value}{ea eb:Nat}{da SX:Option Addr}{sa sb:Array (Option Value)}
def xD(P:Program)(w:World)(a b:Addr)(xs ys:Array Value)(ea eb:Nat)(da SX:Option Addr)(sa sb:Array (Option Value)):PySem.Spec:=λA R s=>
 s.heap.get? a=some { cls:=.type "list",dict:=da,data:=.seq xs ea,slots:=sa }/\s.heap.get? b=some { cls:=.type "list",dict:=SX,data:=.seq ys eb,slots:=sb }/\(∀j(h1:j<xs.size)(h2:j<ys.size),xC P w A.in1 s xs[j] ys[j])/\R (.ok (.ret (.bool false))) s
theorem FX(hz:xs.size=ys.size):∀(k i:Nat),xs.size-i=k->MeetsIn P w (Builtin.«list.__eq__.loop» ⟨[.ref a,.ref b,rawInt i,rawInt 3],[]⟩) (xD P w a b xs ys ea eb da SX sa sb):=by
 intro k
 induction k with
 |zero=>
  intro i hk A R s ⟨h1,h2,h3,h4⟩;obtain⟨hp,g,d,tk,os⟩:=s
  wp_walk using Xv h1,Xv h2
  have x1:xs[((i:Nat):Int).toNat]?=none:=by simp;lia
  have x2:ys[((i:Nat):Int).toNat]?=none:=by simp;lia
  rw[x1,x2]
  wp_walk using Xv h1,Xv h2
  show R (.ok (.ret (.bool (xs.size != ys.size)))) _;rw[hz];simpa using h4
 |succ k ih=>
  intro i hk A R s ⟨h1,h2,h3,h4⟩;obtain⟨hp,g,d,tk,os⟩:=s
  wp_walk using Xv h1,Xv h2
  have l1:i<xs.size:=by lia
  have l2:i<ys.size:=by lia
  have x1:xs[((i:Nat):Int).toNat]?=some xs[i]:=by simp [l1]
  have x2:ys[((i:Nat):Int).toNat]?=some ys[i]:=by simp [l2]
  have Vm:((i:Int)+1)=((i+1:Nat):Int):=by lia
  rw[x1,x2];refine WO (h3 i l1 l2 _ _ ?_)
  wp_walk
  rw[Vm];exact⟨Yr plain_eq_loop _,Yl entry_eq_loop (by
   rw[XO plain_eq_loop _];exact ih (i+1) (by lia) A R _ ⟨h1,h2,h3,h4⟩)⟩
theorem FY(hz:xs.size=ys.size):MeetsIn P w (Builtin.«list.__ne__» ⟨[.ref a,.ref b],[]⟩) (xD P w a b xs ys ea eb da SX sa sb):=by
 intro A R s ⟨h1,h2,h3,h4⟩;obtain⟨hp,g,d,tk,os⟩:=s;have f3:=AutoSeq1.sub_list_list;have bn:¬(xs.size != ys.size)=true:=by simp [hz]
 wp_walk using Xv h1,Xv h2
 exact⟨Yr plain_eq_loop _,Yl entry_eq_loop (by
  rw[XO plain_eq_loop _];exact FX hz _ 0 rfl A R _ ⟨h1,h2,h3,h4⟩)⟩
end
end L2
end
section
set_option maxHeartbeats 1000000
namespace N
open PySem PySem.Spec PyProof.Rows L2 PySem.W
def qZ:D->Prop
 |.ag _ ds=>aI ds=true/\aR ds<=50
 |_=>False
section
variable{G:Gx}{F:Fz}{M:Mp}{s:Shared}{A:Around}
theorem xE(ok:aF G F M s.heap)(hu:A.units+60<cLine){kvs:List (Key×D)}{vb:List (Key×Value)}(rb:KV G F kvs vb):∀{ka:List (Key×D)}{va:List (Key×Value)},KV G F ka va->(∀p∈ka,aK kvs p.1=some p.2/\ar p.2=true/\aH p.2<=50)->KeqHits A s vb va true
 |_,_,.nil,_=>.nil
 |p::ka,q::va,.cons wT t,h=>by
  obtain⟨h1,h2,h3⟩:=h p WZ;have hv:=KV.val rb p.1;rw[h1]at hv;cases e:valueAt vb p.1 with
  |none=>rw[e]at hv;exact hv.elim
  |some y=>
   rw[e]at hv;have he:=k6 (G:=G) (F:=F) (M:=M) (A:=A) 50 ok (dg ok wT.2 h2) (dg ok hv h2) h3 (by lia);rw[gk _ h2]at he;exact KeqHits.hit (k:=q.1) (by rw[<- wT.1];exact e) he (xE ok hu rb t λp' nP=>h p' (WY _ nP))
theorem xF:∀{kvs:List (Key×D)},(kvs.map (·.1)).Nodup->∀p∈kvs,aK kvs p.1=some p.2
 |q::r,nd,p,h=>by
  rw[W0,List.nodup_cons]at nd;unfold aK;rw[Yo];rcases List.mem_cons.mp h with e |h
  ·subst e;simp
  ·have:¬q.1=p.1:=λe=>nd.1 (e ▸ List.mem_map.mpr ⟨p,h,rfl⟩);simp only[this,decide_false];exact xF nd.2 p h
theorem xG:∀{ds:List D},aI ds=true->∀d∈ds,ar d=true/\aH d<=aR ds
 |x::r,h,d,hd=>by
  rw[aI,WT]at h;rw[aR];rcases List.mem_cons.mp hd with e |hd
  ·subst e;exact⟨h.1,Nat.le_max_left _ _⟩
  ·obtain⟨h1,h2⟩:=xG h.2 d hd;exact⟨h1,W2 h2 (Nat.le_max_right _ _)⟩
theorem FZ(ok:aF G F M s.heap)(hu:A.units+62<cLine){d:D}{u v:Value}(h:qZ d)(r1:aa G F d u)(r2:aa G F d v):xC G.P G.w A s u v:=by
 cases d with
 |ag ks ds=>
  obtain⟨k1,k2⟩:=h;rw[aa]at r1 r2;have bf:∀{u:Value},(∃a o us,u=.ref a/\F a=some (.dat o)/\kI G o ks us/\(a == sysModules)=false/\ae G F ds us)->∃a vs,u=.ref a/\(a == sysModules)=false/\KV G F (ks.zip ds) vs/\s.heap.DictOf (bx G.P G.w) a vs/\((ks.zip ds).map (·.1)).Nodup:=by
   rintro u ⟨a,o,us,e,h1,h2,h4,h3⟩;obtain⟨es,ep,g1,g2,g3⟩:=h2.bf;refine⟨a,_,e,h4,KV.zip h3,⟨o,es,ep,ok.fz a _ h1,h2.ex,g1,g2,g3,?_⟩,?_⟩
   ·rw[List.map_fst_zip (Y8 h2.len.symm)];exact h2.nd
   ·rw[List.map_fst_zip (Y8 (by rw[h3.len,h2.len]))];exact h2.nd
  obtain⟨a,va,rfl,n1,ra,da,nd⟩:=bf r1;obtain⟨b,vb,rfl,n2,rb,SX,_⟩:=bf r2;intro E Q q;unfold eqBool;refine XN ?_;refine YJ (λ_=>?_) (λ_=>?_)
  ·exact WS (M:=model G.P G.w) (E:=E) q
  have FS:va.length=vb.length:=by rw[<- ra.length,<- rb.length]
  refine WO (keq_eq (knd:=bx G.P G.w) n1 n2 da SX (by lia) (r:=true) (λ_=>xE ok (by show A.units+1+60<cLine;lia) rb ra λp hp=>⟨xF nd p hp,?_⟩) ?_)
  ·obtain⟨h1,h2⟩:=xG k1 p.2 (YV hp).2;exact⟨h1,W2 h2 k2⟩
  rw[FS];refine Yw ?_;simpa using q
 |_=>exact h.elim
end
theorem F3{X:Cx}(hu:X.A.units+110<cLine){τ:St}{z:Z}{ds:List D}{v u:Value}{R:Value->Shared->Prop}(I:ab X τ z)(r1:aa X.G z.F (.lst ds) v)(r2:aa X.G z.F (.lst ds) u)(h:∀d∈ds,qZ d)(q:R (.bool false) z.s):W X (compareOp .NotEq v u) R z.s:=by
 obtain⟨a,us,n,rfl,l⟩:=I.gi r1;obtain⟨b,vs,m,rfl,l'⟩:=I.gi r2;have l1:us.toArray.size=ds.length:=by rw[WV,l.r.len]
 have l2:vs.toArray.size=ds.length:=by rw[WV,l'.r.len]
 obtain⟨⟨cls,dd,data,sl⟩,ho,hc,n,hd⟩:=id l.p.isList;obtain⟨⟨wP,iO,wS,k7⟩,eg,f8,n2,g8⟩:=id l'.p.isList;simp only at hc hd f8 g8;subst hc hd f8 g8;refine wpAny_richCompare_same_room (op:=.NotEq) ⟨_,ho,rfl⟩ ⟨_,eg,rfl⟩ F.slot_list_ne (call_meetsIn F.slot_list_ne ⟨_,ho,rfl⟩ F.entry_list_ne (F.args_list_ne_2 _ _) (FY (P:=X.G.P) (w:=X.G.w) (by rw[l1,l2])) ⟨ho,eg,λj h1 h2=>?_,?_⟩) (by lia)
 ·have g:j<ds.length:=by rw[<- l1];exact h1
  obtain⟨u1,e1,q1⟩:=eM l.r (WW g);obtain⟨u2,e2,q2⟩:=eM l'.r (WW g);rw[(Array.getElem?_eq_some_iff.mp e1).2,(Array.getElem?_eq_some_iff.mp e2).2];exact FZ I.hok (by show X.A.units+1+62<cLine;lia) (h _ (List.getElem_mem g)) q1 q2
 ·exact⟨λz=>(nomatch z),q⟩
end N
end
section
set_option maxHeartbeats 1000000
namespace N
open PySem PySem.Spec PyProof.Rows L2
section
variable{X:Cx}
theorem ae.xH{G:Gx}{F:Fz}{ds:List D}{us:List Value}(r:ae G F ds us):∀k:Nat,ae G F (XS k ds).flatten (XS k us).flatten
 | 0=>.nil
 |k+1=>by rw[Zf,Zf,List.flatten_cons,List.flatten_cons];exact r.app (ae.xH r k)
theorem F4:O2 X (binaryOp .Mult) qT:=fun τ z Q R d e v u I r1 r2 q k=>by
 have lst:∀{d:D},aa X.G z.F d v->(bg d z.M λds=>bI e λk=>-(2 ^ 63)<=k/\k<2 ^ 63/\ds.length * k.toNat<=sizeLine/\bS (XS k.toNat ds).flatten z.M Q)->W X (binaryOp .Mult v u) R z.s:=λr1 q=>by
  obtain⟨a,ds,us,n,rfl,l,q⟩:=I.bg r1 q;obtain⟨j,t,rfl,h1,h2,hz,q⟩:=cn q r2;have hlen:us.toArray.size * j.toNat<=sizeLine:=by rw[WV,<- l.r.len];exact hz
  have F6:¬us.toArray.size * j.toNat > (2 ^ 63-1) / 8:=by
   have:(sizeLine:Nat)<=(2 ^ 63-1) / 8:=(by decide);lia
  have qn:¬(!Builtin.List.listFitsIndex j)=true:=by rw[fitsIndex_both h1 h2];exact Xi
  have lm:¬Ys (us.toArray.size * j.toNat)=true:=by rw[qO hlen];exact Xi
  have F7:List.foldl (λx1 x2=>x1++x2) #[] (XS (if us.toArray.isEmpty=true then 0 else j.toNat) us.toArray)=(XS j.toNat us).flatten.toArray:=by
   have f0:∀m:Nat,List.foldl (λx1 x2=>x1++x2) #[] (XS m us.toArray)=(XS m us).flatten.toArray:=λm=>by
    have:=xk us m [];rw[List.nil_append]at this;exact this
   rw[f0];cases us with
   |nil=>simp
   |cons a r'=>rw[if_neg (by simp)]
  refine wpAny_binaryOp_repeat_ref (T:="list") (U:="int") (by decide) ⟨_,l.e,rfl⟩ (λs'=>typeIs_int s' j t) noFill_list_mul F.fills_int_mul F.slot_int_rmul repeat_list F.slot_int_index.lookup
   (call_meets F.slot_int_rmul (typeIs_int z.s j t) F.entry_int_rmul (F.args_int_rmul_2 _ _) (int___rmul___int_list j t a us.toArray n)
    ⟨l.e,rfl,⟨_,l.e,rfl⟩,call_meets F.slot_list_mul ⟨_,l.e,rfl⟩ F.entry_list_mul (F.args_list_mul_2 _ _) (AutoListH.list___mul___list_int_3 a us.toArray n j t qn F6 lm) ⟨l.e,?_⟩⟩)
  rw[F7];exact I.lst (t:=z.s.toks) (n:=0) k Le.rfl (l.r.xH j.toNat) (λb o e=>WR _ e) (WU _) (WX _ rfl) (by rw[Fh,Nat.mul_comm,<- l.r.len];exact hz) q
 unfold qT at q;cases d with
 |int i=>
  rw[aa]at r1;obtain⟨t,rfl⟩:=r1;obtain⟨j,t',rfl,hc,q⟩:=cn q r2;exact mul_int (I.fin k Le.rfl bM q _) (hc.elim (·.ok) λh=>.of_bits (xj h.1) (xj h.2))
 |lst ds=>exact lst r1 q
 |ref a=>exact lst r1 q
 |_=>exact q.elim
theorem nQ{f:Value->Value->Sem Value}:O2 X f λ_ _ _ _=>False:=λ_ _ _ _ _ _ _ _ _ _ _ q _=>q.elim
theorem F8:∀o:Operator,O2 X (binaryOp o) (qU o)
 |.Add=>FT
 |.Sub=>xw λ_ _ _ _ _ _ _ q=>sub_int q
 |.Mult=>F4
 |.FloorDiv=>lj λi j _ _ _ _ _ hc q=>by
  have h1:(0:Int)<j:=hc.1;have h2:j<2 ^ 200:=hc.2;have h3:j.natAbs<2 ^ 200:=by lia
  exact floordiv_int (by lia) (by rw[Int.fdiv_eq_ediv_of_nonneg i (by lia)];exact q) (.inl (PyProof.noPylong_of_log2 (Xj ((Nat.log2_lt (by lia)).mpr h3) (by decide))))
 |.Mod=>lj λi j _ _ _ _ _ hc q=>mod_int' (by lia) (by rw[Int.fmod_eq_emod_of_nonneg i (by lia)];exact q)
 |.Pow=>lj λ_ _ _ _ _ _ _ hc q=>pow_int_small hc.1 hc.2.1 hc.2.2 q
 |.LShift=>lj λ_ _ _ _ _ _ _ hc q=>lshift_int_small hc.1 hc.2.1 hc.2.2 q
 |.RShift=>lj λi j _ _ _ _ _ hc q=>rshift_int hc (by rw[Int.fdiv_eq_ediv_of_nonneg i (Fd _)];exact q)
 |.BitAnd=>xw λ_ _ _ _ _ _ _ q=>and_int q
 |.MatMult=>nQ
 |.Div=>nQ
 |.BitOr=>nQ
 |.BitXor=>nQ
noncomputable def xI:D->Bool
 |.lst []=>true
 |_=>false
inductive gn(ne:Bool)(x y:D)(M:Mp)(k:Bool->Prop):Prop
 |mk (h:(ar (bP x M)=true/\ar (bP y M)=true/\aH (bP x M)<=100)\/((qL (bP x M)).isSome=true/\xI (bP y M)=true)) (q:k (au (bP x M) (bP y M)))
 |dd (n:ne=true) (ds:List D) (hx:x=.lst ds) (hy:y=.lst ds) (h:∀d∈ds,qZ d) (q:k true)
noncomputable def a3(x:D)(ds:List D):Bool:=ds.any λd=>au d x
def xJ(x y:D)(M:Mp)(k:Bool->Prop):Prop:=match y with
 |.ag _ _=>b4 y M λkvs=>dQ x λc=>k (aK kvs c).isSome
 |.str b=>match x with
  |.str a=>k (!(Yb b a 0 b.length 1).isEmpty)
  |_=>False
 |.ref a=>(∃kvs,M a=some (.ag kvs)/\dQ x λc=>k (aK kvs c).isSome)\/∃ds,M a=some (.lst ds)/\ar x=true/\aI ds=true/\aR ds<=100/\k (a3 x ds)
 |y=>cQ y M λds=>ar x=true/\aI ds=true/\aR ds<=100/\k (a3 x ds)
structure dw(x y:D)(M:Mp)(k:Bool->Prop):Prop where
 h:xJ x y M k
def nR(x y:D)(k:Bool->Prop):Prop:=match y with
 |.ai=>k (nH x)
 |_=>False
def q8(x y:D)(k:Bool->Prop):Prop:=match x with
 |.int i=>bI y λj=>k (decide (i<j))
 |.str i=>match y with
  |.str j=>k (decide (i.cps.toList<j.cps.toList))
  |_=>False
 |_=>False
def nS(x y:D)(k:Int->Int->Prop):Prop:=bI x λi=>bI y λj=>k i j
def iR:CmpOp->D->D->Mp->(Bool->Prop)->Prop
 |.Eq=>λx y M k=>gn false x y M k
 |.NotEq=>λx y M k=>gn true x y M λb=>k (!b)
 |.Lt=>λx y M k=>q8 x y k
 |.LtE=>λx y M k=>nS x y λi j=>k (decide (i<=j))
 |.Gt=>λx y M k=>nS x y λi j=>k (decide (j<i))
 |.GtE=>λx y M k=>nS x y λi j=>k (decide (j<=i))
 |.In=>λx y M k=>dw x y M k
 |.NotIn=>λx y M k=>dw x y M λb=>k (!b)
 |.Is=>λx y _ k=>nR x y k
 |.IsNot=>λx y _ k=>nR x y λb=>k (!b)
end
def OC(X:Cx)(f:Value->Value->Sem Value)(r:D->D->Mp->(Bool->Prop)->Prop):Prop:=∀ τ z(k:Bool->Prop)R d e v u,ab X τ z->aa X.G z.F d v->aa X.G z.F e u->r d e z.M k->(∀b t,k b->R (.bool b) { z.s with toks:=t })->W X (f v u) R z.s
def xK(r:D->D->Mp->(Bool->Prop)->Prop)(ta tb:DE):DE:=fun τ M q=>ta τ M λx M1=>tb τ M1 λy M2=>r x y M2 λb=>q (.bl b) M2
def xM(r:D->D->Mp->(Bool->Prop)->Prop)(ta tb:DE):DT:=fun τ M q=>ta τ M λx M1=>tb τ M1 λy M2=>r x y M2 λb=>q b M2
section
variable{X:Cx}{a b:Expr}{ta tb:DE}{pos:Pos}
theorem F9{o:CmpOp}{r:D->D->Mp->(Bool->Prop)->Prop}(ho:OC X (compareOp o) r)(ha:PE X a ta)(hb:PE X b tb)(hm:behindInMarks o b=false):PE X (.Compare a [o] [b] pos) (xK r ta tb):=fun τ z Q R I h k=>
 wpAny_Compare1 (ha τ z _ _ I h λx z1 v l1 I1 r1 q1=>hb τ z1 _ _ I1 q1 λy z2 u l2 I2 r2 q2=>ho τ z2 _ _ x y v u I2 (r1.up l2.d) r2 q2 λb t q=>I2.fin k (l1.tr l2) iJ q t) hm
theorem Ga{o:CmpOp}{r:D->D->Mp->(Bool->Prop)->Prop}(ho:OC X (compareOp o) r)(ha:PE X a ta)(hb:PE X b tb)(hm:behindInMarks o b=false):PT X (.Compare a [o] [b] pos) (xM r ta tb):=fun τ z Q R I h k=>
 wpAny_isTrue_Compare1 (ha τ z _ _ I h λx z1 v l1 I1 r1 q1=>hb τ z1 _ _ I1 q1 λy z2 u l2 I2 r2 q2=>ho τ z2 _ _ x y v u I2 (r1.up l2.d) r2 q2 λb t q=>Yw (k b ⟨z2.F,z2.M,{ z2.s with toks:=t }⟩ (l1.tr l2) (I2.kO t) q)) hm
end
section
variable{X:Cx}
theorem ab.xN{τ:St}{z:Z}{d:D}{u:Value}(I:ab X τ z)(r:aa X.G z.F d u)(h:ar (bP d z.M)=true):Sh X.G z.F z.s (bP d z.M) u:=by
 cases d with
 |ref a=>
  change ar (nN a (z.M a))=true at h;show Sh X.G z.F z.s (nN a (z.M a)) u;rw[aa]at r;subst r;cases e:z.M a with
  |none=>rw[e]at h;cases h
  |some o=>cases o with
   |lst ds=>rw[e]at h;obtain⟨us,n,l⟩:=I.eL e;exact .lst l.p.isList l.r h
   |_=>rw[e]at h;cases h
 |_=>exact dg I.hok r h
theorem ab.xO{τ:St}{z:Z}{d:D}{u:Value}{ds:List D}(I:ab X τ z)(r:aa X.G z.F d u)(h:bP d z.M=.lst ds):∃a us n,u=.ref a/\eK X.G z.F z.s.heap a ds us n:=by
 cases d with
 |ref a=>
  change nN a (z.M a)=.lst ds at h;rw[aa]at r;cases e:z.M a with
  |none=>rw[e]at h;cases h
  |some o=>cases o with
   |lst es=>rw[e]at h;cases h;obtain⟨us,n,l⟩:=I.eL e;exact⟨a,us,n,r,l⟩
   |_=>rw[e]at h;cases h
 |lst es=>cases h;exact I.gi r
 |_=>cases h
theorem xP(hu:X.A.units+110<cLine){τ:St}{z:Z}{d e:D}{v u:Value}{k:Bool->Prop}(I:ab X τ z)(r1:aa X.G z.F d v)(r2:aa X.G z.F e u)(h:(ar (bP d z.M)=true/\ar (bP e z.M)=true/\aH (bP d z.M)<=100)\/((qL (bP d z.M)).isSome=true/\xI (bP e z.M)=true))(q:k (au (bP d z.M) (bP e z.M))):∃b,SeqAt.RcAt X.A z.s v u b/\SeqAt.RcNeAt X.A z.s v u (!b)/\k b:=by
 rcases h with ⟨h1,h2,h3⟩ |⟨h1,h2⟩
 ·have c:=Fc (A:=X.A) (n:=100) I.hok (I.xN r1 h1) (I.xN r2 h2) (Nat.le_succ_of_le h3) (by lia);exact⟨_,c.1,c.2,q⟩
 ·cases e1:bP d z.M with
  |lst ds=>cases e2:bP e z.M with
   |lst es=>cases es with
    |nil=>
     obtain⟨a,us,n,rfl,l⟩:=I.xO r1 e1;obtain⟨b,vs,n',rfl,l'⟩:=I.xO r2 e2;have:=l'.r;rw[ae]at this;subst this;rw[e1,e2]at q;cases ds with
     |nil=>
      have:=l.r;rw[ae]at this;subst this;exact⟨true,SeqAt.RcAt.lists (e:=λ_=>true) l.p.isList l'.p.isList rfl (by lia) λj h1=>absurd h1 (Nat.not_lt_zero j),SeqAt.RcNeAt.lists (e:=λ_=>true) l.p.isList l'.p.isList rfl (by lia) λj h1=>absurd h1 (Nat.not_lt_zero j),q⟩
     |cons d ds=>
      have:=l.r;rw[ae]at this;obtain⟨u,us,rfl,_⟩:=this;exact⟨false,SeqAt.RcAt.lists_lengths l.p.isList l'.p.isList (by simp) (by lia),SeqAt.RcNeAt.lists_lengths l.p.isList l'.p.isList (by simp) (by lia),q⟩
    |cons _ _=>rw[e2]at h2;cases h2
   |_=>rw[e2]at h2;cases h2
  |_=>rw[e1]at h1;cases h1
theorem Gb(hu:X.A.units+110<cLine):OC X (compareOp .Eq) (iR .Eq):=fun τ z k R d e v u I r1 r2 q K=>by
 cases q with
 |mk h q=>
  obtain⟨b,h1,_,q⟩:=xP hu I r1 r2 h q;exact h1 _ _ _ _ (K b z.s.toks q)
 |dd n=>cases n
theorem Gd(hu:X.A.units+110<cLine):OC X (compareOp .NotEq) (iR .NotEq):=fun τ z k R d e v u I r1 r2 q K=>by
 cases q with
 |mk h q=>
  obtain⟨b,_,h1,q⟩:=xP (k:=λb=>k (!b)) hu I r1 r2 h q;exact h1 _ _ _ _ (K (!b) z.s.toks q)
 |dd n ds hx hy h q=>subst hx;subst hy;exact F3 hu I r1 r2 h (K false z.s.toks q)
open Classical in
theorem Ge{τ:St}{z:Z}{x:D}{v:Value}{ds:List D}{us:List Value}(hu:X.A.units+110<cLine)(I:ab X τ z)(r:aa X.G z.F x v)(rs:ae X.G z.F ds us)(h1:ar x=true)(h2:aI ds=true)(h3:aR ds<=100):
  ∃e:Value->Bool,(∀y,y∈us.toArray->SeqAt.EqAt X.A.in1 z.s y v (e y))/\us.toArray.any e=a3 x ds:=by
 have key:∀{d:D}{y:Value},aa X.G z.F d y->ar d=true->decide (∃d',aa X.G z.F d' y/\ar d'=true/\au d' x=true)=au d x:=λ{d y}r k=>by
  rw[Yv,decide_eq_true_eq];exact⟨λ⟨d',a,b,c⟩=>by rw[w9 d r a k b];exact c,λc=>⟨d,r,k,c⟩⟩
 refine⟨λy=>decide (∃d',aa X.G z.F d' y/\ar d'=true/\au d' x=true),λy hy=>?_,?_⟩
 ·obtain⟨i,hi⟩:=List.getElem?_of_mem (by simpa using hy:y∈us);have hl:i<ds.length:=by rw[rs.len];exact (List.getElem?_eq_some_iff.mp hi).1
  obtain⟨Vn,e,q⟩:=rs.get (WW hl);rw[hi]at e;cases e;have m:=jH h2 (WW hl);show SeqAt.EqAt X.A.in1 z.s y v (decide (∃d',aa X.G z.F d' y/\ar d'=true/\au d' x=true));rw[key q m.1];exact k6 100 I.hok (dg I.hok q m.1) (dg I.hok r h1) (W2 m.2 h3) (by show X.A.units+1+100<cLine;lia)
 ·rw[show us.toArray.any (λy=>decide (∃d',aa X.G z.F d' y/\ar d'=true/\au d' x=true))=us.any (λy=>decide (∃d',aa X.G z.F d' y/\ar d'=true/\au d' x=true)) by simp];clear h3;unfold a3
  induction ds generalizing us with
  |nil=>rw[ae]at rs;subst rs;rfl
  |cons d ds ih=>
   rw[ae]at rs;obtain⟨u,us,rfl,q1,q2⟩:=rs;rw[aI,WT]at h2;rw[List.any_cons,List.any_cons,key q1 h2.1,ih q2 h2.2]
theorem xQ(hu:X.A.units+110<cLine){τ:St}{z:Z}{d e:D}{v u:Value}{k:Bool->Prop}(I:ab X τ z)(r1:aa X.G z.F d v)(r2:aa X.G z.F e u)(h:dw d e z.M k):∃b,k b/\(∀Q E:Value->Shared->Prop,(∀t,Q (.bool b) { z.s with toks:=t })->wpAny (model X.G.P X.G.w) X.A (compareOp .In v u) Q E z.s)/\∀Q E:Value->Shared->Prop,(∀t,Q (.bool (!b)) { z.s with toks:=t })->wpAny (model X.G.P X.G.w) X.A (compareOp .NotIn v u) Q E z.s:=by
 have ag:∀{e:D},aa X.G z.F e u->(b4 e z.M λkvs=>dQ d λc=>k (aK kvs c).isSome)->∃b,k b/\(∀Q E:Value->Shared->Prop,(∀t,Q (.bool b) { z.s with toks:=t })->wpAny (model X.G.P X.G.w) X.A (compareOp .In v u) Q E z.s)/\∀Q E:Value->Shared->Prop,(∀t,Q (.bool (!b)) { z.s with toks:=t })->wpAny (model X.G.P X.G.w) X.A (compareOp .NotIn v u) Q E z.s:=λr2 q=>by
  obtain⟨a,kvs,vs,rfl,l,q⟩:=I.b4 r2 q;obtain⟨c,hc,q⟩:=jL (P:=X.G.P) (w:=X.G.w) q r1;have e:=(l.r.val c).so;exact⟨_,q,λQ E h=>wpAny_in_of hc l.n l.d.mapOf (by rw[<- e];exact h _),λQ E h=>wpAny_notIn_of hc l.n l.d.mapOf (by rw[<- e];exact h _)⟩
 have seq:∀{ds:List D}{us:List Value}{a:Addr},ae X.G z.F ds us->u=.ref a->(z.s.heap.IsList a us.toArray\/z.s.heap.IsTuple a us.toArray)->ar d=true/\aI ds=true/\aR ds<=100/\k (a3 d ds)->∃b,k b/\(∀Q E:Value->Shared->Prop,(∀t,Q (.bool b) { z.s with toks:=t })->wpAny (model X.G.P X.G.w) X.A (compareOp .In v u) Q E z.s)/\∀Q E:Value->Shared->Prop,(∀t,Q (.bool (!b)) { z.s with toks:=t })->wpAny (model X.G.P X.G.w) X.A (compareOp .NotIn v u) Q E z.s:=λrs Ud hs q=>by
  subst Ud;obtain⟨f,f1,f2⟩:=Ge hu I r1 rs q.1 q.2.1 q.2.2.1;refine⟨_,q.2.2.2,λQ E h=>?_,λQ E h=>?_⟩
  ·rcases hs with hs |hs
   ·exact SeqAt.in_listAt f hs f1 (by rw[f2];exact h z.s.toks)
   ·exact SeqAt.in_tupleAt f hs f1 (by rw[f2];exact h z.s.toks)
  ·rcases hs with hs |hs
   ·exact SeqAt.notIn_listAt f hs f1 (by rw[f2];exact h z.s.toks)
   ·exact SeqAt.notIn_tupleAt f hs f1 (by rw[f2];exact h z.s.toks)
 replace h:=h.h;unfold xJ at h;cases e with
 |ag ks ds=>exact ag r2 h
 |str b=>cases d with
  |str a=>
   rw[aa]at r1 r2;obtain⟨t,rfl⟩:=r1;obtain⟨t',rfl⟩:=r2;exact⟨_,h,λQ E q=>in_str (q z.s.toks),λQ E q=>notIn_str (q z.s.toks)⟩
  |_=>exact h.elim
 |ref a=>
  rcases h with h |⟨ds,h1,h⟩
  ·exact ag (e:=.ref a) r2 h
  ·rw[aa]at r2;obtain⟨us,n,l⟩:=I.eL h1;exact seq l.r r2 (.inl l.p.isList) h
 |lst ds=>obtain⟨a,us,n,e,l⟩:=I.gi r2;exact seq l.r e (.inl l.p.isList) h
 |tup ds=>obtain⟨a,us,o,e,l⟩:=I.cD r2;exact seq l.r e (.inr l.p) h
 |_=>exact h.elim
theorem xR{G:Gx}{F:Fz}{d:D}{u:Value}(r:aa G F d u):(u == XZ)=nH d:=by
 cases d with
 |ai=>rw[aa]at r;subst r;rfl
 |bl _=>rw[aa]at r;subst r;rfl
 |int _=>rw[aa]at r;obtain⟨t,rfl⟩:=r;rfl
 |str _=>rw[aa]at r;obtain⟨t,rfl⟩:=r;rfl
 |ref _=>rw[aa]at r;subst r;rfl
 |ty _=>rw[aa]at r;subst r;rfl
 |tup _=>rw[aa]at r;obtain⟨_,_,_,rfl,_⟩:=r;rfl
 |lst _=>rw[aa]at r;obtain⟨_,_,_,rfl,_⟩:=r;rfl
 |ag _ _=>rw[aa]at r;obtain⟨_,_,_,rfl,_⟩:=r;rfl
theorem xS{G:Gx}{F:Fz}{x y:D}{k:Bool->Prop}{u:Value}(h:nR x y k)(r:aa G F y u):u=.none/\k (nH x):=by
 unfold nR at h;split at h
 ·rw[aa]at r;exact⟨r,h⟩
 ·exact h.elim
theorem q9{o:CmpOp}{f:Int->Int->Bool}(rule:∀(i j:Int)(t u:Tok)(s:Shared)(Q E:Value->Shared->Prop),Q (.bool (f i j)) s->wpAny (model X.G.P X.G.w) X.A (compareOp o (.int i t) (.int j u)) Q E s):OC X (compareOp o) (λx y _ k=>nS x y λi j=>k (f i j)):=fun τ z k R d e v u I r1 r2 q K=>by
 obtain⟨i,t,rfl,q⟩:=cn q r1;obtain⟨j,t',rfl,q⟩:=cn q r2;exact rule i j t t' z.s _ _ (K _ z.s.toks q)
theorem nT(hu:X.A.units+110<cLine):∀o:CmpOp,OC X (compareOp o) (iR o)
 |.Eq=>Gb hu
 |.NotEq=>Gd hu
 |.In=>fun τ z k R d e v u I r1 r2 q K=>by
  obtain⟨b,q,h,_⟩:=xQ hu I r1 r2 q;exact h _ _ λt=>K b t q
 |.NotIn=>fun τ z k R d e v u I r1 r2 q K=>by
  obtain⟨b,q,_,h⟩:=xQ (k:=λb=>k (!b)) hu I r1 r2 q;exact h _ _ λt=>K (!b) t q
 |.Lt=>fun τ z k R d e v u I r1 r2 q K=>by
  replace q:q8 d e k:=q;unfold q8 at q;cases d with
  |int i=>
   rw[aa]at r1;obtain⟨t,rfl⟩:=r1;obtain⟨j,t',rfl,q⟩:=cn q r2;exact lt_int (K _ z.s.toks q)
  |str i=>cases e with
   |str j=>
    rw[aa]at r1 r2;obtain⟨t,rfl⟩:=r1;obtain⟨t',rfl⟩:=r2;exact lt_str (K _ z.s.toks q)
   |_=>exact q.elim
  |_=>exact q.elim
 |.LtE=>q9 λ_ _ _ _ _ _ _ q=>le_int q
 |.Gt=>q9 λ_ _ _ _ _ _ _ q=>gt_int q
 |.GtE=>q9 λ_ _ _ _ _ _ _ q=>ge_int q
 |.Is=>fun τ z k R d e v u I r1 r2 q K=>by
  obtain⟨rfl,q⟩:=xS q r2;exact is_none_gen (by rw[xR r1];exact K _ z.s.toks q)
 |.IsNot=>fun τ z k R d e v u I r1 r2 q K=>by
  obtain⟨rfl,q⟩:=xS (k:=λb=>k (!b)) q r2;exact isnot_none_gen (by rw[xR r1];exact K _ z.s.toks q)
end
end N
end
section
set_option maxHeartbeats 1000000
namespace N
open PySem PySem.Spec PyProof.Rows L2
def xT(x:D)(M:Mp)(k:Bool->Prop):Prop:=match x with
 |.ai=>k false
 |.bl b=>k b
 |.int i=>k (i != 0)
 |.str y=>y.length<=sizeLine/\k ((y.length:Int) != 0)
 |.tup ds=>k (!ds.isEmpty)
 |.lst ds=>k (!ds.isEmpty)
 |.ag ks ds=>k (!(ks.zip ds).isEmpty)
 |.ref p=>(∃xs,M p=some (.lst xs)/\k (!xs.isEmpty))\/∃kvs,M p=some (.ag kvs)/\k (!kvs.isEmpty)
 |_=>False
section
variable{X:Cx}{a b:Expr}{ta tb:DE}{pos:Pos}
theorem emp{G:Gx}{F:Fz}{ds:List D}{us:List Value}(r:ae G F ds us):(!us.toArray.isEmpty)=!ds.isEmpty:=by
 cases ds with
 |nil=>rw[ae]at r;subst r;rfl
 |cons d ds=>rw[ae]at r;obtain⟨u,us,rfl,_⟩:=r;rfl
theorem g9{n:Nat}(h:n<=sizeLine):(n:Int)<2 ^ 63:=by have:=nK;lia
theorem Gg{τ:St}{z:Z}{d:D}{v:Value}{k:Bool->Prop}{R:Bool->Shared->Prop}(I:ab X τ z)(r:aa X.G z.F d v)(h:xT d z.M k)(K:∀b t,k b->R b { z.s with toks:=t }):W X (truthy v) R z.s:=by
 have hl:=nK;have lst:∀{ds:List D}{us:List Value}{a:Addr}{n:Nat},eK X.G z.F z.s.heap a ds us n->k (!ds.isEmpty)->W X (truthy (.ref a)) R z.s:=λl q=>wpAny_truthy_list l.p.isList (by rw[WV];exact g9 l.z) (by rw[emp l.r];exact K _ _ q);have ag:∀{kvs:List (Key×D)}{vs:List (Key×Value)}{a:Addr},jJ X.G z.F z.s.heap a kvs vs->k (!kvs.isEmpty)->W X (truthy (.ref a)) R z.s:=λ{kvs vs a}l q=>by
  have e:kvs.isEmpty=vs.isEmpty:=by have:=l.r;unfold KV at this;cases this <;> rfl
  have e2:kvs.length=vs.length:=Paired.length l.r;exact wpAny_truthy_dict l.n l.d (by rw[<- e2];exact g9 l.z) (by rw[<- e];exact K _ _ q)
 cases d with
 |ai=>rw[aa]at r;subst r;exact truthy_none (K _ z.s.toks h)
 |bl b=>rw[aa]at r;subst r;exact Yw (K _ z.s.toks h)
 |int i=>rw[aa]at r;obtain⟨t,rfl⟩:=r;exact PySem.P.truthy_int (K _ z.s.toks h)
 |str y=>rw[aa]at r;obtain⟨t,rfl⟩:=r;exact PySem.P.truthy_str (Int.not_le.mpr (g9 h.1)) (K _ _ h.2)
 |tup ds=>obtain⟨a,us,o,rfl,l⟩:=I.cD r;exact truthy_tuple l.p (by rw[WV];exact g9 l.t.len) (by rw[emp l.r];exact K _ _ h)
 |lst ds=>obtain⟨a,us,n,rfl,l⟩:=I.gi r;exact lst l h
 |ag ks ds=>obtain⟨a,kvs,vs,rfl,l,h⟩:=I.b4 (k:=λkvs=>k (!kvs.isEmpty)) r h;exact ag l h
 |ref a=>
  rw[aa]at r;subst r;rcases h with ⟨xs,h1,h2⟩ |⟨kvs,h1,h2⟩
  ·obtain⟨us,n,l⟩:=I.eL h1;exact lst l h2
  ·obtain⟨vs,l⟩:=I.gm h1;exact ag l h2
 |ty _=>exact h.elim
def xU(ta:DE):DT:=fun τ M q=>ta τ M λx M1=>xT x M1 λb=>q b M1
theorem Gh(h:PE X a ta)(he:∀iI,isTrue a X.env iI=(do let v <- iI;standAt a.pos;holding [v] (truthy v))):PT X a (xU ta):=fun τ z Q R I q k=>
 isTrue_plain (h τ z _ _ I q λd z1 u l1 I1 r1 q1=>Gg I1 r1 q1 λb t q=>k b ⟨z1.F,z1.M,{ z1.s with toks:=t }⟩ l1 (I1.kO t) q) (he _)
def aC:Q2:=λx y M Q=>match x with
 |.str w=>bI y λi=>w.length<=sizeLine/\∃c,bq w.cps.toList i=some c/\Q (.str ⟨#[c]⟩) M
 |.tup ds=>bI y λi=>∃d,bq ds i=some d/\Q d M
 |.lst ds=>bI y λi=>∃d,bq ds i=some d/\Q d M
 |.ag ks ds=>dQ y λc=>∃d,aK (ks.zip ds) c=some d/\Q d M
 |.ref a=>(∃ds,M a=some (.lst ds)/\bI y λi=>∃d,bq ds i=some d/\Q d M)\/∃kvs,M a=some (.ag kvs)/\dQ y λc=>∃d,aK kvs c=some d/\Q d M
 |_=>False
theorem Gi(ha:PE X a ta)(hb:PE X b tb)(hs:∀o i,subscripted b false o i=operate [o,i] (getItem o i)):PE X (.Subscript a b pos) (nu aC ta tb):=fun τ z Q R I h k=>
 Subscript_ (ha τ z _ _ I h λx z1 v l1 I1 r1 q1=>hb τ z1 _ _ I1 q1 λy z2 u l2 I2 r2 q2=>by
  have hs:=hs v u;have r1:=r1.up l2.d;have l:=l1.tr l2;have hn:=nK;have lst:∀{ds:List D}{us:List Value}{c:Addr}{n:Nat},v=.ref c->eK X.G z2.F z2.s.heap c ds us n->(bI y λi=>∃d,bq ds i=some d/\Q d z2.M)->W X (subscriptTail a b v u) R z2.s:=λ{ds us c n}e p q=>by
   subst e;obtain⟨i,t,rfl,d,hd,q⟩:=cn q r2;obtain⟨j,h1,h2,h3,h4,h5⟩:=qN hd;obtain⟨w,TK,iS⟩:=p.r.get h2;have hl:=p.r.len;have hz:=p.z;have fin:=k d z2 w l I2 iS q;by_cases h0:0<=i
   ·have hj:i.toNat=j:=(by rw[seqIndex_of h0 h5]at h1;exact Xl h1);exact item_listR p.p.isList h0 (by lia) (by rw[hj];simpa using TK) fin hs
   ·have hj:(i+(us.toArray.size:Int)).toNat=j:=by
     rw[seqIndex_neg (by lia) h4]at h1;rw[WV,<- hl];exact Xl h1
    exact subscriptTail_builtinR (x:=w) p.p.isList.typeIs slot_list_getitem.lookup (wpAny_getItem_list_neg (Q:=λr s'=>r=w/\R r s') p.p.isList (by lia) (by rw[WV];lia) (by lia) (by rw[hj];simpa using TK) ⟨rfl,fin⟩) hs
  have ag:∀{kvs:List (Key×D)}{vs:List (Key×Value)}{c:Addr},v=.ref c->jJ X.G z2.F z2.s.heap c kvs vs->(dQ y λc=>∃d,aK kvs c=some d/\Q d z2.M)->W X (subscriptTail a b v u) R z2.s:=λ{kvs vs c}e p q=>by
   subst e;obtain⟨c',hc,d,hd,q⟩:=jL (P:=X.G.P) (w:=X.G.w) q r2;have hv:=p.r.val c';rw[hd]at hv;cases e:valueAt vs c' with
   |none=>rw[e]at hv;exact hv.elim
   |some w=>
    rw[e]at hv;exact tail_any (ops:=[.ref c,u]) p.d.typeIs PySem.F.slot_dict_getitem.lookup (wpAny_getItem_of hc p.d.mapOf e (I2.fin k l hv q _)) hs
  cases x with
  |str w=>
   rw[aa]at r1;obtain⟨t,rfl⟩:=r1;obtain⟨i,t',rfl,hz,c,he,q⟩:=cn q2 r2;obtain⟨j,h1,h2,h3,h4,h5⟩:=qN he;have hl:w.cps.toList.length=w.length:=(by simp [Str.length]);rw[hl]at h1 h4 h5;exact tail_any (typeIs_str z2.s w t) slot_str_getitem.lookup (getItem_str (c:=c) (by
    have e1:decide (i < -(2 ^ 63:Int))=false:=decide_eq_false (by lia);have e2:decide (i ≥ 2 ^ 63)=false:=decide_eq_false (by lia);rw[e1,e2,Bool.or_false]) (by rw[h1];simpa using h2) (I2.fin k l fy q _)) hs
  |tup ds=>
   obtain⟨c,us,o,rfl,p⟩:=I2.cD r1;obtain⟨i,t,rfl,d,hd,q⟩:=cn q2 r2;obtain⟨j,h1,h2,h3,h4,h5⟩:=qN hd;obtain⟨w,TK,iS⟩:=p.r.get h2;have hl:=p.r.len;have hz:=p.t.len;exact subscriptTail_builtinR (x:=w) p.p.typeIs slot_tuple_getitem.lookup (getItem_tuple (j:=j) (Q:=λr s'=>r=w/\R r s') p.p (by lia) (by lia) (by rw[WV,<- hl];exact h1) (by simpa using TK) ⟨rfl,k d z2 w l I2 iS q⟩) hs
  |lst ds=>obtain⟨c,us,n,e,p⟩:=I2.gi r1;exact lst e p q2
  |ag ks ds=>obtain⟨c,kvs,vs,e,p,q⟩:=I2.b4 (k:=λkvs=>dQ y λc=>∃d,aK kvs c=some d/\Q d z2.M) r1 q2;exact ag e p q
  |ref c=>
   rw[aa]at r1;rcases q2 with ⟨ds,h1,h2⟩ |⟨kvs,h1,h2⟩
   ·obtain⟨us,n,p⟩:=I2.eL h1;exact lst r1 p h2
   ·obtain⟨vs,p⟩:=I2.gm h1;exact ag r1 p h2
  |_=>exact q2.elim)
def rg:QS:=λo i d M k=>match o with
 |.ref a=>(∃xs,M a=some (.lst xs)/\bI i λn=>∃j,ei xs.length n=some j/\k (up M a (.lst (xs.set j d))))\/∃kvs,M a=some (.ag kvs)/\dQ i λc=>kvs.length<sizeLine/\k (up M a (.ag (aZ kvs c d)))
 |_=>False
theorem ae.set{G:Gx}{F:Fz}{d:D}{u:Value}(r:aa G F d u):∀{ds:List D}{us:List Value}(i:Nat),ae G F ds us->ae G F (ds.set i d) (us.set i u)
 |[],us,i,h=>by rw[ae]at h;subst h;exact .nil
 |c::ds,us,0,h=>by rw[ae]at h;obtain⟨v,us,rfl,_,h2⟩:=h;exact .cons r h2
 |c::ds,us,i+1,h=>by rw[ae]at h;obtain⟨v,us,rfl,h1,h2⟩:=h;exact .cons h1 (ae.set r i h2)
theorem ab.xV{τ:St}{z:Z}{p:Addr}{xs ys:List D}{us us':List Value}{n n' t:Nat}{h':Heap}(I:ab X τ z)(h:z.M p=some (.lst xs))(sb:∀ b,b≠p->bp z.s.heap h' b)(e:h'.get? p=some (bH us' n'))(r:ae X.G z.F ys us')(hz:us'.length<=sizeLine):
  ab X τ ⟨z.F,up z.M p (.lst ys),{ z.s with heap:=h',toks:=t }⟩:=I.put h rfl (.inl rfl) sb ⟨_,e⟩ ⟨by rw[r.len];exact hz,us',n',r,e⟩
theorem Gj(hu:X.A.units+1<cLine):OS X rg:=fun τ z o i d ov iv u Q R I ro ri rd q k=>by
 unfold rg at q;cases o with
 |ref p=>
  rw[aa]at ro;subst ro;rcases q with ⟨xs,hp,q⟩ |⟨kvs,hp,q⟩
  ·obtain⟨n,t,rfl,j,hj,q⟩:=cn q ri;obtain⟨us,m,l⟩:=I.eL hp;obtain⟨h1,h2,h3,h4⟩:=xh hj;have hl:=l.r.len;have hn:=nK;have hz:=l.z;have e:(z.s.heap.update p (Xs (·.setIfInBounds j u))).get? p=some (bH (us.set j u) m):=by
    rw[Xr _ l.e (by unfold bH;rw[xi];rfl)];unfold bH;rw[xi]
   have fin:R () { z.s with heap:=z.s.heap.update p (Xs (·.setIfInBounds j u)) }:=
    k ⟨z.F,_,_⟩ Le.rfl (I.xV (us:=us) (n:=m) (t:=z.s.toks) hp (λb hb o q=>(Y3 _ _ (XC hb)).trans q) e (ae.set rd j l.r) (by rw[YW];exact hz)) q
   by_cases h0:0<=n
   ·have hk:n.toNat=j:=(by rw[seqIndex_of h0 h4]at h1;exact Xl h1);exact PySem.W.ki_setAt l.e h0 (by lia) (by rw[WV,<- hl];exact h4) (by rw[hk];exact fin)
   ·have hk:(n+(us.toArray.size:Int)).toNat=j:=by
     rw[seqIndex_neg (by lia) h3]at h1;rw[WV,<- hl];exact Xl h1
    exact PySem.W.ki_setBack l.e (by lia) (by rw[WV,<- hl];exact h3) (by lia) (by rw[hk];exact fin)
  ·obtain⟨c,hc,hl,q⟩:=jL (P:=X.G.P) (w:=X.G.w) q ri;obtain⟨vs,l⟩:=I.gm hp;refine wpAny_setItem_pairs (hsz:=by rw[<- Paired.length l.r];exact l.z) hc l.d λh' nU hs=>?_;have he:∃q,h'.get? p=some q:=let ⟨q,_,_,hq,_⟩:=nU;⟨q,hq⟩
   exact k ⟨z.F,_,_⟩ Le.rfl (I.put (o':=.ag (aZ kvs c d)) hp rfl (.inl rfl) (λb hb o q=>(hs.2 b hb).trans q) he ⟨W2 (jK _ _ _) hl,l.n,_,l.r.put c rd,nU⟩) q
 |_=>exact q.elim
end
end N
end
section
set_option maxHeartbeats 1000000
namespace N
open PySem PySem.Spec PyProof.Rows L2
abbrev XQ:=qp->Mp->Prop
abbrev Sp:=List D->Mp->QK->XQ->Prop
structure jN(G:Gx)(z z':Z)(s:Shared):Prop where
 s:z'.s=s
 l:Le z.F z'.F
 ok:aF G z'.F z'.M z'.s.heap
 os:z'.s.os=z.s.os
 bare:AllBare z'.s.gens
def CR(G:Gx)(z:Z)(Q:QK)(E:XQ)(r:Result)(s:Shared):Prop:=match r with
 |.ok (.ret u)=>∃d z',jN G z z' s/\aa G z'.F d u/\Q d z'.M
 |.ok _=>False
 |.error e=>∃x z',jN G z z' s/\wg G z' x e/\E x z'.M
structure bj(G:Gx)(k:Nat)(f:Addr)(fd:FuncData)(ps:List Str)(sp:Sp):Prop where
 len:∀ds M Q E,sp ds M Q E->ds.length=ps.length
 eI:∀(A:Around)(outer:List Env)(z:Z)(args:Args)(us:List Value)(ds:List D)(Q:QK)(E:XQ),bC k A->dN G A outer z->BindsTo z.s fd args (ps.zip us)->ae G z.F ds us->sp ds z.M Q E ->
  codeAny (model G.P G.w) A (.call (.ref f) args) (CR G z Q E) z.s
section
variable{G:Gx}{F:Fz}{M:Mp}{h:Heap}{A:Around}{outer:List Env}{z z':Z}{s:Shared}(e:Fz)
theorem kI.xe{o:Obj}{ks:List Key}{us:List Value}(h:kI G o ks us):kI { G with ex:=e } o ks us:=⟨h.ex,h.bf,h.nd,h.len,h.sz⟩
mutual
theorem aa.xe:∀{d:D}{u:Value},aa G F d u->aa { G with ex:=e } F d u
 |.ai,u,h=>by rw[aa]at h ⊢;exact h
 |.bl _,u,h=>by rw[aa]at h ⊢;exact h
 |.int _,u,h=>by rw[aa]at h ⊢;exact h
 |.str _,u,h=>by rw[aa]at h ⊢;exact h
 |.ref _,u,h=>by rw[aa]at h ⊢;exact h
 |.ty _,u,h=>by rw[aa]at h ⊢;exact h
 |.tup ds,u,h=>by rw[aa]at h ⊢;obtain⟨a,o,us,q,h1,h2,h3⟩:=h;exact⟨a,o,us,q,h1,h2,h3.xe⟩
 |.lst ds,u,h=>by rw[aa]at h ⊢;obtain⟨a,o,us,q,h1,h2,h3⟩:=h;exact⟨a,o,us,q,h1,h2,h3.xe⟩
 |.ag ks ds,u,h=>by rw[aa]at h ⊢;obtain⟨a,o,us,q,h1,h2,h4,h3⟩:=h;exact⟨a,o,us,q,h1,h2.xe e,h4,h3.xe⟩
theorem ae.xe:∀{ds:List D}{us:List Value},ae G F ds us->ae { G with ex:=e } F ds us
 |[],us,h=>by rw[ae]at h ⊢;exact h
 |d::ds,us,h=>by rw[ae]at h ⊢;obtain⟨u,r,q,h1,h2⟩:=h;exact⟨u,r,q,h1.xe,h2.xe⟩
end
theorem aF.xe(x:aF G F M h):aF { G with ex:=e } F M h:=⟨x.fz,λa o q=>⟨(x.ob a o q).1,by
 have y:=(x.ob a o q).2;cases o with
 |lst xs=>obtain⟨z,us,n,r,e1⟩:=y;exact⟨z,us,n,r.xe e,e1⟩
 |ag kvs=>obtain⟨z,y,vs,r,c⟩:=y;exact⟨z,y,vs,Paired.T6 (λ_ _ r=>⟨r.1,r.2.xe e⟩) r,c⟩
 |ins C dx fs=>
  obtain⟨d,z,ne,e1,mA,e2,r1,r2⟩:=y;refine⟨d,z,ne,e1,mA,e2,λf=>?_,r2⟩;have:=r1 f;cases q1:fs.lookup f <;> cases q2:mA f <;> rw[q1,q2]at this
  ·trivial
  ·exact this
  ·exact this
  ·exact aa.xe e this
 |own Vn=>exact y
 |kJ ps=>exact y⟩,x.tb⟩
theorem jN.xe(x:jN G z z' s):jN { G with ex:=e } z z' s:=⟨x.s,x.l,x.ok.xe e,x.os,x.bare⟩
theorem dN.xe(x:dN G A outer z)(l:Le e z.F):dN { G with ex:=e } A outer z:=⟨x.frames,⟨x.mod.gc,x.mod.eJ,x.mod.kM,x.mod.d8⟩,⟨x.bs.b,l⟩,x.bY,x.hok.xe e,x.bare⟩
theorem CR.xe{Q:QK}{E:XQ}{r:Result}(x:CR G z Q E r s):CR { G with ex:=e } z Q E r s:=by
 cases r with
 |error v=>obtain⟨y,z',h1,h2,h3⟩:=x;exact h2.elim
 |ok fl=>
  cases fl with
  |ret u=>obtain⟨d,z',h1,h2,h3⟩:=x;exact⟨d,z',h1.xe e,h2.xe e,h3⟩
  |next=>exact x
  |brk=>exact x
  |cont=>exact x
end
section
variable{G:Gx}{j k:Nat}{f:Addr}{fd:FuncData}{ps:List Str}{sp lx:Sp}{A:Around}{outer:List Env}{z:Z}
theorem bj.mono(F:bj G j f fd ps sp)(h:j<=k):bj G k f fd ps sp:=⟨F.len,λA outer z args us ds Q E hr=>F.eI A outer z args us ds Q E (hr.mono h)⟩
theorem bj.imp(F:bj G k f fd ps sp)(h:∀ds M Q E,lx ds M Q E->sp ds M Q E):bj G k f fd ps lx:=
 ⟨λds M Q E q=>F.len ds M Q E (h _ _ _ _ q),λA outer z args us ds Q E hr he hb hv hs=>F.eI A outer z args us ds Q E hr he hb hv (h _ _ _ _ hs)⟩
theorem dN.make(e:dN G A outer z)(C:Addr)(us:List Value)(kw:List (Str×Value)):dN G (A.under (.builtin "type.__call__" ⟨.ref C::us,kw⟩)) outer z:=
 ⟨by first |exact e.frames |(simpa [Around.under,Code.envs,Code.isFrame,RO] using e.frames),e.mod,e.bs,e.bY,e.hok,e.bare⟩
theorem dN.SD(e:dN G A outer z):∀b o,G.base.get? b=some o->z.s.heap.get? b=some o:=λb o q=>e.hok.fz b _ (e.bs.b b o q)
end
def rh(sp:Sp)(bo:List D)(E:XQ)(t:DA):DE:=fun τ M q=>t τ M λds M1=>sp (ds++bo) M1 q E
def dR(X:Cx)(E:XQ):Prop:=∀x τ M,E x M->X.x x τ M
def eT(X:Cx)(ds:List D)(us:List Value):Prop:=∀ τ z,ab X τ z->ae X.G z.F ds us
theorem ae.append{G:Gx}{F:Fz}{ds es:List D}{us vs:List Value}(a:ae G F ds us)(b:ae G F es vs):ae G F (ds++es) (us++vs):=by
 induction ds generalizing us with
 |nil=>rw[ae]at a;subst a;exact b
 |cons d ds ih=>rw[ae]at a;obtain⟨u,us,rfl,h1,h2⟩:=a;exact .cons h1 (ih h2)
section
variable{X:Cx}{k:Nat}{f C:Addr}{fd:FuncData}{ps:List Str}{sp:Sp}{bo:List D}{ds:List Value}{E:XQ}{x m:Str}{p pos co:Pos}{e o:Expr}{es:List Expr}{ta:DE}{t:DA}{τ:St}{z:Z}{Q:QK}{R:Value->Shared->Prop}
theorem ab.Gk{z':Z}{s:Shared}(I:ab X τ z)(h:jN X.G ⟨ba z.F (X.a' z.s.heap),z.M,z.s⟩ z' s):∃z2:Z,z2.s=s/\z2.M=z'.M/\Le z.F z2.F/\ab X τ z2/\b0 z'.F z2.F:=by
 obtain⟨rfl,l,ok,os,bare⟩:=h;exact⟨⟨N.aS z'.F (X.a' z.s.heap),z'.M,z'.s⟩,rfl,rfl,Le.aS (λb e=>(I.gh e).2) l,I.after l ok os bare,b0.aS X.qr l⟩
theorem xW{Q0:QK}{r:Result}{s':Shared}(hx:dR X E)(I:ab X τ z)(h:CR X.G ⟨ba z.F (X.a' z.s.heap),z.M,z.s⟩ Q E r s')(K:∀ u d(z2:Z),z2.s=s'->Le z.F z2.F->ab X τ z2->aa X.G z2.F d u->Q d z2.M->R u s'):
  (match (generalizing:=false) r with |.ok (.ret u)=>R u s' |.ok _=>False |.error e=>XE X e s'):=by
 cases r with
 |error e=>obtain⟨_,_,_,h,_⟩:=h;exact h.elim
 |ok fl=>
  cases fl with
  |ret u=>
   obtain⟨d,z',h,r,q⟩:=h;obtain⟨z2,e1,e2,l,J,ld⟩:=I.Gk h;exact K u d z2 e1 l J (r.up ld) (by rw[e2];exact q)
  |next=>exact h.elim
  |brk=>exact h.elim
  |cont=>exact h.elim
theorem rj{K0:PySem.W.Frag}{x:Fz}{us:List Value}{vs:List D}(F:bj { X.G with ex:=x } k f fd ps sp)(hr:bC k X.A)(hb:bO K0 fd ps ds)(hd:eT X bo ds)(hx:dR X E)(I:ab X τ z)(TL:Le x (ba z.F (X.a' z.s.heap)))(hk:K0.In z.s.heap)(r:ae X.G z.F vs us)(h:sp (vs++bo) z.M Q E)(K:KE X τ z.F Q R):W X (call (.ref f) us) R z.s:=by
 have r2:ae X.G z.F (vs++bo) (us++ds):=r.append (hd τ z I);have hl:(us++ds).length=ps.length:=by rw[<- r2.len];exact F.len _ _ _ _ h
 refine wpAny_call (YG (F.eI X.A X.stk ⟨ba z.F (X.a' z.s.heap),z.M,z.s⟩ ⟨us,[]⟩ (us++ds) (vs++bo) Q E hr (I.dc.xe x TL) (hb z.s us hk hl) ((r2.up I.du.d).xe x) h) λr s' hq=>?_);have:=xW (Q0:=Q) hx I (hq.xe X.G.ex) λu d z2 e l J r q=>e ▸ K d z2 u l J r q;cases r with
 |error e=>exact this
 |ok fl=>cases fl <;> exact this
theorem rn{us:List Value}{vs:List D}(F:bj X.G k f fd ps sp)(hr:bC k X.A)(hb:bO X.G.K fd ps ds)(hd:eT X bo ds)(hx:dR X E)(I:ab X τ z)(r:ae X.G z.F vs us)(h:sp (vs++bo) z.M Q E)(K:KE X τ z.F Q R):W X (call (.ref f) us) R z.s:=
 rj (x:=X.G.ex) F hr hb hd hx I (I.bs.x.tr I.du) I.b7 r h K
theorem Gm(F:bj X.G k f fd ps sp)(hr:bC k X.A)(hg:Gl X x)(hm:X.G.mg x=some (.ref f))(hk:PySem.W.keepIn X.G.K (.ref f)=true)(hb:bO X.G.K fd ps ds)(hd:eT X bo ds)(hx:dR X E)
  (ha:PA X (e::es) t) (cF:(x == ("__debug__" : Str))=false) (he:starEach (e::es) X.env=(false,eval e X.env)::starEach es X.env) (cr:(backTo pos (starEach es X.env)).any (·.1)=false) :
  PE X (.Call (.Name x p) (e::es) [] pos) (rh sp bo E t):=fun τ z Q R I h K=>
 XU (jB I hg hm cF (PySem.W.callWith_K (h₀:=X.G.base) I.ok.mod.gc hk (ha pos τ z _ _ I h λvs z1 us l1 I1 r q=>⟨I1.b7,rn F hr hb hd hx I1 r q λd z2 u l2=>K d z2 u (l1.tr l2)⟩) he cr))
theorem Gq(F:bj X.G k f fd ps sp)(hr:bC k X.A)(hg:Gl X x)(hm:X.G.mg x=some (.ref f))(hk:PySem.W.keepIn X.G.K (.ref f)=true)(hb:bO X.G.K fd ps ds)(hd:eT X bo ds)(hx:dR X E)
  (cF:(x == ("__debug__" : Str))=false):PE X (.Call (.Name x p) [] [] pos) (rh sp bo E gV):=fun τ z Q R I h K=>
 XU (jB I hg hm cF (PySem.W.callWith_K0 I.b7 hk (rn (us:=[]) F hr hb hd hx I .nil h K)))
end
noncomputable def start(N:List Str)(ds:List D):St:=ds.map some++XS (N.length-ds.length) none
noncomputable def dh(G:Gx)(N:List Str)(qual:Str)(scope:Scope)(f:Addr)(cd:Value)(A:Around)(outer:List Env)(s:Shared)(E:XQ):Cx where
 G:=G
 A:=A.deeper (envOfC qual scope s.heap.objs.size f cd)
 N:=N
 os:=s.os
 env:=envOfC qual scope s.heap.objs.size f cd
 outer:=outer
 stk:=envOfC qual scope s.heap.objs.size f cd::outer
 fn:=λ_=>true
 calm:=true
 x:=λx _ M=>E x M
theorem Gs{G:Gx}{N ps:List Str}{qual:Str}{scope:Scope}{f:Addr}{cd:Value}{A:Around}{outer:List Env}{z:Z}{s1:Shared}{E:XQ}{us:List Value}{ds:List D}
  (S:aJ N ps scope) (hd:A.handled=none) (e0:dN G A outer z) (hl:ds.length=ps.length) (r:ae G z.F ds us)
  (x:InCallC z.s z.s.heap.objs.size (bindL (envOfC qual scope z.s.heap.objs.size f cd).kindOf (ps.zip us) λ_=>none) (cellsFrom (z.s.heap.objs.size+1) scope.names []) (bindC (envOfC qual scope z.s.heap.objs.size f cd).kindOf (ps.zip us) λ_=>none) s1) :
  ab (dh G N qual scope f cd A outer z.s E) (start N ds) ⟨z.F,z.M,s1⟩:=by
 have cr:ps.length<=N.length:=by have:=congrArg YQ S.pre;rw[List.length_take]at this;lia
 obtain⟨h1,tk,rfl,hk⟩:=x.done;refine⟨⟨e0.mod,S.kind,rfl,rfl,λy w c h1 h2=>?_,λy hy=>?_,λ_=>hd,Around.frames_deeper e0.frames,.inr ⟨rfl,rfl⟩⟩,e0.bs,rfl,e0.bare,e0.bY,⟨_,x.toInCall.ns,λi y v h1 h2 h3=>?_⟩,λy c h=>?_,⟨e0.hok.cB (WU _),e0.hok.c8 (WU _)⟩,e0.hok.keep λb _ o q=>hk b o q,?_⟩
 ·exact name_of_addr x.apart (PySem.mem_of_lookup h1) (PySem.mem_of_lookup h2)
 ·have hy:scope.names.lookup y=some .cell\/scope.names.lookup y=some .free:=hy;rcases hy with hy |hy
  ·exact xv hy
  ·exact absurd rfl (S.FA _ (PySem.mem_of_lookup hy))
 ·have hi:i<ds.length:=by
   unfold start at h2;by_cases hi:i<ds.length
   ·exact hi
   ·rw[XD (by simpa using hi),List.getElem?_replicate]at h2;split at h2 <;> cases h2
  have ha:ds[i]?=some v:=by
   unfold start at h2;rw[XG (by simpa using hi),W8]at h2;cases e:ds[i]? with
   |none=>rw[e]at h2;cases h2
   |some a=>rw[e]at h2;cases h2;rfl
  obtain⟨u,hu,rv⟩:=r.get ha;have hp:ps[i]?=some y:=by rw[<- S.pre,List.getElem?_take_of_lt (by lia)];exact h1
  have xz:ps.Nodup:=by rw[<- S.pre];exact S.nd.sublist (List.take_sublist _ _)
  refine⟨u,rv,?_⟩;rcases S.xo y (Xw hp) with k |k
  ·exact .inl ⟨k,xt xz hp hu k⟩
  ·obtain⟨c,e⟩:=xv (n:=z.s.heap.objs.size+1) k;refine .inr ⟨.inl k,c,e,?_⟩;have q:=x.cell y c e;rw[xu xz hp hu (by show scope.names.lookup y≠_;rw[k];decide)]at q;exact q
 ·have:=Nat.le_of_lt (x.above y c (PySem.mem_of_lookup h));exact⟨⟨_,x.cell y c h⟩,e0.hok.c8 this,.inl ⟨rfl,e0.hok.cB this⟩⟩
 ·unfold start;show _=N.length;rw[W3,WQ,List.length_replicate];lia
theorem xX{G:Gx}{k:Nat}{f:Addr}{name qual:Str}{params:Arguments}{body:List Stmt}{scope:Scope}{TM kV am pm al ct oc:Value}{an od:Option Addr}{cq:Array (Option Value)}{N ps:List Str}{sp:Sp}
  (lk:G.K.lookup f=some ⟨oc,od,.func (PySem.W.fnOf name qual params body scope TM kV am pm an al ct),cq⟩) (ef:PySem.W.codeIn G.K al qual=true) (S:aJ N ps scope) (len:∀ds M Q E,sp ds M Q E->ds.length=ps.length)
  (Gc:∀(A:Around)(outer:List Env)(s:Shared)(M:Mp)(ds:List D)(Q:QK)(E:XQ),bC k (A.deeper (envOfC qual scope s.heap.objs.size f al))->sp ds M Q E ->
   ∃t,d9 (dh G N qual scope f al A outer s E) body t/\t { nx:=λ_ M'=>Q .ai M',rt:=Q } (start N ds) M) :
  bj G (k+1) f (PySem.W.fnOf name qual params body scope TM kV am pm an al ct) ps sp:=by
 refine⟨len,λA outer z args us ds Q E hr e0 hb r jO=>?_⟩;have hl:=len _ _ _ _ jO;have KX:G.K.In z.s.heap:=e0.mod.gc.keeps e0.SD;have d8:z.s.heap.NoLimit:=e0.mod.d8.keeps e0.SD;have Go:∀y∈ps.zip us,scope.names.lookup y.1=some .local\/(scope.names.lookup y.1=some .cell/\((cellsFrom (z.s.heap.objs.size+1) scope.names []).lookup y.1).isSome=true):=λ⟨n,v⟩ hy=>by
  rcases S.xo n (YV hy).1 with q |q
  ·exact .inl q
  ·exact .inr ⟨q,PySem.W.cellsFrom_some _ _ _ (.inl q)⟩
 refine codeAny_call_function hr.depth (KX _ _ lk) rfl S.Uc S.k9 rfl (PySem.W.codeRec_of KX ef) (hb _ _ _ _ ?_);refine wpAny_newFunctionEnv_cells S.kind Go λenv he s1 x=>?_;subst he;refine⟨d8.keeps x.toInCall.keep,codeAny_func ?_⟩;obtain⟨t,ht,hq⟩:=Gc A outer z.s z.M ds Q E (hr.deeper _) jO;refine Y5 (ht (start N ds) ⟨z.F,z.M,s1⟩ _ (λfl s'=>match fl with |.ret u=>CR G z Q E (.ok (.ret u)) s' |.next=>CR G z Q E (.ok (.ret .none)) s' |_=>False) (Gs S hr.hd e0 hl r x) hq
  ⟨fun τ z1 l J q=>⟨.ai,z1,⟨rfl,l,J.hok,J.os,J.bare⟩,by rw[aa],q⟩,λd τ z1 u l J rd q=>⟨d,z1,⟨rfl,l,J.hok,J.os,J.bare⟩,rd,q⟩,λ_ _ _ _ q=>q,λ_ _ _ _ q=>q⟩) (λfl s' hs=>?_) λe s' hs=>hs.no.elim
 cases fl <;> first |exact hs |exact False.elim hs
end N
end
section
set_option maxHeartbeats 1000000
namespace N
open PySem PySem.Spec PyProof.Rows L2
noncomputable def fF(f:Str)(d:D):List (Str×D)->List (Str×D)
 |[]=>[(f,d)]
 |p::r=>if p.1=f then (f,d)::r else p::fF f d r
theorem jP(g:Str)(p:Str×D)(r:List (Str×D)):(p::r).lookup g=if g=p.1 then some p.2 else r.lookup g:=by
 by_cases h:g=p.1
 ·rw[if_pos h,List.lookup,beq_iff_eq.mpr h]
 ·rw[if_neg h,List.lookup,beq_eq_false_iff_ne.mpr h]
theorem rp(f g:Str)(d:D):∀fs:List (Str×D),(fF f d fs).lookup g=if g=f then some d else fs.lookup g
 |[]=>jP g (f,d) []
 |p::r=>by
  unfold fF;by_cases h:p.1=f
  ·rw[if_pos h,jP,jP,h];by_cases q:g=f
   ·rw[if_pos q,if_pos q]
   ·rw[if_neg q,if_neg q,if_neg q]
  ·rw[if_neg h,jP,jP,rp f g d r];by_cases q:g=p.1
   ·rw[if_pos q,if_neg λe=>h (q.symm.trans e)];rw[if_pos q]
   ·rw[if_neg q,if_neg q]
theorem xY(f:Str)(d:D):∀fs:List (Str×D),(fF f d fs).length<=fs.length+1
 |[]=>WU _
 |p::r=>by
  unfold fF;split
  ·exact YR _
  ·exact Nat.succ_le_succ (xY f d r)
theorem xZ{g:Str}:∀{fs:List (Str×D)},fs.lookup g≠none->g∈fs.map (·.1)
 |[],h=>absurd rfl h
 |p::r,h=>by
  rw[jP]at h;by_cases q:g=p.1
  ·rw[q];exact WZ
  ·rw[if_neg q]at h;exact WY _ (xZ h)
theorem Gu{G:Gx}{F:Fz}{d:D}{u:Value}(r:aa G F d u):PySem.W.handedIn u=true:=by
 cases d <;> rw[aa]at r <;> first |(subst r;rfl) |(obtain⟨t,rfl⟩:=r;rfl) |(obtain⟨a,_,_,rfl,_⟩:=r;rfl) |(obtain⟨a,_,rfl,_⟩:=r;rfl)
def cT(d:D)(M:Mp)(k:Addr->Addr->Addr->List (Str×D)->Prop):Prop:=match d with
 |.ref a=>∃C dx fs,M a=some (.ins C dx fs)/\k a C dx fs
 |_=>False
def rq(K:PySem.W.Frag)(f:Str):Q1:=λx M q=>cT x M λa C dx fs=>∃d,(b9 K C/\dP K C f)/\fs.lookup f=some d/\q d M
def rx(K:PySem.W.Frag)(f:Str)(o d:D)(M:Mp)(k:Mp->Prop):Prop:=cT o M λa C dx fs=>(b9 K C/\dP K C f)/\fs.length<1000/\k (up M a (.ins C dx (fF f d fs)))
def ly(C:Addr)(m:Str)(sp:Sp)(bo:List D)(E:XQ)(to:DE)(t:DA):DE:=fun τ M q=>to τ M λo M1=>cT o M1 λ_ C' _ fs=>C'=C/\fs.lookup m=none/\t τ M1 λds M2=>sp (o::(ds++bo)) M2 q E
def ry(C:Addr)(sp:Sp)(bo:List D)(E:XQ)(t:DA):DE:=fun τ M q=>t τ M λds M1=>∀x dx,M1 x=none->M1 dx=none->dx≠x ->
 sp (.ref x::(ds++bo)) (up (up M1 dx (.own x)) x (.ins C dx [])) (λv M2=>v=.ai/\q (.ref x) M2) E
section
variable{X:Cx}{τ:St}{z:Z}{C:Addr}{f m:Str}{o e value:Expr}{es:List Expr}{to tv:DE}{t:DA}{pos co re RP p:Pos}{d:D}{v u:Value}
theorem ab.cT{k:Addr->Addr->Addr->List (Str×D)->Prop}(I:ab X τ z)(r:aa X.G z.F d u)(h:cT d z.M k):∃a C dx fs mA,u=.ref a/\z.M a=some (.ins C dx fs)/\iQ z.s.heap a dx C mA/\(∀f,f9 X.G z.F (fs.lookup f) (mA f))/\PySem.Within mA (fs.map (·.1))/\z.M dx=some (.own a)/\k a C dx fs:=by
 unfold N.cT at h;split at h
 ·rename_i a;obtain⟨C,dx,fs,e,h⟩:=h;rw[aa]at r;obtain⟨d,_,ne,ob,mA,n,rr,q⟩:=(I.hok.ob a _ e).2;exact⟨a,C,dx,fs,mA,r,e,⟨ob,n,ne⟩,rr,q,d,h⟩
 ·exact h.elim
theorem Gv{b:Bool}:O1 X (λv=>getAttr v f b) (rq X.G.K f):=fun τ z Q R d v I r h k=>by
 obtain⟨a,C,dx,fs,mA,rfl,e,O,rr,_,_,d',⟨c,n⟩,l,q⟩:=I.cT r h;have rf:=rr f;rw[l]at rf;cases e':mA f with
 |none=>rw[e']at rf;exact rf.elim
 |some w=>rw[e']at rf;exact FD I.b7 O (c.get f) c.hd n e' (Gu rf) (k d' ⟨z.F,z.M,_⟩ w Le.rfl (I.kO _) rf q)
theorem Gw{Q:Mp->Prop}{R:Unit->Shared->Prop}{od:D}{ov:Value}(I:ab X τ z)(ro:aa X.G z.F od ov)(rd:aa X.G z.F d u)(h:rx X.G.K f od d z.M Q)(k:∀z',z'.F=z.F->ab X τ z'->Q z'.M->R () z'.s):W X (setAttr ov f u) R z.s:=by
 obtain⟨a,C,dx,fs,mA,rfl,e,O,rr,wi,ho,⟨c,n⟩,hl,q⟩:=I.cT ro h;have hz:(fs.map (·.1)).length<=sizeLine:=by rw[WQ,Zc];lia
 refine FF I.b7 O c.sa c.Vk n.FK c.hd wi hz λh' O' sb=>k ⟨z.F,_,_⟩ rfl (I.put (o':=.ins C dx (fF f d fs)) e rfl (.inr ho) (λb hb o q=>(sb.2 b hb).trans q) (let ⟨o,_,_,e',_⟩:=O'.ns;⟨o,e'⟩) ?_) q
 refine⟨by rw[aj O.ne];exact ho,W2 (xY f d fs) hl,O.ne,O'.obj,_,O'.ns,λg=>?_,λg hg=>xZ ?_⟩
 ·show f9 _ _ ((fF f d fs).lookup g) (if g=f then some u else mA g)
  rw[rp];by_cases q:g=f
  ·rw[if_pos q,if_pos q];exact rd
  ·rw[if_neg q,if_neg q];exact rr g
 ·rw[rp];by_cases q:g=f
  ·rw[if_pos q];exact XB d
  ·have hg:(if g=f then some u else mA g)≠none:=hg
   rw[if_neg q]at hg ⊢;have:=rr g;cases e1:fs.lookup g with
   |some _=>exact XB _
   |none=>rw[e1]at this;cases e2:mA g with
    |none=>exact absurd e2 hg
    |some _=>rw[e2]at this;exact this.elim
variable{k:Nat}{g:Addr}{fd:FuncData}{ps:List Str}{sp:Sp}{bo:List D}{ds:List Value}{E:XQ}{x:Str}
theorem x3{pl:Sem Bool}{args:List Expr}(ho:PE X o to)(c:b9 X.G.K C)(hm:jI X.G.K C m g)(F:bj X.G k g fd ps sp)(hr:bC k X.A)(hb:bO X.G.K fd ps ds)(hd:eT X bo ds)(hx:dR X E)
  (ht:eval (.Call (.Attribute o m co) args [] pos) X.env=(do
   let ov <- eval o X.env
   standAt co.atName
   let (f,first) <- holding [ov] (getMethod ov m pl)
   callWith pos f first (backTo pos (starEach args X.env)) (backToKw pos (keywordEach [] X.env))))
  (ha:∀ τ z a R Q,ab X τ z->t τ z.M Q->(∀ds z' us,Le z.F z'.F->ab X τ z'->ae X.G z'.F ds us->Q ds z'.M->W X (call (.ref g) (.ref a::us)) R z'.s)->W X (callWith pos (.ref g) [.ref a] (backTo pos (starEach args X.env)) (backToKw pos (keywordEach [] X.env))) R z.s) :
  PE X (.Call (.Attribute o m co) args [] pos) (ly C m sp bo E to t):=fun τ z Q R I h K=>
 PySem.W.methodCall_KW (pl:=pl) (ho τ z _ _ I h λod z1 u l1 I1 r1 q1=>by
  obtain⟨a,C',dx,fs,mA,rfl,e,O,rr,wi,ho,rfl,l,q⟩:=I1.cT r1 q1;have hn:mA m=none:=by have:=rr m;rw[l]at this;cases e2:mA m with
   |none=>rfl
   |some _=>rw[e2]at this;exact this.elim
  exact FE I1.b7 O (c.get m) hm.bf hm.fn hn (ha τ z1 a R _ I1 q λds z2 us l2 I2 r2 q2=>rn F hr hb hd hx I2 (.cons (r1.up l2.d) r2) q2 λd z3 u l3=>K d z3 u (l1.tr (l2.tr l3)))) ht
theorem Gy{pl:Sem Bool}(ho:PE X o to)(c:b9 X.G.K C)(hm:jI X.G.K C m g)(F:bj X.G k g fd ps sp)(hr:bC k X.A)(hb:bO X.G.K fd ps ds)(hd:eT X bo ds)(hx:dR X E)(ha:PA X (e::es) t)
  (gs:starEach (e::es) X.env=(false,eval e X.env)::starEach es X.env) (cr:(backTo pos (starEach es X.env)).any (·.1)=false)
  (ht:eval (.Call (.Attribute o m co) (e::es) [] pos) X.env=(do
   let ov <- eval o X.env
   standAt co.atName
   let (f,first) <- holding [ov] (getMethod ov m pl)
   callWith pos f first (backTo pos (starEach (e::es) X.env)) (backToKw pos (keywordEach [] X.env)))):PE X (.Call (.Attribute o m co) (e::es) [] pos) (ly C m sp bo E to t):=
 x3 ho c hm F hr hb hd hx ht fun τ z a R Q I q K=>PySem.W.callWith_K (first:=[.ref a]) (h₀:=X.G.base) I.ok.mod.gc hm.kp (ha pos τ z _ _ I q λds z2 us l2 I2 r2 q2=>⟨I2.b7,K ds z2 us l2 I2 r2 q2⟩) gs cr
theorem Gz{pl:Sem Bool}(ho:PE X o to)(c:b9 X.G.K C)(hm:jI X.G.K C m g)(F:bj X.G k g fd ps sp)(hr:bC k X.A)(hb:bO X.G.K fd ps ds)(hd:eT X bo ds)(hx:dR X E)
  (ht:eval (.Call (.Attribute o m co) [] [] pos) X.env=(do
   let ov <- eval o X.env
   standAt co.atName
   let (f,first) <- holding [ov] (getMethod ov m pl)
   callWith pos f first (backTo pos (starEach [] X.env)) (backToKw pos (keywordEach [] X.env)))):PE X (.Call (.Attribute o m co) [] [] pos) (ly C m sp bo E to gV):=
 x3 ho c hm F hr hb hd hx ht fun τ z a R Q I q K=>PySem.W.callWith_K0 (first:=[.ref a]) I.b7 hm.kp (K [] z [] Le.rfl I .nil q)
theorem ab.made(I:ab X τ z):ab X τ ⟨z.F,up (up z.M z.s.heap.objs.size (.own (z.s.heap.objs.size+1))) (z.s.heap.objs.size+1) (.ins C z.s.heap.objs.size []),{ z.s with heap:=(z.s.heap.push PySem.W.emptyDict).push (PySem.W.instObj C z.s.heap.objs.size) }⟩:=by
 have e1:(z.s.heap.push PySem.W.emptyDict).get? z.s.heap.objs.size=some PySem.W.emptyDict:=WX z.s.heap rfl;have e2:((z.s.heap.push PySem.W.emptyDict).push (PySem.W.instObj C z.s.heap.objs.size)).get? (z.s.heap.objs.size+1)=some (PySem.W.instObj C z.s.heap.objs.size):=by
  have:=WX (z.s.heap.push PySem.W.emptyDict) (o:=PySem.W.instObj C z.s.heap.objs.size) rfl
  rwa [Xq]at this
 have e3:(z.s.heap.push PySem.W.emptyDict).Ns z.s.heap.objs.size (λ_=>none):=⟨PySem.W.emptyDict,#[],_,e1,rfl,(λe he=>absurd he (by simp)),λ_=>rfl⟩;have ne:z.s.heap.objs.size≠z.s.heap.objs.size+1:=W7 (Yq _);have I1:=I.lay (a:=z.s.heap.objs.size) (o:=.own (z.s.heap.objs.size+1)) (h':=z.s.heap.push PySem.W.emptyDict) (t:=z.s.toks) (λb u q=>WR _ q) (WU _) ⟨_,e1⟩;exact I1.lay (a:=z.s.heap.objs.size+1) (o:=.ins C z.s.heap.objs.size []) (t:=z.s.toks) (λb u q=>WR _ q) (Y8 (Xq _ _))
  ⟨by rw[aj ne];exact ak,W9 _,ne,e2,λ_=>none,(Heap.Ns1.of_empty e3).at λo q=>WR _ q,λ_=>True.intro,λy hy=>absurd rfl hy⟩
theorem x4{us:List Value}{vs:List D}{Q:QK}{R:Value->Shared->Prop}(M:Mk X.G.K C g)(F:bj X.G k g fd ps sp)(hr:bC (k+1) X.A)(hb:bO X.G.K fd ps ds)(hd:eT X bo ds)(hx:dR X E)(I:ab X τ z)(r:ae X.G z.F vs us)
  (h:∀x dx,z.M x=none->z.M dx=none->dx≠x->sp (.ref x::(vs++bo)) (up (up z.M dx (.own x)) x (.ins C dx [])) (λv M2=>v=.ai/\Q (.ref x) M2) E) (K:KE X τ z.F Q R):W X (call (.ref C) us) R z.s:=by
 have hq:=h (z.s.heap.objs.size+1) z.s.heap.objs.size (I.hok.c8 (YR _)) (I.hok.c8 (WU _)) (W7 (Yq _));have I2:=ab.made (C:=C) I;have r2:ae X.G z.F (D.ref (z.s.heap.objs.size+1)::(vs++bo)) (XI (z.s.heap.objs.size+1)::(us++ds)):=.cons (by rw[aa]) (r.append (hd τ z I));have hl:(XI (z.s.heap.objs.size+1)::us++ds).length=ps.length:=by
  have e:=r2.len;rw[F.len _ _ _ _ hq]at e;exact e.symm
 refine wpAny_call (FJ (f:=g) I.b7 M.FN M.init (beq_iff_eq.mp M.fn) (YG (F.eI _ X.stk _ ⟨XI (z.s.heap.objs.size+1)::us,[]⟩ (XI (z.s.heap.objs.size+1)::(us++ds)) _ _ E (hr.make C us [])
  (I2.dc.make C us []) (hb _ (XI (z.s.heap.objs.size+1)::us) I2.b7 hl) (r2.up I2.du.d) hq) λr s' dz=>?_))
 have:=xW (Q0:=Q) (R:=λu s'=>u=.none/\R (.ref (z.s.heap.objs.size+1)) s') hx I2 dz λu d z2 e l J r q=>by
  obtain⟨rfl,q⟩:=q;rw[aa]at r;exact⟨r,e ▸ K _ z2 _ l J (by rw[aa]) q⟩
 cases r with
 |error e=>exact this
 |ok fl=>cases fl <;> exact this
theorem GA(M:Mk X.G.K C g)(F:bj X.G k g fd ps sp)(hr:bC (k+1) X.A)(hg:Gl X x)(hm:X.G.mg x=some (.ref C))(hb:bO X.G.K fd ps ds)(hd:eT X bo ds)(hx:dR X E)
  (ha:PA X (e::es) t) (cF:(x == ("__debug__" : Str))=false) (he:starEach (e::es) X.env=(false,eval e X.env)::starEach es X.env) (cr:(backTo pos (starEach es X.env)).any (·.1)=false) :
  PE X (.Call (.Name x p) (e::es) [] pos) (ry C sp bo E t):=fun τ z Q R I h K=>
 XU (jB I hg hm cF (PySem.W.callWith_K (h₀:=X.G.base) I.ok.mod.gc M.kp (ha pos τ z _ _ I h λvs z1 us l1 I1 r q=>⟨I1.b7,x4 M F hr hb hd hx I1 r q λd z2 u l2=>K d z2 u (l1.tr l2)⟩) he cr))
theorem GB(M:Mk X.G.K C g)(F:bj X.G k g fd ps sp)(hr:bC (k+1) X.A)(hg:Gl X x)(hm:X.G.mg x=some (.ref C))(hb:bO X.G.K fd ps ds)(hd:eT X bo ds)(hx:dR X E)
  (cF:(x == ("__debug__" : Str))=false):PE X (.Call (.Name x p) [] [] pos) (ry C sp bo E gV):=fun τ z Q R I h K=>
 XU (jB I hg hm cF (PySem.W.callWith_K0 I.b7 M.kp (x4 (us:=[]) M F hr hb hd hx I .nil h K)))
end
end N
end
section
set_option maxHeartbeats 1000000
namespace N
open PySem PySem.Spec PyProof.Rows L2
def x5:Q1:=λx M q=>bI x λi=>q (.int (-i)) M
abbrev DO:=St->Mp->(Option Int->Mp->Prop)->Prop
def x6:DO:=λ_ M q=>q none M
def x7(t:DE):DO:=fun τ M q=>t τ M λx M1=>bI x λi=>q (some i) M1
noncomputable def bz(xs:List D)(lo hi:Option Int):List D:=(xs.drop (HT.aC xs.length 0 lo)).take (HT.aC xs.length xs.length hi-HT.aC xs.length 0 lo)
def rz(x:D)(lo hi:Option Int)(M:Mp)(Q:QK):Prop:=match x with
 |.tup ds=>Q (.tup (bz ds lo hi)) M
 |.str w=>w.length<=sizeLine/\Q (.str (Txt.slice w lo hi)) M
 |x=>bg x M λxs=>bS (bz xs lo hi) M Q
def x8(te:DE)(tl th:DO):DE:=fun τ M q=>te τ M λx M1=>tl τ M1 λl M2=>th τ M2 λh M3=>rz x l h M3 q
def rA:Q1:=λx M q=>match x with
 |.tup ds=>q (.tup ds.reverse) M
 |x=>bg x M λds=>bS ds.reverse M q
section
variable{X:Cx}{e:Expr}{te:DE}{lo hi:Option Expr}{tl th:DO}{pos p2 p3 p4:Pos}
theorem x9{op:UnaryOp}{r:Q1}(ho:O1 X (unaryOp op) r)(h:PE X e te):PE X (.UnaryOp op e pos) (jA r te):=fun τ z Q R I q k=>
 UnaryOp_ (h τ z _ _ I q λd z1 u l1 I1 r1 q1=>ho τ z1 Q R d u I1 r1 q1 λd z2 u l2=>k d z2 u (l1.tr l2))
theorem ya:O1 X (unaryOp .USub) x5:=fun τ z Q R d v I r q k=>by
 obtain⟨i,t,rfl,q⟩:=cn q r;exact neg_int (I.fin k Le.rfl bM q _)
def PO(X:Cx)(e:Option Expr)(t:DO):Prop:=∀ τ z Q R,ab X τ z->t τ z.M Q->(∀o z' u,Le z.F z'.F->ab X τ z'->IsPart u o->Q o z'.M->R u z'.s)->W X (evalPart e X.env) R z.s
theorem GC:PO X none x6:=fun τ z Q R I h k=>by rw[evalPart_none];exact WS (k none z .none Le.rfl I .none h)
theorem GD(h:PE X e te):PO X (some e) (x7 te):=fun τ z Q R I hw k=>by
 rw[evalPart_some];exact h τ z _ _ I hw λd z1 u l1 I1 r1 q1=>by
  obtain⟨i,t,rfl,q⟩:=cn q1 r1;exact k (some i) z1 _ l1 I1 (.int i t) q
theorem nV(xs:List D)(lo hi:Option Int):(bz xs lo hi).length<=xs.length:=by
 unfold bz;rw[List.length_take,Zd];lia
theorem ae.jQ{G:Gx}{F:Fz}{ds:List D}{us:List Value}(r:ae G F ds us)(i j:Nat):ae G F ((ds.drop i).take j) ((us.drop i).take j):=by
 have Ue:∀(i:Nat){ds:List D}{us:List Value},ae G F ds us->ae G F (ds.drop i) (us.drop i):=λi=>by
  induction i with
  |zero=>exact λr=>r
  |succ i ih=>intro ds us r;cases ds with
   |nil=>rw[ae]at r;subst r;exact .nil
   |cons d ds=>rw[ae]at r;obtain⟨u,us,rfl,_,r⟩:=r;exact ih r
 have tk:∀(i:Nat){ds:List D}{us:List Value},ae G F ds us->ae G F (ds.take i) (us.take i):=λi=>by
  induction i with
  |zero=>exact λr=>by rw[List.take_zero,List.take_zero];exact .nil
  |succ i ih=>intro ds us r;cases ds with
   |nil=>rw[ae]at r;subst r;exact .nil
   |cons d ds=>rw[ae]at r;obtain⟨u,us,rfl,h,r⟩:=r;exact .cons h (ih r)
 exact tk j (Ue i r)
theorem ae.rev{G:Gx}{F:Fz}:∀{ds:List D}{us:List Value},ae G F ds us->ae G F ds.reverse us.reverse
 |[],us,r=>by rw[ae]at r;subst r;exact .nil
 |d::ds,us,r=>by rw[ae]at r;obtain⟨u,us,rfl,h,r⟩:=r;rw[YB,YB];exact (ae.rev r).app (.cons h .nil)
theorem GF{τ:St}{z:Z}{x:D}{v vl vu:Value}{lo hi:Option Int}{sl:Addr}{Q:QK}{R:Value->Shared->Prop}(I:ab X τ z)(r:aa X.G z.F x v)(hs:z.s.heap.IsSliceOf sl vl vu .none)(pl:IsPart vl lo)(pu:IsPart vu hi)(q:rz x lo hi z.M Q)(K:KE X τ z.F Q R):
  ∃T id,typeLookup (.type T) "__getitem__"=pure (some (.builtin id))/\z.s.TypeIs v T/\W X (getItem v (.ref sl)) R z.s:=by
 have lst:(bg x z.M λxs=>bS (bz xs lo hi) z.M Q)->∃T id,typeLookup (.type T) "__getitem__"=pure (some (.builtin id))/\z.s.TypeIs v T/\W X (getItem v (.ref sl)) R z.s:=λq=>by
  obtain⟨a,ds,us,n,rfl,l,q⟩:=I.bg r q;have hlen:=l.r.len;have hz:=l.z;have hc:(bz ds lo hi).length<=sizeLine:=W2 (nV ds lo hi) (by rw[hlen];exact hz);refine⟨"list",_,slot_list_getitem.lookup,l.p.isList.typeIs,wpAny_getItem_list_slice l.p.isList hs pl pu .none (by simp) ?_ (by rw[WV] <;> lia)⟩;have rc:ae X.G z.F (bz ds lo hi) _:=l.r.jQ (HT.aC ds.length 0 lo) (HT.aC ds.length ds.length hi-HT.aC ds.length 0 lo);rw[Fv,<- hlen];exact I.lst (n:=0) (t:=z.s.toks) K Le.rfl rc (λb ob q=>WR _ q) (WU _) (WX _ rfl) (by rw[<- rc.len];exact hc) q
 unfold rz at q;split at q
 ·rename_i ds;obtain⟨a,us,o,rfl,p⟩:=I.cD r;have hl:=p.r.len;have hlen:us.toArray.size=ds.length:=by rw[WV];exact hl.symm
  refine⟨"tuple",_,PyProof.Rows.slot_tuple_getitem.lookup,p.p.typeIs,?_⟩;by_cases w:HT.aC ds.length 0 lo=0/\HT.aC ds.length ds.length hi=ds.length
  ·have e:bz ds lo hi=ds:=by
    unfold bz;rw[w.1,w.2,List.drop_zero,Nat.sub_zero,List.take_length]
   rw[e]at q;exact Fw p.p hs pl pu (by rw[hlen];exact w) (K _ z _ Le.rfl I r q)
  ·have rc:ae X.G z.F (bz ds lo hi) _:=p.r.jQ (HT.aC ds.length 0 lo) (HT.aC ds.length ds.length hi-HT.aC ds.length 0 lo);refine HT.Ft p.p hs pl pu (by rw[hlen];exact w) ?_ (by rw[WV];exact p.t.len);rw[hlen];exact I.tup (t:=z.s.toks) K Le.rfl rc (λb ob q=>WR _ q) (WU _) (WX _ rfl) ⟨rfl,rfl,⟨_,rfl⟩,by rw[<- rc.len];exact W2 (nV ds lo hi) (by rw[hl];exact p.t.len)⟩ q
 ·rename_i w;rw[aa]at r;obtain⟨t,rfl⟩:=r;obtain⟨hz,q⟩:=q;have fin:∀(t':Tok)(k:Nat),R (.str (Txt.slice w lo hi) t') { z.s with toks:=k }:=λt' k=>I.fin K Le.rfl fy q _;refine⟨"str",_,F.slot_str_getitem.lookup,typeIs_str _ _ _,?_⟩;obtain⟨os,cS,hcs,dL⟩:=hs;have UK:∀{v:Value}{o:Option Int},IsPart v o->∃ l:Option (Int×Tok),v=(match l with | some p=>.int p.1 p.2 | none=>.none)/\o=l.map (·.1):=λp=>by
   cases p with
   |none=>exact⟨none,rfl,rfl⟩
   |int i t=>exact⟨some (i,t),rfl,rfl⟩
  obtain⟨l,rfl,rfl⟩:=UK pl;obtain⟨u,rfl,rfl⟩:=UK pu;refine wpAny_getItem_str_slice (l:=l) (u:=u) (st:=none) ⟨os,cS,hcs,?_⟩ rfl (post_val_or_str ⟨W2 (Txt.slice_le w _ _) hz,fin⟩);cases l <;> cases u <;> exact dL
 ·exact lst q
theorem GG(he:PE X e te)(hl:PO X lo tl)(hu:PO X hi th)(hs:∀o i,subscripted (.Slice lo hi none p2) false o i=operate [i,o] (getItem o i)):PE X (.Subscript e (.Slice lo hi none p2) pos) (x8 te tl th):=fun τ z Q R I h K=>
 Subscript_ (he τ z _ _ I h λx z1 v l1 I1 r1 q1=>wpAny_Slice (hl τ z1 _ _ I1 q1 λl z2 vl l2 I2 pl q2=>hu τ z2 _ _ I2 q2 λu z3 vu l3 I3 pu q3=>by
  rw[evalPart_none];have I4:ab X τ ⟨z3.F,z3.M,{ z3.s with heap:=z3.s.heap.push { cls:=.type "slice",data:=.fields #[vl,vu,.none] } }⟩:=I3.kept (t:=z3.s.toks) λb ob q=>WR _ q;obtain⟨T,id,hT,ht,hg⟩:=GF I4 (r1.up (l2.tr l3).d) (Heap.IsSliceOf.new ..) pl pu q3 λd z u l=>K d z u ((l1.tr (l2.tr l3)).tr l);exact WS (tail_any (ops:=[.ref z3.s.heap.objs.size,v]) ht hT hg (hs _ _))))
theorem GH{k:Nat}(he:PE X e te)(hs:∀o i,subscripted (.Slice none none (some (.UnaryOp .USub (.Constant (.int 1) k p3) p4)) p2) false o i=operate [o,i] (getItem o i)):PE X (.Subscript e (.Slice none none (some (.UnaryOp .USub (.Constant (.int 1) k p3) p4)) p2) pos) (jA rA te):=fun τ z Q R I h K=>
 Subscript_ (he τ z _ _ I h λx z1 v l1 I1 r1 q1=>wpAny_Slice (by
  rw[evalPart_none];refine WS (WS ?_);rw[evalPart_some];refine x9 ya (te:=SN (.int 1)) wJ τ z1 (λy M=>y=.int (-1)/\M=z1.M) _ I1 ⟨rfl,rfl⟩ λy z2 u l2 I2 r2 q2=>?_;obtain⟨rfl,q2⟩:=q2;rw[aa]at r2;obtain⟨t,rfl⟩:=r2;have I4:ab X τ ⟨z2.F,z2.M,{ z2.s with heap:=z2.s.heap.push { cls:=.type "slice",data:=.fields #[.none,.none,.int (-1) t] } }⟩:=I2.kept (t:=z2.s.toks) λb ob q=>WR _ q;have r1:=r1.up l2.d;have K:KE X τ z2.F Q R:=λd z u l=>K d z u ((l1.tr l2).tr l);rw[<- q2]at q1;have lst:(bg x z2.M λds=>bS ds.reverse z2.M Q)->W X (subscriptTail e (.Slice none none (some (.UnaryOp .USub (.Constant (.int 1) k p3) p4)) p2) v (.ref z2.s.heap.objs.size)) R { z2.s with heap:=z2.s.heap.push { cls:=.type "slice",data:=.fields #[.none,.none,.int (-1) t] } }:=λq=>by
   obtain⟨a,ds,us,n,rfl,l,q⟩:=I4.bg r1 q;have hz:=l.z;refine tail_any (ops:=[.ref a,.ref z2.s.heap.objs.size]) (T:="list") l.p.isList.typeIs slot_list_getitem.lookup ?_ (hs _ _);refine wpAny_getItem_list_slice l.p.isList (Heap.IsSliceOf.new ..) .none .none (.int (-1) t) (by simp) ?_ (by rw[WV] <;> lia);rw[PySem.W.krv_pick];exact I4.lst (n:=0) (t:=z2.s.toks) K Le.rfl l.r.rev (λb ob q=>WR _ q) (WU _) (WX _ rfl) (by rw[YD];exact hz) q
  unfold rA at q1;split at q1
  ·obtain⟨a,us,o,rfl,p⟩:=I4.cD r1;refine tail_any (ops:=[.ref a,.ref z2.s.heap.objs.size]) (T:="tuple") p.p.typeIs slot_tuple_getitem.lookup (FQ p.p (Heap.IsSliceOf.new ..) ?_ (by rw[WV];exact p.t.len)) (hs _ _);exact I4.tup (t:=z2.s.toks) K Le.rfl p.r.rev (λb ob q=>WR _ q) (WU _) (WX _ rfl) ⟨rfl,rfl,⟨_,rfl⟩,by rw[YD];exact p.t.len⟩ q1
  ·exact lst q1))
end
end N
end
section
set_option maxHeartbeats 1000000
namespace N
open PySem PySem.Spec PyProof.Rows L2 PyProof.V
def yb(x:D)(M:Mp)(k:Nat->Prop):Prop:=match x with
 |.str w=>w.length<=sizeLine/\k w.length
 |.tup ds=>k ds.length
 |.lst ds=>k ds.length
 |.ag ks ds=>k (ks.zip ds).length
 |.ref p=>(∃xs,M p=some (.lst xs)/\k xs.length)\/∃kvs,M p=some (.ag kvs)/\k kvs.length
 |_=>False
def n1(r:Q1):QN:=λds M q=>match ds with
 |[x]=>r x M q
 |_=>False
def yc:QN:=n1 λx M q=>yb x M λn=>q (.int n) M
def yd:QN:=n1 λx M q=>cQ x M λds=>bS ds M q
def ye:QN:=n1 λx M q=>cQ x M λds=>q (.tup ds) M
def yf:QN:=n1 λx M q=>match x with
 |.int i=>q (.int i) M
 |.bl b=>q (.int (if b then 1 else 0)) M
 |_=>False
def rB:QN:=λds M q=>match ds with
 |[.int i,.int j]=>q (.int (if j > i then j else i)) M
 |[x]=>bg x M λds=>∃ns:List Int,ds=ns.map D.int/\0<ns.length/\∀m,m∈ns->(∀a∈ns,a<=m)->q (.int m) M
 |_=>False
def yg:QN:=n1 λx M q=>bg x M λds=>∃ns:List Int,ds=ns.map D.int/\q (.int ns.sum) M
def nW(f:List Bool->Bool):QN:=n1 λx M q=>bg x M λds=>∃bs:List Bool,ds=bs.map D.bl/\q (.bl (f bs)) M
abbrev CB(X:Cx)(f:Value)(r:QN):Prop:=ON X (λus=>call f us) r
def S9(r:QN)(t:DA):DE:=fun τ M q=>t τ M λds M1=>r ds M1 q
section
variable{X:Cx}{x:Str}{p pos:Pos}{e:Expr}{es:List Expr}{t:DA}{id T:String}{r:QN}
theorem GI(hc:CB X (.builtin id) r)(hg:Gl X x)(hm:X.G.mg x=none)(hv:bootBuiltins x=some (.builtin id))(ha:PA X (e::es) t)(hn:x≠"__name__")(cF:(x == ("__debug__" : Str))=false)
  (he:starEach (e::es) X.env=(false,eval e X.env)::starEach es X.env) (cr:(backTo pos (starEach es X.env)).any (·.1)=false):PE X (.Call (.Name x p) (e::es) [] pos) (S9 r t):=fun τ z Q R I h k=>
 XU (dO I hg hm hv hn cF (PyProof.Rows.callWith_builtin1 (ha pos τ z _ _ I h λds z1 us l1 I1 r1 q1=>hc τ z1 Q R ds us I1 r1 q1 λd z2 u l2=>k d z2 u (l1.tr l2)) he cr))
theorem yh(hc:CB X (.type T) r)(hg:Gl X x)(hm:X.G.mg x=none)(hv:bootBuiltins x=some (.type T))(ha:PA X (e::es) t)(hn:x≠"__name__")(cF:(x == ("__debug__" : Str))=false)
  (he:starEach (e::es) X.env=(false,eval e X.env)::starEach es X.env) (cr:(backTo pos (starEach es X.env)).any (·.1)=false):PE X (.Call (.Name x p) (e::es) [] pos) (S9 r t):=fun τ z Q R I h k=>
 XU (dO I hg hm hv hn cF (XF (ha pos τ z _ _ I h λds z1 us l1 I1 r1 q1=>hc τ z1 Q R ds us I1 r1 q1 λd z2 u l2=>k d z2 u (l1.tr l2)) he cr))
theorem gu{f:List Value->Sem Value}{r:Q1}(h:O1 X (λv=>f [v]) r):ON X f (n1 r):=fun τ z Q R ds us I rs q k=>by
 unfold n1 at q;split at q
 ·obtain⟨u,rfl,ru⟩:=eh rs;exact h τ z Q R _ u I ru q k
 ·exact q.elim
theorem GJ:CB X (.builtin "len") yc:=gu fun τ z Q R d v I r q k=>by
 have fin:∀{n m:Nat}(t:Nat),n=m->Q (.int n) z.M->R (.int m z.s.toks) { z.s with toks:=t }:=λt e q=>I.fin k Le.rfl (e ▸ bM) q _;have lst:∀{ds:List D}{us:List Value}{a:Addr}{n:Nat},eK X.G z.F z.s.heap a ds us n->Q (.int ds.length) z.M->W X (call (.builtin "len") [.ref a]) R z.s:=λl q=>Calls.call_len_list l.p.isList (by rw[WV];exact g9 l.z) (I.fin k Le.rfl (by rw[WV,<- l.r.len];exact bM) q _);have ag:∀{kvs:List (Key×D)}{vs:List (Key×Value)}{a:Addr},jJ X.G z.F z.s.heap a kvs vs->Q (.int kvs.length) z.M->W X (call (.builtin "len") [.ref a]) R z.s:=λl q=>by
  have e:=Paired.length l.r;refine call_len_dict l.n l.d (by rw[<- e];exact g9 l.z) ?_;rw[<- e];exact I.fin k Le.rfl bM q _
 cases d with
 |str y=>rw[aa]at r;obtain⟨t,rfl⟩:=r;exact len_str (Int.not_le.mpr (g9 q.1)) (I.fin k Le.rfl bM q.2 _)
 |tup ds=>obtain⟨a,us,o,rfl,l⟩:=I.cD r;exact len_tuple l.p (by rw[WV];exact g9 l.t.len) (I.fin k Le.rfl (by rw[WV,<- l.r.len];exact bM) q _)
 |lst ds=>obtain⟨a,us,n,rfl,l⟩:=I.gi r;exact lst l q
 |ag ks ds=>obtain⟨a,kvs,vs,rfl,l,h⟩:=I.b4 (k:=λkvs=>Q (.int kvs.length) z.M) r q;exact ag l h
 |ref a=>
  rw[aa]at r;subst r;rcases q with ⟨xs,h1,h2⟩ |⟨kvs,h1,h2⟩
  ·obtain⟨us,n,l⟩:=I.eL h1;exact lst l h2
  ·obtain⟨vs,l⟩:=I.gm h1;exact ag l h2
 |_=>exact q.elim
theorem GK:CB X (.type "int") yf:=gu fun τ z Q R d v I r q k=>by
 cases d with
 |int i=>rw[aa]at r;obtain⟨t,rfl⟩:=r;exact call_int_int (k _ z _ Le.rfl I bM q)
 |bl b=>rw[aa]at r;subst r;exact call_int_bool (I.fin k Le.rfl bM q _)
 |_=>exact q.elim
theorem ab.cQ{τ:St}{z:Z}{d:D}{u:Value}{k:List D->Prop}(I:ab X τ z)(r:aa X.G z.F d u)(h:cQ d z.M k):∃a ds us,u=.ref a/\k ds/\ae X.G z.F ds us/\us.length<=sizeLine/\((∃n,z.s.heap.get? a=some (bH us n))\/(d=.tup ds/\IsTup z.s.heap a us.toArray)):=by
 unfold N.cQ at h;split at h
 ·obtain⟨a,us,o,rfl,l⟩:=I.cD r;exact⟨a,_,us,rfl,h,l.r,l.t.len,.inr ⟨rfl,l.p⟩⟩
 ·obtain⟨a,ds,us,n,rfl,l,q⟩:=I.bg r h;exact⟨a,ds,us,rfl,q,l.r,l.z,.inl ⟨n,l.e⟩⟩
theorem GL:CB X (.type "list") yd:=gu fun τ z Q R d v I ru q k=>by
 obtain⟨a,ds,us,rfl,q,r,hz,h⟩:=I.cQ ru q;have fin:∀(h':Heap)(c':Nat),(∀b o',z.s.heap.get? b=some o'->h'.get? b=some o')->h'.get? z.s.heap.objs.size=some (bH us c')->R (.ref z.s.heap.objs.size) { z.s with heap:=h' }:=λh' c' kp e=>
  I.lst (t:=z.s.toks) k Le.rfl r (λb o q=>kp b o q) (WU _) e hz q
 rcases h with ⟨n,e⟩ |⟨_,o,e,hc,n,hd⟩
 ·exact call_list_seq a (.inl rfl) e rfl rfl (λh' c' kp e=>fin h' c' kp e) (by rw[WV];exact hz)
 ·exact call_list_seq a (.inr rfl) e hc hd (λh' c' kp e=>fin h' c' kp e) (by rw[WV];exact hz)
theorem GN:CB X (.type "tuple") ye:=gu fun τ z Q R d v I ru q k=>by
 obtain⟨a,ds,us,rfl,q,r,hz,h⟩:=I.cQ ru q;rcases h with ⟨n,e⟩ |⟨rfl,p⟩
 ·refine call_tuple_list ⟨_,e,rfl,_,rfl⟩ (λh' kp=>?_) (by rw[WV];exact hz);exact (I.kept (t:=z.s.toks) kp).tup (t:=z.s.toks) k Le.rfl r (λb o e=>WR _ e) (WU _) (WX _ rfl) ⟨rfl,rfl,⟨_,rfl⟩,hz⟩ q
 ·exact call_tuple_same p (k _ z _ Le.rfl I ru q)
theorem ints_of{G:Gx}{F:Fz}:∀{ns:List Int}{us:List Value},ae G F (ns.map D.int) us->IntsAre us ns
 |[],us,r=>by rw[XT,ae]at r;subst r;exact .nil
 |n::ns,us,r=>by rw[W0,ae]at r;obtain⟨u,us,rfl,h,r⟩:=r;rw[aa]at h;obtain⟨t,rfl⟩:=h;exact .cons n t (ints_of r)
theorem GO(hc:X.calm=true):CB X (.builtin "max") rB:=fun τ z Q R ds us I rs q k=>by
 unfold rB at q;split at q
 ·rename_i i j;obtain⟨u,v,rfl,h1,h2⟩:=g6 rs;rw[aa]at h1 h2;obtain⟨t,rfl⟩:=h1;obtain⟨t',rfl⟩:=h2;refine max_two_ints (I.ok.hd hc) λh' tk kp=>k _ ⟨z.F,z.M,_⟩ _ Le.rfl (I.kept (t:=tk) kp) ?_ q;by_cases hj:j > i
  ·rw[if_pos hj,if_pos hj];exact bM
  ·rw[if_neg hj,if_neg hj];exact bM
 ·obtain⟨u,rfl,ru⟩:=eh rs;obtain⟨a,ds,its,n,rfl,l,ns,rfl,h0,q⟩:=I.bg ru q;have hi:IntsAre its ns:=ints_of l.r;have hl:z.s.heap.IsList a its.toArray:=l.p.isList;obtain⟨xs,hx⟩:=hi.allInts.items;have hn:numsOf its.toArray.toList=ns:=by rw[show its.toArray.toList=its from rfl,hi.numsOf]
  rw[hx]at hl hn;rw[nums_intItems]at hn;have hsz:0<xs.size:=by
   have:=congrArg YQ hn;rw[WQ,Xg]at this;lia
  refine max_intList (I.ok.hd hc) hl hsz λv h' tk hv hk=>?_;obtain⟨t,rfl⟩:=intItems_at hv;obtain⟨h1,h2⟩:=argBest_gt (numAt xs) (xs.size-1);refine k _ ⟨z.F,z.M,_⟩ _ Le.rfl (I.kept (t:=tk) hk) bM (q _ ?_ λa ha=>?_)
  ·rw[<- hn,numAt_eq];exact getD_mem (by rw[WQ,Xg];lia)
  ·rw[<- hn]at ha;obtain⟨j,hj,rfl⟩:=mem_getD ha;rw[WQ,Xg]at hj;rw[<- numAt_eq];exact h2 j (by lia)
 ·exact q.elim
theorem ab.rC{τ:St}{z:Z}{s':Shared}(I:ab X τ z)(g:s'.gens=z.s.gens)(d:s'.drawn=z.s.drawn)(o:s'.os=z.s.os)(k:∀b ob,z.s.heap.get? b=some ob->s'.heap.get? b=some ob):ab X τ ⟨z.F,z.M,s'⟩:=by
 obtain⟨h',g',d',cR,rE⟩:=s';obtain rfl:g'=z.s.gens:=g;obtain rfl:d'=z.s.drawn:=d;obtain rfl:rE=z.s.os:=o;exact I.kept (t:=cR) k
theorem GP(hc:X.calm=true):CB X (.builtin "sum") yg:=gu fun τ z Q R d v I ru q k=>by
 obtain⟨p,ds,its,n,rfl,l,ns,rfl,q⟩:=I.bg ru q;have hi:IntsAre its ns:=ints_of l.r;have hl:z.s.heap.IsList p its.toArray:=l.p.isList;obtain⟨xs,hx⟩:=hi.allInts.items;have hn:numsOf its.toArray.toList=ns:=by rw[show its.toArray.toList=its from rfl,hi.numsOf]
 rw[hx]at hl hn;rw[nums_intItems]at hn;obtain⟨ob,o1,o2,_,o3⟩:=id hl;have ne:p≠z.s.heap.objs.size:=W7 (W4 o1);have W:=(Walks.list (prog:=X.G.P) (w:=X.G.w) (A:=X.A.in1) (I.ok.hd hc) z.s.heap.objs.size p ne (intItems xs)).toS;rw[show (intItems xs).size=xs.size by simp [intItems]]at W;refine call_sum_walkAnyS (YY hl ?_);refine⟨z.s.heap.objs.size,_,_,_,_,_,_,numAt xs,rfl,W,⟨⟨_,WX _ rfl,rfl,rfl⟩,hl.push _⟩,λb hb=>?_,λi v hP=>intItems_at hP,λs' t' hm=>?_⟩
 ·rcases List.mem_cons.mp hb with z |z
  ·rw[z];exact W4 (WX _ rfl)
  ·rw[List.mem_singleton.mp z];exact W4 (WR _ o1)
 ·have J:=I.rC hm.gens hm.drawn hm.os λb o e=>hm.heap b o (λhb=>absurd (W4 e) ((List.mem_singleton.mp hb) ▸ Yh _)) (WR _ e);refine k (.int ns.sum) ⟨z.F,z.M,s'⟩ _ Le.rfl J ?_ q;rw[preSum_eq,List.take_of_length_le (by simp),hn];exact bM
theorem rF{G:Gx}{F:Fz}:∀{bs:List Bool}{us:List Value}{i:Nat}{v:Value},ae G F (bs.map D.bl) us->us[i]?=some v->v=.bool (bs.getD i false)
 |[],us,i,v,r,e=>by rw[XT,ae]at r;subst r;simp at e
 |b::bs,us,0,v,r,e=>by rw[W0,ae]at r;obtain⟨u,us,rfl,h,r⟩:=r;rw[aa]at h;subst h;cases e;rfl
 |b::bs,us,i+1,v,r,e=>by rw[W0,ae]at r;obtain⟨u,us,rfl,h,r⟩:=r;exact rF (i:=i) r e
theorem rG(f:Bool->Bool):∀bs:List Bool,(Xu bs.length).map (λi=>bs.getD i false)=bs
 |[]=>rfl
 |b::bs=>by rw[Xe,List.range_succ_eq_map,W0,X7];exact congrArg (b::·) (rG f bs)
theorem GQ(hc:X.calm=true):CB X (.builtin "all") (nW (·.all _root_.id)):=gu fun τ z Q R d v I ru q k=>by
 obtain⟨p,ds,its,n,rfl,l,bs,rfl,q⟩:=I.bg ru q;have hl:z.s.heap.IsList p its.toArray:=l.p.isList;have ne:p≠z.s.heap.objs.size:=W7 (W4 l.e);have W:=(Walks.list (prog:=X.G.P) (w:=X.G.w) (A:=X.A.in1) (I.ok.hd hc) z.s.heap.objs.size p ne its.toArray).toS;have lb:its.length=bs.length:=by have:=l.r.len;rw[WQ]at this;exact this.symm
 refine call_all_walkS (YY hl ?_);refine⟨z.s.heap.objs.size,_,_,_,_,_,_,λi=>bs.getD i false,rfl,W,⟨⟨_,WX _ rfl,rfl,rfl⟩,hl.push _⟩,?_,λs' hm=>?_⟩
 ·intro i v s' Q' E' hP dz;have e:=rF (i:=i) (v:=v) l.r (by simpa using hP);subst e;exact Yw dz
 ·have J:=I.rC hm.gens hm.drawn hm.os λb o e=>hm.heap b o (λhb=>absurd (W4 e) ((List.mem_singleton.mp hb) ▸ Yh _)) (WR _ e);refine k (.bl (bs.all _root_.id)) ⟨z.F,z.M,s'⟩ _ Le.rfl J ?_ q;have e:(Xu its.toArray.size).all (λi=>bs.getD i false)=bs.all _root_.id:=by
   rw[WV,lb];exact (List.all_map (f:=λi=>bs.getD i false) (p:=_root_.id)).symm.trans (by rw[rG _root_.id])
  rw[e,aa]
theorem GR(hc:X.calm=true):CB X (.builtin "any") (nW (·.any _root_.id)):=gu fun τ z Q R d v I ru q k=>by
 obtain⟨p,ds,its,n,rfl,l,bs,rfl,q⟩:=I.bg ru q;have hl:z.s.heap.IsList p its.toArray:=l.p.isList;have ne:p≠z.s.heap.objs.size:=W7 (W4 l.e);have W:=(Walks.list (prog:=X.G.P) (w:=X.G.w) (A:=X.A.in1) (I.ok.hd hc) z.s.heap.objs.size p ne its.toArray).toS;have lb:its.length=bs.length:=by have:=l.r.len;rw[WQ]at this;exact this.symm
 refine call_any_walkS (YY hl ?_);refine⟨z.s.heap.objs.size,_,_,_,_,_,_,λi=>bs.getD i false,rfl,W,⟨⟨_,WX _ rfl,rfl,rfl⟩,hl.push _⟩,?_,λs' hm=>?_⟩
 ·intro i v s' Q' E' hP dz;have e:=rF (i:=i) (v:=v) l.r (by simpa using hP);subst e;exact Yw dz
 ·have J:=I.rC hm.gens hm.drawn hm.os λb o e=>hm.heap b o (λhb=>absurd (W4 e) ((List.mem_singleton.mp hb) ▸ Yh _)) (WR _ e);refine k (.bl (bs.any _root_.id)) ⟨z.F,z.M,s'⟩ _ Le.rfl J ?_ q;have e:(Xu its.toArray.size).any (λi=>bs.getD i false)=bs.any _root_.id:=by
   rw[WV,lb];exact (List.any_map (f:=λi=>bs.getD i false) (p:=_root_.id)).symm.trans (by rw[rG _root_.id])
  rw[e,aa]
end
end N
end
section
set_option maxHeartbeats 1000000
namespace N
open PySem PySem.Spec PyProof.Rows L2
abbrev QM:=D->QN
def OM(X:Cx)(id:String)(r:QM):Prop:=∀ τ z Q R d v ds us,ab X τ z->aa X.G z.F d v->ae X.G z.F ds us->r d ds z.M Q->KE X τ z.F Q R->W X (call (.builtin id) (v::us)) R z.s
def rH(T:String)(x:D)(M:Mp):Prop:=match x with
 |.str _=>T="str"
 |.tup _=>T="tuple"
 |.lst _=>T="list"
 |.ag _ _=>T="dict"
 |.ref a=>(T="list"/\∃xs,M a=some (.lst xs))\/(T="dict"/\∃kvs,M a=some (.ag kvs))
 |_=>False
def lA(T:String)(r:QM)(to:DE)(t:DA):DE:=fun τ M q=>to τ M λx M1=>rH T x M1/\t τ M1 λds M2=>r x ds M2 q
def gw(o:D)(M:Mp)(k:Addr->List D->Prop):Prop:=match o with
 |.ref l=>∃xs,M l=some (.lst xs)/\k l xs
 |_=>False
def rI:QM:=λo ds M q=>match ds with
 |[y]=>gw o M λl xs=>xs.length<sizeLine/\q .ai (up M l (.lst (xs++[y])))
 |_=>False
def rJ:QM:=λo ds M q=>match ds with
 |[]=>gw o M λl xs=>∃y,xs[xs.length-1]?=some y/\q y (up M l (.lst xs.dropLast))
 |_=>False
def rK:QM:=λo ds M q=>match ds with
 |[y]=>gw o M λl xs=>cQ y M λys=>xs.length+ys.length<=sizeLine/\q .ai (up M l (.lst (xs++ys)))
 |_=>False
def rL:QM:=λo ds M q=>match ds with
 |[y]=>b4 o M λkvs=>dQ y λk=>q ((aK kvs k).getD .ai) M
 |[y,w]=>b4 o M λkvs=>dQ y λk=>q ((aK kvs k).getD w) M
 |_=>False
section
variable{X:Cx}{o e:Expr}{es:List Expr}{to:DE}{t:DA}{name:Str}{co cpos:Pos}{T id:String}{r:QM}{τ:St}{z:Z}
theorem rM{x:D}{v:Value}(I:ab X τ z)(r:aa X.G z.F x v)(ty:rH T x z.M):z.s.TypeIs v T/\∀a,v=.ref a->∃ob,z.s.heap.get? a=some ob/\ob.dict=none:=by
 have lst:∀{ds:List D}{us:List Value}{a:Addr}{n:Nat},eK X.G z.F z.s.heap a ds us n->z.s.TypeIs (.ref a) "list"/\∀b,XI a=.ref b->∃ob,z.s.heap.get? b=some ob/\ob.dict=none:=λl=>⟨l.p.isList.typeIs,λb e=>by cases e;exact⟨_,l.e,rfl⟩⟩;have ag:∀{kvs:List (Key×D)}{vs:List (Key×Value)}{a:Addr},jJ X.G z.F z.s.heap a kvs vs->z.s.TypeIs (.ref a) "dict"/\∀b,XI a=.ref b->∃ob,z.s.heap.get? b=some ob/\ob.dict=none:=λl=>by
  obtain⟨o,_,_,e,ex,_⟩:=l.d;exact⟨⟨o,e,ex.1⟩,λb q=>by cases q;exact⟨o,e,ex.2.1⟩⟩
 cases x with
 |str w=>rw[aa]at r;obtain⟨t,rfl⟩:=r;cases (show T="str" from ty);exact⟨typeIs_str z.s w t,λ_ e=>nomatch e⟩
 |tup ds=>obtain⟨a,us,o,rfl,l⟩:=I.cD r;cases (show T="tuple" from ty);exact⟨l.p.typeIs,λb e=>by cases e;exact⟨_,l.e,l.t.dict⟩⟩
 |lst ds=>obtain⟨a,us,n,rfl,l⟩:=I.gi r;cases (show T="list" from ty);exact lst l
 |ag ks ds=>obtain⟨a,kvs,vs,rfl,l,_⟩:=I.b4 (k:=λ_=>True) r trivial;cases (show T="dict" from ty);exact ag l
 |ref a=>
  rw[aa]at r;subst r;rcases ty with ⟨rfl,xs,h⟩ |⟨rfl,kvs,h⟩
  ·obtain⟨us,n,l⟩:=I.eL h;exact lst l
  ·obtain⟨vs,l⟩:=I.gm h;exact ag l
 |_=>exact ty.elim
theorem GS(pa:PlainAttrs T)(slot:Slot T name id)(rN:typeOf (.builtin id)=pure (.type "method_descriptor"))(hm:OM X id r)(ho:PE X o to)
  (gx:attributeBase o name X.env (eval o X.env)=eval o X.env) (bv:(co.endLine == cpos.line)=true):PE X (.Call (.Attribute o name co) [] [] cpos) (lA T r to gV):=fun τ z Q R I h k=>
 wpAny_Call_method0_late gx bv (ho τ z _ _ I h λx z1 v l1 I1 r1 q1=>by
  obtain⟨h1,h2⟩:=rM I1 r1 q1.1;exact⟨T,id,pa,slot,rN,h1,h2,Calls.callWith_builtin rfl (PySem.evalArgs_none (hm τ z1 Q R x v [] [] I1 r1 .nil q1.2 λd z2 u l2=>k d z2 u (l1.tr l2)))⟩)
theorem GU(pa:PlainAttrs T)(slot:Slot T name id)(rN:typeOf (.builtin id)=pure (.type "method_descriptor"))(hm:OM X id r)(ho:PE X o to)(ha:PA X (e::es) t)
  (gx:attributeBase o name X.env (eval o X.env)=eval o X.env)
  (GV:((backTo cpos (starEach (e::es) X.env)).all (λx=>!x.1) && (backToKw cpos (keywordEach [] X.env)).all (λx=>x.1.isSome)
   && decide ((e::es).length+([]:List Keyword).length+(if ([]:List Keyword).isEmpty then 0 else 1)<30))=true)
  (bv:(co.endLine == cpos.line)=true) (hs:starEach (e::es) X.env=(false,eval e X.env)::starEach es X.env) (GW:(backTo cpos (starEach es X.env)).any (·.1)=false) :
  PE X (.Call (.Attribute o name co) (e::es) [] cpos) (lA T r to t):=fun τ z Q R I h k=>
 wpAny_Call_method_late gx GV bv rfl (ho τ z _ _ I h λx z1 v l1 I1 r1 q1=>by
  obtain⟨h1,h2⟩:=rM I1 r1 q1.1;refine⟨T,id,pa,slot,rN,h1,h2,?_⟩;have hA:=ha cpos τ z1 _ (λus s=>W X (call (.builtin id) (v::us)) R s) I1 q1.2 λds z2 us l2 I2 r2 q2=>hm τ z2 Q R x v ds us I2 (r1.up l2.d) r2 q2 λd z3 u l3=>k d z3 u (l1.tr (l2.tr l3));rw[hs]at hA ⊢;exact Calls.callWith_builtin (by show (false ||(backTo cpos (starEach es X.env)).any (·.1))=false;rw[GW] <;> rfl) (Calls.evalArgs_plain hA))
theorem ab.gw{d:D}{u:Value}{k:Addr->List D->Prop}(I:ab X τ z)(r:aa X.G z.F d u)(h:gw d z.M k):∃a ds us n,u=.ref a/\z.M a=some (.lst ds)/\eK X.G z.F z.s.heap a ds us n/\k a ds:=by
 unfold N.gw at h;split at h
 ·obtain⟨xs,h1,h2⟩:=h;rw[aa]at r;obtain⟨us,n,l⟩:=I.eL h1;exact⟨_,xs,us,n,r,h1,l,h2⟩
 ·exact h.elim
theorem ab.nX{a:Addr}{xs ys:List D}{us us':List Value}{n t:Nat}{f:Array Value->Array Value}(I:ab X τ z)(h:z.M a=some (.lst xs))(e:z.s.heap.get? a=some (bH us n))(hf:f us.toArray=us'.toArray)(r:ae X.G z.F ys us')(hz:us'.length<=sizeLine):
  ab X τ ⟨z.F,up z.M a (.lst ys),{ z.s with heap:=z.s.heap.update a (Xs f),toks:=t }⟩:=by
 have q:=PySem.IsL.update e f;rw[hf]at q;exact I.xV (us:=us) (n:=n) h (λb hb o q=>(Y3 _ _ (XC hb)).trans q) q r hz
theorem GX:OM X "list.append" rI:=fun τ z Q R d v ds us I rv rs h k=>by
 unfold rI at h;split at h
 ·obtain⟨u,rfl,ru⟩:=eh rs;obtain⟨a,xs,its,n,rfl,hM,l,hz,q⟩:=I.gw rv h;have hl:=l.r.len;refine call_meets F.slot_list_append ⟨_,l.e,rfl⟩ F.entry_list_append (F.args_list_append_2 _ _) (PySem.list_append a its.toArray n u (by rw[WV];lia)) ⟨l.e,?_⟩;exact k .ai ⟨z.F,_,_⟩ _ Le.rfl (I.nX (us':=its++[u]) hM l.e (by simp) (l.r.app (.cons ru .nil)) (by rw[W3,List.length_singleton];lia)) (by rw[aa]) q
 ·exact h.elim
theorem ae.init{G:Gx}{F:Fz}{ds:List D}{us:List Value}(r:ae G F ds us):ae G F ds.dropLast us.dropLast:=by
 rw[List.dropLast_eq_take,List.dropLast_eq_take,<- r.len];exact r.jQ 0 _
theorem GY:OM X "list.pop" rJ:=fun τ z Q R d v ds us I rv rs h k=>by
 unfold rJ at h;split at h
 ·rw[ae]at rs;subst rs;obtain⟨a,xs,its,n,rfl,hM,l,y,hy,q⟩:=I.gw rv h;have hl:=l.r.len;have hz:=l.z;obtain⟨u,hu,ru⟩:=l.r.get hy;have GZ:its.toArray[its.toArray.size-1]?=some u:=by
   show its.toArray[its.length-1]?=some u;rw[<- Yc,<- hl];exact hu
  refine call_meets F.slot_list_pop ⟨_,l.e,rfl⟩ F.entry_list_pop (F.args_list_pop_1 _) (MeetsSeq.list_pop_last a its.toArray n u GZ (by rw[WV];lia)) ⟨l.e,?_⟩;refine k y ⟨z.F,_,_⟩ _ Le.rfl (I.nX (us':=its.dropLast) hM l.e ?_ l.r.init (by rw[List.length_dropLast];lia)) ru q;show its.toArray.eraseIdxIfInBounds (its.toArray.size-1)=its.dropLast.toArray;rw[WV,List.eraseIdxIfInBounds_toArray,FR]
 ·exact h.elim
theorem G0:OM X "dict.get" rL:=fun τ z Q R d v ds us I rv rs h k=>by
 have val:∀{kvs:List (Key×D)}{vs:List (Key×Value)}{c:Key}{w:D}{r:Value},KV X.G z.F kvs vs->aa X.G z.F w r->aa X.G z.F ((aK kvs c).getD w) ((valueAt vs c).getD r):=λ{kvs vs c w r}rel iS=>by
  have:=rel.val c;cases e1:aK kvs c <;> cases e2:valueAt vs c <;> rw[e1,e2]at this <;> first |exact this.elim |exact iS |exact this
 unfold rL at h;split at h
 ·obtain⟨u,rfl,ru⟩:=eh rs;obtain⟨a,kvs,vs,rfl,l,h⟩:=I.b4 rv h;obtain⟨c,hc,q⟩:=jL (P:=X.G.P) (w:=X.G.w) h ru;exact call_meetsIn PySem.F.slot_dict_get l.d.typeIs PySem.F.entry_dict_get (PySem.F.args_dict_get_2 _ _) (meets_dict_get (bx X.G.P X.G.w) a hc l.n) ⟨_,l.d.mapOf,I.fin k Le.rfl (val l.r (by rw[aa])) q _⟩
 ·obtain⟨u,w,rfl,ru,iS⟩:=g6 rs;obtain⟨a,kvs,vs,rfl,l,h⟩:=I.b4 rv h;obtain⟨c,hc,q⟩:=jL (P:=X.G.P) (w:=X.G.w) h ru;exact call_meetsIn PySem.F.slot_dict_get l.d.typeIs PySem.F.entry_dict_get (PySem.F.args_dict_get_3 _ _ _) (meets_dict_get_default (bx X.G.P X.G.w) a hc l.n w) ⟨_,l.d.mapOf,I.fin k Le.rfl (val l.r iS) q _⟩
 ·exact h.elim
end
end N
end
section
namespace L2
open PySem PySem.Spec PyProof.Rows PySem.W
section
variable{prog:Program}{w:World}{A:Around}{E:Value->Shared->Prop}{s:Shared}
theorem G1:typeLookup (.type "tuple") "keys"=pure none:=by rw[Yx,XX];kernel_rfl
theorem G2:typeLookup (.type "list") "keys"=pure none:=by rw[Yx,XX];kernel_rfl
theorem G3{a:Addr}{o:Obj}{xs:Array Value}{k:Nat}{Q:Option Value->Shared->Prop}(hx:s.heap.get? a=some o)(hc:o.cls=.type "tuple")(iT:o.data=.seq xs k)(hd:o.dict=none)(hA:A.handled=none)
  (h:∀h' tk,(∀b o,s.heap.get? b=some o->h'.get? b=some o)->Q none { s with heap:=h',toks:=tk }):wpAny (model prog w) A (getAttr? (.ref a) "keys") Q E s:=by
 obtain⟨c,ag,dat,sl⟩:=o;simp only at hc iT hd;subst hc iT hd;obtain⟨hp,g,d,tk,os⟩:=s;have hT:∀cR,(⟨hp,g,d,cR,os⟩:Shared).TypeIs (.ref a) "tuple":=λ_=>⟨_,hx,rfl⟩;have f1:=sub_AttributeError;have f3:=F.slot_tuple_getattribute.lookup;have f4:=F.slot_tuple_getattribute.bind (.ref a);have f5:=am_tuple_getattr_none;have rO:(["__module__","__name__","__qualname__","__doc__","__annotations__"]:List Str).contains "keys"=false:=by decide
 unfold getAttr? getAttrBy? getAttrBy
 repeat (any_goals (first |assumption |exact hT _ |((with_reducible show wpAny _ _ (call (Value.builtin "tuple.__getattribute__") _ _) _ _ _);refine call_meets F.slot_tuple_getattribute (hT _) am_entry_tuple_getattribute (F.args_tuple_getattribute_2 _ _) (meets_getattribute_miss_tuple a xs k sl "keys" _ G1 rO) ⟨hx,hA,λh' cR e c7=>?_⟩) |wp_step))
 obtain⟨t',u',he⟩:=c7.there;show wpAny _ _ (getattributeRaised _ _ _ _ _ _ _) _ _ _;unfold getattributeRaised
 repeat (any_goals (first |assumption |wp_step))
 exact h _ _ c7.keeps
theorem G4{a:Addr}{o:Obj}{xs:Array Value}{k:Nat}{Q:Option Value->Shared->Prop}(hx:s.heap.get? a=some o)(hc:o.cls=.type "list")(iT:o.data=.seq xs k)(hd:o.dict=none)(hA:A.handled=none)
  (h:∀h' tk,(∀b o,s.heap.get? b=some o->h'.get? b=some o)->Q none { s with heap:=h',toks:=tk }):wpAny (model prog w) A (getAttr? (.ref a) "keys") Q E s:=by
 obtain⟨c,ag,dat,sl⟩:=o;simp only at hc iT hd;subst hc iT hd;obtain⟨hp,g,d,tk,os⟩:=s;have hT:∀cR,(⟨hp,g,d,cR,os⟩:Shared).TypeIs (.ref a) "list":=λ_=>⟨_,hx,rfl⟩;have f1:=sub_AttributeError;have f3:=F.slot_list_getattribute.lookup;have f4:=F.slot_list_getattribute.bind (.ref a);have f5:=am_list_getattr_none;have rO:(["__module__","__name__","__qualname__","__doc__","__annotations__"]:List Str).contains "keys"=false:=by decide
 unfold getAttr? getAttrBy? getAttrBy
 repeat (any_goals (first |assumption |exact hT _ |((with_reducible show wpAny _ _ (call (Value.builtin "list.__getattribute__") _ _) _ _ _);refine call_meets F.slot_list_getattribute (hT _) am_entry_list_getattribute (F.args_list_getattribute_2 _ _) (meets_getattribute_miss_list a xs k sl "keys" _ G2 rO) ⟨hx,hA,λh' cR e c7=>?_⟩) |wp_step))
 obtain⟨t',u',he⟩:=c7.there;show wpAny _ _ (getattributeRaised _ _ _ _ _ _ _) _ _ _;unfold getattributeRaised
 repeat (any_goals (first |assumption |wp_step))
 exact h _ _ c7.keeps
theorem yi:entryFor table "dict.update.loop"=some Builtin.«dict.update.loop»:=entryFor_of_tree (by kernel_rfl)
theorem jR:plainId "dict.update.loop"=true:=by decide +kernel
variable{I:Addr}{fp wr:List Addr}{n:Nat}{P:Nat->Value->Prop}{St:Nat->Heap->Prop}
def yj(prog:Program)(w:World)(A:Around)(d:Addr)(n:Nat)(P:Nat->Value->Prop)(DK:Nat->Heap->Prop):Prop:=
 ∀(i:Nat)(v:Value)(s:Shared),i<n->P i v->DK i s.heap->∃(a:Addr)(o:Obj)(xs:Array Value)(m:Nat)(k x:Value),v=.ref a/\s.heap.get? a=some o/\o.cls=.type "tuple"/\o.data=.seq xs m/\xs.toList=[k,x] /\
  ∀(Q:Unit->Shared->Prop)(E:Value->Shared->Prop),(∀h' tk,DK (i+1) h'->YA d s.heap h'->Q () { s with heap:=h',toks:=tk })->wpAny (model prog w) A (dictSet d k x) Q E s
theorem G5{R:Result->Shared->Prop}{DK:Nat->Heap->Prop}(W:Walks prog w A.in1 I fp wr n P St)(d:Addr)(jS:d ∉ fp)(hfr:∀ i h h',DK i h->(∀ b o,b ∉ wr->h.get? b=some o->h'.get? b=some o)->DK i h')(put:yj prog w A.in1 d n P DK)(res:Value):
  ∀(k i:Nat)(t:Tok)(s:Shared),n-i=k->i<=n->St i s.heap->DK i s.heap ->
  (∀h' tk,DK n h'->(∀b o,b ∉ d::wr->s.heap.get? b=some o->h'.get? b=some o)->R (.ok (.ret res)) { s with heap:=h',toks:=tk }) ->
  codeAny (model prog w) A (.builtin "dict.update.loop" ⟨[.ref d,.ref I,.int i t,res],[]⟩) R s:=by
 have RQ:d ∉ wr:=λh=>jS (W.sub _ h);intro k
 induction k with
 |zero=>
  intro i t s hk hi gs hD Tt;have G6:i=n:=by lia
  subst G6;refine Yl yi ?_;rw[XO jR _];show wpAny _ A.in1 (pyNext (.ref I) >>= _) _ _ s;refine WO (W.done s _ _ gs λh' tk hm=>?_);dsimp only;unfold Builtin.Dict.addKeywords;refine WO (WS ?_);exact WS (Tt h' tk (hfr _ _ _ hD hm) λb o hb e=>hm b o (λz=>hb (WY _ z)) e)
 |succ k ih=>
  intro i t s hk hi gs hD Tt;have ap:i<n:=by lia
  refine Yl yi ?_;rw[XO jR _];show wpAny _ A.in1 (pyNext (.ref I) >>= _) _ _ s;refine WO (W.item i s _ _ ap gs λv h' tk hP G7 hm=>?_);dsimp only;obtain⟨a,o,xs,m,Wt,x,rfl,ho,hc,iT,G8,G9⟩:=put i v { s with heap:=h',toks:=tk } ap hP (hfr _ _ _ hD hm);refine WO (XN (WO (wpAny_tryCatch ?_)));unfold Builtin.Dict.pairItems;refine WO (wpAny_typeOf (T:="tuple") ⟨o,ho,hc⟩ ?_);rw[if_pos (by decide)];refine WO (YF ho iT (WS ?_));dsimp only[Option.getD_some];rw[G8];dsimp only;refine XN (G9 _ _ λeP cR G' hs=>?_);refine WS ⟨Yr jR _,?_⟩;have:=ih (i+1) 0 { s with heap:=eP,toks:=cR } (by lia) ap (W.frame _ _ _ G7 λb hb o e=>(hs.2 b (λz=>jS (z ▸ hb))).trans e) G' (λh3 Ha Hb Hc=>Tt h3 Ha Hb λb o hb e=>Hc b o hb ((hs.2 b (λz=>hb (by simp [z]))).trans (hm b o (λz=>hb (WY _ z)) e)));exact this
end
end L2
namespace L2
open PySem PySem.Spec PyProof.Rows PySem.W
structure nY(prog:Program)(w:World)(T:String)(r:Addr)(n:Nat)(P:Nat->Value->Prop)(OK:Heap->Prop):Prop where
 type:∀s:Shared,OK s.heap->s.TypeIs (.ref r) T
 there:∀h:Heap,OK h->r<h.objs.size
 keep:∀h h':Heap,OK h->(∀o,h.get? r=some o->h'.get? r=some o)->OK h'
 notDict:(Yy T != Yy "dict")=true
 rP:∀(A:Around)(E:Value->Shared->Prop)(s:Shared)(Q:Option Value->Shared->Prop),A.handled=none->OK s.heap->(∀h' tk,(∀b o,s.heap.get? b=some o->h'.get? b=some o)->Q none { s with heap:=h',toks:=tk })->wpAny (model prog w) A (getAttr? (.ref r) "keys") Q E s
 iter:∀(A:Around)(s:Shared),A.handled=none->OK s.heap->∃(oI:Obj)(St:Nat->Heap->Prop),
  (∀(E:Value->Shared->Prop)(Q:Value->Shared->Prop),Q (.ref s.heap.objs.size) { s with heap:=s.heap.push oI }->wpAny (model prog w) A (pyIter (.ref r)) Q E s) /\
  Walks prog w A s.heap.objs.size [s.heap.objs.size,r] [s.heap.objs.size] n P St/\St 0 (s.heap.push oI)
section
variable{prog:Program}{w:World}{A:Around}{E:Value->Shared->Prop}{s:Shared}{T:String}{r:Addr}{n:Nat}{P:Nat->Value->Prop}{OK:Heap->Prop}
theorem He{k:Nat}{its:Array Value}:nY prog w "list" r its.size (λi v=>its[i]?=some v) (λh=>h.get? r=some { cls:=.type "list",data:=.seq its k }) where
 type:=λs h=>⟨_,h,rfl⟩
 there:=λh e=>W4 e
 keep:=λh h' e k=>k _ e
 notDict:=by decide
 rP:=λA E s Q hA e q=>G4 e rfl rfl rfl hA q
 iter:=λA s hA e=>by
  have hl:s.heap.IsList r its:=⟨_,e,rfl,k,rfl⟩;have ne:r≠s.heap.objs.size:=W7 (W4 e);exact⟨_,_,λ_ _ q=>YY hl q,Walks.list hA s.heap.objs.size r ne its,⟨⟨_,WX _ rfl,rfl,rfl⟩,hl.push _⟩⟩
theorem Hf{its:Array Value}:nY prog w "tuple" r its.size (λi v=>its[i]?=some v) (λh=>∃o k,h.get? r=some o/\o.cls=.type "tuple"/\o.data=.seq its k/\o.dict=none) where
 type:=λs ⟨o,k,h,c,_⟩=>⟨_,h,c⟩
 there:=λh ⟨o,k,e,_⟩=>W4 e
 keep:=λh h' ⟨o,k,e,c⟩ q=>⟨o,k,q _ e,c⟩
 notDict:=by decide
 rP:=λA E s Q hA ⟨o,k,e,c,d,z⟩ q=>G3 e c d z hA q
 iter:=λA s hA ⟨o,k,e,c,d,z⟩=>by
  have hl:s.heap.IsTuple r its:=⟨o,e,c,k,d⟩;have ne:r≠s.heap.objs.size:=W7 (W4 e);exact⟨_,_,λ_ _ q=>Y' hl q,Walks.tuple hA s.heap.objs.size r ne its,⟨⟨_,WX _ rfl,rfl,rfl⟩,hl.push _⟩⟩
theorem Hg{DK:Nat->Heap->Prop}{Q:Value->Shared->Prop}(K:nY prog w T r n P OK)(hA:A.handled=none)(hok:OK s.heap)(SJ:DK 0 (s.heap.push { cls:=.type "dict",data:=.dict #[] }))
  (hfr:∀i h h'(it:Addr),s.heap.objs.size<it->DK i h->(∀b o,b≠it->h.get? b=some o->h'.get? b=some o)->DK i h') (put:∀A':Around,A'.units<=A.units+5->yj prog w A' s.heap.objs.size n P DK)
  (h:∀h' tk,DK n h'->(∀b o,s.heap.get? b=some o->h'.get? b=some o)->Q (.ref s.heap.objs.size) { s with heap:=h',toks:=tk }):wpAny (model prog w) A (call (.type "dict") [.ref r]) Q E s:=by
 refine callType_codes (Q₁:=λobj s₁=>obj=.ref s.heap.objs.size/\s₁={ s with heap:=s.heap.push { cls:=.type "dict",data:=.dict #[] } }) F.kt_called_dict (F.kt_typeCall_dict_1 _) F.entry_dict_init (kt_code_dict_new _ ⟨rfl,rfl⟩) ?_;rintro obj s₁ ⟨rfl,rfl⟩;have k1:∀ b o,s.heap.get? b=some o->(s.heap.push { cls:=.type "dict",data:=.dict #[] }).get? b=some o:=λb o e=>WR _ e;have lB:OK (s.heap.push { cls:=.type "dict",data:=.dict #[] }):=K.keep _ _ hok λo e=>k1 _ o e;have xL:(Shared.TypeIs { s with heap:=s.heap.push { cls:=.type "dict",data:=.dict #[] } } (.ref s.heap.objs.size) "dict"):=⟨_,WX _ rfl,rfl⟩;refine⟨xL,F.args_dict_init_2 _ _,?_⟩;unfold Builtin.«dict.__init__»;refine WO ?_;unfold Builtin.Dict.selfAndRest;refine WO (wpAny_notOrdered_dict xL ?_);show wpAny _ _ (pure (s.heap.objs.size,[XI r])) _ _ _;refine WS ?_;show wpAny _ _ (Builtin.Dict.updateFrom "dict.__init__" s.heap.objs.size (.ref r) [] .none) _ _ _;unfold Builtin.Dict.updateFrom;refine WO (wpAny_typeOf (K.type _ lB) ?_);rw[if_pos K.notDict];refine WO (K.rP A.in1.in1 _ { s with heap:=s.heap.push { cls:=.type "dict",data:=.dict #[] } } _ hA lB λh2 x0 k2=>?_);simp only[Option.isNone_none,if_true];refine WO (wpAny_rule ?_);have rQ:OK h2:=K.keep _ _ lB λo e=>k2 _ o e;obtain⟨oI,St,hit,W,st⟩:=K.iter A.in1.in1 { s with heap:=h2,toks:=x0 } hA rQ;have nZ:s.heap.objs.size<h2.objs.size:=W4 (k2 _ _ (WX _ rfl));refine WO (hit _ _ ?_);have hr:r<s.heap.objs.size:=K.there _ hok;have loop:=G5 (A:=A.in1) (R:=wants (λr' s₂=>r'=.none/\Q (.ref s.heap.objs.size) s₂) E) (DK:=DK) W s.heap.objs.size (by
   simp only[Xk,Xd,or_false,not_or];exact⟨W7 nZ,XR hr⟩)
  (λi h h' x k=>hfr i h h' h2.objs.size nZ x λb o hb e=>k b o (by simpa using hb) e) (put _ (by show A.units+1+1<=_;lia)) .none n 0 0 { s with heap:=h2.push oI,toks:=x0 } rfl (W9 _) st
  (hfr 0 _ _ h2.objs.size nZ SJ λb o _ e=>WR _ (k2 b o e)) (λh' tk hD hk=>⟨rfl,h h' tk hD λb o e=>hk b o (by
   have hb:=W4 e;simp only[Xk,Xd,or_false,not_or];exact⟨W7 hb,W7 (Xz hb nZ)⟩) (WR _ (k2 b o (k1 b o e)))⟩)
 first
  |exact WS ⟨Yr jR _,loop⟩
  |exact WS (WS ⟨Yr jR _,loop⟩)
  |exact WO (WS (WS ⟨Yr jR _,loop⟩))
end
end L2
end
section
set_option maxHeartbeats 1000000
namespace N
open PySem PySem.Spec PyProof.Rows L2
def hC(kvs:List (Key×D))(M:Mp)(q:QK):Prop:=q (.ag (kvs.map (·.1)) (kvs.map (·.2))) M\/∀p,M p=none->q (.ref p) (up M p (.ag kvs))
noncomputable def br(kvs:List (Key×D)):List (Key×D):=kvs.foldl (λacc kv=>aZ acc kv.1 kv.2) []
def yk:DE:=λ_ M q=>hC [] M q
def rR:List (DE×DE)->St->Mp->(List (Key×D)->Mp->Prop)->Prop
 |[],_,M,q=>q [] M
 |(tk,tv)::r,τ,M,q=>tk τ M λx M1=>dQ x λc=>tv τ M1 λy M2=>rR r τ M2 λkvs M3=>q ((c,y)::kvs) M3
def yl(ps:List (DE×DE)):DE:=fun τ M q=>rR ps τ M λkvs M2=>hC (br kvs) M2 q
noncomputable def iU:Key->D
 |.inl i=>.int i
 |.inr x=>.str x
noncomputable def dA(p:Key×D):D:=.tup [iU p.1,p.2]
def rS:QN:=n1 λx M q=>(b4 x M λkvs=>hC kvs M q)\/cQ x M λds=>∃kvs:List (Key×D),ds=kvs.map dA/\hC (br kvs) M q
section
variable{X:Cx}{τ:St}{z:Z}
theorem ab.hE(I:ab X τ z):sysModules<z.s.heap.objs.size:=Xz (by decide) (I.ok.mod.eJ.keeps I.SD).lt
theorem lC{G:Gx}{F:Fz}:∀{kvs:List (Key×D)}{vs:List (Key×Value)},KV G F kvs vs->ae G F (kvs.map (·.2)) (vs.map (·.2))/\kvs.map (·.1)=vs.map (·.1)
 |_,_,.nil=>⟨.nil,rfl⟩
 |_,_,.cons r t=>⟨.cons r.2 (lC t).1,by rw[W0,W0,r.1,(lC t).2]⟩
theorem ym(vs:List (Key×Value)):(vs.map (·.1)).zip (vs.map (·.2))=vs:=by
 induction vs with
 |nil=>rfl
 |cons p r ih=>rw[W0,W0,Yi,ih]
theorem aF.Hh{G:Gx}{F:Fz}{M:Mp}{h:Heap}{a:Addr}{o:MO}(x:aF G F M h)(hF:F a=none)(hM:M a=none)(new:d7 G F (N.up M a o) h a o):aF G F (N.up M a o) h:=
 ⟨x.fz,λb u e=>by
  by_cases hb:b=a
  ·subst hb;rw[ak]at e;cases e;exact⟨hF,new⟩
  ·rw[aj hb]at e;exact⟨(x.ob b u e).1,(x.ob b u e).2.go Le.rfl.d (λ_ _ _ q=>q) λc q=>by rw[aj (bR q hM)];exact q⟩,x.tb⟩
theorem ab.yn{a:Addr}{o:Obj}(I:ab X τ z)(f:Fp X z a)(e:z.s.heap.get? a=some o):Le z.F (N.up z.F a (.dat o))/\ab X τ ⟨N.up z.F a (.dat o),z.M,z.s⟩:=
 ⟨Le.new f.f,I.go (Le.new f.f) (I.hok.kK f.f f.m e) (λb hb=>⟨bp.s λ_ e=>e,I.c9 hb,aj λq=>f.o (q ▸ hb)⟩) rfl I.bare⟩
theorem ab.take{a:Addr}{o:MO}(I:ab X τ z)(f:Fp X z a)(new:d7 X.G z.F (N.up z.M a o) z.s.heap a o):ab X τ ⟨z.F,N.up z.M a o,z.s⟩:=
 I.go Le.rfl (I.hok.Hh f.f f.m new) (λb hb=>⟨bp.s λ_ e=>e,(aj (show b≠a from λq=>f.o (q ▸ hb))).trans (I.c9 hb),rfl⟩) rfl I.bare
theorem ab.rT{ds:List D}{us:List Value}{a:Addr}{n:Nat}{Q:QK}{R:Value->Shared->Prop}{F:Fz}(I:ab X τ z)(f:Fp X z a)(k:KE X τ F Q R)(l:Le F z.F)(r:ae X.G z.F ds us)(ho:z.s.heap.get? a=some (bH us n))(hz:us.length<=sizeLine)(q:bS ds z.M Q):R (.ref a) z.s:=by
 rcases q with q |q
 ·obtain⟨l1,J⟩:=I.yn f ho;exact k (.lst ds) ⟨N.up z.F a (.dat (bH us n)),z.M,z.s⟩ _ (l.tr l1) J (nA ak hz (r.up l1.d)) q
 ·exact k (.ref a) ⟨z.F,N.up z.M a (.lst ds),z.s⟩ _ l (I.take (o:=.lst ds) f ⟨by rw[r.len];exact hz,us,n,r,ho⟩) qy (q a f.m)
theorem ab.yo{kvs:List (Key×D)}{vs:List (Key×Value)}{a:Addr}{Q:QK}{R:Value->Shared->Prop}{F:Fz}(I:ab X τ z)(f:Fp X z a)(hE:(a == sysModules)=false)(k:KE X τ F Q R)(l:Le F z.F)(r:KV X.G z.F kvs vs)(ho:z.s.heap.DictOf (bx X.G.P X.G.w) a vs)(hz:kvs.length<=sizeLine)(q:hC kvs z.M Q):R (.ref a) z.s:=by
 rcases q with q |q
 ·obtain⟨o,es,ep,e,ex,g1,g2,g3,nd⟩:=ho;obtain⟨l1,J⟩:=I.yn f e;obtain⟨k1,k2⟩:=lC (r.up l1.d);refine k (.ag (kvs.map (·.1)) (kvs.map (·.2))) ⟨N.up z.F a (.dat o),z.M,z.s⟩ _ (l.tr l1) J ?_ q;rw[aa];refine⟨a,o,vs.map (·.2),rfl,ak,⟨ex,⟨es,ep,g1,g2,?_⟩,by rw[k2];exact nd,by rw[k2,WQ,WQ],by rw[WQ];exact hz⟩,hE,k1⟩;rw[k2,ym];exact g3
 ·exact k (.ref a) ⟨z.F,N.up z.M a (.ag kvs),z.s⟩ _ l (I.take (o:=.ag kvs) f ⟨hz,hE,vs,r,ho⟩) qy (q a f.m)
theorem ab.yq{a:Addr}(I:ab X τ z)(hp:z.s.heap.objs.size<=a):(a == sysModules)=false:=beq_eq_false_iff_ne.mpr (XC (W7 (Xj I.hE hp)))
theorem ab.ag{kvs:List (Key×D)}{vs:List (Key×Value)}{h':Heap}{a:Addr}{t:Nat}{Q:QK}{R:Value->Shared->Prop}{F:Fz}(I:ab X τ z)(k:KE X τ F Q R)(l:Le F z.F)(r:KV X.G z.F kvs vs)(kp:∀b,bp z.s.heap h' b)(hp:z.s.heap.objs.size<=a)(ho:h'.DictOf (bx X.G.P X.G.w) a vs)(hz:kvs.length<=sizeLine)(q:hC kvs z.M Q):R (.ref a) { z.s with heap:=h',toks:=t }:=
 (I.kept (t:=t) kp).yo (I.gX hp) (I.yq hp) k l r ho hz q
variable{pos:Pos}{keys:List (Option Expr)}{values:List Expr}{ps:List (DE×DE)}{k v:Expr}{tk tv:DE}
theorem Hi:PE X (.Dict [] [] pos) yk:=fun τ z Q R I h k=>
 wpAny_Dict_empty (I.ag (vs:=[]) (t:=z.s.toks) k Le.rfl .nil (λ_ _ q=>WR _ q) (WU _) (Heap.DictOf.new _) (W9 _) h)
def PP(X:Cx)(pos:Pos)(keys:List (Option Expr))(values:List Expr)(ps:List (DE×DE)):Prop:=∀ τ z Q R,ab X τ z->rR ps τ z.M Q ->
 (∀kvs z' rs ws,Le z.F z'.F->ab X τ z'->Carries (bx X.G.P X.G.w) ws rs->KV X.G z'.F kvs rs->kvs.length=keys.length->Q kvs z'.M->R ws z'.s)->W X (evalPairs (pairTrees keys values X.env pos)) R z.s
theorem Hj:PP X pos [] [] []:=fun τ z Q R I h k=>pairTrees_nil_walk (k [] z [] [] Le.rfl I True.intro .nil rfl h)
theorem Hl(hk:PE X k tk)(hv:PE X v tv)(hr:PP X pos keys values ps):PP X pos (some k::keys) (v::values) ((tk,tv)::ps):=fun τ z Q R I h K=>
 pairTrees_cons_walk (hk τ z _ _ I h λx z1 u l1 I1 r1 q1=>by
  obtain⟨c,hc,q1⟩:=jL (P:=X.G.P) (w:=X.G.w) q1 r1;exact hv τ z1 _ _ I1 q1 λy z2 w l2 I2 r2 q2=>hr τ z2 _ _ I2 q2 λkvs z3 rs ws l3 I3 ca rel hl q3=>K ((c,y)::kvs) z3 ((c,w)::rs) ((u,w)::ws) (l1.tr (l2.tr l3)) I3 ⟨hc,rfl,ca⟩ (.cons ⟨rfl,r2.up l3.d⟩ rel) (by rw[Xe,Xe,hl]) q3)
theorem KV.br:∀{more:List (Key×D)}{rs:List (Key×Value)}{G:Gx}{F:Fz}{kvs:List (Key×D)}{vs:List (Key×Value)},KV G F more rs->KV G F kvs vs->KV G F (more.foldl (λacc kv=>aZ acc kv.1 kv.2) kvs) (merged vs rs)/\(more.foldl (λacc kv=>aZ acc kv.1 kv.2) kvs).length<=kvs.length+more.length:=by
 intro more rs G F kvs vs r;unfold KV at r
 induction r generalizing kvs vs with
 |nil=>intro q;exact⟨q,WU _⟩
 |@cons p q ps qs h t ih=>
  intro r0;have e:KV G F (aZ kvs p.1 p.2) (stored vs q.1 q.2):=by
   have:=r0.put p.1 h.2;rw[<- h.1];exact this
  refine⟨(ih e).1,W2 (ih e).2 ?_⟩;have:=jK kvs p.1 p.2;rw[Xe];lia
theorem Hm(h:PP X pos keys values ps)(rU:keys.all (·.isSome)=true)(hl:keys.length=values.length)(h0:keys≠[])(Hn:keys.length<=15):PE X (.Dict keys values pos) (yl ps):=fun τ z Q R I q K=>by
 have hb:=WU z.s.heap.objs.size;have e0:(z.s.heap.push { cls:=.type "dict",data:=.dict #[] }).get? z.s.heap.objs.size=some { cls:=.type "dict",data:=.dict #[] }:=WX _ rfl;have I1:ab X τ ⟨z.F,z.M,{ z.s with heap:=z.s.heap.push { cls:=.type "dict",data:=.dict #[] } }⟩:=I.kept (t:=z.s.toks) λ_ _ q=>WR _ q;have fp:∀b∈[z.s.heap.objs.size],Fp X ⟨z.F,z.M,{ z.s with heap:=z.s.heap.push { cls:=.type "dict",data:=.dict #[] } }⟩ b:=λb m=>by rw[List.mem_singleton.mp m];exact I.gX hb
 obtain⟨lp,I2⟩:=I1.kT fp;refine wpAny_Dict_walk (knd:=bx X.G.P X.G.w) rU hl h0 Hn (h τ _ _ _ I2 q λkvs z3 rs ws l3 I3 ca rel hk q3=>?_);have yr:=l3 _ _ (dM (gW (List.mem_singleton.mpr rfl) e0));have h3:z3.s.heap.get? z.s.heap.objs.size=some { cls:=.type "dict",data:=.dict #[] }:=I3.hok.fz _ _ yr;obtain⟨l4,I4⟩:=I3.jD (F:=z.F) (λb m=>⟨(fp b m).f,(fp b m).o⟩) l3 I.bs I.bY;have Ho:=rel.up (b0.aS jC l3);obtain⟨rm,hm⟩:=KV.br Ho (kvs:=[]) (vs:=[]) .nil;obtain⟨o,es,ep,e,rest⟩:=Heap.DictOf.new (knd:=bx X.G.P X.G.w) z.s.heap;rw[e0]at e;cases e;refine⟨rs,ca,⟨_,es,ep,h3,rest⟩,λh' nU hs=>?_⟩;have yt:z3.M z.s.heap.objs.size=none:=by
  cases r':z3.M z.s.heap.objs.size with
  |none=>rfl
  |some o'=>have:=(I3.hok.ob _ o' r').1;rw[yr]at this;cases this
 have f4:aS z3.F (aW [z.s.heap.objs.size] (z.s.heap.push { cls:=.type "dict",data:=.dict #[] })) z.s.heap.objs.size=none:=fw (gW (List.mem_singleton.mpr rfl) e0);have nO:=(fp _ (List.mem_singleton.mpr rfl)).o;have I5:=I4.turn (t:=z3.s.toks+ws.length) (h':=h') (λb hb o q=>(hs.2 b hb).trans q) f4 yt nO;exact I5.yo (a:=z.s.heap.objs.size) ⟨f4,yt,nO⟩ (I.yq hb) K l4 rm nU (W2 hm (by rw[hk,Zc,List.length_nil];lia)) q3
theorem yu{kvs:List (Key×D)}{i:Nat}{p:Key×D}(h:kvs[i]?=some p):br (kvs.take (i+1))=aZ (br (kvs.take i)) p.1 p.2:=by
 rw[List.take_add_one,h];unfold br;rw[List.foldl_append];rfl
theorem yv(kvs:List (Key×D))(k:Key)(v:D):(aZ kvs k v).length<=kvs.length+1:=by
 unfold aZ;split
 ·rw[WQ];lia
 ·rw[W3];exact WU _
theorem rV(kvs:List (Key×D)):∀i,(br (kvs.take i)).length<=i
 | 0=>by simp [br]
 |i+1=>by
  have ih:=rV kvs i;cases h:kvs[i]? with
  |none=>rw[List.take_add_one,h,Option.toList_none,Xc];lia
  |some p=>rw[yu h];have:=yv (br (kvs.take i)) p.1 p.2;lia
theorem Hr{G:Gx}{F:Fz}{P:Program}{w:World}{k:Key}{u:Value}(r:aa G F (iU k) u):(bx P w).is k u=true:=by
 cases k with
 |inl i=>rw[iU,aa]at r;obtain⟨t,rfl⟩:=r;exact xd P w _ t
 |inr x=>rw[iU,aa]at r;obtain⟨t,rfl⟩:=r;exact xf P w _ t
theorem yw{kvs:List (Key×D)}{its:List Value}{T:String}{a:Addr}{OK:Heap->Prop}{Q:QK}{R:Value->Shared->Prop}(hc:X.calm=true)(I:ab X τ z)(rs:ae X.G z.F (kvs.map dA) its)(hz:its.length<=sizeLine)(hok:OK z.s.heap)(S:nY X.G.P X.G.w T a its.toArray.size (λi v=>its.toArray[i]?=some v) OK)
  (q:hC (br kvs) z.M Q) (k:KE X τ z.F Q R):W X (call (.type "dict") [.ref a]) R z.s:=by
 have lt:∀b,z.F b≠none\/z.M b≠none->b<z.s.heap.objs.size:=λb h=>by
  rcases h with h |h
  ·cases e:z.F b with
   |none=>exact absurd e h
   |some f=>exact (I.hok.fz b f e).lt
  ·cases e:z.M b with
   |none=>exact absurd e h
   |some f=>exact (I.hok.ob b f e).2.lt
 have lk:kvs.length=its.length:=by rw[<- rs.len,WQ]
 refine Hg (DK:=λi h=>aF X.G z.F z.M h/\∃vs,KV X.G z.F (br (kvs.take i)) vs/\h.DictOf (bx X.G.P X.G.w) z.s.heap.objs.size vs) S (I.ok.hd hc) hok ⟨I.hok.keep λb _ o e=>WR _ e,[],.nil,Heap.DictOf.new _⟩ (λi h h' it hit x k=>?_) (λA' RS i v s' hi hP hD=>?_) λh' tk hD keep=>?_
 ·obtain⟨ok,vs,rel,o,es,ep,e,rest⟩:=x;exact⟨ok.keep λb hb o e=>k b o (W7 (Xz (lt b hb) hit)) e,vs,rel,o,es,ep,k _ _ (W7 hit) e,rest⟩
 ·obtain⟨ok,vs,rel,dd⟩:=hD;have e1:its[i]?=some v:=by simpa using hP
  have cu:i<kvs.length:=by rw[lk];exact (List.getElem?_eq_some_iff.mp e1).1
  have yx:kvs[i]?=some kvs[i]:=WW cu;obtain⟨u,hu,r1⟩:=rs.get (i:=i) (d:=dA kvs[i]) (by rw[W8,yx];rfl);rw[e1]at hu;cases hu;rw[dA,aa]at r1;obtain⟨b,o,us,rfl,h1,h2,h3⟩:=r1;obtain⟨Vo,Vp,rfl,q1,q2⟩:=g6 h3;obtain⟨n,hd⟩:=h2.data;refine⟨b,o,_,n,Vo,Vp,rfl,ok.fz b _ h1,h2.cls,hd,rfl,λQ E hq=>?_⟩;have hv:vs.length<=sizeLine:=by
   rw[<- Paired.length rel];exact W2 (rV kvs i) (by lia)
  refine wpAny_dictSet_pairs (hsz:=hv) (Hr q1) dd λh2 iO sb=>hq _ _ ⟨ok.keep λb hb o e=>sb.extBut b o (W7 (lt b hb)) e,_,?_,iO⟩ sb;rw[yu yx];exact rel.put kvs[i].1 q2
 ·obtain⟨ok,vs,rel,dd⟩:=hD;have ls:its.toArray.size=kvs.length:=by rw[WV,lk]
  rw[ls,List.take_length]at rel;have hl:(br kvs).length<=sizeLine:=by
   have:=rV kvs kvs.length;rw[List.take_length]at this;lia
  exact I.ag (t:=tk) k Le.rfl rel (λb o e=>keep b o e) (WU _) dd hl q
open PySem.W in
theorem yy(hc:X.calm=true):CB X (.type "dict") rS:=gu fun τ z Q R d v I r q k=>by
 rcases q with q |q
 ·obtain⟨a,kvs,vs,rfl,l,q⟩:=I.b4 r q;refine kt_call_dict l.n l.d (by rw[<- Paired.length l.r];exact l.z) λh' hm hs=>?_;exact I.ag (t:=z.s.toks) k Le.rfl l.r (λb o e=>hs.extBut b o (W7 (W4 e)) (WR _ e)) (WU _) hm l.z q
 ·unfold cQ at q;split at q
  ·obtain⟨kvs,rfl,q⟩:=q;obtain⟨a,us,o,rfl,l⟩:=I.cD r;obtain⟨n,hd⟩:=l.t.data;exact yw hc I l.r l.t.len ⟨o,n,l.e,l.t.cls,hd,l.t.dict⟩ Hf q k
  ·obtain⟨a,ds,us,n,rfl,l,kvs,rfl,q⟩:=I.bg r q;exact yw hc I l.r l.z l.e He q k
end
theorem Hs{X:Cx}:OM X "list.extend" rK:=fun τ z Q R d v ds us I rv rs h k=>by
 unfold rK at h;split at h
 ·obtain⟨u,rfl,ru⟩:=eh rs;obtain⟨a,xs,its,n,rfl,hM,l,h⟩:=I.gw rv h;have hl:=l.r.len;unfold cQ at h;split at h
  ·obtain⟨hz,q⟩:=h;obtain⟨b,gy,⟨cls,dd,data,sl⟩,rfl,l2⟩:=I.cD ru;obtain⟨e1,e2,⟨n2,e3⟩,_⟩:=l2.t;have hl2:=l2.r.len;have he:=l2.e;simp only at e1 e3;subst e1 e3;have hsz:its.toArray.size+gy.toArray.size<=sizeLine:=(by rw[WV,WV];lia);have lm:¬(!its.toArray.isEmpty && Ys (its.toArray.size+gy.toArray.size))=true:=by
    rw[qO hsz,Bool.and_false];exact Xi
   refine call_meets F.slot_list_extend ⟨_,l.e,rfl⟩ F.entry_list_extend (F.args_list_extend_2 _ _) (FU a b its.toArray gy.toArray n n2 dd sl lm (by rw[WV];lia) (by lia)) ⟨l.e,he,?_⟩;exact k .ai ⟨z.F,_,_⟩ _ Le.rfl (I.nX (us':=its++gy) hM l.e (by simp) (l.r.app l2.r) (by rw[W3];lia)) (by rw[aa]) q
  ·obtain⟨b,ys,gy,n2,rfl,l2,hz,q⟩:=I.bg ru h;have hl2:=l2.r.len;have hsz:its.toArray.size+gy.toArray.size<=sizeLine:=(by rw[WV,WV];lia);have lm:¬(!its.toArray.isEmpty && Ys (its.toArray.size+gy.toArray.size))=true:=by
    rw[qO hsz,Bool.and_false];exact Xi
   refine call_meets F.slot_list_extend ⟨_,l.e,rfl⟩ F.entry_list_extend (F.args_list_extend_2 _ _) (AutoSeq1.list_extend_list_list_0 a its.toArray n b gy.toArray n2 lm (by rw[WV];lia) (by lia)) ⟨l.e,l2.e,?_⟩;exact k .ai ⟨z.F,_,_⟩ _ Le.rfl (I.nX (us':=its++gy) hM l.e (by simp) (l.r.app l2.r) (by rw[W3];lia)) (by rw[aa]) q
 ·exact h.elim
end N
end
section
set_option maxHeartbeats 1000000
namespace N
open PySem PySem.Spec PyProof.Rows L2
def cb(ok:Mp->Prop)(g:G)(tc:DT)(te:DE)(τ:St)(k:List D->Mp->Prop):List D->List D->Mp->Prop
 |[],ys,M=>ok M/\ys.length<sizeLine/\k ys M
 |x::xs,ys,M=>ok M/\ys.length<sizeLine/\cm g x τ M fun τ1 M0=>tc τ1 M0 λb M1=>if b=true then te τ1 M1 λy M2=>cb ok g tc te τ k xs (ys++[y]) M2 else cb ok g tc te τ k xs ys M1
noncomputable def di(n:Nat)(fr:List (Str×Nat))(τ:St):St:=XS n none++fr.map λp=>(τ[p.2]?).join
def lD(n:Nat)(fr:List (Str×Nat))(g:G)(ti:DI)(tc:DT)(te:DE):DE:=fun τ M q=>ti τ M λxs ok M1=>cb ok g tc te (di n fr τ) (λys M2=>bS ys M2 q) xs [] M1
def Ht(n:Nat)(fr:List (Str×Nat))(g:G)(ti:DI)(tc:DT)(te:DE)(j:Nat):DS:=λe τ M=>ti τ M λxs ok M1=>cb ok g tc te (di n fr τ) (λys M2=>bS ys M2 λd M3=>e.nx (τ.set j (some d)) M3) xs [] M1
noncomputable def dj(X:Cx)(scope:Scope)(N':List Str)(cl:List (Str×Addr))(C:Addr):Cx where
 G:=X.G
 A:=X.A
 N:=N'
 os:=X.os
 env:=compEnvC scope cl C X.env
 outer:=X.stk
 stk:=X.stk
 fn:=λ_=>false
 calm:=X.calm
 x:=λ_ _ _=>False
def PF(X:Cx)(a1:List Expr)(t:DT):Prop:=∀ τ z Q R,ab X τ z->t τ z.M Q->KT X τ z.F Q R ->
 W X (forIn a1 true λc r=>if r=true then do let ok <- isTrue c X.env (eval c X.env);pure (YO ok) else pure (YO r)) R z.s
def gz:DT:=λ_ M q=>q true M
theorem Hu{X:Cx}:PF X [] gz:=fun τ z Q R I h k=>wpAny_tests_nil (k true z Le.rfl I h)
theorem yz{X:Cx}{c:Expr}{t:DT}(h:PT X c t):PF X [c] t:=fun τ z Q R I q k=>wpAny_tests_one (h τ z Q R I q k)
noncomputable def G.lt(k:Nat):G->Bool
 |.one i=>decide (i<k)
 |.many is=>is.all λi=>decide (i<k)
theorem yA:∀(is:List Nat)(ds:List D)(τ:St)(k:Nat),(is.all λi=>decide (i<k))=true->(fA is ds τ).length=τ.length/\(fA is ds τ).drop k=τ.drop k
 |[],ds,τ,k,_=>by unfold fA;exact⟨rfl,rfl⟩
 |i::is,[],τ,k,_=>by unfold fA;exact⟨rfl,rfl⟩
 |i::is,d::ds,τ,k,h=>by
  rw[List.all_cons,WT]at h;obtain⟨h1,h2⟩:=yA is ds (τ.set i (some d)) k h.2;unfold fA;exact⟨h1.trans YW,h2.trans (List.drop_set_of_lt (of_decide_eq_true h.1))⟩
theorem Hv{g:G}{k:Nat}(h:g.lt k=true){x:D}{τ:St}{M:Mp}{Q:St->Mp->Prop}(q:cm g x τ M Q):cm g x τ M fun τ2 M2=>Q τ2 M2/\τ2.length=τ.length/\τ2.drop k=τ.drop k:=by
 cases g with
 |one i=>exact⟨q,YW,List.drop_set_of_lt (of_decide_eq_true h)⟩
 |many is=>
  have imp:∀{k k':List D->Prop},(∀ds,k ds->k' ds)->cQ x M k->cQ x M k':=λ{k k'}f h=>by
   cases x <;> first |exact f _ h |exact h |(obtain⟨ds,h1,h2⟩:=h;exact⟨ds,h1,f _ h2⟩)
  exact imp (λds p=>⟨p.1,p.2,yA is ds τ k h⟩) q
structure iV(X:Cx)(scope:Scope)(Nt:List Str)(fr:List (Str×Nat)):Prop where
 kind:scope.kind=.function
 cell:∀y∈scope.names,y.2≠.cell
 names:∀y∈scope.names,y.2=.local->scope.names.lookup y.1=some .local
 free:∀y∈scope.names,y.2=.free->X.env.kindOf y.1=some .cell
 fr:∀p∈fr,X.N[p.2]?=some p.1/\scope.names.lookup p.1=some .free
section
variable{X:Cx}{τ:St}{z:Z}{tg a7 iter:Expr}{a1:List Expr}{scope:Scope}{pos:Pos}{Nt:List Str}{fr:List (Str×Nat)}{g:G}{tc:DT}{te:DE}{cl:List (Str×Addr)}{C:Addr}
theorem Hw{h1:Heap}{t1:Nat}{m:Str->Option Value}(L:iV X scope Nt fr)(I:ab X τ z)(cG:∀ x c,cl.lookup x=some c->X.env.cells.lookup x=some c)(lE:∀ y∈scope.names,y.2=.free->∃ c,cl.lookup y.1=some c)
  (SY:z.s.heap.objs.size<=C) (old:∀b,bp z.s.heap h1 b) (hn:h1.Ns C m):ab (dj X scope (Nt++fr.map (·.1)) cl C) (di Nt.length fr τ) ⟨ba z.F (X.a' z.s.heap),z.M,{ z.s with heap:=h1,toks:=t1 }⟩:=by
 have e0:=I.dc;refine⟨⟨I.ok.mod,L.kind,I.ok.eJ,I.ok.kM,λx y c e1 e2=>I.ok.inj x y c (cG _ _ e1) (cG _ _ e2),λx hx=>?_,I.ok.hd,I.ok.frames,.inl rfl⟩,e0.bs,I.os,I.bare,e0.bY,⟨m,hn,λi x v Hx h2 h3=>?_⟩,λx c e=>?_,⟨I.nr.cB SY,I.hok.c8 SY⟩,I.nr.keep λb _=>old b,?_⟩
 ·have c7:((relabel scope X.env).names.lookup x=some .cell\/(relabel scope X.env).names.lookup x=some .free):=hx;rcases c7 with q |q
  ·exact lE _ (qW L.cell (.inl rfl) q) rfl
  ·exact lE _ (qW L.cell (.inr rfl) q) rfl
 ·have rW:(Nt++fr.map (·.1))[i]?=some x:=Hx;have hi:¬i<Nt.length:=λhi=>by
   unfold di at h2;rw[XG (by simpa using hi),List.getElem?_replicate]at h2;split at h2 <;> cases h2
  unfold di at h2;rw[XD (by simpa using hi),List.length_replicate,W8]at h2;rw[XD (by lia),W8]at rW;cases e:fr[i-Nt.length]? with
  |none=>rw[e]at h2;cases h2
  |some p=>
   rw[e]at h2 rW;have ex:p.1=x:=Xl rW;have ev:(τ[p.2]?).join=some v:=Xl h2;obtain⟨hN,hfr⟩:=L.fr p (Xw e);have es:τ[p.2]?=some (some v):=by
    cases q:τ[p.2]? with
    |none=>rw[q]at ev;cases ev
    |some o=>rw[q]at ev;exact congrArg some ev
   have hkc:=L.free (p.1,.free) (PySem.mem_of_lookup hfr) rfl;obtain⟨mo,RT,Hy⟩:=I.loc;obtain⟨u,ru,lk⟩:=Hy p.2 p.1 v hN es (.inr (.inl hkc));refine⟨u,ru.up I.du.d,?_⟩;rcases lk with ⟨kk,_⟩ |⟨_,c,hc,np⟩
   ·rw[hkc]at kk;cases kk
   ·obtain⟨c',hc'⟩:=lE _ (PySem.mem_of_lookup hfr) rfl;have hcc:=cG _ _ hc';rw[hc]at hcc;cases hcc;subst ex;refine .inr ⟨xy hfr,c,hc',?_⟩;obtain⟨o,q1,q2⟩:=np;exact⟨o,old _ _ q1,q2⟩
 ·have hc:=cG x c e;obtain⟨⟨v,o,q1,q2⟩,hM,hF⟩:=I.cell x c hc;refine⟨⟨v,o,old _ _ q1,q2⟩,hM,.inr ⟨rfl,?_⟩⟩;rcases hF with ⟨hf,hF⟩ |⟨hf,o',hF⟩
  ·refine⟨o,dM ?_⟩;unfold Cx.a';rw[if_neg (I.kN hc),if_pos ⟨x,hf,hc⟩,q1];rfl
  ·exact⟨o',I.du c _ hF⟩
 ·unfold di;show _=(Nt++fr.map (·.1)).length;simp
end
end N
end
section
set_option maxHeartbeats 1000000
namespace N
open PySem PySem.Spec PyProof.Rows L2
section
variable{X:Cx}{τ:St}{z:Z}{tg a7 iter:Expr}{a1:List Expr}{scope:Scope}{pos:Pos}{Nt:List Str}{fr:List (Str×Nat)}{g:G}{tc:DT}{te:DE}{cl:List (Str×Addr)}
structure yB(X:Cx)(τ:St)(z:Z)(fin:List D->Mp->Prop)(L C:Addr)(z':Z)(ys:List D)(its:List Value)(n:Nat)(m':Str->Option Value):Prop where
 le:Le z.F z'.F
 n4:ab X τ z'
 fl:Fp X z' L
 Tv:Fp X z' C
 ne:L≠C
 ns:z'.s.heap.Ns C m'
 obj:z'.s.heap.get? L=some (bH its n)
 rel:ae X.G z'.F ys its
 sz:its.length<=sizeLine
 fin:fin ys z'.M
theorem lF{a b:Addr}(h:b∈[a]):b=a:=List.mem_singleton.mp h
theorem rX{X:Cx}{τ:St}{z:Z}{b:Addr}{f:Fo}(I:ab X τ z)(h:z.F b=some f):z.M b=none:=by
 cases q:z.M b with
 |none=>rfl
 |some o=>have:=(I.hok.ob b o q).1;rw[h]at this;cases this
theorem yC{it:Addr}{xs:List D}{ok:Mp->Prop}{fin:List D->Mp->Prop}{E:Value->Shared->Prop}{RR:Value->Addr->Result->Shared->Prop}
  (L:iV X scope Nt fr) (lG:X.calm=true) (I:ab X τ z) (cG:∀x c,cl.lookup x=some c->X.env.cells.lookup x=some c) (lE:∀y∈scope.names,y.2=.free->∃c,cl.lookup y.1=some c)
  (hit:qC X tg xs ok z it) (hg:∀C,PG (dj X scope (Nt++fr.map (·.1)) cl C) tg (cm g)) (iW:g.lt Nt.length=true) (hc:∀C,PF (dj X scope (Nt++fr.map (·.1)) cl C) a1 tc) (he:∀C,PE (dj X scope (Nt++fr.map (·.1)) cl C) a7 te)
  (w0:cb ok g tc te (di Nt.length fr τ) fin xs [] z.M)
  (Hz:∀A C z' ys its n m',yB X τ z fin A C z' ys its n m'->RR (.ref A) C (.ok .next) z'.s) :
  wpAny (model X.G.P X.G.w) X.A (newList []) (λacc s3=>wpAny (model X.G.P X.G.w) X.A (newFunctionEnv scope X.env.globals cl [] X.env.qual none .none (some X.env)) (λyD s4=>
   codeAny (model X.G.P X.G.w) X.A (.compStart (.ListComp a7 [⟨tg,iter,a1,0⟩] scope pos) 0 (.ref it) acc { yD with scope:=relabel scope X.env }) (RR acc yD.locals) s4) E s3) E z.s:=by
 obtain⟨T,t0,f0⟩:=hit;rename_i fp tn;refine Xx (wpAny_newFunctionEnv L.cell (by intro y hy;simp at hy) (λh1 cU fG=>?_) L.kind);dsimp only at cU fG ⊢;generalize rY:z.s.heap.push { cls:=.type "list",dict:=none,data:=.seq ([]:List Value).toArray }=H2 at cU fG ⊢;have SY:H2.objs.size=z.s.heap.objs.size+1:=by rw[<- rY,Xq]
 have old:∀b,bp z.s.heap h1 b:=λb o q=>
  fG.extBut b o (by rw[SY];exact W7 (Yg (W4 q))) (WR _ (rY ▸ WR _ q))
 have lH:z.s.heap.objs.size≠H2.objs.size:=by rw[SY];exact W7 (Yq _)
 have iX:h1.get? z.s.heap.objs.size=some (bH [] 0):=fG.extBut _ _ lH (WR _ (rY ▸ WX _ rfl));have jT:z.s.heap.objs.size<=H2.objs.size:=by rw[SY];exact YR _
 have I0:=Hw (t1:=z.s.toks+([]:List (Str×Value)).length) (C:=H2.objs.size) L I cG lE jT old cU;have n6:tn 0 h1:=T.keep 0 _ _ t0 λb _=>old b;have ap:∀b∈fp,b<z.s.heap.objs.size:=λb hb=>let ⟨o,q⟩:=T.obj 0 _ t0 b hb;W4 q
 generalize iY:z.s.heap.objs.size=a at lH iX jT ap;generalize H2.objs.size=C at lH cU fG jT I0;generalize hX:dj X scope (Nt++fr.map (·.1)) cl C=X' at I0;have TN:X'.G=X.G:=by subst hX;rfl
 have UL:X'.A=X.A:=by subst hX;rfl
 have Wu:X'.env=compEnvC scope cl C X.env:=by subst hX;rfl
 have UM:X'.calm=true:=by subst hX;exact lG
 have hH:PG X' tg (cm g):=by subst hX;exact hg _
 have hc':PF X' a1 tc:=by subst hX;exact hc _
 have io:PE X' a7 te:=by subst hX;exact he _
 have go:∀{α:Type}{t:Env->Sem α}{R:α->Shared->Prop}{s:Shared},W X' (t X'.env) R s->wpAny (model X.G.P X.G.w) X.A (t (compEnvC scope cl C X.env)) R (λ_ _=>False) s:=λh=>by
  subst hX;exact Y5 h (λ_ _ q=>q) λ_ _ q=>q.no.elim
 have own:∀b,cC X' b->b=C\/cC X b:=λb hb=>by
  subst hX;rcases hb with h |⟨x,h⟩
  ·exact .inl h
  ·exact .inr (.inr ⟨x,cG x b h⟩)
 have n7:∀b∈fp,¬cC X' b:=λb hb o=>by
  rcases own b o with h |h
  ·exact absurd (Xj (ap b hb) jT) (by rw[h];exact Yh _)
  ·exact (f0 b hb).o h
 have rZ:¬cC X' a:=λo=>by
  rcases own a o with h |h
  ·exact lH h
  ·exact absurd (I.gg h) (by rw[iY];exact Yh _)
 have r3:∀b∈fp,b≠a:=λb hb=>W7 (ap b hb)
 -- the state between two RU
 let J:Nat->Shared->Prop:=λn s'=>∃i ys its c z',z'.s=s'/\Le (ba z.F (X.a' z.s.heap)) z'.F/\ab X' (di Nt.length fr τ) z'/\ae X.G z'.F ys its/\tn i z'.s.heap/\(∀b∈fp,Fp X' z' b)/\Fp X' z' a/\z'.s.heap.get? a=some (bH its c) /\
  cb ok g tc te (di Nt.length fr τ) fin (xs.drop i) ys z'.M/\n+i=xs.length
 have loop:∀ s3:Shared,s3={ z.s with heap:=h1,toks:=z.s.toks+([]:List (Str×Value)).length } ->
   codeAny (model X.G.P X.G.w) X.A (.compLoop (.ListComp a7 [⟨tg,iter,a1,0⟩] scope pos) 0 (.ref it) (.ref a) (compEnvC scope cl C X.env)) (RR (.ref a) C) s3:=by
  rintro s3 rfl;refine FV (P:=λs'=>∃z' ys its n m',z'.s=s'/\yB X τ z fin a C z' ys its n m') (λs' ⟨z',ys,its,n,m',e,q⟩=>e ▸ Hz _ _ z' ys its n m' q) J ?_ xs.length
   ⟨0,[],[],0,⟨ba z.F (X.a' z.s.heap),z.M,_⟩,rfl,Le.rfl,I0,.nil,n6,λb hb=>⟨?_,(f0 b hb).m,n7 b hb⟩,⟨I.nr.cB (Y8 iY),I.hok.c8 (Y8 iY),rZ⟩,iX,w0,rfl⟩
  ·rintro n s' ⟨i,ys,its,c,z1,rfl,l1,I1,rv,st,TP,UN,Vq,w,hn⟩;have lI:∀b∈[a],Fp X' z1 b:=λb hb=>(by rw[lF hb];exact UN);obtain⟨lp,Ip⟩:=I1.kT lI;have pA:aW [a] z1.s.heap a=some (.pin (bH its c)):=gW (List.mem_singleton.mpr rfl) Vq;have yE:∀b∈fp,Fp X' ⟨ba z1.F (aW [a] z1.s.heap),z1.M,z1.s⟩ b:=λb hb=>⟨(fu (kS λm=>r3 b hb (lF m))).trans (TP b hb).f,(TP b hb).m,(TP b hb).o⟩;have lz:Le z.F (ba z1.F (aW [a] z1.s.heap)):=I.du.tr (l1.tr lp);cases hx:xs[i]? with
   |none=>
    have hl:xs.length<=i:=List.getElem?_eq_none_iff.mp hx;rw[Y2 hl]at w;have A1:=T.done X' TN UM i _ ⟨ba z1.F (aW [a] z1.s.heap),z1.M,z1.s⟩ (λ_ _=>False) Ip lz yE st w.1 hl;rw[UL]at A1;refine eQ A1 λr s1 ⟨hr,I2⟩=>?_;subst hr;obtain⟨l3,I3⟩:=I2.jD (F:=z1.F) (λb hb=>⟨(lI b hb).f,(lI b hb).o⟩) Le.rfl I1.bs I1.bY;have e2:s1.heap.get? a=some (bH its c):=I2.hok.fz a _ (dM pA);have hL:X'.env.locals=C:=(by subst hX;rfl);obtain⟨m',yF,_⟩:=I3.loc;rw[hL]at yF;have l4:=l1.tr l3;have cS:s1.os=z.s.os:=by have:=I3.os;subst hX;exact this.trans I.os.symm
    have I5:=I.after (z':=⟨aS (ba z1.F (aW [a] z1.s.heap)) (aW [a] z1.s.heap),z1.M,s1⟩) l4 (by rw[<- TN];exact I3.hok) cS I3.bare;have HA:aS (ba z1.F (aW [a] z1.s.heap)) (aW [a] z1.s.heap) a=none:=fw pA;have HB:aS (ba z1.F (aW [a] z1.s.heap)) (aW [a] z1.s.heap) C=none:=by have:=I3.free.1;rw[hL]at this;exact this
    have HC:z1.M C=none:=by have:=I3.free.2;rw[hL]at this;exact this
    have no:∀{b:Addr},z.s.heap.objs.size<=b->X.a' z.s.heap b=none:=λ{b}hb=>by
     cases q:X.a' z.s.heap b with
     |none=>rfl
     |some f=>exact absurd (Xj (I.gg (I.gh (h:=z.s.heap) (by rw[q];exact XB f)).1) hb) (Yh _)
    have nO:∀{b:Addr},z.s.heap.objs.size<=b->¬cC X b:=λhb o=>absurd (Xj (I.gg o) hb) (Yh _);exact⟨_,ys,its,c,m',rfl,⟨Le.aS (λb e=>(I.gh e).2) l4,I5,⟨(fx (no (Y8 iY))).trans HA,UN.m,nO (Y8 iY)⟩,⟨(fx (no (iY ▸ jT))).trans HB,HC,nO (iY ▸ jT)⟩,lH,yF,e2,
     (rv.up l3.d).up (b0.aS X.qr l4),by rw[<- rv.len];exact Nat.le_of_lt w.2.1,w.2.2⟩⟩
   |some d=>
    obtain⟨r6,hd⟩:=List.getElem?_eq_some_iff.mp hx;rw[Yk r6,hd]at w;have A1:=T.item X' TN UM i _ ⟨ba z1.F (aW [a] z1.s.heap),z1.M,z1.s⟩ d (λ_ _=>False) Ip lz yE st w.1 hx;rw[UL]at A1;refine eQ A1 λr s1 ⟨u,hr,h4⟩=>?_;subst hr;refine eQ h4 λ_ s5 h5=>?_;obtain⟨l5,I5,r5,t5,n5⟩:=h5;rename_i F5;have f5:∀b∈fp,Fp X' ⟨F5,z1.M,s5⟩ b:=λb hb=>⟨n5 b hb,(TP b hb).m,n7 b hb⟩;obtain⟨Tw,Iq⟩:=I5.kT f5
    -- the a' are RV off,the list may have grown
    have off:∀{τ7:St}{z7:Z}{gA:List D}{n8:List Value}{c':Nat}{h9:Heap},Le (ba F5 (aW fp s5.heap)) z7.F->ab X' τ7 z7->τ7.length=(di Nt.length fr τ).length->τ7.drop Nt.length=(di Nt.length fr τ).drop Nt.length->(∀ b,b≠a->bp z7.s.heap h9 b)->h9.get? a=some (bH n8 c') ->
      (∀F,b0 z7.F F->ae X.G F gA n8)->cb ok g tc te (di Nt.length fr τ) fin (xs.drop (i+1)) gA z7.M->∃m,m<n/\J m { z7.s with heap:=h9 }:=λ{τ7 z7 gA n8 c' h9}l7 I7 len Ue kp o9 rel Vr=>by
     obtain⟨u1,u2⟩:=I7.jD (fp:=fp) (h:=s5.heap) (F:=F5) (λb hb=>⟨n5 b hb,n7 b hb⟩) l7 I5.bs I5.bY;have bf:∀b∈fp,∃o,s5.heap.get? b=some o/\z7.F b=some (.pin o):=λb hb=>by
      obtain⟨o,ho⟩:=T.obj _ _ t5 b hb;exact⟨o,ho,l7 b _ (dM (gW hb ho))⟩
     have l8:Le (ba z1.F (aW [a] z1.s.heap)) (aS z7.F (aW fp s5.heap)):=l5.tr u1;obtain⟨Vs,v2⟩:=u2.jD (fp:=[a]) (h:=z1.s.heap) (F:=z1.F) (λb hb=>⟨(lI b hb).f,(lI b hb).o⟩) l8 I1.bs I1.bY;have g0:=l8 a _ (dM pA);have TQ:z7.M a=none:=rX (z:=⟨aS z7.F (aW fp s5.heap),z7.M,z7.s⟩) u2 g0;have TR:aS (aS z7.F (aW fp s5.heap)) (aW [a] z1.s.heap) a=none:=fw pA;have v3:=(v2.turn (t:=z7.s.toks) kp TR TQ rZ).D5 len.symm λk v q=>by
      have hk:¬k<Nt.length:=λhk=>by
       unfold di at q;rw[XG (by simpa using hk),List.getElem?_replicate]at q;split at q <;> cases q
      have y:∀l:St,l[k]?=(l.drop Nt.length)[k-Nt.length]?:=λl=>by
       rw[List.getElem?_drop]
       congr 1
       lia
      rw[y,Ue,<- y];exact q
     refine⟨n-1,by lia,i+1,gA,n8,c',⟨_,_,_⟩,rfl,l1.tr Vs,v3,rel _ λb o e=>b0.aS jC l8 b o (b0.aS jC l7 b o e),?_,λb hb=>?_,⟨TR,TQ,rZ⟩,o9,Vr,by lia⟩
     ·refine T.keep _ _ _ t5 λb hb o ho=>kp b (r3 b hb) o ?_;obtain⟨o',h1,h2⟩:=bf b hb;rw[ho]at h1;cases h1;exact I7.hok.fz b _ h2
     ·obtain⟨o',h1,h2⟩:=bf b hb;refine⟨(fx (kS λm=>r3 b hb (lF m))).trans (fw (gW hb h1)),rX (z:=z7) I7 h2,n7 b hb⟩
    refine go (t:=λenv=>assign tg env u) (hH _ ⟨_,z1.M,s5⟩ d u _ _ Iq (r5.up Tw.d) (Hv iW w.2.2) fun τ6 z6 l6 I6 q6=>?_);obtain⟨q6,yG,yH⟩:=q6;refine go (t:=λenv=>forIn a1 true λc r=>if r=true then do let ok <- isTrue c env (eval c env);pure (YO ok) else pure (YO r)) (hc' τ6 z6 _ _ I6 q6 λhK z7 l7 I7 q7=>?_)
    have yI:∀{τ8:St}{z8:Z},Le (ba F5 (aW fp s5.heap)) z8.F->ab X' τ8 z8->z8.s.heap.get? a=some (bH its c):=λl8 I8=>I8.hok.fz a _ (l8 a _ (Tw a _ (l5 a _ (dM pA))));cases hK with
    |false=>
     rw[if_neg Xi]at q7 ⊢;exact off (h9:=z7.s.heap) (l6.tr l7) I7 yG yH (λ_ _ _ e=>e) (yI (l6.tr l7) I7) (λF l=>rv.up λb o e=>l b o ((l6.tr l7) b _ (Tw b _ (l5 b _ (lp b _ e))))) q7
    |true=>
     rw[if_pos rfl]at q7 ⊢;refine go (t:=λenv=>eval a7 env) (io τ6 z7 _ _ I7 q7 λy z8 v l8 I8 Vt Vu=>?_);have l8:=l6.tr (l7.tr l8);refine append_at (hsz:=by rw[WV,<- rv.len];exact Nat.le_of_lt w.2.1) (yI l8 I8) λh9 sb o9=>?_;rw[show its.toArray.push v=(its++[v]).toArray by simp]at o9;exact off (h9:=h9) l8 I8 yG yH (λb hb o q=>(sb.2 b hb).trans q) o9 (λF l=>(rv.up λb o e=>l b o (l8 b _ (Tw b _ (l5 b _ (lp b _ e))))).app (.cons (by rw[<- TN];exact Vt.up l) .nil)) Vu
  ·exact (fu (by
    cases q:X.a' z.s.heap b with
    |none=>rfl
    |some f=>exact absurd (I.gh (h:=z.s.heap) (by rw[q];exact XB f)).1 (f0 b hb).o)).trans (f0 b hb).f
 exact codeAny_compStart_list (loop _ rfl) (T.self X.A 0 _ _ _ n6 (loop _ rfl))
theorem yJ{ti:DI}(L:iV X scope Nt fr)(lG:X.calm=true)(hi:PI X tg iter ti)(hg:∀ cl C,PG (dj X scope (Nt++fr.map (·.1)) cl C) tg (cm g))(iW:g.lt Nt.length=true)
  (hc:∀cl C,PF (dj X scope (Nt++fr.map (·.1)) cl C) a1 tc) (he:∀cl C,PE (dj X scope (Nt++fr.map (·.1)) cl C) a7 te) (hs:∀x,foldedSetIterable iter X.env x=pure x) :
  PE X (.ListComp a7 [⟨tg,iter,a1,0⟩] scope pos) (lD Nt.length fr g ti tc te):=fun τ z Q R I h k=>by
 obtain⟨cl,e1,e2,e3⟩:=xx (scope:=scope) (env:=X.env) λy hy hf=>I.ok.has _ (.inl (L.free y hy hf));rw[eval_ListComp];refine wpAny_comprehension_free (use:=none) rfl hs e1 L.kind L.names (hi τ z _ _ I h λxs ok z2 it l2 I2 hit w0=>?_);refine yC (RR:=λacc C r s'=>compPost (model X.G.P X.G.w) X.A (XE X) none R acc C r s') L lG I2 e2 e3 hit (hg cl) iW (hc cl) (he cl) w0 λA C z' ys its n m' q=>?_;refine⟨m',q.ns,λh' sb=>?_⟩;have J:=q.n4.turn (t:=z'.s.toks) (h':=h') (λb hb o e=>(sb.2 b hb).trans e) q.Tv.f q.Tv.m q.Tv.o;exact J.rT ⟨q.fl.f,q.fl.m,q.fl.o⟩ k (l2.tr q.le) q.rel ((sb.2 A q.ne).trans q.obj) q.sz q.fin
theorem HD{ti:DI}{y:Str}{j:Nat}{py jU:Pos}(L:iV X scope Nt fr)(lG:X.calm=true)(hN:iK X [j] [y])(hi:PI X tg iter ti)(hg:∀ cl C,PG (dj X scope (Nt++fr.map (·.1)) cl C) tg (cm g))(iW:g.lt Nt.length=true)
  (hc:∀cl C,PF (dj X scope (Nt++fr.map (·.1)) cl C) a1 tc) (he:∀cl C,PE (dj X scope (Nt++fr.map (·.1)) cl C) a7 te) (hs:∀x,foldedSetIterable iter X.env x=pure x)
  (r8:swapsWith (.ListComp a7 [⟨tg,iter,a1,0⟩] scope pos) (some (.Name y py)) jU.line X.env=pure true) :
  PS X (.Assign [.Name y py] (.ListComp a7 [⟨tg,iter,a1,0⟩] scope pos) jU) (Ht Nt.length fr g ti tc te j):=fun τ z e R I h k=>by
 obtain⟨cl,e1,e2,e3⟩:=xx (scope:=scope) (env:=X.env) λy hy hf=>I.ok.has _ (.inl (L.free y hy hf));rw[exec_Assign_Name_used _ _ _ _ r8];refine WO (wpAny_standAt (WO ?_));show W X (do let _ <- comprehension (.ListComp a7 [⟨tg,iter,a1,0⟩] scope pos) scope X.env _ (newList []) false (eval iter X.env) (some (assign (.Name y py) X.env))) _ z.s
 refine WO (eQ (wpAny_comprehension_free (use:=some (assign (.Name y py) X.env)) (Q:=λ_ s'=>R .next s') rfl hs e1 L.kind L.names (hi τ z _ _ I h λxs ok z2 it l2 I2 hit w0=>?_)) λ_ s' hq=>WS (WS hq));refine yC (RR:=λacc C r s'=>compPost (model X.G.P X.G.w) X.A (XE X) (some (assign (.Name y py) X.env)) (λ_ s'=>R .next s') acc C r s') L lG I2 e2 e3 hit (hg cl) iW (hc cl) (he cl) w0 λA C z' ys its n m' q=>?_;obtain⟨oC,es,ep,HE,rest⟩:=id q.ns;have Ug:∀b∈[C],Fp X z' b:=λb hb=>by rw[lF hb];exact q.Tv
 obtain⟨lp,Ip⟩:=q.n4.kT Ug;have UO:aW [C] z'.s.heap C=some (.pin oC):=gW (List.mem_singleton.mpr rfl) HE;have Vv:Fp X ⟨ba z'.F (aW [C] z'.s.heap),z'.M,z'.s⟩ A:=⟨(fu (kS λm=>q.ne (lF m))).trans q.fl.f,q.fl.m,q.fl.o⟩;show W X (assign (.Name y py) X.env (.ref A)) (λ_ s'=>∃m,_/\_) z'.s;refine Ip.rT (R:=λv s'=>W X (assign (.Name y py) X.env v) _ s') Vv (λd z3 u l3 I3 Uh q3=>?_) Le.rfl (q.rel.up lp.d) q.obj q.sz q.fin;refine wQ hN τ z3 d u (fun τ' M'=>τ'=τ.set j (some d)/\M'=z3.M) _ I3 Uh ⟨rfl,rfl⟩ fun τ4 z4 l4 I4 q4=>?_;have g4:=(l3.tr l4) C _ (dM UO);have h4:z4.s.heap.get? C=some oC:=I4.hok.fz C _ g4;refine⟨m',⟨oC,es,ep,h4,rest⟩,λeP sb=>?_⟩;obtain⟨u1,u2⟩:=I4.jD (fp:=[C]) (F:=z'.F) (λb hb=>⟨(Ug b hb).f,(Ug b hb).o⟩) (l3.tr l4) q.n4.bs q.n4.bY;have I6:=u2.turn (t:=z4.s.toks) (h':=eP) (λb hb o e=>(sb.2 b hb).trans e) (fw UO) (rX (z:=z4) I4 g4) q.Tv.o;refine k.nx τ4 ⟨_,_,_⟩ ((l2.tr q.le).tr u1) I6 ?_;rw[q4.1];show e.nx _ z4.M;rw[q4.2];exact q3
end
end N
end
section
set_option maxHeartbeats 1000000
namespace N
open PySem PySem.Spec PyProof.Rows L2
def hO(G:Gx)(k:Nat)(f:Addr)(sp:Sp):Prop:=∃(fd:FuncData)(ps:List Str)(K:PySem.W.Frag),bj G k f fd ps sp/\PySem.W.keepIn K (.ref f)=true/\bO K fd ps []/\∀z:Z,Mod G->Bs G z.F->aF G z.F z.M z.s.heap->K.In z.s.heap
def yK(d:D)(k:Addr->Prop):Prop:=match d with
 |.ref a=>k a
 |_=>False
def yL(ca:Addr->Sp->Prop)(E:XQ)(ta:DE)(t:DA):DE:=fun τ M q=>ta τ M λx M1=>yK x λf=>∃sp,ca f sp/\t τ M1 λds M2=>sp ds M2 q E
noncomputable def r9:D->String->Option Bool
 |.tup _,"tuple"=>some true
 |.tup _,"str"=>some false
 |.str _,"tuple"=>some false
 |.str _,"bool"=>some false
 |.str _,"str"=>some true
 |.str _,"int"=>some false
 |.int _,"tuple"=>some false
 |.int _,"bool"=>some false
 |.int _,"str"=>some false
 |.int _,"int"=>some true
 |.bl _,"bool"=>some true
 |_,_=>none
def sd:QN:=λds M q=>match ds with
 |[x,.ty "list"]=>bg x M λ_=>q (.bl true) M
 |[x,.ty T]=>∃b,r9 x T=some b/\q (.bl b) M
 |[.int _,.tup [.ty "str",.ty "int"]]=>q (.bl true) M
 |[.str _,.tup [.ty "str",.ty "int"]]=>q (.bl true) M
 |_=>False
section
variable{X:Cx}{x:Str}{pos:Pos}{T:String}
theorem HF(hg:Gl X x)(hm:X.G.mg x=none)(hv:bootBuiltins x=some (.type T))(hn:x≠"__name__")(cF:(x == ("__debug__" : Str))=false):PE X (.Name x pos) (SN (.ty T)):=fun τ z Q R I h k=>
 dO I hg hm hv hn cF (k (.ty T) z _ Le.rfl I (by rw[aa]) h)
theorem yM{k:Nat}{ca:Addr->Sp->Prop}{E:XQ}{TU e:Expr}{es:List Expr}{ta:DE}{t:DA}(SY:∀ f sp,ca f sp->hO X.G k f sp)(hr:bC k X.A)(hx:dR X E)(hf:PE X TU ta)(ha:PA X (e::es) t)
  (gs:starEach (e::es) X.env=(false,eval e X.env)::starEach es X.env) (cr:(backTo pos (starEach es X.env)).any (·.1)=false)
  (HG:eval (.Call TU (e::es) [] pos) X.env=(do callWith pos (<- eval TU X.env) [] (backTo pos (starEach (e::es) X.env)) (backToKw pos (keywordEach [] X.env)))) :
  PE X (.Call TU (e::es) [] pos) (yL ca E ta t):=fun τ z Q R I h K=>
 Call_ (hf τ z _ _ I h λd z1 u l1 I1 r1 q1=>by
  unfold yK at q1;split at q1
  ·obtain⟨sp,hc,q1⟩:=q1;rw[aa]at r1;subst r1;obtain⟨fd,ps,K0,F,hk,hb,hi⟩:=SY _ sp hc;exact PySem.W.callWith_K (hi z1 I1.ok.mod I1.bs I1.hok) hk (ha pos τ z1 _ _ I1 q1 λvs z2 us l2 I2 r q=>⟨hi z2 I2.ok.mod I2.bs I2.hok,rj (x:=X.G.ex) (bo:=[]) (ds:=[]) F hr hb (λ_ _ _=>.nil) hx I2 (I2.bs.x.tr I2.du) (hi z2 I2.ok.mod I2.bs I2.hok) r (by rw[Xc];exact q) λd z3 u l3=>K d z3 u (l1.tr (l2.tr l3))⟩) gs cr
  ·exact q1.elim) HG
theorem HH:CB X (.builtin "isinstance") sd:=fun τ z Q R ds us I rs q k=>by
  have tp:∀{t:Value},aa X.G z.F (.tup [.ty "str",.ty "int"]) t->∃ a dd n sl,t=.ref a/\z.s.heap.get? a=some { cls:=.type "tuple",dict:=dd,data:=.seq [Yy "str",Yy "int"].toArray n,slots:=sl }:=λr=>by
    obtain⟨a,us,⟨cls,dd,data,sl⟩,rfl,l⟩:=I.cD r;obtain⟨e1,_,⟨n,e3⟩,_⟩:=l.t;obtain⟨u1,u2,rfl,q1,q2⟩:=g6 l.r;rw[aa]at q1 q2;have he:=l.e;simp only at e1 e3;subst e1 e3 q1 q2;exact⟨a,dd,n,sl,rfl,he⟩
  unfold sd at q;split at q
  · obtain⟨u,v,rfl,ru,rv⟩:=g6 rs;rw[aa]at rv;subst rv;obtain⟨a,ds,us,n,rfl,l,q⟩:=I.bg ru q;exact PySem.W.kia_one (K:=X.G.K) PySem.W.kitx_list I.b7 ⟨_,l.e,rfl⟩ (qX "list" X.G.K) (λz=>nomatch z) λtk=>I.fin k Le.rfl (by rw[aa]) q _
  · rename_i x T;obtain⟨b,hb,q⟩:=q;obtain⟨u,v,rfl,ru,rv⟩:=g6 rs;rw[aa]at rv;subst rv;have bl:∀{b:Bool},aa X.G z.F (.bl b) (.bool b):=(by intro b;rw[aa]);unfold r9 at hb;split at hb <;> cases hb
    · obtain⟨a,us,o,rfl,l⟩:=I.cD ru;exact IsiPair.tuple_tuple l.e l.t.cls (k _ z _ Le.rfl I bl q)
    · obtain⟨a,us,o,rfl,l⟩:=I.cD ru;exact IsiPair.tuple_str l.e l.t.cls (I.fin k Le.rfl bl q _)
    all_goals rw[aa]at ru
    all_goals first
      | (obtain⟨t,rfl⟩:=ru
         first
          |exact IsiPair.str_tuple (I.fin k Le.rfl bl q _)
          |exact IsiPair.str_bool (I.fin k Le.rfl bl q _)
          |exact IsiPair.str_str (k _ z _ Le.rfl I bl q)
          |exact IsiPair.str_int (I.fin k Le.rfl bl q _)
          |exact IsiPair.int_tuple (I.fin k Le.rfl bl q _)
          |exact IsiPair.int_bool (I.fin k Le.rfl bl q _)
          |exact IsiPair.int_str (I.fin k Le.rfl bl q _)
          |exact IsiPair.int_int (k _ z _ Le.rfl I bl q))
      |(subst ru;exact IsiPair.bool_bool (k _ z _ Le.rfl I bl q))
  · obtain⟨u,v,rfl,ru,rv⟩:=g6 rs;obtain⟨a,dd,n,sl,rfl,h1⟩:=tp rv;rw[aa]at ru;obtain⟨t,rfl⟩:=ru;refine PySem.W.kia_tup (its:=[.type "str",.type "int"]) PySem.W.kitx_int I.b7 True.intro h1 ?_ (λz=>nomatch z) λtk=>I.fin k Le.rfl (by rw[aa]) q _;unfold PySem.W.kitAny;rw[FW X.G.K];show PySem.W.kitAny X.G.K (.type "int") [.type "int"]=_;unfold PySem.W.kitAny;rw[qX "int" X.G.K]
  · obtain⟨u,v,rfl,ru,rv⟩:=g6 rs;obtain⟨a,dd,n,sl,rfl,h1⟩:=tp rv;rw[aa]at ru;obtain⟨t,rfl⟩:=ru;refine PySem.W.kia_tup (its:=[.type "str",.type "int"]) PySem.W.kitx_str I.b7 True.intro h1 ?_ (λz=>nomatch z) λtk=>I.fin k Le.rfl (by rw[aa]) q _;unfold PySem.W.kitAny;rw[qX "str" X.G.K]
  · exact q.elim
theorem jV{G:Gx}{F:Fz}:∀{us:List Value}{ys:List Str},StrsAre us ys->ae G F (ys.map D.str) us
 |_,_,.nil=>.nil
 |_,_,.cons x t r=>.cons fy (jV r)
end
end N
end
section
set_option maxHeartbeats 1000000
namespace N
open PySem PySem.Spec PyProof.Rows L2
open PySem.W (kdu_collect kdl_dict)
def yN:QN:=n1 λx M q=>b4 x M λkvs=>∃ss:List Str,kvs.map (·.1)=ss.map XW/\ss.length<64/\∀ys:List Str,ys.Perm ss->sortedS ys=true->bS (ys.map D.str) M q
theorem yO:∀{acc:List Value}{ss:List Str},acc.length=ss.length->(∀(i:Nat)(v:Value)(x:Str),acc[i]?=some v->ss[i]?=some x->∃t,v=.str x t)->StrsAre acc ss
 |[],[],_,_=>.nil
 |[],_::_,h,_=>by cases h
 |_::_,[],h,_=>by cases h
 |v::acc,x::ss,h,g=>by
  obtain⟨t,rfl⟩:=g 0 v x rfl rfl;exact .cons x t (yO (by simpa using h) λi v' x' h1 h2=>g (i+1) v' x' h1 h2)
theorem HI{X:Cx}(hc:X.calm=true):CB X (.builtin "sorted") yN:=gu fun τ z Q R d v I r q k=>by
 obtain⟨a,kvs,vs,rfl,l,ss,hk,hR,q⟩:=I.b4 r q;obtain⟨ep,lJ⟩:=l.d.dictAt;have hlen:kvs.length=vs.length:=Paired.length l.r;have se:kvs.length=ss.length:=by have:=congrArg YQ hk;rw[WQ,WQ]at this;exact this
 have z0:=l.z;refine Calls.call_function_entry kind_sorted plain_sorted entry_sorted (args_sorted1 _) ?_;unfold Builtin.«sorted»;refine WO (m:=checkCount "sorted" 1 1 _) (WS ?_);refine WO (kdu_collect (A:=X.A.in1) (kdl_dict (knd:=bx X.G.P X.G.w) (kvs:=vs) (ep:=ep) l.n) (I.ok.hd hc) lJ (by rw[<- hlen];exact z0) λh' tk acc keep items=>?_);have hl:acc.toList.length=vs.length:=by rw[Xg];exact items.1
 refine WO (wpAny_newList ?_ (by rw[hl,<- hlen];exact z0));have hS:StrsAre acc.toList ss:=yO (by rw[hl,<- hlen,se]) λi v x h1 h2=>by
  obtain⟨c,y,hx,HJ⟩:=items.2 i v (by rw[<- Yc];exact h1);have e1:(vs.map (·.1))[i]?=some c:=by rw[W8,hx];rfl
  rw[<- (lC l.r).2,hk,W8,h2]at e1;have e2:XW x=c:=Xl e1;subst e2;rcases dZ (show gS (XW x) _=true from HJ) with ⟨i,t,e1,_⟩ |⟨y,t,e1,e2⟩
  ·cases e1
  ·cases e1;exact⟨t,e2⟩
 have eU:(h'.push { cls:=.type "list",data:=.seq acc.toList.toArray }).get? h'.objs.size=some (seqObj "list" acc.toList.toArray 0):=WX _ rfl;refine WO (XN (Xp slot_list_sort ⟨_,eU,rfl⟩ entry_list_sort (list_sort_treeK strKind_oneLt eU hS.keysOf (λv₁ v₂ rest e=>keyKind_strs (by rw[<- e];exact hS)) (by rw[hl,<- hlen,se];exact hR) λa2 SF SE=>⟨_,rfl,?_⟩) (args_list_sort _)));obtain⟨ys,b1,b2,SO⟩:=sorted_out_str hS SF SE;refine WS ⟨_,rfl,?_⟩;obtain⟨e,sf⟩:=sortedHeap_at (out:=(arrOf a2).map (·.2)) eU;have rs:=jV (G:=X.G) (F:=z.F) b1;have J:=I.kept (t:=tk) keep;refine J.lst (n:=e) (t:=tk) k Le.rfl rs (λb o hb=>?_) (WU _) ?_ (by rw[<- rs.len,WQ,b2.length_eq,<- se];exact z0) (q ys b2 SO)
 ·have ap:b<h'.objs.size:=W4 hb;rw[sortedHeap_old (W7 ap) (by rw[Xq];exact Yg ap)];exact WR _ hb
 ·rw[sf];rfl
end N
end
section
namespace L2
open PySem PySem.Spec PyProof.Rows
theorem HK(t:SetTable)(n:Nat):(t.orStandIn n).led=t.led:=by
 unfold SetTable.orStandIn;split <;> rfl
theorem HM(t:SetTable)(es:Array (Int×Value))(h:Int)(x:Value):(layNew t es h x).2.1.led=t.led:=by
 unfold layNew;split
 ·exact HK _ _
 ·rfl
theorem yP{yQ HN HO:Nat}{led plain:Bool}{hs:Array Int}{r:SetTable×Array Nat}(h:SetTable.laid yQ HN HO led plain hs=some r):r.1.led=led/\r.1.plain=plain:=by
 unfold SetTable.laid at h;cases hc:SetTable.layClean yQ hs with
 |none=>rw[hc]at h;cases h
 |some Wv=>rw[hc]at h;cases h;exact⟨rfl,rfl⟩
theorem HP(t:SetTable)(es:Array (Int×Value))(n:Nat):(relayAll t es n).2.1.led=t.led:=by
 unfold relayAll;cases hr:t.relaid (es.map (·.1)) n with
 |none=>rfl
 |some r=>
  obtain⟨t',order⟩:=r;have:=yP hr;dsimp only;split
  ·exact this.1
  ·rfl
theorem HQ(t:SetTable)(es:Array (Int×Value))(n:Nat)(hp:t.plain=false):(relayAll t es n).2.1.plain=false:=by
 unfold relayAll;cases hr:t.relaid (es.map (·.1)) n with
 |none=>rfl
 |some r=>
  obtain⟨t',order⟩:=r;have:=yP hr;dsimp only;split
  ·exact this.2.trans hp
  ·rfl
noncomputable def eV:Value->Str
 |.str x _=>x
 |_=>Str.empty
noncomputable def b5(es:List (Int×Value)):List Str:=es.map λe=>eV e.2
def cH(prog:Program)(w:World)(h:Heap)(a:Addr)(zs:List Str):Prop:=
 ∃(es:Array (Int×Value))(ep:Nat)(t:SetTable),h.get? a=some { cls:=.type "set",dict:=none,data:=.set es ep t,slots:=#[] }/\ElemsOf (strKind prog w) es.toList/\t.fits es.size=true /\
  t.led=(!w.params.followText "set-order")/\(t.plain=false\/es=#[])/\es.size<4000/\(b5 es.toList).Nodup/\∀x,x∈b5 es.toList ↔ x∈zs
theorem cH.at{prog:Program}{w:World}{h h':Heap}{a:Addr}{zs:List Str}(S:cH prog w h a zs)(k:∀o,h.get? a=some o->h'.get? a=some o):cH prog w h' a zs:=by
 obtain⟨es,ep,t,ho,r⟩:=S;exact⟨es,ep,t,k _ ho,r⟩
section
variable{prog:Program}{w:World}{A:Around}{E:Value->Shared->Prop}{s:Shared}{a:Addr}{zs:List Str}
theorem yR{es:List (Int×Value)}(h:ElemsOf (strKind prog w) es){e:Int×Value}(he:e∈es):∃t,e.2=.str (eV e.2) t/\e.1=(strKind prog w).hash (eV e.2):=by
 obtain⟨⟨k,hk,hh⟩,_⟩:=h e he;obtain⟨t,ht⟩:=Value.isStrOf_shape (x:=k) (v:=e.2) hk;have:eV e.2=k:=by rw[ht];rfl
 exact⟨t,by rw[this];exact ht,by rw[this];exact hh⟩
theorem yS{es:List (Int×Value)}(h:ElemsOf (strKind prog w) es)(x:Str):(∃e∈es,(strKind prog w).is x e.2=true) ↔ x∈b5 es:=by
 constructor
 ·rintro⟨e,he,hx⟩;obtain⟨t,ht⟩:=Value.isStrOf_shape (x:=x) (v:=e.2) hx;exact List.mem_map.mpr ⟨e,he,by rw[ht];rfl⟩
 ·intro hx;obtain⟨e,he,rfl⟩:=List.mem_map.mp hx;obtain⟨t,ht,_⟩:=yR h he;refine⟨e,he,?_⟩;rw[ht];exact strKind_is _ _ _ _
theorem yT{es jW:Array (Int×Value)}{ep:Nat}{t t':SetTable}{Q:Unit->Shared->Prop}(ho:s.heap.get? a=some { cls:=.type "set",dict:=none,data:=.set es ep t,slots:=#[] })(hz:jW.size<4096)
  (h:∀h',YA a s.heap h'->h'.get? a=some { cls:=.type "set",dict:=none,data:=.set jW (ep+1) t',slots:=#[] }->Q () { s with heap:=h' }):wpAny (model prog w) A (storeSet a jW t') Q E s:=by
 refine wpAny_storeSet_of (ep:=ep) (t:=t) ho rfl (h _ (Xo s.heap a _) ?_) (fits_of_scanBound hz);have:=Xr (Obj.putSet jW t') ho (by rw[putSet_of (ep:=ep) (t:=t) jW t' rfl];rfl);rw[this,putSet_of (ep:=ep) (t:=t) jW t' rfl]
theorem HR{l l':List Str}{x:Str}(p:List.Perm l' (l++[x]))(nd:l.Nodup)(h:x ∉ l):l'.Nodup:=by
 refine p.nodup_iff.mpr (List.nodup_append.mpr ⟨nd,by simp,λy hy z hz=>?_⟩);rw[List.mem_singleton.mp hz];exact λe=>h (e ▸ hy)
theorem HS{x:Str}{tk:Tok}{Q:Bool->Shared->Prop}(S:cH prog w s.heap a zs)(hl:zs.length<3900)
  (h:∀b h',YA a s.heap h'->cH prog w h' a (zs++[x])->Q b { s with heap:=h' }):wpAny (model prog w) A (setAddHashed a (.str x tk) ((strKind prog w).hash x)) Q E s:=by
 obtain⟨es,ep,t,ho,em,hf,jX,cr,hsz,nd,hm⟩:=S;have RW:es.size<3950:=by
  have:=List.Nodup.length_le_of_subset nd λy hy=>(hm y).mp hy;rw[b5,WQ,Xg]at this;lia
 have nw:(strKind prog w).is x (.str x tk)=true:=strKind_is _ _ _ _;have eo:(Value.str x tk).scannable=true:=rfl;unfold setAddHashed setAddHashedIn;refine XN (WO (Ym ho rfl hf ?_));dsimp only;rw[byScan_of eo (by show es.size<4096;lia) em,if_pos rfl];unfold setAddByScan;refine WO (WO (wpAny_rule (WO (wpAny_setScan_of nw ho rfl hf em ?_))));cases hr:List.findIdx? (λe=>(strKind prog w).is x e.2) es.toList with
 |some j=>
  obtain⟨hj,HU,_⟩:=List.findIdx?_eq_some_iff_getElem.mp hr;have hx:x∈zs:=(hm x).mp ((yS em x).mp ⟨es.toList[j],List.getElem_mem hj,HU⟩);refine WS (WS ?_);refine h false s.heap (Heap.SameBut.refl a s.heap) ⟨es,ep,t,ho,em,hf,jX,cr,hsz,nd,λy=>?_⟩;rw[hm y,Yj,List.mem_singleton];exact⟨.inl,λz=>z.elim id λe=>e ▸ hx⟩
 |none=>
  have hx:x ∉ b5 es.toList:=λz=>by
   obtain⟨e,he,q⟩:=(yS em x).mpr z;have:=List.findIdx?_eq_none_iff.mp hr e he;rw[q]at this;cases this
  have jY:=layNew_perm t es ((strKind prog w).hash x) (.str x tk);have jZ:=layNew_fits t es ((strKind prog w).hash x) (.str x tk);have j0:=HM t es ((strKind prog w).hash x) (.str x tk);dsimp only;generalize layNew t es ((strKind prog w).hash x) (.str x tk)=L at jY jZ j0 ⊢;obtain⟨cJ,t1,RX,RY⟩:=L;dsimp only at jY jZ j0 ⊢;rw[Array.toList_push]at jY;have yU:ElemsOf (strKind prog w) cJ.toList:=(em.push nw eo).perm jY;have yV:(b5 cJ.toList).Perm (b5 es.toList++[x]):=by
   have:=jY.map (λe:Int×Value=>eV e.2);rw[W']at this;exact this
  have yW:=HR yV nd hx;have fH:∀y,y∈b5 cJ.toList ↔ y∈zs++[x]:=λy=>by
   rw[yV.mem_iff,Yj,Yj,hm y]
  have hs1:cJ.size=es.size+1:=by
   have:=jY.length_eq;rw[W3,Xg,Xg]at this;simpa using this
  have SR:∀(b:Bool){s₁:Shared}{Q':Unit->Shared->Prop},Q' () s₁->wpAny (model prog w) A (match b with |true=>rule "set.scan.the-table-gave-way" |false=>pure ()) Q' E s₁:=λb s₁ Q' q=>by
   cases b
   ·exact WS q
   ·exact wpAny_rule q
  refine WO (SR _ ?_);cases e:t1.plain
  case' false=>
   rw[if_neg Xi];refine WO (WS ?_);simp only[if_true];have hf2:=jZ;have hl2:t1.led=t.led:=j0;have lK:t1.plain=false:=e;clear e jZ j0;generalize t1=t2 at hf2 hl2 lK ⊢
  case' true=>
   rw[if_pos rfl,hashByValue_scannable 8 eo];refine WO (WS ?_);simp only[show plainKind (.str x tk)=false from rfl,Bool.false_eq_true,if_false];have hf2:=SetTable.fits_plain_off jZ;have hl2:({ t1 with plain:=false }:SetTable).led=t.led:=j0;have lK:({ t1 with plain:=false }:SetTable).plain=false:=rfl;clear e jZ j0;generalize ({ t1 with plain:=false }:SetTable)=t2 at hf2 hl2 lK ⊢
  all_goals
   refine WO (yT ho (by lia) λh1 hV yX=>?_);split
   ·have hp:=relayAll_perm t2 cJ (SetTable.grown cJ.size);have hfr:=relayAll_fits t2 cJ (SetTable.grown cJ.size);have hlr:=HP t2 cJ (SetTable.grown cJ.size);have sg:=HQ t2 cJ (SetTable.grown cJ.size) lK;generalize relayAll t2 cJ (SetTable.grown cJ.size)=R at hp hfr hlr sg ⊢;obtain⟨sh,t3,g2⟩:=R;dsimp only at hp hfr hlr sg ⊢;have hs2:sh.size=cJ.size:=(by rw[<- Xg,hp.length_eq,Xg]);have nP:(b5 sh.toList).Perm (b5 cJ.toList):=hp.map _;refine WO (SR _ (WO (yT (s:={ s with heap:=h1 }) yX (by lia) λh2 hb2 eg=>WS (WS ?_))));exact h true h2 (hV.trans hb2) ⟨sh,_,t3,eg,yU.perm hp,hfr,by rw[hlr,hl2,jX],.inl sg,by lia,nP.nodup_iff.mpr yW,λy=>(nP.mem_iff).trans (fH y)⟩
   ·exact WS (WS (h true h1 hV ⟨cJ,_,t2,yX,yU,hf2,by rw[hl2,jX],.inl lK,by lia,yW,fH⟩))
end
end L2
namespace L2
open PySem PySem.Spec PyProof.Rows
theorem yY:∀{vs:List Value}{ss:List Str}{i:Nat}{v:Value},StrsAre vs ss->vs[i]?=some v->∃(x:Str)(t:Tok),ss[i]?=some x/\v=.str x t
 |_,_,i,v,.nil,e=>by simp at e
 |_,_,0,v,.cons x t _,e=>by simp at e;exact⟨x,t,rfl,e.symm⟩
 |_,_,i+1,v,.cons x t r,e=>by
  obtain⟨y,u,h1,h2⟩:=yY (i:=i) r (by simpa using e);exact⟨y,u,by simpa using h1,h2⟩
section
variable{prog:Program}{w:World}{A:Around}{E:Value->Shared->Prop}{s:Shared}
noncomputable def eW(w:World):Obj:={ cls:=.type "set",dict:=none,data:=.set #[] 0 (.fresh 0 0 (!w.params.followText "set-order")) }
theorem HV{h:Heap}{a:Addr}(e:h.get? a=some (eW w)):cH prog w h a []:=by
 refine⟨#[],0,_,e,λx hx=>?_,by rfl,rfl,.inr rfl,by decide,List.nodup_nil,λx=>Iff.rfl⟩;simp at hx
theorem HW(a:Value){Q₁:Value->Shared->Prop}(h:Q₁ (.ref s.heap.objs.size) { s with heap:=s.heap.push (eW w) }):
  codeAny (model prog w) A (.call (.builtin "set.__new__") ⟨[.type "set",a],[]⟩) (wants Q₁ E) s:=by
 refine codeAny_of_tree ?_;show wpAny _ A.in1 (checkBuiltinCall "set.__new__" ⟨[.type "set",a],[]⟩ >>= λ_=>again (.builtin "set.__new__" ⟨[.type "set",a],[]⟩)) _ _ s;refine WO (wpAny_of_eq (F.newCall_set_1 a) (WS ⟨Yr F.plain_set_new _,Yl F.entry_set_new ?_⟩));rw[XO F.plain_set_new _];unfold Builtin.«set.__new__» Builtin.Frozenset.newClass;have hsub:=sub_set_self;obtain⟨hp,g,d,tk,os⟩:=s;dsimp only at h ⊢
 wp_walk
 refine wpAny_askSetting (WS ?_);dsimp only;simp only[newObj];exact WO (wpAny_alloc (WS (WS h)))
end
end L2
namespace L2
open PySem PySem.Spec PyProof.Rows
theorem n9{ys N:List Str}(h:∀x∈ys,x∈N):∀x,x∈ys ↔ x∈N.filter (λz=>decide (z∈ys)):=λx=>by
 rw[List.mem_filter,decide_eq_true_iff];exact⟨λz=>⟨h x z,z⟩,λz=>z.2⟩
theorem cH.dS{prog:Program}{w:World}{h:Heap}{a:Addr}{zs zs':List Str}(S:cH prog w h a zs)(e:∀x,x∈zs ↔ x∈zs'):cH prog w h a zs':=by
 obtain⟨es,ep,t,ho,r1,r2,Uh,r4,r5,Vw,r7⟩:=S;exact⟨es,ep,t,ho,r1,r2,Uh,r4,r5,Vw,λx=>(r7 x).trans (e x)⟩
section
variable{prog:Program}{w:World}{A:Around}{R:Result->Shared->Prop}{I:Addr}{fp wr:List Addr}{G:Array GenState->Array GenState->Prop}{n:Nat}{P:Nat->Value->Prop}{St:Nat->Shared->Prop}
theorem HX(W:WalksS prog w A.in1 I fp wr G n P St)(S:Addr)(hS:S ∉ fp)(zs:List Str)(hn:n=zs.length)(HY:∀ i v,P i v->∃(x:Str)(t:Tok),zs[i]?=some x/\v=.str x t){N:List Str}(hN:N.length<3900)(hb:∀ x∈zs,x∈N):
  ∀(k i:Nat)(s:Shared),n-i=k->i<=n->St i s->cH prog w s.heap S (zs.take i)->(∀s',Moved (S::wr) G s s'->cH prog w s'.heap S zs->R (.ok (.ret .none)) s') ->
   codeAny (model prog w) A (.builtin "set.update.loop" ⟨[.ref S,.ref I],[]⟩) R s:=by
 have hw:S ∉ wr:=λh=>hS (W.sub _ h);have sub:∀b∈wr,b∈S::wr:=λb h=>WY _ h;intro k
 induction k with
 |zero=>
  intro i s hk hi st hs q;obtain rfl:i=n:=by lia
  refine Yl F.entry_set_update_loop ?_;rw[XO F.plain_set_update_loop _];show wpAny _ A.in1 (pyNext (.ref I) >>= _) _ _ s;refine WO (W.done s _ _ st λs' m=>?_);refine WS (q s' (m.mono sub) ?_);rw[List.take_of_length_le (by lia)]at hs;exact hs.at λo e=>m.heap S o hw e
 |succ k ih=>
  intro i s hk hi st hs q;have lt:i<n:=by lia
  refine Yl F.entry_set_update_loop ?_;rw[XO F.plain_set_update_loop _];show wpAny _ A.in1 (pyNext (.ref I) >>= _) _ _ s;refine WO (W.item i s _ _ lt st λv s1 hP n6 m=>?_);obtain⟨x,t,hx,rfl⟩:=HY i v hP;have hs1:=hs.at (h':=s1.heap) λo e=>m.heap S o hw e;show wpAny _ A.in1 (holding [Value.str x t] (setAdd S (.str x t)) >>= _) _ _ s1;unfold setAdd;refine WO (XN (XN (WO ((strKind prog w).pyHash (k:=x) (strKind_is _ _ _ _) ?_))));have hsm:=hs1.dS (n9 (ys:=zs.take i) (λx hx=>hb x (List.mem_of_mem_take hx)));refine HS (s:={ s1 with toks:=s1.toks+1 }) hsm (W6 (Yd _ _) hN) λb h' fI HZ=>?_;have hs2:=HZ.dS (zs':=zs.take i++[x]) (λy=>by rw[Yj,Yj,<- n9 (ys:=zs.take i) (λx hx=>hb x (List.mem_of_mem_take hx)) y]);have e2:zs.take i++[x]=zs.take (i+1):=by rw[List.take_add_one,hx];rfl
  rw[e2]at hs2;refine WS ⟨Yr F.plain_set_update_loop _,ih (i+1) _ (by lia) lt (W.frame _ s1 _ _ n6 (YR _) λc hc o e=>?_) hs2 λs2 m2 q2=>?_⟩
  ·rw[fI.2 c λz:c=S=>hS (z ▸ hc)];exact e
  ·exact q s2 (Moved.trans W.gtrans ((m.mono sub).then_heap (YR _) λc o hc e=>by rw[fI.2 c λz:c=S=>hc (z ▸ WZ)];exact e) m2) q2
end
section
variable{prog:Program}{w:World}{A:Around}{E:Value->Shared->Prop}{s:Shared}
theorem H0{l:Addr}{its:Array Value}{zs:List Str}{Q:Value->Shared->Prop}(hh:A.handled=none)(hl:s.heap.IsList l its)(hi:StrsAre its.toList zs){N:List Str}(hN:N.length<3900)(hb:∀ x∈zs,x∈N)
  (h:∀(h':Heap)(tk:Nat),cH prog w h' s.heap.objs.size zs->(∀b o,s.heap.get? b=some o->h'.get? b=some o)->Q (.ref s.heap.objs.size) { s with heap:=h',toks:=tk }) :
  wpAny (model prog w) A (call (.type "set") [.ref l]) Q E s:=by
 obtain⟨c,tl,RZ⟩:=F.called_set.mro;have made:=F.called_set.made;have sub:=F.called_set.sub;refine wpAny_call (codeAny_of_tree ?_);show wpAny _ _ (callAny (.type "set") _) _ _ _;refine WS ⟨Code.quiet_builtin _ (by decide +kernel),Yl F.entry_type_call ?_⟩;rw[Around.under_plain (weight_type_call_type "set" [.ref l] []) rfl];have g1:=F.called_set.notType;have g2:=F.called_set.canCreate;have g3:=F.typeCall_set_1 (.ref l)
 repeat (any_goals (first |assumption |wp_step))
 refine YG (HW (.ref l) (E:=E) (Q₁:=λu s1=>u=.ref s.heap.objs.size/\s1={ s with heap:=s.heap.push (eW w) }) ⟨rfl,rfl⟩) λr s1 hr=>?_;cases r with
 |error e=>exact hr
 |ok fl=>
  cases fl with
  |ret obj=>
   obtain⟨rfl,rfl⟩:=hr;have hS:(s.heap.push (eW w)).get? s.heap.objs.size=some (eW w):=WX _ rfl;have hT:Shared.TypeIs { s with heap:=s.heap.push (eW w) } (.ref s.heap.objs.size) "set":=⟨_,hS,rfl⟩;have R0:∀{k:Nat},Shared.TypeIs { s with heap:=s.heap.push (eW w),toks:=k } (.ref s.heap.objs.size) "set":=⟨_,hS,rfl⟩;have li:=F.called_set.init.lookup;have bi:=F.called_set.init.bind (.ref s.heap.objs.size)
   repeat (any_goals (first |assumption |wp_step))
   refine YG (codeAny_call_builtin (R:=wants (λr s2=>r=.none/\∃h' tk,s2={ s with heap:=h',toks:=tk }/\cH prog w h' s.heap.objs.size zs/\(∀b o,s.heap.get? b=some o->h'.get? b=some o)) E) F.called_set.init.plain F.entry_set_init (check_set_init_1 hT ?_)) λr2 s2 si=>?_
   ·obtain⟨ol,yZ,cG,nl,y0⟩:=hl;obtain⟨oc,od,R1,os⟩:=ol;simp only at cG y0;subst cG;subst y0;have H1:(s.heap.push (eW w)).get? l=some { cls:=.type "list",dict:=od,data:=.seq its nl,slots:=os }:=WR _ yZ;have e1:=F.sub_list_set;have e2:=F.sub_list_frozenset;have e3:(Yy "list" == Yy "dict")=false:=(by decide);have lL:(s.heap.push (eW w)).IsList l its:=⟨_,H1,rfl,nl,rfl⟩;unfold Builtin.«set.__init__» noKeywords Builtin.Frozenset.updateFrom;generalize H3:pyIter=PI
    wp_walk
    subst H3;refine YY lL (WO (wpAny_runValue ?_));have TV:l<s.heap.objs.size:=W4 yZ;have H4:A.in1.in1.in1.handled=none:=(by simp [hh]);have UP:l≠(s.heap.push (eW w)).objs.size:=(by rw[Xq];exact W7 (Yg TV));have Vx:s.heap.objs.size ∉ [(s.heap.push (eW w)).objs.size,l]:=by
     rw[Xq];simp only[Xk,Xd,or_false,not_or];exact⟨W7 (Yq _),XR TV⟩
    have len:its.size=zs.length:=(by rw[<- Xg];exact hi.length);have val:∀(i:Nat)(v:Value),its[i]?=some v->∃(x:Str)(t:Tok),zs[i]?=some x/\v=.str x t:=λi v e=>yY hi (by rw[Yc];exact e);refine HX ((Walks.list H4 _ l UP its).toS) s.heap.objs.size Vx zs len val hN hb (its.size-0) 0 _ (by lia) (W9 _) ⟨⟨_,WX _ rfl,rfl,rfl⟩,(lL.push _)⟩ ?start ?fin
    case start=>
     rw[List.take_zero];exact HV (WR _ hS)
    case fin=>
     intro s' m gT;obtain⟨h',g',d',cR,rE⟩:=s';have Ta:g'=s.gens:=m.gens;have ed:d'=s.drawn:=m.drawn;have Ti:rE=s.os:=m.os;subst Ta;subst ed;subst Ti;refine WS ?_;show wpAny _ _ (ret XZ) _ _ _;refine WS ⟨rfl,h',cR,rfl,gT,λb o e=>?_⟩;have lb:=W4 e;refine m.heap b o ?_ (WR _ (WR _ e));simp only[Xk,Xd,or_false,not_or];exact⟨W7 lb,by rw[Xq];exact W7 (Yg lb)⟩
   ·cases r2 with
    |error e=>exact si
    |ok f2=>
     cases f2 with
     |ret r=>
      obtain⟨rfl,h',tk,rfl,gT,k⟩:=si
      repeat (any_goals (first |assumption |wp_step))
      exact h _ _ gT k
     |_=>exact si.elim
  |_=>exact hr.elim
end
end L2
namespace L2
open PySem PySem.Spec PyProof.Rows
theorem hW:Slot "set_iterator" "__next__" "set_iterator.__next__":=.of (owner:="set_iterator") (n:="__next__") (by rw[Yx,XX];kernel_rfl) (by decide +kernel) (by decide +kernel) (by decide +kernel) (by first |exact .inl (by decide +kernel) |exact .inr (by decide +kernel)) (by rw[Y6];kernel_rfl)
theorem y1:Slot "set_iterator" "__iter__" "set_iterator.__iter__":=.of (owner:="set_iterator") (n:="__iter__") (by rw[Yx,XX];kernel_rfl) (by decide +kernel) (by decide +kernel) (by decide +kernel) (by first |exact .inl (by decide +kernel) |exact .inr (by decide +kernel)) (by rw[Y6];kernel_rfl)
theorem y2:entryFor table "set_iterator.__next__"=some Builtin.«set_iterator.__next__»:=entryFor_of_tree (by kernel_rfl)
theorem y3:Manifest.owners.lookup (String.ofList ['r','o','t','a','r','e','t','i','_','t','e','s'].reverse)=some Manifest.sig_set_iterator:=by kernel_rfl
theorem y4(a:Value):argsOk "set_iterator.__next__" ⟨[a],[]⟩:=by
 unfold argsOk;rw[signature?_of (id:="set_iterator.__next__") (n:=['_','_','t','x','e','n','_','_']) (o:=['r','o','t','a','r','e','t','i','_','t','e','s']) (by kernel_rfl) y3];kernel_rfl
theorem H5:entryFor table "set.__iter__"=some Builtin.«frozenset.__iter__»:=entryFor_alias (id':="frozenset.__iter__") (by kernel_rfl) rfl (by decide +kernel) (by kernel_rfl)
theorem sj{α:Type}:∀(l:List α)(i:Nat)(h:i<l.length),(l[i]::l.eraseIdx i).Perm l
 |x::l,0,_=>.refl _
 |x::l,i+1,h=>by
  have hi:i<l.length:=by simpa using h
  have:=sj l i hi;show (l[i]::x::l.eraseIdx i).Perm (x::l);exact (List.Perm.swap x l[i] _).trans (List.Perm.cons x this)
section
variable{M:Model}{prog:Program}{w:World}{A:Around}{E:Value->Shared->Prop}{s:Shared}
theorem H6{gZ:Source}{n:Nat}{Q:Nat->Shared->Prop}(h0:n≠0)(h:∀i d,i<n->Q i { s with drawn:=d }):wpAny M A (choose gZ n) Q E s:=fun Γ p hΓ=>by
 show Sem.wp M Γ (.choose gZ n .pure) _ _ p s;rw[Sem.wp_choose];exact⟨h0,h _ _ (Nat.mod_lt _ (by lia))⟩
theorem y5{α:Type}:∀(n:Nat)(xs:List α)(s:Shared)(Q:List α->Shared->Prop),xs.length=n->(∀ys d,ys.Perm xs->Q ys { s with drawn:=d })->wpAny M A (drawOrder n xs) Q E s
 | 0,xs,s,Q,hl,q=>by
  have:xs=[]:=List.length_eq_zero_iff.mp hl;subst this;exact WS (q [] s.drawn (.refl _))
 |n+1,[],s,Q,hl,q=>by simp at hl
 |n+1,x::xs,s,Q,hl,q=>by
  unfold drawOrder;refine WO (H6 (by simp) λi d hi=>?_);rw[WW hi];dsimp only;refine WO (y5 n _ _ _ (by rw[List.length_eraseIdx,if_pos hi];simp at hl ⊢;lia) λys d' p=>WS (q _ d' ?_));exact (List.Perm.cons _ p).trans (sj _ _ hi)
theorem y6{α:Type}(next:Nat->Nat):∀(fuel k:Nat)(left:List α)(out:Array α),left.length=fuel->(pickOrder.go next fuel k left out).toList.Perm (out.toList++left)
 | 0,k,left,out,hl=>by
  have:left=[]:=List.length_eq_zero_iff.mp hl;subst this;unfold pickOrder.go;simp
 |fuel+1,k,left,out,hl=>by
  have hi:next k % left.length<left.length:=Nat.mod_lt _ (by lia)
  unfold pickOrder.go;rw[WW hi];dsimp only;refine (y6 next fuel (k+1) _ _ (by rw[List.length_eraseIdx,if_pos hi];lia)).trans ?_
  rw[Array.toList_push,X6];exact List.Perm.append_left _ (sj _ _ hi)
theorem sr{α:Type}(next:Nat->Nat)(xs:Array α):(pickOrder next xs).toList.Perm xs.toList:=by
 have:=y6 next xs.size 0 xs.toList #[] (by simp)
 simpa [pickOrder] using this
noncomputable def er(first:Value)(i:Nat)(a:Addr)(n ep:Nat):Obj:={ cls:=.type "set_iterator",data:=.fields #[first,.int i 0,.ref a,.int n 0,.int ep 0] }
theorem y7{α:Type}{Q':α->Shared->Prop}{E':Value->Shared->Prop}(hh:A.handled=none)(h:∀ e h',Shared.TypeIs { s with heap:=h' } e "StopIteration"->(∀ b o,s.heap.get? b=some o->h'.get? b=some o)->E' e { s with heap:=h' }):
  wpAny (model prog w) A.in1 (newExc (.type "StopIteration") [] >>= λe=>(raiseNew e:Sem α)) Q' E' s:=by
 refine WO ?_;simp only[newExc,newTuple];refine WO (Xx ?_ (by size_fits));refine WO (m:=firstArgMember _ _) (wpAny_of_eq (a:=XZ) (by first |rfl |(simp only[firstArgMember];rfl)) (Xx ?_ (by size_fits)))
 simp only[raiseNew];refine WO (wpAny_handled ?_);rw[show A.in1.handled=none from hh];refine WO (WS (wpAny_throw (h (.ref _) _ ⟨_,WX _ rfl,rfl⟩ λb o e=>WR _ (WR _ e))))
def fJ(h:Heap)(a:Addr)(es:Array (Int×Value))(ep:Nat)(t:SetTable):Prop:=h.get? a=some { cls:=.type "set",dict:=none,data:=.set es ep t,slots:=#[] }/\t.fits es.size=true
theorem su{a:Addr}{es:Array (Int×Value)}{ep:Nat}{t:SetTable}{Q:Array (Int×Value)->Shared->Prop}(S:fJ s.heap a es ep t)(h:Q es s):wpAny (model prog w) A (setEntries a) Q E s:=by
 unfold setEntries;exact WO (Ym S.1 rfl S.2 (WS h))
theorem j2{I:Addr}{vs:Array Value}{k:Nat}{v:Value}{Q:Unit->Shared->Prop}(ho:s.heap.get? I=some { cls:=.type "set_iterator",data:=.fields vs })(hk:k<vs.size)
  (h:∀h',(∀b o,b≠I->s.heap.get? b=some o->h'.get? b=some o)->h'.get? I=some { cls:=.type "set_iterator",data:=.fields (vs.setIfInBounds k v) }->Q () { s with heap:=h' }):wpAny (model prog w) A (setField (.ref I) k v) Q E s:=by
 refine wpAny_setField ho rfl hk (h _ (λb o hb e=>?_) ?_)
 ·exact (Y3 _ _ (XC hb)).trans e
 ·have:=Xr (Yz (·.setIfInBounds k v)) ho (Obj.isFreed_of_fields (Obj.data_mapFields rfl _));rw[this];rfl
theorem oe{I a:Addr}{slot i n ep:Nat}{es:Array (Int×Value)}{t:SetTable}{r:Option (Value×Nat)}{Q:Option Value->Shared->Prop}(hh:A.handled=none)(hI:s.heap.get? I=some (er (.int slot 0) i a n ep))(S:fJ s.heap a es ep t)(hn:es.size=n)
  (hr:∀(A':Around)(E':Value->Shared->Prop)(Q':Option (Value×Nat)->Shared->Prop),Q' r s->wpAny (model prog w) A' (setNext a slot i ep) Q' E' s)
  (h:match r with
   |some (x,nx)=>∀h',(∀b o,b≠I->s.heap.get? b=some o->h'.get? b=some o)->h'.get? I=some (er (.int nx 0) (i+1) a n ep)->Q (some x) { s with heap:=h' }
   |none=>∀h',(∀b o,b≠I->s.heap.get? b=some o->h'.get? b=some o)->Q none { s with heap:=h' }):wpAny (model prog w) A (pyNext (.ref I)) Q E s:=by
 have hT:s.TypeIs (.ref I) "set_iterator":=⟨_,hI,rfl⟩;unfold pyNext;refine WO (YT (Xm (name:=Yp "__next__") hT hW (Xp hW hT y2 ?_ (y4 _))));unfold Builtin.«set_iterator.__next__»;refine WO (WS ?_);refine WO (wpAny_fieldsOf hI rfl ?_);refine WO (su S ?_);rw[if_neg (by rw[hn];simp)];refine WO (hr _ _ _ ?_);have Ww:((slot:Int)).toNat=slot:=X8 _;cases r with
 |some p=>
  obtain⟨x,nx⟩:=p;dsimp only at h ⊢;refine WO (j2 hI (by simp) λh1 k1 i1=>WO (j2 (s:={ s with heap:=h1 }) i1 (by simp) λh2 k2 i2=>?_));exact WS ⟨_,rfl,WS (h h2 (λb o hb e=>k2 b o hb (k1 b o hb e)) (by rw[i2];simp [er,rawInt]))⟩
 |none=>
  dsimp only at h ⊢;refine WO (j2 hI (by simp) λh1 k1 i1=>?_);refine y7 (s:={ s with heap:=h1 }) hh λe h2 lM k2=>?_;refine WO (YS (T:="StopIteration") (b:=true) lM isSubtype_stop ?_);exact WS (h h2 λb o hb e=>k2 b o (k1 b o hb e))
end
end L2
namespace L2
open PySem PySem.Spec PyProof.Rows PySem.W
section
variable{prog:Program}{w:World}{A:Around}{E:Value->Shared->Prop}{s:Shared}
theorem y8{I a tp:Addr}{i n ep:Nat}{es:Array (Int×Value)}{t:SetTable}{vs:Array Value}{m:Nat}{Q:Option Value->Shared->Prop}(hh:A.handled=none)(hI:s.heap.get? I=some (er (.ref tp) i a n ep))(S:fJ s.heap a es ep t)(hn:es.size=n)
  (hP:s.heap.get? tp=some { cls:=.type "tuple",data:=.seq vs m })
  (h:(∃(j:Nat)(u:Tok)(e:Int×Value),vs[i]?=some (.int j u)/\es[j]?=some e/\∀h',(∀b o,b≠I->s.heap.get? b=some o->h'.get? b=some o)->h'.get? I=some (er (.ref tp) (i+1) a n ep)->Q (some e.2) { s with heap:=h' }) \/
   (vs[i]?=none/\∀h',(∀b o,b≠I->s.heap.get? b=some o->h'.get? b=some o)->Q none { s with heap:=h' })):wpAny (model prog w) A (pyNext (.ref I)) Q E s:=by
 have hT:s.TypeIs (.ref I) "set_iterator":=⟨_,hI,rfl⟩;unfold pyNext;refine WO (YT (Xm (name:=Yp "__next__") hT hW (Xp hW hT y2 ?_ (y4 _))));unfold Builtin.«set_iterator.__next__»;refine WO (WS ?_);refine WO (wpAny_fieldsOf hI rfl ?_);refine WO (su S ?_);rw[if_neg (by rw[hn];simp)];dsimp only;refine WO (YF hP rfl ?_);dsimp only;rw[X8];rcases h with ⟨j,u,e,h1,h2,h3⟩ |⟨h1,h2⟩
 ·rw[h1];dsimp only;rw[X8,X8];have sn:∀{R:Value->Shared->Prop}{E':Value->Shared->Prop}{A':Around},R e.2 s->wpAny (model prog w) A' (setNextDrawn a j ep) R E' s:=λ{R E' A'}q=>by
   unfold setNextDrawn;refine WO (Ym S.1 rfl S.2 ?_);dsimp only;rw[if_neg (by simp),h2];exact WO (WS (WS q))
  refine WO (sn (WO (j2 hI (by simp) λh' k1 i1=>?_)));exact WS ⟨_,rfl,WS (h3 h' k1 (by rw[i1];simp [er,rawInt]))⟩
 ·rw[h1];dsimp only;refine WO (j2 hI (by simp) λh3 k3 Vy=>WO (j2 (s:={ s with heap:=h3 }) Vy (by simp) λh4 Vz Wx=>?_));refine y7 (s:={ s with heap:=h4 }) hh λe h5 lM TJ=>?_;refine WO (YS (T:="StopIteration") (b:=true) lM isSubtype_stop ?_);exact WS (h2 h5 λb o hb e=>TJ b o (Vz b o hb (k3 b o hb e)))
theorem iZ{Q:Bool->Shared->Prop}(h:Q (w.params.followText "set-order") s):wpAny (model prog w) A setsByText Q E s:=by
 unfold setsByText;exact WO (wpAny_askSetting (WS h))
theorem sv{I:Addr}{o:Obj}{Q:Value->Shared->Prop}(hI:s.heap.get? I=some o)(hc:o.cls=.type "set_iterator")(h:Q (.ref I) s):wpAny (model prog w) A (pyIter (.ref I)) Q E s:=by
 have hT:s.TypeIs (.ref I) "set_iterator":=⟨_,hI,hc⟩;have H7:entryFor table "set_iterator.__iter__"=some Builtin.«dict_keyiterator.__iter__»:=entryFor_alias (id':="dict_keyiterator.__iter__") (by kernel_rfl) rfl (by decide +kernel) (by kernel_rfl);have arg:argsOk "set_iterator.__iter__" ⟨[.ref I],[]⟩:=by
  unfold argsOk;rw[signature?_of (id:="set_iterator.__iter__") (n:=['_','_','r','e','t','i','_','_']) (o:=['r','o','t','a','r','e','t','i','_','t','e','s']) (by kernel_rfl) y3];kernel_rfl
 refine wpAny_pyIter_slot hT y1 (Xp y1 hT H7 ?_ arg);unfold Builtin.«dict_keyiterator.__iter__»;refine WO (WS ?_);exact WS ⟨_,rfl,"set_iterator",_,hT,hW.lookup,h⟩
theorem H8{I a:Addr}(bn:a≠I){es:Array (Int×Value)}{ep:Nat}{t:SetTable}(bt:w.params.followText "set-order"=true)(hh:A.handled=none):
  WalksS prog w A I [I,a] [I] (λx y=>y=x) es.size (λi v=>((pickOrder (w.params.setOrder a ep) es).toList.map (·.2))[i]?=some v) (λi s=>s.heap.get? I=some (er (.int 0 0) i a es.size ep)/\fJ s.heap a es ep t) where
 sub:=λb hb=>by simp at hb;simp [hb]
 grefl:=λ_=>rfl
 gtrans:=λ_ _ _ h1 h2=>h2.trans h1
 frame:=λi s h' tk st _ k=>⟨k I (by simp) _ st.1,k a (by simp) _ st.2.1,st.2.2⟩
 item:=λi s Q E hi st q=>by
  have hs:(pickOrder (w.params.setOrder a ep) es).toList.length=es.size:=by rw[(sr _ es).length_eq,Xg]
  have cu:i<(pickOrder (w.params.setOrder a ep) es).toList.length:=by lia
  have hx:(pickOrder (w.params.setOrder a ep) es)[i]?=some ((pickOrder (w.params.setOrder a ep) es).toList[i]):=by rw[<- Yc];exact WW cu
  refine oe (slot:=0) (r:=some (((pickOrder (w.params.setOrder a ep) es).toList[i]).2,0)) hh st.1 st.2 rfl (λA' E' Q' q'=>?_) λh' k hI=>?_
  ·unfold setNext;refine WO (Ym st.2.1 rfl st.2.2 (WO (iZ ?_)));rw[bt,if_pos rfl,if_neg (by simp)];unfold setWalk;refine WO (WO (Ym st.2.1 rfl st.2.2 (WO (iZ ?_))));rw[bt,if_pos rfl];refine WO (wpAny_askSetting (WS (WS ?_)));show Q' (((pickOrder (w.params.setOrder a ep) es)[i]?).map λe=>(e.2,0)) s;rw[hx];exact q'
  ·refine q _ _ ?_ ⟨hI,k a _ bn st.2.1,st.2.2⟩ ⟨λb o hb e=>k b o (λz=>hb (by simp [z])) e,rfl,rfl,rfl,WU _⟩;rw[W8,WW cu];rfl
 done:=λs Q E st q=>by
  have hs:(pickOrder (w.params.setOrder a ep) es).toList.length=es.size:=by rw[(sr _ es).length_eq,Xg]
  have hx:(pickOrder (w.params.setOrder a ep) es)[es.size]?=none:=by rw[<- Yc];exact Y7 (by lia)
  refine oe (slot:=0) (r:=none) hh st.1 st.2 rfl (λA' E' Q' q'=>?_) λh' k=>q _ ⟨λb o hb e=>k b o (λz=>hb (by simp [z])) e,rfl,rfl,rfl,WU _⟩;unfold setNext;refine WO (Ym st.2.1 rfl st.2.2 (WO (iZ ?_)));rw[bt,if_pos rfl,if_neg (by simp)];unfold setWalk;refine WO (WO (Ym st.2.1 rfl st.2.2 (WO (iZ ?_))));rw[bt,if_pos rfl];refine WO (wpAny_askSetting (WS (WS ?_)));show Q' (((pickOrder (w.params.setOrder a ep) es)[es.size]?).map λe=>(e.2,0)) s;rw[hx];exact q'
 self:=λi s Q E st q=>sv st.1 rfl q
theorem H9{I a:Addr}(bn:a≠I){es:Array (Int×Value)}{ep:Nat}{t:SetTable}(bt:w.params.followText "set-order"=false)(led:t.led=true)(h1:es.size<=1)(hh:A.handled=none):
  WalksS prog w A I [I,a] [I] (λx y=>y=x) es.size (λi v=>(es.toList.map (·.2))[i]?=some v) (λi s=>s.heap.get? I=some (er (.int (if i=0 then 0 else t.place.getD 0 0+1:Nat) 0) i a es.size ep)/\fJ s.heap a es ep t) where
 sub:=λb hb=>by simp at hb;simp [hb]
 grefl:=λ_=>rfl
 gtrans:=λ_ _ _ h1 h2=>h2.trans h1
 frame:=λi s h' tk st _ k=>⟨k I (by simp) _ st.1,k a (by simp) _ st.2.1,st.2.2⟩
 item:=λi s Q E hi st q=>by
  obtain rfl:i=0:=by lia
  have hz:es.size=1:=by lia
  have hp:t.place.size=1:=by
   have:=st.2.2;simp only[SetTable.fits,WT,beq_iff_eq]at this;lia
  have sw:(!t.plain && decide (es.size > 1))=false:=by rw[hz];simp
  refine oe (slot:=0) (r:=some ((es[0]'(by lia)).2,t.place.getD 0 0+1)) hh (by simpa using st.1) st.2 rfl (λA' E' Q' q'=>?_) λh' k hI=>?_
  ·unfold setNext;refine WO (Ym st.2.1 rfl st.2.2 (WO (iZ ?_)));rw[bt,if_neg Xi];dsimp only;refine YJ (λz=>absurd (sw.symm.trans (show (!t.plain && decide (es.size > 1))=true from z)) Xi) (λ_=>?_);refine WO ?_;show wpAny _ _ (if (!t.led && !es.isEmpty)=true then _ else pure PUnit.unit) _ _ s
   rw[led,if_neg (by simp)];refine WS (WS ?_);have eb:SetTable.below t.place 0=0:=by
    unfold SetTable.below;rw[hp];simp [SetTable.below.go]
   rw[eb,XM (show 0<es.size by lia),XM (show 0<t.place.size by lia)];have Ta:t.place.getD 0 0=t.place[0]'(by lia):=(by rw[YC,XM (show 0<t.place.size by lia)];rfl);rw[Ta]at q';exact q'
  ·refine q _ _ ?_ ⟨by rw[if_neg (by lia)];exact hI,k a _ bn st.2.1,st.2.2⟩ ⟨λb o hb e=>k b o (λz=>hb (by simp [z])) e,rfl,rfl,rfl,WU _⟩;rw[W8,Yc,XM (show 0<es.size by lia)];rfl
 done:=λs Q E st q=>by
  have hp:t.place.size=es.size:=by
   have:=st.2.2;simp only[SetTable.fits,WT,beq_iff_eq]at this;lia
  have sw:(!t.plain && decide (es.size > 1))=false:=by simp;lia
  refine oe (r:=none) hh st.1 st.2 rfl (λA' E' Q' q'=>?_) λh' k=>q _ ⟨λb o hb e=>k b o (λz=>hb (by simp [z])) e,rfl,rfl,rfl,WU _⟩;unfold setNext;refine WO (Ym st.2.1 rfl st.2.2 (WO (iZ ?_)));rw[bt,if_neg Xi];dsimp only;refine YJ (λz=>absurd (sw.symm.trans (show (!t.plain && decide (es.size > 1))=true from z)) Xi) (λ_=>?_);refine WO ?_;show wpAny _ _ (if (!t.led && !es.isEmpty)=true then _ else pure PUnit.unit) _ _ s
  rw[led,if_neg (by simp)];refine WS (WS ?_);have eb:SetTable.below t.place (if es.size=0 then 0 else t.place.getD 0 0+1)=es.size:=by
   rcases Nat.lt_or_ge es.size 1 with hz |hz
   ·have z0:es.size=0:=(by lia);unfold SetTable.below;rw[hp,z0];simp [SetTable.below.go]
   ·have z1:es.size=1:=(by lia);have Ta:∀d,t.place.getD 0 d=t.place[0]'(by lia):=λd=>(by rw[YC,XM (show 0<t.place.size by lia)];rfl);unfold SetTable.below;rw[hp,z1];simp [SetTable.below.go,Ta]
  rw[eb,Array.getElem?_eq_none (WU _)];exact q'
 self:=λi s Q E st q=>sv st.1 rfl q
theorem H'{I a tp:Addr}(bn:a≠I)(Ia:tp≠I){es:Array (Int×Value)}{ep m:Nat}{t:SetTable}{ps:List Nat}(hp:ps.Perm (Xu es.size))(hh:A.handled=none):
  WalksS prog w A I [I,a,tp] [I] (λx y=>y=x) es.size (λi v=>(ps.map λj=>(es.getD j (0,.none)).2)[i]?=some v)
   (λi s=>s.heap.get? I=some (er (.ref tp) i a es.size ep)/\fJ s.heap a es ep t/\s.heap.get? tp=some { cls:=.type "tuple",data:=.seq (ps.map λi=>rawInt (i:Nat)).toArray m }) where
 sub:=λb hb=>by simp at hb;simp [hb]
 grefl:=λ_=>rfl
 gtrans:=λ_ _ _ h1 h2=>h2.trans h1
 frame:=λi s h' tk st _ k=>⟨k I (by simp) _ st.1,⟨k a (by simp) _ st.2.1.1,st.2.1.2⟩,k tp (by simp) _ st.2.2⟩
 item:=λi s Q E hi st q=>by
  have hl:ps.length=es.size:=by rw[hp.length_eq,X5]
  have cu:i<ps.length:=by lia
  have hj:ps[i]<es.size:=List.mem_range.mp (hp.mem_iff.mp (List.getElem_mem cu));refine y8 hh st.1 st.2.1 rfl st.2.2 (.inl ⟨ps[i],0,es[ps[i]],?_,XM hj,λh' k hI=>?_⟩)
  ·simp [WW cu,rawInt]
  ·refine q _ _ ?_ ⟨hI,⟨k a _ bn st.2.1.1,st.2.1.2⟩,k tp _ Ia st.2.2⟩ ⟨λb o hb e=>k b o (λz=>hb (by simp [z])) e,rfl,rfl,rfl,WU _⟩;rw[W8,WW cu];simp [YC,XM hj]
 done:=λs Q E st q=>by
  have hl:ps.length=es.size:=by rw[hp.length_eq,X5]
  refine y8 hh st.1 st.2.1 rfl st.2.2 (.inr ⟨?_,λh' k=>q _ ⟨λb o hb e=>k b o (λz=>hb (by simp [z])) e,rfl,rfl,rfl,WU _⟩⟩);simp [hl]
 self:=λi s Q E st q=>sv st.1 rfl q
end
end L2
namespace L2
open PySem PySem.Spec PyProof.Rows PySem.W
section
variable{prog:Program}{w:World}{A:Around}{E:Value->Shared->Prop}{s:Shared}
theorem Ib{a:Addr}{zs:List Str}{Q:Value->Shared->Prop}(S:cH prog w s.heap a zs)
  (h:∀(I:Addr)(h':Heap)(d:Drawn)(fp:List Addr)(St:Nat->Shared->Prop)(os:List Value),(∀b o,s.heap.get? b=some o->h'.get? b=some o)->(∀b∈fp,s.heap.objs.size<=b\/b=a)->s.heap.objs.size<=I ->
   (∃ys:List Str,StrsAre os ys/\ys.Nodup/\∀x,x∈ys ↔ x∈zs)->(∀A':Around,A'.handled=none->WalksS prog w A' I fp [I] (λx y=>y=x) os.length (λi v=>os[i]?=some v) St)->(∀tk,St 0 { s with heap:=h',drawn:=d,toks:=tk })->Q (.ref I) { s with heap:=h',drawn:=d }) :
  wpAny (model prog w) A (pyIter (.ref a)) Q E s:=by
 obtain⟨es,ep,t,ho,em,hf,jX,cr,hsz,nd,hm⟩:=S;have hT:s.TypeIs (.ref a) "set":=⟨_,ho,rfl⟩;have S0:fJ s.heap a es ep t:=⟨ho,hf⟩;have la:a<s.heap.objs.size:=W4 ho;have i3:∀os:List Value,os.Perm (es.toList.map (·.2))->∃ys:List Str,StrsAre os ys/\ys.Nodup/\∀x,x∈ys ↔ x∈zs:=λos p=>by
  have all:∀v∈os,∃u,v=.str (eV v) u:=λv hv=>by
   obtain⟨e,he,rfl⟩:=List.mem_map.mp (p.mem_iff.mp hv);obtain⟨u,h1,_⟩:=yR em he;exact⟨u,h1⟩
  have are:∀l:List Value,(∀v∈l,∃u,v=.str (eV v) u)->StrsAre l (l.map eV):=by
   intro l
   induction l with
   |nil=>intro _;exact .nil
   |cons v l ih=>
    intro hv;obtain⟨u,e⟩:=hv v WZ;have:=ih λx hx=>hv x (WY _ hx);rw[W0];rw[e];exact .cons _ u this
  have pp:(os.map eV).Perm (b5 es.toList):=by
   have:=p.map eV;rw[X7]at this;exact this
  exact⟨os.map eV,are os all,pp.nodup_iff.mpr nd,λx=>(pp.mem_iff).trans (hm x)⟩
 refine wpAny_pyIter_slot hT F.slot_set_iter (Xp F.slot_set_iter hT H5 ?_ (F.args_set_iter_1 _));unfold Builtin.«frozenset.__iter__» Builtin.Frozenset.slot0;refine WO (WS ?_);unfold Builtin.Frozenset.sizeOf;refine WO (WO (su S0 (WS ?_)));unfold setDrawn;refine WO (WO (Ym S0.1 rfl S0.2 (WO (iZ (WS ?_)))));have y9:a≠s.heap.objs.size:=W7 la;cases bt:w.params.followText "set-order" with
 |true=>
  refine YJ (λz=>absurd z (by simp)) (λ_=>?_);refine WO (WS ?_);refine WO (wpAny_setEpoch_of S0.1 rfl S0.2 ?_);unfold newFields;refine WO (Xx (WS ⟨_,rfl,"set_iterator",_,⟨_,WX _ rfl,rfl⟩,hW.lookup,?_⟩) (by size_fits));have pp:=(sr (w.params.setOrder a ep) es).map (·.2);have ol:((pickOrder (w.params.setOrder a ep) es).toList.map (·.2)).length=es.size:=by rw[pp.length_eq];simp
  refine h s.heap.objs.size _ s.drawn [s.heap.objs.size,a] (λi s'=>s'.heap.get? s.heap.objs.size=some (er (.int 0 0) i a es.size ep)/\fJ s'.heap a es ep t) ((pickOrder (w.params.setOrder a ep) es).toList.map (·.2)) (λb o e=>WR _ e) (λb hb=>?_) (WU _) (i3 _ pp) (λA' hA=>by rw[ol];exact H8 y9 (t:=t) bt hA) (λtk=>⟨WX _ rfl,WR _ S0.1,S0.2⟩);simp at hb;rcases hb with rfl |rfl
  ·exact .inl (WU _)
  ·exact .inr rfl
 |false=>
  rw[bt]at jX;rcases Nat.lt_or_ge 1 es.size with h2 |h1
  ·have pl:t.plain=false:=by
    rcases cr with z |z
    ·exact z
    ·rw[z]at h2;simp at h2
   refine YJ (λ_=>?_) (λz=>absurd (show (!false && (!t.plain && decide (es.size > 1)))=true by rw[pl];simp;lia) z);refine WO (y5 es.size (Xu es.size) s _ (by simp) λps d hp=>?_);refine WO (wpAny_newTuple ?_ (by rw[WQ,hp.length_eq,X5];exact fits_of_scanBound (by show es.size<4096;lia)));have o1:∀{o:Obj}{b:Addr},s.heap.get? b=some o->(s.heap.push { cls:=.type "tuple",data:=.seq (ps.map λ(i:Nat)=>rawInt i).toArray }).get? b=some o:=λe=>WR _ e;refine WO (wpAny_setEpoch_of (o1 S0.1) rfl S0.2 ?_);unfold newFields;refine WO (Xx (WS ⟨_,rfl,"set_iterator",_,⟨_,WX _ rfl,rfl⟩,hW.lookup,?_⟩) (by size_fits));have hl:ps.length=es.size:=(by rw[hp.length_eq,X5]);have pp:(ps.map λj=>(es.getD j (0,.none)).2).Perm (es.toList.map (·.2)):=by
    refine (hp.map _).trans ?_;have e:(Xu es.size).map (λj=>(es.getD j (0,.none)).2)=es.toList.map (·.2):=by
     refine List.ext_getElem? λi=>?_;rw[W8,W8];by_cases hi:i<es.size
     ·have SF:(Xu es.size)[i]?=some i:=(by simp [hi]);have SE:es.toList[i]?=some es[i]:=(by simp [hi]);rw[SF,SE];simp [YC,XM hi]
     ·have SF:(Xu es.size)[i]?=none:=(by simp;lia);have SE:es.toList[i]?=none:=(by simp;lia);rw[SF,SE];rfl
    rw[e]
   have eX:(s.heap.push { cls:=.type "tuple",data:=.seq (ps.map λ(i:Nat)=>rawInt i).toArray }).objs.size=s.heap.objs.size+1:=Xq _ _;have n1:a≠(s.heap.push { cls:=.type "tuple",data:=.seq (ps.map λ(i:Nat)=>rawInt i).toArray }).objs.size:=(by rw[eX];exact W7 (Yg la));have n2:s.heap.objs.size≠(s.heap.push { cls:=.type "tuple",data:=.seq (ps.map λ(i:Nat)=>rawInt i).toArray }).objs.size:=(by rw[eX];exact W7 (Yq _));refine h (s.heap.push { cls:=.type "tuple",data:=.seq (ps.map λ(i:Nat)=>rawInt i).toArray }).objs.size _ d [(s.heap.push { cls:=.type "tuple",data:=.seq (ps.map λ(i:Nat)=>rawInt i).toArray }).objs.size,a,s.heap.objs.size]
    (λi s'=>s'.heap.get? (s.heap.push { cls:=.type "tuple",data:=.seq (ps.map λ(i:Nat)=>rawInt i).toArray }).objs.size=some (er (.ref s.heap.objs.size) i a es.size ep)/\fJ s'.heap a es ep t/\s'.heap.get? s.heap.objs.size=some { cls:=.type "tuple",data:=.seq (ps.map λi=>rawInt (i:Nat)).toArray 0 })
    (ps.map λj=>(es.getD j (0,.none)).2) (λb o e=>WR _ (o1 e)) (λb hb=>?_) (by rw[eX];exact YR _) (i3 _ pp) (λA' hA=>by rw[WQ,hl];exact H' (m:=0) n1 n2 (t:=t) (ep:=ep) hp hA) (λtk=>⟨WX _ rfl,⟨WR _ (o1 S0.1),S0.2⟩,WR _ (WX _ rfl)⟩)
   simp only[Xk,Xd,or_false]at hb;rcases hb with rfl |rfl |rfl
   ·exact .inl (by rw[eX];exact YR _)
   ·exact .inr rfl
   ·exact .inl (WU _)
  ·refine YJ (λz=>absurd (show (!false && (!t.plain && decide (es.size > 1)))=true from z) (by simp;lia)) (λ_=>?_);refine WO (WS ?_);refine WO (wpAny_setEpoch_of S0.1 rfl S0.2 ?_);unfold newFields;refine WO (Xx (WS ⟨_,rfl,"set_iterator",_,⟨_,WX _ rfl,rfl⟩,hW.lookup,?_⟩) (by size_fits));have ol:(es.toList.map (·.2)).length=es.size:=(by simp);refine h s.heap.objs.size _ s.drawn [s.heap.objs.size,a] (λi s'=>s'.heap.get? s.heap.objs.size=some (er (.int (if i=0 then 0 else t.place.getD 0 0+1:Nat) 0) i a es.size ep)/\fJ s'.heap a es ep t) (es.toList.map (·.2)) (λb o e=>WR _ e) (λb hb=>?_) (WU _) (i3 _ (.refl _)) (λA' hA=>by rw[ol];exact H9 y9 (t:=t) bt (by simpa using jX) h1 hA) (λtk=>⟨WX _ rfl,WR _ S0.1,S0.2⟩)
   simp at hb;rcases hb with rfl |rfl
   ·exact .inl (WU _)
   ·exact .inr rfl
theorem Ic{r:Addr}{Q:Bool->Shared->Prop}(hT:s.TypeIs (.ref r) "set")(h:Q false s):wpAny (model prog w) A (Builtin.List.listLengthHint (.ref r)) Q E s:=by
 unfold Builtin.List.listLengthHint;refine WO (wpAny_specialOf hT PySem.F.slot_set_len.lookup ?_);generalize y':("set.__len__" : String)=Ie
 wp_delta
 rw[show splitId Ie=some ("set","__len__") from by subst y';decide +kernel];subst y';refine WO (YS (T:="set") (b:=true) hT (by rw[Y6];kernel_rfl) ?_);refine YJ (λz=>absurd z (by decide)) (λ_=>YJ (λ_=>WO (wpAny_typeOf hT (WS h))) (λz=>absurd (by decide +kernel) z))
theorem Ig{a : Addr}{zs : List Str}{R : List Value -> Shared -> Prop}(hh : A.handled = none)(S : cH prog w s.heap a zs)(hz : zs.length < 3900)
    (h:∀(h':Heap)(tk:Nat)(d:Drawn)(os:List Value)(ys:List Str),(∀b o,s.heap.get? b=some o->h'.get? b=some o)->StrsAre os ys->ys.Nodup->(∀x,x∈ys ↔ x∈zs)->R os { s with heap:=h',toks:=tk,drawn:=d }) :
    wpAny (model prog w) A (collect (.ref a)) R E s:=by
  have la:a<s.heap.objs.size:=let ⟨_,_,_,ho,_⟩:=S;W4 ho
  unfold collect;refine WO (wpAny_runValue (Yl entry_proto_collect' ?_));rw[XO PySem.F.plain_proto_collect _];show wpAny _ A.in1 (newList [] >>= λu=>again (.builtin "list.__iadd__" ⟨[u,.ref a],[]⟩)) _ _ s;refine WO (Xx (WS ⟨Yr PySem.F.plain_list_iadd _,Yl entry_list_iadd' ?_⟩));rw[XO PySem.F.plain_list_iadd _];have hL:(s.heap.push { cls:=.type "list",data:=.seq ([]:List Value).toArray }).get? s.heap.objs.size=some { cls:=.type "list",data:=.seq #[] }:=WX _ rfl;have S1:cH prog w (s.heap.push { cls:=.type "list",data:=.seq ([]:List Value).toArray }) a zs:=S.at λo e=>WR _ e;have hT:Shared.TypeIs { s with heap:=s.heap.push { cls:=.type "list",data:=.seq ([]:List Value).toArray } } (.ref a) "set":=let ⟨_,_,_,ho,_⟩:=S1;⟨_,ho,rfl⟩
  have eX:(s.heap.push { cls:=.type "list",data:=.seq ([]:List Value).toArray }).objs.size=s.heap.objs.size+1:=Xq _ _;have k0:∀b o,s.heap.get? b=some o->(s.heap.push { cls:=.type "list",data:=.seq ([]:List Value).toArray }).get? b=some o:=λb o e=>WR _ e;show wpAny _ A.in1 (Builtin.List.listExtendWith (.ref s.heap.objs.size) (.ref a) (.ref s.heap.objs.size)) _ _ _;generalize s.heap.push { cls:=.type "list",data:=.seq ([]:List Value).toArray }=g1 at hL S1 hT eX k0 ⊢;have za:s.heap.objs.size≠a:=XR la;unfold Builtin.List.listExtendWith;refine WO (wpAny_typeOf (T:="set") hT ?_);have e1:Builtin.List.listSameRef (.ref s.heap.objs.size) (.ref a)=false:=by simp [Builtin.List.listSameRef,za]
  simp only[e1,show (Yy "set" == Yy "list")=false by decide,show (Yy "set" == Yy "tuple")=false by decide,Bool.or_false,Bool.false_eq_true,if_false];refine WO (Ib S1 λI h2 d fp St os k2 Ih hI are W st=>?_);obtain⟨ys,sa,nd,dS⟩:=are;have sx:=k2 _ _ hL;have nf:s.heap.objs.size ∉ fp:=λz=>by
    rcases Ih _ z with q |q
    · rw[eX]at q;lia
    · exact za q
  have UP:s.heap.objs.size≠I:=by rw[eX]at hI;lia
  have lM:Shared.TypeIs { s with heap:=h2,drawn:=d } (.ref a) "set":=let ⟨_,_,_,ho,_⟩:=S1;⟨_,k2 _ _ ho,rfl⟩
  refine WO (XN (Ic lM ?_));have lo:os.length=ys.length:=sa.length;have fit:os.length<=sizeLine:=by
    have:=List.Nodup.length_le_of_subset nd λy hy=>(dS y).mp hy;exact W2 (show os.length<=4000 by lia) (by decide)
  have key : ∀(g : Heap)(c tk : Nat), St 0 { s with heap := g, drawn := d, toks := tk } -> (∀ b o, b ≠ s.heap.objs.size -> h2.get? b = some o -> g.get? b = some o) -> g.get? s.heap.objs.size = some { cls := .type "list", data := .seq #[] c } ->
      codeAny (model prog w) A (.builtin "list.extend.loop" ⟨[.ref s.heap.objs.size,.ref I,.ref s.heap.objs.size],[]⟩) (λr s'=>∃(h':Heap)(tk:Nat)(acc:Array Value)(c':Nat),r=.ok (.ret (.ref s.heap.objs.size))/\s'={ s with heap:=h',toks:=tk,drawn:=d }/\(∀ b o,s.heap.get? b=some o->h'.get? b=some o) /\
        h'.get? s.heap.objs.size=some { cls:=.type "list",dict:=none,data:=.seq acc c',slots:=#[] }/\ItemsOf (λi v=>os[i]?=some v) acc os.length) { s with heap:=g,drawn:=d,toks:=tk }:=by
    intro g c tk a2 VA hg;refine codeAny_extend_loopS (W A.in1 (by simpa using hh)) fit s.heap.objs.size nf (.ref s.heap.objs.size) os.length 0 _ #[] c rfl (W9 _) a2 hg (ItemsOf.nil _) λs' acc c' m hS' iX=>?_;obtain⟨hx,Tc,dx,tx,VB⟩:=s';have Ta:Tc=s.gens:=m.gens;have ed:dx=d:=m.drawn;have Ti:VB=s.os:=m.os;subst Ta;subst ed;subst Ti;refine⟨hx,tx,acc,c',rfl,rfl,λb o e=>?_,hS',iX⟩;have lb:=W4 e;refine m.heap b o ?_ (VA b o (W7 lb) (k2 b o (k0 b o e)));simp only[Xk,Xd,or_false,not_or];exact⟨W7 lb,W7 (Xz lb (by rw[eX]at hI;exact hI))⟩
  have fin : ∀(r : Result)(s' : Shared), (∃(h' : Heap)(tk : Nat)(acc : Array Value)(c' : Nat), r = .ok (.ret (.ref s.heap.objs.size)) ∧ s' = { s with heap := h', toks := tk, drawn := d } ∧ (∀ b o, s.heap.get? b = some o → h'.get? b = some o) ∧
        h'.get? s.heap.objs.size=some { cls:=.type "list",dict:=none,data:=.seq acc c',slots:=#[] }/\ItemsOf (λi v=>os[i]?=some v) acc os.length)->∃(h':Heap)(tk c':Nat),r=.ok (.ret (.ref s.heap.objs.size))/\s'={ s with heap:=h',toks:=tk,drawn:=d }/\h'.get? s.heap.objs.size=some { cls:=.type "list",dict:=none,data:=.seq os.toArray c',slots:=#[] }/\R os { s with heap:=h',toks:=tk,drawn:=d }:=by
    rintro r s' ⟨h',tk,acc,c',rfl,rfl,k,hS',iX⟩;have e:acc=os.toArray:=by
      refine Array.ext (by rw[WV];exact iX.1) λi h1 h2=>?_;have:=iX.2 i acc[i] (XM h1);rw[WV]at h2;rw[WW h2]at this;injection this with this;rw[<- this];simp
    subst e;exact⟨h',tk,c',rfl,rfl,hS',h h' tk d os ys k sa nd dS⟩
  refine YJ (λ_=>?Ii) (λ_=>WS ⟨Yr PySem.F.plain_extend_loop _,YG (key h2 0 s.toks (st _) (λb o _ e=>e) sx) λr s' y=>?last⟩)
  case last=>
    obtain⟨h',tk,c',rfl,rfl,hS',q⟩:=fin r s' y;show wpAny _ A (load s.heap.objs.size >>= _) _ _ _;exact WO (wpAny_load hS' (WS q))
  case Ii=>
    refine WO (wpAny_rule (WO ?_));show wpAny _ _ (updateSeq s.heap.objs.size (·.push .none) >>= λ_=>updateSeq s.heap.objs.size (·.pop)) _ _ _;refine WO (wpAny_updateSeq sx rfl ?_);have u2:=Xr (Xs (·.push XZ)) sx rfl;refine wpAny_updateSeq (hz:=by seq_fits) u2 rfl ?_;have u3:=Xr (Xs (·.pop)) u2 rfl;have zb:∀b o,b≠s.heap.objs.size->h2.get? b=some o->((h2.update s.heap.objs.size (Xs (·.push XZ))).update s.heap.objs.size (Xs (·.pop))).get? b=some o:=λb o hb e=>(Y3 _ _ (XC hb)).trans ((Y3 _ _ (XC hb)).trans e);refine WS ⟨Yr PySem.F.plain_extend_loop _,YG (key _ _ s.toks ((W A hh).frame 0 _ _ _ (st s.toks) (WU _) λb hb o e=>zb b o (λz=>nf (z ▸ hb)) e) zb u3) λr s' y=>?_⟩;obtain⟨h',tk,c',rfl,rfl,hS',q⟩:=fin r s' y;show wpAny _ A (load s.heap.objs.size >>= _) _ _ _;exact WO (wpAny_load hS' (WS q))
end
end L2
end
section
set_option maxHeartbeats 1000000
namespace N
open PySem PySem.Spec PyProof.Rows L2
def zc(ta:DE):DE:=fun τ M q=>ta τ M λx M1=>bg x M1 λds=>∃zs N:List Str,ds=zs.map D.str/\N.length<64/\(∀x∈zs,x∈N)/\∀ys:List Str,ys.Nodup->(∀x,x∈ys ↔ x∈zs)->sortedS ys=true->bS (ys.map D.str) M1 q
section
variable{X:Cx}{τ:St}{z:Z}
theorem ab.Ij(I:ab X τ z)(d:Drawn):ab X τ ⟨z.F,z.M,{ z.s with drawn:=d }⟩:=⟨I.ok,I.bs,I.os,I.bare,I.bY,I.loc,I.cell,I.free,I.hok,I.len⟩
theorem zd{G:Gx}{F:Fz}:∀{ys:List Str}{us:List Value},ae G F (ys.map D.str) us->StrsAre us ys
 |[],us,r=>by rw[XT,ae]at r;subst r;exact .nil
 |y::ys,us,r=>by rw[W0,ae]at r;obtain⟨u,us,rfl,h,r⟩:=r;rw[aa]at h;obtain⟨t,rfl⟩:=h;exact .cons _ _ (zd r)
theorem Ik{a:Addr}{zs:List Str}{Q:QK}{R:Value->Shared->Prop}{F:Fz}(hc:X.calm=true)(I:ab X τ z)(S:cH X.G.P X.G.w z.s.heap a zs)(hR:zs.length<64)(k:KE X τ F Q R)(l:Le F z.F)
  (q:∀ys:List Str,ys.Nodup->(∀x,x∈ys ↔ x∈zs)->sortedS ys=true->bS (ys.map D.str) z.M Q):W X (call (.builtin "sorted") [.ref a]) R z.s:=by
 refine Calls.call_function_entry kind_sorted plain_sorted entry_sorted (args_sorted1 _) ?_;unfold Builtin.«sorted»;refine WO (m:=checkCount "sorted" 1 1 _) (WS ?_);refine WO (Ig (A:=X.A.in1) (I.ok.hd hc) S (by lia) λh' tk d os ss keep hS nd dS=>?_);have hl:os.length=ss.length:=hS.length;have le:ss.length<=zs.length:=List.Nodup.length_le_of_subset nd λy hy=>(dS y).mp hy;have fit:os.length<=sizeLine:=W2 (show os.length<=64 by lia) (by decide);refine WO (wpAny_newList ?_ fit);have eU:(h'.push { cls:=.type "list",data:=.seq os.toArray }).get? h'.objs.size=some (seqObj "list" os.toArray 0):=WX _ rfl;refine WO (XN (Xp slot_list_sort ⟨_,eU,rfl⟩ entry_list_sort (list_sort_treeK strKind_oneLt eU hS.keysOf (λv₁ v₂ rest e=>keyKind_strs (by rw[<- e];exact hS)) (by lia) λa2 SF SE=>⟨_,rfl,?_⟩) (args_list_sort _)));obtain⟨ys,b1,b2,SO⟩:=sorted_out_str hS SF SE;refine WS ⟨_,rfl,?_⟩;have J:ab X τ ⟨z.F,z.M,{ z.s with heap:=h',toks:=tk,drawn:=d }⟩:=(I.kept (t:=tk) keep).Ij d;obtain⟨e,sf⟩:=sortedHeap_at (out:=(arrOf a2).map (·.2)) eU;have rs:=jV (G:=X.G) (F:=z.F) b1;refine J.lst (n:=e) (t:=tk) k l rs (λb o hb=>?_) (WU _) ?_ (by rw[<- rs.len,WQ,b2.length_eq,<- hl];exact fit) (q ys (b2.nodup_iff.mpr nd) (λx=>b2.mem_iff.trans (dS x)) SO)
 ·have ap:b<h'.objs.size:=W4 hb;rw[sortedHeap_old (W7 ap) (by rw[Xq];exact Yg ap)];exact WR _ hb
 ·rw[sf];rfl
theorem Il{e:Expr}{te:DE}{p1 p2 hY dB:Pos}(hc:X.calm=true)(sA:Gl X "sorted")(fH:X.G.mg "sorted"=none)(sB:Gl X "set")(lN:X.G.mg "set"=none)(he:PE X e te)(hs:bU e=true):
  PE X (.Call (.Name "sorted" p1) [.Call (.Name "set" p2) [e] [] dB] [] hY) (zc te):=fun τ z Q R I h k=>by
 refine XU (dO I sA fH (by decide +kernel:bootBuiltins "sorted"=some (.builtin "sorted")) (by decide) (by decide) ?_);refine PyProof.Rows.callWith_builtin1 ?_ (bJ rfl) rfl;rw[bJ (e:=.Call (.Name "set" p2) [e] [] dB) rfl];show W X (spliced ((false,eval (.Call (.Name "set" p2) [e] [] dB) X.env)::backTo hY (starEach [] X.env))) _ z.s;refine Yn ?_;refine XU (dO I sB lN (by decide +kernel:bootBuiltins "set"=some (.type "set")) (by decide) (by decide) ?_);refine XF ?_ (bJ hs) rfl;refine ny he nv (bJ hs) dB τ z (λds M=>n1 (λd M Q=>bg d M λes=>∃zs N:List Str,es=zs.map D.str/\N.length<64/\(∀x∈zs,x∈N)/\∀ys:List Str,ys.Nodup->(∀x,x∈ys ↔ x∈zs)->sortedS ys=true->bS (ys.map D.str) M Q) ds M Q) _ I h λds z1 us l1 I1 r1 q1=>?_;unfold n1 at q1;dsimp only at q1;split at q1
 case h_2=>exact q1.elim
 obtain⟨u,rfl,ru⟩:=eh r1;obtain⟨a,ds,its,n,rfl,l,zs,N,rfl,hR,hb,q⟩:=I1.bg ru q1;have are:StrsAre its zs:=zd l.r;refine H0 (A:=X.A) (its:=its.toArray) (N:=N) (I1.ok.hd hc) ⟨_,l.e,rfl,n,rfl⟩ (by simpa using are) (by lia) hb λh' tk S keep=>?_;refine YU ?_;exact Ik hc (I1.kept (t:=tk) keep) (S.dS (n9 hb)) (W6 (Yd _ _) hR) k l1 λys h1 h2 h3=>q ys h1 (λx=>(h2 x).trans (n9 hb x).symm) h3
end
end N
end
section
namespace L2
open PySem PySem.Spec PyProof.Rows PySem.W
section
variable{prog:Program}{w:World}{A:Around}{E:Value->Shared->Prop}{s:Shared}
theorem Im{M:Model}{a:Addr}{o:Obj}{Q:Option Obj->Shared->Prop}(ho:s.heap.get? a=some o)(h:Q (some o) s):wpAny M A (Sem.loadIfAlive a Sem.pure) Q E s:=fun Γ p x=>by
 rw[Sem.wp_loadIfAlive,ho];exact h
def sC(h:Heap)(e it a:Addr)(b:Bool)(i:Nat):Prop:=∃f5,h.get? e=some { cls:=.type "enumerate",data:=.fields #[rawInt (a:Int),.bool b,.ref it,rawInt (i:Int),.none,f5] }
theorem Io{e it l a:Addr}{b:Bool}{i:Nat}{items:Array Value}{x:Value}{oa:Obj}{Q:Option Value->Shared->Prop}(he:sC s.heap e it a b i)(ha:s.heap.get? a=some oa)
  (hit:s.heap.IsTupleIter it l i) (hl:s.heap.IsTuple l items) (hx:items[i]?=some x) (ne:e≠it) (nl:l≠e) (hZ:l≠it) (na:a≠e) (Ir:a≠it)
  (q:∀h' tk,sC h' e it a true (i+1)->h'.IsTupleIter it l (i+1)->h'.get? s.heap.objs.size=some { cls:=.type "tuple",data:=.seq #[.int i tk,x] }->h'.objs.size=s.heap.objs.size+1 ->
   (∀c o,c≠e->c≠it->s.heap.get? c=some o->h'.get? c=some o)->Q (some (.ref s.heap.objs.size)) { s with heap:=h',toks:=tk+1 }):wpAny (model prog w) A (pyNext (.ref e)) Q E s:=by
 obtain⟨f5,he⟩:=he;have hT:s.TypeIs (.ref e) "enumerate":=⟨_,he,rfl⟩;unfold pyNext;refine WO (YT (Xm (name:=Yp "__next__") hT F.slot_enumerate_next
  (Xp F.slot_enumerate_next hT F.entry_enumerate_next ?_ (F.args_enumerate_next_1 _))))
 show wpAny _ _ (field (.ref e) 2 >>= _) _ _ _;refine WO (XH he rfl (x:=.ref it) rfl ?_);refine WO (qk hit hl hx λh1 It og=>?_);have sD:h1.get? e=_:=og.extBut _ _ ne he;obtain⟨Ui,oh,sE⟩:=id It;obtain⟨hp,g,d,tk,os⟩:=s;have Iu:h1.get? a=some oa:=og.extBut _ _ Ir ha;have z1:h1.objs.size=hp.objs.size:=og.1
 wp_walk using Xv sD
 have zz:((h1.update e (Yz λx=>x.setIfInBounds 3 (rawInt ((i:Int)+1)))).update e (Yz λx=>x.setIfInBounds 4 XZ)).objs.size=hp.objs.size:=by rw[YZ,YZ,z1]
 have b1:∀c o,c≠e->h1.get? c=some o->((h1.update e (Yz λx=>x.setIfInBounds 3 (rawInt ((i:Int)+1)))).update e (Yz λx=>x.setIfInBounds 4 XZ)).get? c=some o:=λc o n q=>
  (Xo ..).extBut c o n ((Xo ..).extBut c o n q)
 have e3:((h1.update e (Yz λx=>x.setIfInBounds 3 (rawInt ((i:Int)+1)))).update e (Yz λx=>x.setIfInBounds 4 XZ)).get? e=some { cls:=.type "enumerate",data:=.fields #[rawInt (a:Int),.bool b,.ref it,rawInt ((i:Int)+1),.none,f5] }:=
  Xr (Yz λx=>x.setIfInBounds 4 XZ) (Xr (Yz λx=>x.setIfInBounds 3 (rawInt ((i:Int)+1))) sD rfl) rfl
 generalize ((h1.update e (Yz λx=>x.setIfInBounds 3 (rawInt ((i:Int)+1)))).update e (Yz λx=>x.setIfInBounds 4 XZ))=h2 at *;have tp:=WX h2 (o:={ cls:=.type "tuple",data:=.seq #[.int (i:Int) tk,x] }) rfl;have kp:∀c o,h2.get? c=some o->(h2.push { cls:=.type "tuple",data:=.seq #[.int (i:Int) tk,x] }).get? c=some o:=λc o q=>WR _ q;have sz:(h2.push { cls:=.type "tuple",data:=.seq #[.int (i:Int) tk,x] }).objs.size=hp.objs.size+1:=by rw[Xq,zz]
 rw[zz]at tp;refine Im (o:=oa) (kp _ _ (b1 _ _ na Iu)) ?_;have e4:=kp _ _ e3;have k2:∀c o,c≠e->c≠it->hp.get? c=some o->(h2.push { cls:=.type "tuple",data:=.seq #[.int (i:Int) tk,x] }).get? c=some o:=λc o n n' q=>kp _ _ (b1 c o n (og.extBut c o n' q));have ze:=kp _ _ (b1 it _ ne.symm oh);dsimp only;generalize (h2.push { cls:=.type "tuple",data:=.seq #[.int (i:Int) tk,x] })=h3 at *;rw[zz];cases b with
 |true=>
  refine WO (XH e4 rfl (x:=.bool true) rfl (WS (WS ⟨_,rfl,WS (q h3 tk ⟨f5,e4⟩ ⟨_,ze,sE⟩ tp sz k2)⟩)))
 |false=>
  refine WO (XH e4 rfl (x:=.bool false) rfl ?_);have n:e≠hp.objs.size:=W7 (W4 he);refine WO (wpAny_setField e4 rfl (by show 1<6;decide) (WS (WS ⟨_,rfl,WS (q _ tk ⟨f5,Xr _ e4 rfl⟩ ⟨Ui,(Xo ..).extBut _ _ ne.symm ze,sE⟩ ((Xo ..).extBut _ _ n.symm tp) (by rw[YZ];exact sz) λc o n1 n2 z=>(Xo ..).extBut _ _ n1 (k2 c o n1 n2 z))⟩)))
theorem Iv{e it l:Addr}{i:Nat}{items:Array Value}{f0 f1 f5:Value}{Q:Option Value->Shared->Prop}(hh:A.handled=none)
  (he:s.heap.get? e=some { cls:=.type "enumerate",data:=.fields #[f0,f1,.ref it,rawInt (i:Int),.none,f5] }) (hit:s.heap.IsTupleIter it l i) (hl:s.heap.IsTuple l items) (hx:items[i]?=none)
  (hQ:∀h',YX it s.heap h'->Q none { s with heap:=h' }):wpAny (model prog w) A (pyNext (.ref e)) Q E s:=by
 have hT:s.TypeIs (.ref e) "enumerate":=⟨_,he,rfl⟩;unfold pyNext;refine WO (YT (Xm (name:=Yp "__next__") hT F.slot_enumerate_next
  (Xp F.slot_enumerate_next hT F.entry_enumerate_next ?_ (F.args_enumerate_next_1 _))))
 show wpAny _ _ (field (.ref e) 2 >>= _) _ _ _;refine WO (XH he rfl (x:=.ref it) rfl ?_);refine WO (ng hh hit hl hx λh' x io c7=>?_);obtain⟨o,ho,hc⟩:=c7;refine WO (YS (T:="StopIteration") (b:=true) ⟨o,ho,hc⟩ isSubtype_stop ?_);exact WS (hQ _ io)
def sF(h:Heap)(e it:Addr)(i:Nat)(as:List Addr):Prop:=(as=[]/\∃old,IsEnum h e it (i:Int) old)\/∃a r b,as=a::r/\sC h e it a b i
def oi(h:Heap)(items:Array Value)(as:List Addr):Prop:=∀(j:Nat)(b:Addr),as[j]?=some b->∃tk x,items[j]?=some x/\h.get? b=some { cls:=.type "tuple",data:=.seq #[.int (j:Int) tk,x] }
theorem Iw{e it l:Addr}{i:Nat}{items:Array Value}{x:Value}{as:List Addr}{Q:Option Value->Shared->Prop}(hh:A.handled=none)(he:sF s.heap e it i as)(hA:oi s.heap items as)
  (hit:s.heap.IsTupleIter it l i) (hl:s.heap.IsTuple l items) (hx:items[i]?=some x) (ne:e≠it) (nl:l≠e) (hZ:l≠it) (na:∀a∈as,a≠e/\a≠it)
  (q:∀h' tk,sF h' e it (i+1) (as++[s.heap.objs.size])->h'.IsTupleIter it l (i+1)->h'.get? s.heap.objs.size=some { cls:=.type "tuple",data:=.seq #[.int i tk,x] }->h'.objs.size=s.heap.objs.size+1 ->
   (∀c o,c≠e->c≠it->s.heap.get? c=some o->h'.get? c=some o)->Q (some (.ref s.heap.objs.size)) { s with heap:=h',toks:=tk+1 }):wpAny (model prog w) A (pyNext (.ref e)) Q E s:=by
 rcases he with ⟨rfl,old,he⟩ |⟨a,r,b,rfl,he⟩
 ·refine wpAny_pyNext_enum_itemD (Draws.tuple (A:=A.in1) hh it l hZ items) he ⟨hit,hl⟩ (Array.getElem?_eq_some_iff.mp hx).1 ne (by simp only[Xk,Xd,or_false,not_or];exact⟨ne,nl.symm⟩) λu h' tk hP Z' J T n k=>?_;have hP:items[i]?=some u:=hP;rw[hx]at hP;cases hP;exact q h' tk (.inr ⟨_,[],false,rfl,x,by have Z2:=Z';unfold IsEnumOut at Z2;rw[Int.natCast_add];exact Z2⟩) J.1 T n k
 ·obtain⟨tk,y,_,ha⟩:=hA 0 a rfl;obtain⟨n1,n2⟩:=na a (by simp);exact Io he ha hit hl hx ne nl hZ n1 n2 λh' tk z1 z2 z3 z4 z5=>q h' tk (.inr ⟨a,r++[_],true,rfl,z1⟩) z2 z3 z4 z5
theorem Iy{R:Result->Shared->Prop}(hh:A.handled=none){e it l S:Addr}{items:Array Value}(hz:items.size<sizeLine)(ne:e≠it)(nl:l≠e)(hZ:l≠it)(ns:S≠e)(sG:S≠it)(Ix:l≠S)(res:Value)(n0:Nat)(le:e<n0)(li:it<n0)(TV:S<n0):
  ∀(k i:Nat)(s:Shared)(as:List Addr)(c:Nat),items.size-i=k->i<=items.size->sF s.heap e it i as->s.heap.IsTupleIter it l i->s.heap.IsTuple l items->s.heap.get? S=some { cls:=.type "list",data:=.seq (as.map XI).toArray c }->oi s.heap items as->as.length=i ->
   n0<=s.heap.objs.size->(∀a∈as,n0<=a)->as.Pairwise (· < ·) ->
   (∀h' tk i4 c',(∀b o,b≠e->b≠it->b≠S->s.heap.get? b=some o->h'.get? b=some o)->h'.get? S=some { cls:=.type "list",data:=.seq (i4.map XI).toArray c' }->oi h' items i4->i4.length=items.size->(∀a∈i4,n0<=a)->i4.Pairwise (· < ·) ->
    R (.ok (.ret res)) { s with heap:=h',toks:=tk })->codeAny (model prog w) A (.builtin "list.extend.loop" ⟨[.ref S,.ref e,res],[]⟩) R s:=by
 intro k
 induction k with
 |zero=>
  intro i s as c hk hi he hit hl hS hA la hn h0 pw q;have cu:i=items.size:=by lia
  subst cu;refine Yl F.entry_extend_loop ?_;rw[XO F.plain_extend_loop];unfold Builtin.«list.extend.loop»;have fin:∀h',YX it s.heap h'->R (.ok (.ret res)) { s with heap:=h' }:=λh' eb=>q h' s.toks as c (λb o _ n2 _ z=>eb b o n2 z) (eb _ _ sG hS) (λj b z=>by
   obtain⟨tk,x,z1,z2⟩:=hA j b z;exact⟨tk,x,z1,eb _ _ (XR (Xj li (h0 b (Xw z)))) z2⟩) la h0 pw
  have nx:items[items.size]?=none:=by simp
  rcases he with ⟨_,old,he⟩ |⟨a,r,b,_,f5,he⟩
  ·exact WO (vV hh he hit hl nx λh' eb=>WS (fin h' eb))
  ·exact WO (Iv hh he hit hl nx λh' eb=>WS (fin h' eb))
 |succ k ih=>
  intro i s as c hk hi he hit hl hS hA la hn h0 pw q;have ap:i<items.size:=by lia
  obtain⟨x,hx⟩:∃x,items[i]?=some x:=⟨items[i],by simp [ap]⟩;refine Yl F.entry_extend_loop ?_;rw[XO F.plain_extend_loop];unfold Builtin.«list.extend.loop»;refine WO (Iw hh he hA hit hl hx ne nl hZ (λa ha=>⟨XR (Xj le (h0 a ha)),XR (Xj li (h0 a ha))⟩) λh' tk io qm T' n' kp=>?_);have hS':=kp S _ ns sG hS;refine (show wpAny _ _ (updateSeq S (λy=>y.push (.ref s.heap.objs.size)) >>= _) _ _ _ from WO (wpAny_updateSeq hS' rfl ?_ (by rw[WV,WQ,la];lia) (by rw[Array.size_push,WV,WQ,la];lia)));have Iz:S<s.heap.objs.size:=W4 hS;have sb:=Xo h' S (Xs λy=>y.push (.ref s.heap.objs.size));have IA:=Xr (Xs λy=>y.push (.ref s.heap.objs.size)) hS' rfl;obtain⟨c',IB⟩:∃c',(h'.update S (Xs λy=>y.push (.ref s.heap.objs.size))).get? S=some { cls:=.type "list",data:=.seq ((as++[s.heap.objs.size]).map XI).toArray c' }:=by
   have VC:((as++[s.heap.objs.size]).map XI).toArray=((as.map XI).toArray).push (.ref s.heap.objs.size):=(by simp);rw[VC];exact⟨_,IA⟩
  have r6:∀a∈as,a<s.heap.objs.size:=λa ha=>by
   obtain⟨j,hj⟩:=List.getElem?_of_mem ha;obtain⟨_,_,_,z⟩:=hA j a hj;exact W4 z
  refine WS ⟨Yr F.plain_extend_loop _,ih (i+1) _ (as++[s.heap.objs.size]) c' (by lia) ap ?_ ?_ ?_ IB ?_ (by simp [la]) ?_ ?_ ?_ ?_⟩
  ·rcases io with ⟨z,_⟩ |⟨a,r,b,z,f5,z'⟩
   ·simp at z
   ·exact .inr ⟨a,r,b,z,f5,sb.extBut _ _ ns.symm z'⟩
  ·exact qm.at λo z=>sb.extBut _ _ sG.symm z
  ·exact hl.at λo z=>sb.extBut _ _ Ix (kp _ _ nl hZ z)
  ·intro j b hj;by_cases hb:j<as.length
   ·rw[XG hb]at hj;obtain⟨tk,y,z1,z2⟩:=hA j b hj;have:=h0 b (Xw hj);exact⟨tk,y,z1,sb.extBut _ _ (XR (Xj TV this)) (kp _ _ (XR (Xj le this)) (XR (Xj li this)) z2)⟩
   ·rw[XD (by lia)]at hj;have IC:j-as.length=0:=by
     rcases Nat.eq_zero_or_pos (j-as.length) with z |z
     ·exact z
     ·rw[Y7 (by simp;lia)]at hj;cases hj
    rw[IC]at hj;cases hj;have:j=i:=(by lia);subst this;exact⟨tk,x,hx,sb.extBut _ _ (XR Iz) T'⟩
  ·show n0<=(h'.update S _).objs.size;rw[YZ,n'];lia
  ·intro a ha;rcases List.mem_append.mp ha with z |z
   ·exact h0 a z
   ·rw[List.mem_singleton.mp z];exact hn
  ·rw[List.pairwise_append];exact⟨pw,List.pairwise_singleton _ _,λa ha b hb=>by rw[List.mem_singleton.mp hb];exact r6 a ha⟩
  ·intro eP ID IE IF kk z2 z3 z4 z5 z6;exact q eP ID IE IF (λb o n1 n2 n3 z=>kk b o n1 n2 n3 (sb.extBut _ _ n3 (kp b o n1 n2 z))) z2 z3 z4 z5 z6
theorem IG:typeLookup (.type "enumerate") "__len__"=pure none:=by rw[Yx,XX];kernel_rfl
theorem IH:typeLookup (.type "enumerate") "__length_hint__"=pure none:=by rw[Yx,XX];kernel_rfl
theorem II{Q:Value->Shared->Prop}(hh:A.handled=none){e it l:Addr}{items:Array Value}{old:Value}(hz:items.size<sizeLine)(he:IsEnum s.heap e it 0 old)(hit:s.heap.IsTupleIter it l 0)(hl:s.heap.IsTuple l items)(ne:e≠it)(nl:l≠e)(hZ:l≠it)
  (q:∀h' tk as c,(∀b o,b≠e->b≠it->s.heap.get? b=some o->h'.get? b=some o)->h'.get? s.heap.objs.size=some { cls:=.type "list",data:=.seq (as.map XI).toArray c }->oi h' items as->as.length=items.size->(∀a∈as,s.heap.objs.size<a)->as.Pairwise (· < ·) ->
   Q (.ref s.heap.objs.size) { s with heap:=h',toks:=tk }):wpAny (model prog w) A (call (.type "list") [.ref e]) Q E s:=by
 have le:=W4 he;obtain⟨Ui,oh,sE⟩:=id hit;obtain⟨ol,lL,hl2⟩:=id hl;have li:=W4 oh;have ll:=W4 lL;refine callType_codes F.called_list (F.typeCall_list_1 _) F.entry_list_init (code_list_new (Q₁:=λv s1=>v=.ref s.heap.objs.size/\s1={ s with heap:=s.heap.push { cls:=.type "list",data:=.seq #[] } }) _ ⟨rfl,rfl⟩) ?_;rintro obj s1 ⟨rfl,rfl⟩;have h0:=WX s.heap (o:={ cls:=.type "list",data:=.seq #[] }) rfl;refine⟨⟨_,h0,rfl⟩,F.args_list_init_2 _ _,?_⟩;have kp:∀c o,s.heap.get? c=some o->(s.heap.push { cls:=.type "list",data:=.seq #[] }).get? c=some o:=λc o z=>WR _ z;have sD:=kp _ _ he;have R2:=kp _ _ oh;have R3:=kp _ _ lL;have f1:=IG;have f2:=IH;have sz:(s.heap.push { cls:=.type "list",data:=.seq #[] }).objs.size=s.heap.objs.size+1:=Xq ..;obtain⟨hp,g,d,tk,os⟩:=s;dsimp only at *
 wp_walk using Xv h0
 obtain⟨c1,zf⟩:∃c,((hp.push { cls:=.type "list",data:=.seq #[] }).update hp.objs.size (Xs λx=>#[])).get? hp.objs.size=some { cls:=.type "list",data:=.seq #[] c }:=⟨_,Xr _ h0 rfl⟩;have k1:∀c o,hp.get? c=some o->((hp.push { cls:=.type "list",data:=.seq #[] }).update hp.objs.size (Xs λx=>#[])).get? c=some o:=λc o z=>(Xo ..).extBut _ _ (W7 (W4 z)) (kp _ _ z);have eX:((hp.push { cls:=.type "list",data:=.seq #[] }).update hp.objs.size (Xs λx=>#[])).objs.size=hp.objs.size+1:=by rw[YZ,sz]
 generalize ((hp.push { cls:=.type "list",data:=.seq #[] }).update hp.objs.size (Xs λx=>#[]))=h1 at *;have sH:=k1 _ _ he;have hT:Shared.TypeIs (⟨h1,g,d,tk,os⟩:Shared) (.ref e) "enumerate":=⟨_,sH,rfl⟩;have ns:(Builtin.List.listSameRef (XI hp.objs.size) (XI e))=false:=by
  show (hp.objs.size == e)=false;simpa using XR le
 refine Xv sH (WS ?_);rw[ns];refine WO (wpAny_pyIter_enum sH (WO (XN ?_)));unfold Builtin.List.listLengthHint;refine WO (wpAny_specialOf hT f1 ?_);refine (show wpAny _ _ (specialOf (.ref e) "__length_hint__" >>= _) _ _ _ from WO (wpAny_specialOf hT f2 (WS ?_)));refine (show wpAny _ _ (rule "list.extend.makes-room" >>= _) _ _ _ from WO (wpAny_rule ?_));refine (show wpAny _ _ (Builtin.List.listTouch (.ref hp.objs.size) >>= _) _ _ _ from ?_);unfold Builtin.List.listTouch;obtain⟨c2,zg⟩:∃c,(h1.update hp.objs.size (Xs λx=>x.push .none)).get? hp.objs.size=some { cls:=.type "list",data:=.seq #[.none] c }:=⟨_,Xr _ zf rfl⟩;obtain⟨c3,IJ⟩:∃c,((h1.update hp.objs.size (Xs λx=>x.push .none)).update hp.objs.size (Xs λx=>x.pop)).get? hp.objs.size=some { cls:=.type "list",data:=.seq #[] c }:=⟨_,Xr _ zg rfl⟩;have k3:∀c o,hp.get? c=some o->((h1.update hp.objs.size (Xs λx=>x.push .none)).update hp.objs.size (Xs λx=>x.pop)).get? c=some o:=λc o z=>(Xo ..).extBut _ _ (W7 (W4 z)) ((Xo ..).extBut _ _ (W7 (W4 z)) (k1 _ _ z));have IK:((h1.update hp.objs.size (Xs λx=>x.push .none)).update hp.objs.size (Xs λx=>x.pop)).objs.size=hp.objs.size+1:=by rw[YZ,YZ,eX]
 refine WO (WO (show wpAny _ _ (updateSeq hp.objs.size λx=>x.push .none) _ _ _ from wpAny_updateSeq zf rfl ?_ (W9 _) (by show 1<=sizeLine+1;lia)));refine (show wpAny _ _ (updateSeq hp.objs.size λx=>x.pop) _ _ _ from wpAny_updateSeq zg rfl ?_ (by show 1<=sizeLine;decide) (W9 _));dsimp only;generalize ((h1.update hp.objs.size (Xs λx=>x.push .none)).update hp.objs.size (Xs λx=>x.pop))=h3 at *;refine WS ⟨Yr F.plain_extend_loop _,Iy (A:=A.in1) hh hz ne nl hZ (XR le) (XR li) (W7 ll) _ (hp.objs.size+1) (Yg le) (Yg li) (Yq _) _ 0 _ [] c3 rfl (W9 _) (.inl ⟨rfl,old,k3 _ _ he⟩) (hit.at λo z=>k3 _ _ z) (hl.at λo z=>k3 _ _ z) IJ (λj b z=>by cases z) rfl (Y8 IK.symm) (λ_ z=>nomatch z) .nil
  λh' cR i4 c' kk z2 z3 z4 z5 z6=>⟨rfl,q h' cR i4 c' (λb o n1 n2 z=>kk b o n1 n2 (W7 (W4 z)) (k3 _ _ z)) z2 z3 z4 z5 z6⟩⟩
end
end L2
end
section
set_option maxHeartbeats 1000000
namespace N
open PySem PySem.Spec PyProof.Rows L2
open Classical in
noncomputable def cw(F:Fz)(as:List Addr)(h:Heap):Fz:=λb=>if b∈as then (h.get? b).map Fo.dat else F b
section
variable{X:Cx}{τ:St}{z:Z}
theorem oj{F:Fz}{as:List Addr}{h:Heap}{b:Addr}{o:Obj}(hb:b∈as)(e:h.get? b=some o):cw F as h b=some (.dat o):=by unfold cw;rw[if_pos hb,e];rfl
theorem j3{F:Fz}{as:List Addr}{h:Heap}{b:Addr}(hb:b ∉ as):cw F as h b=F b:=if_neg hb
theorem ab.many{as:List Addr}{h':Heap}{t:Nat}(I:ab X τ z)(kp:∀ b,bp z.s.heap h' b)(new:∀ b∈as,z.s.heap.objs.size<=b):Le z.F (cw z.F as h')/\ab X τ ⟨cw z.F as h',z.M,{ z.s with heap:=h',toks:=t }⟩:=by
  have l:Le z.F (cw z.F as h'):=λb f e=>by
    rw[j3 λhb=>by rw[I.hok.cB (new b hb)]at e;cases e];exact e
  have ok:aF X.G (cw z.F as h') z.M h':=by
   refine⟨λb f e=>?_,λb o e=>?_,I.hok.tb.go (λT p q e=>?_) l.d λT _ _ _=>kp T⟩
   · by_cases hb:b∈as
     · cases q:h'.get? b with
       |none=>unfold cw at e;rw[if_pos hb,q]at e;cases e
       |some o=>rw[oj hb q]at e;cases e;exact q
     · rw[j3 hb]at e;exact (I.hok.fz b f e).go (kp b)
   case refine_3=>
     by_cases hb:T∈as
     · cases r:h'.get? T with
       |none=>unfold cw at e;rw[if_pos hb,r]at e;cases e
       |some o=>rw[oj hb r]at e;cases e
     · rw[j3 hb]at e;exact e
   · have hb:b ∉ as:=λm=>by have:=I.hok.c8 (new b m);rw[e]at this;cases this
     exact⟨(j3 hb).trans (I.hok.ob b o e).1,(I.hok.ob b o e).2.go l.d (λc _=>kp c) λ_ q=>q⟩
  exact⟨l,I.go l ok (λb hb=>⟨(kp b).s,I.c9 hb,j3 λm=>Yh _ (Xj (I.gg hb) (new b m))⟩) rfl I.bare⟩
def zh(ta:DE):DE:=fun τ M q=>ta τ M λx M1=>match x with
 |.tup ds=>ds.length<sizeLine/\bS (bN ds) M1 q
 |_=>False
theorem zi{G:Gx}{F:Fz}:∀{ds:List D}{us:List Value}{as:List Addr}{k:Nat},ae G F ds us->as.length=us.length->(∀(j:Nat)(b:Addr),as[j]?=some b->∃ tk x,us[j]?=some x/\F b=some (.dat { cls:=.type "tuple",data:=.seq #[.int ((k+j:Nat):Int) tk,x] })) ->
  ae G F (ds.mapIdx λi d=>.tup [.int ((k+i:Nat):Int),d]) (as.map XI)
 |[],us,as,k,r,l,h=>by
  rw[ae]at r;subst r;rw[List.length_eq_zero_iff.mp l];exact .nil
 |d::ds,us,as,k,r,l,h=>by
  rw[ae]at r;obtain⟨u,us,rfl,r1,r2⟩:=r;cases as with
  |nil=>cases l
  |cons a as=>
   obtain⟨tk,x,e1,e2⟩:=h 0 a rfl;cases e1;rw[List.mapIdx_cons,W0];refine .cons ?_ ?_
   ·rw[aa];exact⟨a,_,[.int ((k+0:Nat):Int) tk,u],rfl,e2,⟨rfl,rfl,⟨_,rfl⟩,by show 2<=sizeLine;decide⟩,.cons bM (.cons r1 .nil)⟩
   ·have:=zi (k:=k+1) (as:=as) r2 (Y1 l) λj b hb=>by
     obtain⟨tk,x,e1,e2⟩:=h (j+1) b hb;exact⟨tk,x,e1,by rw[show k+1+j=k+(j+1) by lia];exact e2⟩
    have e:(λ(i:Nat)(d:D)=>D.tup [.int ((k+(i+1):Nat):Int),d])=λi d=>.tup [.int ((k+1+i:Nat):Int),d]:=(by funext i d;rw[show k+(i+1)=k+1+i by lia]);rw[e];exact this
theorem IL{e:Expr}{te:DE}{p1 p2 hY dB:Pos}(hc:X.calm=true)(sA:Gl X "list")(fH:X.G.mg "list"=none)(sB:Gl X "enumerate")(lN:X.G.mg "enumerate"=none)(he:PE X e te)(hs:bU e=true):
  PE X (.Call (.Name "list" p1) [.Call (.Name "enumerate" p2) [e] [] dB] [] hY) (zh te):=fun τ z Q R I h k=>by
 refine XU (dO I sA fH (by decide +kernel:bootBuiltins "list"=some (.type "list")) (by decide) (by decide) ?_);refine XF ?_ (bJ rfl) rfl;rw[bJ (e:=.Call (.Name "enumerate" p2) [e] [] dB) rfl];show W X (spliced ((false,eval (.Call (.Name "enumerate" p2) [e] [] dB) X.env)::backTo hY (starEach [] X.env))) _ z.s;refine Yn ?_;refine XU (dO I sB lN boot_enumerate (by decide) (by decide) ?_);refine XF ?_ (bJ hs) rfl;refine ny he nv (bJ hs) dB τ z (λds M=>n1 (λd M Q=>match d with
  |.tup ds=>ds.length<sizeLine/\bS (bN ds) M Q
  |_=>False) ds M Q) _ I h λds z1 us l1 I1 r1 q1=>?_
 unfold n1 at q1;dsimp only at q1;split at q1
 case h_2=>exact q1.elim
 obtain⟨u,rfl,ru⟩:=eh r1;split at q1
 case h_2=>exact q1.elim
 rename_i ds;obtain⟨hz,q⟩:=q1;obtain⟨a,us,o,rfl,l⟩:=I1.cD ru;have hl:=l.r.len;refine vU l.p λh' Z J n2 keep=>?_;refine YU ?_;have hL:h'.IsTuple a us.toArray:=(show z1.s.heap.IsTuple a us.toArray from l.p).at λo e=>keep _ _ e;obtain⟨ol,e1,_⟩:=id l.p;have la:=W4 e1;refine II (s:={ z1.s with heap:=h' }) (I1.ok.hd hc) (by rw[WV,<- hl];exact hz) Z J hL (XR (Yq _)) (W7 (Yg la)) (W7 la) λh2 tk as c kp hS hA ln hn pw=>?_;have kk:∀b,bp z1.s.heap h2 b:=λb o e=>kp b o (W7 (Yg (W4 e))) (W7 (W4 e)) (keep b o e);have sz:z1.s.heap.objs.size<=h'.objs.size:=by rw[n2];lia
 obtain⟨l2,I2⟩:=I1.many (as:=as) (t:=tk) kk λb hb=>W2 sz (Nat.le_of_lt (hn b hb));have rs:ae X.G (cw z1.F as h2) (bN ds) (as.map XI):=by
  have:=zi (k:=0) (as:=as) (l.r.up l2.d) (by rw[ln,WV]) λj b hb=>by
   obtain⟨tk,x,e1,e2⟩:=hA j b hb;exact⟨tk,x,by simpa using e1,oj (Xw hb) (by rw[Nat.zero_add];exact e2)⟩
  simpa [bN] using this
 have fp:Fp X ⟨cw z1.F as h2,z1.M,{ z1.s with heap:=h2,toks:=tk }⟩ h'.objs.size:=⟨(j3 (F:=z1.F) (h:=h2) λm=>Yh _ (hn _ m)).trans (I1.hok.cB sz),I1.hok.c8 sz,λo=>Yh _ (Xj (I1.gg o) sz)⟩;exact I2.rT (n:=c) fp k (l1.tr l2) rs hS (by rw[WQ,ln,WV,<- hl];exact Nat.le_of_lt hz) q
end
end N
end
section
set_option maxHeartbeats 1000000
namespace N
open PySem PySem.Spec PyProof.Rows L2
noncomputable def eY(kvs more:List (Key×D)):List (Key×D):=more.foldl (λacc kv=>aZ acc kv.1 kv.2) kvs
theorem KV.add{G:Gx}{F:Fz}{more:List (Key×D)}{ws:List (Key×Value)}(r:KV G F more ws):∀{kvs:List (Key×D)}{vs:List (Key×Value)},KV G F kvs vs->KV G F (eY kvs more) (merged vs ws):=by
 unfold KV at r
 induction r with
 |nil=>intro kvs vs q;exact q
 |@cons p q ps qs h t ih=>
  intro kvs vs k;have:=ih (KV.put k p.1 h.2);rw[h.1]at this;show KV G F (eY (aZ kvs p.1 p.2) ps) (merged (stored vs q.1 q.2) qs);rw[h.1];exact this
theorem sJ(more:List (Key×D)):∀kvs:List (Key×D),(eY kvs more).length<=kvs.length+more.length:=by
 induction more with
 |nil=>intro kvs;exact WU _
 |cons p r ih=>
  intro kvs;have h1:=ih (aZ kvs p.1 p.2);have h2:=yv kvs p.1 p.2;show (eY (aZ kvs p.1 p.2) r).length<=_;rw[Xe];lia
def sL:QM:=λo ds M q=>match o,ds with
 |.ref p,[.ag ks es]=>∃kvs,M p=some (.ag kvs)/\kvs.length+ks.length<=sizeLine/\q .ai (up M p (.ag (eY kvs (ks.zip es))))
 |.ref p,[.ref r]=>∃kvs more,p≠r/\M p=some (.ag kvs)/\M r=some (.ag more)/\kvs.length+more.length<=sizeLine/\q .ai (up M p (.ag (eY kvs more)))
 |_,_=>False
section
variable{X:Cx}{τ:St}{z:Z}
theorem IM:OM X "dict.update" sL:=fun τ z Q R d v ds us I rv rs h k=>by
 unfold sL at h;split at h
 ·rename_i p ks es;obtain⟨kvs,hp,hz,q⟩:=h;rw[aa]at rv;subst rv;obtain⟨u,rfl,ru⟩:=eh rs;have hF:=(I.hok.ob _ _ hp).1;have zj:=ru;rw[aa]at zj;obtain⟨a,o,us',rfl,e1,e2,e3,e4⟩:=zj;obtain⟨S7,R4,ws,e,l2,hm⟩:=I.b4 (k:=λkvs=>kvs=ks.zip es) ru rfl;cases e;subst hm;obtain⟨vs,l⟩:=I.gm hp;have ne:p≠a:=λq=>by rw[q,e1]at hF;cases hF
  have lz:(ks.zip es).length<=ks.length:=by rw[Yu];exact Nat.min_le_left _ _
  refine call_meetsIn PySem.F.slot_dict_update l.d.typeIs PySem.F.entry_dict_update (PySem.F.args_dict_update_2 _ _) (meets_dict_update (bx X.G.P X.G.w) p a ne l2.n) ⟨vs,ws,l.d,l2.d,by rw[<- Paired.length l.r,<- Paired.length l2.r];lia,λh' dd _ hs=>?_⟩;have he:∃q,h'.get? p=some q:=let ⟨q,_,_,hq,_⟩:=dd;⟨q,hq⟩
  exact k .ai ⟨z.F,_,_⟩ _ Le.rfl (I.put (t:=z.s.toks) (o':=.ag (eY kvs (ks.zip es))) hp rfl (.inl rfl) (λb hb o q=>(hs.2 b hb).trans q) he ⟨W2 (sJ _ _) (by lia),l.n,_,l2.r.add l.r,dd⟩) (by rw[aa]) q
 ·rename_i p r;obtain⟨kvs,more,ne,hp,hr,hz,q⟩:=h;rw[aa]at rv;subst rv;obtain⟨u,rfl,ru⟩:=eh rs;rw[aa]at ru;subst ru;obtain⟨vs,l⟩:=I.gm hp;obtain⟨ws,l2⟩:=I.gm hr;refine call_meetsIn PySem.F.slot_dict_update l.d.typeIs PySem.F.entry_dict_update (PySem.F.args_dict_update_2 _ _) (meets_dict_update (bx X.G.P X.G.w) p r ne l2.n) ⟨vs,ws,l.d,l2.d,by rw[<- Paired.length l.r,<- Paired.length l2.r];lia,λh' dd _ hs=>?_⟩;have he:∃q,h'.get? p=some q:=let ⟨q,_,_,hq,_⟩:=dd;⟨q,hq⟩
  exact k .ai ⟨z.F,_,_⟩ _ Le.rfl (I.put (t:=z.s.toks) (o':=.ag (eY kvs more)) hp rfl (.inl rfl) (λb hb o q=>(hs.2 b hb).trans q) he ⟨W2 (sJ _ _) (by lia),l.n,_,l2.r.add l.r,dd⟩) (by rw[aa]) q
 ·exact h.elim
end
end N
end
section
set_option maxHeartbeats 1000000
namespace N
open PySem PySem.Spec PyProof.Rows L2
mutual
inductive Fr(M K:Mp):D->D->Prop
 |rfl {d:D}:Fr M K d d
 |lst {p:Addr}{ds es:List D}:M p=some (.lst ds)->K p=none->dC M K ds es->Fr M K (.ref p) (.lst es)
 |ag {p:Addr}{kvs:List (Key×D)}{es:List D}:M p=some (.ag kvs)->K p=none->dC M K (kvs.map (·.2)) es->Fr M K (.ref p) (.ag (kvs.map (·.1)) es)
 |tup {ds es:List D}:dC M K ds es->Fr M K (.tup ds) (.tup es)
 |IP {ds es:List D}:dC M K ds es->Fr M K (.lst ds) (.lst es)
inductive dC(M K:Mp):List D->List D->Prop
 |rfl {ds:List D}:dC M K ds ds
 |cons {d e:D}{ds es:List D}:Fr M K d e->dC M K ds es->dC M K (d::ds) (e::es)
end
structure bD(K M:Mp):Prop where
 sub:∀a o,K a=some o->M a=some o
 own:∀a b,K a≠none->M b=some (.own a)->K b=some (.own a)
theorem bD.rfl{M:Mp}:bD M M:=⟨λ_ _ h=>h,λ_ _ _ h=>h⟩
noncomputable def cV(F:Fz)(M K:Mp)(h:Heap):Fz:=λa=>match M a,K a with
 |some _,none=>(h.get? a).map Fo.dat
 |_,_=>F a
section
variable{G:Gx}{F:Fz}{M K:Mp}{h:Heap}
theorem et(x:aF G F M h):Le F (cV F M K h):=λa f e=>by
 unfold cV;cases q:M a with
 |none=>exact e
 |some o=>have:=(x.ob a o q).1;rw[e]at this;cases this
theorem zk{a:Addr}{o:MO}{ob:Obj}(hM:M a=some o)(Uj:K a=none)(e:h.get? a=some ob):cV F M K h a=some (.dat ob):=by
 unfold cV;rw[hM,Uj];show (h.get? a).map Fo.dat=_;rw[e];rfl
theorem sM(x:aF G F M h)(s:bD K M):aF G (cV F M K h) K h:=by
 refine⟨λa f e=>?_,λa o e=>?_,x.tb.go (λT p q e=>?_) (et x).d λ_ _ _ _ _ e=>e⟩
 case refine_3=>
  unfold cV at e;split at e
  ·cases q:h.get? T <;> rw[q]at e <;> cases e
  ·exact e
 ·unfold cV at e;split at e
  ·cases q:h.get? a with
   |none=>rw[q]at e;cases e
   |some ob=>rw[q]at e;cases e;exact q
  ·exact x.fz a f e
 ·have hM:=s.sub a o e;obtain⟨h1,h2⟩:=x.ob a o hM;refine⟨by unfold cV;rw[hM,e];exact h1,h2.go (et x).d (λ_ _ _ q=>q) λb q=>s.own a b (by rw[e];exact XB o) q⟩
mutual
theorem Fr.rel(x:aF G F M h):∀{d e:D}{u:Value},Fr M K d e->aa G F d u->aa G (cV F M K h) e u
 |_,_,u,.rfl,r=>r.up (et x).d
 |_,_,u,.lst h1 h2 h3,r=>by
  rw[aa]at r;subst r;obtain⟨_,hz,us,n,rs,e⟩:=x.ob _ _ h1;exact nA (zk h1 h2 e) (by rw[<- rs.len];exact hz) (h3.rel x rs)
 |_,_,u,.ag (kvs:=kvs) h1 h2 h3,r=>by
  rw[aa]at r;subst r;obtain⟨_,hz,hs,vs,rs,o,es,ep,e,ex,g1,g2,g3,nd⟩:=x.ob _ _ h1;obtain⟨k1,k2⟩:=lC rs;rw[aa];refine⟨_,o,vs.map (·.2),rfl,zk h1 h2 e,⟨ex,⟨es,ep,g1,g2,?_⟩,by rw[k2];exact nd,by rw[k2,WQ,WQ],by rw[WQ];exact hz⟩,hs,h3.rel x k1⟩;rw[k2,ym];exact g3
 |_,_,u,.tup h3,r=>by
  rw[aa]at r ⊢;obtain⟨a,o,us,e,h1,h2,rs⟩:=r;exact⟨a,o,us,e,et x a _ h1,h2,h3.rel x rs⟩
 |_,_,u,.IP h3,r=>by
  rw[aa]at r ⊢;obtain⟨a,n,us,e,h1,h2,rs⟩:=r;exact⟨a,n,us,e,et x a _ h1,h2,h3.rel x rs⟩
theorem dC.rel(x:aF G F M h):∀{ds es:List D}{us:List Value},dC M K ds es->ae G F ds us->ae G (cV F M K h) es us
 |_,_,us,.rfl,r=>r.up (et x).d
 |_,_,us,.cons h1 h2,r=>by
  rw[ae]at r;obtain⟨u,us,rfl,r1,r2⟩:=r;exact .cons (h1.rel x r1) (h2.rel x r2)
end
end
theorem ab.IQ{X:Cx}{τ:St}{z:Z}{K:Mp}(I:ab X τ z)(s:bD K z.M):ab X τ ⟨cV z.F z.M K z.s.heap,K,z.s⟩ where
 ok:=I.ok
 bs:=I.bs.up (et I.hok)
 os:=I.os
 bare:=I.bare
 bY:=λenv h=>let ⟨h1,L,o,h2,h3,h4⟩:=I.bY env h;⟨h1,L,o,h2,et I.hok _ _ h3,h4⟩
 loc:=let ⟨m,h1,h2⟩:=I.loc;⟨m,h1,λi x d a b c=>let ⟨u,r,l⟩:=h2 i x d a b c;⟨u,r.up (et I.hok).d,l⟩⟩
 cell:=λx c h=>by
  obtain⟨h1,h2,h3⟩:=I.cell x c h;have e:cV z.F z.M K z.s.heap c=z.F c:=by unfold cV;rw[h2]
  refine⟨h1,?_,?_⟩
  ·cases q:K c with
   |none=>exact q
   |some o=>rw[s.sub c o q]at h2;cases h2
  ·dsimp only;rw[e];exact h3
 free:=by
  obtain⟨h1,h2⟩:=I.free;refine⟨by dsimp only;unfold cV;rw[h2];exact h1,?_⟩;cases q:K X.env.locals with
  |none=>exact q
  |some o=>rw[s.sub _ o q]at h2;cases h2
 hok:=sM I.hok s
 len:=I.len
noncomputable def om(a:Addr)(d:D):Option D->Option D
 |some (.ref b)=>if b=a then some d else some (.ref b)
 |o=>o
theorem sN{M:Mp}{a:Addr}{o:MO}(h:M a=some o)(n:∀b,o≠.own b):bD (rm M a) M:=⟨λb u e=>by
 by_cases z:b=a
 ·rw[z,jy]at e;cases e
 ·rw[f7 z]at e;exact e,λb c e q=>by
 by_cases z:c=a
 ·rw[z,h]at q;cases q;exact absurd rfl (n b)
 ·rw[f7 z];exact q⟩
theorem ab.zm{X:Cx}{τ:St}{z:Z}{a:Addr}{o:MO}{d:D}(I:ab X τ z)(h:z.M a=some o)(n:∀b,o≠.own b)(f:Fr z.M (rm z.M a) (.ref a) d):∃F',Le z.F F'/\ab X (τ.map (om a d)) ⟨F',rm z.M a,z.s⟩:=by
 have I':=I.IQ (sN h n);refine⟨_,et I.hok,{ I' with loc:=?_,len:=by rw[WQ];exact I.len }⟩;obtain⟨m,h1,h2⟩:=I'.loc;refine⟨m,h1,λi x e hx he hv=>?_⟩;rw[W8]at he;obtain⟨y,hy,hs⟩:=Option.map_eq_some_iff.mp he;cases y with
 |none=>cases hs
 |some y=>
  obtain⟨u,r,l⟩:=h2 i x y hx hy hv;cases y with
  |ref b=>
   unfold om at hs;dsimp only at hs;split at hs
   ·rename_i e0;subst e0;cases hs;rw[aa]at r;exact⟨u,by rw[r];exact f.rel I.hok (by rw[aa]),l⟩
   ·cases hs;exact⟨u,r,l⟩
  |_=>cases hs;exact⟨u,r,l⟩
inductive h7(P:St->Mp->Prop):St->Mp->Prop
 |rfl {τ:St} {M:Mp}:P τ M->h7 P τ M
 |lst {τ:St} {M:Mp} (a:Addr) (ds:List D):M a=some (.lst ds)->h7 P (τ.map (om a (.lst ds))) (rm M a)->h7 P τ M
 |ag {τ:St} {M:Mp} (a:Addr) (kvs:List (Key×D)):M a=some (.ag kvs)->h7 P (τ.map (om a (.ag (kvs.map (·.1)) (kvs.map (·.2))))) (rm M a)->h7 P τ M
theorem KS.lO{X:Cx}{F:Fz}{e:En}{R:Flow->Shared->Prop}(k:KS X F e R):KS X F { e with nx:=h7 e.nx } R where
 rt:=k.rt
 SD:=k.SD
 ct:=k.ct
 nx:=fun τ z l I h=>by
  have go:∀{τ:St}{M:Mp},h7 e.nx τ M->∀z:Z,z.M=M->Le F z.F->ab X τ z->R .next z.s:=λh=>by
   induction h with
   |rfl h=>intro z e l I;subst e;exact k.nx _ z l I h
   |lst a ds h1 _ ih=>
    intro z e l I;subst e;obtain⟨F',l',I'⟩:=I.zm h1 (λb q=>by cases q) (.lst h1 jy .rfl);exact ih ⟨F',rm z.M a,z.s⟩ rfl (l.tr l') I'
   |ag a kvs h1 _ ih=>
    intro z e l I;subst e;obtain⟨F',l',I'⟩:=I.zm h1 (λb q=>by cases q) (.ag h1 jy .rfl);exact ih ⟨F',rm z.M a,z.s⟩ rfl (l.tr l') I'
  exact go h z rfl l I
def zo(ti:DI)(g:DG)(tb:DS):DS:=λe τ M=>qD ti g tb { e with nx:=h7 e.nx } τ M
theorem IS{X:Cx}{st:Stmt}{ti:DI}{g:DG}{tb:DS}(h:PS X st (qD ti g tb)):PS X st (zo ti g tb):=fun τ z e R I q k=>h τ z _ R I q k.lO
end N
end
section
set_option maxHeartbeats 1000000
namespace N
open PySem PySem.Spec PyProof.Rows L2 PySem.W
structure sP(G:Gx)(F0:Fz)(d:Addr)(ks:List Key)(ds:List D)(n ep:Nat):Prop where
 bf:∀{F M h},Le F0 F->aF G F M h->∃vs,KV G F (ks.zip ds) vs/\h.DictAt (bx G.P G.w) d vs ep/\vs.length=n
 len:(ks.zip ds).length=n
theorem oo{X:Cx}{τ:St}{z:Z}{ks:List Key}{ds:List D}{u:Value}(I:ab X τ z)(r:aa X.G z.F (.ag ks ds) u):∃a n ep vs,u=.ref a/\sP X.G z.F a ks ds n ep/\z.s.heap.DictAt (bx X.G.P X.G.w) a vs ep/\vs.length=n/\(a == sysModules)=false:=by
 rw[aa]at r;obtain⟨a,o,us,rfl,h1,h2,h4,h3⟩:=r;obtain⟨es,ep,g1,g2,g3⟩:=h2.bf;have hl:=h3.len;have key:∀{F M h},Le z.F F->aF X.G F M h->∃vs,KV X.G F (ks.zip ds) vs/\h.DictAt (bx X.G.P X.G.w) a vs ep/\vs.length=(ks.zip us).length:=λ{F M h}l ok=>
  ⟨ks.zip us,KV.zip (h3.up l.d),⟨o,es,ok.fz a _ (l a _ h1),h2.ex,g1,g2,g3,by rw[List.map_fst_zip (by rw[h2.len];exact WU _)];exact h2.nd⟩,rfl⟩
 obtain⟨vs,q1,q2,q3⟩:=key Le.rfl I.hok;exact⟨a,(ks.zip us).length,ep,vs,rfl,⟨key,by rw[Yu,Yu,hl]⟩,q2,q3,h4⟩
theorem zp{G:Gx}{F:Fz}{P:Program}{w:World}{k:Key}{u:Value}(h:(bx P w).is k u=true):aa G F (iU k) u:=by
 rcases dZ (k:=k) (v:=u) h with ⟨i,t,rfl,rfl⟩ |⟨x,t,rfl,rfl⟩
 ·exact bM
 ·exact fy
theorem oq{G:Gx}{F:Fz}:∀{a:List (Key×D)}{b:List (Key×Value)}{i:Nat}{p:Key×D},KV G F a b->a[i]?=some p->∃q,b[i]?=some q/\p.1=q.1/\aa G F p.2 q.2
 |_,_,_,_,.nil,e=>by simp at e
 |_,_,0,_,.cons r _,e=>by simp at e;subst e;exact⟨_,rfl,r.1,r.2⟩
 |_,_,i+1,_,.cons _ t,e=>by
  obtain⟨q,h1,h2⟩:=oq (i:=i) t (by simpa using e);exact⟨q,by simpa using h1,h2⟩
section
variable{G:Gx}{F0:Fz}{d it:Addr}{ks:List Key}{ds:List D}{n ep:Nat}{tg:Expr}{g7:List Expr}{kk:Nat}{tp:Pos}
theorem IT(S:sP G F0 d ks ds n ep):fB G tg ((ks.zip ds).map λp=>iU p.1) (λ_=>True) F0 [it] it (λi h=>h.IsKeyIter it d i n ep) where
 obj:=λi h st c hc=>by
  rw[List.mem_singleton.mp hc];obtain⟨o,q,_⟩:=st;exact⟨o,q⟩
 keep:=λi h h' st k=>by
  obtain⟨o,q,r⟩:=st;exact⟨o,k it (List.mem_singleton.mpr rfl) _ q,r⟩
 item:=by
  intro X hG hc i τ z d' E I l hf st hok hd;subst hG;rw[W8]at hd;obtain⟨p,hp,rfl⟩:=Option.map_eq_some_iff.mp hd;obtain⟨vs,rel,da,lv⟩:=S.bf l I.hok;obtain⟨q,hq,e1,r2⟩:=oq rel hp;rw[<- lv]at st ⊢;refine wpAny_pyNext_dict_item (k:=q.1) (v:=q.2) st da hq λkey h' hk a2 sb=>⟨_,rfl,?_⟩;refine letGo_keyiter (s':={ z.s with heap:=h' }) a2 ?_;exact⟨Le.rfl,I.b3 (t:=z.s.toks) hf λc hc o e=>sb.extBut c o (by simpa using hc) e,by rw[e1];exact zp hk,a2,λb hb=>(hf b hb).f⟩
 done:=by
  intro X hG hc i τ z E I l hf st hok hd;subst hG;obtain⟨vs,rel,da,lv⟩:=S.bf l I.hok;rw[<- lv]at st;refine wpAny_pyNext_dict_end (I.ok.hd hc) st da ?_ λh' eb=>⟨rfl,I.b3 (t:=z.s.toks) hf λb hb o e=>eb b o (by simpa using hb) e⟩;rw[WQ,Paired.length rel]at hd;simp;lia
 self:=λ_ _ _ _ _ st h=>wpAny_pyIter_keyiter st h
theorem IU(S:sP G F0 d ks ds n ep):fB G (.Tuple g7 kk tp) ((ks.zip ds).map dA) (λ_=>True) F0 [it] it (λi h=>∃ok ov,IsItemIter h it d i n ep ok ov) where
 obj:=λi h st c hc=>by
  rw[List.mem_singleton.mp hc];obtain⟨_,_,q⟩:=st;exact⟨_,q⟩
 keep:=λi h h' st k=>by
  obtain⟨o1,o2,q⟩:=st;exact⟨o1,o2,k it (List.mem_singleton.mpr rfl) _ q⟩
 item:=by
  intro X hG hc i τ z d' E I l hf st hok hd;subst hG;rw[W8]at hd;obtain⟨p,hp,rfl⟩:=Option.map_eq_some_iff.mp hd;obtain⟨vs,rel,da,lv⟩:=S.bf l I.hok;obtain⟨q,hq,e1,r2⟩:=oq rel hp;obtain⟨o1,o2,q1⟩:=st;rw[<- lv]at q1 ⊢;have hit:it<z.s.heap.objs.size:=W4 q1;refine wpAny_pyNext_items_item (k:=q.1) (v:=q.2) q1 da hq λkey h' hk Z' T' n' keep=>⟨_,rfl,?_⟩;refine wpAny_letOwnedTupleGo_items Z' λeP kZ sb=>?_;have I':ab X τ ⟨z.F,z.M,{ z.s with heap:=eP,toks:=z.s.toks }⟩:=I.b3 hf λc hc o e=>by
   simp only[Xk,Xd,or_false]at hc;exact sb.extBut _ _ hc (keep c o hc e)
  refine qF I' (I.gX (WU _)) (sb.extBut _ _ (XR hit) T') ⟨rfl,rfl,⟨0,rfl⟩,by show 2<=sizeLine;decide⟩ (by rw[e1];exact zp hk) r2 ⟨_,_,kZ⟩ λc hc=>⟨(hf c hc).f,?_⟩;rw[List.mem_singleton.mp hc];exact W7 hit
 done:=by
  intro X hG hc i τ z E I l hf st hok hd;subst hG;obtain⟨vs,rel,da,lv⟩:=S.bf l I.hok;obtain⟨o1,o2,q1⟩:=st;rw[<- lv]at q1;refine wpAny_pyNext_items_end (I.ok.hd hc) q1 da ?_ λh' eb=>⟨rfl,I.b3 (t:=z.s.toks) hf λb hb o e=>eb b o (by simpa using hb) e⟩;rw[WQ,Paired.length rel]at hd;simp;lia
 self:=λ_ _ _ _ _ st h=>by
  obtain⟨o1,o2,q1⟩:=st;exact kcp_self q1 h
end
section
variable{X:Cx}{o e:Expr}{to te:DE}{tg:Expr}{g7:List Expr}{kk:Nat}{tp q p:Pos}
def ou(t:DE):DI:=fun τ M k=>t τ M λd M1=>match d with
 |.ag ks ds=>k ((ks.zip ds).map λp=>iU p.1) (λ_=>True) M1
 |.str x=>x.cps.all (·<128)=true/\k (eO x) (λ_=>True) M1
 |d=>gY d M1 λxs ok=>k xs ok M1
theorem zq(hl:PE X e te):PI X tg e (ou te):=fun τ z k R I h K=>hl τ z _ _ I h λd z1 u l1 I1 r1 q1=>by
 have go:gY d z1.M (λxs ok=>k xs ok z1.M)->W X (pyIter u) R z1.s:=λq1=>by
  obtain⟨q,a,xs,ok,rfl,S,hok,q1⟩:=I1.gZ r1 q1;obtain⟨us,r,hz,hq⟩:=S X τ z1 rfl I1 Le.rfl hok;have fin:R (.ref z1.s.heap.objs.size) { z1.s with heap:=z1.s.heap.push { cls:=.type (jw q),data:=.fields #[.ref a,.int 0 0] } }:=
   K xs ok ⟨z1.F,z1.M,_⟩ _ l1 (I1.kept (t:=z1.s.toks) λb o e=>WR _ e) (jG I1 (WU _) (EK S) ⟨_,WX _ rfl,rfl,rfl⟩) q1
  cases q with
  |true=>exact Y' hq fin
  |false=>exact YY hq fin
 cases d with
 |str x=>
  rw[aa]at r1;obtain⟨t,rfl⟩:=r1;exact wpAny_pyIter_ascii q1.1 (K _ _ ⟨z1.F,z1.M,_⟩ _ l1 (I1.kept (t:=z1.s.toks) λb o e=>WR _ e) (jG I1 (WU _) EL ⟨_,WX _ rfl,rfl,rfl⟩) q1.2)
 |ag ks ds=>
  obtain⟨a,n,ep,vs,rfl,S,da,lv,lo⟩:=oo I1 r1;refine wpAny_pyIter_dict (knd:=bx X.G.P X.G.w) lo da ?_;rw[lv];exact K _ _ ⟨z1.F,z1.M,_⟩ _ l1 (I1.kept (t:=z1.s.toks) λb o e=>WR _ e) (jG I1 (WU _) (IT S) ⟨_,WX _ rfl,rfl,rfl⟩) q1
 |_=>exact go q1
def ow(Q:List Key->List D->Mp->Prop):QK:=λd M=>match d with
 |.ag ks ds=>Q ks ds M
 |_=>False
theorem zr(ho:PE X o to)(gx:attributeBase o "items" X.env (eval o X.env)=eval o X.env)(bv:(q.endLine == p.line)=true){τ:St}{z:Z}{Q:List Key->List D->Mp->Prop}{R:Value->Shared->Prop}(I:ab X τ z)(h:to τ z.M (ow Q))
  (k:∀ks ds a z1 v,Le z.F z1.F->ab X τ z1->aa X.G z1.F (.ag ks ds) (.ref a)->z1.s.heap.IsItemsView v a->Q ks ds z1.M->R (.ref v) z1.s):W X (eval (.Call (.Attribute o "items" q) [] [] p) X.env) R z.s:=
 wpAny_Call_method0_late gx bv (ho τ z _ _ I h λx z1 v l1 I1 r1 q1=>by
  unfold ow at q1;split at q1
  ·rename_i ks ds;obtain⟨h1,h2⟩:=rM (T:="dict") I1 r1 rfl;obtain⟨a,n,ep,vs,rfl,S,da,lv,lo⟩:=oo I1 r1;obtain⟨o,es,g⟩:=da;have dd:z1.s.heap.DictOf (bx X.G.P X.G.w) a vs:=⟨o,es,ep,g⟩;refine⟨"dict","dict.items",PySem.F.plainAttrs_dict,PySem.F.slot_dict_items,PySem.F.type_dict_items,h1,h2,Calls.callWith_builtin rfl (PySem.evalArgs_none ?_)⟩;refine call_meetsIn PySem.F.slot_dict_items dd.typeIs PySem.F.entry_dict_items (PySem.F.args_dict_items_1 _) (meets_dict_items (bx X.G.P X.G.w) a lo) ⟨⟨vs,dd⟩,?_⟩;exact k ks ds a ⟨z1.F,z1.M,{ z1.s with heap:=z1.s.heap.push { cls:=.type "dict_items",data:=.fields #[.ref a] },toks:=z1.s.toks }⟩ _ l1 (I1.kept λb o e=>WR _ e) r1 ⟨_,WX _ rfl,rfl,rfl⟩ q1
  ·exact q1.elim)
def zt(t:DE):DI:=fun τ M k=>t τ M (ow λks ds M1=>k ((ks.zip ds).map dA) (λ_=>True) M1)
theorem IV(ho:PE X o to)(gx:attributeBase o "items" X.env (eval o X.env)=eval o X.env)(bv:(q.endLine == p.line)=true):PI X (.Tuple g7 kk tp) (.Call (.Attribute o "items" q) [] [] p) (zt to):=fun τ z k R I h K=>
 zr ho gx bv I h λks ds a z1 v l1 I1 r1 iv q1=>by
  obtain⟨S7,n,ep,vs,e,S,da,lv,lo⟩:=oo I1 r1;cases e;refine wpAny_pyIter_items (knd:=bx X.G.P X.G.w) iv da ?_;rw[lv];exact K _ _ ⟨z1.F,z1.M,_⟩ _ l1 (I1.kept (t:=z1.s.toks) λb o e=>WR _ e) (jG I1 (WU _) (IU S) ⟨.none,.none,WX _ rfl⟩) q1
end
end N
end
section
namespace Kn
open PySem PySem.W PyProof.Rows
noncomputable def krun{α:Type}(lt:Nat->Nat->Bool):KasT α->α
 |.ret a=>a
 |.ask i j k=>krun lt (k (lt i j))
theorem j4{α β:Type}(lt:Nat->Nat->Bool)(f:α->KasT β):∀t:KasT α,krun lt (t.bind f)=krun lt (f (krun lt t))
 |.ret _=>rfl
 |.ask i j k=>j4 lt f (k (lt i j))
section
variable(r:Nat->Nat)
variable{r}
end
end Kn
namespace Kn
open PySem PySem.W PyProof.Rows
def b6{α:Type}(n:Nat)(R:α->Prop):KasT α->Prop
 |.ret a=>R a
 |.ask i j k=>i<n/\j<n/\∀b,b6 n R (k b)
theorem b6.bind{α β:Type}{n:Nat}{R:α->Prop}{S:β->Prop}{f:α->KasT β}(hf:∀a,R a->b6 n S (f a)):∀{t:KasT α},b6 n R t->b6 n S (t.bind f)
 |.ret a,h=>hf a h
 |.ask _ _ k,h=>⟨h.1,h.2.1,λb=>b6.bind hf (h.2.2 b)⟩
theorem zu{α:Type}{n:Nat}{R:α->Prop}{lt:Nat->Nat->Bool}{cmp:Nat->Nat->(Bool->Shared->Prop)->Shared->Prop}{Q:α->Shared->Prop}{s:Shared}
  (hc:∀i j C,i<n->j<n->C (lt i j) s->cmp i j C s):∀{t:KasT α},b6 n R t->Q (krun lt t) s->t.kasWp cmp Q s
 |.ret _,_,q=>q
 |.ask i j k,h,q=>hc i j _ h.1 h.2.1 (zu hc (h.2.2 _) q)
def Gn(n:Nat)(p:Array Nat):Prop:=∀x∈p.toList,x<n
theorem Gn.get{n:Nat}{p:Array Nat}(h0:0<n)(h:Gn n p)(i:Nat):p.getD i 0<n:=by
 rw[YC];cases e:p[i]? with
 |none=>exact h0
 |some x=>exact h x (Array.mem_toList_iff.mpr (Array.mem_of_getElem? e))
theorem Gn.perm{n:Nat}{p q:Array Nat}(h:Gn n p)(e:q.Perm p):Gn n q:=λx hx=>h x (Array.mem_toList_iff.mpr (e.mem_iff.mp (Array.mem_toList_iff.mp hx)))
section
variable{n:Nat}(h0:0<n)
include h0
theorem sQ{p:Array Nat}(g:Gn n p):∀f m,b6 n (λ_=>True) (kas_asc p f m)
 | 0,_=>trivial
 |f+1,m=>by
  rw[kas_asc];refine⟨g.get h0 _,g.get h0 _,λb=>?_⟩;dsimp only;split
  ·trivial
  ·exact sQ g f _
theorem ox:∀(f:Nat)(p:Array Nat)(m q:Nat),Gn n p->b6 n (λr:Array Nat×Nat×Nat=>Gn n r.1) (kas_desc f p m q)
 | 0,p,_,_,g=>g
 |f+1,p,m,q,g=>by
  rw[kas_desc];refine⟨g.get h0 _,g.get h0 _,λb=>?_⟩;dsimp only;by_cases hb:b=true
  ·rw[if_pos hb];split
   ·exact ox f _ _ _ (g.perm (mirror_perm _ _ _ _))
   ·exact ox f _ _ _ g
  ·rw[if_neg hb];refine⟨g.get h0 _,g.get h0 _,λb=>?_⟩;dsimp only;split
   ·exact g
   ·exact ox f _ _ _ g
theorem zv{p:Array Nat}(g:Gn n p)(m k:Nat):b6 n (λr:Nat×Array Nat=>Gn n r.2) (kas_tail3 m k p):=by
 unfold kas_tail3;refine b6.bind (R:=λ_=>True) (λm _=>?_) (sQ h0 (g.perm (mirror_perm _ _ _ _)) _ _);exact g.perm (mirror_perm _ _ _ _)
theorem zx{p:Array Nat}(g:Gn n p)(m k:Nat):b6 n (λr:Nat×Array Nat=>Gn n r.2) (kas_descPart m k p):=by
 unfold kas_descPart;refine b6.bind (λr hr=>?_) (ox h0 _ p _ _ g);split
 ·exact zv h0 (Gn.perm hr (mirror_perm _ _ _ _)) _ _
 ·exact zv h0 hr _ _
theorem IW{p:Array Nat}(g:Gn n p)(k:Nat):b6 n (λr:Nat×Array Nat=>Gn n r.2) (kas_count k p):=by
 unfold kas_count;refine b6.bind (λm _=>?_) (sQ h0 g _ _);split
 ·exact g
 split
 ·refine⟨g.get h0 _,g.get h0 _,λb=>?_⟩;dsimp only;split
  ·exact g
  ·exact zx h0 (g.perm (mirror_perm _ _ _ _)) _ _
 ·exact zx h0 g _ _
theorem sR{p:Array Nat}(g:Gn n p)(k:Nat):∀f l u,b6 n (λ_=>True) (kas_place p k f l u)
 | 0,_,_=>trivial
 |f+1,l,u=>by
  rw[kas_place];split
  ·trivial
  ·refine⟨g.get h0 _,g.get h0 _,λb=>?_⟩;dsimp only;split
   ·exact sR g k f _ _
   ·exact sR g k f _ _
theorem zy:∀(f:Nat)(p:Array Nat)(k:Nat),Gn n p->b6 n (λ_=>True) (kas_bin f p k)
 | 0,_,_,_=>trivial
 |f+1,p,k,g=>by
  rw[kas_bin];exact b6.bind (λl _=>zy f _ _ (g.perm (bubble_perm _ _ _))) (sR h0 g _ _ _ _)
theorem IX:b6 n (λ_=>True) (kas_sort n):=by
 unfold kas_sort;refine b6.bind (λr hr=>?_) (IW h0 (p:=(Xu n).toArray) (λx hx=>by simpa using hx) n);split
 ·exact zy h0 _ _ _ hr
 ·trivial
end
end Kn
namespace Kn
open PySem PySem.W PyProof.Rows
section
variable{lt:Nat->Nat->Bool}
theorem lP:∀(f:Nat)(p:Array Nat)(m q:Nat),(krun lt (kas_desc f p m q)).1.Perm p
 | 0,p,_,_=>by rw[kas_desc];exact .refl _
 |f+1,p,m,q=>by
  rw[kas_desc,krun];split
  ·split
   ·exact (lP f _ _ _).trans (mirror_perm _ _ _ _)
   ·exact lP f _ _ _
  ·rw[krun];split
   ·exact .refl _
   ·exact lP f _ _ _
theorem zB(p:Array Nat)(m k:Nat):(krun lt (kas_tail3 m k p)).2.Perm p:=by
 unfold kas_tail3;rw[j4];exact mirror_perm _ _ _ _
theorem zD(p:Array Nat)(m k:Nat):(krun lt (kas_descPart m k p)).2.Perm p:=by
 unfold kas_descPart;rw[j4];split
 ·exact (zB _ _ _).trans ((mirror_perm _ _ _ _).trans (lP _ _ _ _))
 ·exact (zB _ _ _).trans (lP _ _ _ _)
theorem zG(p:Array Nat)(k:Nat):(krun lt (kas_count k p)).2.Perm p:=by
 unfold kas_count;rw[j4];split
 ·exact .refl _
 split
 ·rw[krun];split
  ·exact .refl _
  ·exact (zD _ _ _).trans (mirror_perm _ _ _ _)
 ·exact zD _ _ _
theorem zH:∀(f:Nat)(p:Array Nat)(k:Nat),(krun lt (kas_bin f p k)).Perm p
 | 0,p,_=>by rw[kas_bin];exact .refl _
 |f+1,p,k=>by
  rw[kas_bin,j4];exact (zH f _ _).trans (bubble_perm _ _ _)
theorem IY(n:Nat):(krun lt (kas_sort n)).Perm (Xu n).toArray:=by
 unfold kas_sort;rw[j4];split
 ·exact (zH _ _ _).trans (zG _ _)
 ·exact zG _ _
end
end Kn
namespace L2
open PySem PySem.Spec PyProof.Rows PySem.W
end L2
end
section
set_option maxHeartbeats 1000000
namespace N
open PySem PySem.Spec PyProof.Rows L2 PySem.W
open Kn (krun)
def h8(G:Gx)(F:Fz)(vs:List Value)(ps:List (Str×D)):Prop:=vs.length=ps.length/\∀(i:Nat)p,ps[i]?=some p->∃b o t u n,vs[i]?=some (.ref b)/\F b=some (.dat o)/\o.cls=.type "tuple"/\o.data=.seq #[.str p.1 t,u] n/\aa G F p.2 u/\ar p.2=true/\aH p.2<=50
theorem h8.tl{G:Gx}{F:Fz}{v:Value}{vs:List Value}{p:Str×D}{ps:List (Str×D)}(t:h8 G F (v::vs) (p::ps)):h8 G F vs ps:=⟨Y1 t.1,λi y hy=>t.2 (i+1) y hy⟩
noncomputable def i5(ps:List (Str×D))(i j:Nat):Bool:=decide ((ps.getD i ("",.ai)).1.cps.toList<(ps.getD j ("",.ai)).1.cps.toList)
section
variable{G:Gx}{F:Fz}{M:Mp}{A:Around}{E:Value->Shared->Prop}{s:Shared}
theorem h8.zI{P:Program}{w:World}(ok:aF G F M s.heap):∀{vs:List Value}{ps:List (Str×D)},h8 G F vs ps->∃fs,KatTups s.heap vs fs/\fs.length=vs.length/\∀f∈fs,Looks (model P w) s.heap (typeOf f) (.type "str")
 |[],[],_=>⟨[],.nil,rfl,λf hf=>(nomatch hf)⟩
 |[],_::_,t=>by have:=t.1;simp at this
 |_::_,[],t=>by have:=t.1;simp at this
 |v::vs,p::ps,t=>by
  obtain⟨fs,h1,h2,h3⟩:=h8.zI (P:=P) (w:=w) ok t.tl;obtain⟨b,o,tk,u,n,e1,e2,e3,e4,_⟩:=t.2 0 p rfl;cases e1;refine⟨.str p.1 tk::fs,.cons (ok.fz b _ e2) e3 e4 (by simp) h1,by simp [h2],λf hf=>?_⟩;rcases List.mem_cons.mp hf with z |z
  ·subst z;exact Looks.of_pure rfl
  ·exact h3 f z
theorem IZ{a : Addr}{vs : List Value}{ps : List (Str × D)}{n : Nat}{P : Fin -> Shared -> Prop}(hu : A.units + 60 < cLine)(ok : aF G F M s.heap)(ha : F a = none)(hm : M a = none)(ho : s.heap.get? a = some (seqObj "list" vs.toArray n))(hT : h8 G F vs ps)(nd : (ps.map (·.1)).Nodup)(hR : vs.length < 64)
    (h:∀(p:List Nat),p.Perm (Xu vs.length)->P (.done (.ret .none)) { s with heap:=sortedHeap s.heap a vs (p.map λi=>vs.getD i XZ).toArray }) :
    wpAny (model G.P G.w) A (Builtin.«list.sort» ⟨[.ref a],[]⟩) P E s:=by
  obtain⟨e1,g1⟩:∃e1,(s.heap.update a (Xs λ_=>(#[]:Array Value))).get? a=some (seqObj "list" #[] e1):=⟨_,get?_update_seq ho λ_=>#[]⟩;have Td:(((s.heap.update a (Xs λ_=>(#[]:Array Value))).push (seqObj "tuple" vs.toArray 0)).push (seqObj "list" #[] 0)).get? a=some (seqObj "list" #[] e1):=WR _ (WR _ g1);have sb:=Xo s.heap a (Xs λ_=>(#[]:Array Value));have i6:aF G F M (((s.heap.update a (Xs λ_=>(#[]:Array Value))).push (seqObj "tuple" vs.toArray 0)).push (seqObj "list" #[] 0)):=ok.keep λb hb o e=>WR _ (WR _ (sb.extBut b o (by rintro rfl;rcases hb with h |h;exact h ha;exact h hm) e));rw[list_sort_plain];refine WO (listItems_at ho rfl (WO (listUpdate_at ho rfl ?_ (by rw[WV,Zc];lia) (W9 _))));refine WO (seqEpoch_at g1 rfl (WO (wpAny_newTuple ?_ (by show vs.length<=_;rw[Zc];lia))));refine WO (wpAny_newList (XN ?_) (W9 _));show wpAny (model G.P G.w) A _ P E { s with heap:=((s.heap.update a (Xs λ_=>(#[]:Array Value))).push (seqObj "tuple" vs.toArray 0)).push (seqObj "list" #[] 0) };dsimp only;by_cases h2:vs.toArray.size<2
  · have zn:vs.length<2:=(by simpa using h2);rw[if_pos h2,if_pos h2];refine WO (WS ?_);rw[StateT.run_pure];refine WO (WS ?_);dsimp only;have UJ:(arrOf (SortSt.mk' general' (vs.toArray.zip vs.toArray) #[] 7 none)).map (·.2)=vs.toArray:=by
      show (vs.toArray.zip vs.toArray).map (·.2)=vs.toArray;apply Array.toList_inj.mp;rw[Array.toList_map,Array.toList_zip];simp only[List.toList_toArray];have zz:∀l:List Value,(l.zip l).map (·.2)=l:=λl=>(by induction l with |nil=>rfl |cons x l ih=>simp [ih]);exact zz vs
    rw[UJ];refine WO (seqEpoch_at Td rfl (WO (listUpdate_at Td rfl ?_ (W9 _) (by rw[WV,Zc];lia))));simp only[bne_self_eq_false,Bool.false_eq_true,if_false];have q:=h (Xu vs.length) (.refl _);have zz:(Xu vs.length).map (λi=>vs.getD i XZ)=vs:=by
      refine List.ext_getElem (by simp) λi h1 h2=>?_;simp [Xn,WW h2]
    rw[zz]at q;exact WS q
  · have zn : 2 ≤ vs.length := by have : ¬ vs.length < 2 := by simpa using h2
                                  lia
    rw[if_neg h2,if_neg h2];obtain⟨fs,f1,f2,f3⟩:=hT.zI (P:=G.P) (w:=G.w) (s:={ s with heap:=((s.heap.update a (Xs λ_=>(#[]:Array Value))).push (seqObj "tuple" vs.toArray 0)).push (seqObj "list" #[] 0) }) i6;refine WO (kat_kind (T:=.type "str") f1 (by rw[f2];lia) f3 (by simp) ?_);have pp:=Kn.IY (lt:=i5 ps) vs.length;refine WO (Y5 (kat_run (ks:=vs) (Q:=λa2 s'=>arrOf a2=(krun (i5 ps) (kas_sort vs.length)).map (kas_item (vs.toArray.zip vs.toArray))/\failedOf a2=none/\s'={ s with heap:=((s.heap.update a (Xs λ_=>(#[]:Array Value))).push (seqObj "tuple" vs.toArray 0)).push (seqObj "list" #[] 0) })
      (G:=λq s'=>q=krun (i5 ps) (kas_sort vs.length)/\s'={ s with heap:=((s.heap.update a (Xs λ_=>(#[]:Array Value))).push (seqObj "tuple" vs.toArray 0)).push (seqObj "list" #[] 0) }) rfl zn hR (λq a2 s' _ SE SH ⟨SI,S8⟩=>⟨SI ▸ SE,SH,S8⟩) ?ask) ?_ λ_ _ e=>e)
    case ask=>
      refine Kn.zu (n:=vs.length) (R:=λ_=>True) (lt:=i5 ps) (λi j C hi hj q=>?_) (Kn.IX (by lia)) ⟨rfl,rfl⟩;have cu:i<ps.length:=(by rw[<- hT.1];exact hi);have lQ:j<ps.length:=(by rw[<- hT.1];exact hj);have UQ:ps[i]?=some ps[i]:=WW cu;have SV:ps[j]?=some ps[j]:=WW lQ;obtain⟨bi,Ui,ti,Wz,WA,SF,SE,SH,SI,S8,TB,T9⟩:=hT.2 i _ UQ;obtain⟨VD,WB,WC,WD,WE,c1,c2,c3,c4,c5,c6,WG⟩:=hT.2 j _ SV;unfold kas_ask;rw[Xn,Xn,SF,c1];refine kat_lt (i6.fz bi _ SE) SI (i6.fz VD _ c2) c4 ?_;have e:i5 ps i j=decide (ps[i].1.cps.toList<ps[j].1.cps.toList):=(by unfold i5;rw[Xn,Xn,UQ,SV];rfl);rw[e]at q;refine kat_cons (k6 50 (d:=.str ps[i].1) (e:=.str ps[j].1) i6 .str .str (by simp [aH]) (by lia) _ _ _ _ ?_);by_cases UR:i=j
      · subst UR;rw[gk _ rfl];refine kat_yes (kat_cons (k6 50 i6 (dg i6 S8 TB) (dg i6 c5 c6) T9 (by lia) _ _ _ _ ?_));rw[gk _ TB];rw[decide_eq_false (List.lt_irrefl _)]at q;exact kat_yes (kat_nil (by simpa using q))
      · have ne:ps[i].1≠ps[j].1:=fun z=>UR ((List.getElem_inj (h₀:=by simpa using cu) (h₁:=by simpa using lQ) nd).mp (by simpa using z));have e2:au (.str ps[i].1) (.str ps[j].1)=false:=by
          show (some ps[j].1 == some ps[i].1)=false;simpa using XC ne
        rw[e2];exact kat_no (oneLt_str q)
    rintro⟨⟨⟩,a2⟩ s' ⟨I9,hf,rfl⟩;dsimp only;have hout:=kat_snds rfl I9;rw[hout];have lp:(krun (i5 ps) (kas_sort vs.length)).toList.length=vs.length:=(by rw[Xg,pp.size_eq];simp);refine WO (seqEpoch_at Td rfl (WO (listUpdate_at Td rfl ?_ (W9 _) (by rw[WV,WQ,lp,Zc];lia))));rw[hf];simp only[bne_self_eq_false,Bool.false_eq_true,if_false];exact WS (h _ (by have:=Array.perm_iff_toList_perm.mp pp;simpa using this))
end
def zJ(t:DE):DE:=fun τ M q=>t τ M (ow λks ds M1=>ks.length<64/\(∀k∈ks,∃x,k=XW x)/\(∀d∈ds,ar d=true/\aH d<=50)/\∀ys:List (Key×D),ys.Perm (ks.zip ds)->bS (ys.map dA) M1 q)
section
variable{X:Cx}{o:Expr}{to:DE}{p1 q2 hY dB:Pos}
theorem Ja{G:Gx}{F:Fz}{ks:List Key}{ds:List D}{u:Value}(r:aa G F (.ag ks ds) u):ks.Nodup/\ds.length=ks.length:=by
 rw[aa]at r;obtain⟨a,o,us,rfl,h1,h2,h4,h3⟩:=r;exact⟨h2.nd,h3.len.trans h2.len⟩
theorem Jb(hc:X.calm=true)(hu:X.A.units+110<cLine)(hg:Gl X "sorted")(hm:X.G.mg "sorted"=none)(ho:PE X o to)(gx:attributeBase o "items" X.env (eval o X.env)=eval o X.env)(bv:(q2.endLine == dB.line)=true):
  PE X (.Call (.Name "sorted" p1) [.Call (.Attribute o "items" q2) [] [] dB] [] hY) (zJ to):=fun τ z Q R I h k=>by
 refine XU (dO I hg hm (by decide +kernel:bootBuiltins "sorted"=some (.builtin "sorted")) (by decide) (by decide) ?_);refine PyProof.Rows.callWith_builtin1 ?_ (bJ rfl) rfl;rw[bJ (e:=.Call (.Attribute o "items" q2) [] [] dB) rfl];show W X (spliced ((false,eval (.Call (.Attribute o "items" q2) [] [] dB) X.env)::backTo hY (starEach [] X.env))) _ z.s;refine Yn ?_;refine zr ho gx bv I h λks ds a z1 v l1 I1 r1 iv q1=>?_;refine YU ?_;obtain⟨hR,hk,hd,q⟩:=q1;obtain⟨nd,ln⟩:=Ja r1;obtain⟨S7,n,ep,vs,e,S,da,lv,lo⟩:=oo I1 r1;cases e;obtain⟨Jc,rel,Jd,R5⟩:=S.bf Le.rfl I1.hok;have lz:(ks.zip ds).length=ks.length:=by rw[Yu,ln,Nat.min_self]
 have bK:Jc.length=ks.length:=by rw[<- Paired.length rel,lz]
 refine Calls.call_function_entry kind_sorted plain_sorted entry_sorted (args_sorted1 _) ?_;unfold Builtin.«sorted»;refine WO (m:=checkCount "sorted" 1 1 _) (WS ?_);refine WO (kdx_collect (knd:=bx X.G.P X.G.w) (A:=X.A.in1) (I1.ok.hd hc) iv Jd (by rw[bK,Zc];lia) λh' tk as keep la Gp=>?_);obtain⟨l2,I2⟩:=I1.many (as:=as) (t:=tk) (λb o e=>keep b o e) λb hb=>Nat.le_of_lt (Gp.above b hb);obtain⟨ss,oy⟩:∃ss:List Str,ks=ss.map XW:=by
  clear hR nd ln lz bK rel S r1 q
  induction ks with
  |nil=>exact⟨[],rfl⟩
  |cons k ks ih=>
   obtain⟨x,rfl⟩:=hk k WZ;obtain⟨ss,rfl⟩:=ih λk hk'=>hk k (WY _ hk');exact⟨x::ss,rfl⟩
 have item:∀(i:Nat)(pr:Key×D),(ks.zip ds)[i]?=some pr->∃b t u s,as[i]?=some b/\pr.1=XW s/\cw z1.F as h' b=some (.dat { cls:=.type "tuple",data:=.seq #[.str s t,u] })/\aa X.G (cw z1.F as h') pr.2 u:=λi pr hp=>by
  obtain⟨q,hq,e1,r2⟩:=oq rel hp;have hi:i<as.length:=by rw[la];exact (List.getElem?_eq_some_iff.mp hq).1
  have hb:as[i]?=some as[i]:=WW hi;obtain⟨key,kk,x,g1,g2,g3⟩:=Gp.pairs i _ hb;rw[hq]at g1;cases g1;have Je:pr.1∈ks:=(YV (show (pr.1,pr.2)∈ks.zip ds from Xw hp)).1;obtain⟨s,hs⟩:=hk _ Je;have e3:kk=XW s:=e1.symm.trans hs;rw[e3]at g2;rcases dZ (show gS (XW s) key=true from g2) with ⟨i,t,e,_⟩ |⟨y,t,e,e2⟩
  ·cases e
  ·cases e;subst e2;exact⟨_,t,x,s,hb,hs,oj (Xw hb) g3,r2.up l2.d⟩
 have Jf:(ss.zip ds).length=as.length:=by rw[la,bK,<- lz,oy,Yu,Yu,WQ]
 have VE:∀(i:Nat)(p:Str×D),(ss.zip ds)[i]?=some p->(ks.zip ds)[i]?=some (XW p.1,p.2):=λi p hp=>by
  rw[oy,List.zip_map_left,W8,hp];rfl
 have Jg:h8 X.G (cw z1.F as h') (as.map XI) (ss.zip ds):=⟨by rw[WQ,Jf],λi p hp=>by
  obtain⟨b,t,u,s,g1,g2,g3,g4⟩:=item i _ (VE i p hp);cases g2;obtain⟨d1,d2⟩:=hd _ (YV (show (p.1,p.2)∈ss.zip ds from Xw hp)).2;exact⟨b,_,t,u,_,by rw[W8,g1];rfl,g3,rfl,rfl,g4,d1,d2⟩⟩
 have Jh:((ss.zip ds).map (·.1)).Nodup:=by
  rw[List.map_fst_zip (by rw[ln,oy,WQ];exact WU _)];rw[oy]at nd;exact (List.pairwise_map.mp nd).imp λh e=>h (congrArg XW e)
 have Ji:(as.map XI).length<=sizeLine:=by rw[WQ,la,bK,Zc];lia
 refine WO (wpAny_newList ?_ Ji);have eU:(h'.push { cls:=.type "list",data:=.seq (as.map XI).toArray }).get? h'.objs.size=some (seqObj "list" (as.map XI).toArray 0):=WX _ rfl;have TR:=I2.hok.cB (WU h'.objs.size);have TQ:=I2.hok.c8 (WU h'.objs.size);have Jj:aF X.G (cw z1.F as h') z1.M (h'.push { cls:=.type "list",data:=.seq (as.map XI).toArray }):=I2.hok.keep λb _ o e=>WR _ e;refine WO (XN (Xp slot_list_sort ⟨_,eU,rfl⟩ entry_list_sort (IZ (G:=X.G) (F:=cw z1.F as h') (M:=z1.M) (by show X.A.units+1+1+60<cLine;lia) Jj TR TQ eU Jg Jh (by rw[WQ,la,bK];lia) λp b1=>⟨_,rfl,?_⟩) (args_list_sort _)));refine WS ⟨_,rfl,?_⟩;obtain⟨e,lJ⟩:=sortedHeap_at (out:=(p.map λi=>(as.map XI).getD i XZ).toArray) eU;have lp:p.length=ks.length:=by rw[b1.length_eq,X5,WQ,la,bK]
 have pm:(p.map λi=>(ks.zip ds).getD i (XW "",.ai)).Perm (ks.zip ds):=by
  have:=b1.map λi=>(ks.zip ds).getD i (XW "",D.ai);have zz:(Xu (as.map XI).length).map (λi=>(ks.zip ds).getD i (XW "",D.ai))=ks.zip ds:=by
   refine List.ext_getElem (by rw[WQ,X5,WQ,la,bK,lz]) λi h1 h2=>?_;simp [Xn,WW h2]
  rw[zz]at this;exact this
 have rs:ae X.G (cw z1.F as h') ((p.map λi=>(ks.zip ds).getD i (XW "",D.ai)).map dA) (p.map λi=>(as.map XI).getD i XZ):=by
  have go:∀p:List Nat,(∀i∈p,i<ks.length)->ae X.G (cw z1.F as h') ((p.map λi=>(ks.zip ds).getD i (XW "",D.ai)).map dA) (p.map λi=>(as.map XI).getD i XZ):=λp hp=>by
   induction p with
   |nil=>exact .nil
   |cons i p ih=>
    refine .cons ?_ (ih λj hj=>hp j (WY _ hj));have hi:i<(ks.zip ds).length:=(by rw[lz];exact hp i WZ);have hz:(ks.zip ds)[i]?=some (ks.zip ds)[i]:=WW hi;obtain⟨b,t,u,s,g1,g2,g3,g4⟩:=item i _ hz;dsimp only;rw[Xn,Xn,hz,W8,g1];show aa X.G _ (dA (ks.zip ds)[i]) (.ref b);rw[dA,g2];exact nz g3 ⟨rfl,rfl,⟨0,rfl⟩,by show 2<=sizeLine;decide⟩ (.cons fy (.cons g4 .nil))
  exact go p λi hi=>by have:=b1.mem_iff.mp hi;rw[List.mem_range,WQ,la,bK]at this;exact this
 refine I2.lst (n:=e) (t:=tk) k (l1.tr l2) rs (λb o hb=>?_) (WU _) ?_ (by rw[WQ,lp,Zc];lia) (q _ pm)
 ·have ap:b<h'.objs.size:=W4 hb;rw[sortedHeap_old (W7 ap) (by rw[Xq];exact Yg ap)];exact WR _ hb
 ·rw[lJ];rfl
end
end N
end
section
set_option maxHeartbeats 1000000
namespace N
open PySem PySem.Spec PyProof.Rows L2
def oz:QM:=λo ds M q=>match o with
 |.str a=>match ds with
  |[.str b]=>∃i r,Yb a b 0 a.length 1=i::r/\q (.int (i:Nat)) M
  |_=>False
 |_=>False
theorem Jk{X:Cx}:OM X "str.index" oz:=fun τ z Q R d v ds us I rv rs h k=>by
 unfold oz at h;split at h
 ·rename_i a;rw[aa]at rv;obtain⟨t,rfl⟩:=rv;split at h
  ·rename_i b;obtain⟨u,rfl,ru⟩:=eh rs;rw[aa]at ru;obtain⟨t2,rfl⟩:=ru;obtain⟨i,r,e,q⟩:=h;exact call_gives PySem.F.slot_str_index (typeIs_str _ _ _) PySem.F.entry_str_index (PySem.F.args_str_index_2 _ _) (gives_str_index a b t t2 i r e) (I.fin k Le.rfl bM q _)
  ·exact h.elim
 ·exact h.elim
def zN(r r':D->D->Mp->(Bool->Prop)->Prop)(ta tb tc:DE):DE:=fun τ M q=>ta τ M λx M1=>tb τ M1 λy M2=>r x y M2 λe=>if e=true then tc τ M2 λw M3=>r' y w M3 λe'=>q (.bl e') M3 else q (.bl false) M2
theorem Jl{X:Cx}{a b c:Expr}{o p:CmpOp}{pos:Pos}{r r':D->D->Mp->(Bool->Prop)->Prop}{ta tb tc:DE}(ho:OC X (compareOp o) r)(qq:OC X (compareOp p) r')(ha:PE X a ta)(hb:PE X b tb)(hc:PE X c tc)(hm:behindInMarks p c=false):
  PE X (.Compare a [o,p] [b,c] pos) (zN r r' ta tb tc):=fun τ z Q R I h k=>
 Compare_chain (ha τ z _ _ I h λx z1 v l1 I1 r1 q1=>chain_link (hb τ z1 _ _ I1 q1 λy z2 u l2 I2 r2 q2=>ho τ z2 _ _ x y v u I2 (r1.up l2.d) r2 q2 λe t q3=>Yw (by
  have I3:=I2.kO t;cases e with
  |false=>exact ite_ff (k (.bl false) ⟨z2.F,z2.M,_⟩ _ (l1.tr l2) I3 iJ q3)
  |true=>exact ite_tt (chain_last (hc τ ⟨z2.F,z2.M,_⟩ _ _ I3 q3 λw z3 s l3 I4 r4 q4=>qq τ z3 _ _ y w u s I4 (r2.up l3.d) r4 q4 λe' t' q5=>I4.fin k (l1.tr (l2.tr l3)) iJ q5 t'))))) hm
def zO:QN:=λds M q=>(∃s,ds=[.str s]/\s.cps.size<=sizeLine/\bS (eO s) M q)\/yd ds M q
theorem zP{G:Gx}{F:Fz}:∀{cs:List Nat}{us:List Value},us.length=cs.length->(∀(j:Nat)(v:Value),us[j]?=some v->∃c u,cs[j]?=some c/\v=.str ⟨#[c]⟩ u)->ae G F (cs.map λc=>.str ⟨#[c]⟩) us
 |[],[],_,_=>.nil
 |[],_::_,h,_=>by cases h
 |_::_,[],h,_=>by cases h
 |c::cs,v::us,h,g=>by
  obtain⟨c',u,e1,e2⟩:=g 0 v rfl;cases e1;subst e2;exact .cons fy (zP (by simpa using h) λj w e=>g (j+1) w e)
theorem Jm{X:Cx}(hc:X.calm=true):CB X (.type "list") zO:=fun τ z Q R ds us I rs q k=>by
 rcases q with ⟨s,rfl,hz,q⟩ |q
 ·obtain⟨u,rfl,ru⟩:=eh rs;rw[aa]at ru;obtain⟨t,rfl⟩:=ru;refine call_list_str (I.ok.hd hc) s t (λh' tk acc c' kp e it=>?_) hz;refine I.lst (us:=acc.toList) (n:=c') k Le.rfl (zP (by rw[Xg,it.1,Xg]) λj v hj=>?_) (λb o q=>kp b o q) (WU _) (by rw[e];rfl) (by rw[Xg,it.1];exact hz) q;obtain⟨c,u,h1,h2⟩:=it.2 j v (by rw[<- Yc];exact hj);exact⟨c,u,by rw[Yc];exact h1,h2⟩
 ·exact GL τ z Q R ds us I rs q k
end N
end
section
set_option maxHeartbeats 1000000
namespace N
open PySem PySem.Spec PyProof.Rows L2
set_option genInjectivity false
set_option genSizeOfSpec false
inductive C where
 |ai |bl (b:Bool) |int (i:Int) |str (x:Str)
noncomputable def C.d:C->D
 |.ai=>.ai
 |.bl b=>.bl b
 |.int i=>.int i
 |.str x=>.str x
inductive Bi where
 |len |tuple |list |int |max |sum |dict |all |any |ia |sorted
inductive Mt where
 |append |pop |extend |get |update |j5
mutual
inductive E where
 |v (i:Nat) |c (k:C) |g (i:Nat) |ty (x:String) |tup (es:L) |lst (es:L)
 |op (o:Operator) (a b:E) |cmp (o:CmpOp) (a b:E) |neg (a:E) |and (a b:E) |or (a b:E) |not (a:E) |ite (c a b:E)
 |ix (a b:E) |sl (a lo hi:E) |rev (a:E) |call (i:Nat) (es:L) |bi (b:Bi) (es:L) |mt (m:Mt) (o:E) (es:L)
 |ch (o p:CmpOp) (a b c:E) |lc (n:Nat) (fr:List Nat) (g:G) (it:I) (c e:E) |fld (e:E) (f:Str) |new (i:Nat) (es:L) |dk (i:Nat) (o:E) (es:L) |app (f:E) (es:L)
 |sS |j6 (ks vs:L) |sset (e:E) |zQ (e:E) |zR (e:E) |ao
inductive L where
 |nil |cons (e:E) (r:L)
inductive I where
 |seq (e:E) |j7 (e:E) |sT (a b:E) |zip (a b:E) |enum (e:E) |sU (e:E) |sV (e:E) |no
end
mutual
inductive S where
 |set (g:G) (e:E) |put (o i e:E) |dT (o:E) (f:Str) (e:E) |ret (e:E) |ex (e:E) |cond (c:E) (a b:B) |loop (g:G) (it:I) (b:B) |fK (c:E) (b:B) |pass |brk |cnt |dead
inductive B where
 |nil |cons (s:S) (r:B)
end
structure Wd where
 sp:Nat->Sp
 gv:List D
 fl:Addr->Str->Prop
 ci:Nat->Option (Addr×Sp)
 mt:Nat->Option (Addr×Sp)
 ca:Addr->Sp->Prop
abbrev X0:XQ:=λ_ _=>False
def cx{α β γ:Type}:α->β->γ->Prop:=λ_ _ _=>False
noncomputable def zU(n:Nat)(fr:List Nat)(τ:St):St:=XS n none++fr.map λi=>(τ[i]?).join
def sW(n:Nat)(fr:List Nat)(g:G)(ti:DI)(tc:DT)(te:DE):DE:=fun τ M q=>ti τ M λxs ok M1=>cb ok g tc te (zU n fr τ) (λys M2=>bS ys M2 q) xs [] M1
theorem Jn(n:Nat)(fr:List (Str×Nat))(g:G)(ti:DI)(tc:DT)(te:DE):lD n fr g ti tc te=sW n (fr.map (·.2)) g ti tc te:=by
 unfold lD sW di zU;simp only[X7];rfl
def oA(fl:Addr->Str->Prop)(f:Str):Q1:=λx M q=>cT x M λa C dx fs=>∃d,fl C f/\fs.lookup f=some d/\q d M
def zW(fl:Addr->Str->Prop)(f:Str)(to tv:DE):DS:=λe τ M=>tv τ M λd M1=>to τ M1 λo M2=>cT o M2 λa C dx fs=>fl C f/\fs.length<1000/\e.nx τ (up M2 a (.ins C dx (fF f d fs)))
def Jo(c:Option (Addr×Sp))(t:DA):DE:=match c with
 |some (C,sp)=>ry C sp [] X0 t
 |none=>cx
def Jp(c:Option (Addr×Sp))(m:Str)(to:DE)(t:DA):DE:=match c with
 |some (C,sp)=>ly C m sp [] X0 to t
 |none=>cx
def zX:Bi->QN
 |.len=>yc |.tuple=>ye |.list=>zO |.int=>yf |.max=>rB |.sum=>yg |.dict=>rS |.all=>nW (·.all _root_.id) |.any=>nW (·.any _root_.id) |.ia=>sd |.sorted=>yN
noncomputable def Mt.ty:Mt->String
 |.get=>"dict" |.update=>"dict" |.j5=>"str" |_=>"list"
def zY:Mt->QM
 |.append=>rI |.pop=>rJ |.extend=>rK |.get=>rL |.update=>sL |.j5=>oz
noncomputable def j8:E->Bool
 |.ao=>true
 |_=>false
def oW(e:E)(t:DE):DO:=cond (j8 e) x6 (x7 t)
def Uk(e:E)(t:DT):DT:=cond (j8 e) gz t
noncomputable def vl(t:DE):DE×DT:=(t,xU t)
variable(W:Wd)(mn:List Str)
mutual
noncomputable def E.w:E->DE×DT
 |.v i=>vl (qt i)
 |.c k=>vl (SN k.d)
 |.g i=>vl (SN (W.gv.getD i .ai))
 |.ty x=>vl (SN (.ty x))
 |.tup es=>vl (wt es.w)
 |.lst es=>vl (wu es.w)
 |.op o a b=>vl (nu (qU o) a.w.1 b.w.1)
 |.cmp o a b=>(xK (iR o) a.w.1 b.w.1,xM (iR o) a.w.1 b.w.1)
 |.ch o p a b c=>(zN (iR o) (iR p) a.w.1 b.w.1 c.w.1,cx)
 |.neg a=>vl (jA x5 a.w.1)
 |.and a b=>(wx a.w.1 b.w.1,wA a.w.2 b.w.2)
 |.or a b=>(wy a.w.1 b.w.1,wB a.w.2 b.w.2)
 |.not a=>(wz a.w.1,wC a.w.2)
 |.ite c a b=>(wD c.w.2 a.w.1 b.w.1,cx)
 |.ix a b=>vl (nu aC a.w.1 b.w.1)
 |.sl a lo hi=>(x8 a.w.1 (oW lo lo.w.1) (oW hi hi.w.1),cx)
 |.rev a=>(jA rA a.w.1,cx)
 |.call i es=>vl (rh (W.sp i) [] X0 es.w)
 |.bi b es=>vl (S9 (zX b) es.w)
 |.mt m o es=>vl (lA m.ty (zY m) o.w.1 es.w)
 |.lc n fr g it c e=>(sW n fr g it.w (Uk c c.w.2) e.w.1,cx)
 |.fld e f=>vl (jA (oA W.fl f) e.w.1)
 |.new i es=>(Jo (W.ci i) es.w,cx)
 |.dk i o es=>vl (Jp (W.mt i) (mn.getD i "") o.w.1 es.w)
 |.app f es=>vl (yL W.ca X0 f.w.1 es.w)
 |.sS=>(yk,cx)
 |.j6 ks vs=>(yl (ks.wl.zip vs.wl),cx)
 |.sset e=>(zc e.w.1,cx)
 |.zQ e=>(zh e.w.1,cx)
 |.zR e=>(zJ e.w.1,cx)
 |.ao=>(cx,cx)
noncomputable def L.w:L->DA
 |.nil=>gV
 |.cons e r=>qu e.w.1 r.w
noncomputable def L.wl:L->List DE
 |.nil=>[]
 |.cons e r=>e.w.1::r.wl
noncomputable def I.w:I->DI
 |.seq e=>ou e.w.1
 |.sV e=>zt e.w.1
 |.j7 e=>wY e.w.1
 |.sT a b=>wZ a.w.1 b.w.1
 |.zip a b=>w6 a.w.1 b.w.1
 |.enum e=>w7 e.w.1
 |.sU e=>w8 e.w.1
 |.no=>cx
end
mutual
def S.w:S->DS
 |.set g e=>kR (e.w W mn).1 (cm g)
 |.put o i e=>kR (e.w W mn).1 (wU rg (o.w W mn).1 (i.w W mn).1)
 |.dT o f e=>zW W.fl f (o.w W mn).1 (e.w W mn).1
 |.ret e=>wG (e.w W mn).1
 |.ex e=>wF (e.w W mn).1
 |.cond c a b=>wH (c.w W mn).2 a.w b.w
 |.loop g it b=>zo (it.w W mn) (cm g) b.w
 |.fK c b=>wX (c.w W mn).2 b.w
 |.pass=>λe τ M=>e.nx τ M
 |.brk=>λe τ M=>e.SD τ M
 |.cnt=>λe τ M=>e.ct τ M
 |.dead=>cx
def B.w:B->DS
 |.nil=>λe τ M=>e.nx τ M
 |.cons s .nil=>s.w
 |.cons s r=>qv s.w r.w
end
structure Nm where
 lR:List Str
 fL:List Str
 cls:List Str
 af:List Str
noncomputable def dD(x:Str):List Str->Nat->Option Nat
 |[],_=>none
 |y::r,i=>if y=x then some i else dD x r (i+1)
noncomputable def oB(sc:Scope)(x:Str):Bool:=match sc.names.lookup x with
 |some .local=>true
 |some .cell=>true
 |some .free=>true
 |_=>false
noncomputable def aX(sc:Scope)(x:Str):Bool:=match sc.names.lookup x with
 |some .globalImplicit=>true
 |_=>false
noncomputable def loc(sc:Scope)(x:Str):Bool:=match sc.names.lookup x with
 |some .local=>true
 |some .cell=>true
 |_=>false
noncomputable def lS(sc:Scope)(x:Str):Bool:=match sc.names.lookup x with
 |some .local=>true
 |_=>false
noncomputable def lT(x:Str):Bool:=!(x == ("__debug__" : Str)) && !(x == ("__classdict__" : Str))
noncomputable def bL:Expr->Bool
 |.Set _ _ _=>false
 |.Slice _ _ _ _=>false
 |.Starred _ _=>false
 |_=>true
noncomputable def dE:Expr->Bool
 |.ListComp _ _ _ _=>true
 |.SetComp _ _ _ _=>true
 |.DictComp _ _ _ _ _=>true
 |_=>false
noncomputable def i7:Expr->Bool
 |.Tuple _ _ _=>true
 |_=>false
noncomputable def dF(sc scope:Scope):Scope:=
 { scope with names:=scope.names.map λ(n,k)=>if (k == .free && sc.kind == .function && sc.names.lookup n == some .cell) then (n,.cell) else (n,k) }
noncomputable def sX(x:Str):Option Bi:=if x="len" then some .len else if x="tuple" then some .tuple else if x="list" then some .list else if x="int" then some .int else if x="max" then some .max
 else if x="sum" then some .sum else if x="dict" then some .dict else if x="all" then some .all else if x="any" then some .any else if x="isinstance" then some .ia else if x="sorted" then some .sorted else none
noncomputable def sY(x:Str):Option Mt:=if x="append" then some .append else if x="pop" then some .pop else if x="extend" then some .extend else if x="get" then some .get else if x="update" then some .update else if x="index" then some .j5 else none
noncomputable def zZ(x:Str):E:=if x="tuple" then .ty "tuple" else if x="bool" then .ty "bool" else if x="str" then .ty "str" else if x="int" then .ty "int" else if x="list" then .ty "list" else .ao
noncomputable def j9(o:Option Nat)(f:Nat->E)(e:E):E:=match o with
 |some i=>f i
 |none=>e
noncomputable def L.of:List E->L
 |[]=>.nil
 |e::r=>.cons e (L.of r)
noncomputable def eZ(f:E->E->E):List E->E
 |[]=>.ao
 |[e]=>e
 |e::r=>f e (eZ f r)
noncomputable def sZ:Expr->Option (Str×Pos)
 |.Name x p=>some (x,p)
 |_=>none
noncomputable def nms:List Expr->Option (List (Str×Pos))
 |[]=>some []
 |e::r=>(sZ e).bind λq=>(nms r).map (q::·)
noncomputable def eu:Expr->List (Str×Pos)
 |.Name x p=>[(x,p)]
 |.Tuple es _ _=>(nms es).getD []
 |_=>[]
noncomputable def s6(N:List Str)(ok:Str->Bool)(l:List (Str×Pos)):Option G:=if l.all (λq=>ok q.1 && (dD q.1 N 0).isSome) then some (.many (l.map λq=>(dD q.1 N 0).getD 0)) else none
noncomputable def fM(N:List Str)(ok:Str->Bool):Expr->Option G
 |.Name x _=>if ok x then (dD x N 0).map .one else none
 |.Tuple es _ _=>(nms es).bind (s6 N ok)
 |_=>none
noncomputable def ew(N:List Str)(names:List (Str×NameKind)):List (Str×Nat):=names.filterMap λy=>if y.2=.free then (dD y.1 N 0).map λi=>(y.1,i) else none
variable(m:Nm)
noncomputable def s9(N:List Str)(sc:Scope)(x:Str)(as:L)(ne:Bool):E:=
 if aX sc x then j9 (dD x m.lR 0) (.call · as) (j9 (dD x m.cls 0) (.new · as) (match sX x with |some b=>if ne then .bi b as else .ao |none=>.ao)) else .ao
noncomputable def td(y:Str)(o:E)(as:L):E:=j9 (dD y m.af 0) (.dk · o as) (match sY y with |some b=>.mt b o as |none=>.ao)
noncomputable def oD(N:List Str)(sc:Scope)(x:Str):E:=
 if lT x then (if oB sc x then j9 (dD x N 0) .v .ao else if aX sc x then j9 (dD x m.fL 0) .g (zZ x) else .ao) else .ao
noncomputable def tf:Const->E
 |.int i=>.c (.int i)
 |.str x=>.c (.str x)
 |.bool b=>.c (.bl b)
 |.none=>.c .ai
 |_=>.ao
noncomputable def tj(sc:Scope)(x:Str):List Expr->Option Expr
 |[.Call (.Name g _) [a] [] _]=>if x="sorted"/\g="set"/\aX sc x=true/\aX sc g=true/\bL a=true then some a else none
 |_=>none
noncomputable def tm(sc:Scope)(x:Str):List Expr->Option Expr
 |[.Call (.Name g _) [a] [] _]=>if x="list"/\g="enumerate"/\aX sc x=true/\aX sc g=true/\bL a=true then some a else none
 |_=>none
noncomputable def tu(sc:Scope)(x:Str):List Expr->Option Expr
 |[.Call (.Attribute o y q) [] [] p]=>if x="sorted"/\y="items"/\aX sc x=true/\PL.fE o=false/\(q.endLine == p.line)=true then some o else none
 |_=>none
noncomputable def j'(o:Option Expr)(f:Expr->E):E:=match o with
 |some x=>f x
 |none=>.ao
noncomputable def kc(o:Option Expr)(f:Expr->E):Bool:=match o with
 |some x=>!j8 (f x)
 |none=>true
noncomputable def z9:Const->Bool
 |.int i=>decide (i=1)
 |_=>false
noncomputable def tw:Expr->Bool
 |.Constant c _ _=>z9 c
 |_=>false
noncomputable def tC:UnaryOp->Bool
 |.USub=>true
 |_=>false
noncomputable def tD:Expr->Bool
 |.UnaryOp o x _=>tC o && tw x
 |_=>false
noncomputable def Aa(f:Expr->E)(a:Expr)(lo hi:Option Expr):Option Expr->E
 |none=>if kc lo f && kc hi f then .sl (f a) (j' lo f) (j' hi f) else .ao
 |some s=>if tD s && (lo.isNone && hi.isNone) then .rev (f a) else .ao
noncomputable def Jq(f:Expr->E)(a:Expr):Expr->E
 |.Slice lo hi st _=>Aa f a lo hi st
 |_=>.ao
noncomputable def tE(f:Expr->E)(a b:Expr):E:=if bL b then .ix (f a) (f b) else Jq f a b
noncomputable def Ab(f:Expr->E)(a:Expr):List CmpOp->List Expr->E
 |[o],[b]=>if bL b then .cmp o (f a) (f b) else .ao
 |[o,p],[b,c]=>if bL c then .ch o p (f a) (f b) (f c) else .ao
 |_,_=>.ao
noncomputable def Jr(e:E):UnaryOp->E
 |.USub=>.neg e
 |.Not=>.not e
 |_=>.ao
noncomputable def Js(es:List E):BoolOp->E
 |.And=>eZ .and es
 |.Or=>eZ .or es
noncomputable def tF(ns:List Str)(sc:Scope)(f:Expr->E)(es:List Expr)(pos:Pos):Expr->E
  | .Name x _=>match tj sc x es with
    |some a=>.sset (f a)
    |none=>match tm sc x es with
     |some a=>.zQ (f a)
     |none=>match tu sc x es with
      |some a=>.zR (f a)
      |none=>if lT x && bh es then (if oB sc x then (if es.isEmpty then .ao else .app (oD m ns sc x) (L.of (es.map f))) else s9 m ns sc x (L.of (es.map f)) (!es.isEmpty)) else .ao
  |.Attribute o y q=>if (q.endLine == pos.line) && !PL.fE o && bh es && decide (es.length<29) then td m y (f o) (L.of (es.map f)) else .ao
  |.Subscript a b q=>if bh es && !es.isEmpty then .app (f (.Subscript a b q)) (L.of (es.map f)) else .ao
  |_=>.ao
noncomputable def Jt(e:E):List Keyword->E
 |[]=>e
 |_=>.ao
noncomputable def i8(sc:Scope)(f:Expr->E)(tg:Expr):Expr->I
 |.Call (.Name g p) [a] [] q=>if aX sc g && bL a then (if g="range" then I.j7 (f a) else if g="enumerate"/\i7 tg=true then .enum (f a) else if g="reversed" then .sU (f a) else .seq (f (.Call (.Name g p) [a] [] q))) else .seq (f (.Call (.Name g p) [a] [] q))
 |.Call (.Name g p) [a,b] [] q=>if aX sc g && bL a && bL b then (if g="range" then I.sT (f a) (f b) else if g="zip"/\i7 tg=true then .zip (f a) (f b) else .seq (f (.Call (.Name g p) [a,b] [] q))) else .seq (f (.Call (.Name g p) [a,b] [] q))
 |.Call (.Attribute o y q) [] [] p=>if y="items"/\i7 tg=true/\PL.fE o=false/\(q.endLine == p.line)=true then .sV (f o) else .seq (f (.Call (.Attribute o y q) [] [] p))
 |e=>.seq (f e)
noncomputable def cc(ns:List Str)(scope:Scope)(tg:Expr):List Str:=(eu tg).map (·.1)++(ew ns scope.names).map (·.1)
noncomputable def Ac(ns:List Str)(sc:Scope)(f:List Str->Scope->Expr->E)(a7:Expr)(scope:Scope)(tg iter:Expr)(a1:List Expr):E:=
 match fM (cc ns scope tg) (lS (dF sc scope)) tg with
 | some g=>if lq sc ns scope (ew ns scope.names) && g.lt ((eu tg).map (·.1)).length && decide (cc ns scope tg).Nodup && bL iter then (match a1 with
   |[]=>.lc ((eu tg).map (·.1)).length ((ew ns scope.names).map (·.2)) g (i8 sc (f ns sc) tg iter) .ao (f (cc ns scope tg) (dF sc scope) a7)
   |[c]=>if j8 (f (cc ns scope tg) (dF sc scope) c) then .ao else .lc ((eu tg).map (·.1)).length ((ew ns scope.names).map (·.2)) g (i8 sc (f ns sc) tg iter) (f (cc ns scope tg) (dF sc scope) c) (f (cc ns scope tg) (dF sc scope) a7)
   |_=>.ao) else .ao
 |none=>.ao
noncomputable def tH(ns:List Str)(sc:Scope)(f:List Str->Scope->Expr->E)(a7:Expr)(scope:Scope):List Comprehension->E
 |[⟨tg,iter,a1,0⟩]=>Ac ns sc f a7 scope tg iter a1
 |_=>.ao
noncomputable def tI(f:Expr->E)(ks:List (Option Expr))(vs:List Expr):E:=
 if ks.isEmpty && vs.isEmpty then .sS else if ks.all (·.isSome) && decide (ks.length=vs.length) && decide (ks.length<=15) && !ks.isEmpty then .j6 (L.of (ks.map λk=>match k with |some k=>f k |none=>.ao)) (L.of (vs.map f)) else .ao
noncomputable def aV:Nat->List Str->Scope->Expr->E
 | 0,_,_,_=>.ao
 |n+1,ns,sc,e=>match e with
  |.Name x _=>oD m ns sc x
  |.Constant c _ _=>tf c
  |.Tuple es _ _=>if bh es then .tup (L.of (es.map (aV n ns sc))) else .ao
  |.List es _=>if bh es then .lst (L.of (es.map (aV n ns sc))) else .ao
  |.BinOp a o b _=>.op o (aV n ns sc a) (aV n ns sc b)
  |.Compare a os bs _=>Ab (aV n ns sc) a os bs
  |.UnaryOp o a _=>Jr (aV n ns sc a) o
  |.BoolOp o vs _=>Js (vs.map (aV n ns sc)) o
  |.IfExp c a b _=>.ite (aV n ns sc c) (aV n ns sc a) (aV n ns sc b)
  |.Subscript a b _=>tE (aV n ns sc) a b
  |.Call g es sK p=>Jt (tF m ns sc (aV n ns sc) es p g) sK
  |.Attribute o f _=>if !PL.fE o then .fld (aV n ns sc o) f else .ao
  |.ListComp a7 Tj scope _=>tH ns sc (aV n) a7 scope Tj
  |.Dict ks vs _=>tI (aV n ns sc) ks vs
  |_=>.ao
end N
end
section
set_option maxHeartbeats 1000000
namespace N
open PySem PySem.Spec PyProof.Rows L2
theorem Ad{x:Str}:∀{l:List Str}{i j:Nat},dD x l i=some j->∃k,j=i+k/\l[k]?=some x
 |[],_,_,h=>by cases h
 |y::r,i,j,h=>by
  unfold dD at h;split at h
  ·rename_i e;cases h;exact⟨0,rfl,by rw[e];rfl⟩
  ·obtain⟨k,e,q⟩:=Ad h;exact⟨k+1,by lia,q⟩
theorem ib{x:Str}{l:List Str}{j:Nat}(h:dD x l 0=some j):l[j]?=some x:=by
 obtain⟨k,e,q⟩:=Ad h;rw[e,Nat.zero_add];exact q
theorem Ju{sc:Scope}{x:Str}(h:oB sc x=true):jt sc x:=by
 unfold oB at h;unfold jt;split at h <;> first |(rename_i e;rw[e];first |exact .inl rfl |exact .inr (.inl rfl) |exact .inr (.inr rfl)) |cases h
theorem Jv{sc:Scope}{x:Str}(h:aX sc x=true):sc.names.lookup x=some .globalImplicit:=by
 unfold aX at h;split at h <;> first |assumption |cases h
theorem Ae{sc:Scope}{x:Str}(h:loc sc x=true):L2.ju sc x:=by
 unfold loc at h;unfold L2.ju;split at h <;> first |(rename_i e;rw[e];first |exact .inl rfl |exact .inr rfl) |cases h
theorem Af{sc:Scope}{x:Str}(h:lS sc x=true):sc.names.lookup x=some .local:=by
 unfold lS at h;split at h <;> first |assumption |cases h
theorem ic{y:Str}(h:lT y=true):(y == ("__debug__" : Str))=false/\(y == ("__classdict__" : Str))=false:=by
 unfold lT at h;rw[WT,Bool.not_eq_true',Bool.not_eq_true']at h;exact h
theorem lU{e : Expr}(h : bL e = true): bU e = true ∧ (∀ o, behindInMarks o e = false) ∧ (∀ o i, subscripted e false o i = operate [o, i] (getItem o i)) ∧ (∀(env : Env)x, foldedSetIterable e env x = pure x) ∧ ∀(o : Expr)(pos : Pos)(env : Env)v, assign (.Subscript o e pos) env v = (do
      let ov <- holding [v] (eval o env)
      let iv <- holding [v,ov] (eval e env)
      standAt pos
      holding [v,ov,iv] (setItem ov iv v)
      release [v,ov,iv] []):=by cases e <;> first |exact⟨rfl,λ_=>rfl,λ_ _=>rfl,λ_ _=>rfl,λ_ _ _ _=>rfl⟩ |cases h
theorem oE{e:Expr}(h:bL e=true):bU e=true:=(lU h).1
theorem tJ{e:Expr}{o:CmpOp}(h:bL e=true):behindInMarks o e=false:=(lU h).2.1 o
theorem Jw{e:Expr}(h:bL e=true):∀o i,subscripted e false o i=operate [o,i] (getItem o i):=(lU h).2.2.1
theorem tK{e:Expr}{env:Env}(h:bL e=true):∀x,foldedSetIterable e env x=pure x:=(lU h).2.2.2.1 env
theorem Jx{o i : Expr}{pos : Pos}{env : Env}(h : bL i = true): ∀ v, assign (.Subscript o i pos) env v = (do
      let ov <- holding [v] (eval o env)
      let iv <- holding [v,ov] (eval i env)
      standAt pos
      holding [v,ov,iv] (setItem ov iv v)
      release [v,ov,iv] []):=(lU h).2.2.2.2 o pos env
theorem lV{e:Expr}{t:Option Expr}{n:Nat}{env:Env}(h:dE e=false):swapsWith e t n env=pure false:=by cases e <;> first |rfl |cases h
theorem Jy{t v:Expr}{env:Env}(h:i7 v=false):swappedStores [t] v env=pure none:=by
 cases t <;> first |rfl |(cases v <;> first |rfl |cases h)
noncomputable def i9:List Str:=["len","tuple","list","int","max","min","sum","dict","all","any","isinstance","sorted","set","bool","str","range","zip","enumerate","reversed"]
structure oF(m:Nm)(W:Wd)(k:Nat)(G:Gx):Prop where
 fn:∀i x,m.lR[i]?=some x->∃f fd ps,bj G k f fd ps (W.sp i)/\G.mg x=some (.ref f)/\PySem.W.keepIn G.K (.ref f)=true/\bO G.K fd ps []
 gv:∀i x,m.fL[i]?=some x->∃u,G.mg x=some u/\∀F:Fz,(∀b o,G.base.get? b=some o->F b=some (.dat o))->aa G F (W.gv.getD i .ai) u
 bl:∀x∈i9,G.mg x=none
 fl:∀C f,W.fl C f->b9 G.K C/\dP G.K C f
 cl:∀i x C sp,m.cls[i]?=some x->W.ci i=some (C,sp)->∃j f fd ps,j+1<=k/\Mk G.K C f/\bj G j f fd ps sp/\G.mg x=some (.ref C)/\bO G.K fd ps []
 mt:∀i x C sp,m.af[i]?=some x->W.mt i=some (C,sp)->∃f fd ps,b9 G.K C/\jI G.K C x f/\bj G k f fd ps sp/\bO G.K fd ps []
 ca:∀f sp,W.ca f sp->hO G k f sp
structure bu(m:Nm)(W:Wd)(k:Nat)(ns:List Str)(sc:Scope)(X:Cx):Prop where
 hN:X.N=ns
 eo:X.env.scope=sc
 nd:ns.Nodup
 calm:X.calm=true
 room:bC k X.A
 en:oF m W k X.G
theorem gB{X:Cx}:dR X X0:=λ_ _ _ h=>h.elim
theorem i'{X:Cx}:eT X [] []:=λ_ _ _=>.nil
section
variable{m:Nm}{W:Wd}{k:Nat}{ns:List Str}{sc:Scope}{X:Cx}{x:Expr}{t:DE×DT}
theorem bu.lW(C:bu m W k ns sc X):X.A.units+110<cLine:=by have:=C.room.un;lia
theorem bu.u1(C:bu m W k ns sc X):X.A.units+1<cLine:=by have:=C.room.un;lia
theorem bu.aX(C:bu m W k ns sc X){y:Str}(h:aX sc y=true):Gl X y:=by
 show X.env.scope.names.lookup y=_;rw[C.eo];exact Jv h
theorem bu.lc(C:bu m W k ns sc X){scope:Scope}{N':List Str}{cl:List (Str×Addr)}{a:Addr}(nd:N'.Nodup):bu m W k N' (dF sc scope) (dj X scope N' cl a):=
 ⟨rfl,by rw[<- C.eo];rfl,nd,C.calm,C.room,C.en⟩
structure a0(X:Cx)(x:Expr)(w:DE×DT):Prop where
 e:PE X x w.1
 t:PT X x w.2
 s:dE x=true->∀(y:Str)(j:Nat)(py jU:Pos),iK X [j] [y]->swapsWith x (some (.Name y py)) jU.line X.env=pure true->PS X (.Assign [.Name y py] x jU) (kR w.1 (cm (.one j)))
theorem a0.val{d:DE}(h:PE X x d)(he:∀iI,isTrue x X.env iI=(do let v <- iI;standAt x.pos;holding [v] (truthy v)):=by exact λ_=>rfl)(hl:dE x=false:=by rfl):a0 X x (vl d):=⟨h,Gh h he,λz=>by rw[hl]at z;cases z⟩
theorem a0.no{d:DE}(h:PE X x d)(hl:dE x=false:=by rfl):a0 X x (d,cx):=⟨h,qA,λz=>by rw[hl]at z;cases z⟩
theorem a0.ao:a0 X x (E.ao.w W m.af):=by
 refine⟨kQ,qA,λ_ _ _ _ _ _ _=>?_⟩;exact fun τ z e R I h=>h.elim
theorem a0.two{d:DE}{u:DT}(h:PE X x d)(h':PT X x u)(hl:dE x=false:=by rfl):a0 X x (d,u):=⟨h,h',λz=>by rw[hl]at z;cases z⟩
theorem lX{o:Option Nat}{f:Nat->E}{e:E}(h1:∀i,o=some i->a0 X x ((f i).w W m.af))(h2:a0 X x (e.w W m.af)):a0 X x ((j9 o f e).w W m.af):=by
 cases o with
 |none=>exact h2
 |some i=>exact h1 i rfl
theorem lY{f:Expr->E}:∀{es:List Expr},bh es=true->(∀e∈es,PE X e ((f e).w W m.af).1)->PA X es ((L.of (es.map f)).w W m.af)
 |[],_,_=>by rw[XT,L.of,L.w];exact nv
 |e::es,h,g=>by
  have h':(bU e && bh es)=true:=h;rw[WT]at h';rw[W0,L.of,L.w];exact ny (g e WZ) (lY h'.2 λa ha=>g a (WY _ ha)) (bJ h'.1)
theorem Ag{f:Expr->E}{p:Pos}:∀{vs:List Expr},(∀e∈vs,a0 X e ((f e).w W m.af))->PE X (.BoolOp .And vs p) ((eZ .and (vs.map f)).w W m.af).1/\PW X (.BoolOp .And vs p) ((eZ .and (vs.map f)).w W m.af).2
 |[],_=>⟨kQ,wN⟩
 |[a],g=>⟨wK (g a WZ).e,Eh (g a WZ).t⟩
 |a::b::r,g=>by
  have i:=Ag (p:=p) (vs:=b::r) λe he=>g e (WY _ he);have e:eZ .and ((a::b::r).map f)=.and (f a) (eZ .and ((b::r).map f)):=rfl;rw[e,E.w];exact⟨Em (g a WZ).e i.1,Ej (g a WZ).t i.2⟩
theorem Ah{f:Expr->E}{p:Pos}:∀{vs:List Expr},(∀e∈vs,a0 X e ((f e).w W m.af))->PE X (.BoolOp .Or vs p) ((eZ .or (vs.map f)).w W m.af).1/\PW X (.BoolOp .Or vs p) ((eZ .or (vs.map f)).w W m.af).2
 |[],_=>⟨kQ,wN⟩
 |[a],g=>⟨wK (g a WZ).e,Ei (g a WZ).t⟩
 |a::b::r,g=>by
  have i:=Ah (p:=p) (vs:=b::r) λe he=>g e (WY _ he);have e:eZ .or ((a::b::r).map f)=.or (f a) (eZ .or ((b::r).map f)):=rfl;rw[e,E.w];exact⟨Eo (g a WZ).e i.1,Ek (g a WZ).t i.2⟩
theorem Ai{u:DT}(h:PW X x u):PT X x u:=fun τ z Q R I q k=>h _ τ z Q R I q k
theorem Aj(C:bu m W k ns sc X){y:Str}{p:Pos}:a0 X (.Name y p) ((oD m ns sc y).w W m.af):=by
 unfold oD;split
 ·rename_i ho;split
  ·rename_i hv;exact lX (λi hi=>by rw[E.w];exact .val (Ea (by rw[C.hN];exact ib hi) (by rw[C.eo];exact Ju hv) (ic ho).1 (ic ho).2)) .ao
  ·split
   ·rename_i hg;refine lX (λi hi=>?_) ?_
    ·obtain⟨u,h1,h2⟩:=C.en.gv i y (ib hi);rw[E.w];exact .val (Ef (C.aX hg) h1 (ic ho).1 fun τ z I=>h2 z.F I.bs.b)
    ·have ty:∀{T:String},y∈i9->bootBuiltins y=some (.type T)->y≠"__name__"->a0 X (.Name y p) ((E.ty T).w W m.af):=λh1 h2 h3=>(by rw[E.w];exact .val (HF (C.aX hg) (C.en.bl y h1) h2 h3 (ic ho).1));unfold zZ;split
     ·rename_i e;subst e;exact ty (by decide) (by decide +kernel) (by decide)
     ·split
      ·rename_i e;subst e;exact ty (by decide) (by decide +kernel) (by decide)
      ·split
       ·rename_i e;subst e;exact ty (by decide) (by decide +kernel) (by decide)
       ·split
        ·rename_i e;subst e;exact ty (by decide) (by decide +kernel) (by decide)
        ·split
         ·rename_i e;subst e;exact ty (by decide) (by decide +kernel) (by decide)
         ·exact .ao
   ·exact .ao
 ·exact .ao
theorem Jz{c:Const}{kk:Nat}{p:Pos}:a0 X (.Constant c kk p) ((tf c).w W m.af):=by
 unfold tf;split
 ·rw[E.w];exact .val wJ
 ·rw[E.w];exact .val Ee
 ·rw[E.w];exact .val Ec
 ·rw[E.w];exact .val Ed
 ·exact .ao
end
end N
end
section
set_option maxHeartbeats 1000000
namespace N
open PySem PySem.Spec PyProof.Rows L2
section
variable{m:Nm}{W:Wd}{k:Nat}{ns:List Str}{sc:Scope}{X:Cx}{x:Expr}
def Bi.nm:Bi->Str
 |.len=>"len" |.tuple=>"tuple" |.list=>"list" |.int=>"int" |.max=>"max" |.sum=>"sum" |.dict=>"dict" |.all=>"all" |.any=>"any" |.ia=>"isinstance" |.sorted=>"sorted"
def Mt.nm:Mt->Str
 |.append=>"append" |.pop=>"pop" |.extend=>"extend" |.get=>"get" |.update=>"update" |.j5=>"index"
theorem JA{y:Str}{b:Bi}(h:sX y=some b):y=b.nm:=by
 unfold sX at h
 repeat' split at h
 all_goals first |(cases h;assumption) |cases h
theorem JB{y:Str}{b:Mt}(h:sY y=some b):y=b.nm:=by
 unfold sY at h
 repeat' split at h
 all_goals first |(cases h;assumption) |cases h
theorem JC(C:bu m W k ns sc X){e:Expr}{es:List Expr}{p pos:Pos}{tA:DA}(hA:PA X (e::es) tA)(hs:bh (e::es)=true):∀b:Bi,aX sc b.nm=true->PE X (.Call (.Name b.nm p) (e::es) [] pos) (S9 (zX b) tA):=by
 have h':(bU e && bh es)=true:=hs;rw[WT]at h';have fb:∀{y:Str}{id:String}{r:QN},CB X (.builtin id) r->aX sc y=true->y∈i9->bootBuiltins y=some (.builtin id)->y≠"__name__"->(y == ("__debug__" : Str))=false->PE X (.Call (.Name y p) (e::es) [] pos) (S9 r tA):=
  λhc hg hb hv hn hd=>GI hc (C.aX hg) (C.en.bl _ hb) hv hA hn hd (bJ h'.1) (eR h'.2)
 have TX:∀{y:Str}{T:String}{r:QN},CB X (.type T) r->aX sc y=true->y∈i9->bootBuiltins y=some (.type T)->y≠"__name__"->(y == ("__debug__" : Str))=false->PE X (.Call (.Name y p) (e::es) [] pos) (S9 r tA):=
  λhc hg hb hv hn hd=>yh hc (C.aX hg) (C.en.bl _ hb) hv hA hn hd (bJ h'.1) (eR h'.2)
 intro b hg;cases b with
 |len=>exact fb GJ hg (by decide) (by decide +kernel) (by decide) (by decide)
 |tuple=>exact TX GN hg (by decide) (by decide +kernel) (by decide) (by decide)
 |list=>exact TX (Jm C.calm) hg (by decide) (by decide +kernel) (by decide) (by decide)
 |int=>exact TX GK hg (by decide) (by decide +kernel) (by decide) (by decide)
 |max=>exact fb (GO C.calm) hg (by decide) (by decide +kernel) (by decide) (by decide)
 |sum=>exact fb (GP C.calm) hg (by decide) (by decide +kernel) (by decide) (by decide)
 |dict=>exact TX (yy C.calm) hg (by decide) (by decide +kernel) (by decide) (by decide)
 |all=>exact fb (GQ C.calm) hg (by decide) (by decide +kernel) (by decide) (by decide)
 |any=>exact fb (GR C.calm) hg (by decide) (by decide +kernel) (by decide) (by decide)
 |ia=>exact fb HH hg (by decide) (by decide +kernel) (by decide) (by decide)
 |sorted=>exact fb (HI C.calm) hg (by decide) (by decide +kernel) (by decide) (by decide)
theorem JD{o:Expr}{es:List Expr}{q p:Pos}{to:DE}{tA:DA}(ho:PE X o to)(hA:PA X es tA)(h0:es=[]->tA=gV)(hs:bh es=true)(hl:es.length<29)(hb:PL.fE o=false)(bv:(q.endLine == p.line)=true):∀b:Mt,PE X (.Call (.Attribute o b.nm q) es [] p) (lA b.ty (zY b) to tA):=by
 have go:∀{T id:String}{y:Str}{r:QM},PlainAttrs T->Slot T y id->typeOf (.builtin id)=pure (.type "method_descriptor")->OM X id r->PE X (.Call (.Attribute o y q) es [] p) (lA T r to tA):=λpa sl ty hm=>by
  cases es with
  |nil=>cases h0 rfl;exact GS pa sl ty hm ho (PL.jM hb) bv
  |cons e es=>
   have h':(bU e && bh es)=true:=hs;rw[WT]at h';exact GU pa sl ty hm ho hA (PL.jM hb) (xB hs hl) bv (bJ h'.1) (eR h'.2)
 intro b;cases b with
 |append=>exact go PySem.F.plainAttrs_list PySem.F.slot_list_append PySem.F.type_list_append GX
 |pop=>exact go PySem.F.plainAttrs_list PySem.F.slot_list_pop PySem.F.type_list_pop GY
 |extend=>exact go PySem.F.plainAttrs_list PySem.F.slot_list_extend PySem.F.type_list_extend Hs
 |get=>exact go PySem.F.plainAttrs_dict PySem.F.slot_dict_get PySem.F.type_dict_get G0
 |update=>exact go PySem.F.plainAttrs_dict PySem.F.slot_dict_update PySem.F.type_dict_update IM
 |j5=>exact go PySem.F.plainAttrs_str PySem.F.slot_str_index PySem.F.type_str_index Jk
theorem JE(C:bu m W k ns sc X){y:Str}{es:List Expr}{p pos:Pos}{f:Expr->E}(ho:lT y=true)(hs:bh es=true)(g:∀ e∈es,PE X e ((f e).w W m.af).1):
  a0 X (.Call (.Name y p) es [] pos) ((s9 m ns sc y (L.of (es.map f)) (!es.isEmpty)).w W m.af):=by
 have hA:=lY hs g;unfold s9;split
 ·rename_i hg;refine lX (λi hi=>?_) (lX (λi hi=>?_) ?_)
  ·obtain⟨fa,fd,ps,g1,g2,g3,g4⟩:=C.en.fn i y (ib hi);rw[E.w];refine .val ?_;cases es with
   |nil=>exact Gq g1 C.room (C.aX hg) g2 g3 g4 i' gB (ic ho).1
   |cons e es=>
    have h':(bU e && bh es)=true:=hs;rw[WT]at h';exact Gm g1 C.room (C.aX hg) g2 g3 g4 i' gB hA (ic ho).1 (bJ h'.1) (eR h'.2)
  ·rw[E.w];refine .no ?_;cases hc:W.ci i with
   |none=>exact kQ
   |some cs=>
    obtain⟨Ca,sp⟩:=cs;obtain⟨j,fa,fd,ps,g0,g1,g2,g3,g4⟩:=C.en.cl i y Ca sp (ib hi) hc;cases es with
    |nil=>exact GB g1 g2 (C.room.mono g0) (C.aX hg) g3 g4 i' gB (ic ho).1
    |cons e es=>
     have h':(bU e && bh es)=true:=hs;rw[WT]at h';exact GA g1 g2 (C.room.mono g0) (C.aX hg) g3 g4 i' gB hA (ic ho).1 (bJ h'.1) (eR h'.2)
  ·split
   ·rename_i b hb;split
    ·cases es with
     |nil=>contradiction
     |cons e es=>
      cases JA hb;rw[E.w];exact .val (JC C hA hs b hg)
    ·exact .ao
   ·exact .ao
 ·exact .ao
theorem Ak{o : Expr}{es : List Expr}{y : Str}{q pos : Pos}{env : Env}(hb : PL.fE o = false)(hs : bh es = true)(hl : es.length < 29)(bv : (q.endLine == pos.line) = true): eval (.Call (.Attribute o y q) es [] pos) env = (do
      let ov <- eval o env
      standAt q.atName
      let (f,first) <- holding [ov] (getMethod ov y (do return (<- importBound o env).getD true))
      callWith pos f first (backTo pos (starEach es env)) (backToKw pos (keywordEach [] env))):=by
  have e1:eval (.Call (.Attribute o y q) es [] pos) env=(do
    let ov <- attributeBase o y env (eval o env)
    standAt q.atName
    methodCall o y q pos env ov (es.length+([]:List Keyword).length) (backTo pos (starEach es env)) (backToKw pos (keywordEach [] env))):=rfl
  rw[e1,PL.jM hb];have e2:methodCallForm (es.length+([]:List Keyword).length) (backTo pos (starEach es env)) (backToKw pos (keywordEach [] env))=true:=xB (env:=env) (cpos:=pos) hs hl;unfold methodCall;rw[e2];unfold calleeOf methodCallPos;rw[bv];rfl
theorem JF(C:bu m W k ns sc X){y:Str}{o:Expr}{Ti:E}{es:List Expr}{q pos:Pos}{f:Expr->E}(ho:PE X o (Ti.w W m.af).1)(hb:PL.fE o=false)(bv:(q.endLine == pos.line)=true)(hl:es.length<29)(hs:bh es=true)(g:∀ e∈es,PE X e ((f e).w W m.af).1):
  a0 X (.Call (.Attribute o y q) es [] pos) ((td m y Ti (L.of (es.map f))).w W m.af):=by
 have hA:=lY hs g;unfold td;refine lX (λi hi=>?_) ?_
 ·rw[E.w];refine .val ?_;cases hc:W.mt i with
  |none=>exact kQ
  |some cs=>
   obtain⟨Ca,sp⟩:=cs;have hy:=ib hi;obtain⟨fa,fd,ps,g1,g2,g3,g4⟩:=C.en.mt i y Ca sp hy hc;have e:m.af.getD i ""=y:=(by rw[Xn,hy];rfl);show PE X _ (ly Ca (m.af.getD i "") sp [] X0 _ _);rw[e];cases es with
   |nil=>exact Gz ho g1 g2 g3 C.room g4 i' gB (Ak hb hs hl bv)
   |cons e es=>
    have h':(bU e && bh es)=true:=hs;rw[WT]at h';exact Gy ho g1 g2 g3 C.room g4 i' gB hA (bJ h'.1) (eR h'.2) (Ak hb hs hl bv)
 ·split
  ·rename_i b fI;cases JB fI;rw[E.w];exact .val (JD ho hA (λz=>by subst z;rfl) hs hl hb bv b)
  ·exact .ao
end
end N
end
section
set_option maxHeartbeats 2000000
namespace N
open PySem PySem.Spec PyProof.Rows L2
section
variable{m:Nm}{W:Wd}{k:Nat}{ns:List Str}{sc:Scope}{X:Cx}{x:Expr}
theorem JG{e:Expr}{q:Str×Pos}(h:sZ e=some q):e=.Name q.1 q.2:=by
 cases e
 case Name x p=>cases h;rfl
 all_goals cases h
theorem Al:∀{es:List Expr}{l:List (Str×Pos)},nms es=some l->es=l.map λq=>.Name q.1 q.2
 |[],l,h=>by cases h;rfl
 |e::r,l,h=>by
  obtain⟨q,h1,h2⟩:=Option.bind_eq_some_iff.mp (show (sZ e).bind _=some l from h);obtain⟨l',h3,rfl⟩:=Option.map_eq_some_iff.mp h2;rw[W0,<- Al h3,JG h1]
theorem oG(C:bu m W k ns sc X){ok:Str->Bool}(hok:∀y,ok y=true->L2.ju X.env.scope y/\(X.fn y=true\/X.env.scope.names.lookup y=some .local)){e:Expr}{g:G}(h:fM ns ok e=some g):PG X e (cm g):=by
 have nd:X.N.Nodup:=by rw[C.hN];exact C.nd
 unfold fM at h;split at h
 ·rename_i x p;split at h
  ·rename_i ho;obtain⟨i,h1,rfl⟩:=Option.map_eq_some_iff.mp h;refine wQ ⟨nd,λVF y hy=>?_⟩;cases List.mem_singleton.mp hy;exact⟨by rw[C.hN];exact ib h1,hok x ho⟩
  ·cases h
 ·rename_i es kk p;cases hn:nms es with
  |none=>rw[hn]at h;cases h
  |some l=>
   rw[hn]at h;have h:s6 ns ok l=some g:=h;unfold s6 at h;split at h
   ·rename_i ha;cases h;rw[Al hn];refine EG C.calm ⟨nd,λi y hy=>?_⟩ (by rw[WQ]);rw[List.zip_map',List.mem_map]at hy;obtain⟨q,hq,e⟩:=hy;cases e;have hb:=List.all_eq_true.mp ha q hq;rw[WT]at hb;obtain⟨i,hi⟩:=Option.isSome_iff_exists.mp hb.2;rw[hi];exact⟨by rw[C.hN];exact ib hi,hok q.1 hb.1⟩
   ·cases h
 ·cases h
theorem iV.of{scope:Scope}{Nt:List Str}{fr:List (Str×Nat)}(h1:X.env.scope=sc)(h2:X.N=ns)(h:lq sc ns scope fr=true):iV X scope Nt fr:=by
 unfold lq at h;simp only[WT,List.all_eq_true,decide_eq_true_eq]at h;obtain⟨⟨⟨⟨SF,SE⟩,SH⟩,SI⟩,S8⟩:=h;refine⟨eq_of_beq SF,SE,SH,λy hy hf=>?_,λp hp=>?_⟩
 ·show X.env.scope.names.lookup y.1=some .cell;rw[h1];exact SI y hy hf
 ·rw[h2];exact S8 p hp
theorem tL{e:Expr}(h:i7 e=true):∃a b c,e=.Tuple a b c:=by cases e <;> first |exact⟨_,_,_,rfl⟩ |cases h
theorem tM{n:Nat}(C:bu m W k ns sc X)(ih:∀x,a0 X x ((aV m n ns sc x).w W m.af)){tg e:Expr}:PI X tg e ((i8 sc (aV m n ns sc) tg e).w W m.af):=by
 have sq:PI X tg e ((I.seq (aV m n ns sc e)).w W m.af):=by rw[I.w];exact zq (ih e).e
 have bl:∀y∈i9,X.G.mg y=none:=C.en.bl;have s1:∀{a:Expr},bL a=true->starEach [a] X.env=[(false,eval a X.env)]:=λh=>by rw[bJ (oE h)];rfl
 unfold i8;split
 ·rename_i f p a q;split
  ·rename_i h;rw[WT]at h;split
   ·rename_i e;subst e;rw[I.w];exact EN (C.aX h.1) (bl _ (by decide)) (ih a).e (s1 h.2)
   ·split
    ·rename_i e;obtain⟨rfl,ht⟩:=e;obtain⟨_,_,_,rfl⟩:=tL ht;rw[I.w];exact E7 (C.aX h.1) (bl _ (by decide)) (ih a).e (s1 h.2)
    ·split
     ·rename_i e;subst e;rw[I.w];exact E9 (C.aX h.1) (bl _ (by decide)) (ih a).e (s1 h.2)
     ·exact sq
  ·exact sq
 ·rename_i f p a b q;split
  ·rename_i h;rw[WT,WT]at h;obtain⟨⟨h1,h2⟩,h3⟩:=h;have s2:starEach [a,b] X.env=[(false,eval a X.env),(false,eval b X.env)]:=(by rw[bJ (oE h2),s1 h3]);split
   ·rename_i e;subst e;rw[I.w];exact EO (C.aX h1) (bl _ (by decide)) (ih a).e (ih b).e s2 (s1 h3)
   ·split
    ·rename_i e;obtain⟨rfl,ht⟩:=e;obtain⟨_,_,_,rfl⟩:=tL ht;rw[I.w];exact EZ (C.aX h1) (bl _ (by decide)) (ih a).e (ih b).e s2 (s1 h3)
    ·exact sq
  ·exact sq
 ·rename_i o y q p;split
  ·rename_i c;obtain⟨rfl,ht,hb,bv⟩:=c;obtain⟨_,_,_,rfl⟩:=tL ht;rw[I.w];exact IV (ih o).e (PL.jM hb) bv
  ·exact sq
 ·exact sq
theorem Am{n:Nat}(C:bu m W k ns sc X)(ih:∀ x,a0 X x ((aV m n ns sc x).w W m.af)){tg iter a7:Expr}{a1:List Expr}{scope:Scope}{pos:Pos}{g:G}{ec ee:E}(hg:fM (cc ns scope tg) (lS (dF sc scope)) tg=some g)
  (h1:lq sc ns scope (ew ns scope.names)=true) (h2:g.lt ((eu tg).map (·.1)).length=true) (h3:(cc ns scope tg).Nodup) (h4:bL iter=true)
  (hc:∀{X':Cx},bu m W k (cc ns scope tg) (dF sc scope) X'->PF X' a1 (Uk ec (ec.w W m.af).2)) (he:∀{X':Cx},bu m W k (cc ns scope tg) (dF sc scope) X'->PE X' a7 (ee.w W m.af).1) :
  a0 X (.ListComp a7 [⟨tg,iter,a1,0⟩] scope pos) ((E.lc ((eu tg).map (·.1)).length ((ew ns scope.names).map (·.2)) g (i8 sc (aV m n ns sc) tg iter) ec ee).w W m.af):=by
 have L1:iV X scope ((eu tg).map (·.1)) (ew ns scope.names):=.of C.eo C.hN h1;have C':∀cl a,bu m W k (cc ns scope tg) (dF sc scope) (dj X scope (cc ns scope tg) cl a):=λcl a=>C.lc h3;have hH:∀cl a,PG (dj X scope (cc ns scope tg) cl a) tg (cm g):=λcl a=>oG (C' cl a) (λy hy=>by
  have hl:=Af hy;rw[(C' cl a).eo];exact⟨.inl hl,.inr hl⟩) hg
 rw[E.w,<- Jn];exact⟨yJ L1 C.calm (tM C ih) hH h2 (λcl a=>hc (C' cl a)) (λcl a=>he (C' cl a)) (tK h4),qA,
  λ_ y j py jU hN r8=>HD L1 C.calm hN (tM C ih) hH h2 (λcl a=>hc (C' cl a)) (λcl a=>he (C' cl a)) (tK h4) r8⟩
theorem An{f:Expr->E}{pos:Pos}:∀{ks:List (Option Expr)}{vs:List Expr},ks.all (·.isSome)=true->ks.length=vs.length->(∀ e,PE X e ((f e).w W m.af).1) ->
  PP X pos ks vs (((L.of (ks.map λk=>match k with |some k=>f k |none=>.ao)).wl W m.af).zip ((L.of (vs.map f)).wl W m.af))
 |[],[],_,_,_=>by simp only[XT,L.of,L.wl,List.zip_nil_left];exact Hj
 |[],v::vs,_,h,_=>by cases h
 |none::ks,vs,h,_,_=>by cases h
 |some k::ks,[],_,h,_=>by cases h
 |some k::ks,v::vs,h,hl,g=>by
  simp only[W0,L.of,L.wl,Yi];exact Hl (g k) (g v) (An (by simpa using h) (by simpa using hl) g)
end
end N
end
section
namespace N
open PySem PySem.Spec PyProof.Rows L2
section
variable{m:Nm}{W:Wd}{k:Nat}
theorem Ao{X:Cx}{o:Option Expr}{f:Expr->E}(h:kc o f=true)(g:∀e,PE X e ((f e).w W m.af).1):PO X o (oW (j' o f) ((j' o f).w W m.af).1):=by
 cases o with
 |none=>exact GC
 |some x=>
  have h:j8 (f x)=false:=by simpa [kc] using h
  show PO X (some x) (oW (f x) ((f x).w W m.af).1);unfold oW;rw[h];exact GD (g x)
theorem JH{a b:Expr}{q pos:Pos}{es:List Expr}{env:Env}:eval (.Call (.Subscript a b q) es [] pos) env=(do callWith pos (<- eval (.Subscript a b q) env) [] (backTo pos (starEach es env)) (backToKw pos (keywordEach [] env))):=rfl
theorem JI{X:Cx}{fl:Addr->Str->Prop}{f:Str}(hf:∀C,fl C f->b9 X.G.K C/\dP X.G.K C f){x:D}{M:Mp}{q:QK}(h:oA fl f x M q):rq X.G.K f x M q:=by
 unfold oA cT at h;unfold rq cT;split at h
 ·obtain⟨C,dx,fs,e,d,h1,h2⟩:=h;exact⟨C,dx,fs,e,d,hf C h1,h2⟩
 ·exact h.elim
theorem JJ{X:Cx}{fl:Addr->Str->Prop}{f:Str}{e:Expr}{to:DE}{pos:Pos}(hf:∀C,fl C f->b9 X.G.K C/\dP X.G.K C f)(he:PE X e to)(hb:attributeBase e f X.env (eval e X.env)=eval e X.env):PE X (.Attribute e f pos) (jA (oA fl f) to):=fun τ z Q R I h k=>
 FL hb (he τ z _ _ I h λd z1 u l1 I1 r1 q1=>Gv τ z1 Q R d u I1 r1 (JI hf q1) λd z2 u l2=>k d z2 u (l1.tr l2))
theorem JK{sc:Scope}{x:Str}{es:List Expr}{a:Expr}(h:tj sc x es=some a):∃p q,x="sorted"/\es=[.Call (.Name "set" p) [a] [] q]/\aX sc "sorted"=true/\aX sc "set"=true/\bL a=true:=by
 unfold tj at h;split at h
 ·rename_i g p b q;split at h
  ·rename_i c;obtain⟨rfl,rfl,h1,h2,h3⟩:=c;cases h;exact⟨p,q,rfl,rfl,h1,h2,h3⟩
  ·cases h
 ·cases h
theorem JL{sc:Scope}{x:Str}{es:List Expr}{a:Expr}(h:tm sc x es=some a):∃p q,x="list"/\es=[.Call (.Name "enumerate" p) [a] [] q]/\aX sc "list"=true/\aX sc "enumerate"=true/\bL a=true:=by
 unfold tm at h;split at h
 ·rename_i g p b q;split at h
  ·rename_i c;obtain⟨rfl,rfl,h1,h2,h3⟩:=c;cases h;exact⟨p,q,rfl,rfl,h1,h2,h3⟩
  ·cases h
 ·cases h
theorem JM{sc:Scope}{x:Str}{es:List Expr}{a:Expr}(h:tu sc x es=some a):∃p q,x="sorted"/\es=[.Call (.Attribute a "items" q) [] [] p]/\aX sc "sorted"=true/\PL.fE a=false/\(q.endLine == p.line)=true:=by
 unfold tu at h;split at h
 ·rename_i o y q p;split at h
  ·rename_i c;obtain⟨rfl,rfl,h1,h2,h3⟩:=c;cases h;exact⟨p,q,rfl,rfl,h1,h2,h3⟩
  ·cases h
 ·cases h
section
variable{ns:List Str}{sc:Scope}{X:Cx}{f:Expr->E}
theorem JN{c:Const}(h:z9 c=true):c=.int 1:=by
 cases c with
 |int i=>rw[of_decide_eq_true (show decide (i=1)=true from h)]
 |_=>exact Ze h
theorem JO{o:UnaryOp}(h:tC o=true):o=.USub:=by
 cases o with
 |USub=>rfl
 |_=>exact Ze h
theorem JP{x:Expr}(h:tw x=true):∃k p,x=.Constant (.int 1) k p:=by
 cases x with
 |Constant c k p=>exact⟨k,p,by rw[JN h]⟩
 |_=>exact Ze h
theorem JQ{s:Expr}(h:tD s=true):∃k p q,s=.UnaryOp .USub (.Constant (.int 1) k p) q:=by
 cases s with
 |UnaryOp o x q=>
  have h:(tC o && tw x)=true:=h;rw[WT]at h;obtain⟨k,p,rfl⟩:=JP h.2;rw[JO h.1];exact⟨k,p,q,rfl⟩
 |_=>exact Ze h
theorem JR(ih:∀x,a0 X x ((f x).w W m.af)){a b:Expr}{pos:Pos}:a0 X (.Subscript a b pos) ((tE f a b).w W m.af):=by
 unfold tE;split
 ·rename_i h;rw[E.w];exact .val (Gi (ih _).e (ih _).e (Jw h))
 cases b with
 |Slice lo hi st p=>
  show a0 X _ ((Aa f a lo hi st).w W m.af);cases st with
  |none=>
   show a0 X _ ((if kc lo f && kc hi f then E.sl (f a) (j' lo f) (j' hi f) else .ao).w W m.af)
   split
   ·rename_i h;rw[WT]at h;rw[E.w];exact .no (GG (ih _).e (Ao h.1 λe=>(ih e).e) (Ao h.2 λe=>(ih e).e) λ_ _=>by with_unfolding_all rfl)
   ·exact .ao
  |some s=>
   show a0 X _ ((if tD s && (lo.isNone && hi.isNone) then E.rev (f a) else .ao).w W m.af)
   split
   ·rename_i h;rw[WT,WT]at h;obtain⟨h1,h2,h3⟩:=h;obtain⟨k,p,q,rfl⟩:=JQ h1;cases lo with
    |some _=>exact Ze h2
    |none=>cases hi with
     |some _=>exact Ze h3
     |none=>rw[E.w];exact .no (GH (ih _).e λ_ _=>by with_unfolding_all rfl)
   ·exact .ao
 |_=>exact .ao
theorem JS(C:bu m W k ns sc X)(ih:∀x,a0 X x ((f x).w W m.af)){a:Expr}{os:List CmpOp}{bs:List Expr}{pos:Pos}:a0 X (.Compare a os bs pos) ((Ab f a os bs).w W m.af):=by
 cases os with
 |nil=>exact .ao
 |cons o os=>cases os with
  |nil=>cases bs with
   |nil=>exact .ao
   |cons b bs=>cases bs with
    |cons _ _=>exact .ao
    |nil=>
     show a0 X _ ((if bL b then E.cmp o (f a) (f b) else .ao).w W m.af)
     split
     ·rename_i h;rw[E.w];exact .two (F9 (nT C.lW _) (ih _).e (ih _).e (tJ h)) (Ga (nT C.lW _) (ih _).e (ih _).e (tJ h))
     ·exact .ao
  |cons p os=>cases os with
   |cons _ _=>exact .ao
   |nil=>cases bs with
    |nil=>exact .ao
    |cons b bs=>cases bs with
     |nil=>exact .ao
     |cons c bs=>cases bs with
      |cons _ _=>exact .ao
      |nil=>
       show a0 X _ ((if bL c then E.ch o p (f a) (f b) (f c) else .ao).w W m.af)
       split
       ·rename_i h;rw[E.w];exact .no (Jl (nT C.lW _) (nT C.lW _) (ih _).e (ih _).e (ih _).e (tJ h))
       ·exact .ao
theorem JT(C:bu m W k ns sc X)(ih:∀x,a0 X x ((f x).w W m.af)){g:Expr}{es:List Expr}{pos:Pos}:a0 X (.Call g es [] pos) ((tF m ns sc f es pos g).w W m.af):=by
 have hA:bh es=true->PA X es ((L.of (es.map f)).w W m.af):=λh=>lY h λe _=>(ih e).e;unfold tF;split
 ·split
  ·rename_i a ha;obtain⟨p,q,rfl,rfl,h1,h2,h3⟩:=JK ha;rw[E.w];exact .no (Il C.calm (C.aX h1) (C.en.bl _ (by decide)) (C.aX h2) (C.en.bl _ (by decide)) (ih a).e (oE h3))
  ·split
   ·rename_i a ha;obtain⟨p,q,rfl,rfl,h1,h2,h3⟩:=JL ha;rw[E.w];exact .no (IL C.calm (C.aX h1) (C.en.bl _ (by decide)) (C.aX h2) (C.en.bl _ (by decide)) (ih a).e (oE h3))
   split
   ·rename_i a ha;obtain⟨p,q,rfl,rfl,h1,h2,h3⟩:=JM ha;rw[E.w];exact .no (Jb C.calm C.lW (C.aX h1) (C.en.bl _ (by decide)) (ih a).e (PL.jM h2) h3)
   split
   ·rename_i h;rw[WT]at h;split
    ·split
     ·exact .ao
     ·rename_i hn;rw[E.w];cases es with
      |nil=>exact absurd rfl hn
      |cons e es=>
       have h':(bU e && bh es)=true:=h.2;rw[WT]at h';exact .val (yM C.en.ca C.room gB (Aj C).e (hA h.2) (bJ h'.1) (eR h'.2) rfl)
    ·exact JE C h.1 h.2 λe _=>(ih e).e
   ·exact .ao
 ·split
  ·rename_i h;rw[WT,WT,WT]at h;obtain⟨⟨⟨h1,h2⟩,h3⟩,h4⟩:=h;exact JF C (ih _).e (by simpa using h2) h1 (of_decide_eq_true h4) h3 λe _=>(ih e).e
  ·exact .ao
 ·split
  ·rename_i h;rw[WT]at h;rw[E.w];cases es with
   |nil=>exact absurd h.2 (by decide)
   |cons e es=>
    have h':(bU e && bh es)=true:=h.1;rw[WT]at h';exact .val (yM C.en.ca C.room gB (ih _).e (hA h.1) (bJ h'.1) (eR h'.2) JH)
  ·exact .ao
 ·exact .ao
theorem JU(ih:∀x,a0 X x ((f x).w W m.af)){ks:List (Option Expr)}{vs:List Expr}{pos:Pos}:a0 X (.Dict ks vs pos) ((tI f ks vs).w W m.af):=by
 unfold tI;split
 ·rename_i h;rw[WT,List.isEmpty_iff,List.isEmpty_iff]at h;obtain⟨rfl,rfl⟩:=h;rw[E.w];exact .no Hi
 ·split
  ·rename_i h;rw[WT,WT,WT]at h;obtain⟨⟨⟨h1,h2⟩,h3⟩,h4⟩:=h;rw[E.w];exact .no (Hm (An h1 (of_decide_eq_true h2) λe=>(ih e).e) h1 (of_decide_eq_true h2) (by rintro rfl;cases h4) (of_decide_eq_true h3))
  ·exact .ao
end
theorem JV{n:Nat}{ns:List Str}{sc:Scope}{X:Cx}(C:bu m W k ns sc X)(ih:∀{ns:List Str}{sc:Scope}{X:Cx},bu m W k ns sc X->∀x,a0 X x ((aV m n ns sc x).w W m.af)){a7:Expr}{Tj:List Comprehension}{scope:Scope}{pos:Pos}:a0 X (.ListComp a7 Tj scope pos) ((tH ns sc (aV m n) a7 scope Tj).w W m.af):=by
 unfold tH;split
 ·unfold Ac;split
  ·rename_i g hg;split
   ·rename_i h;rw[WT,WT,WT]at h;obtain⟨⟨⟨h1,h2⟩,h3⟩,h4⟩:=h;split
    ·exact Am (n:=n) C (ih C) hg h1 h2 (of_decide_eq_true h3) h4 (λ_=>Hu) λC'=>(ih C' _).e
    ·split
     ·exact .ao
     ·rename_i hn;exact Am (n:=n) C (ih C) hg h1 h2 (of_decide_eq_true h3) h4 (λC'=>by unfold Uk;rw[show j8 _=false by simpa using hn];exact yz (ih C' _).t) λC'=>(ih C' _).e
    ·exact .ao
   ·exact .ao
  ·exact .ao
 ·exact .ao
theorem ja:∀(n:Nat){ns:List Str}{sc:Scope}{X:Cx},bu m W k ns sc X->∀x,a0 X x ((aV m n ns sc x).w W m.af)
 | 0,ns,sc,X,C,x=>.ao
 |n+1,ns,sc,X,C,x=>by
  have ih:∀x,a0 X x ((aV m n ns sc x).w W m.af):=ja n C;have hA:∀{es:List Expr},bh es=true->PA X es ((L.of (es.map (aV m n ns sc))).w W m.af):=λh=>lY h λe _=>(ih e).e;cases x
  case Name y p=>exact Aj C
  case Constant c kk p=>exact Jz
  case Tuple es kk p=>
   show a0 X _ ((if bh es then E.tup (L.of (es.map (aV m n ns sc))) else .ao).w W m.af)
   split
   ·rename_i h;rw[E.w];exact .val (Es (hA h))
   ·exact .ao
  case List es p=>
   show a0 X _ ((if bh es then E.lst (L.of (es.map (aV m n ns sc))) else .ao).w W m.af)
   split
   ·rename_i h;rw[E.w];exact .val (Et (hA h))
   ·exact .ao
  case BinOp a o b p=>exact .val (Eg (F8 _) (ih _).e (ih _).e)
  case Compare a os bs p=>exact JS C ih
  case UnaryOp o a p=>
   cases o
   case USub=>exact .val (x9 ya (ih _).e)
   case Not=>exact .two (Ep (ih _).e) (El (ih _).t)
   all_goals exact .ao
  case BoolOp o vs p=>
   cases o
   case And=>obtain⟨h1,h2⟩:=Ag (p:=p) λe _=>ih e;exact .two h1 (Ai h2)
   case Or=>obtain⟨h1,h2⟩:=Ah (p:=p) λe _=>ih e;exact .two h1 (Ai h2)
  case IfExp c a b p=>exact .no (Er (ih _).t (ih _).e (ih _).e)
  case Subscript a b p=>exact JR ih
  case Call g es sK p=>
   cases sK with
   |nil=>exact JT C ih
   |cons _ _=>exact .ao
  case Attribute o f p=>
   show a0 X _ ((if !PL.fE o then E.fld (aV m n ns sc o) f else .ao).w W m.af)
   split
   ·rename_i h;rw[E.w];exact .val (JJ (λC' z=>C.en.fl C' _ z) (ih _).e (PL.jM (by simpa using h)))
   ·exact .ao
  case ListComp a7 Tj scope p=>exact JV C (ja n)
  case Dict ks vs p=>exact JU ih
  all_goals exact .ao
end
noncomputable def B.of:List S->B
 |[]=>.nil
 |s::r=>.cons s (B.of r)
noncomputable def ke(o:Option G)(f:G->S):S:=match o with
 |some g=>f g
 |none=>.dead
noncomputable def tN(ns:List Str)(sc:Scope)(f:Expr->E)(v:Expr):Expr->S
 |.Name x p=>ke (fM ns (loc sc) (.Name x p)) λg=>.set g (f v)
 |.Tuple es kk p=>if !i7 v && !dE v then ke (fM ns (loc sc) (.Tuple es kk p)) λg=>.set g (f v) else .dead
 |.Subscript o i _=>if bL i && !dE v then .put (f o) (f i) (f v) else .dead
 |.Attribute o a _=>if !dE v then .dT (f o) a (f v) else .dead
 |_=>.dead
noncomputable def Ap(ns:List Str)(sc:Scope)(f:Expr->E)(v:Expr):List Expr->S
 |[t]=>tN ns sc f v t
 |_=>.dead
noncomputable def Aq(s:S):List Stmt->S
 |[]=>s
 |_=>.dead
noncomputable def JW(f:Expr->E):Option Expr->S
 |some v=>.ret (f v)
 |none=>.dead
noncomputable def tO(b:B)(hs:List ExceptHandler)(e f:List Stmt):S:=if hs.isEmpty || !e.isEmpty || !f.isEmpty then .dead else .cond (.c (.bl true)) b .nil
variable(m:Nm)in
noncomputable def gC:Nat->List Str->Scope->Stmt->S
 | 0,_,_,_=>.dead
 |n+1,ns,sc,s=>match s with
  |.Assign ts v _=>Ap ns sc (aV m n ns sc) v ts
  |.Return o _=>JW (aV m n ns sc) o
  |.Expr v _=>if !dE v then .ex (aV m n ns sc v) else .dead
  |.If c a b _=>.cond (aV m n ns sc c) (B.of (a.map (gC n ns sc))) (B.of (b.map (gC n ns sc)))
  |.For t i b e _=>Aq (if bL i then ke (fM ns (loc sc) t) λg=>.loop g (i8 sc (aV m n ns sc) t i) (B.of (b.map (gC n ns sc))) else .dead) e
  |.While c b e _=>Aq (.fK (aV m n ns sc c) (B.of (b.map (gC n ns sc)))) e
  |.Try b hs e f _=>tO (B.of (b.map (gC n ns sc))) hs e f
  |.Pass _=>.pass
  |.Break _=>.brk
  |.Continue _=>.cnt
  |_=>.dead
section
variable{m:Nm}{W:Wd}{k:Nat}{ns:List Str}{sc:Scope}{X:Cx}
theorem tP{st:Stmt}{o:Option G}{f:G->S}(h:∀g,o=some g->PS X st ((f g).w W m.af)):PS X st ((ke o f).w W m.af):=by
 cases o with
 |none=>exact de
 |some g=>exact h g rfl
theorem jb{f:Stmt->S}(g:∀s,PS X s ((f s).w W m.af)):∀ss:List Stmt,d9 X ss ((B.of (ss.map f)).w W m.af)
 |[]=>Eu
 |[s]=>wL (g s)
 |s::t::r=>Ex (g s) (jb g (t::r))
theorem JX{X:Cx}{fl:Addr->Str->Prop}{f:Str}(hf:∀C,fl C f->b9 X.G.K C/\dP X.G.K C f){o d:D}{M:Mp}{q:Mp->Prop}(h:cT o M λa C dx fs=>fl C f/\fs.length<1000/\q (up M a (.ins C dx (fF f d fs)))):rx X.G.K f o d M q:=by
 unfold cT at h;unfold rx cT;split at h
 ·obtain⟨C,dx,fs,e,h1,h2⟩:=h;exact⟨C,dx,fs,e,hf C h1,h2⟩
 ·exact h.elim
theorem JY{fl:Addr->Str->Prop}{o value:Expr}{f:Str}{to tv:DE}{pos re:Pos}(hf:∀C,fl C f->b9 X.G.K C/\dP X.G.K C f)(ho:PE X o to)(hv:PE X value tv)(hs:swapsWith value (some (.Attribute o f re)) pos.line X.env=pure false):PS X (.Assign [.Attribute o f re] value pos) (zW fl f to tv):=fun τ z e R I h k=>
 plainObj_wpAny_Assign_Attribute (hv τ z _ _ I h λd z1 u l1 I1 r1 q1=>ho τ z1 _ _ I1 q1 λod z2 ov l2 I2 r2 q2=>Gw I2 r2 (r1.up l2.d) (JX hf q2) λz3 e3 I3 q3=>k.nx τ z3 (by rw[e3];exact l1.tr l2) I3 q3) hs
theorem JZ(C:bu m W k ns sc X)(hf:∀y,loc sc y=true->X.fn y=true\/X.env.scope.names.lookup y=some .local){f:Expr->E}(ih:∀x,a0 X x ((f x).w W m.af)){ts:List Expr}{v:Expr}{q:Pos}:PS X (.Assign ts v q) ((Ap ns sc f v ts).w W m.af):=by
 have hok:∀y,loc sc y=true->L2.ju X.env.scope y/\(X.fn y=true\/X.env.scope.names.lookup y=some .local):=λy hy=>⟨by rw[C.eo];exact Ae hy,hf y hy⟩;have nd:X.N.Nodup:=by rw[C.hN];exact C.nd
 cases ts with
 |nil=>exact de
 |cons t r=>
 cases r with
 |cons _ _=>exact de
 |nil=>
 show PS X _ ((tN ns sc f v t).w W m.af);unfold tN;cases t with
 |Name x p=>
  refine tP λg hg=>?_;rw[S.w];have hg:(if loc sc x then (dD x ns 0).map G.one else none)=some g:=hg
  split at hg
  ·rename_i hl;obtain⟨i,h1,rfl⟩:=Option.map_eq_some_iff.mp hg;have hN:iK X [i] [x]:=⟨nd,λVF y hy=>by
    cases List.mem_singleton.mp hy;exact⟨by rw[C.hN];exact ib h1,hok x hl⟩⟩
   cases hc:dE v with
   |false=>exact wW hN (ih v).e (lV hc)
   |true=>
    have key:∃b:Bool,swapsWith v (some (.Name x p)) q.line X.env=pure b:=by
     cases v <;> first |exact⟨_,rfl⟩ |cases hc
    obtain⟨b,hb⟩:=key;cases b with
    |false=>exact wW hN (ih v).e hb
    |true=>exact (ih v).s hc x i p q hN hb
  ·cases hg
 |Tuple es kk p=>
  show PS X _ ((if !i7 v && !dE v then ke (fM ns (loc sc) (.Tuple es kk p)) λg=>S.set g (f v) else .dead).w W m.af)
  split
  ·rename_i h;rw[WT]at h;refine tP λg hg=>?_;rw[S.w];exact wV (ih v).e (oG C hok hg) (show swapsWith v (some (.Tuple es kk p)) q.line X.env=pure false from lV (by simpa using h.2)) (Jy (by simpa using h.1)) rfl
  ·exact de
 |Subscript o i p=>
  show PS X _ ((if bL i && !dE v then S.put (f o) (f i) (f v) else .dead).w W m.af)
  split
  ·rename_i h;rw[WT]at h;rw[S.w];exact wV (ih v).e (EH (ih o).e (ih i).e (Gj C.u1) (Jx h.1)) (show swapsWith v (some (.Subscript o i p)) q.line X.env=pure false from lV (by simpa using h.2)) rfl rfl
  ·exact de
 |Attribute o a p=>
  show PS X _ ((if !dE v then S.dT (f o) a (f v) else .dead).w W m.af)
  split
  ·rename_i h;rw[S.w];exact JY (λC' z=>C.en.fl C' _ z) (ih o).e (ih v).e (lV (by simpa using h))
  ·exact de
 |_=>exact de
theorem J0{body:List Stmt}{h₀:ExceptHandler}{hs:List ExceptHandler}{t:DS}{pos:Pos}(hb:d9 X body t):PS X (.Try body (h₀::hs) [] [] pos) t:=fun τ z e R I h k=>
 wpAny_Try_except (Y5 (hb τ z e (λf s=>match f with |.next=>N.W X (execs [] X.env) R s |f=>R f s) I h ⟨fun τ1 z1 l I1 q=>wpAny_execs_nil (k.nx τ1 z1 l I1 q),k.rt,k.SD,k.ct⟩) (λ_ _ h=>h) λ_ _ h=>h.no.elim)
theorem J1{body:List Stmt}{hs:List ExceptHandler}{e f:List Stmt}{b:B}{pos:Pos}(hb:d9 X body (b.w W m.af)):PS X (.Try body hs e f pos) ((tO b hs e f).w W m.af):=by
 unfold tO;split
 ·exact de
 ·rename_i c;cases hs with
  |nil=>exact absurd rfl c
  |cons h₀ hs=>cases e with
   |cons _ _=>exact absurd (by simp) c
   |nil=>cases f with
    |cons _ _=>exact absurd (by simp) c
    |nil=>
     intro τ z en R I h k;exact J0 hb τ z en R I (by rw[S.w,E.w]at h;exact h) k
theorem Ar(C:bu m W k ns sc X)(hf:∀y,loc sc y=true->X.fn y=true\/X.env.scope.names.lookup y=some .local):∀(n:Nat)(s:Stmt),PS X s ((gC m n ns sc s).w W m.af)
 | 0,s=>de
 |n+1,s=>by
  have ih:∀x,a0 X x ((aV m n ns sc x).w W m.af):=ja n C;have lZ:∀s,PS X s ((gC m n ns sc s).w W m.af):=Ar C hf n;cases s
  case Assign ts v q=>exact JZ C hf ih
  case Return o p=>
   cases o with
   |none=>exact de
   |some v=>exact wM (ih _).e
  case Expr v p=>
   show PS X _ ((if !dE v then S.ex (aV m n ns sc v) else .dead).w W m.af)
   split
   ·rename_i h;rw[S.w];exact EC (ih _).e (lV (by simpa using h))
   ·exact de
  case If c a b p=>exact ED (ih _).t (jb lZ _) (jb lZ _)
  case For t i b e p=>
   cases e with
   |cons _ _=>exact de
   |nil=>
    show PS X _ ((if bL i then ke (fM ns (loc sc) t) λg=>S.loop g (i8 sc (aV m n ns sc) t i) (B.of (b.map (gC m n ns sc))) else .dead).w W m.af)
    split
    ·rename_i h;refine tP λg hg=>?_;rw[S.w];exact IS (EJ C.calm (tM C ih) (oG C (λy hy=>⟨by rw[C.eo];exact Ae hy,hf y hy⟩) hg) (jb lZ _) (tK h))
    ·exact de
  case While c b e p=>
   cases e with
   |cons _ _=>exact de
   |nil=>exact EI (ih _).t (jb lZ _)
  case Try b hs e f p=>exact J1 (jb lZ _)
  case Pass p=>exact Ey
  case Break p=>exact Ez
  case Continue p=>exact EA
  all_goals exact de
end
noncomputable def aO(m:Nm)(n:Nat)(ns:List Str)(sc:Scope)(ss:List Stmt):B:=B.of (ss.map (gC m n ns sc))
end N
end
section
set_option maxHeartbeats 1000000
namespace N
open PySem PySem.Spec PyProof.Rows L2
def bA(Q:QK):QK:=λd M=>∃K e,bD K M/\Fr M K d e/\Q e K
section
variable{G:Gx}{F:Fz}{M K:Mp}{h:Heap}
theorem CR.ret{z:Z}{Q:QK}{E:XQ}{r:Result}{s:Shared}(h:CR G z (bA Q) E r s):CR G z Q E r s:=by
 cases r with
 |error e=>exact h
 |ok fl=>
  cases fl with
  |ret u=>
   obtain⟨d,z',l,rd,Km,e,sb,f,q⟩:=h;exact⟨e,⟨cV z'.F z'.M Km z'.s.heap,Km,z'.s⟩,⟨l.s,l.l.tr (et l.ok),sM l.ok sb,l.os,l.bare⟩,f.rel l.ok rd,q⟩
  |next=>exact h
  |brk=>exact h
  |cont=>exact h
end
noncomputable abbrev aB(Q:QK):En:={ nx:=λ_ M=>bA Q .ai M,rt:=bA Q }
theorem As{G:Gx}{m:Nm}{W:Wd}{k n:Nat}{x qual:Str}{st:Stmt}{f:Addr}{fd:FuncData}{ns ps:List Str}{sp:Sp}{b:B}(F:ej G.K x qual st f fd)(S:aJ ns ps (ah st))(En:oF m W k G)(hc:aO m n ns (ah st) (aD st)=b)
  (h:∀ds M Q E,sp ds M Q E->ds.length=ps.length/\b.w W m.af (aB Q) (start ns ds) M):bj G (k+1) f fd ps sp:=by
 obtain⟨oc,od,kV,am,pm,an,al,ct,cq,rfl,lk,ef⟩:=F.ex;have key:bj G (k+1) f (PySem.W.fnOf x qual (eS st) (aD st) (ah st) .none kV am pm an al ct) ps λds M R E=>∃Q,R=bA Q/\sp ds M Q E:=by
  refine xX lk ef S (λds M R E ⟨Q,_,z⟩=>(h ds M Q E z).1) λA outer s M ds R E hr ⟨Q,e,z⟩=>?_;subst e;have C:bu m W k ns (ah st) (dh G ns qual (ah st) f al A outer s E):=⟨rfl,rfl,S.nd,rfl,hr,En⟩;refine⟨_,jb (Ar C (λ_ _=>.inl rfl) n) _,?_⟩;have:=(h ds M Q E z).2;rw[<- hc]at this;exact this
 refine⟨λds M Q E z=>(h ds M Q E z).1,λA outer z args us ds Q E hr e0 hb r hs=>YG (key.eI A outer z args us ds (bA Q) E hr e0 hb r ⟨Q,rfl,hs⟩) λr s q=>q.ret⟩
end N
end
section
set_option maxHeartbeats 1000000
namespace N
open PySem PySem.Spec PyProof.Rows L2
structure Ds where
 x:Str
 st:Stmt
 ps:List Str
def Au:Sp:=λ_ _ _ _=>False
def oH:List (Nat×Sp)->Nat->Sp
 |[],_=>Au
 |(j,sp)::r,i=>if i=j then sp else oH r i
structure l9(G:Gx)(x:Str)(st:Stmt)(f:Addr)(fd:FuncData)(ps:List Str):Prop where
 fn:∃n,ej G.K n n st f fd
 b:bO G.K fd ps []
 mg:G.mg x=some (.ref f)
theorem l9.kp{G:Gx}{x:Str}{st:Stmt}{f:Addr}{fd:FuncData}{ps:List Str}(d:l9 G x st f fd ps):PySem.W.keepIn G.K (.ref f)=true:=d.fn.elim λ_ h=>h.kp
structure Wo where
 G:Gx
 ds:List Ds
 fL:List Str
 gv:List D
 fl:Addr->Str->Prop
 cls:List Str
 ca:Nat->Addr
 ms:List Ds
 mc:Nat->Addr
def Wo.nm(w:Wo):Nm:=⟨w.ds.map (·.x),w.fL,w.cls,w.ms.map (·.x)⟩
structure Av(K:PySem.W.Frag)(C:Addr)(d:Ds)(f:Addr)(fd:FuncData):Prop where
 fn:∃q:Str,ej K d.x q d.st f fd
 b:bO K fd d.ps []
 m:jI K C d.x f
 c:b9 K C
structure Wo.Ok(w:Wo):Prop where
 df:∀(i:Nat)(d:Ds),w.ds[i]?=some d->∃f fd,l9 w.G d.x d.st f fd d.ps
 gv:∀i x,w.fL[i]?=some x->∃u,w.G.mg x=some u/\∀F:Fz,(∀b o,w.G.base.get? b=some o->F b=some (.dat o))->aa w.G F (w.gv.getD i .ai) u
 bl:∀x∈i9,w.G.mg x=none
 fl:∀C f,w.fl C f->b9 w.G.K C/\dP w.G.K C f
 mt:∀(i:Nat)(d:Ds),w.ms[i]?=some d->∃f fd,Av w.G.K (w.mc i) d f fd
 cl:∀(i:Nat)(x:Str),w.cls[i]?=some x->w.G.mg x=some (.ref (w.ca i))/\∀f,PySem.W.findIn w.G.K (.ref (w.ca i)) "__init__"=some (some (.ref f))->PySem.W.isFn w.G.K (.ref f)=true->Mk w.G.K (w.ca i) f
def FO(w:Wo)(i k:Nat)(sp:Sp):Prop:=∃d f fd,w.ds[i]?=some d/\l9 w.G d.x d.st f fd d.ps/\bj w.G k f fd d.ps sp
theorem FO.mono{w:Wo}{i j k:Nat}{sp:Sp}(h:FO w i j sp)(hk:j<=k):FO w i k sp:=let ⟨d,f,fd,a,b,c⟩:=h;⟨d,f,fd,a,b,c.mono hk⟩
theorem FO.imp{w:Wo}{i k:Nat}{sp lx:Sp}(h:FO w i k sp)(g:∀ds M Q E,lx ds M Q E->sp ds M Q E):FO w i k lx:=
 let ⟨d,f,fd,a,b,c⟩:=h
 ⟨d,f,fd,a,b,c.imp g⟩
theorem J2{G:Gx}{k:Nat}{f:Addr}{fd:FuncData}{ps:List Str}:bj G k f fd ps Au:=⟨λ_ _ _ _ h=>h.elim,λ_ _ _ _ _ _ _ _ _ _ _ _ h=>h.elim⟩
def tQ(w:Wo)(k:Nat):List (Nat×Sp)->Prop
 |[]=>True
 |(i,sp)::r=>(∃j,j<=k/\FO w i j sp)/\tQ w k r
theorem oJ{w:Wo}(O:w.Ok){k i:Nat}{d:Ds}(hd:w.ds[i]?=some d):∀{cs:List (Nat×Sp)},tQ w k cs->FO w i k (oH cs i)
 |[],_=>let ⟨f,fd,h⟩:=O.df i d hd;⟨d,f,fd,hd,h,J2⟩
 |(j,sp)::r,h=>by
  unfold oH;by_cases e:i=j
  ·subst e;rw[if_pos rfl];obtain⟨⟨l,hl,h⟩,_⟩:=h;exact h.mono hl
  ·rw[if_neg e];exact oJ O hd h.2
def bZ(w:Wo)(i k:Nat)(sp:Sp):Prop:=∃d f fd,w.ms[i]?=some d/\Av w.G.K (w.mc i) d f fd/\bj w.G k f fd d.ps sp
theorem bZ.mono{w:Wo}{i j k:Nat}{sp:Sp}(h:bZ w i j sp)(hk:j<=k):bZ w i k sp:=let ⟨d,f,fd,a,b,c⟩:=h;⟨d,f,fd,a,b,c.mono hk⟩
noncomputable def ma:List (Nat×Sp)->Nat->Option Sp
 |[],_=>none
 |(j,sp)::r,i=>if i=j then some sp else ma r i
def tR(w:Wo)(k:Nat):List (Nat×Sp)->Prop
 |[]=>True
 |(i,sp)::r=>(∃j,j<=k/\bZ w i j sp)/\tR w k r
theorem Aw{w:Wo}{k i:Nat}{sp:Sp}:∀{cs:List (Nat×Sp)},tR w k cs->ma cs i=some sp->bZ w i k sp
 |[],_,h=>by cases h
 |(j,s)::r,h,e=>by
  unfold ma at e;by_cases z:i=j
  ·subst z;rw[if_pos rfl]at e;cases e;obtain⟨⟨l,hl,h⟩,_⟩:=h;exact h.mono hl
  ·rw[if_neg z]at e;exact Aw h.2 e
structure a5(w:Wo) where
 cs:List (Nat×Sp):=[]
 ms:List (Nat×Sp):=[]
 ci:List (Nat×Nat×Sp):=[]
 ca:Addr->Sp->Prop:=λ_ _=>False
noncomputable def oK(w:Wo):List (Nat×Nat×Sp)->Nat->Option (Addr×Sp)
 |[],_=>none
 |(j,_,sp)::r,i=>if i=j then some (w.ca j,sp) else oK w r i
noncomputable def a5.wd{w:Wo}(l:a5 w):Wd:=⟨oH l.cs,w.gv,w.fl,oK w l.ci,λi=>(ma l.ms i).map λsp=>(w.mc i,sp),l.ca⟩
def tS(w:Wo)(k:Nat):List (Nat×Nat×Sp)->Prop
 |[]=>True
 |(i,m,sp)::r=>(w.mc m=w.ca i/\w.ms[m]?.map (·.x)=some "__init__"/\∃j,j+1<=k/\bZ w m j sp)/\tS w k r
theorem Ax{w:Wo}{k i:Nat}{C:Addr}{sp:Sp}:∀{cs:List (Nat×Nat×Sp)},tS w k cs->oK w cs i=some (C,sp)->C=w.ca i/\∃m j,w.mc m=w.ca i/\w.ms[m]?.map (·.x)=some "__init__"/\j+1<=k/\bZ w m j sp
 |[],_,h=>by cases h
 |(j,m,s)::r,h,e=>by
  unfold oK at e;by_cases z:i=j
  ·subst z;rw[if_pos rfl]at e;cases e;obtain⟨⟨h1,h0,l,hl,h⟩,_⟩:=h;exact⟨rfl,m,l,h1,h0,hl,h⟩
  ·rw[if_neg z]at e;exact Ax h.2 e
structure a5.Ok{w:Wo}(l:a5 w)(k:Nat):Prop where
 cs:tQ w k l.cs
 ms:tR w k l.ms:=by exact trivial
 ci:tS w k l.ci:=by exact trivial
 ca:∀f sp,l.ca f sp->hO w.G k f sp:=by exact λ_ _ z=>z.elim
theorem a5.Ok.env{w:Wo}(O:w.Ok){l:a5 w}{k:Nat}(h:l.Ok k):oF w.nm l.wd k w.G where
 fn:=λj x hj=>by
  have lQ:(w.ds.map (·.x))[j]?=some x:=hj;rw[W8]at lQ;obtain⟨e,he,rfl⟩:=Option.map_eq_some_iff.mp lQ;obtain⟨e',f',Ay,h1,h2,h3⟩:=oJ O he h.cs;rw[he]at h1;cases h1;exact⟨f',Ay,e.ps,h3,h2.mg,h2.kp,h2.b⟩
 gv:=O.gv
 bl:=O.bl
 fl:=O.fl
 cl:=λi x C sp hi hc=>by
  obtain⟨e,m,j,h1,h0,h2,d,f,fd,h3,h4,h5⟩:=Ax h.ci hc;subst e;obtain⟨g1,g2⟩:=O.cl i x hi;rw[h3]at h0;have hx:d.x="__init__":=Xl h0;have hm:=h4.m;rw[hx,h1]at hm;exact⟨j,f,fd,d.ps,h2,g2 f hm.bf hm.fn,h5,g1,h4.b⟩
 mt:=λi x C sp hi hc=>by
  have hc':(ma l.ms i).map (λsp=>(w.mc i,sp))=some (C,sp):=hc;obtain⟨s,e1,e2⟩:=Option.map_eq_some_iff.mp hc';cases e2;obtain⟨d,f,fd,h3,h4,h5⟩:=Aw h.ms e1;have cu:(w.ms.map (·.x))[i]?=some x:=hi;rw[W8,h3]at cu;cases cu;exact⟨f,fd,d.ps,h4.c,h4.m,h5,h4.b⟩
 ca:=h.ca
theorem a8{w:Wo}(O:w.Ok){nm:Nm}(hn:w.nm=nm){k n:Nat}{ns:List Str}{b:B}{sp:Sp}(i:Nat)(d:Ds)(hd:w.ds[i]?=some d)(l:a5 w)(hl:l.Ok k)(S:aJ ns d.ps (ah d.st))(hc:aO nm n ns (ah d.st) (aD d.st)=b)
  (h:∀ds M Q E,sp ds M Q E->ds.length=d.ps.length/\b.w l.wd nm.af (aB Q) (start ns ds) M):FO w i (k+1) sp:=by
 subst hn;obtain⟨f,fd,F⟩:=O.df i d hd;obtain⟨n,Fn⟩:=F.fn;exact⟨d,f,fd,hd,F,As Fn S (hl.env O) hc h⟩
theorem gD{w:Wo}(O:w.Ok){nm:Nm}(hn:w.nm=nm){k n:Nat}{ns:List Str}{b:B}{sp:Sp}(i:Nat)(d:Ds)(hd:w.ms[i]?=some d)(l:a5 w)(hl:l.Ok k)(S:aJ ns d.ps (ah d.st))(hc:aO nm n ns (ah d.st) (aD d.st)=b)
  (h:∀ds M Q E,sp ds M Q E->ds.length=d.ps.length/\b.w l.wd nm.af (aB Q) (start ns ds) M):bZ w i (k+1) sp:=by
 subst hn;obtain⟨f,fd,F⟩:=O.mt i d hd;obtain⟨q,Fn⟩:=F.fn;exact⟨d,f,fd,hd,F,As Fn S (hl.env O) hc h⟩
end N
end
section
namespace Att
open PySem PySem.W PySem.Calls PyProof.Rows
theorem J3{P:Params}{h:Heap}:∀(ns:List Int)(vs:List Value),WellAll P h vs (ns.map WData.int)->IntsAre vs ns:=by
 intro ns
 induction ns with
 |nil=>
  intro vs w;rw[XT]at w;cases w;exact .nil
 |cons n ns ih=>
  intro vs w;rw[W0]at w;cases w with
  |cons a b=>
   cases a;exact .cons _ _ (ih _ b)
theorem J4{l:OpenLaw}{n:Nat}(hn:l.most=some n){P:Params}{h:Heap}{args:List WData}{i3:List Value}
  (oL:l.row.toRowW.claim.pre args=true) (tt:WellAll P h i3 args) :
  ∃a vs ns,i3=[XI a]/\args=[WData.list (ns.map WData.int)]/\h.get? a=some { cls:=.type "list",data:=.seq vs.toArray }/\IntsAre vs ns/\ns.length<=n:=by
 have J5:WShape.hasAll [] args [.list .int]=true:=(pre_splitW oL).1;have hc:l.pre.holds [] { args:=args }=true:=(pre_splitW oL).2;obtain⟨d,r,rfl,h1,h2⟩:=hasAllW_cons J5;obtain rfl:=hasAllW_nil h2;obtain⟨xs,rfl,h3⟩:=hasW_list h1;obtain⟨ns,rfl⟩:=items_int h3;have hlen:ns.length<=n:=by
  unfold OpenLaw.pre at hc;have h4:(WTm.not (.lt (.lit (.int (n:Int))) (.len (.arg 0)))).holds [] { args:=[.list (ns.map .int)] }=true:=by
   have h4:=(holds_andW hc).1;rw[hn]at h4;exact h4
  have h5:=condW_of h4 (w_not (w_lt w_lit (w_len_list (w_arg rfl))));rw[WQ]at h5;refine Nat.le_of_not_lt λq=>?_;have q':(n:Int)<((ns.length:Nat):Int):=by lia
  first
   |(rw[decide_eq_true q']at h5;exact absurd h5 (by decide))
   |(simp at h5;lia)
 cases tt with
 |cons w1 VG=>
  cases VG;cases w1 with
  |list ho rU=>exact⟨_,_,ns,rfl,rfl,ho,J3 ns _ rU,hlen⟩
theorem J6(l:OpenLaw)(args:List WData):l.row.toRowW.claim.post args (.bool true) args=true:=
 postW_of (r:=l.row.toRowW) (X:=(true == true))
  (show WShape.has [] (.bool true) .bool=true by first |rfl |decide |simp [WShape.has,WShape.arms,WShape.armsAll])
  (show (WTm.eq .res (.lit (.bool true))).value [] { args:=args,res:=some (.bool true),after:=args }=some (.bool (true == true)) from w_eq_bool (w_res rfl) w_lit) rfl
theorem J7{l:OpenLaw}{n:Nat}{q:Program}{loose:List Str}{XP:(Str->Option Value)->Heap->Prop}{YP:World->Heap->Prop}{d:DefRec}
  (hn:l.most=some n) (jS:d.params.defaults=[])
  (call:∀(w:World)(s₀ s₁:Shared)(mg mb:Str->Option Value)(fa:Addr)(o:Obj)(pm cd am:Value)(a:Addr)(vs:List Value)(ns:List Int),
   Ground q loose [] XP w s₀ mg mb s₁.heap->YP w s₁.heap ->
   s₁.heap.get? fa=some o->o.data=.func (docDef d.name d.params d.body d.scope pm cd am)->s₁.heap.CodeRec cd d.name->mg d.name=some (.ref fa) ->
   s₁.heap.get? a=some { cls:=.type "list",data:=.seq vs.toArray }->IntsAre vs ns->ns.length<=n->s₁.gens=#[] ->
   codeAny (model l.prog w) callerA (.call (.ref fa) ⟨[.ref a],[]⟩) (λr s'=>r=.ok (.ret (.bool true))/\OldK s₁.heap s'.heap/\s'.os=s₁.os/\AllBare s'.gens) s₁) :
  WalkO q loose XP YP l.row.toRowW d [] (λf vs=>PySem.call f vs):=by
 intro w s₀ s₁ mg mb G Y fa o pm cd am TM kV ho hd ef hD hmg hg args i3 as oL R6 R7 tt R8;obtain rfl:TM=.none:=Dflts.none hD jS;obtain rfl:kV=.none:=Dflts.noKw hD;obtain⟨a,vs,ns,rfl,rfl,tT,tU,hlen⟩:=J4 hn oL tt;refine enter_call (YG (call w s₀ s₁ mg mb fa o pm cd am a vs ns G Y ho (fd_plain hd) ef hmg tT tU hlen hg) λr s' hq=>?_);obtain⟨rfl,h2,h3,h4⟩:=hq;exact⟨.inl ⟨.bool true,.bool true,[],rfl,λ_=>rfl,.bool true,J6 l _,λ_=>⟨List.Pairwise.nil,λ_ hm=>(nomatch hm)⟩⟩,h2,h3,h4⟩
end Att
namespace L2
open PySem PySem.Spec PyProof.Rows
end L2
end
section
set_option maxHeartbeats 1000000
namespace N
open PySem PySem.Spec PyProof.Rows L2
abbrev gE:=List (Addr×Pos×Str)
noncomputable def fN(ts:gE):Fz:=λb=>(ts.lookup b).map λq=>.tab q.1 q.2
noncomputable def ey(h:Heap)(ts:gE):Fz:=λb=>match ts.lookup b with
 |some q=>some (.tab q.1 q.2)
 |none=>(h.get? b).map Fo.dat
noncomputable abbrev ie(h:Heap)(ts:gE):Heap:=PySem.W.hideAll h (ts.map (·.1))
theorem oM{ts:gE}{b:Addr}(h:b ∉ ts.map (·.1)):ts.lookup b=none:=by
 rw[List.lookup_eq_none_iff];rintro⟨a,q⟩ hm;have:b≠a:=λz=>h (z ▸ List.mem_map.mpr ⟨_,hm,rfl⟩);simpa using this
theorem jc:∀{ts:gE}{b:Addr}{q:Pos×Str},ts.lookup b=some q->b∈ts.map (·.1)
 |[],_,_,h=>by cases h
 |(a,p)::r,b,q,h=>by
  by_cases e:b=a
  ·rw[e];exact WZ
  ·rw[Xh,beq_false_of_ne e]at h;exact WY _ (jc h)
theorem J8{h:Heap}{ts:gE}{b:Addr}{o:Obj}(e:(ie h ts).get? b=some o):h.get? b=some o/\b ∉ ts.map (·.1):=
 ⟨PySem.W.of_hideAll _ e,λhm=>by rw[PySem.W.hideAll_none _ hm]at e;cases e⟩
theorem J9{P:Program}{w:World}{K:PySem.W.Frag}{mg mb:Str->Option Value}{k:Nat}{fa a:Addr}{fd:FuncData}{x:Str}{sp:Sp}{s₁:Shared}{vs:List Value}{ns:List Int}{ts:gE}
  (KX:K.In s₁.heap) (hT:∀T∈ts.map (·.1),s₁.heap.get? T=some (PySem.W.tabObj #[])) (md:∀T∈ts.map (·.1),K.lookup T=none/\∃c,PySem.W.CodeHd s₁.heap c T)
  (cU:s₁.heap.Ns mainGlobals mg) (hb:s₁.heap.Ns builtinsNs mb) (J':∀x:Str,x≠"__name__"->mb x=bootBuiltins x) (Ka:s₁.heap.NoLimit) (hg:s₁.gens=#[])
  (ha:s₁.heap.get? a=some { cls:=.type "list",data:=.seq vs.toArray }) (hi:IntsAre vs ns) (hl:ns.length<=sizeLine) (hr:bC k callerA)
  (F:∀base:Heap,K.In base->base.Ns mainGlobals mg->bj ⟨P,w,K,mg,base,fN ts⟩ k fa fd [x] sp) (Kb:∀(s:Shared)(u:Value),BindsTo s fd ⟨[u],[]⟩ [(x,u)])
  (jO:sp [.lst (ns.map D.int)] (λ_=>none) (λd _=>d=.bl true) X0) :
  codeAny (model P w) callerA (.call (.ref fa) ⟨[.ref a],[]⟩) (λr s'=>r=.ok (.ret (.bool true))/\OldK s₁.heap s'.heap/\s'.os=s₁.os/\AllBare s'.gens) s₁:=by
 have SJ:∀b o,s₁.heap.get? b=some o->b ∉ ts.map (·.1)->ey s₁.heap ts b=some (.dat o):=λb o e n=>by unfold ey;rw[oM n];show (s₁.heap.get? b).map Fo.dat=_;rw[e];rfl
 have t0:∀b q,ts.lookup b=some q->ey s₁.heap ts b=some (.tab q.1 q.2):=λb q e=>by unfold ey;rw[e]
 have Az:∀b f,ey s₁.heap ts b=some f->(∃q,ts.lookup b=some q/\f=.tab q.1 q.2)\/∃o,s₁.heap.get? b=some o/\f=.dat o:=λb f e=>by
  unfold ey at e;split at e
  ·rename_i q hq;cases e;exact .inl ⟨q,hq,rfl⟩
  ·obtain⟨o,h1,rfl⟩:=Option.map_eq_some_iff.mp e;exact .inr ⟨o,h1,rfl⟩
 have nd:∀{b:Addr}{m:Str->Option Value},s₁.heap.Ns b m->b ∉ ts.map (·.1):=λ{b m}⟨o,es,ep,e,d,r⟩ hm=>by
  rw[hT b hm]at e;cases e;cases d
 have oN:∀{b:Addr}{m:Str->Option Value},s₁.heap.Ns b m->(ie s₁.heap ts).Ns b m:=λ{b m}h=>let n:=nd h;let ⟨o,es,ep,e,d,r⟩:=h;⟨o,es,ep,PySem.W.hideAll_get _ e n,d,r⟩
 have AA:K.In (ie s₁.heap ts):=λb o e=>PySem.W.hideAll_get _ (KX b o e) λhm=>by rw[(md b hm).1]at e;cases e
 have hok:aF ⟨P,w,K,mg,ie s₁.heap ts,fN ts⟩ (ey s₁.heap ts) (λ_=>none) s₁.heap:=⟨λb f e=>by
  rcases Az b f e with ⟨q,h1,rfl⟩ |⟨o,h1,rfl⟩
  ·exact⟨_,hT b (jc h1)⟩
  ·exact h1,λ_ _ e=>(nomatch e),λT p q e=>by
  rcases Az T _ e with ⟨q',h1,h2⟩ |⟨o,h1,h2⟩
  ·exact .inl (hT T (jc h1))
  ·cases h2⟩
 have bs:Bs ⟨P,w,K,mg,ie s₁.heap ts,fN ts⟩ (ey s₁.heap ts):=⟨λb o e=>let ⟨h1,h2⟩:=J8 e;SJ b o h1 h2,λb f e=>by
  obtain⟨q,h1,rfl⟩:=Option.map_eq_some_iff.mp (show (ts.lookup b).map _=_ from e);exact t0 b q h1⟩
 have e0:dN ⟨P,w,K,mg,ie s₁.heap ts,fN ts⟩ callerA [] ⟨ey s₁.heap ts,λ_=>none,s₁⟩:=⟨rfl,⟨AA,oN cU,⟨mb,oN hb,J'⟩,let ⟨mc,h1,h2⟩:=Ka;⟨mc,oN h1,h2⟩⟩,bs,λ_ h=>(nomatch h),hok,.of_eq hg⟩
 have ri:∀{ns:List Int}{vs:List Value},IntsAre vs ns->ae ⟨P,w,K,mg,ie s₁.heap ts,fN ts⟩ (ey s₁.heap ts) (ns.map D.int) vs:=λh=>by
  induction h with
  |nil=>exact .nil
  |cons n t r ih=>exact .cons bM ih
 have na:a ∉ ts.map (·.1):=λhm=>by rw[hT a hm]at ha;cases ha
 have rl:aa ⟨P,w,K,mg,ie s₁.heap ts,fN ts⟩ (ey s₁.heap ts) (.lst (ns.map D.int)) (.ref a):=nA (n:=0) (SJ a _ ha na) (by rw[hi.length];exact hl) (ri hi);refine YG ((F _ AA (oN cU)).eI callerA [] ⟨ey s₁.heap ts,λ_=>none,s₁⟩ ⟨[.ref a],[]⟩ [.ref a] [.lst (ns.map D.int)] _ _ hr e0 (Kb s₁ (.ref a)) (.cons rl .nil) jO) λr s' h=>?_;cases r with
 |error e=>obtain⟨_,_,_,z,_⟩:=h;exact z.elim
 |ok fl=>
  cases fl with
  |next=>exact h.elim
  |brk=>exact h.elim
  |cont=>exact h.elim
  |ret u=>
   obtain⟨d,z',⟨rfl,l,ok,os,bare⟩,rd,e⟩:=h;have e':d=.bl true:=e;subst e';rw[aa]at rd;subst rd;have kp:∀b o,s₁.heap.get? b=some o->asItWas s₁.heap z'.s.heap b o/\∃o',z'.s.heap.get? b=some o':=λb o q=>by
    by_cases hm:b∈ts.map (·.1)
    ·have e0:=hT b hm;rw[q]at e0;cases e0;obtain⟨⟨T,p,s⟩,hq,rfl⟩:=List.mem_map.mp hm;obtain⟨⟨p',s'⟩,dz⟩:∃ q,ts.lookup T=some q:=by
      cases e:ts.lookup T with
      |some q=>exact⟨q,rfl⟩
      |none=>rw[List.lookup_eq_none_iff]at e;exact absurd (e _ hq) (by simp)
     obtain⟨c,C⟩:=(md T hm).2;have it:=(C.tab q).isCodeTable;rcases ok.tb T _ _ (l T _ (t0 T _ dz)) with y |⟨c',o',y,_⟩
     ·exact⟨.inr (.inl ⟨it,rfl,#[],#[],rfl,by simpa using y⟩),_,y⟩
     ·exact⟨.inr (.inl ⟨it,rfl,#[],_,rfl,by simpa using y⟩),_,y⟩
    ·have:=ok.fz b _ (l b _ (SJ b o q hm));exact⟨.inl this,o,this⟩
   exact⟨rfl,⟨λb o q=>(kp b o q).1,λb o q=>(kp b o q).2⟩,os,bare⟩
theorem walk_of{l:PySem.W.OpenLaw}{n k:Nat}{q:Program}{loose:List Str}{XP:(Str->Option Value)->Heap->Prop}{YP:World->Heap->Prop}{d:DefRec}{K:Params->PySem.W.Frag}{sp:World->Sp}{x:Str}{ts:gE}
  (hn:l.most=some n) (nM:n<=sizeLine) (jS:d.params.defaults=[]) (hr:bC k callerA)
  (S6:∀(w:World)(h:Heap),YP w h->(K w.params).In h/\∀T∈ts.map (·.1),h.get? T=some (PySem.W.tabObj #[]))
  (md:∀(w:World),∀T∈ts.map (·.1),(K w.params).lookup T=none/\∃c,PySem.W.codeHdIn (K w.params) c T=true)
  (F:∀(w:World)(mg:Str->Option Value)(fa:Addr)(h:Heap),(K w.params).In h->h.Ns mainGlobals mg->mg d.name=some (.ref fa) ->
   ∃fd:FuncData,(∀(s:Shared)(u:Value),BindsTo s fd ⟨[u],[]⟩ [(x,u)])/\∀base:Heap,(K w.params).In base->base.Ns mainGlobals mg->bj ⟨l.prog,w,K w.params,mg,base,fN ts⟩ k fa fd [x] (sp w))
  (jO:∀(w:World)(ns:List Int),ns.length<=n->sp w [.lst (ns.map D.int)] (λ_=>none) (λd _=>d=.bl true) X0) :
  PySem.W.WalkO q loose XP YP l.row.toRowW d [] (λf vs=>PySem.call f vs):=by
 refine Att.J7 hn jS λw s₀ s₁ mg mb fa o pm cd am a vs ns G Y ho hd ef hmg tT tU hlen hg=>?_;obtain⟨KX,hT⟩:=S6 w _ Y;obtain⟨fd,hb,hF⟩:=F w mg fa _ KX G.T.g hmg;exact J9 KX hT (λT hm=>⟨(md w T hm).1,let ⟨c,e⟩:=(md w T hm).2;⟨c,PySem.W.codeHd_of_K KX e⟩⟩) G.T.g G.T.b G.T.builtins G.T.nolimit hg tT tU (W2 hlen nM) hr hF hb (jO w ns hlen)
end N
end
section
set_option maxHeartbeats 1000000
namespace N
open PySem PySem.Spec PyProof.Rows L2
theorem aF.tV{G:Gx}{F:Fz}{M:Mp}{h h':Heap}{T c:Addr}{p:Pos}{q:Str}{o:Obj}(x:aF G F M h)(hT:F T=some (.tab p q))(k:∀b,b≠T->bp h h' b)(e:h'.get? T=some { cls:=.none,data:=.fields #[rawInt p.line,rawInt p.col,.ref c] })(hp:h.objs.size<=c)(ho:h'.get? c=some o)(hc:gU o q):aF G (up F c (.dat o)) M h':=by
 have hF:=x.cB hp;have R9:T≠c:=bR hT hF;refine⟨λb f r=>?_,λb u r=>?_,λT' p' q' r=>?_⟩
 ·by_cases hb:b=c
  ·subst hb;rw[ak]at r;cases r;exact ho
  ·rw[aj hb]at r;by_cases kg:b=T
   ·subst kg;rw[hT]at r;cases r;exact⟨_,e⟩
   ·exact (x.fz b f r).go (k b kg)
 ·have hb:b≠c:=bR r (x.c8 hp);obtain⟨h1,h2⟩:=x.ob b u r;refine⟨by rw[aj hb];exact h1,h2.go (Le.new hF).d (λd hd=>k d ?_) λ_ e=>e⟩;rintro rfl;rcases hd with rfl |hd
  ·rw[hT]at h1;cases h1
  ·have:=(x.ob _ _ hd).1;rw[hT]at this;cases this
 ·by_cases hb:T'=c
  ·subst hb;rw[ak]at r;cases r
  ·rw[aj hb]at r;by_cases kg:T'=T
   ·subst kg;rw[hT]at r;cases r;exact .inr ⟨c,o,e,ak,hc⟩
   ·rcases x.tb T' p' q' r with y |⟨c',o',h1,h2,h3⟩
    ·exact .inl (k T' kg _ y)
    ·exact .inr ⟨c',o',k T' kg _ h1,Le.new hF _ _ h2,h3⟩
theorem ab.tV{X:Cx}{τ:St}{z:Z}{h':Heap}{t:Nat}{T c:Addr}{p:Pos}{q:Str}{o:Obj}(I:ab X τ z)(hT:z.F T=some (.tab p q))(k:∀ b,b≠T->bp z.s.heap h' b)(e:h'.get? T=some { cls:=.none,data:=.fields #[rawInt p.line,rawInt p.col,.ref c] })(hp:z.s.heap.objs.size<=c)(ho:h'.get? c=some o)(hc:gU o q):
  Le z.F (up z.F c (.dat o))/\ab X τ ⟨up z.F c (.dat o),z.M,{ z.s with heap:=h',toks:=t }⟩:=by
 have l:Le z.F (up z.F c (.dat o)):=Le.new (I.hok.cB hp);refine⟨l,I.go l (I.hok.tV hT k e hp ho hc) (λb hb=>⟨(k b ?_).s,I.c9 hb,aj (W7 (Xj (I.gg hb) hp))⟩) rfl I.bare⟩;rintro rfl;rcases hb with rfl |⟨x,hx⟩
 ·rw[I.free.1]at hT;cases hT
 ·rcases (I.cell x b hx).2.2 with r |⟨_,o',r⟩
  ·rw[r.2]at hT;cases hT
  ·rw[r]at hT;cases hT
structure gF(G:Gx)(c T:Addr)(p:Pos)(q:Str):Prop where
 cd:PySem.W.codeHdIn G.K c T=true
 bi:∃(Te:Addr)(ob:Obj),G.mg "__builtins__"=some (.ref Te)/\G.K.lookup Te=some ob/\Te≠builtinsNs/\Te≠mainGlobals/\Te≠T/\ob.cls=.type "module"/\ob.dict=some builtinsNs/\ob.data=.plain
 Ul:mainGlobals≠T
 tab:G.ex T=some (.tab p q)
abbrev ij:=List (Str×Addr)
theorem Kc{h:Heap}{c:Addr}{q:Str}(x:h.CodeRec (.ref c) q):∃o,h.get? c=some o/\gU o q:=by
 obtain⟨d,o,vs,t,e,e1,e2,e3⟩:=x;cases e;exact⟨o,e1,vs,t,e2,e3⟩
section
variable{X:Cx}{τ:St}{z:Z}
theorem Ke{clos:ij}{params:Arguments}{body:Expr}{scope:Scope}{pos:Pos}{c T:Addr}{R:Value->Shared->Prop}(I:ab X τ z)(L:gF X.G c T pos (X.env.qual++"<lambda>"))(me:defaultsOf params X.env=([],[]))(cG:closureFor scope X.env=pure clos)(AB:X.env.code=.ref c)
  (k:∀f c' o' cy z',Le z.F z'.F->ab X τ z'->z'.M=z.M->z'.F f=some (.dat (PySem.W.kla_obj "<lambda>" (X.env.qual++"<lambda>") params body scope clos ((X.G.mg "__name__").getD .none) c' cy))->z'.F c'=some (.dat o')->gU o' (X.env.qual++"<lambda>")->R (.ref f) z'.s) :
  W X (eval (.Lambda params body scope pos) X.env) R z.s:=by
 obtain⟨cd,⟨Te,ob,b1,b2,SO,Um,Un,Tx,Uo,Up⟩,Ul,tab⟩:=L;have hg:z.s.heap.Ns mainGlobals X.G.mg:=I.ok.mod.eJ.keeps I.SD;have C:PySem.W.CodeHd z.s.heap c T:=PySem.W.codeHd_of_K I.b7 cd;have hb:z.s.heap.BuiltinsAt X.G.mg T:=⟨Te,ob,b1,SO,Um,Un,I.b7 _ _ b2,Tx,Uo,Up⟩;have hT:z.F T=some (.tab pos (X.env.qual++"<lambda>")):=I.bs.x T _ tab;have fin:∀{c':Addr}{o':Obj}{cy:Value}{z1:Z}(tk:Nat),Le z.F z1.F->ab X τ z1->z1.M=z.M->z1.F c'=some (.dat o')->gU o' (X.env.qual++"<lambda>") ->
   R (.ref z1.s.heap.objs.size) { z1.s with heap:=z1.s.heap.push (PySem.W.kla_obj "<lambda>" (X.env.qual++"<lambda>") params body scope clos ((X.G.mg "__name__").getD .none) c' cy),toks:=tk }:=λ{c' o' cy z1}tk l1 I1 Uq hc hr=>by
  have I2:=I1.kL (f:=.dat (PySem.W.kla_obj "<lambda>" (X.env.qual++"<lambda>") params body scope clos ((X.G.mg "__name__").getD .none) c' cy)) (t:=tk) (λb o e=>WR _ e) (WU _) (WX _ rfl);have l2:=Le.new (f:=.dat (PySem.W.kla_obj "<lambda>" (X.env.qual++"<lambda>") params body scope clos ((X.G.mg "__name__").getD .none) c' cy)) (I1.hok.cB (WU z1.s.heap.objs.size));exact k _ c' o' cy _ (l1.tr l2) I2 Uq ak (l2 _ _ hc) hr
 refine PySem.W.kla_eval me ?_;rcases I.hok.tb T _ _ hT with hP |⟨c',o',hP,hc,hr⟩
 ·refine PySem.W.kla_makeFunction cG I.ok.eJ hg AB C hP trivial rfl Ul hb λc' cy h' tk ext Kf f8 rec tab=>?_;obtain⟨o',ho,hr⟩:=Kc rec;obtain⟨l1,I1⟩:=I.tV (t:=tk) hT (λb z u e=>ext b u z e) (by simpa using tab) Kf ho hr;exact fin tk l1 I1 rfl ak hr
 ·refine PySem.W.kla_makeFunctionHit (cv:=.ref c') cG I.ok.eJ hg AB C hP ?_ ?_ hb λcy h' tk k hs=>?_
  ·simp [TriplesOk,rawInt]
  ·simp [codeAmong,rawInt]
  exact fin (z1:=⟨z.F,z.M,{ z.s with heap:=h',toks:=tk }⟩) tk Le.rfl (I.kept k) rfl hc hr
end
end N
end
section
set_option maxHeartbeats 1000000
namespace N
open PySem L2
theorem aw{Q:QK}{d:D}{M:Mp}(h:Q d M):bA Q d M:=⟨M,d,.rfl,.rfl,h⟩
theorem bQ{M:Mp}{p:Addr}{a b:MO}:up (up M p a) p b=up M p b:=funext λx=>by
 by_cases h:x=p
 ·rw[h,ak,ak]
 ·rw[aj h,aj h,aj h]
noncomputable def MO.tW:MO->Bool
 |.own _=>false
 |_=>true
theorem tX{M:Mp}{p:Addr}{o:MO}(hp:M p=none)(ho:o.tW=true):bD M (up M p o):=⟨λa u e=>by rw[aj (bR e hp)];exact e,λa b e q=>by
 by_cases hb:b=p
 ·subst hb;rw[ak]at q;cases q;cases ho
 ·rw[aj hb]at q;exact q⟩
theorem bD.tr{K L M:Mp}(a:bD K L)(b:bD L M):bD K M:=⟨λx o e=>b.sub x o (a.sub x o e),λx y e q=>a.own x y e (b.own x y (λz=>e (by
 cases h:K x with
 |none=>rfl
 |some o=>rw[a.sub x o h]at z;cases z)) q)⟩
theorem AD{Q:QK}{M:Mp}{p:Addr}{o:MO}{d:D}(hp:M p=none)(ho:o.tW=true)(h:Q d M):bA Q d (up M p o):=⟨M,d,tX hp ho,.rfl,h⟩
theorem aP{c:Prop}[Decidable c]{a b:Prop}(h:c)(q:a):if c then a else b:=by rw[if_pos h];exact q
theorem ax{c:Prop}[Decidable c]{a b:Prop}(h:¬c)(q:b):if c then a else b:=by rw[if_neg h];exact q
theorem dU{ok:Mp->Prop}{g:G}{tc:DT}{te:DE}{τ:St}{k:List D->Mp->Prop}(J:List D->List D->Mp->Prop)(fin:∀ ys M,J [] ys M->ok M/\ys.length<sizeLine/\k ys M)
  (step:∀x xs ys M,J (x::xs) ys M->ok M/\ys.length<sizeLine/\∀N:List D->Mp->Prop,(∀gA M',J xs gA M'->N gA M')->cm g x τ M fun τ1 M0=>tc τ1 M0 λb M1=>if b=true then te τ1 M1 λy M2=>N (ys++[y]) M2 else N ys M1) :
  ∀xs ys M,J xs ys M->cb ok g tc te τ k xs ys M
 |[],ys,M,h=>fin ys M h
 |x::xs,ys,M,h=>
  let ⟨h1,h2,h3⟩:=step x xs ys M h
  ⟨h1,h2,h3 (λys M=>cb ok g tc te τ k xs ys M) λgA M' q=>dU J fin step xs gA M' q⟩
theorem e7{ok:Mp->Prop}{g:DG}{tb:DS}{e:En}(J:List D->St->Mp->Prop)(fin:∀ τ M,J [] τ M->ok M/\e.nx τ M)
  (step:∀x xs τ M,J (x::xs) τ M->ok M/\∀N:St->Mp->Prop,(∀ τ' M',J xs τ' M'->N τ' M')->g x τ M fun τ1 M1=>tb { e with nx:=N,ct:=N,SD:=e.nx } τ1 M1):∀xs τ M,J xs τ M->fC ok g tb e xs τ M
 |[],τ,M,h=>fin τ M h
 |x::xs,τ,M,h=>
  let ⟨h1,h2⟩:=step x xs τ M h
  ⟨h1,h2 (fC ok g tb e xs) fun τ' M' q=>e7 J fin step xs τ' M' q⟩
theorem mf{α:Type}{ok:Mp->Prop}{g:G}{te:DE}{τ:St}{k:List D->Mp->Prop}{M:Mp}(f:α->D)(h:α->D)(xs:List α)(hok:ok M)(hl:xs.length<sizeLine)
  (one:∀x∈xs,∀N:D->Mp->Prop,N (h x) M->cm g (f x) τ M fun τ1 M0=>te τ1 M0 N) (fin:k (xs.map h) M):cb ok g gz te τ k (xs.map f) [] M:=by
 refine dU (λrest ys M'=>M'=M/\∃a b,xs=a++b/\rest=b.map f/\ys=a.map h) ?_ ?_ _ _ _ ⟨rfl,[],xs,rfl,rfl,rfl⟩
 ·rintro ys M' ⟨rfl,a,b,e1,e2,rfl⟩;cases b with
  |cons x r=>cases e2
  |nil=>rw[Xc]at e1;subst e1;exact⟨hok,by rw[WQ];exact hl,fin⟩
 ·rintro x rest ys M' ⟨rfl,a,b,e1,e2,rfl⟩;cases b with
  |nil=>cases e2
  |cons y r=>
   cases e2;refine⟨hok,by rw[WQ];rw[e1,W3]at hl;lia,λN hN=>?_⟩;exact one y (by rw[e1];simp) (λy M2=>N (a.map h++[y]) M2) (hN _ _ ⟨rfl,a++[y],r,by rw[e1];simp,rfl,by simp⟩)
end N
end
section
set_option maxHeartbeats 1000000
namespace N
open PySem PySem.Spec PyProof.Rows L2
structure oO(ps fr:List Str)(scope:Scope):Prop where
 kind:scope.kind=.function
 Uc:scope.isCoroutine=false
 k9:scope.isGenerator=false
 AE:∀y∈scope.names,y.2≠.cell
 free:∀y∈scope.names,y.2=.free->y.1∈fr
 Kg:∀x∈fr,scope.names.lookup x=some .free
 AF:∀x∈ps,scope.names.lookup x=some .local
theorem AG:∀{ps:List Str}{us:List Value}{i:Nat}{x:Str}{u:Value},ps.Nodup->ps[i]?=some x->us[i]?=some u->(ps.zip us).reverse.lookup x=some u
 |[],_,_,_,_,_,h,_=>by simp at h
 |_::_,[],_,_,_,_,_,h=>by simp at h
 |p::ps,w::us,0,x,u,nd,h1,h2=>by
  simp only[List.getElem?_cons_zero,Option.some.injEq]at h1 h2;subst h1 h2;rw[Yi,YB,List.lookup_append];have:(ps.zip us).reverse.lookup p=none:=by
   rw[List.lookup_eq_none_iff];rintro⟨a,b⟩ fD;have ha:=(YV (List.mem_reverse.mp fD)).1;have:p≠a:=λz=>(List.nodup_cons.mp nd).1 (z ▸ ha);simpa using this
  rw[this];simp
 |p::ps,w::us,i+1,x,u,nd,h1,h2=>by
  rw[Yi,YB,List.lookup_append,AG (List.nodup_cons.mp nd).2 (by simpa using h1) (by simpa using h2)];rfl
noncomputable def tY(qual:Str)(scope:Scope)(clos:ij)(L f:Addr)(cd:Value):Env:=newEnv scope L mainGlobals clos (qual++".<locals>.") (some f) cd none builtinsNs
noncomputable def AH(G:Gx)(N:List Str)(qual:Str)(scope:Scope)(clos:ij)(f:Addr)(cd:Value)(A:Around)(outer:List Env)(s:Shared)(E:XQ):Cx where
 G:=G
 A:=A.deeper (tY qual scope clos s.heap.objs.size f cd)
 N:=N
 os:=s.os
 env:=tY qual scope clos s.heap.objs.size f cd
 outer:=outer
 stk:=tY qual scope clos s.heap.objs.size f cd::outer
 fn:=λ_=>false
 calm:=true
 x:=λx _ M=>E x M
structure oP(G:Gx)(clos:ij)(ws:List D):Prop where
 len:ws.length=clos.length
 bf:∀(i:Nat)x a w,clos[i]?=some (x,a)->ws[i]?=some w->∃o u,G.ex a=some (.pin o)/\o.data=.cell (some u)/\aa G G.ex w u
 nd:(clos.map (·.1)).Nodup
 inj:∀x y c,clos.lookup x=some c->clos.lookup y=some c->x=y
theorem tZ:∀{clos:ij}{i:Nat}{p:Str×Addr},(clos.map (·.1)).Nodup->clos[i]?=some p->clos.lookup p.1=some p.2
 |[],_,_,_,h=>by simp at h
 |q::r,0,p,_,h=>by
  simp only[List.getElem?_cons_zero,Option.some.injEq]at h;subst h;simp [List.lookup]
 |q::r,i+1,p,nd,h=>by
  rw[W0,List.nodup_cons]at nd;have h':r[i]?=some p:=by simpa using h
  have ne:(p.1 == q.1)=false:=by
   have:p.1≠q.1:=λz=>nd.1 (by rw[<- z];exact List.mem_map.mpr ⟨p,Xw h',rfl⟩);simpa using this
  show (match p.1 == q.1 with |true=>some q.2 |false=>r.lookup p.1)=some p.2
  rw[ne];exact tZ nd.2 h'
theorem oP.cell{G:Gx}{clos:ij}{ws:List D}(h:oP G clos ws){x:Str}{a:Addr}(e:clos.lookup x=some a):∃o u,G.ex a=some (.pin o)/\o.data=.cell (some u):=by
 obtain⟨i,hi,Ur⟩:=List.mem_iff_getElem.mp (PySem.mem_of_lookup e);obtain⟨o,u,h1,h2,_⟩:=h.bf i x a (ws[i]'(by rw[h.len];exact hi)) (by rw[WW hi,Ur]) (WW _);exact⟨o,u,h1,h2⟩
theorem Kh{G:Gx}{ps ls:List Str}{qual:Str}{scope:Scope}{clos:ij}{f:Addr}{cd:Value}{A:Around}{outer:List Env}{z:Z}{E:XQ}{us:List Value}{ds ws:List D}{h':Heap}{tk:Nat}
  (S:oO ps (clos.map (·.1)) scope) (hd:A.handled=none) (e0:dN G A outer z) (hl:ds.length=ps.length) (Ki:ps.Nodup) (r:ae G z.F ds us) (SS:oP G clos ws)
  (cU:h'.Ns z.s.heap.objs.size (λx=>(ps.zip us).reverse.lookup x)) (fG:YA z.s.heap.objs.size (z.s.heap.push { cls:=.type "frame",data:=.dict #[] }) h') :
  ab (AH G ((ps++clos.map (·.1))++ls) qual scope clos f cd A outer z.s E) ((ds.map some++ws.map some)++ls.map λ_=>none) ⟨z.F,z.M,{ z.s with heap:=h',toks:=tk }⟩:=by
 have hk:∀b o,z.s.heap.get? b=some o->h'.get? b=some o:=λb o e=>by
  rw[fG.2 b (W7 (W4 e))];exact WR _ e
 have pin:∀{a o},G.ex a=some (.pin o)->z.F a=some (.pin o)/\h'.get? a=some o:=λ{a o}e=>⟨e0.bs.x a _ e,hk _ _ (e0.hok.fz a _ (e0.bs.x a _ e))⟩;refine⟨⟨e0.mod,S.kind,rfl,rfl,SS.inj,λy hy=>?_,λ_=>hd,Around.frames_deeper e0.frames,.inr ⟨rfl,rfl⟩⟩,e0.bs,rfl,e0.bare,e0.bY,⟨_,cU,λi y v h1 h2 h3=>?_⟩,λy c h=>?_,⟨e0.hok.cB (WU _),e0.hok.c8 (WU _)⟩,e0.hok.keep λb _ o q=>hk b o q,?_⟩
 ·have hy:scope.names.lookup y=some .cell\/scope.names.lookup y=some .free:=hy;rcases hy with hy |hy
  ·exact absurd rfl (S.AE _ (PySem.mem_of_lookup hy))
  ·obtain⟨p,hp,e⟩:=List.mem_map.mp (S.free _ (PySem.mem_of_lookup hy) rfl);obtain⟨i,hi,Ur⟩:=List.mem_iff_getElem.mp hp;have:=tZ SS.nd (WW hi);rw[Ur,e]at this;exact⟨_,this⟩
 ·have h1:((ps++clos.map (·.1))++ls)[i]?=some y:=h1;have TY:(ps++clos.map (·.1)).length=(ds.map some++ws.map some).length:=by rw[W3,W3,WQ,WQ,WQ,hl,SS.len]
  have Kj:i<(ds.map some++ws.map some).length:=by
   refine Nat.lt_of_not_le λz=>?_;rw[XD z,W8]at h2;cases e:ls[i-(ds.map some++ws.map some).length]? with
   |none=>rw[e]at h2;cases h2
   |some a=>rw[e]at h2;cases h2
  rw[XG (by lia)]at h1;rw[XG Kj]at h2;by_cases hi:i<ps.length
  ·rw[XG hi]at h1;rw[XG (by rw[WQ];lia),W8]at h2;cases e:ds[i]? with
   |none=>rw[e]at h2;cases h2
   |some a=>
    rw[e]at h2;cases h2;obtain⟨u,hu,rv⟩:=r.get e;exact⟨u,rv,.inl ⟨S.AF y (Xw h1),AG Ki h1 hu⟩⟩
  ·rw[XD (by lia),W8]at h1;rw[XD (by rw[WQ];lia),W8,WQ,hl]at h2;cases e:ws[i-ps.length]? with
   |none=>rw[e]at h2;cases h2
   |some a=>
    rw[e]at h2;cases h2;cases e1:clos[i-ps.length]? with
    |none=>rw[e1]at h1;cases h1
    |some p=>
     rw[e1]at h1;cases h1;obtain⟨o,u,q1,q2,q3⟩:=SS.bf _ p.1 p.2 v e1 e;have lk:=tZ SS.nd e1;exact⟨u,q3.up e0.bs.x.d,.inr ⟨.inr (S.Kg _ (List.mem_map.mpr ⟨p,Xw e1,rfl⟩)),p.2,lk,_,(pin q1).2,q2⟩⟩
 ·obtain⟨o,u,q1,q2⟩:=SS.cell (show clos.lookup y=some c from h);obtain⟨p1,p2⟩:=pin q1;refine⟨⟨_,o,p2,q2⟩,?_,.inr ⟨rfl,o,p1⟩⟩;cases e:z.M c with
  |none=>rfl
  |some m=>have:=(e0.hok.ob c m e).1;rw[p1]at this;cases this
 ·show _=((ps++clos.map (·.1))++ls).length;rw[W3,W3,W3,W3,WQ,WQ,WQ,WQ,hl,SS.len]
theorem Kk{G:Gx}{z:Z}{c:Addr}{o:Obj}{q:Str}(bs:Bs G z.F)(ok:aF G z.F z.M z.s.heap)(h:G.ex c=some (.dat o))(r:gU o q):z.s.heap.CodeRec (.ref c) q:=by
 obtain⟨vs,t,h1,h2⟩:=r;exact⟨c,o,vs,t,rfl,ok.fz c _ (bs.x c _ h),h1,h2⟩
theorem Kl{G:Gx}{m:Nm}{W:Wd}{k n:Nat}{f c:Addr}{o':Obj}{qual:Str}{params:Arguments}{body:Expr}{scope:Scope}{clos:ij}{pm cy:Value}{ps:List Str}{ws:List D}{sp:Sp}{e:E}
  (hf:G.ex f=some (.dat (PySem.W.kla_obj "<lambda>" qual params body scope clos pm c cy))) (hc:G.ex c=some (.dat o')) (hr:gU o' qual) (S:oO ps (clos.map (·.1)) scope) (SS:oP G clos ws) (nd:(ps++clos.map (·.1)).Nodup) (En:oF m W k G) (Ko:aV m n (ps++clos.map (·.1)) scope body=e)
  (h:∀ds M Q E,sp ds M Q E->ds.length=ps.length/\(e.w W m.af).1 (ds.map some++ws.map some) M (bA Q)):bj G (k+1) f (PySem.W.kla_fn "<lambda>" qual params body scope clos pm (.ref c) cy) ps sp:=by
 refine⟨λds M Q E z=>(h ds M Q E z).1,λA outer z args us ds Q E room e0 gG r hs=>?_⟩;obtain⟨hl,hq⟩:=h _ _ _ _ hs;have ho:z.s.heap.get? f=some _:=e0.hok.fz f _ (e0.bs.x f _ hf);refine YG (R:=CR G z (bA Q) E) ?_ λr s q=>q.ret;refine PySem.W.kla_callFunE room.depth ho rfl S.Uc S.k9 rfl (Kk e0.bs e0.hok hc hr) (gG _ _ _ _ ?_);refine wpAny_newFunctionEnv S.AE (λy hy=>S.AF _ (YV (show (y.1,y.2)∈ps.zip us from hy)).1) (λh' cU fG=>?_) S.kind;have hk:∀b o,z.s.heap.get? b=some o->h'.get? b=some o:=λb o e=>by
  rw[fG.2 b (W7 (W4 e))];exact WR _ e
 refine⟨(e0.mod.d8.keeps e0.SD).keeps hk,PySem.W.kla_codeExpr ?_⟩;have I:=Kh (ls:=[]) (qual:=qual) (f:=f) (cd:=.ref c) (E:=E) (tk:=z.s.toks+(ps.zip us).length) S room.hd e0 hl (List.nodup_append.mp nd).1 r SS cU fG;rw[Xc,XT,Xc]at I;have C:bu m W k (ps++clos.map (·.1)) scope (AH G (ps++clos.map (·.1)) qual scope clos f (.ref c) A outer z.s E):=⟨rfl,rfl,nd,rfl,room.deeper _,En⟩;rw[<- Ko]at hq;exact Y5 ((ja n C body).e _ _ _ _ I hq λd z1 u l J rd q=>(⟨d,z1,⟨rfl,l,J.hok,J.os,J.bare⟩,rd,q⟩:CR G z (bA Q) E (.ok (.ret u)) z1.s)) (λ_ _ h=>h) λe s' hs=>hs.no.elim
end N
end
section
set_option maxHeartbeats 1000000
namespace N
open PySem PySem.Spec PyProof.Rows L2
noncomputable def Wo.at(w:Wo)(e:Fz):Wo:={ w with G:={ w.G with ex:=e } }
theorem Wo.Ok.at{w:Wo}(O:w.Ok)(e:Fz):(w.at e).Ok where
 df:=λi d h=>let ⟨f,fd,h1,h2,h3⟩:=O.df i d h;⟨f,fd,h1,h2,h3⟩
 gv:=λi x h=>let ⟨u,h1,h2⟩:=O.gv i x h;⟨u,h1,λF hF=>(h2 F hF).xe e⟩
 bl:=O.bl
 fl:=O.fl
 mt:=O.mt
 cl:=O.cl
section
variable{X:Cx}{τ:St}{z:Z}
theorem Kp{G:Gx}{k:Nat}{f:Addr}{fd:FuncData}{ps:List Str}{sp:Sp}{cls:Value}(hf:G.ex f=some (.dat { cls:=cls,data:=.func fd }))(hc:cls=.type "function")(F:bj G k f fd ps sp)(hb:∀K,bO K fd ps []):hO G k f sp:=by
 subst hc;refine⟨fd,ps,[(f,{ cls:=.type "function",data:=.func fd })],F,by simp [PySem.W.keepIn,List.lookup],hb _,λz _ bs ok a o q=>?_⟩;by_cases y:a=f
 ·subst y;simp [List.lookup]at q;rw[<- q];exact ok.fz a _ (bs.x a _ hf)
 ·have:(a == f)=false:=by simpa using y
  simp [List.lookup,this]at q
end
theorem AI{l:Expr}(hl:bU l=true:=by rfl):∀{as:List Expr},bh as=true->bh (as++[l])=true
 |[],_=>by show (bU l && true)=true;rw[hl];rfl
 |a::as,h=>by
  have h':(bU a && bh as)=true:=h;rw[WT]at h';show (bU a && bh (as++[l]))=true;rw[h'.1,AI hl h'.2];rfl
theorem Kq{X:Cx}{m:Nm}{W:Wd}{f:Expr->E}{kh:Expr}(Kr:bU kh=true){as:List Expr}(hs:bh as=true)(g:∀ e∈as,PE X e ((f e).w W m.af).1)(pos:Pos)(τ:St):∀(z:Z)(P:List D->Mp->Prop)(R:List Value->Shared->Prop),ab X τ z->(L.of (as.map f)).w W m.af τ z.M P ->
  (∀ds z1 us,Le z.F z1.F->ab X τ z1->ae X.G z1.F ds us->P ds z1.M->N.W X (eval kh X.env) (λv s=>R (us++[v]) s) z1.s)->N.W X (spliced (backTo pos (starEach (as++[kh]) X.env))) R z.s:=by
 induction as with
 |nil=>
  intro z P R I h k;have h0:P [] z.M:=h;have k0:=k [] z [] Le.rfl I .nil h0;show N.W X (spliced (backTo pos (starEach [kh] X.env))) R z.s;rw[bJ Kr];refine Yn (Y5 k0 (λv s q=>?_) λ_ _ q=>q);exact YU q
 |cons a as ih=>
  intro z P R I h k;have h':(bU a && bh as)=true:=hs;rw[WT]at h';have h1:((f a).w W m.af).1 τ z.M λx M1=>(L.of (as.map f)).w W m.af τ M1 λxs M2=>P (x::xs) M2:=h;show N.W X (spliced (backTo pos (starEach (a::(as++[kh])) X.env))) R z.s;rw[bJ h'.1];show N.W X (spliced ((false,eval a X.env)::backTo pos (starEach (as++[kh]) X.env))) R z.s;refine Yn (g a WZ τ z _ _ I h1 λx z1 v l1 I1 r1 q1=>?_);refine ih h'.2 (λe he=>g e (WY _ he)) z1 (λxs M=>P (x::xs) M) (λvs s=>R (v::vs) s) I1 q1 λds z2 us l2 I2 r2 q2=>?_;exact k (x::ds) z2 (v::us) (l1.tr l2) I2 (.cons (r1.up l2.d) r2) q2
end N
end
section
set_option maxHeartbeats 1000000
namespace N
open PySem PySem.Spec PyProof.Rows L2
end N
end
section
set_option maxHeartbeats 1000000
namespace N
open PySem PySem.Spec PyProof.Rows L2
set_option genInjectivity false
set_option genSizeOfSpec false
end N
end
section
namespace NQ
open PySem N
open L2
inductive Kd where
 |num |word
 |row (fs:List (Str×Kd))
 |aY (k:Kd)
mutual
noncomputable def kD:Kd->D
 |.num=>.tup [.str "num"]
 |.word=>.tup [.str "word"]
 |.row fs=>.tup [.str "row",.tup (cf fs)]
 |.aY k=>.tup [.str "bag",kD k]
noncomputable def cf:List (Str×Kd)->List D
 |[]=>[]
 |(f,k)::r=>.tup [.str f,kD k]::cf r
end
abbrev Sc:=List (Str×Kd)
noncomputable def lk(x:Str):Sc->Option Kd
 |[]=>.none
 |(y,k)::r=>if x=y then some k else lk x r
mutual
noncomputable def kd:Kd->Nat
 |.num=>1
 |.word=>1
 |.row fs=>ki fs+3
 |.aY k=>kd k+1
noncomputable def ki:List (Str×Kd)->Nat
 |[]=>0
 |(_,k)::r=>max (kd k) (ki r)
end
mutual
theorem kj:∀k,ar (kD k)=true
 |.num=>rfl
 |.word=>rfl
 |.row fs=>by rw[kD,ar,aI,aI,aI,ar,ar,AJ fs];rfl
 |.aY k=>by rw[kD,ar,aI,aI,aI,ar,kj k];rfl
theorem AJ:∀fs,aI (cf fs)=true
 |[]=>rfl
 |(f,k)::r=>by rw[cf,aI,ar,aI,aI,aI,ar,kj k,AJ r];rfl
end
mutual
theorem t4:∀k,aH (kD k)<=kd k
 |.num=>by rw[kD,kd];decide
 |.word=>by rw[kD,kd];decide
 |.row fs=>by have:=AM fs;rw[kD,aH,aR,aR,aR,aH,aH,kd];lia
 |.aY k=>by have:=t4 k;rw[kD,aH,aR,aR,aR,aH,kd];lia
theorem AM:∀fs,aR (cf fs)<=ki fs+1
 |[]=>by rw[cf,aR];lia
 |(f,k)::r=>by have:=t4 k;have:=AM r;rw[cf,aR,aH,aR,aR,aR,aH,ki];lia
end
theorem dV{a b:Str}{xs ys:List D}(h:au (.tup (.str a::xs)) (.tup (.str b::ys))=true):a=b/\bF xs ys=true:=by
 simp only[au,bF,qK,k4,Option.any_some,WT,beq_iff_eq,Option.some.injEq]at h;exact⟨h.1.symm,h.2⟩
mutual
theorem oQ:∀{a b:Kd},au (kD a) (kD b)=true->a=b
 |.num,b,h=>by cases b <;> first |rfl |(exact absurd (dV h).1 (by decide +kernel))
 |.word,b,h=>by cases b <;> first |rfl |(exact absurd (dV h).1 (by decide +kernel))
 |.row fs,b,h=>by
  cases b with
  |row Tj=>
   have h:=(dV h).2;simp only[bF,au,qK,Option.any_some,WT]at h;rw[AO h.1]
  |num=>exact absurd (dV h).1 (by decide +kernel)
  |word=>exact absurd (dV h).1 (by decide +kernel)
  |aY k=>exact absurd (dV h).1 (by decide +kernel)
 |.aY k,b,h=>by
  cases b with
  |aY l=>
   have h:=(dV h).2;simp only[bF,WT]at h;rw[oQ h.1]
  |num=>exact absurd (dV h).1 (by decide +kernel)
  |word=>exact absurd (dV h).1 (by decide +kernel)
  |row k=>exact absurd (dV h).1 (by decide +kernel)
theorem AO:∀{a b:List (Str×Kd)},bF (cf a) (cf b)=true->a=b
 |[],[],_=>rfl
 |[],(_,_)::_,h=>by simp [cf,bF]at h
 |(_,_)::_,[],h=>by simp [cf,bF]at h
 |(f,k)::r,(g,l)::s,h=>by
  rw[cf,cf,bF,WT]at h;obtain⟨e,h1⟩:=dV h.1;simp only[bF,WT]at h1;rw[e,oQ h1.1,AO h.2]
end
noncomputable instance:DecidableEq Kd:=λa b=>decidable_of_iff (au (kD a) (kD b)=true) ⟨oQ,λe=>by rw[e];exact gk _ (kj b)⟩
theorem Kt{a b:Kd}:au (kD a) (kD b)=decide (a=b):=by
 by_cases h:a=b
 ·subst h;rw[decide_eq_true rfl];exact gk _ (kj a)
 ·rw[decide_eq_false h];cases z:au (kD a) (kD b) with
  |false=>rfl
  |true=>exact absurd (oQ z) h
theorem oR{k:Kd}{M:Mp}:bP (kD k) M=kD k:=by cases k <;> rfl
theorem t6{n:Bool}{a b:Kd}{M:Mp}{k:Bool->Prop}(h:kd a<=50)(q:k (decide (a=b))):gn n (kD a) (kD b) M k:=by
 refine .mk ?_ ?_
 ·rw[oR,oR];exact .inl ⟨kj a,kj b,W2 (t4 a) (by lia)⟩
 ·rw[oR,oR,Kt];exact q
theorem aT{n:Bool}{a b:Str}{M:Mp}{k:Bool->Prop}(q:k (decide (a=b))):gn n (.str a) (.str b) M k:=by
 refine .mk (.inl ⟨rfl,rfl,W9 _⟩) ?_;have:au (.str a) (.str b)=decide (a=b):=by
  show (some b == some a)=decide (a=b);by_cases h:a=b
  ·subst h;simp
  ·rw[decide_eq_false h];exact beq_eq_false_iff_ne.mpr λz=>h (Xl z).symm
 exact this ▸ q
theorem cg{n:Bool}{a b:Int}{M:Mp}{k:Bool->Prop}(q:k (decide (a=b))):gn n (.int a) (.int b) M k:=by
 refine .mk (.inl ⟨rfl,rfl,W9 _⟩) ?_;have:au (.int a) (.int b)=decide (a=b):=by
  show (some b == some a)=decide (a=b);by_cases h:a=b
  ·subst h;simp
  ·rw[decide_eq_false h];exact beq_eq_false_iff_ne.mpr λz=>h (Xl z).symm
 exact this ▸ q
theorem bG{c:Prop}[Decidable c]{a b:Prop}(h:c->a)(g:¬c->b):if c then a else b:=by
 split
 ·exact h ‹_›
 ·exact g ‹_›
theorem l1:1<=sizeLine:=by decide
theorem l2:2<=sizeLine:=by decide
theorem l3:3<=sizeLine:=by decide
theorem l4:4<=sizeLine:=by decide
theorem SU{i j:Int}(h:-(2 ^ 64)<j/\j<2 ^ 64):CM i j:=.inl (.inr h)
theorem AP{i j:Int}(h:-(2 ^ 64)<i/\i<2 ^ 64):CM i j:=.inl (.inl h)
theorem AQ{n:Bool}{ds:List D}{M:Mp}{k:Bool->Prop}(q:k ds.isEmpty):gn n (.lst ds) (.lst []) M k:=by
 refine .mk (.inr ⟨rfl,rfl⟩) ?_;have:au (.lst ds) (.lst [])=ds.isEmpty:=by
  show bF ds []=_;cases ds <;> simp [bF]
 exact this ▸ q
noncomputable def cj(ms:Sc):List (Key×D):=ms.map λm=>(.inr m.1,kD m.2)
noncomputable def a9(ms:Sc):D:=.ag (ms.map λm=>.inr m.1) (ms.map λm=>kD m.2)
theorem jd(ms:Sc):(ms.map λm=>(XW m.1:Key)).zip (ms.map λm=>kD m.2)=cj ms:=by
 unfold cj;induction ms with
 |nil=>rfl
 |cons m ms ih=>rw[W0,W0,Yi,ih,W0]
theorem Ku(ms:Sc):D.ag ((cj ms).map (·.1)) ((cj ms).map (·.2))=a9 ms:=by
 unfold cj a9;rw[X7,X7];rfl
theorem jc{x:Str}{k:Kd}:∀{sc:Sc},lk x sc=some k->(x,k)∈sc
 |(y,l)::r,h=>by
  rw[lk]at h;split at h
  ·rename_i e;rw[e,Xl h];exact WZ
  ·exact WY _ (jc h)
theorem km{x:Str}:∀{ms:Sc},aK (cj ms) (.inr x)=(lk x ms).map kD
 |[]=>rfl
 |(y,l)::r=>by
  have ih:=@km x r;unfold aK cj at *;rw[W0,Yo,lk];by_cases e:x=y
  ·subst e;rw[if_pos rfl];simp
  ·have e':¬(XW y:Key)=XW x:=λz=>e (YK z).symm;rw[if_neg e];simp only[e',decide_false];exact ih
theorem oM{x:Str}:∀{sc:Sc},(lk x sc).isSome=decide (x∈sc.map (·.1))
 |[]=>rfl
 |(y,k)::r=>by
  rw[lk,W0];by_cases e:x=y
  ·subst e;simp
  ·rw[if_neg e,oM];simp [e]
theorem Kv{ms:Sc}{x:Str}{k:Kd}(h:x ∉ ms.map (·.1)):aZ (cj ms) (.inr x) (kD k)=cj (ms++[(x,k)]):=by
 unfold aZ;rw[if_neg]
 ·unfold cj;simp
 ·intro z;obtain⟨kv,h1,h2⟩:=List.any_eq_true.mp z;unfold cj at h1;obtain⟨m,hm,rfl⟩:=List.mem_map.mp h1;exact h (List.mem_map.mpr ⟨m,hm,YK (of_decide_eq_true h2)⟩)
theorem ez{xs:List D}{r:Int}(h0:0<=r)(h1:r<xs.length):∃d,bq xs r=some d/\d∈xs:=by
 have hn:r.toNat<xs.length:=by lia
 refine⟨xs[r.toNat],?_,List.getElem_mem hn⟩;unfold bq ei;rw[if_pos h0,if_pos h1];exact WW hn
theorem t7{a b:D}{c:Bool}:bq [a,b] (if c=true then 1 else 0)=some (if c=true then b else a):=by cases c <;> rfl
theorem Kw{a b:Int}{c:Bool}:bq [D.int a,D.int b] (if c=true then 1 else 0)=some (.int (if c=true then b else a)):=by cases c <;> rfl
theorem kn{A B:Mp}(h:bD A B){p:Addr}{o:MO}(e:A p=none)(n:o.tW=true):bD A (up B p o):=⟨λa u z=>by rw[aj (bR z e)];exact h.sub a u z,λa b z q=>by
 by_cases hb:b=p
 ·subst hb;rw[ak]at q;cases q;cases n
 ·rw[aj hb]at q;exact h.own a b z q⟩
theorem bD.no{A B:Mp}(h:bD A B){p:Addr}(e:B p=none):A p=none:=by
 cases z:A p with
 |none=>rfl
 |some o=>rw[h.sub p o z]at e;cases e
theorem AR{Q:QK}{M M':Mp}{p:Addr}{ds:List D}(hs:bD M M')(hp:M p=none)(h':M' p=some (.lst ds))(h:Q (.lst ds) M):bA Q (.ref p) M':=⟨M,_,hs,.lst h' hp .rfl,h⟩
theorem t8{Q:QK}{M M':Mp}{d:D}(hs:bD M M')(h:Q d M):bA Q d M':=⟨M,d,hs,.rfl,h⟩
noncomputable def a6:B->S
 |.cons s _=>s
 |.nil=>.pass
noncomputable def ik:B->B
 |.cons _ r=>r
 |.nil=>.nil
noncomputable def ko:S->B
 |.cond _ a _=>a
 |_=>.nil
theorem fP{t u:DS}{e:En}{τ:St}{M:Mp}(h:∀N:St->Mp->Prop,(∀ τ M,u e τ M->N τ M)->t { e with nx:=N } τ M):qv t u e τ M:=h _ λ_ _ z=>z
noncomputable def VH(kvs:List (Key×D)):D:=.ag (kvs.map (·.1)) (kvs.map (·.2))
theorem kq:∀kvs:List (Key×D),(kvs.map (·.1)).zip (kvs.map (·.2))=kvs
 |[]=>rfl
 |(k,d)::r=>by rw[W0,W0,Yi,kq r]
theorem Kx{kvs:List (Key×D)}{x:Str}{M:Mp}{k:Bool->Prop}(q:k (aK kvs (.inr x)).isSome):dw (.str x) (VH kvs) M k:=by
 refine⟨?_⟩;show k (aK ((kvs.map (·.1)).zip (kvs.map (·.2))) (.inr x)).isSome;rw[kq];exact q
structure Wc(C:Addr)(M0:Mp)(x a b:Addr):Prop where
 hx:∃dx,M0 x=some (.ins C dx [("waiting",.ref a),("found",.ref b)])
 ne:a≠b
 xa:x≠a
 xb:x≠b
noncomputable def Wm(M0:Mp)(a b:Addr)(ws fs:List D):Mp:=up (up M0 a (.lst ws)) b (.lst fs)
theorem oS{M:Mp}{p r:Addr}{o o':MO}(h:p≠r):up (up M p o) r o'=up (up M r o') p o:=by
 funext b;unfold up;by_cases h1:b=r
 ·subst h1;rw[if_pos rfl,if_neg (XC h),if_pos rfl]
 ·rw[if_neg h1,if_neg h1]
section
variable{C:Addr}{M0:Mp}{x a b:Addr}{ws fs:List D}
theorem Wc.Tc(h:Wc C M0 x a b):∃dx,Wm M0 a b ws fs x=some (.ins C dx [("waiting",.ref a),("found",.ref b)]):=let ⟨dx,e⟩:=h.hx;⟨dx,by unfold Wm;rw[aj h.xb,aj h.xa];exact e⟩
theorem Wc.ga(h:Wc C M0 x a b):Wm M0 a b ws fs a=some (.lst ws):=by unfold Wm;rw[aj h.ne];exact ak
theorem Wm.gb:Wm M0 a b ws fs b=some (.lst fs):=ak
theorem Wm.pb{fs':List D}:up (Wm M0 a b ws fs) b (.lst fs')=Wm M0 a b ws fs':=N.bQ
theorem e8{m:Str}{d e:D}(h1:(m == "waiting")=false)(h2:(m == "found")=false):[(("waiting" : Str),d),("found",e)].lookup m=none:=by simp [List.lookup,h1,h2]
end
theorem cW{d:D}{r:List D}:bq (d::r) 0=some d:=by
 unfold bq ei;rw[if_pos (by decide),if_pos (by rw[Xe];lia)];rfl
theorem t9{M M':Mp}(h:∀c,M c≠none->M' c=M c)(g:∀c e,M' c=some (.own e)->M e≠none->M c=some (.own e)):bD M M':=⟨λc o e=>by rw[h c (by rw[e];exact XB _)];exact e,λe c n q=>g c e q n⟩
end NQ
end
section
namespace QT
open PySem N NQ
open L2
inductive Hd where
 |var (x:Str) |bd (f:Bool) (x:Str) |row (fs:List Str) |o (w:Str) (ds:List D)
inductive Rt where
 |nd (h:Hd) (cs:List Rt)
noncomputable def bw(f:Bool):Str:=if f=true then "for" else "let"
noncomputable def hD:Hd->List D->D
 |.var x,_=>.tup [.str "var",.str x]
 |.bd f x,cs=>.tup (.str (bw f)::.str x::cs)
 |.row fs,cs=>.tup [.str "row",.tup (Xy (λf c=>.tup [.str f,c]) fs cs)]
 |.o w ds,cs=>.tup (.str w::(ds++cs))
mutual
noncomputable def rD:Rt->D
 |.nd h cs=>hD h (cK cs)
noncomputable def cK:List Rt->List D
 |[]=>[]
 |c::r=>rD c::cK r
end
theorem ip:∀cs:List Rt,cK cs=cs.map rD
 |[]=>rfl
 |c::r=>by rw[cK,ip r];rfl
theorem Rt.uc{P:Rt->Prop}(h:∀h cs,(∀c∈cs,P c)->P (.nd h cs))(q:Rt):P q:=
 @Rt.rec P (λcs=>∀c∈cs,P c) (λhd cs ih=>h hd cs ih) (λc hc=>nomatch hc) (λc r hc hr d hd=>(List.mem_cons.mp hd).elim (λe=>e ▸ hc) (hr d)) q
theorem Rt.bV{P:Rt->Prop}(v:∀x cs,P (.nd (.var x) cs))(b:∀f x u w,P u->P w->P (.nd (.bd f x) [u,w]))(o:∀h cs,(∀x,h≠.var x)->(∀f x,h=.bd f x->cs.length≠2)->(∀c∈cs,P c)->P (.nd h cs))(q:Rt):P q:=Rt.uc (λh cs ih=>by
 cases h with
 |var x=>exact v x cs
 |bd f x=>
  by_cases e:cs.length=2
  ·match cs,e,ih with
   |[u,w],_,ih=>exact b f x u w (ih u (by simp)) (ih w (by simp))
  ·exact o _ cs (λx e=>nomatch e) (λ_ _ _=>e) ih
 |row fs=>exact o _ cs (λx e=>nomatch e) (λ_ _ e=>nomatch e) ih
 |o w ds=>exact o _ cs (λx e=>nomatch e) (λ_ _ e=>nomatch e) ih) q
structure az(α:Type) where
 v:Str->α
 b:Str->α->α->α
 o:List α->α
noncomputable def two{α:Type}(b:α->α->α)(o:List α->α):List α->α
 |[u,w]=>b u w
 |us=>o us
noncomputable def az.st{α:Type}(A:az α):Hd->List α->α
 |.var x,_=>A.v x
 |.bd _ x,us=>two (A.b x) A.o us
 |.row _,us=>A.o us
 |.o _ _,us=>A.o us
mutual
noncomputable def az.f{α:Type}(A:az α):Rt->α
 |.nd h cs=>A.st h (A.fs cs)
noncomputable def az.fs{α:Type}(A:az α):List Rt->List α
 |[]=>[]
 |c::r=>A.f c::A.fs r
end
section
variable{α:Type}{A:az α}
theorem az.AS:∀cs:List Rt,A.fs cs=cs.map A.f
 |[]=>rfl
 |c::r=>by rw[az.fs,az.AS r];rfl
theorem az.fv{x:Str}{cs:List Rt}:A.f (.nd (.var x) cs)=A.v x:=by rw[az.f];rfl
theorem az.fb{f:Bool}{x:Str}{u w:Rt}:A.f (.nd (.bd f x) [u,w])=A.b x (A.f u) (A.f w):=by rw[az.f,az.fs,az.fs,az.fs];rfl
theorem az.fo{h:Hd}{cs:List Rt}(n:∀x,h≠.var x)(n2:∀f x,h=.bd f x->cs.length≠2):A.f (.nd h cs)=A.o (cs.map A.f):=by
 rw[az.f,az.AS];cases h with
 |var x=>exact absurd rfl (n x)
 |bd f x=>
  have:=n2 f x rfl
  match cs,this with
  |[],_=>rfl
  |[_],_=>rfl
  |[_,_],h=>exact absurd rfl h
  |_::_::_::_,_=>rfl
 |row fs=>rfl
 |o w ds=>rfl
end
noncomputable def eA:az (List Str):=⟨λx=>[x],λx u w=>u++w.filter λy=>decide (y≠x),λus=>us.flatten⟩
noncomputable def kr:az (List Str):=⟨λx=>[x],λx u w=>x::(u++w),λus=>us.flatten⟩
noncomputable def fQ:az Nat:=⟨λ_=>1,λ_ u w=>1+max u w,λus=>1+us.foldr max 0⟩
noncomputable def iq:az Nat:=⟨λ_=>1,λ_ u w=>1+u+w,λus=>1+us.sum⟩
noncomputable abbrev fv:=eA.f
noncomputable abbrev nms:=kr.f
noncomputable abbrev ht:=fQ.f
noncomputable abbrev nk:=iq.f
abbrev Rn:=List (Str×Str)
noncomputable def av(ρ:Rn)(x:Str):Rn:=ρ.filter λp=>decide (p.1≠x)
noncomputable def AU:az (Rn->Rt->Rt):=⟨λx ρ q=>match q with
  |.nd _ cs=>.nd (.var ((ρ.lookup x).getD x)) cs,λx u w ρ q=>match q with
  |.nd h [a,b]=>.nd h [u ρ a,w (av ρ x) b]
  |q=>q,λus ρ q=>match q with
  |.nd h cs=>.nd h (Xy (λu c=>u ρ c) us cs)⟩
noncomputable def aA(ρ:Rn)(q:Rt):Rt:=AU.f q ρ q
theorem eB{ρ:Rn}{x:Str}{cs:List Rt}:aA ρ (.nd (.var x) cs)=.nd (.var ((ρ.lookup x).getD x)) cs:=by unfold aA;rw[az.fv];rfl
theorem e9{ρ:Rn}{f:Bool}{x:Str}{u w:Rt}:aA ρ (.nd (.bd f x) [u,w])=.nd (.bd f x) [aA ρ u,aA (av ρ x) w]:=by unfold aA;rw[az.fb];rfl
theorem AV{α β:Type}{f:α->α->β}:∀{l:List α},Xy f l l=l.map λx=>f x x
 |[]=>rfl
 |x::r=>by rw[YE,AV];rfl
theorem fc{ρ:Rn}{h:Hd}{cs:List Rt}(n:∀x,h≠.var x)(n2:∀f x,h=.bd f x->cs.length≠2):aA ρ (.nd h cs)=.nd h (cs.map (aA ρ)):=by
 unfold aA;rw[az.fo n n2];show Rt.nd h (Xy (λu c=>u ρ c) (cs.map AU.f) cs)=_;rw[List.zipWith_map_left,AV]
theorem fR{ρ:Rn}{x:Str}{p:Str×Str}:p∈av ρ x ↔ p∈ρ/\p.1≠x:=by
 unfold av;rw[List.mem_filter,decide_eq_true_eq]
theorem ud{ρ:Rn}{x y:Str}:(av ρ x).lookup y=if y=x then none else ρ.lookup y:=by
 induction ρ with
 |nil=>split <;> rfl
 |cons p r ih=>
  obtain⟨a,b⟩:=p;unfold av at ih ⊢;rw[List.filter_cons];by_cases h:a=x
  ·subst h;rw[if_neg (by simp),ih];by_cases e:y=a
   ·rw[if_pos e,if_pos e]
   ·rw[if_neg e,if_neg e,Xh];have:(y == a)=false:=(by simpa using e);rw[this]
  ·rw[if_pos (by simpa using h),Xh,Xh,ih];by_cases e:y=a
   ·subst e;simp [h]
   ·have:(y == a)=false:=(by simpa using e);rw[this]
theorem ku{ρ:Rn}{x g:Str}(h:ρ.lookup x=some g):(x,g)∈ρ:=by
 induction ρ with
 |nil=>cases h
 |cons p r ih=>
  obtain⟨a,b⟩:=p;rw[Xh]at h;by_cases e:x=a
  ·subst e;simp at h;rw[h];exact WZ
  ·have:(x == a)=false:=(by simpa using e);rw[this]at h;exact WY _ (ih h)
theorem ue{α β:Type}{f g:α->β}{l:List α}(h:∀x∈l,f x=g x):l.map f=l.map g:=List.map_congr_left h
theorem oT:∀q,aA [] q=q:=Rt.bV (λx cs=>by rw[eB];rfl) (λf x u w h g=>by rw[e9,h];show Rt.nd _ [u,aA [] w]=_;rw[g]) λh cs n n2 ih=>by
 rw[fc n n2,ue (g:=id) ih,List.map_id]
theorem Ky{y g:Str}:∀q{ρ:Rn},(∀p∈ρ,p.1≠y/\p.2≠y)->aA [(y,g)] (aA ρ q)=aA ((y,g)::ρ) q:=λq=>by
 refine Rt.bV (P:=λq=>∀{ρ:Rn},(∀p∈ρ,p.1≠y/\p.2≠y)->aA [(y,g)] (aA ρ q)=aA ((y,g)::ρ) q) (λx cs ρ hρ=>?_) (λf x u w hu hw ρ hρ=>?_) (λh cs n n2 ih ρ hρ=>?_) q
 ·rw[eB,eB,eB];by_cases e:x=y
  ·subst e;have:ρ.lookup x=none:=by
    cases z:ρ.lookup x with
    |none=>rfl
    |some g'=>exact absurd rfl (hρ _ (ku z)).1
   simp [Xh,this]
  ·have e':(x == y)=false:=(by simpa using e);cases z:ρ.lookup x with
   |none=>simp [Xh,e',z]
   |some g'=>
    have:(g' == y)=false:=(by simpa using (hρ _ (ku z)).2);simp [Xh,e',z,this]
 ·rw[e9,e9,e9,hu hρ];by_cases e:x=y
  ·subst e;have e1:av [(x,g)] x=[]:=(by unfold av;simp);have e2:av ((x,g)::ρ) x=av ρ x:=(by unfold av;rw[List.filter_cons_of_neg (by simp)]);rw[e1,e2,oT]
  ·have e1:av [(y,g)] x=[(y,g)]:=(by unfold av;simp [XC e]);have e2:av ((y,g)::ρ) x=(y,g)::av ρ x:=(by unfold av;rw[List.filter_cons_of_pos (by simp [XC e])]);rw[e1,e2,hw λp hp=>hρ p (fR.mp hp).1]
 ·rw[fc n n2,fc n n2,fc n (by rw[WQ];exact n2),X7]
  congr 1
  exact ue λc hc=>ih c hc hρ
theorem AW{f:Rt->List Str}{cs:List Rt}{x:Str}:x∈(cs.map f).flatten ↔ ∃c∈cs,x∈f c:=by
 rw[List.mem_flatten];constructor
 ·rintro⟨l,hl,hx⟩;obtain⟨c,hc,rfl⟩:=List.mem_map.mp hl;exact⟨c,hc,hx⟩
 ·rintro⟨c,hc,hx⟩;exact⟨_,List.mem_map.mpr ⟨c,hc,rfl⟩,hx⟩
theorem dG{h:Hd}{cs:List Rt}(n:∀x,h≠.var x)(n2:∀f x,h=.bd f x->cs.length≠2){x:Str}:x∈fv (.nd h cs) ↔ ∃c∈cs,x∈fv c:=by
 show x∈eA.f _ ↔ _;rw[az.fo n n2];exact AW
theorem cX{f:Bool}{x y:Str}{u w:Rt}:y∈fv (.nd (.bd f x) [u,w]) ↔ y∈fv u\/(y∈fv w/\y≠x):=by
 show y∈eA.f _ ↔ _;rw[az.fb];show y∈eA.f u++(eA.f w).filter _ ↔ _;simp
theorem je{h:Hd}{cs:List Rt}(n:∀x,h≠.var x)(n2:∀f x,h=.bd f x->cs.length≠2){x:Str}:x∈nms (.nd h cs) ↔ ∃c∈cs,x∈nms c:=by
 show x∈kr.f _ ↔ _;rw[az.fo n n2];exact AW
theorem cL{f:Bool}{x y:Str}{u w:Rt}:y∈nms (.nd (.bd f x) [u,w]) ↔ y=x\/y∈nms u\/y∈nms w:=by
 show y∈kr.f _ ↔ _;rw[az.fb];show y∈x::(kr.f u++kr.f w) ↔ _;simp
theorem dW{x y:Str}{cs:List Rt}:y∈fv (.nd (.var x) cs) ↔ y=x:=by
 show y∈eA.f _ ↔ _;rw[az.fv];exact List.mem_singleton
theorem oU{x y:Str}{cs:List Rt}:y∈nms (.nd (.var x) cs) ↔ y=x:=by
 show y∈kr.f _ ↔ _;rw[az.fv];exact List.mem_singleton
theorem oV:∀q,∀x∈fv q,x∈nms q:=Rt.bV (λx cs y h=>oU.mpr (dW.mp h)) (λf x u w hu hw y h=>cL.mpr ((cX.mp h).elim (λz=>.inr (.inl (hu y z))) λz=>.inr (.inr (hw y z.1)))) λh cs n n2 ih y z=>by
 obtain⟨c,hc,e⟩:=(dG n n2).mp z;exact (je n n2).mpr ⟨c,hc,ih c hc y e⟩
theorem Kz{n:Str}:∀q{ρ:Rn},(∀p∈ρ,p.1≠n/\p.2≠n)->(n∈fv (aA ρ q) ↔ n∈fv q):=λq=>by
 refine Rt.bV (P:=λq=>∀{ρ:Rn},(∀p∈ρ,p.1≠n/\p.2≠n)->(n∈fv (aA ρ q) ↔ n∈fv q)) (λx cs ρ hρ=>?_) (λf x u w hu hw ρ hρ=>?_) (λh cs k n2 ih ρ hρ=>?_) q
 ·rw[eB,dW,dW];cases z:ρ.lookup x with
  |none=>exact Iff.rfl
  |some g=>
   have:=hρ _ (ku z);exact⟨λe=>absurd e.symm this.2,λe=>absurd e.symm this.1⟩
 ·rw[e9,cX,cX,hu hρ,hw λp hp=>hρ p (fR.mp hp).1]
 ·rw[fc k n2,dG k (by rw[WQ];exact n2),dG k n2];constructor
  ·rintro⟨c,hc,e⟩;obtain⟨d,hd,rfl⟩:=List.mem_map.mp hc;exact⟨d,hd,(ih d hd hρ).mp e⟩
  ·rintro⟨c,hc,e⟩;exact⟨_,List.mem_map.mpr ⟨c,hc,rfl⟩,(ih c hc hρ).mpr e⟩
theorem AX{y g:Str}:∀q,g ∉ nms q->∀x,x∈fv (aA [(y,g)] q) ↔ (x∈fv q/\x≠y)\/(x=g/\y∈fv q):=λq=>by
 refine Rt.bV (P:=λq=>g ∉ nms q->∀x,x∈fv (aA [(y,g)] q) ↔ (x∈fv q/\x≠y)\/(x=g/\y∈fv q)) (λv cs hg x=>?_) (λf v u w hu hw hg x=>?_) (λh cs k n2 ih hg x=>?_) q
 ·rw[eB,dW,dW,dW,Xh];by_cases e:v=y
  ·subst e;simp
  ·have e':(v == y)=false:=(by simpa using e);rw[e'];constructor
   ·intro z;exact .inl ⟨z,by rw[z];exact e⟩
   ·rintro (⟨z,_⟩ |⟨_,z⟩)
    ·exact z
    ·exact absurd z.symm e
 ·have h1:g ∉ nms u:=λz=>hg (cL.mpr (.inr (.inl z)));have h2:g ∉ nms w:=λz=>hg (cL.mpr (.inr (.inr z)));have h3:g≠v:=λz=>hg (cL.mpr (.inl z));rw[e9,cX,cX,cX,hu h1];by_cases e:v=y
  ·subst e;have e1:av [(v,g)] v=[]:=(by unfold av;simp);rw[e1,oT];constructor
   ·rintro ((z |z) |⟨z1,z2⟩)
    ·exact .inl ⟨.inl z.1,z.2⟩
    ·exact .inr ⟨z.1,.inl z.2⟩
    ·exact .inl ⟨.inr ⟨z1,z2⟩,z2⟩
   ·rintro (⟨z |z,z2⟩ |⟨z,z2 |z2⟩)
    ·exact .inl (.inl ⟨z,z2⟩)
    ·exact .inr z
    ·exact .inl (.inr ⟨z,z2⟩)
    ·exact absurd rfl z2.2
  ·have e1:av [(y,g)] v=[(y,g)]:=(by unfold av;simp [XC e]);rw[e1,hw h2];constructor
   ·rintro ((z |z) |⟨z |z,z2⟩)
    ·exact .inl ⟨.inl z.1,z.2⟩
    ·exact .inr ⟨z.1,.inl z.2⟩
    ·exact .inl ⟨.inr ⟨z.1,z2⟩,z.2⟩
    ·exact .inr ⟨z.1,.inr ⟨z.2,XC e⟩⟩
   ·rintro (⟨z |z,z2⟩ |⟨z,z2 |z2⟩)
    ·exact .inl (.inl ⟨z,z2⟩)
    ·exact .inr ⟨.inl ⟨z.1,z2⟩,z.2⟩
    ·exact .inl (.inr ⟨z,z2⟩)
    ·exact .inr ⟨.inr ⟨z,z2.1⟩,by rw[z];exact h3⟩
 ·rw[fc k n2,dG k (by rw[WQ];exact n2),dG k n2,dG k n2];have hH:∀c∈cs,g ∉ nms c:=λc hc z=>hg ((je k n2).mpr ⟨c,hc,z⟩);constructor
  ·rintro⟨c,hc,e⟩;obtain⟨d,hd,rfl⟩:=List.mem_map.mp hc;rcases (ih d hd (hH d hd) x).mp e with z |z
   ·exact .inl ⟨⟨d,hd,z.1⟩,z.2⟩
   ·exact .inr ⟨z.1,d,hd,z.2⟩
  ·rintro (⟨⟨c,hc,e⟩,z⟩ |⟨z,c,hc,e⟩)
   ·exact⟨_,List.mem_map.mpr ⟨c,hc,rfl⟩,(ih c hc (hH c hc) x).mpr (.inl ⟨e,z⟩)⟩
   ·exact⟨_,List.mem_map.mpr ⟨c,hc,rfl⟩,(ih c hc (hH c hc) x).mpr (.inr ⟨z,e⟩)⟩
theorem KC:∀q{ρ:Rn}{x:Str},x∈nms (aA ρ q)->x∈nms q\/∃p∈ρ,p.2=x:=λq=>by
 refine Rt.bV (P:=λq=>∀{ρ:Rn}{x:Str},x∈nms (aA ρ q)->x∈nms q\/∃p∈ρ,p.2=x) (λv cs ρ x h=>?_) (λf v u w hu hw ρ x h=>?_) (λh cs k n2 ih ρ x e=>?_) q
 ·rw[eB,oU]at h;cases z:ρ.lookup v with
  |none=>rw[z]at h;exact .inl (oU.mpr h)
  |some g=>rw[z]at h;exact .inr ⟨_,ku z,h.symm⟩
 ·rw[e9,cL]at h;rcases h with h |h |h
  ·exact .inl (cL.mpr (.inl h))
  ·exact (hu h).imp (λz=>cL.mpr (.inr (.inl z))) id
  ·exact (hw h).imp (λz=>cL.mpr (.inr (.inr z))) λ⟨p,hp,e⟩=>⟨p,(fR.mp hp).1,e⟩
 ·rw[fc k n2,je k (by rw[WQ];exact n2)]at e;obtain⟨c,hc,e⟩:=e;obtain⟨d,hd,rfl⟩:=List.mem_map.mp hc;exact (ih d hd e).imp (λz=>(je k n2).mpr ⟨d,hd,z⟩) id
abbrev Tn:=List Str
abbrev Gf:=Rt->Tn->Rt×Tn
noncomputable def aQ(g:Gf):List Rt->Tn->List Rt×Tn
 |[],T=>([],T)
 |c::r,T=>((g c T).1::(aQ g r (g c T).2).1,(aQ g r (g c T).2).2)
def Gr(T U:Tn)(k:Nat):Prop:=∃F,U=T++F/\F.length<=k
theorem Gr.rfl{T:Tn}{k:Nat}:Gr T T k:=⟨[],by simp,W9 _⟩
theorem Gr.tr{T U V:Tn}{k l:Nat}(h:Gr T U k)(g:Gr U V l):Gr T V (k+l):=by
 obtain⟨F,rfl,h1⟩:=h;obtain⟨F',rfl,h2⟩:=g;exact⟨F++F',by simp,by simp;lia⟩
theorem Gr.le{T U:Tn}{k l:Nat}(h:Gr T U k)(g:k<=l):Gr T U l:=let ⟨F,a,b⟩:=h;⟨F,a,W2 b g⟩
theorem Gr.sub{T U:Tn}{k:Nat}(h:Gr T U k){x:Str}(e:x∈T):x∈U:=let ⟨F,a,_⟩:=h;a ▸ W5 _ e
theorem oX{g g':Gf}{r:Rt->Rt}{k:Rt->Nat}:∀{cs:List Rt}{T:Tn},(∀c∈cs,∀U,(∀x∈T,x∈U)->g c U=g' (r c) U/\Gr U (g c U).2 (k c))->aQ g cs T=aQ g' (cs.map r) T
 |[],T,_=>rfl
 |c::cs,T,h=>by
  obtain⟨e,gr⟩:=h c WZ T λ_ z=>z;have ih:=oX (g:=g) (g':=g') (r:=r) (k:=k) (cs:=cs) (T:=(g c T).2) λd hd U hU=>h d (WY _ hd) U λx hx=>hU x (gr.sub hx);rw[W0,aQ,aQ,ih,e]
theorem oY{g:Gf}{k:Rt->Nat}:∀{cs:List Rt}{T:Tn},(∀c∈cs,∀U,Gr U (g c U).2 (k c))->Gr T (aQ g cs T).2 (cs.map k).sum
 |[],T,_=>.rfl
 |c::cs,T,h=>by
  rw[aQ,W0,XJ];exact (h c WZ T).tr (oY λd hd=>h d (WY _ hd))
theorem oZ:∀{cs:List Rt}{T:Tn},aQ (λq T=>(q,T)) cs T=(cs,T)
 |[],T=>rfl
 |c::cs,T=>by rw[aQ,oZ]
section
variable(n:Str)(o:Rt)(fr:Tn->Str)
noncomputable def aU(x:Str)(b:Rt):Bool:=decide (x≠n) && (decide (x∈fv o) && decide (n∈fv b))
abbrev Sf:=Bool->Rn->Gf
noncomputable def b3{β:Type}(v:Str->List Rt->β)(b:Bool->Str->Rt->Rt->β)(e:Hd->List Rt->β):Hd->List Rt->β
 |.var x,cs=>v x cs
 |.bd f x,cs=>(match cs with
  |[]=>e (.bd f x) []
  |u::r=>match r with
   |[]=>e (.bd f x) [u]
   |w::r'=>match r' with
    |[]=>b f x u w
    |y::KD=>e (.bd f x) (u::w::y::KD))
 |.row fs,cs=>e (.row fs) cs
 |.o w ds,cs=>e (.o w ds) cs
theorem AY{β:Type}{v:Str->List Rt->β}{b:Bool->Str->Rt->Rt->β}{e:Hd->List Rt->β}{h:Hd}{cs:List Rt}(n:∀x,h≠.var x)(n2:∀f x,h=.bd f x->cs.length≠2):b3 v b e h cs=e h cs:=by
 cases h with
 |var x=>exact absurd rfl (n x)
 |bd f x=>
  have:=n2 f x rfl
  match cs,this with
  |[],_=>rfl
  |[_],_=>rfl
  |[_,_],h=>exact absurd rfl h
  |_::_::_::_,_=>rfl
 |row fs=>rfl
 |o w ds=>rfl
noncomputable def gG(f:Bool)(x:Str)(g:Sf)(a b:Rt)(c:Bool)(μ:Bool)(ρ:Rn)(T:Tn):Rt×Tn:=
 (.nd (.bd f (if c=true then fr T else x)) [(g μ ρ a (if c=true then T++[fr T] else T)).1,(g (μ && decide (x≠n)) (if c=true then (x,fr T)::av ρ x else av ρ x) b (g μ ρ a (if c=true then T++[fr T] else T)).2).1],
  (g (μ && decide (x≠n)) (if c=true then (x,fr T)::av ρ x else av ρ x) b (g μ ρ a (if c=true then T++[fr T] else T)).2).2)
noncomputable def AZ(g:Sf):Sf:=fun μ ρ q T=>match q with
 |.nd h cs=>b3 (λx cs=>(if μ=true/\x=n then o else .nd (.var ((ρ.lookup x).getD x)) cs,T)) (λf x a b=>gG n fr f x g a b (μ && aU n o x b) μ ρ T) (λh cs=>(.nd h (aQ (g μ ρ) cs T).1,(aQ (g μ ρ) cs T).2)) h cs
noncomputable def sb:Nat->Sf
 | 0=>λ_ _ q T=>(q,T)
 |k+1=>AZ n o fr (sb k)
noncomputable def cM(f:Bool)(x:Str)(g:Gf)(a b:Rt)(c d:Bool)(T:Tn):Rt×Tn:=
 if c=true then (.nd (.bd f (if d=true then fr T else x)) [(g a (if d=true then T++[fr T] else T)).1,(g (if d=true then aA [(x,fr T)] b else b) (g a (if d=true then T++[fr T] else T)).2).1],(g (if d=true then aA [(x,fr T)] b else b) (g a (if d=true then T++[fr T] else T)).2).2)
 else (.nd (.bd f x) [(g a T).1,b],(g a T).2)
noncomputable def A0(g:Gf):Gf:=λq T=>match q with
 |.nd h cs=>b3 (λx cs=>(if x=n then o else .nd (.var x) cs,T)) (λf x a b=>cM fr f x g a b (decide (x≠n) && decide (n∈fv b)) (aU n o x b) T) (λh cs=>(.nd h (aQ g cs T).1,(aQ g cs T).2)) h cs
noncomputable def lp:Nat->Gf
 | 0=>λq T=>(q,T)
 |k+1=>A0 n o fr (lp k)
end
section
variable{n:Str}{o:Rt}{fr:Tn->Str}
theorem gH{h:Hd}{cs:List Rt}(v:∀x,h≠.var x)(n2:∀f x,h=.bd f x->cs.length≠2){k:Nat}(g:ht (.nd h cs)<=k+1):∀c∈cs,ht c<=k:=by
 have e:ht (.nd h cs)=1+(cs.map ht).foldr max 0:=az.fo v n2;rw[e]at g;have key:∀cs:List Rt,(cs.map ht).foldr max 0<=k->∀c∈cs,ht c<=k:=by
  intro cs
  induction cs with
  |nil=>exact λ_ c hc=>nomatch hc
  |cons d r ih=>
   intro hl c hc;rw[W0,List.foldr_cons]at hl;rcases List.mem_cons.mp hc with rfl |hc
   ·lia
   ·exact ih (by lia) c hc
 exact key cs (by lia)
theorem eC{f:Bool}{x:Str}{a b:Rt}{k:Nat}(g:ht (.nd (.bd f x) [a,b])<=k+1):ht a<=k/\ht b<=k:=by
 have e:ht (.nd (.bd f x) [a,b])=1+max (ht a) (ht b):=az.fb;rw[e]at g;exact⟨by lia,by lia⟩
theorem eD:∀q,1<=ht q:=Rt.bV (λx cs=>by show 1<=fQ.f _;rw[az.fv];exact WU _) (λf x u w _ _=>by show 1<=fQ.f _;rw[az.fb];exact YN ..) λh cs n n2 _=>by show 1<=fQ.f _;rw[az.fo n n2];exact YN ..
theorem cY{f:Bool}{x:Str}{a b:Rt}:nk (.nd (.bd f x) [a,b])=1+nk a+nk b:=az.fb
theorem dX{h:Hd}{cs:List Rt}(v:∀x,h≠.var x)(n2:∀f x,h=.bd f x->cs.length≠2):nk (.nd h cs)=1+(cs.map nk).sum:=az.fo v n2
theorem o6{k:Nat}{μ:Bool}{ρ:Rn}{h:Hd}{cs:List Rt}{T:Tn}(v:∀x,h≠.var x)(n2:∀f x,h=.bd f x->cs.length≠2):sb n o fr (k+1) μ ρ (.nd h cs) T=(.nd h (aQ (sb n o fr k μ ρ) cs T).1,(aQ (sb n o fr k μ ρ) cs T).2):=by
 rw[sb];unfold AZ;exact AY v n2
theorem ir{k:Nat}{h:Hd}{cs:List Rt}{T:Tn}(v:∀x,h≠.var x)(n2:∀f x,h=.bd f x->cs.length≠2):lp n o fr (k+1) (.nd h cs) T=(.nd h (aQ (lp n o fr k) cs T).1,(aQ (lp n o fr k) cs T).2):=by
 rw[lp];unfold A0;exact AY v n2
theorem uf{T:Tn}{c:Bool}:Gr T (if c=true then T++[fr T] else T) 1:=by
 cases c
 ·exact .rfl
 ·exact⟨[fr T],rfl,WU _⟩
theorem jf:∀(k:Nat)(q:Rt)(μ:Bool)(ρ:Rn)(T:Tn),Gr T (sb n o fr k μ ρ q T).2 (nk q)
 | 0,q,μ,ρ,T=>.rfl
 |k+1,q,μ,ρ,T=>by
  refine Rt.bV (P:=λq=>∀ μ ρ T,Gr T (sb n o fr (k+1) μ ρ q T).2 (nk q)) (λx cs μ ρ T=>.rfl) (λf x a b _ _ μ ρ T=>?_) (λh cs v n2 _ μ ρ T=>?_) q μ ρ T
  ·rw[cY];exact (uf.tr (jf k a _ _ _)).tr (jf k b _ _ _)
  ·rw[o6 v n2,dX v n2];exact (oY λc _ U=>jf k c _ _ U).le (by lia)
theorem o7:∀(k:Nat)(q:Rt)(T:Tn),n ∉ fv q->lp n o fr k q T=(q,T)
 | 0,q,T,_=>rfl
 |k+1,q,T,h=>by
  refine Rt.bV (P:=λq=>∀T,n ∉ fv q->lp n o fr (k+1) q T=(q,T)) (λx cs T h=>?_) (λf x a b _ _ T h=>?_) (λhd cs v n2 _ T h=>?_) q T h
  ·have:¬x=n:=λe=>h (dW.mpr e.symm);show (if x=n then o else _,T)=_
   rw[if_neg this]
  ·have ha:n ∉ fv a:=λz=>h (cX.mpr (.inl z));have c:(decide (x≠n) && decide (n∈fv b))=false:=by
    by_cases e:x=n
    ·simp [e]
    ·have:n ∉ fv b:=λz=>h (cX.mpr (.inr ⟨z,XC e⟩));simp [this]
   show cM fr f x _ a b (decide (x≠n) && decide (n∈fv b)) _ T=_;rw[c];show (Rt.nd (.bd f x) [(lp n o fr k a T).1,b],(lp n o fr k a T).2)=_;rw[o7 k a T ha]
  ·rw[ir v n2];have e:aQ (lp n o fr k) cs T=aQ (λq T=>(q,T)) (cs.map id) T:=oX (k:=nk) λc hc U _=>by
    have:=o7 k c U λz=>h ((dG v n2).mpr ⟨c,hc,z⟩);rw[this];exact⟨rfl,.rfl⟩
   rw[e,List.map_id,oZ]
theorem kx(hfr:∀ T,fr T ∉ T):∀(k:Nat)(q:Rt)(μ:Bool)(ρ:Rn)(T:Tn),ht q<=k->(∀ p∈ρ,p.1≠n/\p.2≠n/\p.2 ∉ nms q)->(∀ x∈nms q,x∈T)->n∈T ->
  sb n o fr k μ ρ q T=(if μ=true then lp n o fr k else λq T=>(q,T)) (aA ρ q) T
 | 0,q,μ,ρ,T,h,_,_,_=>by have:=eD q;lia
 |k+1,q,μ,ρ,T,h,hρ,hT,hn=>by
  refine Rt.bV (P:=λq=>∀ μ ρ T,ht q<=k+1->(∀p∈ρ,p.1≠n/\p.2≠n/\p.2 ∉ nms q)->(∀x∈nms q,x∈T)->n∈T->sb n o fr (k+1) μ ρ q T=(if μ=true then lp n o fr (k+1) else λq T=>(q,T)) (aA ρ q) T)
   (λx cs μ ρ T _ hρ _ _=>?_) (λf x a b _ _ μ ρ T h hρ hT hn=>?_) (λhd cs v n2 _ μ ρ T h hρ hT hn=>?_) q μ ρ T h hρ hT hn
  ·rw[eB];show (if μ=true/\x=n then o else _,T)=_
   cases μ with
   |false=>rfl
   |true=>
    show _=(if (ρ.lookup x).getD x=n then o else _,T)
    cases z:ρ.lookup x with
    |none=>
     rw[Option.getD_none];by_cases e:x=n
     ·rw[if_pos ⟨rfl,e⟩,if_pos e]
     ·rw[if_neg λq=>e q.2,if_neg e]
    |some g=>
     have:=hρ _ (ku z);rw[Option.getD_some,if_neg λq=>this.1 q.2,if_neg this.2.1]
  ·obtain⟨h1,h2⟩:=eC h;have na:∀y∈nms a,y∈T:=λy hy=>hT y (cL.mpr (.inr (.inl hy)));have nb:∀y∈nms b,y∈T:=λy hy=>hT y (cL.mpr (.inr (.inr hy)));have hx:x∈T:=hT x (cL.mpr (.inl rfl));have ra:∀p∈ρ,p.1≠n/\p.2≠n/\p.2 ∉ nms a:=λp hp=>⟨(hρ p hp).1,(hρ p hp).2.1,λz=>(hρ p hp).2.2 (cL.mpr (.inr (.inl z)))⟩;have rb:∀p∈av ρ x,p.1≠n/\p.2≠n/\p.2 ∉ nms b:=λp hp=>⟨(hρ p (fR.mp hp).1).1,(hρ p (fR.mp hp).1).2.1,λz=>(hρ p (fR.mp hp).1).2.2 (cL.mpr (.inr (.inr z)))⟩;have ug:n∈fv (aA (av ρ x) b) ↔ n∈fv b:=Kz b λp hp=>⟨(rb p hp).1,(rb p hp).2.1⟩;have ec:aU n o x (aA (av ρ x) b)=aU n o x b:=(by unfold aU;rw[decide_eq_decide.mpr ug]);rw[e9];show gG n fr f x (sb n o fr k) a b (μ && aU n o x b) μ ρ T=_;cases μ with
   |false=>
    show (Rt.nd (.bd f x) [(sb n o fr k false ρ a T).1,(sb n o fr k false (av ρ x) b (sb n o fr k false ρ a T).2).1],(sb n o fr k false (av ρ x) b (sb n o fr k false ρ a T).2).2)=_;have ea:=kx hfr k a false ρ T h1 ra na hn;rw[ea];have eb:=kx hfr k b false (av ρ x) T h2 rb nb hn;show (Rt.nd (.bd f x) [aA ρ a,(sb n o fr k false (av ρ x) b T).1],(sb n o fr k false (av ρ x) b T).2)=_;rw[eb];rfl
   |true=>
    show gG n fr f x (sb n o fr k) a b (aU n o x b) true ρ T=cM fr f x (lp n o fr k) (aA ρ a) (aA (av ρ x) b) (decide (x≠n) && decide (n∈fv (aA (av ρ x) b))) (aU n o x (aA (av ρ x) b)) T;rw[ec,decide_eq_decide.mpr ug];have step:∀{U V ρ' x1},(∀ y∈T,y∈U)->(∀ p∈ρ',p.1≠n/\p.2≠n/\p.2 ∉ nms b)->(∀ μ',V=(if μ'=true then lp n o fr k else λq T=>(q,T)) (aA ρ' b) (lp n o fr k (aA ρ a) U).2 ->
      (Rt.nd (.bd f x1) [(sb n o fr k true ρ a U).1,(sb n o fr k μ' ρ' b (sb n o fr k true ρ a U).2).1],(sb n o fr k μ' ρ' b (sb n o fr k true ρ a U).2).2)=(Rt.nd (.bd f x1) [(lp n o fr k (aA ρ a) U).1,V.1],V.2)):=λ{U V ρ' x1}hU hr μ' Us=>by
     have ea:=kx hfr k a true ρ U h1 ra (λy hy=>hU y (na y hy)) (hU n hn);have Ut:=jf (n:=n) (o:=o) (fr:=fr) k a true ρ U;rw[ea,if_pos rfl]at Ut;rw[ea,if_pos rfl,kx hfr k b μ' ρ' _ h2 hr (λy hy=>Ut.sub (hU y (nb y hy))) (Ut.sub (hU n hn)),Us]
    cases hc:aU n o x b with
    |true=>
     have hc':=hc;unfold aU at hc';rw[WT,WT]at hc';have e1:x≠n:=of_decide_eq_true hc'.1;rw[hc'.1,hc'.2.2];have d:(true && decide (x≠n))=true:=hc'.1;show (Rt.nd (.bd f (fr T)) [(sb n o fr k true ρ a (T++[fr T])).1,(sb n o fr k (true && decide (x≠n)) ((x,fr T)::av ρ x) b (sb n o fr k true ρ a (T++[fr T])).2).1],(sb n o fr k (true && decide (x≠n)) ((x,fr T)::av ρ x) b (sb n o fr k true ρ a (T++[fr T])).2).2)=_;rw[d];refine step (V:=lp n o fr k (aA [(x,fr T)] (aA (av ρ x) b)) (lp n o fr k (aA ρ a) (T++[fr T])).2) (λy hy=>W5 _ hy) (λp hp=>?_) true ?_
     ·rcases List.mem_cons.mp hp with rfl |hp
      ·exact⟨e1,λe=>hfr T (by rw[show fr T=n from e];exact hn),λz=>hfr T (nb _ z)⟩
      ·exact rb p hp
     ·rw[Ky b λp hp=>⟨(fR.mp hp).2,λe=>(hρ p (fR.mp hp).1).2.2 (e ▸ cL.mpr (.inl rfl))⟩];rfl
    |false=>
     show (Rt.nd (.bd f x) [(sb n o fr k true ρ a T).1,(sb n o fr k (true && decide (x≠n)) (av ρ x) b (sb n o fr k true ρ a T).2).1],(sb n o fr k (true && decide (x≠n)) (av ρ x) b (sb n o fr k true ρ a T).2).2)=_;unfold cM;split
     ·rename_i c;rw[WT]at c;have d:(true && decide (x≠n))=true:=c.1;rw[d];exact step (V:=lp n o fr k (aA (av ρ x) b) (lp n o fr k (aA ρ a) T).2) (λy hy=>hy) rb true rfl
     ·rename_i c;refine step (V:=(aA (av ρ x) b,(lp n o fr k (aA ρ a) T).2)) (λy hy=>hy) rb _ ?_;by_cases e:x=n
      ·have d:(true && decide (x≠n))=false:=(by simp [e]);rw[d];rfl
      ·have nf:n ∉ fv b:=λz=>c (by simp [e,z]);have d:(true && decide (x≠n))=true:=(by simp [e]);rw[d,if_pos rfl,o7 k _ _ λz=>nf (ug.mp z)]
  ·have hk:=gH v n2 h;have uh:∀ f x,hd=.bd f x->(cs.map (aA ρ)).length≠2:=(by rw[WQ];exact n2);have e:aQ (sb n o fr k μ ρ) cs T=aQ (if μ=true then lp n o fr k else λq T=>(q,T)) (cs.map (aA ρ)) T:=oX (k:=nk) λc hc U hU=>by
    have hc':∀y∈nms c,y∈nms (.nd hd cs):=λy hy=>(je v n2).mpr ⟨c,hc,hy⟩;exact⟨kx hfr k c μ ρ U (hk c hc) (λp hp=>⟨(hρ p hp).1,(hρ p hp).2.1,λz=>(hρ p hp).2.2 (hc' _ z)⟩) (λy hy=>hU y (hT y (hc' y hy))) (hU n hn),jf k c μ ρ U⟩
   rw[o6 v n2,fc v n2,e];cases μ with
   |true=>rw[if_pos rfl,if_pos rfl,ir v uh]
   |false=>rw[if_neg Xi,if_neg Xi,oZ]
end
theorem A2{α:Type}{A:az α}(hv:∀x y,A.v x=A.v y)(hb:∀x y u w,A.b x u w=A.b y u w):∀q(ρ:Rn),A.f (aA ρ q)=A.f q:=Rt.bV (λx cs ρ=>by rw[eB,az.fv,az.fv];exact hv _ _) (λf x u w hu hw ρ=>by rw[e9,az.fb,az.fb,hu,hw]) λh cs v n2 ih ρ=>by
 rw[fc v n2,az.fo v n2,az.fo v (by rw[WQ];exact n2),X7,ue (f:=A.f ∘ aA ρ) λc hc=>ih c hc ρ]
theorem ui(q:Rt)(ρ:Rn):nk (aA ρ q)=nk q:=A2 (λ_ _=>rfl) (λ_ _ _ _=>rfl) q ρ
theorem uj(q:Rt)(ρ:Rn):ht (aA ρ q)=ht q:=A2 (λ_ _=>rfl) (λ_ _ _ _=>rfl) q ρ
section
variable{n:Str}{o:Rt}{fr:Tn->Str}
theorem gI{g:Gf}:∀{cs:List Rt}{T:Tn},(aQ g cs T).1.length=cs.length
 |[],_=>rfl
 |c::r,T=>by rw[aQ,Xe,Xe,gI]
theorem gJ:∀(k:Nat)(q:Rt)(T:Tn),Gr T (lp n o fr k q T).2 (nk q)
 | 0,q,T=>.rfl
 |k+1,q,T=>by
  refine Rt.bV (P:=λq=>∀T,Gr T (lp n o fr (k+1) q T).2 (nk q)) (λx cs T=>.rfl) (λf x a b _ _ T=>?_) (λh cs v n2 _ T=>?_) q T
  ·rw[cY];show Gr T (cM fr f x (lp n o fr k) a b (decide (x≠n) && decide (n∈fv b)) (aU n o x b) T).2 _;unfold cM;split
   ·have gb:=gJ k (if aU n o x b=true then aA [(x,fr T)] b else b) (lp n o fr k a (if aU n o x b=true then T++[fr T] else T)).2
    have e:nk (if aU n o x b=true then aA [(x,fr T)] b else b)=nk b:=by
     split
     ·exact ui _ _
     ·rfl
    rw[e]at gb;exact (uf.tr (gJ k a _)).tr gb
   ·exact (gJ k a T).le (by lia)
  ·rw[ir v n2,dX v n2];exact (oY λc _ U=>gJ k c U).le (by lia)
theorem A3{g:Gf}{P A:Rt->Prop}{k:Rt->Nat}:∀{cs:List Rt}{T:Tn},(∀c∈cs,∀U,(∀x∈T,x∈U)->(P (g c U).1 ↔ A c)/\Gr U (g c U).2 (k c))->((∃d∈(aQ g cs T).1,P d) ↔ ∃c∈cs,A c)
 |[],T,_=>⟨λ⟨_,h,_⟩=>(nomatch h),λ⟨_,h,_⟩=>(nomatch h)⟩
 |c::r,T,h=>by
  obtain⟨e,gr⟩:=h c WZ T λ_ z=>z;have ih:=A3 (g:=g) (P:=P) (A:=A) (k:=k) (cs:=r) (T:=(g c T).2) λd hd U hU=>h d (WY _ hd) U λx hx=>hU x (gr.sub hx);rw[aQ];constructor
  ·rintro⟨d,hd,hp⟩;rcases List.mem_cons.mp hd with rfl |hd
   ·exact⟨c,WZ,e.mp hp⟩
   ·obtain⟨c',h1,h2⟩:=ih.mp ⟨d,hd,hp⟩;exact⟨c',WY _ h1,h2⟩
  ·rintro⟨d,hd,hp⟩;rcases List.mem_cons.mp hd with rfl |hd
   ·exact⟨_,WZ,e.mpr hp⟩
   ·obtain⟨c',h1,h2⟩:=ih.mpr ⟨d,hd,hp⟩;exact⟨c',WY _ h1,h2⟩
theorem jg(hfr:∀T,fr T ∉ T):∀(k:Nat)(q:Rt)(T:Tn),ht q<=k->(∀x∈nms q,x∈T)->(∀x∈fv o,x∈T)->n∈T->∀x,x∈fv (lp n o fr k q T).1 ↔ (x∈fv q/\x≠n)\/(n∈fv q/\x∈fv o)
 | 0,q,T,h,_,_,_=>by have:=eD q;lia
 |k+1,q,T,h,hT,ho,hn=>by
  refine Rt.bV (P:=λq=>∀T,ht q<=k+1->(∀x∈nms q,x∈T)->(∀x∈fv o,x∈T)->n∈T->∀x,x∈fv (lp n o fr (k+1) q T).1 ↔ (x∈fv q/\x≠n)\/(n∈fv q/\x∈fv o))
   (λy cs T _ _ _ _ x=>?_) (λf y a b _ _ T h hT ho hn x=>?_) (λhd cs v n2 _ T h hT ho hn x=>?_) q T h hT ho hn
  ·rw[dW,dW];show x∈fv (if y=n then o else .nd (.var y) cs) ↔ _
   by_cases e:y=n
   ·subst e;rw[if_pos rfl];exact⟨λz=>.inr ⟨rfl,z⟩,λz=>z.elim (λz=>absurd z.1 z.2) (·.2)⟩
   ·rw[if_neg e,dW];exact⟨λz=>.inl ⟨z,by rw[z];exact e⟩,λz=>z.elim (·.1) λz=>absurd z.1.symm e⟩
  ·obtain⟨h1,h2⟩:=eC h;have na:∀z∈nms a,z∈T:=λz hz=>hT z (cL.mpr (.inr (.inl hz)));have nb:∀z∈nms b,z∈T:=λz hz=>hT z (cL.mpr (.inr (.inr hz)));rw[cX,cX];show x∈fv (cM fr f y (lp n o fr k) a b (decide (y≠n) && decide (n∈fv b)) (aU n o y b) T).1 ↔ _;unfold cM;split
   ·rename_i c;rw[WT]at c;have c1:y≠n:=of_decide_eq_true c.1;have c2:n∈fv b:=of_decide_eq_true c.2;have nq:n∈fv a\/n∈fv b/\n≠y:=.inr ⟨c2,XC c1⟩;cases hc:aU n o y b with
    |true=>
     rw[if_pos rfl,if_pos rfl,if_pos rfl,cX];have s1:∀z∈T,z∈T++[fr T]:=λz hz=>W5 _ hz;have g1:=gJ (n:=n) (o:=o) (fr:=fr) k a (T++[fr T]);have gb:fr T ∉ nms b:=λz=>hfr T (nb _ z);rw[jg hfr k a (T++[fr T]) h1 (λz hz=>s1 z (na z hz)) (λz hz=>s1 z (ho z hz)) (s1 n hn) x];rw[jg hfr k (aA [(y,fr T)] b) (lp n o fr k a (T++[fr T])).2 (by rw[uj];exact h2) (λz hz=>g1.sub ((KC b hz).elim (λw=>s1 z (nb z w)) λ⟨p,hp,e⟩=>by
      cases List.mem_singleton.mp hp;exact Xf _ (List.mem_singleton.mpr e.symm))) (λz hz=>g1.sub (s1 z (ho z hz))) (g1.sub (s1 n hn)) x,AX b gb,AX b gb]
     have ne:n≠fr T:=λe=>hfr T (by rw[<- e];exact hn);have no:∀{z},z∈fv o->z≠fr T:=λ{z}hz e=>hfr T (by rw[<- e];exact ho z hz);have KG:∀{z},z∈fv b->z≠fr T:=λ{z}hz e=>hfr T (by rw[<- e];exact nb z (oV b z hz));constructor
     ·rintro ((z |z) |⟨⟨z |z,z2⟩ |⟨_,z⟩,z3⟩)
      ·exact .inl ⟨.inl z.1,z.2⟩
      ·exact .inr ⟨.inl z.1,z.2⟩
      ·exact .inl ⟨.inr z,z2⟩
      ·exact absurd z.1 z3
      ·exact .inr ⟨nq,z⟩
     ·rintro (⟨z |z,z2⟩ |⟨_,z⟩)
      ·exact .inl (.inl ⟨z,z2⟩)
      ·exact .inr ⟨.inl ⟨.inl z,z2⟩,KG z.1⟩
      ·exact .inr ⟨.inr ⟨.inl ⟨c2,XC c1⟩,z⟩,no z⟩
    |false=>
     rw[if_neg Xi,if_neg Xi,if_neg Xi,cX];have g1:=gJ (n:=n) (o:=o) (fr:=fr) k a T;have VI:y ∉ fv o:=λz=>(by unfold aU at hc;simp [c1,c2,z]at hc);rw[jg hfr k a T h1 na ho hn x,jg hfr k b _ h2 (λz hz=>g1.sub (nb z hz)) (λz hz=>g1.sub (ho z hz)) (g1.sub hn) x];constructor
     ·rintro ((z |z) |⟨z |z,z2⟩)
      ·exact .inl ⟨.inl z.1,z.2⟩
      ·exact .inr ⟨.inl z.1,z.2⟩
      ·exact .inl ⟨.inr ⟨z.1,z2⟩,z.2⟩
      ·exact .inr ⟨nq,z.2⟩
     ·rintro (⟨z |z,z2⟩ |⟨_,z⟩)
      ·exact .inl (.inl ⟨z,z2⟩)
      ·exact .inr ⟨.inl ⟨z.1,z2⟩,z.2⟩
      ·exact .inr ⟨.inr ⟨c2,z⟩,λe=>VI (e ▸ z)⟩
   ·rename_i c;rw[cX,jg hfr k a T h1 na ho hn x];have US:¬(n∈fv b/\n≠y):=λz=>c (by simp [z.1,XC z.2]);constructor
    ·rintro ((z |z) |z)
     ·exact .inl ⟨.inl z.1,z.2⟩
     ·exact .inr ⟨.inl z.1,z.2⟩
     ·refine .inl ⟨.inr z,λe=>?_⟩;subst e;exact US z
    ·rintro (⟨z |z,z2⟩ |⟨z |z,z2⟩)
     ·exact .inl (.inl ⟨z,z2⟩)
     ·exact .inr z
     ·exact .inl (.inr ⟨z,z2⟩)
     ·exact absurd z US
  ·have hk:=gH v n2 h;rw[ir v n2,dG v (by rw[gI];exact n2),A3 (k:=nk) (A:=λc=>(x∈fv c/\x≠n)\/(n∈fv c/\x∈fv o)) λc hc U hU=>⟨jg hfr k c U (hk c hc) (λz hz=>hU z (hT z ((je v n2).mpr ⟨c,hc,hz⟩))) (λz hz=>hU z (ho z hz)) (hU n hn) x,gJ k c U⟩,dG v n2,dG v n2];constructor
   ·rintro⟨c,hc,z |z⟩
    ·exact .inl ⟨⟨c,hc,z.1⟩,z.2⟩
    ·exact .inr ⟨⟨c,hc,z.1⟩,z.2⟩
   ·rintro (⟨⟨c,hc,z⟩,z2⟩ |⟨⟨c,hc,z⟩,z2⟩)
    ·exact⟨c,hc,.inl ⟨z,z2⟩⟩
    ·exact⟨c,hc,.inr ⟨z,z2⟩⟩
theorem A4{g:Gf}{m:Nat}(hm:1<=m):∀{cs:List Rt}{T:Tn},(∀c∈cs,∀U,nk (g c U).1<=nk c * m)->((aQ g cs T).1.map nk).sum<=(cs.map nk).sum * m
 |[],T,_=>W9 _
 |c::r,T,h=>by
  have:=h c WZ T;have:=A4 hm (T:=(g c T).2) λd hd U=>h d (WY _ hd) U;rw[aQ,W0,W0,XJ,XJ,Nat.add_mul];lia
theorem mh:∀q,1<=nk q:=Rt.bV (λx cs=>by show 1<=iq.f _;rw[az.fv];exact WU _) (λf x u w _ _=>by rw[cY];lia) λh cs n n2 _=>by rw[dX n n2];lia
theorem mi:∀(k:Nat)(q:Rt)(T:Tn),nk (lp n o fr k q T).1<=nk q * nk o
 | 0,q,T=>Nat.le_mul_of_pos_right _ (mh o)
 |k+1,q,T=>by
  have hm:=mh o;refine Rt.bV (P:=λq=>∀T,nk (lp n o fr (k+1) q T).1<=nk q * nk o) (λx cs T=>?_) (λf x a b _ _ T=>?_) (λh cs v n2 _ T=>?_) q T
  ·have e:nk (.nd (.var x) cs)=1:=az.fv;show nk (if x=n then o else .nd (.var x) cs)<=_
   split
   ·rw[e];lia
   ·exact Nat.le_mul_of_pos_right _ hm
  ·show nk (cM fr f x (lp n o fr k) a b (decide (x≠n) && decide (n∈fv b)) (aU n o x b) T).1<=_;unfold cM;rw[cY,Nat.add_mul,Nat.add_mul,Nat.one_mul];split
   ·rw[cY];have h1:=mi k a (if aU n o x b=true then T++[fr T] else T)
    have h2:=mi k (if aU n o x b=true then aA [(x,fr T)] b else b) (lp n o fr k a (if aU n o x b=true then T++[fr T] else T)).2
    have e:nk (if aU n o x b=true then aA [(x,fr T)] b else b)=nk b:=by
     split
     ·exact ui _ _
     ·rfl
    rw[e]at h2;lia
   ·rw[cY];have h1:=mi k a T;have:=Nat.le_mul_of_pos_right (nk b) hm;show 1+nk (lp n o fr k a T).1+nk b<=_;lia
  ·rw[ir v n2,dX v n2,dX v (by rw[gI];exact n2),Nat.add_mul];have:=A4 hm (g:=lp n o fr k) (cs:=cs) (T:=T) λc _ U=>mi k c U;lia
theorem max_le{l:List Nat}{m:Nat}:l.foldr max 0<=m ↔ ∀x∈l,x<=m:=by
 induction l with
 |nil=>exact⟨λ_ x h=>(nomatch h),λ_=>W9 _⟩
 |cons a r ih=>
  rw[List.foldr_cons,Nat.max_le,ih];exact⟨λh x hx=>(List.mem_cons.mp hx).elim (λe=>e ▸ h.1) (h.2 x),λh=>⟨h a WZ,λx hx=>h x (WY _ hx)⟩⟩
theorem A5{g:Gf}{P:Rt->Prop}:∀{cs:List Rt}{T:Tn},(∀c∈cs,∀U,P (g c U).1)->∀d∈(aQ g cs T).1,P d
 |[],T,_,d,hd=>nomatch hd
 |c::r,T,h,d,hd=>by
  rw[aQ]at hd;rcases List.mem_cons.mp hd with rfl |hd
  ·exact h c WZ T
  ·exact A5 (λe he U=>h e (WY _ he) U) d hd
theorem mj:∀(k:Nat)(q:Rt)(T:Tn)(m:Nat),ht q<=m->ht (lp n o fr k q T).1<=m+ht o
 | 0,q,T,m,h=>Nat.le_add_right_of_le h
 |k+1,q,T,m,h=>by
  refine Rt.bV (P:=λq=>∀T m,ht q<=m->ht (lp n o fr (k+1) q T).1<=m+ht o) (λx cs T m h=>?_) (λf x a b _ _ T m h=>?_) (λhd cs v n2 _ T m h=>?_) q T m h
  ·show ht (if x=n then o else .nd (.var x) cs)<=_
   split <;> lia
  ·obtain⟨m,rfl⟩:∃m',m=m'+1:=⟨m-1,by have:=eD (.nd (.bd f x) [a,b]);lia⟩
   obtain⟨h1,h2⟩:=eC h;show ht (cM fr f x (lp n o fr k) a b (decide (x≠n) && decide (n∈fv b)) (aU n o x b) T).1<=_;have eb:∀{f x a b},ht (.nd (.bd f x) [a,b])=1+max (ht a) (ht b):=az.fb;unfold cM;split
   ·have g1:=mj k a (if aU n o x b=true then T++[fr T] else T) m h1
    have g2:=mj k (if aU n o x b=true then aA [(x,fr T)] b else b) (lp n o fr k a (if aU n o x b=true then T++[fr T] else T)).2 m (by
     split
     ·rw[uj];exact h2
     ·exact h2)
    rw[eb];lia
   ·have g1:=mj k a T m h1;rw[eb];show 1+max (ht (lp n o fr k a T).1) (ht b)<=_;lia
  ·obtain⟨m,rfl⟩:∃m',m=m'+1:=⟨m-1,by have:=eD (.nd hd cs);lia⟩
   have hk:=gH v n2 h;rw[ir v n2];have e:ht (.nd hd (aQ (lp n o fr k) cs T).1)=1+((aQ (lp n o fr k) cs T).1.map ht).foldr max 0:=az.fo v (by rw[gI];exact n2);rw[e];have:((aQ (lp n o fr k) cs T).1.map ht).foldr max 0<=m+ht o:=max_le.mpr λx hx=>by
    obtain⟨d,iH,rfl⟩:=List.mem_map.mp hx;have key:∀(cs:List Rt)(T:Tn),(∀c∈cs,ht c<=m)->∀d∈(aQ (lp n o fr k) cs T).1,ht d<=m+ht o:=by
     intro cs
     induction cs with
     |nil=>intro T _ d hd;exact nomatch hd
     |cons c r ih=>
      intro T h d hd;rw[aQ]at hd;rcases List.mem_cons.mp hd with rfl |hd
      ·exact mj k c T m (h c WZ)
      ·exact ih _ (λe he=>h e (WY _ he)) d hd
    exact key cs T hk d iH
   lia
end
mutual
noncomputable def aq:D->List Str
 |.str x=>[x]
 |.tup ds=>aL ds
 |_=>[]
noncomputable def aL:List D->List Str
 |[]=>[]
 |d::r=>aq d++aL r
end
theorem ml{x:Str}:∀{ds:List D},x∈aL ds ↔ ∃d∈ds,x∈aq d
 |[]=>by rw[aL];exact⟨λh=>(nomatch h),λ⟨_,h,_⟩=>(nomatch h)⟩
 |d::r=>by
  rw[aL,Yj,ml];constructor
  ·rintro (h |⟨c,hc,h⟩)
   ·exact⟨d,WZ,h⟩
   ·exact⟨c,WY _ hc,h⟩
  ·rintro⟨c,hc,h⟩;rcases List.mem_cons.mp hc with rfl |hc
   ·exact .inl h
   ·exact .inr ⟨c,hc,h⟩
mutual
noncomputable def aE:D->Bool
 |.str _=>true
 |.int _=>true
 |.tup ds=>a4 ds
 |.ai=>false |.bl _=>false |.ref _=>false |.ty _=>false |.lst _=>false |.ag _ _=>false
noncomputable def a4:List D->Bool
 |[]=>true
 |d::r=>aE d && a4 r
end
mutual
theorem A6:∀{d:D},aE d=true->ar d=true
 |.str _,_=>rfl
 |.int _,_=>rfl
 |.tup ds,h=>by rw[aE]at h;rw[ar];exact A7 h
 |.ai,h=>by rw[aE]at h;cases h
 |.bl _,h=>by rw[aE]at h;cases h
 |.ref _,h=>by rw[aE]at h;cases h
 |.ty _,h=>by rw[aE]at h;cases h
 |.lst _,h=>by rw[aE]at h;cases h
 |.ag _ _,h=>by rw[aE]at h;cases h
theorem A7:∀{ds:List D},a4 ds=true->aI ds=true
 |[],_=>rfl
 |d::r,h=>by
  rw[a4,WT]at h;rw[aI,A6 h.1,A7 h.2];rfl
end
theorem mm:∀{ds:List D},(∀d∈ds,aE d=true)->a4 ds=true
 |[],_=>by rw[a4]
 |d::r,h=>by rw[a4,h d WZ,mm λe he=>h e (WY _ he)];rfl
mutual
noncomputable def sz:D->Nat
 |.tup ds=>1+aG ds
 |.ai=>1 |.bl _=>1 |.int _=>1 |.str _=>1 |.ref _=>1 |.ty _=>1 |.lst _=>1 |.ag _ _=>1
noncomputable def aG:List D->Nat
 |[]=>0
 |d::r=>sz d+aG r
end
theorem ky:∀{a b:List D},aG (a++b)=aG a+aG b
 |[],b=>by rw[List.nil_append,aG];lia
 |d::a,b=>by rw[YL,aG,aG,ky];lia
theorem A8:∀d:D,1<=sz d:=λd=>by cases d <;> rw[sz] <;> lia
theorem uk:∀ds:List D,ds.length<=aG ds
 |[]=>W9 _
 |d::r=>by have:=uk r;have:=A8 d;rw[aG,Xe];lia
theorem um:∀ds:List D,aG ds.reverse=aG ds
 |[]=>rfl
 |d::r=>by rw[YB,ky,um r,aG,aG,aG];lia
noncomputable def fS:List Str:=["num","word","table","none"]
noncomputable def fe:List Str:=["at","times"]
noncomputable def dm:List Str:=["add","mul","one","both","when","same","under","and","or","not"]
def VJ(w:Str)(ds:List D)(m:Nat):Prop:=(∀d∈ds,aE d=true/\aH d<=10/\sz d<=100)/\((w∈fS/\ds.length=1/\m=0)\/(w∈fe/\ds.length=1/\m=1)\/(w∈dm/\ds=[]/\1<=m/\m<=2))
def Hk:Hd->Nat->Prop
 |.var _,m=>m=0
 |.bd _ _,m=>m=2
 |.row fs,m=>fs.length=m/\m<100
 |.o w ds,m=>VJ w ds m
inductive Ok:Rt->Prop
 |mk {h cs}:Hk h cs.length->(∀c∈cs,Ok c)->Ok (.nd h cs)
theorem Ok.k{h:Hd}{cs:List Rt}(x:Ok (.nd h cs)):Hk h cs.length:=by cases x;assumption
theorem Ok.c{h:Hd}{cs:List Rt}(x:Ok (.nd h cs)):∀c∈cs,Ok c:=by cases x;assumption
theorem Hk.lt{h:Hd}{m:Nat}(x:Hk h m):m<100:=by
 cases h with
 |var x'=>have:m=0:=x;lia
 |bd f x'=>have:m=2:=x;lia
 |row fs=>exact x.2
 |o w ds=>rcases x.2 with y |y |y <;> lia
noncomputable def iu:Hd->List Str
 |.var x=>["var",x]
 |.bd f x=>[bw f,x]
 |.row fs=>"row"::fs
 |.o w ds=>w::aL ds
theorem A9{x:Str}:∀{fs:List Str}{ds:List D},fs.length=ds.length->(x∈aL (Xy (λf c=>D.tup [.str f,c]) fs ds) ↔ x∈fs\/x∈aL ds)
 |[],[],_=>by simp [aL]
 |f::fs,d::ds,h=>by
  have ih:=@A9 x fs ds (by simpa using h);rw[YE,aL,aq,aL,aL,aL,aL,Yj,ih,aq];simp only[Yj,Xk,Xd,or_false];constructor
  ·rintro ((h |h) |h |h)
   ·exact .inl (.inl h)
   ·exact .inr (.inl h)
   ·exact .inl (.inr h)
   ·exact .inr (.inr h)
  ·rintro ((h |h) |h |h)
   ·exact .inl (.inl h)
   ·exact .inr (.inl h)
   ·exact .inl (.inr h)
   ·exact .inr (.inr h)
theorem KH{x:Str}{a b:List D}:x∈aL (a++b) ↔ x∈aL a\/x∈aL b:=by
 rw[ml,ml,ml];constructor
 ·rintro⟨d,hd,h⟩;exact (List.mem_append.mp hd).imp (λz=>⟨d,z,h⟩) λz=>⟨d,z,h⟩
 ·rintro (⟨d,hd,h⟩ |⟨d,hd,h⟩)
  ·exact⟨d,W5 _ hd,h⟩
  ·exact⟨d,Xf _ hd,h⟩
theorem o8{h:Hd}{cs:List Rt}(k:Hk h cs.length){x:Str}:x∈aq (rD (.nd h cs)) ↔ x∈iu h\/∃c∈cs,x∈aq (rD c):=by
 have e:x∈aL (cK cs) ↔ ∃c∈cs,x∈aq (rD c):=by
  rw[ip,ml];constructor
  ·rintro⟨d,hd,h⟩;obtain⟨c,hc,rfl⟩:=List.mem_map.mp hd;exact⟨c,hc,h⟩
  ·rintro⟨c,hc,h⟩;exact⟨_,List.mem_map.mpr ⟨c,hc,rfl⟩,h⟩
 have l:(cK cs).length=cs.length:=by rw[ip,WQ]
 rw[rD,<- e];cases h with
 |var y=>
  have:cs=[]:=List.length_eq_zero_iff.mp k;subst this;rw[hD,aq,aL,aq,aL,aq,aL,cK,aL,iu];simp
 |bd f y=>rw[hD,aq,aL,aq,aL,aq,iu];simp [or_assoc]
 |row fs=>
  rw[hD,aq,aL,aq,aL,aq,aL,iu,Yj,Xc,A9 (by rw[l];exact k.1)];simp [or_assoc]
 |o w ds=>
  rw[hD,aq,aL,aq,iu,Yj,KH];simp [or_assoc]
theorem mq:∀ q,Ok q->∀ x∈nms q,x∈aq (rD q):=Rt.bV (λy cs k x h=>by
  rw[oU]at h;subst h;exact (o8 k.k).mpr (.inl (by rw[iu];simp))) (λf y a b ha hb k x h=>(o8 k.k).mpr (by
  rcases cL.mp h with h |h |h
  ·subst h;exact .inl (by rw[iu];simp)
  ·exact .inr ⟨a,by simp,ha (k.c a (by simp)) x h⟩
  ·exact .inr ⟨b,by simp,hb (k.c b (by simp)) x h⟩)) λh cs v n2 ih k x e=>by
 obtain⟨c,hc,e⟩:=(je v n2).mp e;exact (o8 k.k).mpr (.inr ⟨c,hc,ih c hc (k.c c hc) x e⟩)
theorem Ok.aA:∀{q},Ok q->∀(ρ:Rn),Ok (QT.aA ρ q):=λ{q}=>Rt.bV (P:=λq=>Ok q->∀(ρ:Rn),Ok (QT.aA ρ q)) (λx cs k ρ=>by rw[eB];exact .mk k.k k.c) (λf x a b ha hb k ρ=>by
  rw[e9];refine .mk (show 2=2 from rfl) λc hc=>?_;simp only[Xk,Xd,or_false]at hc;rcases hc with rfl |rfl
  ·exact ha (k.c a (by simp)) _
  ·exact hb (k.c b (by simp)) _) (λh cs v n2 ih k ρ=>by
 rw[fc v n2];refine .mk (by rw[WQ];exact k.k) λc hc=>?_;obtain⟨d,hd,rfl⟩:=List.mem_map.mp hc;exact ih d hd (k.c d hd) ρ) q
section
variable{n:Str}{o:Rt}{fr:Tn->Str}
theorem Ok.lp(ho:Ok o):∀(k:Nat){q:Rt}(T:Tn),Ok q->Ok (QT.lp n o fr k q T).1
 | 0,q,T,h=>h
 |k+1,q,T,h=>by
  refine Rt.bV (P:=λq=>∀T,Ok q->Ok (QT.lp n o fr (k+1) q T).1) (λx cs T h=>?_) (λf x a b _ _ T h=>?_) (λhd cs v n2 _ T h=>?_) q T h
  ·show Ok (if x=n then o else .nd (.var x) cs)
   split
   ·exact ho
   ·exact .mk h.k h.c
  ·have ha:=h.c a (by simp);have hb:=h.c b (by simp);have two:∀{f x a b},Ok a->Ok b->Ok (.nd (.bd f x) [a,b]):=λ{f x a b}ha hb=>.mk (show 2=2 from rfl) λc hc=>by
    simp only[Xk,Xd,or_false]at hc;rcases hc with rfl |rfl
    ·exact ha
    ·exact hb
   show Ok (cM fr f x (QT.lp n o fr k) a b (decide (x≠n) && decide (n∈fv b)) (aU n o x b) T).1;unfold cM;split
   ·refine two (Ok.lp ho k _ ha) (Ok.lp ho k _ ?_);split
    ·exact hb.aA _
    ·exact hb
   ·exact two (Ok.lp ho k _ ha) hb
  ·rw[ir v n2];exact .mk (by rw[gI];exact h.k) (A5 λc hc U=>Ok.lp ho k U (h.c c hc))
end
theorem pe{m:Nat}:∀{ds:List D},(∀d∈ds,aH d<=m)->aR ds<=m
 |[],_=>by rw[aR];lia
 |d::r,h=>by
  have:=h d WZ;have:=pe λe he=>h e (WY _ he);rw[aR];lia
theorem pf:∀{ds:List D},(∀d∈ds,ar d=true)->aI ds=true
 |[],_=>by rw[aI]
 |d::r,h=>by rw[aI,h d WZ,pf λe he=>h e (WY _ he)];rfl
theorem pg{α β:Type}{f:α->β->D}{P:D->Prop}:∀{as:List α}{bs:List β},(∀a,∀b∈bs,P (f a b))->∀d∈Xy f as bs,P d
 |[],_,_,d,h=>by simp at h
 |_::_,[],_,d,h=>by simp at h
 |a::as,b::bs,g,d,h=>by
  rw[YE]at h;rcases List.mem_cons.mp h with rfl |h
  ·exact g a b WZ
  ·exact pg (λa b hb=>g a b (WY _ hb)) d h
theorem ph:∀q,Ok q->ar (rD q)=true/\∀m,ht q<=m->aH (rD q)<=3 * m+10:=Rt.uc λh cs ih k=>by
 have kd:∀c∈cs,ar (rD c)=true:=λc hc=>(ih c hc (k.c c hc)).1;have all:∀d∈cK cs,∃c∈cs,d=rD c:=λd hd=>by
  rw[ip]at hd;obtain⟨c,hc,rfl⟩:=List.mem_map.mp hd;exact⟨c,hc,rfl⟩
 have Tf:∀d∈cK cs,ar d=true:=λd hd=>let ⟨c,hc,e⟩:=all d hd;e ▸ kd c hc
 have dd:∀{m},(∀c∈cs,ht c<=m)->∀d∈cK cs,aH d<=3 * m+10:=λhm d hd=>by
  obtain⟨c,hc,rfl⟩:=all d hd;exact (ih c hc (k.c c hc)).2 _ (hm c hc)
 have hp:∀{m},ht (.nd h cs)<=m->∃m',m=m'+1:=λ{m}hm=>⟨m-1,by have:=eD (.nd h cs);lia⟩
 have kk:=k.k;rw[rD];cases h with
 |var x=>exact⟨rfl,λm _=>by rw[hD,aH,aR,aR,aR,aH,aH];lia⟩
 |bd f x=>
  refine⟨by rw[hD,ar,aI,aI,ar,ar,pf Tf];rfl,λm hm=>?_⟩;obtain⟨m,rfl⟩:=hp hm;have:∀c∈cs,ht c<=m:=by
   match cs,kk with
   |[a,b],_=>
    obtain⟨h1,h2⟩:=eC hm;intro c hc;simp only[Xk,Xd,or_false]at hc;rcases hc with rfl |rfl <;> assumption
  have:=pe (dd this);rw[hD,aH,aR,aR,aH,aH];lia
 |row fs=>
  refine⟨?_,λm hm=>?_⟩
  ·rw[hD,ar,aI,aI,aI,ar,ar,pf (pg (P:=λd=>ar d=true) λa b hb=>by rw[ar,aI,aI,aI,ar,Tf b hb];rfl)];rfl
  ·obtain⟨m,rfl⟩:=hp hm;have h1:=gH (h:=.row fs) (λx e=>nomatch e) (λ_ _ e=>nomatch e) hm;have:aR (Xy (λf c=>D.tup [.str f,c]) fs (cK cs))<=3 * m+10+1:=pe (pg (P:=λd=>aH d<=3 * m+10+1) λa b hb=>by
    have:=dd h1 b hb;rw[aH,aR,aR,aR,aH];lia)
   rw[hD,aH,aR,aR,aR,aH,aH];lia
 |o w ds=>
  have h0:=kk.1;have e1:∀d∈ds++cK cs,ar d=true:=λd hd=>(List.mem_append.mp hd).elim (λz=>A6 (h0 d z).1) (Tf d);refine⟨by rw[hD,ar,aI,ar,pf e1];rfl,λm hm=>?_⟩;obtain⟨m,rfl⟩:=hp hm;have h1:=gH (h:=.o w ds) (λx e=>nomatch e) (λ_ _ e=>nomatch e) hm;have:aR (ds++cK cs)<=3 * m+10:=pe λd hd=>(List.mem_append.mp hd).elim (λz=>W2 (h0 d z).2.1 (Nat.le_add_left ..)) (dd h1 d);rw[hD,aH,aR,aH];lia
theorem pj:∀q,Ok q->aE (rD q)=true/\sz (rD q)<=500 * nk q:=Rt.uc λh cs ih k=>by
 have kk:=k.k;have tc:∀d∈cs.map rD,aE d=true:=λd hd=>by
  obtain⟨c,hc,rfl⟩:=List.mem_map.mp hd;exact (ih c hc (k.c c hc)).1
 have sc:aG (cs.map rD)<=500 * (cs.map nk).sum:=by
  have key:∀cs:List Rt,(∀c∈cs,sz (rD c)<=500 * nk c)->aG (cs.map rD)<=500 * (cs.map nk).sum:=by
   intro cs
   induction cs with
   |nil=>intro _;rw[XT,aG];lia
   |cons c r ih=>
    intro h;have:=ih λd hd=>h d (WY _ hd);have:=h c WZ;rw[W0,W0,aG,XJ,Nat.mul_add];lia
  exact key cs λc hc=>(ih c hc (k.c c hc)).2
 have AC:1+(cs.map nk).sum<=nk (.nd h cs):=by
  cases h with
  |var x=>
   have:cs=[]:=List.length_eq_zero_iff.mp kk;subst this;show 1+0<=iq.f _;rw[az.fv];exact WU _
  |bd f x=>
   match cs,kk with
   |[a,b],_=>rw[cY];simp;lia
  |row fs=>rw[dX (h:=.row fs) (λx e=>nomatch e) λ_ _ e=>nomatch e];exact WU _
  |o w ds=>rw[dX (h:=.o w ds) (λx e=>nomatch e) λ_ _ e=>nomatch e];exact WU _
 rw[rD,ip];cases h with
 |var x=>exact⟨rfl,by rw[hD,sz,aG,aG,aG,sz,sz];lia⟩
 |bd f x=>exact⟨by rw[hD,aE,a4,a4,aE,aE,mm tc];rfl,by rw[hD,sz,aG,aG,sz,sz];lia⟩
 |row fs=>
  refine⟨?_,?_⟩
  ·rw[hD,aE,a4,a4,a4,aE,aE,mm (pg (P:=λd=>aE d=true) λa b hb=>by rw[aE,a4,a4,a4,aE,tc b hb];rfl)];rfl
  ·have key:∀(fs:List Str)(ds:List D),aG (Xy (λf c=>D.tup [.str f,c]) fs ds)<=aG ds+2 * ds.length:=by
    intro fs
    induction fs with
    |nil=>intro ds;rw[List.zipWith_nil_left,aG];lia
    |cons f fs ih=>
     intro ds;cases ds with
     |nil=>rw[List.zipWith_nil_right,aG];lia
     |cons d ds=>
      have:=ih ds;rw[YE,aG,aG,sz,aG,aG,aG,sz,Xe];lia
   have:=key fs (cs.map rD);rw[WQ]at this;have:=kk.2;rw[hD,sz,aG,aG,aG,sz,sz];lia
 |o w ds=>
  have h0:=kk.1;have e1:∀d∈ds++cs.map rD,aE d=true:=λd hd=>(List.mem_append.mp hd).elim (λz=>(h0 d z).1) (tc d);refine⟨by rw[hD,aE,a4,aE,mm e1];rfl,?_⟩;have:aG ds<=100:=by
   rcases kk.2 with z |z |z
   ·match ds,z.2.1,h0 with
    |[d],_,h0=>have:=(h0 d (by simp)).2.2;rw[aG,aG];lia
   ·match ds,z.2.1,h0 with
    |[d],_,h0=>have:=(h0 d (by simp)).2.2;rw[aG,aG];lia
   ·rw[z.2.1,aG];lia
  rw[hD,sz,aG,sz,ky];lia
noncomputable def bB(i:Nat):Str:=⟨#[97+i]⟩
noncomputable def ff(i j:Nat):Str:=⟨#[97+i,97+j]⟩
noncomputable def sq:List Str:=(Xu 26).map bB++(Xu 26).flatMap λi=>(Xu 26).map (ff i)
noncomputable def gd(x:Str):Bool:=decide (x≠"at") && decide (x≠"or")
noncomputable def hE(T:Tn):Str:=⟨Array.replicate (1+(T.map λx=>x.cps.size).sum) 122⟩
theorem KJ(T:Tn):hE T ∉ T:=λh=>by
 have key:∀T:Tn,∀x∈T,x.cps.size<=(T.map λx=>x.cps.size).sum:=by
  intro T
  induction T with
  |nil=>exact λx h=>nomatch h
  |cons y r ih=>
   intro x hx;rw[W0,XJ];rcases List.mem_cons.mp hx with rfl |hx
   ·lia
   ·have:=ih x hx;lia
 have:=key T _ h;have e:(hE T).cps.size=1+(T.map λx=>x.cps.size).sum:=Array.size_replicate;lia
noncomputable def mr(T:Tn):Option Str:=sq.find? λx=>gd x && decide (x ∉ T)
noncomputable def fr(T:Tn):Str:=(mr T).getD (hE T)
theorem pq(T:Tn):fr T ∉ T:=by
 unfold fr;cases h:mr T with
 |none=>exact KJ T
 |some x=>
  have:=List.find?_some h;rw[WT]at this;exact of_decide_eq_true this.2
theorem Ba:∀{xs ys:List Str},xs.Nodup->(∀x∈xs,x∈ys)->xs.length<=ys.length
 |[],_,_,_=>W9 _
 |x::xs,ys,nd,h=>by
  rw[List.nodup_cons]at nd;have hx:=h x WZ;have:=Ba (xs:=xs) (ys:=ys.erase x) nd.2 λy hy=>(List.mem_erase_of_ne (by rintro rfl;exact nd.1 hy)).mpr (h y (WY _ hy));rw[List.length_erase_of_mem hx]at this;have:=List.length_pos_of_mem hx;rw[Xe];lia
noncomputable def pv(x:Str):Nat:=x.cps.toList.foldl (λa c=>a * 128+c) 0
noncomputable def mu:List Nat->Bool
 |a::b::r=>decide (a<b) && mu (b::r)
 |_=>true
theorem Bb:∀{l:List Nat}{a:Nat},mu (a::l)=true->(∀x∈l,a<x)/\(a::l).Nodup
 |[],a,_=>⟨λx h=>(nomatch h),by simp⟩
 |b::r,a,h=>by
  rw[mu,WT]at h;have fD:a<b:=of_decide_eq_true h.1;obtain⟨h1,h2⟩:=Bb h.2;have h3:∀x∈b::r,a<x:=λx hx=>(List.mem_cons.mp hx).elim (λe=>e ▸ fD) λz=>Xz fD (h1 x z);exact⟨h3,List.nodup_cons.mpr ⟨λz=>Yh _ (h3 a z),h2⟩⟩
theorem KL{l:List Str}(h:mu (l.map pv)=true):l.Nodup:=by
 have key:∀{l:List Str},(l.map pv).Nodup->l.Nodup:=by
  intro l
  induction l with
  |nil=>exact λ_=>.nil
  |cons a r ih=>
   intro h;rw[W0,List.nodup_cons]at h;exact List.nodup_cons.mpr ⟨λz=>h.1 (List.mem_map.mpr ⟨a,z,rfl⟩),ih h.2⟩
 refine key ?_;cases e:l.map pv with
 |nil=>exact .nil
 |cons a r=>rw[e]at h;exact (Bb h).2
noncomputable def KN:List Str:=sq.filter gd
theorem KO:mu (KN.map pv)=true:=by decide +kernel
theorem Bc:(sq.filter gd).Nodup/\(sq.filter gd).length=700:=⟨KL KO,by decide +kernel⟩
theorem uo:sq.length=702:=by decide +kernel
theorem Be{T L:Tn}(h:∀x∈T,x∈L)(hl:L.length<700):∃j:Nat,sq[j]?=some (fr T)/\gd (fr T)=true/\∀(i:Nat)(x:Str),i<j->sq[i]?=some x->(gd x && decide (x ∉ T))=false:=by
 have:∃x,mr T=some x:=by
  cases e:mr T with
  |some x=>exact⟨x,rfl⟩
  |none=>
   have e':=List.find?_eq_none.mp e;have:=Ba Bc.1 (ys:=L) λx hx=>by
    obtain⟨h1,h2⟩:=List.mem_filter.mp hx;have:=e' x h1;rw[h2]at this;exact h x (by simpa using this)
   rw[Bc.2]at this;lia
 obtain⟨x,hx⟩:=this;have e:fr T=x:=by unfold fr;rw[hx];rfl
 rw[e];have hx:=hx;unfold mr at hx;obtain⟨hp,as,bs,e2,h3⟩:=List.find?_eq_some_iff_append.mp hx;rw[WT]at hp;refine⟨as.length,by rw[e2];simp,hp.1,λi y hi hy=>?_⟩;rw[e2,XG hi]at hy;have:=h3 y (Xw hy);rw[Bool.not_eq_true']at this;exact this
end QT
end
section
set_option maxHeartbeats 1000000
namespace N
open PySem PySem.Spec PyProof.Rows L2
section
variable{w:Wo}{k kl n nl:Nat}{ns lps:List Str}{sc:Scope}{as:List Expr}{params:Arguments}{body:Expr}{scope:Scope}{g q:Str}{gp lp cp:Pos}{el:E}{es:L}{eE:Sp}{ig:Nat}{l:a5 w}{f c T:Addr}{A:Around}{outer:List Env}{s:Shared}{E:XQ}
def px(w:Wo)(l:a5 w)(es:L)(k kl ig:Nat)(eE:Sp):DE:=fun τ M q=>es.w l.wd w.nm.af τ M λvs M1=>∀e f,Le w.G.ex e->hO (w.at e).G (kl+1) f eE->∃ul,FO (w.at e) ig k ul/\ul (vs++[.ref f]) M1 q X0
theorem KP(O:w.Ok)(C:bu w.nm l.wd k ns sc (dh w.G ns q sc f (.ref c) A outer s E))(LK:gF w.G c T lp (q++".<locals>."++"<lambda>"))
  (cG:∀q L f cd,closureFor scope (envOfC q sc L f cd)=pure []) (me:∀q L f cd,defaultsOf params (envOfC q sc L f cd)=([],[]))
  (hg:aX sc g=true) (cF:(g == ("__debug__" : Str))=false) (uq:w.nm.lR[ig]?=some g) (cU:bh as=true) (has:L.of (as.map (aV w.nm n ns sc))=es)
  (SL:oO lps [] scope) (ur:lps.Nodup) (ut:∀q pm c cy K,bO K (PySem.W.kla_fn "<lambda>" q params body scope [] pm c cy) lps []) (em:aV w.nm nl lps scope body=el)
  (HL:∀e,Le w.G.ex e->∃ll:a5 (w.at e),ll.Ok kl/\∀ds M Q E,eE ds M Q E->ds.length=lps.length/\(el.w ll.wd w.nm.af).1 (ds.map some) M (bA Q)) :
  PE (dh w.G ns q sc f (.ref c) A outer s E) (.Call (.Name g gp) (as++[.Lambda params body scope lp]) [] cp) (px w l es k kl ig eE):=by
 intro τ z Q R I hq KK;unfold px at hq;have Bf:=uq;rw[show w.nm.lR=w.ds.map (·.x) from rfl,W8]at Bf;obtain⟨UT,AT,rfl⟩:=Option.map_eq_some_iff.mp Bf;obtain⟨VL,R',Fg⟩:=O.df ig UT AT;refine XU (jB I (C.aX hg) Fg.mg cF ?_);have go:W (dh w.G ns q sc f (.ref c) A outer s E) (spliced (backTo cp (starEach (as++[.Lambda params body scope lp]) (dh w.G ns q sc f (.ref c) A outer s E).env))) (λvs s1=>w.G.K.In s1.heap/\W (dh w.G ns q sc f (.ref c) A outer s E) (call (.ref VL) vs) R s1) z.s:=by
  refine Kq (X:=dh w.G ns q sc f (.ref c) A outer s E) (f:=aV w.nm n ns sc) (W:=l.wd) (m:=w.nm) rfl cU (λe _=>(ja n C e).e) cp τ z _ _ I (by rw[has];exact hq) λds z1 us l1 I1 r1 q1=>?_;refine Ke (clos:=[]) I1 LK (me _ _ _ _) (cG _ _ _ _) rfl λf' c' o' cy z2 l2 I2 Uq h1 h2 h3=>?_;refine⟨I2.b7,?_⟩;have TL:Le w.G.ex (ba z2.F ((dh w.G ns q sc f (.ref c) A outer s E).a' z2.s.heap)):=I2.bs.x.tr I2.du;have hh:hO (w.at (ba z2.F ((dh w.G ns q sc f (.ref c) A outer s E).a' z2.s.heap))).G (kl+1) f' eE:=by
   obtain⟨ll,KQ,hb⟩:=HL _ TL;refine Kp (I2.du f' _ h1) rfl (Kl (m:=w.nm) (W:=ll.wd) (k:=kl) (n:=nl) (ws:=[]) (I2.du f' _ h1) (I2.du c' _ h2) h3 SL ⟨rfl,(by intro _ _ _ _ e;cases e),List.nodup_nil,(by intro _ _ _ e;cases e)⟩ (by simpa using ur) (KQ.env (O.at _)) (by simpa using em) λds M Q E z=>?_) (λK=>ut _ _ _ _ K);obtain⟨h1,h2⟩:=hb ds M Q E z;exact⟨h1,by simpa using h2⟩
  obtain⟨ul,VM,hs⟩:=q1 _ f' TL hh;obtain⟨KR,KU,Sa,e1,e2,e3⟩:=VM;have Bg:w.ds[ig]?=some KR:=e1;rw[AT]at Bg;cases Bg;have e4:w.G.mg UT.x=some (.ref KU):=e2.mg;rw[Fg.mg]at e4;cases e4;exact rj (x:=ba z2.F ((dh w.G ns q sc f (.ref c) A outer s E).a' z2.s.heap)) (bo:=[]) (ds:=[]) (vs:=ds++[.ref f']) (Q:=Q) e3 C.room e2.b i' gB I2 Le.rfl I2.b7 ((r1.up l2.d).append (.cons (by rw[aa]) .nil)) (by rw[Xc,Uq];exact hs) λd z3 u l3=>KK d z3 u (l1.tr (l2.tr l3))
 cases as with
 |nil=>exact PySem.W.callWith_K (h₀:=w.G.base) I.ok.mod.gc Fg.kp go rfl rfl
 |cons a as=>
  have h':(bU a && bh as)=true:=cU;rw[WT]at h';exact PySem.W.callWith_K (h₀:=w.G.base) I.ok.mod.gc Fg.kp go (bJ h'.1) (eR (AI rfl h'.2))
end
theorem KW{w:Wo}(O:w.Ok){nm:Nm}(hn:w.nm=nm){k kl n nl:Nat}{ns lps:List Str}{as:List Expr}{params:Arguments}{body:Expr}{scope cN:Scope}{g:Str}{gp lp cp VN p1 p4 kz:Pos}{el ec ee:E}{es:L}{sp eE:Sp}{tg a7 o0:Expr}{tG:G}(i ig:Nat)(d:Ds)(hd:w.ds[i]?=some d)
  (gs:aD d.st=[.Return (some (.Call (.Name "dict" p1) [.ListComp a7 [⟨tg,.Call (.Name g gp) (as++[.Lambda params body scope lp]) [] cp,[o0],0⟩] cN kz] [] p4)) VN])
  (LM:∀f fd q,ej w.G.K q q d.st f fd->w.G.mg d.x=some (.ref f)->∃c T,fd.code=.ref c/\gF w.G c T lp (q++".<locals>."++"<lambda>"))
  (l:a5 w) (hl:l.Ok k) (S:aJ ns d.ps (ah d.st)) (cG:∀q L f cd,closureFor scope (envOfC q (ah d.st) L f cd)=pure []) (me:∀q L f cd,defaultsOf params (envOfC q (ah d.st) L f cd)=([],[]))
  (hg:aX (ah d.st) g=true) (KY:aX (ah d.st) "dict"=true) (cF:(g == ("__debug__" : Str))=false) (uq:nm.lR[ig]?=some g) (cU:bh as=true) (has:L.of (as.map (aV nm n ns (ah d.st)))=es)
  (SL:oO lps [] scope) (ur:lps.Nodup) (ut:∀q pm c cy K,bO K (PySem.W.kla_fn "<lambda>" q params body scope [] pm c cy) lps []) (em:aV nm nl lps scope body=el)
  (HL:∀e,Le w.G.ex e->∃ll:a5 (w.at e),ll.Ok kl/\∀ds M Q E,eE ds M Q E->ds.length=lps.length/\(el.w ll.wd nm.af).1 (ds.map some) M (bA Q))
  (iW:fM (cc ns cN tg) (lS (dF (ah d.st) cN)) tg=some tG) (h1:lq (ah d.st) ns cN (ew ns cN.names)=true) (h2:tG.lt ((eu tg).map (·.1)).length=true) (h3:(cc ns cN tg).Nodup)
  (KZ:aV nm n (cc ns cN tg) (dF (ah d.st) cN) o0=ec) (K1:aV nm n (cc ns cN tg) (dF (ah d.st) cN) a7=ee)
  (H:∀ds M Q E,sp ds M Q E->ds.length=d.ps.length/\S9 rS (qu (lD ((eu tg).map (·.1)).length (ew ns cN.names) tG (ou (px w l es k kl ig eE)) (ec.w l.wd nm.af).2 (ee.w l.wd nm.af).1) gV) (start ns ds) M (bA Q)):FO w i (k+1) sp:=by
 subst hn;obtain⟨f,fd,F⟩:=O.df i d hd;obtain⟨q,Fn⟩:=F.fn;obtain⟨c,T,hc,LK⟩:=LM f fd q Fn F.mg;obtain⟨oc,od,kV,am,pm,an,al,ct,cq,rfl,lk,ef⟩:=Fn.ex;obtain rfl:al=.ref c:=hc;have key:bj w.G (k+1) f (PySem.W.fnOf q q (eS d.st) (aD d.st) (ah d.st) .none kV am pm an (.ref c) ct) d.ps λds M R E=>∃Q,R=bA Q/\sp ds M Q E:=by
  refine xX lk ef S (λds M R E ⟨Q,_,z⟩=>(H ds M Q E z).1) λA outer s M ds R E hr ⟨Q,e,z⟩=>?_;subst e;obtain⟨_,hq⟩:=H ds M Q E z;have C:bu w.nm l.wd k ns (ah d.st) (dh w.G ns q (ah d.st) f (.ref c) A outer s E):=⟨rfl,rfl,S.nd,rfl,hr,hl.env O⟩;rw[gs];have C':∀cl a,bu w.nm l.wd k (cc ns cN tg) (dF (ah d.st) cN) (dj (dh w.G ns q (ah d.st) f (.ref c) A outer s E) cN (cc ns cN tg) cl a):=λcl a=>C.lc h3;have pl:=KP (g:=g) (gp:=gp) (lp:=lp) (cp:=cp) (body:=body) (nl:=nl) (kl:=kl) (es:=es) (eE:=eE) O C LK cG me hg cF uq cU has SL ur ut em HL;have VO:PE (dh w.G ns q (ah d.st) f (.ref c) A outer s E) (.ListComp a7 [⟨tg,.Call (.Name g gp) (as++[.Lambda params body scope lp]) [] cp,[o0],0⟩] cN kz) (lD ((eu tg).map (·.1)).length (ew ns cN.names) tG (ou (px w l es k kl ig eE)) (ec.w l.wd w.nm.af).2 (ee.w l.wd w.nm.af).1):=
   yJ (.of rfl rfl h1) C.calm (zq pl) (λcl a=>oG (C' cl a) (λy hy=>by
    have hl:=Af hy;rw[(C' cl a).eo];exact⟨.inl hl,.inr hl⟩) iW) h2 (λcl a=>yz (by rw[<- KZ];exact (ja n (C' cl a) o0).t)) (λcl a=>by rw[<- K1];exact (ja n (C' cl a) a7).e) λ_=>rfl
  refine⟨_,wL (wM (yh (yy C.calm) (C.aX KY) (C.en.bl _ (by decide)) (by decide +kernel) (ny VO nv rfl) (by decide) (by decide) rfl rfl)),hq⟩
 refine⟨d,f,_,hd,F,⟨λds M Q E z=>(H ds M Q E z).1,λA outer z args us ds Q E hr e0 hb r hs=>YG (key.eI A outer z args us ds (bA Q) E hr e0 hb r ⟨Q,rfl,hs⟩) λr s q=>q.ret⟩⟩
end N
end
section
namespace K47
open PySem N NQ QT
open L2
def top(i:Nat):Stmt:=PySem.Challenge.pw_keptnest_k47_put_in.main.body.getD i (.Pass ⟨0,0,0,0⟩)
def nm:Nm:=⟨((["only_of","is_name","new_name","text_behind","unfolded","under","with_under","free","bound_in","many_shared","with_part","names_in","put_in","put","begin","begin_binding","is_free","finish","_law_deck","_law_take","_law_stock","_law_ways","_law_with","_law_name","_law_kind","_law_leaf","_law_claim","_law_bound","_law_bag","_law_at_row"]:List Str)++(["_law_ask","_law_parts","_law_rebuilt","_law_free","_law_knots","_law_question","_law_standing","_law_fresh","_law_swap","_law_put","law"]:List Str)),((["LETTERS","LONGEST_NAME","TAKEN_WORDS","HAVE_MORE","only_of","is_name","new_name","text_behind","unfolded","under","with_under","free","bound_in","many_shared","with_part","names_in","put_in","put","begin","begin_binding","is_free","finish","_law_deck","_law_take","_law_stock","_law_ways","_law_with","_law_name","_law_kind","_law_leaf"]:List Str)++(["_law_claim","_law_bound","_law_bag","_law_at_row","_law_ask","_law_parts","_law_rebuilt","_law_free","_law_knots","_law_question","_law_standing","_law_fresh","_law_swap","_law_put","law"]:List Str)),((["Walk","Place","Spare"]:List Str)),((["__init__","later","tell","take","run","__init__","knot","go","down","up","put","whole","names","__init__","fresh"]:List Str))⟩
def aN(s:Stmt)(i:Nat):Stmt:=match s with
 |.ClassDef _ _ _ b _ _ _ _ _ _ _=>b.getD i (.Pass ⟨0,0,0,0⟩)
 |_=>.Pass ⟨0,0,0,0⟩
def eF:List Ds:=([⟨"only_of",top 4,["text","signs"]⟩,⟨"is_name",top 5,["text"]⟩,⟨"new_name",top 6,["taken"]⟩,⟨"text_behind",top 7,["text"]⟩,⟨"unfolded",top 9,["whole","parts_of"]⟩,⟨"under",top 12,["question"]⟩,⟨"with_under",top 13,["question","parts"]⟩,⟨"free",top 14,["question"]⟩,⟨"bound_in",top 15,["question","place"]⟩,⟨"many_shared",top 20,["one","other"]⟩,⟨"with_part",top 21,["question","step","part"]⟩,⟨"names_in",top 23,["question"]⟩,⟨"put_in",top 25,["question","name","other"]⟩,⟨"put",top 26,["question","name","other","spare"]⟩,⟨"begin",top 27,["walk","question","around"]⟩,⟨"begin_binding",top 28,["walk","question","puts","bringing"]⟩,⟨"is_free",top 29,["name","question"]⟩,⟨"finish",top 30,["walk","question","around"]⟩,⟨"_law_deck",top 32,["script","most"]⟩,⟨"_law_take",top 33,["deck","many"]⟩,⟨"_law_stock",top 34,[]⟩,⟨"_law_ways",top 35,["env","kind"]⟩,⟨"_law_with",top 36,["env","name","kind"]⟩,⟨"_law_name",top 37,["deck"]⟩,⟨"_law_kind",top 38,["deck"]⟩,⟨"_law_leaf",top 39,["deck","env","kind"]⟩,⟨"_law_claim",top 40,["deck","env","deep"]⟩,⟨"_law_bound",top 41,["deck","env","kind","deep"]⟩,⟨"_law_bag",top 42,["deck","env","kind","deep"]⟩,⟨"_law_at_row",top 43,["deck","env","kind","deep"]⟩]:List Ds)++([⟨"_law_ask",top 44,["deck","env","kind","deep"]⟩,⟨"_law_parts",top 45,["question"]⟩,⟨"_law_rebuilt",top 46,["question","parts"]⟩,⟨"_law_free",top 47,["question"]⟩,⟨"_law_knots",top 48,["question"]⟩,⟨"_law_question",top 49,["deck","env","kind","deep","limit"]⟩,⟨"_law_standing",top 50,["thing"]⟩,⟨"_law_fresh",top 51,["taken"]⟩,⟨"_law_swap",top 52,["question","name","fresh"]⟩,⟨"_law_put",top 53,["question","name","other","taken"]⟩,⟨"law",top 54,["script"]⟩]:List Ds)
def mw:List Ds:=([⟨"__init__",(aN (top 17) 0),["self"]⟩,⟨"later",(aN (top 17) 1),["self","step","question","around"]⟩,⟨"tell",(aN (top 17) 2),["self","result"]⟩,⟨"take",(aN (top 17) 3),["self","many"]⟩,⟨"run",(aN (top 17) 4),["self"]⟩,⟨"__init__",(aN (top 19) 0),["self","question"]⟩,⟨"knot",(aN (top 19) 1),["self"]⟩,⟨"go",(aN (top 19) 2),["self","path"]⟩,⟨"down",(aN (top 19) 3),["self","step"]⟩,⟨"up",(aN (top 19) 4),["self"]⟩,⟨"put",(aN (top 19) 5),["self","knot"]⟩,⟨"whole",(aN (top 19) 6),["self"]⟩,⟨"names",(aN (top 19) 7),["self"]⟩,⟨"__init__",(aN (top 22) 0),["self","place","more"]⟩,⟨"fresh",(aN (top 22) 1),["self"]⟩]:List Ds)
def gK(w:Wo)(x:Str):Addr:=match w.G.mg x with
 |some (.ref f)=>f
 |_=>0
def gL:List Str:=["num","word","var","table","none","at","times","for","let"]
def mx:List Str:=["num","word","row","bag","var","table","at","add","mul","none","one","both","times","for","when","let","same","under","and","or","not"]
def bT:Str:="abcdefghijklmnopqrstuvwxyz"
structure Bh where
 p1:Pos
 a7:Expr
 tg:Expr
 p2:Pos
 TZ:Expr
 params:Arguments
 body:Expr
 scope:Scope
 lp:Pos
 cp:Pos
 c:Expr
 sc:Scope
 kz:Pos
 p4:Pos
 p5:Pos
def K2:List Stmt->Option Bh
 |[.Return (some (.Call (.Name _ p1) [.ListComp a7 [⟨tg,.Call (.Name _ p2) [TZ,.Lambda params body scope lp] [] cp,[c],_⟩] sc kz] [] p4)) p5]=>some ⟨p1,a7,tg,p2,TZ,params,body,scope,lp,cp,c,sc,kz,p4,p5⟩
 |_=>none
noncomputable def pN:Bh:=(K2 (aD (top 23))).get (by kernel_rfl)
theorem hN:aD (top 23)=[.Return (some (.Call (.Name "dict" pN.p1) [.ListComp pN.a7 [⟨pN.tg,.Call (.Name "unfolded" pN.p2) [pN.TZ,.Lambda pN.params pN.body pN.scope pN.lp] [] pN.cp,[pN.c],0⟩] pN.sc pN.kz] [] pN.p4)) pN.p5]:=by kernel_rfl
structure Lw(w:Wo):Prop where
 ok:w.Ok
 hn:w.nm=nm
 hd:w.ds=eF
 hms:w.ms=mw
 gl:w.gv.getD 0 .ai=.str bT
 UU:w.gv.getD 1 .ai=.int 8
 gt:w.gv.getD 2 .ai=.tup (mx.map D.str)
 g0:w.gv.getD 3 .ai=.tup (gL.map D.str)
 gb:w.gv.getD 18 .ai=.ref (gK w "begin")
 gf:w.gv.getD 21 .ai=.ref (gK w "finish")
 f0:∀x∈(["waiting","found"]:List Str),w.fl (w.ca 0) x
 f1:∀x∈(["line","path","anew","around"]:List Str),w.fl (w.ca 1) x
 f2:∀x∈(["place","more","taken"]:List Str),w.fl (w.ca 2) x
 m0:∀i,i<=4->w.mc i=w.ca 0
 m1:∀i,5<=i->i<=12->w.mc i=w.ca 1
 m2:∀i,13<=i->i<=14->w.mc i=w.ca 2
 T2:∀f fd q,ej w.G.K q q (top 23) f fd->w.G.mg "names_in"=some (.ref f)->∃c T,fd.code=.ref c/\gF w.G c T pN.lp (q++".<locals>."++"<lambda>")
theorem gF.at{G:Gx}{c T:Addr}{p:Pos}{q:Str}(h:gF G c T p q){e:Fz}(l:Le G.ex e):gF { G with ex:=e } c T p q:=⟨h.cd,h.bi,h.Ul,l _ _ h.tab⟩
theorem Lw.at{w:Wo}(O:Lw w){e:Fz}(l:Le w.G.ex e):Lw (w.at e):=
  { O with ok := O.ok.at e
           T2:=λf fd q h1 h2=>let ⟨c,T,h3,h4⟩:=O.T2 f fd q h1 h2;⟨c,T,h3,gF.at h4 l⟩ }
variable{w:Wo}
def pz(c:Addr)(a m:Int):MO:=.lst [.ref c,.int a,.int m]
structure Dk(M:Mp)(p c:Addr):Prop where
 p:∃a m,M p=some (pz c a m)
 c:∃xs:List Int,M c=some (.lst (xs.map D.int))/\0<xs.length/\xs.length<=64
theorem Dk.ne{M:Mp}{p c:Addr}(h:Dk M p c):p≠c:=by
 rintro rfl;obtain⟨⟨a,m,h1⟩,xs,h2,h3,_⟩:=h;rw[h1]at h2;cases xs with
 |nil=>exact absurd h3 (Yh _)
 |cons x r=>cases h2
structure Dx(M:Mp)(p c:Addr)(X:Mp):Prop where
 k:Dk X p c
 bf:∀b,b≠p->b≠c->X b=M b
theorem Dx.rfl{M:Mp}{p c:Addr}(h:Dk M p c):Dx M p c M:=⟨h,λ_ _ _=>Eq.refl _⟩
theorem Dx.tr{M X Y:Mp}{p c:Addr}(h:Dx M p c X)(g:Dx X p c Y):Dx M p c Y:=⟨g.k,λb h1 h2=>(g.bf b h1 h2).trans (h.bf b h1 h2)⟩
def fT:Sp:=λds M Q _=>∃p c n,ds=[.ref p,.int n]/\Dk M p c/\0<n/\n<2 ^ 200/\∀r X,Dx M p c X->0<=r->r<n->Q (.int r) X
def K3:B:=.cons (.ret (.op .Mod (.v 3) (.v 1))) .nil
def K4:B:=.cons (.put (.ix (.v 0) (.c (.int 0))) (.v 2) (.op .FloorDiv (.v 3) (.v 1))) K3
def K5:B:=.cons (.set (.one 3) (.ix (.ix (.v 0) (.c (.int 0))) (.v 2))) K4
def K6:B:=.cons (.put (.v 0) (.c (.int 1)) (.op .Add (.ix (.v 0) (.c (.int 1))) (.c (.int 1)))) K5
def K7:B:=.cons (.set (.one 2) (.op .Mod (.ix (.v 0) (.c (.int 1))) (.bi .len (.cons (.ix (.v 0) (.c (.int 0))) .nil)))) K6
theorem K8:aJ ["deck","many","at","cell"] ["deck","many"] (ah (top 33)):=⟨rfl,rfl,rfl,by decide +kernel,rfl,by decide +kernel,by decide +kernel⟩
theorem K9:aO nm 40 ["deck","many","at","cell"] (ah (top 33)) (aD (top 33))=K7:=by kernel_rfl
def K':B:=.cons (.ret (.lst (.cons (.v 2) (.cons (.c (.int 0)) (.cons (.v 1) .nil))))) .nil
def Bj:B:=.cons (.cond (.cmp .Eq (.op .Mod (.bi .sum (.cons (.sl (.v 0) .ao (.c (.int 63))) .nil)) (.c (.int 2))) (.c (.int 1))) (.cons (.loop (.one 3) (.j7 (.bi .len (.cons (.v 2) .nil))) (.cons (.set (.one 4) (.op .Mod (.op .Mult (.op .Add (.op .Add (.op .Mod (.ix (.v 2) (.v 3)) (.c (.int 2147483587))) (.op .Mult (.c (.int 977)) (.v 3))) (.c (.int 5))) (.c (.int 48271))) (.c (.int 2147483629)))) (.cons (.set (.one 4) (.op .Mod (.op .Mult (.op .Mod (.op .Add (.op .Mult (.v 4) (.v 4)) (.op .Mult (.c (.int 31)) (.v 3))) (.c (.int 2147483563))) (.c (.int 16807))) (.c (.int 2147483549)))) (.cons (.put (.v 2) (.v 3) (.op .Add (.op .Mult (.op .Mult (.v 4) (.v 4)) (.c (.int 2147483543))) (.op .Mod (.op .Mult (.v 4) (.c (.int 69621))) (.c (.int 2147483579))))) .nil)))) .nil) .nil) K'
def La:B:=.cons (.set (.one 2) (.op .Add (.sl (.v 0) .ao (.c (.int 63))) (.lst (.cons (.bi .len (.cons (.v 0) .nil)) .nil)))) Bj
theorem Lb:aJ ["script","most","cells","k","mixed"] ["script","most"] (ah (top 32)):=⟨rfl,rfl,rfl,by decide +kernel,rfl,by decide +kernel,by decide +kernel⟩
theorem Lc:aO nm 40 ["script","most","cells","k","mixed"] (ah (top 32)) (aD (top 32))=La:=by kernel_rfl
theorem gM(O:Lw w):FO w 19 1 fT:=by
 refine a8 O.ok O.hn _ ⟨"_law_take",top 33,["deck","many"]⟩ (by rw[O.hd];rfl) {} { cs:=trivial } K8 K9 λds M Q _ h=>?_;obtain⟨p,c,n,rfl,k,h0,h1,h⟩:=h;have ne:=k.ne;obtain⟨⟨a,m,hp⟩,xs,hc,l0,l1⟩:=k;refine⟨rfl,.inl ⟨_,hp,_,rfl,.inl ⟨_,hp,_,rfl,.inl ⟨_,hc,by rw[WQ];lia,?_⟩⟩⟩⟩;refine .inl ⟨_,hp,_,rfl,.inl ⟨_,hp,_,rfl,?_⟩⟩;have hc':up M p (.lst (([.ref c,.int a,.int m]:List D).set 1 (.int (a+1)))) c=some (.lst (xs.map D.int)):=by rw[aj (XC ne)];exact hc
 have hl:((xs.map D.int).length:Int)=xs.length:=by rw[WQ]
 have e0:=Int.emod_nonneg a (b:=xs.length) (by lia);have e1:=Int.emod_lt_of_pos a (b:=xs.length) (by lia);have ix:∃i,i<xs.length/\ei (xs.map D.int).length (a % ((xs.map D.int).length:Int))=some i:=by
  rw[hl];obtain⟨i,hi⟩:=Int.eq_ofNat_of_zero_le e0;rw[hi]at e1 ⊢;refine⟨i,by lia,?_⟩;unfold ei;rw[if_pos (by lia),if_pos (by rw[WQ];lia),X8]
 obtain⟨i,cu,Bl⟩:=ix;have bf:bq (xs.map D.int) (a % ((xs.map D.int).length:Int))=some (.int xs[i]):=by
  unfold bq;rw[Bl];show (xs.map D.int)[i]?=_;rw[W8,WW cu];rfl
 refine .inl ⟨_,ak,_,rfl,.inl ⟨_,hc',_,bf,?_⟩⟩;refine⟨⟨h0,h1⟩,.inl ⟨_,ak,_,rfl,.inl ⟨_,hc',i,Bl,h0,?_⟩⟩⟩
 ·refine aw (h _ _ ⟨⟨⟨a+1,m,?_⟩,xs.set i (xs[i] / n),?_,by rw[YW];exact l0,by rw[YW];exact l1⟩,λb b1 b2=>?_⟩ (Int.emod_nonneg _ (by lia)) (Int.emod_lt_of_pos _ h0))
  ·rw[aj ne,ak];rfl
  ·rw[ak,List.map_set]
  ·rw[aj b2,aj b1]
variable{w:Wo}
theorem Ld{i:Nat}(h:i<26):(!(Yb bT (bB i) 0 bT.length 1).isEmpty)=true:=(by decide +kernel:∀i<26,(!(Yb bT (bB i) 0 bT.length 1).isEmpty)=true) i h
theorem Lf{i:Nat}(h:i<26){M:Mp}{k:Bool->Prop}(q:k true):dw (.str (bB i)) (.str bT) M k:=⟨by
 show k (!(Yb bT (bB i) 0 bT.length 1).isEmpty);rw[Ld h];exact q⟩
theorem Lg{i:Nat}(h:i<26):∃r,Yb bT (bB i) 0 bT.length 1=i::r:=by
 have k:∀i<26,(Yb bT (bB i) 0 bT.length 1).head?=some i:=by decide +kernel
 have:=k i h;cases e:Yb bT (bB i) 0 bT.length 1 with
 |nil=>rw[e]at this;cases this
 |cons a r=>rw[e]at this;cases this;exact⟨r,rfl⟩
def Lt(x:Str):Prop:=∃is:List Nat,x=⟨(is.map (97 + ·)).toArray⟩/\(∀i∈is,i<26)/\0<is.length/\is.length<=2
theorem Lh{x:Str}(h:x∈sq):Lt x:=by
 unfold sq at h;rcases List.mem_append.mp h with h |h
 ·obtain⟨i,hi,rfl⟩:=List.mem_map.mp h;exact⟨[i],rfl,λj hj=>by rw[List.mem_singleton.mp hj];exact List.mem_range.mp hi,Nat.succ_pos _,by simp⟩
 ·obtain⟨i,hi,h⟩:=List.mem_flatMap.mp h;obtain⟨j,hj,rfl⟩:=List.mem_map.mp h;refine⟨[i,j],rfl,λk hk=>?_,Nat.succ_pos _,by simp⟩;simp only[Xk,Xd,or_false]at hk;rcases hk with rfl |rfl
  ·exact List.mem_range.mp hi
  ·exact List.mem_range.mp hj
noncomputable def Li:B:=(.cons (.ret (.bi .all (.cons (.lc 1 [1] (.one 0) (.seq (.v 0)) .ao (.cmp .In (.v 0) (.v 1))) .nil))) .nil)
theorem Lj:aJ ["text","signs"] ["text","signs"] (ah (top 4)):=⟨rfl,rfl,rfl,by decide +kernel,rfl,by decide +kernel,by decide +kernel⟩
theorem Lk:aO nm 40 ["text","signs"] (ah (top 4)) (aD (top 4))=Li:=by kernel_rfl
def Bm:Sp:=λds M Q _=>∃x,ds=[.str x,.str bT]/\Lt x/\Q (.bl true) M
theorem Ll(O:Lw w):FO w 0 1 Bm:=by
 refine a8 O.ok O.hn _ ⟨"only_of",top 4,["text","signs"]⟩ (by rw[O.hd];rfl) {} { cs:=trivial } Lj Lk λds M Q _ h=>?_;obtain⟨x,rfl,⟨is,rfl,hi,l0,l2⟩,h⟩:=h;refine⟨rfl,?_⟩;show (({ cps:=(is.map (97 + ·)).toArray }:Str).cps.all (·<128)=true)/\_;refine⟨?_,?_⟩
 ·rw[Array.all_eq_true'];intro a ha;simp only[List.mem_toArray,List.mem_map]at ha;obtain⟨i,h1,rfl⟩:=ha;have:=hi i h1;exact decide_eq_true (by lia)
 have e:eO (⟨(is.map (97 + ·)).toArray⟩:Str)=is.map λi=>D.str (bB i):=by
  unfold eO bB;rw[X7];rfl
 show cb (λ_=>True) (.one 0) gz _ _ _ (eO _) [] M;rw[e];refine dU (λxs ys M'=>M'=M/\∃a b,is=a++b/\xs=b.map (λi=>D.str (bB i))/\ys=a.map λ_=>D.bl true) ?_ ?_ _ _ _ ⟨rfl,[],is,rfl,rfl,rfl⟩
 ·rintro ys M' ⟨rfl,a,b,e1,e2,rfl⟩;cases b with
  |cons _ _=>cases e2
  |nil=>
   rw[Xc]at e1;subst e1;refine⟨trivial,W6 (by rw[WQ];exact l2) (by decide),.inl ⟨is.map λ_=>true,by rw[X7];rfl,?_⟩⟩;have:(is.map λ_=>true).all _root_.id=true:=(by simp);show bA Q (.bl ((is.map λ_=>true).all _root_.id)) M';rw[this];exact aw h
 ·rintro x xs ys M' ⟨rfl,a,b,e1,e2,rfl⟩;cases b with
  |nil=>cases e2
  |cons i b=>
   cases e2;refine⟨trivial,W6 (by rw[WQ];rw[e1]at l2;simp at l2;lia:_<=2) (by decide),λN hN=>Lf (hi i (by rw[e1];simp)) (hN _ _ ⟨rfl,a++[i],b,by rw[e1];simp,rfl,by simp⟩)⟩
noncomputable def Lm:B:=(.cons (.ret (.and (.ch .LtE .LtE (.c (.int 1)) (.bi .len (.cons (.v 0) .nil)) (.g 1)) (.and (.call 0 (.cons (.v 0) (.cons (.g 0) .nil))) (.cmp .NotIn (.v 0) (.g 2))))) .nil)
theorem Ln:aJ ["text"] ["text"] (ah (top 5)):=⟨rfl,rfl,rfl,by decide +kernel,rfl,by decide +kernel,by decide +kernel⟩
theorem Lo:aO nm 40 ["text"] (ah (top 5)) (aD (top 5))=Lm:=by kernel_rfl
theorem Lq:(sq.all λx=>decide (a3 (.str x) (mx.map D.str)=!gd x))=true:=by decide +kernel
def Bn:Sp:=λds M Q _=>∃x,ds=[.str x]/\x∈sq/\Q (.bl (gd x)) M
theorem Lr(O:Lw w):FO w 1 2 Bn:=by
 refine a8 O.ok O.hn _ ⟨"is_name",top 5,["text"]⟩ (by rw[O.hd];rfl) { cs:=[(0,Bm)] } { cs:=⟨⟨1,WU _,Ll O⟩,trivial⟩ } Ln Lo λds M Q _ h=>?_;obtain⟨x,rfl,hx,h⟩:=h;have lt:=Lh hx;have tk:=of_decide_eq_true (List.all_eq_true.mp Lq x hx);obtain⟨is,rfl,hi,l0,l2⟩:=id lt;have ln:({ cps:=(is.map (97 + ·)).toArray }:Str).length=is.length:=by
  show ((is.map (97 + ·)).toArray).size=_;simp
 refine⟨rfl,?_,?_⟩
 ·rw[ln];exact W2 l2 (by decide)
 have e1:decide ((1:Int)<=(({ cps:=(is.map (97 + ·)).toArray }:Str).length:Int))=true:=by rw[ln];exact decide_eq_true (by lia)
 show (if decide ((1:Int)<=(({ cps:=(is.map (97 + ·)).toArray }:Str).length:Int))=true then _ else _)
 rw[if_pos e1];show bI (w.gv.getD 1 .ai) _;rw[O.UU];have e2:decide ((({ cps:=(is.map (97 + ·)).toArray }:Str).length:Int)<=8)=true:=by rw[ln];exact decide_eq_true (by lia)
 show (if decide ((({ cps:=(is.map (97 + ·)).toArray }:Str).length:Int)<=8)=true then _ else _)
 rw[if_pos e2];refine⟨_,?_,lt,?_⟩
 ·show [D.str _,w.gv.getD 0 .ai]=_;rw[O.gl]
 show dw _ (w.gv.getD 2 .ai) M _;rw[O.gt];refine⟨⟨rfl,by decide +kernel,by decide +kernel,?_⟩⟩;rw[tk];show bA Q (.bl (!!gd _)) M;rw[Bool.not_not];exact aw h
inductive Nx:Str->Str->Prop
 |e:Nx "" "a"
 |o {i}:i+1<26->Nx (bB i) (bB (i+1))
 |UW:Nx (bB 25) (ff 0 0)
 |t {i j}:i<26->j+1<26->Nx (ff i j) (ff i (j+1))
 |tz {i}:i+1<26->Nx (ff i 25) (ff (i+1) 0)
inductive pB:Str->Str->Prop
 |e:pB "" "a"
 |o {i}:i+1<26->pB (bB i) (bB (i+1))
noncomputable def Ls:B:=.cons (.ret (.op .Add (.sl (.v 0) .ao (.neg (.c (.int 1)))) (.ix (.g 0) (.v 1)))) .nil
noncomputable def pC:B:=.cons (.cond (.cmp .Eq (.v 1) (.bi .len (.cons (.g 0) .nil))) (.cons (.ret (.op .Add (.call 3 (.cons (.sl (.v 0) .ao (.neg (.c (.int 1)))) .nil)) (.c (.str "a")))) .nil) .nil) Ls
noncomputable def Lu:B:=.cons (.set (.one 1) (.op .Add (.mt .j5 (.g 0) (.cons (.ix (.v 0) (.neg (.c (.int 1)))) .nil)) (.c (.int 1)))) pC
noncomputable def Bo:B:=.cons (.cond (.cmp .Eq (.v 0) (.c (.str ""))) (.cons (.ret (.c (.str "a"))) .nil) .nil) Lu
theorem Bp:aJ ["text","last"] ["text"] (ah (top 7)):=⟨rfl,rfl,rfl,by decide +kernel,rfl,by decide +kernel,by decide +kernel⟩
theorem Bq:aO nm 40 ["text","last"] (ah (top 7)) (aD (top 7))=Bo:=by kernel_rfl
def pD(R:Str->Str->Prop):Sp:=λds M Q _=>∃x y,ds=[.str x]/\R x y/\Q (.str y) M
theorem uv{i:Nat}:Txt.slice (bB i) none (some (-1))="":=by
 show Str.mk _=Str.mk _;rfl
theorem Br{i j:Nat}(h:i<26)(g:j<26):Txt.slice (ff i j) none (some (-1))=bB i:=(by decide +kernel:∀i<26,∀j<26,Txt.slice (ff i j) none (some (-1))=bB i) i h j g
theorem Lv{i:Nat}(h:i<26):∃c,bq bT.cps.toList (i:Int)=some c/\(⟨#[c]⟩:Str)=bB i:=by
 have k:∀i:Nat,i<26->bq bT.cps.toList (i:Int)=some (97+i):=by decide +kernel
 exact⟨_,k i h,rfl⟩
noncomputable abbrev To(R:Str->Str->Prop):a5 w:={ cs:=[(3,pD R)] }
theorem my(O:Lw w){R:Str->Str->Prop}{x y z:Str}{i:Nat}{M:Mp}{Q:QK}(hi:i<26)(n0:decide (x="")=false)(hl:x.length<=2)(ha:bq x.cps.toList (-1)=some (97+i))(hc:Txt.slice x none (some (-1))=z)(hz:z.length<=1)
  (h:(i+1<26/\y=z++bB (i+1))\/(i=25/\∃u,R z u/\y=u++"a"/\u.length<=2)) (q:Q (.str y) M):B.w (To (w:=w) R).wd nm.af Bo (aB Q) [some (.str x),none] M:=by
 refine aT ?_;rw[n0];refine ax (by decide) ?_;have key:oz (w.gv.getD 0 .ai) [.str (bB i)] M λd M1=>qU .Add d (.int 1) M1 λd2 M2=>B.w (To (w:=w) R).wd nm.af pC (aB Q) [some (.str x),some d2] M2:=by
  rw[O.gl];obtain⟨r,hr⟩:=Lg hi;refine⟨i,r,hr,?_⟩;have Lx:(bT.length:Int)=26:=by decide +kernel
  have VP:yb (w.gv.getD 0 .ai) M λn=>gn false (.int ((i:Int)+1)) (.int n) M λb=>if b=true then B.w (To (w:=w) R).wd nm.af (ko (a6 pC)) (aB Q) [some (.str x),some (.int ((i:Int)+1))] M else B.w (To (w:=w) R).wd nm.af (ik pC) (aB Q) [some (.str x),some (.int ((i:Int)+1))] M:=by
   rw[O.gl];refine⟨by decide +kernel,cg ?_⟩;rw[Lx];rcases h with ⟨h1,rfl⟩ |⟨rfl,u,hu,rfl,lu⟩
   ·have:decide ((i:Int)+1=26)=false:=decide_eq_false (by lia);rw[this,if_neg Xi];refine⟨W2 hl (by decide),?_⟩;rw[hc];have k2:aC (w.gv.getD 0 .ai) (.int ((i:Int)+1)) M λd M1=>lg (.str z) d M1 (bA Q):=by
     rw[O.gl];obtain⟨c,h2,h3⟩:=Lv h1;refine⟨by decide +kernel,c,by rw[<- h2];rfl,?_⟩;rw[h3];exact⟨W2 (Nat.add_le_add hz (WU 1)) (by decide),aw q⟩
    exact k2
   ·have:decide (((25:Nat):Int)+1=26)=true:=(by decide);rw[this,if_pos rfl];refine⟨W2 hl (by decide),?_⟩;rw[hc];exact⟨z,u,rfl,hu,W2 (Nat.add_le_add lu (WU 1)) (by decide),aw q⟩
  exact VP
 have hx:rH "str" (w.gv.getD 0 .ai) M:=by rw[O.gl];rfl
 exact⟨hx,W2 hl (by decide),_,ha,key⟩
theorem mz{x:Str}(h:x.length≠0):decide (x="")=false:=decide_eq_false λe=>h (by rw[e];decide +kernel)
theorem pE:1<=2:=by decide
theorem Ly(O:Lw w):FO w 3 1 (pD pB):=by
 refine a8 O.ok O.hn _ ⟨"text_behind",top 7,["text"]⟩ (by rw[O.hd];rfl) (To λ_ _=>False) { cs:=⟨⟨0,W9 _,FO.imp (oJ O.ok (by rw[O.hd];rfl) (cs:=[]) trivial) λds M Q E ⟨_,_,_,z,_⟩=>z.elim⟩,trivial⟩ } Bp Bq λds M Q _ h=>?_;obtain⟨x,y,rfl,hn,h⟩:=h;refine⟨rfl,?_⟩;cases hn with
 |e=>exact aT (aP (by decide) (aw h))
 |@o i hi=>exact my O (i:=i) (z:="") (by lia) (mz Nat.one_ne_zero) pE (by rfl) uv (by decide +kernel) (.inl ⟨hi,rfl⟩) h
theorem Lz(O:Lw w):FO w 3 2 (pD Nx):=by
 refine a8 O.ok O.hn _ ⟨"text_behind",top 7,["text"]⟩ (by rw[O.hd];rfl) (To pB) { cs:=⟨⟨1,WU _,Ly O⟩,trivial⟩ } Bp Bq λds M Q _ h=>?_;obtain⟨x,y,rfl,hn,h⟩:=h;refine⟨rfl,?_⟩;cases hn with
 |e=>exact aT (aP (by decide) (aw h))
 |@o i hi=>exact my O (i:=i) (z:="") (by lia) (mz Nat.one_ne_zero) pE (by rfl) uv (by decide +kernel) (.inl ⟨hi,rfl⟩) h
 |UW=>exact my O (i:=25) (z:="") (by decide) (mz Nat.one_ne_zero) pE (by rfl) uv (by decide +kernel) (.inr ⟨rfl,"a",.e,by decide +kernel,by decide +kernel⟩) h
 |@t i j hi hj=>exact my O (i:=j) (z:=bB i) (by lia) (mz (Nat.succ_ne_zero 1)) (WU 2) (by rfl) (Br hi (by lia)) (WU 1) (.inl ⟨hj,rfl⟩) h
 |@tz i hi=>exact my O (i:=25) (z:=bB i) (by decide) (mz (Nat.succ_ne_zero 1)) (WU 2) (by rfl) (Br (by lia) (by decide)) (WU 1) (.inr ⟨rfl,_,.o hi,by show ff (i+1) 0=bB (i+1)++("a" : Str);rw[show ("a" : Str)=bB 0 by decide +kernel];rfl,pE⟩) h
theorem pF{i:Nat}(h:i<26):sq[i]?=some (bB i):=(by decide +kernel:∀i<26,sq[i]?=some (bB i)) i h
theorem mB{a b:Nat}(h:a<26)(g:b<26):sq[26+26 * a+b]?=some (ff a b):=(by decide +kernel:∀a<26,∀b<26,sq[26+26 * a+b]?=some (ff a b)) a h b g
theorem LA{i:Nat}(h:i+1<702):∃x y,sq[i]?=some x/\sq[i+1]?=some y/\Nx x y:=by
 by_cases h1:i<25
 ·exact⟨_,_,pF (by lia),pF (by lia),.o (by lia)⟩
 by_cases h2:i=25
 ·subst h2;exact⟨_,_,pF (by decide),mB (a:=0) (b:=0) (by decide) (by decide),.UW⟩
 obtain⟨a,b,ha,hb,rfl⟩:∃a b,a<26/\b<26/\i=26+26 * a+b:=⟨(i-26) / 26,(i-26) % 26,by lia,by lia,by lia⟩;by_cases h3:b+1<26
 ·exact⟨_,_,mB ha hb,mB (a:=a) (b:=b+1) ha h3,.t ha h3⟩
 ·have fI:b=25:=by lia
  subst fI;have:=mB (a:=a+1) (b:=0) (by lia) (by decide);rw[show 26+26 * (a+1)+0=26+26 * a+25+1 by lia]at this;exact⟨_,_,mB ha (by decide),this,.tz (by lia)⟩
structure Sm(T:Tn):Prop where
 l:∃L:List Str,(∀x∈T,x∈L)/\L.length<700
noncomputable def mC:B:=.cons (.ret (.v 1)) .nil
noncomputable def iw:B:=.cons (.fK (.or (.cmp .In (.v 1) (.v 0)) (.not (.call 1 (.cons (.v 1) .nil)))) (.cons (.set (.one 1) (.call 3 (.cons (.v 1) .nil))) .nil)) mC
noncomputable def LB:B:=.cons (.set (.one 1) (.c (.str "a"))) iw
theorem LC:aJ ["taken","name"] ["taken"] (ah (top 6)):=⟨rfl,rfl,rfl,by decide +kernel,rfl,by decide +kernel,by decide +kernel⟩
theorem LD:aO nm 40 ["taken","name"] (ah (top 6)) (aD (top 6))=LB:=by kernel_rfl
def uw:Sp:=λds M Q _=>∃t kvs T,ds=[.ref t]/\M t=some (.ag kvs)/\(∀x:Str,(aK kvs (.inr x)).isSome=decide (x∈T))/\Sm T/\Q (.str (fr T)) M
theorem pG{a:Addr}{kvs:List (Key×D)}{x:Str}{M:Mp}{k:Bool->Prop}{b:Bool}(h:M a=some (.ag kvs))(e:(aK kvs (.inr x)).isSome=b)(q:k b):dw (.str x) (.ref a) M k:=⟨.inl ⟨_,h,by subst e;exact q⟩⟩
noncomputable abbrev SK:a5 w:={ cs:=[(1,Bn),(3,pD Nx)] }
noncomputable def dH:S->E
 |.fK c _=>c
 |_=>.ao
noncomputable def ck:S->B
 |.fK _ b=>b
 |_=>.nil
theorem LF(O:Lw w):FO w 2 3 uw:=by
 refine a8 O.ok O.hn _ ⟨"new_name",top 6,["taken"]⟩ (by rw[O.hd];rfl) SK { cs:=⟨⟨2,WU _,Lr O⟩,⟨2,WU _,Lz O⟩,trivial⟩ } LC LD λds M Q _ h=>?_;obtain⟨t,kvs,T,rfl,hM,hT,⟨L,h1,h2⟩,h⟩:=h;obtain⟨j,hj,g,lt⟩:=Be h1 h2;have VQ:j<702:=by have:=(List.getElem?_eq_some_iff.mp hj).1;rw[uo]at this;exact this
 refine⟨rfl,j+1,?_⟩;have key:∀n i x,n=j-i->i<=j->sq[i]?=some x->b8 (E.w (SK (w:=w)).wd nm.af (dH (a6 iw))).2 (B.w (SK (w:=w)).wd nm.af (ck (a6 iw))) { nx:=fun τ M=>B.w (SK (w:=w)).wd nm.af mC (aB Q) τ M,rt:=(aB Q).rt } (n+1) [some (.ref t),some (.str x)] M:=by
  intro n
  induction n with
  |zero=>
   intro i x hn hi hx;have:i=j:=(by lia);subst this;rw[hj]at hx;cases hx;refine pG hM ((hT _).trans (decide_eq_false (pq T))) ?_;refine ax (by decide) ⟨_,rfl,Xw hj,?_⟩;rw[g];exact aw h
  |succ n ih=>
   intro i x hn hi hx;have LG:i<j:=(by lia);obtain⟨x',y,e1,e2,nx⟩:=LA (i:=i) (by lia);rw[hx]at e1;cases e1;have go:B.w (SK (w:=w)).wd nm.af (ck (a6 iw)) { nx:=b8 (E.w (SK (w:=w)).wd nm.af (dH (a6 iw))).2 (B.w (SK (w:=w)).wd nm.af (ck (a6 iw))) { nx:=fun τ M=>B.w (SK (w:=w)).wd nm.af mC (aB Q) τ M,rt:=(aB Q).rt } (n+1),rt:=(aB Q).rt,ct:=b8 (E.w (SK (w:=w)).wd nm.af (dH (a6 iw))).2 (B.w (SK (w:=w)).wd nm.af (ck (a6 iw))) { nx:=fun τ M=>B.w (SK (w:=w)).wd nm.af mC (aB Q) τ M,rt:=(aB Q).rt } (n+1),SD:=fun τ M=>B.w (SK (w:=w)).wd nm.af mC (aB Q) τ M } [some (.ref t),some (.str x)] M:=
    ⟨x,y,rfl,nx,ih (i+1) y (by lia) (by lia) e2⟩
   by_cases ux:x∈T
   ·refine pG hM ((hT _).trans (decide_eq_true ux)) ?_;exact go
   ·refine pG hM ((hT _).trans (decide_eq_false ux)) ?_;have Tc:gd x=false:=by
     have:=lt i x LG hx;rw[decide_eq_true ux,Bool.and_true]at this;exact this
    refine ax (by decide) ⟨_,rfl,Xw hx,?_⟩;rw[Tc];exact go
 exact key j 0 _ (by lia) (W9 _) (pF (by decide))
variable{w:Wo}
theorem Lw.Tz(O:Lw w):w.fl (w.ca 0) "waiting":=O.f0 _ (by simp)
theorem Lw.T3(O:Lw w):w.fl (w.ca 0) "found":=O.f0 _ (by simp)
theorem Lw.mc(O:Lw w)(i:Nat)(h:i<=4):w.mc i=w.ca 0:=O.m0 i h
theorem LH(O:Lw w){s:Str}{b:Bool}{M:Mp}{k:Bool->Prop}(hb:a3 (.str s) (gL.map D.str)=b)(h:k b):dw (.str s) (w.gv.getD 3 .ai) M k:=by
 rw[O.g0];refine⟨⟨rfl,by decide +kernel,by decide +kernel,?_⟩⟩;rw[hb];exact h
noncomputable def hw:Hd->Str
 |.var _=>"var"
 |.bd f _=>bw f
 |.row _=>"row"
 |.o w _=>w
noncomputable def hx:Hd->List D
 |.var x=>[.str x]
 |.bd _ x=>[.str x]
 |.row _=>[]
 |.o _ ds=>ds
theorem iy{h:Hd}{cs:List Rt}(k:Hk h cs.length)(n:∀fs,h≠.row fs):rD (.nd h cs)=.tup (.str (hw h)::(hx h++cs.map rD)):=by
 rw[rD,ip];cases h with
 |var x=>
  have:cs=[]:=List.length_eq_zero_iff.mp k;subst this;rfl
 |bd f x=>rfl
 |row fs=>exact absurd rfl (n fs)
 |o w ds=>rfl
theorem fU{fs:List Str}{cs:List Rt}:rD (.nd (.row fs) cs)=.tup [.str "row",.tup (Xy (λf c=>D.tup [.str f,rD c]) fs cs)]:=by
 rw[rD,ip,hD,List.zipWith_map_right]
theorem pH{h:Hd}{m:Nat}(k:Hk h m)(n:∀fs,h≠.row fs):∃b,a3 (.str (hw h)) (gL.map D.str)=b/\(hx h).length=(if b=true then 1 else 0)/\decide (hw h="row")=false:=by
 cases h with
 |var x=>exact⟨true,(by decide +kernel:a3 (.str "var") (gL.map D.str)=true),rfl,(by decide +kernel:decide (("var" : Str)="row")=false)⟩
 |bd f x=>
  have e1:∀f,a3 (.str (bw f)) (gL.map D.str)=true:=by decide +kernel
  have e2:∀f,decide (bw f="row")=false:=by decide +kernel
  exact⟨true,e1 f,rfl,e2 f⟩
 |row fs=>exact absurd rfl (n fs)
 |o w ds=>
  have key:∀W:List Str,∀b,(W.all λw=>decide (a3 (.str w) (gL.map D.str)=b) && decide ((decide (w="row"))=false))=true->w∈W->a3 (.str w) (gL.map D.str)=b/\decide (w="row")=false:=λW b h hw=>by
   have:=List.all_eq_true.mp h w hw;rw[WT]at this;exact⟨of_decide_eq_true this.1,of_decide_eq_true this.2⟩
  rcases k.2 with ⟨h1,h2,_⟩ |⟨h1,h2,_⟩ |⟨h1,h2,_⟩
  ·obtain⟨e1,e2⟩:=key fS true (by decide +kernel) h1;exact⟨true,e1,h2,e2⟩
  ·obtain⟨e1,e2⟩:=key fe true (by decide +kernel) h1;exact⟨true,e1,h2,e2⟩
  ·obtain⟨e1,e2⟩:=key dm false (by decide +kernel) h1;exact⟨false,e1,by rw[h2];rfl,e2⟩
theorem mD(h:Hd):(∃fs,h=.row fs)\/∀fs,h≠.row fs:=by
 cases h <;> first |exact .inl ⟨_,rfl⟩ |exact .inr λ_ e=>nomatch e
noncomputable def LI:B:=(.cons (.cond (.cmp .Eq (.ix (.v 0) (.c (.int 0))) (.c (.str "row"))) (.cons (.ret (.bi .tuple (.cons (.lc 2 [] (.many [0,1]) (.seq (.ix (.v 0) (.c (.int 1)))) .ao (.v 1)) .nil))) .nil) .nil) (.cons (.ret (.ite (.cmp .In (.ix (.v 0) (.c (.int 0))) (.g 3)) (.sl (.v 0) (.c (.int 2)) .ao) (.sl (.v 0) (.c (.int 1)) .ao))) .nil))
theorem LJ:aJ ["question"] ["question"] (ah (top 12)):=⟨rfl,rfl,rfl,by decide +kernel,rfl,by decide +kernel,by decide +kernel⟩
theorem LL:aO nm 40 ["question"] (ah (top 12)) (aD (top 12))=LI:=by kernel_rfl
def pI:Sp:=λds M Q _=>∃h cs,ds=[rD (.nd h cs)]/\Hk h cs.length/\Q (.tup (cs.map rD)) M
theorem LN{xs:List D}{k:Nat}(h:k<=xs.length):bz xs (some (k:Int)) none=xs.drop k:=by
 unfold bz;rw[HT.qP,HT.nL,Nat.min_eq_left h,List.take_of_length_le (by rw[Zd];exact WU _)]
theorem uy{as bs:List D}{k:Nat}(h:as.length=k):bz (as++bs) (some (k:Int)) none=bs:=by
 rw[LN (by rw[W3];lia),List.drop_append_of_le_length (by lia),Y2 (by lia),List.nil_append]
theorem LO{as bs:List D}(h:0<bs.length):bz (as++bs) none (some (-(bs.length:Int)))=as:=by
 unfold bz;have e:HT.aC (as++bs).length (as++bs).length (some (-(bs.length:Int)))=as.length:=by
  show (if -(bs.length:Int)<0 then (-(bs.length:Int)+((as++bs).length:Int)).toNat else _)=_
  rw[if_pos (by lia),W3];lia
 rw[e,HT.nL,List.drop_zero,Nat.sub_zero,List.take_left]
theorem nV{as bs:List D}:bz (as++bs) none (some (as.length:Int))=as:=by
 unfold bz;rw[HT.qP,HT.nL,List.drop_zero,Nat.sub_zero,Nat.min_eq_left (by rw[W3];lia),List.take_left]
theorem uz:∀{fs:List Str}{cs:List Rt},fs.length=cs.length->(fs.zip cs).map (λp=>rD p.2)=cs.map rD
 |[],[],_=>rfl
 |_::fs,c::cs,h=>by rw[Yi,W0,W0,uz (by simpa using h)]
theorem pJ(O:Lw w):FO w 5 1 pI:=by
 refine a8 O.ok O.hn _ ⟨"under",top 12,["question"]⟩ (by rw[O.hd];rfl) {} { cs:=trivial } LJ LL λds M Q _ h=>?_;obtain⟨h,cs,rfl,k,hq⟩:=h;rcases mD h with ⟨fs,rfl⟩ |hn
 ·rw[fU];refine⟨rfl,_,rfl,aT (aP (by decide) ⟨_,rfl,?_⟩)⟩;show cb (λ_=>True) (.many [0,1]) gz _ _ _ (Xy (λf c=>D.tup [.str f,rD c]) fs cs) [] M;have e:Xy (λf c=>D.tup [.str f,rD c]) fs cs=(fs.zip cs).map λp=>D.tup [.str p.1,rD p.2]:=by
   rw[List.zip,List.map_zipWith]
  rw[e];refine mf (λp:Str×Rt=>.tup [.str p.1,rD p.2]) (λp=>rD p.2) (fs.zip cs) ?_ (W6 (by rw[Yu];exact Nat.min_le_right ..) (Xz k.2 (by decide))) (λp _ N hN=>?_) ?_
  ·exact trivial
  ·exact⟨rfl,hN⟩
  ·refine .inl (aw ?_);rw[uz k.1];exact hq
 ·obtain⟨b,hb,hl,h0⟩:=pH k hn;rw[iy k hn];refine⟨rfl,_,cW,aT ?_⟩;rw[h0];refine ax (by decide) ⟨_,cW,LH O hb ?_⟩;cases b with
  |true=>
   refine aP rfl (aw ?_);show Q (.tup (bz ((.str (hw h)::hx h)++cs.map rD) (some ((2:Nat):Int)) none)) M;rw[uy (by rw[Xe,hl];rfl)];exact hq
  |false=>
   refine ax (by decide) (aw ?_);show Q (.tup (bz ((.str (hw h)::hx h)++cs.map rD) (some ((1:Nat):Int)) none)) M;rw[uy (by rw[Xe,hl];rfl)];exact hq
theorem jh{M:Mp}{p:Addr}{o:MO}(h:M p=some o):up M p o=M:=funext λb=>by
 by_cases e:b=p
 ·rw[e,ak,h]
 ·rw[aj e]
noncomputable def LP:B:=(.cons (.ex (.mt .append (.fld (.v 0) "waiting") (.cons (.tup (.cons (.v 1) (.cons (.v 2) (.cons (.v 3) .nil)))) .nil))) .nil)
theorem LQ:aJ ["self","step","question","around"] ["self","step","question","around"] (ah (aN (top 17) 1)):=⟨rfl,rfl,rfl,by decide +kernel,rfl,by decide +kernel,by decide +kernel⟩
theorem LR:aO nm 40 ["self","step","question","around"] (ah (aN (top 17) 1)) (aD (aN (top 17) 1))=LP:=by kernel_rfl
noncomputable def LS:B:=(.cons (.ex (.mt .append (.fld (.v 0) "found") (.cons (.v 1) .nil))) .nil)
theorem LU:aJ ["self","result"] ["self","result"] (ah (aN (top 17) 2)):=⟨rfl,rfl,rfl,by decide +kernel,rfl,by decide +kernel,by decide +kernel⟩
theorem LV:aO nm 40 ["self","result"] (ah (aN (top 17) 2)) (aD (aN (top 17) 2))=LS:=by kernel_rfl
noncomputable def LW:B:=(.cons (.set (.one 2) (.lc 1 [0] (.one 0) (.j7 (.v 1)) .ao (.mt .pop (.fld (.v 1) "found") .nil))) (.cons (.ret (.rev (.v 2))) .nil))
theorem LX:aJ ["self","many","taken"] ["self","many"] (ah (aN (top 17) 3)):=⟨rfl,rfl,rfl,by decide +kernel,rfl,by decide +kernel,by decide +kernel⟩
theorem LY:aO nm 40 ["self","many","taken"] (ah (aN (top 17) 3)) (aD (aN (top 17) 3))=LW:=by kernel_rfl
noncomputable def LZ:B:=(.cons (.dT (.v 0) "waiting" (.lst .nil)) (.cons (.dT (.v 0) "found" (.lst .nil)) .nil))
theorem L0:aJ ["self"] ["self"] (ah (aN (top 17) 0)):=⟨rfl,rfl,rfl,by decide +kernel,rfl,by decide +kernel,by decide +kernel⟩
theorem L3:aO nm 40 ["self"] (ah (aN (top 17) 0)) (aD (aN (top 17) 0))=LZ:=by kernel_rfl
def pK(w:Wo):Sp:=λds M Q _=>∃x a b dx s q r xs,ds=[.ref x,s,q,r]/\M x=some (.ins (w.ca 0) dx [("waiting",.ref a),("found",.ref b)])/\M a=some (.lst xs)/\xs.length<sizeLine/\Q .ai (up M a (.lst (xs++[.tup [s,q,r]])))
theorem uA(O:Lw w):bZ w 1 1 (pK w):=by
 refine gD O.ok O.hn _ ⟨"later",(aN (top 17) 1),["self","step","question","around"]⟩ (by rw[O.hms];rfl) {} { cs:=trivial } LQ LR λds M Q _ h=>?_;obtain⟨x,a,b,dx,s,q,r,xs,rfl,hx,ha,hl,h⟩:=h;exact⟨rfl,_,_,_,hx,_,O.Tz,rfl,.inl ⟨rfl,_,ha⟩,l3,_,ha,hl,aw h⟩
def uB(w:Wo):Sp:=λds M Q _=>∃x a b dx d xs,ds=[.ref x,d]/\M x=some (.ins (w.ca 0) dx [("waiting",.ref a),("found",.ref b)])/\M b=some (.lst xs)/\xs.length<sizeLine/\Q .ai (up M b (.lst (xs++[d])))
theorem Bt(O:Lw w):bZ w 2 1 (uB w):=by
 refine gD O.ok O.hn _ ⟨"tell",(aN (top 17) 2),["self","result"]⟩ (by rw[O.hms];rfl) {} { cs:=trivial } LU LV λds M Q _ h=>?_;obtain⟨x,a,b,dx,d,xs,rfl,hx,hb,hl,h⟩:=h;exact⟨rfl,_,_,_,hx,_,O.T3,rfl,.inl ⟨rfl,_,hb⟩,_,hb,hl,aw h⟩
def Bu(w:Wo):Sp:=λds M Q _=>∃x a b dx n fs ks,ds=[.ref x,.int n]/\M x=some (.ins (w.ca 0) dx [("waiting",.ref a),("found",.ref b)])/\M b=some (.lst (fs++ks))/\(ks.length:Int)=n/\n<1000/\Q (.lst ks) (up M b (.lst fs))
theorem L4(O:Lw w):bZ w 3 1 (Bu w):=by
 refine gD O.ok O.hn _ ⟨"take",(aN (top 17) 3),["self","many"]⟩ (by rw[O.hms];rfl) {} { cs:=trivial } LX LY λds M Q _ h=>?_;obtain⟨x,a,b,dx,n,fs,ks,rfl,hx,hb,hn,hl,h⟩:=h;have L5:x≠b:=by rintro rfl;rw[hx]at hb;cases hb
 refine⟨rfl,Int.le_trans (by decide) (by lia:0<=n),Int.lt_trans hl (by decide),?_⟩;refine dU (λxs ys M'=>xs.length<=ks.length/\M'=up M b (.lst (fs++ks.take xs.length))/\ys=(ks.drop xs.length).reverse) ?_ ?_ _ _ _ ⟨?_,?_,?_⟩
 ·rintro ys M' ⟨_,rfl,rfl⟩;refine⟨trivial,W6 (by simp;lia:_<=1000) (by decide),.inl (.inl ?_)⟩;have e1:ks.drop ([]:List D).length=ks:=rfl;rw[e1,List.reverse_reverse];have e2:fs++ks.take ([]:List D).length=fs:=by simp
  rw[e2];exact aw h
 ·rintro d xs ys M' ⟨h1,rfl,rfl⟩;rw[Xe]at h1 ⊢;refine⟨trivial,W6 (by simp;lia:_<=1000) (by decide),λN hN=>?_⟩;have ap:xs.length<ks.length:=by lia
  refine⟨_,dx,[("waiting",.ref a),("found",.ref b)],by rw[aj L5];exact hx,.ref b,O.T3,rfl,.inl ⟨rfl,_,ak⟩,_,ak,ks[xs.length],?_,?_⟩
  ·have:(fs++ks.take (xs.length+1)).length-1=fs.length+xs.length:=(by simp;lia);rw[this,XD (by lia),Nat.add_sub_cancel_left,List.getElem?_take,if_pos (by lia),WW ap]
  ·have e1:(fs++ks.take (xs.length+1)).dropLast=fs++ks.take xs.length:=by
    rw[List.take_succ,WW ap,Option.toList_some,<- X6,Za]
   rw[e1,_root_.N.bQ];refine hN _ _ ⟨by lia,rfl,?_⟩;rw[Yk ap,YB]
 ·unfold dv;simp;lia
 ·have:(dv 0 n.toNat).length=ks.length:=by unfold dv;simp;lia
  rw[this,List.take_length,jh hb]
 ·have:(dv 0 n.toNat).length=ks.length:=by unfold dv;simp;lia
  rw[this,List.drop_length];rfl
def Bv(w:Wo):Sp:=λds M Q _=>∃x dx,ds=[.ref x]/\M x=some (.ins (w.ca 0) dx [])/\∀a b,M a=none->M b=none->a≠b->Q .ai (Wm (up M x (.ins (w.ca 0) dx [("waiting",.ref a),("found",.ref b)])) a b [] [])
theorem L6(O:Lw w):bZ w 0 1 (Bv w):=by
 refine gD O.ok O.hn _ ⟨"__init__",(aN (top 17) 0),["self"]⟩ (by rw[O.hms];rfl) {} { cs:=trivial } L0 L3 λds M Q _ h=>?_;obtain⟨x,dx,rfl,hx,h⟩:=h;refine⟨rfl,W9 _,.inr λa ha=>?_⟩;have na:x≠a:=bR hx ha;refine⟨_,dx,[],by rw[aj na];exact hx,O.Tz,by decide,W9 _,.inr λb hb=>?_⟩;have nb:x≠b:=by rintro rfl;rw[ak]at hb;cases hb
 rw[aj (XC nb)]at hb;have UX:a≠b:=by rintro rfl;rw[ak]at hb;cases hb
 rw[aj (XC UX)]at hb;refine⟨_,dx,[("waiting",.ref a)],by rw[aj nb];exact ak,O.T3,(show 1<1000 by decide),aw ?_⟩;have e:=h a b ha hb UX;have z:Wm (up M x (.ins (w.ca 0) dx [("waiting",.ref a),("found",.ref b)])) a b [] []=up (up (up (up M a (.lst [])) x (.ins (w.ca 0) dx [("waiting",.ref a)])) b (.lst [])) x (.ins (w.ca 0) dx [("waiting",.ref a),("found",.ref b)]):=by
  unfold Wm;rw[oS (p:=b) (r:=x) (XC nb),_root_.N.bQ,oS (p:=a) (r:=x) (XC na)]
 rw[z]at e;exact e
variable{w:Wo}
theorem uC{α β γ:Type}{f:α->β->γ}:∀{as:List α}{bs:List β},Xy f as bs=(as.zip bs).map λp=>f p.1 p.2
 |[],_=>by simp
 |_::_,[]=>by simp
 |a::as,b::bs=>by rw[YE,Yi,W0,uC]
theorem uD{r:List D}{k:Nat}{d:D}(h:r[k]?=some d):bq r (k:Int)=some d:=by
 have hl:=(List.getElem?_eq_some_iff.mp h).1;unfold bq ei;rw[if_pos (by lia),if_pos (by lia)];exact h
theorem L7{a b:D}{r:List D}:bq (a::b::r) 1=some b:=uD (k:=1) rfl
theorem Bw{a b c:D}{r:List D}:bq (a::b::c::r) 2=some c:=uD (k:=2) rfl
noncomputable def L8:Hd->Bool
 |.bd _ _=>true
 |_=>false
theorem L9{h:Hd}{m:Nat}(k:Hk h m):a3 (.str (hw h)) [D.str "for",D.str "let"]=L8 h:=by
 cases h with
 |bd f x=>exact (by decide +kernel:∀f,a3 (.str (bw f)) [D.str "for",D.str "let"]=true) f
 |var x=>exact (by decide +kernel:a3 (.str "var") [D.str "for",D.str "let"]=false)
 |row fs=>exact (by decide +kernel:a3 (.str "row") [D.str "for",D.str "let"]=false)
 |o w ds=>
  have key:((fS++fe++dm).all λw=>decide (a3 (.str w) [D.str "for",D.str "let"]=false))=true:=by decide +kernel
  refine of_decide_eq_true (List.all_eq_true.mp key w ?_);rcases k.2 with h |h |h
  ·exact W5 _ (W5 _ h.1)
  ·exact W5 _ (Xf _ h.1)
  ·exact Xf _ h.1
theorem fV{h:Hd}{cs:List Rt}(k:Hk h cs.length):∃r,rD (.nd h cs)=.tup (.str (hw h)::r):=by
 rcases mD h with ⟨fs,rfl⟩ |hn
 ·exact⟨_,fU⟩
 ·exact⟨_,iy k hn⟩
theorem fg{s:Str}{M:Mp}{k:Bool->Prop}{b:Bool}(hb:a3 (.str s) [D.str "for",D.str "let"]=b)(q:k b):dw (.str s) (.tup [.str "for",.str "let"]) M k:=⟨⟨rfl,rfl,by decide +kernel,by rw[hb];exact q⟩⟩
theorem uE{h:Hd}{m:Nat}(k:Hk h m)(n:∀fs,h≠.row fs):decide (hw h="row")=false:=let ⟨_,_,_,e⟩:=pH k n;e
noncomputable def L':B:=.cons (.ret (.op .Add (.sl (.v 0) .ao (.neg (.bi .len (.cons (.v 1) .nil)))) (.bi .tuple (.cons (.v 1) .nil)))) .nil
noncomputable def Ma:B:=.cons (.cond (.cmp .Eq (.bi .len (.cons (.v 1) .nil)) (.c (.int 0))) (.cons (.ret (.v 0)) .nil) .nil) L'
noncomputable def Mb:B:=.cons (.cond (.cmp .Eq (.ix (.v 0) (.c (.int 0))) (.c (.str "row"))) (.cons (.ret (.tup (.cons (.c (.str "row")) (.cons (.bi .tuple (.cons (.lc 2 [] (.many [0,1]) (.zip (.ix (.v 0) (.c (.int 1))) (.v 1)) .ao (.tup (.cons (.ix (.v 0) (.c (.int 0))) (.cons (.v 1) .nil)))) .nil)) .nil)))) .nil) .nil) Ma
theorem Mc:aJ ["question","parts"] ["question","parts"] (ah (top 13)):=⟨rfl,rfl,rfl,by decide +kernel,rfl,by decide +kernel,by decide +kernel⟩
theorem Md:aO nm 40 ["question","parts"] (ah (top 13)) (aD (top 13))=Mb:=by kernel_rfl
def Bx:Sp:=λds M Q _=>∃h cs es,ds=[rD (.nd h cs),.lst (es.map rD)]/\Hk h cs.length/\es.length=cs.length/\Q (rD (.nd h es)) M
theorem Me(O:Lw w):FO w 6 1 Bx:=by
 refine a8 O.ok O.hn _ ⟨"with_under",top 13,["question","parts"]⟩ (by rw[O.hd];rfl) {} { cs:=trivial } Mc Md λds M Q _ h=>?_;obtain⟨h,cs,es,rfl,k,hl,hq⟩:=h;have lt:=k.lt;have k':Hk h es.length:=by rw[hl];exact k
 rcases mD h with ⟨fs,rfl⟩ |hn
 ·rw[fU];refine⟨rfl,_,rfl,aT (aP (by decide) ⟨_,rfl,?_⟩)⟩;show cb (λ_=>True/\True) (.many [0,1]) gz _ _ _ (Xy (λx y=>D.tup [x,y]) (Xy (λf c=>D.tup [.str f,rD c]) fs cs) (es.map rD)) [] M;have e:Xy (λx y=>D.tup [x,y]) (Xy (λf c=>D.tup [.str f,rD c]) fs cs) (es.map rD)=((fs.zip cs).zip es).map λp=>D.tup [.tup [.str p.1.1,rD p.1.2],rD p.2]:=by
   rw[uC (as:=fs),List.zipWith_map,uC]
  rw[e];refine mf (λp:(Str×Rt)×Rt=>.tup [.tup [.str p.1.1,rD p.1.2],rD p.2]) (λp=>.tup [.str p.1.1,rD p.2]) ((fs.zip cs).zip es) ?_ (W6 (by rw[Yu];exact Nat.min_le_right ..) (Xz (by rw[hl];exact lt) (by decide))) (λp _ N hN=>?_) ?_
  ·exact⟨trivial,trivial⟩
  ·exact⟨rfl,_,rfl,l2,hN⟩
  ·refine .inl ⟨l2,aw ?_⟩;have key:∀{fs:List Str}{cs es:List Rt},fs.length=cs.length->es.length=cs.length->((fs.zip cs).zip es).map (λp=>D.tup [.str p.1.1,rD p.2])=Xy (λf c=>D.tup [.str f,rD c]) fs es:=by
    intro fs
    induction fs with
    |nil=>intro cs es _ _;rfl
    |cons f fs ih=>
     intro cs es h1 h2
     match cs,es,h1,h2 with
     |c::cs,e::es,h1,h2=>rw[Yi,Yi,W0,YE,ih (by simpa using h1) (by simpa using h2)]
   rw[fU]at hq;rw[key k.1 hl];exact hq
 ·rw[iy k hn];refine⟨rfl,_,cW,aT ?_⟩;rw[uE k hn];refine ax (by decide) (cg ?_);cases es with
  |nil=>
   have:cs=[]:=List.length_eq_zero_iff.mp hl.symm;subst this;refine aP (by decide) (aw ?_);rw[iy k hn]at hq;exact hq
  |cons e es=>
   have n0:decide (((((e::es).map rD).length:Nat):Int)=0)=false:=decide_eq_false (by simp;lia);rw[n0];refine ax (by decide) ?_;have hlen:((cs.map rD).length:Int)=(((e::es).map rD).length:Int):=(by rw[WQ,WQ,hl]);have UY:bz ((.str (hw h)::hx h)++cs.map rD) none (some (-((((e::es).map rD).length:Nat):Int)))=.str (hw h)::hx h:=by
    rw[<- hlen,LO (by rw[WQ,<- hl];exact Nat.succ_pos _)]
   have lh:(.str (hw h)::hx h:List D).length<=2:=by
    obtain⟨b,_,e2,_⟩:=pH k hn;rw[Xe,e2];split <;> lia
   refine⟨?_,aw ?_⟩
   ·show (bz ((.str (hw h)::hx h)++cs.map rD) none (some (-((((e::es).map rD).length:Nat):Int)))).length+_<=sizeLine;rw[UY];exact W2 (Nat.add_le_add lh (by rw[WQ,hl];exact Nat.le_of_lt lt)) (by decide)
   ·show Q (.tup (bz ((.str (hw h)::hx h)++cs.map rD) none (some (-((((e::es).map rD).length:Nat):Int)))++(e::es).map rD)) M;rw[UY];rw[iy k' hn]at hq;exact hq
noncomputable def By:B:=(.cons (.cond (.and (.cmp .In (.ix (.v 0) (.c (.int 0))) (.tup (.cons (.c (.str "for")) (.cons (.c (.str "let")) .nil)))) (.cmp .Eq (.v 1) (.c (.int 1)))) (.cons (.ret (.tup (.cons (.ix (.v 0) (.c (.int 1))) .nil))) .nil) .nil) (.cons (.ret (.tup .nil)) .nil))
theorem Mf:aJ ["question","place"] ["question","place"] (ah (top 15)):=⟨rfl,rfl,rfl,by decide +kernel,rfl,by decide +kernel,by decide +kernel⟩
theorem Mg:aO nm 40 ["question","place"] (ah (top 15)) (aD (top 15))=By:=by kernel_rfl
noncomputable def eG:Hd->Int->List Str
 |.bd _ x,i=>if i=1 then [x] else []
 |_,_=>[]
def Bz:Sp:=λds M Q _=>∃h cs i,ds=[rD (.nd h cs),.int i]/\Hk h cs.length/\Q (.tup ((eG h i).map D.str)) M
theorem BA(O:Lw w):FO w 8 1 Bz:=by
 refine a8 O.ok O.hn _ ⟨"bound_in",top 15,["question","place"]⟩ (by rw[O.hd];rfl) {} { cs:=trivial } Mf Mg λds M Q _ h=>?_;obtain⟨h,cs,i,rfl,k,hq⟩:=h;have fl:=L9 k;obtain⟨r,e⟩:=fV k;have off:∀b,(b=false\/(b=true/\i≠1))->eG h i=[]->a3 (.str (hw h)) [D.str "for",D.str "let"]=b->([rD (.nd h cs),D.int i]).length=2/\B.w ({}:a5 w).wd nm.af By (aB Q) [some (rD (.nd h cs)),some (.int i)] M:=by
  intro b hb hn hi;rw[hn]at hq;rw[e];refine⟨rfl,_,cW,l2,fg hi ?_⟩;rcases hb with rfl |⟨rfl,n1⟩
  ·exact ax (by decide) ⟨W9 _,aw hq⟩
  ·refine aP rfl (cg ?_);rw[decide_eq_false n1];exact⟨W9 _,aw hq⟩
 cases h with
 |bd f x=>
  by_cases h1:i=1
  ·subst h1;refine⟨rfl,_,cW,l2,fg fl (aP rfl (cg (aP (by decide) ?_)))⟩;exact⟨_,L7,l1,aw hq⟩
  ·exact off true (.inr ⟨rfl,h1⟩) (if_neg h1) fl
 |var x=>exact off false (.inl rfl) rfl fl
 |row fs=>exact off false (.inl rfl) rfl fl
 |o w ds=>exact off false (.inl rfl) rfl fl
noncomputable def mE:B:=.cons (.ret (.c (.bl false))) .nil
noncomputable def ji:B:=.cons (.fK (.v 2) (.cons (.set (.one 3) (.mt .pop (.v 2) .nil)) (.cons (.cond (.cmp .Eq (.v 3) (.tup (.cons (.c (.str "var")) (.cons (.v 0) .nil)))) (.cons (.ret (.c (.bl true))) .nil) .nil) (.cons (.cond (.cmp .In (.v 0) (.call 8 (.cons (.v 3) (.cons (.c (.int 1)) .nil)))) (.cons (.ex (.mt .append (.v 2) (.cons (.ix (.v 3) (.c (.int 2))) .nil))) .nil) (.cons (.ex (.mt .extend (.v 2) (.cons (.call 5 (.cons (.v 3) .nil)) .nil))) .nil)) .nil)))) mE
noncomputable def Mh:B:=.cons (.set (.one 2) (.lst (.cons (.v 1) .nil))) ji
theorem Mi:aJ ["name","question","waiting","knot"] ["name","question"] (ah (top 29)):=⟨rfl,rfl,rfl,by decide +kernel,rfl,by decide +kernel,by decide +kernel⟩
theorem Mj:aO nm 40 ["name","question","waiting","knot"] (ah (top 29)) (aD (top 29))=Mh:=by kernel_rfl
noncomputable def fW(n:Str):Rt->Bool
 |.nd (.var x) _=>decide (x=n)
 |_=>false
theorem BB{a b:Str}:au (.str a) (.str b)=decide (a=b):=by
 show (some b == some a)=decide (a=b);by_cases h:a=b
 ·subst h;simp
 ·rw[decide_eq_false h];exact beq_eq_false_iff_ne.mpr λz=>h (Xl z).symm
theorem uF{a b:Str}{xs ys:List D}(h:a≠b):au (.tup (.str a::xs)) (.tup (.str b::ys))=false:=by
 cases e:au (.tup (.str a::xs)) (.tup (.str b::ys)) with
 |false=>rfl
 |true=>exact absurd (dV e).1 h
theorem Ml{q:Rt}(k:Ok q)(n:Str):au (rD q) (.tup [.str "var",.str n])=fW n q:=by
 obtain⟨h,cs⟩:=q;have kk:=k.k;cases h with
 |var x=>
  have:cs=[]:=List.length_eq_zero_iff.mp kk;subst this;rw[rD,hD];show au (.tup [.str "var",.str x]) (.tup [.str "var",.str n])=decide (x=n);by_cases e:x=n
  ·subst e;rw[decide_eq_true rfl];exact gk _ rfl
  ·rw[decide_eq_false e];cases z:au (.tup [.str "var",.str x]) (.tup [.str "var",.str n]) with
   |false=>rfl
   |true=>
    have:=(dV z).2;simp only[bF,Bool.and_true]at this;rw[BB,WT]at this;exact absurd (of_decide_eq_true this.1) e
 |bd f x=>
  obtain⟨r,e⟩:=fV kk;rw[e];exact uF ((by decide +kernel:∀f,bw f≠"var") f)
 |row fs=>rw[fU];exact uF (by decide +kernel)
 |o w ds=>
  obtain⟨r,e⟩:=fV kk;rw[e];refine uF ?_;have key:((fS++fe++dm).all λw=>decide (w≠"var"))=true:=by decide +kernel
  refine of_decide_eq_true (List.all_eq_true.mp key w ?_);rcases kk.2 with h |h |h
  ·exact W5 _ (W5 _ h.1)
  ·exact W5 _ (Xf _ h.1)
  ·exact Xf _ h.1
theorem uG{n:Bool}{q:Rt}{y:Str}{M:Mp}{k:Bool->Prop}(o:Ok q)(hd:ht q<=25)(h:k (fW y q)):gn n (rD q) (.tup [.str "var",.str y]) M k:=by
 obtain⟨d1,d2⟩:=ph q o;have rs:bP (rD q) M=rD q:=by
  obtain⟨hh,cs⟩:=q;obtain⟨r,e⟩:=fV o.k;rw[e];rfl
 refine .mk ?_ ?_
 ·rw[rs];exact .inl ⟨d1,rfl,W2 (d2 25 hd) (by decide)⟩
 ·rw[rs];show k (au (rD q) (.tup [.str "var",.str y]));rw[Ml o y];exact h
theorem pL:∀xs:List Str,aI (xs.map D.str)=true/\aR (xs.map D.str)=0
 |[]=>⟨rfl,rfl⟩
 |x::r=>by obtain⟨h1,h2⟩:=pL r;rw[W0,aI,aR,h1,h2];exact⟨rfl,rfl⟩
theorem uH{n:Str}:∀{xs:List Str},a3 (.str n) (xs.map D.str)=decide (n∈xs)
 |[]=>by simp [a3]
 |x::r=>by
  have ih:=@uH n r;unfold a3 at ih ⊢;rw[W0,List.any_cons,ih,BB];by_cases e:x=n
  ·subst e;simp
  ·have e':¬n=x:=λz=>e z.symm;simp [e,e']
theorem BC{n:Str}{xs:List Str}{M:Mp}{k:Bool->Prop}(q:k (decide (n∈xs))):dw (.str n) (.tup (xs.map D.str)) M k:=by
 obtain⟨h1,h2⟩:=pL xs;refine⟨⟨rfl,h1,by rw[h2];decide,?_⟩⟩;rw[uH];exact q
theorem mF{n:Str}{xs:List Str}{M:Mp}{k:Bool->Prop}(q:k (decide (n∈xs))):dw (.str n) (.lst (xs.map D.str)) M k:=by
 obtain⟨h1,h2⟩:=pL xs;refine⟨⟨rfl,h1,by rw[h2];decide,?_⟩⟩;rw[uH];exact q
noncomputable def aM(ws:List Rt):Nat:=(ws.map nk).sum
theorem iz{a b:List Rt}:aM (a++b)=aM a+aM b:=by unfold aM;rw[W',List.sum_append]
theorem mG:∀ws:List Rt,ws.length<=aM ws
 |[]=>W9 _
 |q::r=>by have:=mG r;have:=mh q;unfold aM at *;rw[W0,XJ,Xe];lia
theorem BD{h:Hd}{cs:List Rt}(k:Hk h cs.length):nk (.nd h cs)=1+aM cs:=by
 rcases (by cases h <;> first |exact .inl ⟨_,rfl⟩ |exact .inr (.inl ⟨_,_,rfl⟩) |exact .inr (.inr ⟨λx e=>(nomatch e),λf x e=>(nomatch e)⟩):(∃x,h=.var x)\/(∃f x,h=.bd f x)\/((∀x,h≠.var x)/\∀f x,h≠.bd f x)) with ⟨x,rfl⟩ |⟨f,x,rfl⟩ |⟨h1,h2⟩
 ·have:cs=[]:=List.length_eq_zero_iff.mp k;subst this;exact az.fv
 ·match cs,k with
  |[a,b],_=>rw[cY];unfold aM;simp;lia
 ·exact dX h1 λf x e=>absurd e (h2 f x)
theorem Mm{h:Hd}{cs:List Rt}(k:Hk h cs.length){m:Nat}(g:ht (.nd h cs)<=m):∀c∈cs,ht c<=m:=by
 obtain⟨m,rfl⟩:∃m',m=m'+1:=⟨m-1,by have:=eD (.nd h cs);lia⟩
 intro c hc;rcases (by cases h <;> first |exact .inl ⟨_,rfl⟩ |exact .inr (.inl ⟨_,_,rfl⟩) |exact .inr (.inr ⟨λx e=>(nomatch e),λf x e=>(nomatch e)⟩):(∃x,h=.var x)\/(∃f x,h=.bd f x)\/((∀x,h≠.var x)/\∀f x,h≠.bd f x)) with ⟨x,rfl⟩ |⟨f,x,rfl⟩ |⟨h1,h2⟩
 ·have:cs=[]:=List.length_eq_zero_iff.mp k;subst this;exact nomatch hc
 ·match cs,k with
  |[a,b],_=>
   obtain⟨g1,g2⟩:=eC g;simp only[Xk,Xd,or_false]at hc;rcases hc with rfl |rfl <;> lia
 ·have:=gH h1 (λf x e=>absurd e (h2 f x)) g c hc;lia
def BE:Sp:=λds M Q _=>∃n q,ds=[.str n,rD q]/\Ok q/\ht q<=25/\nk q<=100000/\Q (.bl (decide (n∈fv q))) M
noncomputable abbrev cI:a5 w:={ cs:=[(8,Bz),(5,pI)] }
theorem Mn(O:Lw w):FO w 16 2 BE:=by
 refine a8 O.ok O.hn _ ⟨"is_free",top 29,["name","question"]⟩ (by rw[O.hd];rfl) cI { cs:=⟨⟨1,WU _,BA O⟩,⟨1,WU _,pJ O⟩,trivial⟩ } Mi Mj λds M Q _ h=>?_;obtain⟨n,q,rfl,ok,hh,hn,h⟩:=h;refine⟨rfl,l1,.inr λwa eH=>⟨100001,?_⟩⟩;have key:∀(m:Nat)(ws:List Rt)v,aM ws<m->aM ws<=100000->(∀ t∈ws,Ok t/\ht t<=25)->(n∈fv q ↔ ∃ t∈ws,n∈fv t) ->
   b8 (E.w (cI (w:=w)).wd nm.af (dH (a6 ji))).2 (B.w (cI (w:=w)).wd nm.af (ck (a6 ji))) { nx:=fun τ M=>B.w (cI (w:=w)).wd nm.af mE (aB Q) τ M,rt:=(aB Q).rt } m [some (.str n),some (rD q),some (.ref wa),v] (up M wa (.lst (ws.map rD))):=by
  intro m
  induction m with
  |zero=>intro ws v h;lia
  |succ m ih=>
   intro ws v h1 h2 hw hq;rcases List.eq_nil_or_concat ws with z |⟨r,t,z⟩
   ·subst z;refine .inl ⟨_,ak,?_⟩;have:n ∉ fv q:=λz=>let ⟨_,hc,_⟩:=hq.mp z;nomatch hc
    rw[decide_eq_false this]at h;exact ax (by decide) (AD eH rfl h)
   subst z;rw[List.concat_eq_append]at h1 h2 hw hq ⊢;rw[iz]at h1 h2;obtain⟨ot,pc⟩:=hw t (by simp);have bn:(!((r++[t]).map rD).isEmpty)=true:=(by simp);refine .inl ⟨_,ak,?_⟩;rw[bn];refine aP rfl ⟨.inl ⟨rfl,_,ak⟩,_,ak,rD t,by simp,?_⟩;have e1:up (up M wa (.lst ((r++[t]).map rD))) wa (.lst ((r++[t]).map rD).dropLast)=up M wa (.lst (r.map rD)):=(by rw[_root_.N.bQ,W',W0,XT,Za]);rw[e1];refine⟨l2,uG ot pc ?_⟩;have pi:∀u∈r,Ok u/\ht u<=25:=λu hu=>hw u (by simp [hu]);obtain⟨hd,cs⟩:=t;have kk:=ot.k;have ek:=BD kk;have e2:aM [Rt.nd hd cs]=1+aM cs:=(by unfold aM;rw[W0,XT,XJ,List.sum_nil,Nat.add_zero];exact ek);rw[e2]at h1 h2;have hcs:=Mm kk pc;cases hv:fW n (.nd hd cs) with
   |true=>
    have:n∈fv q:=hq.mpr ⟨.nd hd cs,by simp,by
     cases hd with
     |var x=>rw[dW];exact (of_decide_eq_true hv).symm
     |bd f x=>cases hv
     |row fs=>cases hv
     |o w ds=>cases hv⟩
    rw[decide_eq_true this]at h;exact aP rfl (AD eH rfl h)
   |false=>
    refine ax (by decide) ⟨hd,cs,1,rfl,kk,BC ?_⟩;have lr:=mG r;have ext:(∀ u∈cs,Ok u)->(n∈fv q ↔ ∃ t∈r++cs,n∈fv t)->B.w (cI (w:=w)).wd nm.af (.cons (.ex (.mt .extend (.v 2) (.cons (.call 5 (.cons (.v 3) .nil)) .nil))) .nil) { nx:=b8 (E.w (cI (w:=w)).wd nm.af (dH (a6 ji))).2 (B.w (cI (w:=w)).wd nm.af (ck (a6 ji))) { nx:=fun τ M=>B.w (cI (w:=w)).wd nm.af mE (aB Q) τ M,rt:=(aB Q).rt } m,rt:=(aB Q).rt,ct:=b8 (E.w (cI (w:=w)).wd nm.af (dH (a6 ji))).2 (B.w (cI (w:=w)).wd nm.af (ck (a6 ji))) { nx:=fun τ M=>B.w (cI (w:=w)).wd nm.af mE (aB Q) τ M,rt:=(aB Q).rt } m,SD:=fun τ M=>B.w (cI (w:=w)).wd nm.af mE (aB Q) τ M }
      [some (.str n),some (rD q),some (.ref wa),some (rD (.nd hd cs))] (up M wa (.lst (r.map rD))):=λoc dz=>by
     refine⟨.inl ⟨rfl,_,ak⟩,hd,cs,rfl,kk,_,ak,?_,?_⟩
     ·have:=mG cs;refine W2 (?_:_<=200000) (by decide);rw[WQ,WQ];lia
     ·have:=ih (r++cs) (some (rD (.nd hd cs))) (by rw[iz];lia) (by rw[iz];lia) (λu hu=>(List.mem_append.mp hu).elim (pi u) λz=>⟨oc u z,hcs u z⟩) dz;rw[W']at this;rw[_root_.N.bQ];exact this
    have sp:∀{A:Prop},(n∈fv (.nd hd cs) ↔ A)->(n∈fv q ↔ (∃t∈r,n∈fv t)\/A):=λ{A}e=>by
     rw[hq];constructor
     ·rintro⟨t,jj,z⟩;rcases List.mem_append.mp jj with z' |z'
      ·exact .inl ⟨t,z',z⟩
      ·rw[List.mem_singleton.mp z']at z;exact .inr (e.mp z)
     ·rintro (⟨t,jj,z⟩ |z)
      ·exact⟨t,by simp [jj],z⟩
      ·exact⟨_,by simp,e.mpr z⟩
    have un:∀{A:Prop},(A ↔ ∃c∈cs,n∈fv c)->(n∈fv q ↔ (∃t∈r,n∈fv t)\/A)->(n∈fv q ↔ ∃t∈r++cs,n∈fv t):=λ{A}e h=>by
     rw[h,e];constructor
     ·rintro (⟨t,h1,h2⟩ |⟨t,h1,h2⟩)
      ·exact⟨t,W5 _ h1,h2⟩
      ·exact⟨t,Xf _ h1,h2⟩
     ·rintro⟨t,h1,h2⟩;exact (List.mem_append.mp h1).imp (λz=>⟨t,z,h2⟩) λz=>⟨t,z,h2⟩
    cases hd with
    |var x=>
     have e0:cs=[]:=List.length_eq_zero_iff.mp kk;subst e0;refine ext (λu hu=>nomatch hu) (un (A:=False) ⟨λz=>z.elim,λ⟨_,hc,_⟩=>nomatch hc⟩ (sp ?_));rw[dW];exact⟨λz=>absurd z.symm (of_decide_eq_false hv),λz=>z.elim⟩
    |bd f x=>
     match cs,kk with
     |[a,b],kk=>
      have e1:eG (.bd f x) 1=[x]:=rfl;rw[e1];by_cases hx:n=x
      ·have d:decide (n∈[x])=true:=(by simp [hx]);rw[d];refine aP rfl ⟨.inl ⟨rfl,_,ak⟩,_,Bw,_,ak,?_,?_⟩
       ·refine W6 (?_:_<=200000) (by decide);rw[WQ];lia
       ·have e3:aM [a,b]=nk a+nk b:=(by unfold aM;simp);have:=ih (r++[a]) (some (rD (.nd (.bd f x) [a,b]))) (by rw[iz];have:aM [a]=nk a:=(by unfold aM;simp);lia) (by rw[iz];have:aM [a]=nk a:=(by unfold aM;simp);lia) (λu hu=>(List.mem_append.mp hu).elim (pi u) λz=>by rw[List.mem_singleton.mp z];exact⟨ot.c a (by simp),hcs a (by simp)⟩) (by
         rw[sp (A:=n∈fv a) (by rw[cX];exact⟨λz=>z.elim id λz=>absurd hx z.2,.inl⟩)];constructor
         ·rintro (⟨t,h1,h2⟩ |z)
          ·exact⟨t,W5 _ h1,h2⟩
          ·exact⟨a,by simp,z⟩
         ·rintro⟨t,h1,h2⟩;rcases List.mem_append.mp h1 with z |z
          ·exact .inl ⟨t,z,h2⟩
          ·rw[List.mem_singleton.mp z]at h2;exact .inr h2)
        rw[W']at this;rw[_root_.N.bQ];exact this
      ·have d:decide (n∈[x])=false:=(by simp [hx]);rw[d];refine ax (by decide) (ext ot.c (un (A:=n∈fv a\/n∈fv b) ⟨λz=>z.elim (λz=>⟨a,by simp,z⟩) λz=>⟨b,by simp,z⟩,λ⟨c,hc,z⟩=>by
        simp only[Xk,Xd,or_false]at hc;rcases hc with rfl |rfl
        ·exact .inl z
        ·exact .inr z⟩ (sp ?_)))
       rw[cX];exact⟨λz=>z.imp id (·.1),λz=>z.imp id λz=>⟨z,hx⟩⟩
    |row fs=>exact ax (show ¬decide (n∈([]:List Str))=true by simp) (ext ot.c (un Iff.rfl (sp (dG (h:=.row fs) (λx e=>nomatch e) (λ_ _ e=>nomatch e)))))
    |o wd ds=>exact ax (show ¬decide (n∈([]:List Str))=true by simp) (ext ot.c (un Iff.rfl (sp (dG (h:=.o wd ds) (λx e=>nomatch e) (λ_ _ e=>nomatch e)))))
 have h1:aM [q]=nk q:=by unfold aM;simp
 exact key 100001 [q] none (by lia) (by lia) (λt jj=>by rw[List.mem_singleton.mp jj];exact⟨ok,hh⟩) ⟨λz=>⟨q,by simp,z⟩,λ⟨t,jj,z⟩=>by rw[List.mem_singleton.mp jj]at z;exact z⟩
end K47
end
section
namespace K47
open PySem N NQ QT
open L2 PyProof.Rows
variable{w:Wo}
abbrev Fi:=Rt×List Str
noncomputable def iA(v:Fi):D:=.tup [rD v.1,.tup (v.2.map D.str)]
noncomputable def Fm(M:Mp)(fa wa:Addr)(fs:List Str)(ws:List Fi):Mp:=up (up M fa (.lst (fs.map D.str))) wa (.lst (ws.map iA))
theorem Fm.SR{M:Mp}{fa wa:Addr}{fs:List Str}{ws:List Fi}:Fm M fa wa fs ws wa=some (.lst (ws.map iA)):=ak
theorem Fm.f{M:Mp}{fa wa:Addr}{fs:List Str}{ws:List Fi}(n:fa≠wa):Fm M fa wa fs ws fa=some (.lst (fs.map D.str)):=by unfold Fm;rw[aj n,ak]
theorem Fm.pw{M:Mp}{fa wa:Addr}{fs:List Str}{ws ws':List Fi}:up (Fm M fa wa fs ws) wa (.lst (ws'.map iA))=Fm M fa wa fs ws':=_root_.N.bQ
theorem Fm.VR{M:Mp}{fa wa:Addr}{fs fs':List Str}{ws:List Fi}(n:fa≠wa):up (Fm M fa wa fs ws) fa (.lst (fs'.map D.str))=Fm M fa wa fs' ws:=by
 unfold Fm;rw[oS (XC n),_root_.N.bQ]
noncomputable def bE(h:Hd)(bs:List Str):Nat->List Rt->List Fi
 |_,[]=>[]
 |i,c::r=>(c,bs++eG h i)::bE h bs (i+1) r
theorem BF{h:Hd}{bs:List Str}:∀{a:List Rt}{i:Nat}{c:Rt},bE h bs i (a++[c])=bE h bs i a++[(c,bs++eG h (i+a.length:Nat))]
 |[],i,c=>rfl
 |d::a,i,c=>by rw[YL,bE,bE,BF,YL,Xe,show i+1+a.length=i+(a.length+1) by lia]
theorem BG{h:Hd}{bs:List Str}:∀{a:List Rt}{i:Nat},(bE h bs i a).length=a.length
 |[],i=>by rw[bE];rfl
 |d::a,i=>by rw[bE,Xe,Xe,BG]
theorem BH{h:Hd}{i:Int}:(eG h i).length<=1:=by
 cases h with
 |bd f x=>
  show (if i=1 then [x] else []).length<=1
  split
  ·exact WU _
  ·exact W9 _
 |_=>exact W9 _
theorem BI{h:Hd}{bs:List Str}:∀{a:List Rt}{i:Nat}{v:Fi},v∈bE h bs i a->v.1∈a/\v.2.length<=bs.length+1
 |[],i,v,e=>by rw[bE]at e;exact nomatch e
 |d::a,i,v,e=>by
  rw[bE]at e;rcases List.mem_cons.mp e with rfl |e
  ·refine⟨WZ,?_⟩;have:=@BH h i;show (bs++eG h i).length<=_;rw[W3];lia
  ·obtain⟨h1,h2⟩:=BI e;exact⟨WY _ h1,h2⟩
def fh(x:Str)(v:Fi):Prop:=x∈fv v.1/\x ∉ v.2
theorem uI{h:Hd}{bs:List Str}(nb:∀f x,h≠.bd f x){x:Str}:∀{a:List Rt}{i:Nat},(∃v∈bE h bs i a,fh x v) ↔ (∃c∈a,x∈fv c)/\x ∉ bs
 |[],i=>by rw[bE];exact⟨λ⟨_,h,_⟩=>(nomatch h),λ⟨⟨_,h,_⟩,_⟩=>(nomatch h)⟩
 |d::a,i=>by
  have e:eG h i=[]:=by cases h <;> first |rfl |exact absurd rfl (nb _ _)
  have ih:=@uI h bs nb x a (i+1);rw[bE,e,Xc];constructor
  ·rintro⟨v,hv,z⟩;rcases List.mem_cons.mp hv with rfl |hv
   ·exact⟨⟨d,WZ,z.1⟩,z.2⟩
   ·obtain⟨⟨c,h1,h2⟩,h3⟩:=ih.mp ⟨v,hv,z⟩;exact⟨⟨c,WY _ h1,h2⟩,h3⟩
  ·rintro⟨⟨c,h1,h2⟩,h3⟩;rcases List.mem_cons.mp h1 with rfl |h1
   ·exact⟨_,WZ,h2,h3⟩
   ·obtain⟨v,hv,z⟩:=ih.mpr ⟨⟨c,h1,h2⟩,h3⟩;exact⟨v,WY _ hv,z⟩
theorem Mo{h:Hd}{cs:List Rt}{bs:List Str}{x:Str}(k:Hk h cs.length):fh x (.nd h cs,bs) ↔ (h=.var x/\x ∉ bs)\/∃v∈bE h bs 0 cs,fh x v:=by
 cases h with
 |var y=>
  have:cs=[]:=List.length_eq_zero_iff.mp k;subst this;unfold fh;show x∈fv (.nd (.var y) [])/\x ∉ bs ↔ _;rw[dW,bE];constructor
  ·rintro⟨rfl,h⟩;exact .inl ⟨rfl,h⟩
  ·rintro (⟨h,h2⟩ |⟨_,h,_⟩)
   ·cases h;exact⟨rfl,h2⟩
   ·exact nomatch h
 |bd f y=>
  match cs,k with
  |[a,b],_=>
   unfold fh;show x∈fv (.nd (.bd f y) [a,b])/\x ∉ bs ↔ _;rw[cX];have e:bE (.bd f y) bs 0 [a,b]=[(a,bs),(b,bs++[y])]:=by
    show [(a,bs++[]),(b,bs++[y])]=_;rw[Xc]
   rw[e];constructor
   ·rintro⟨h |⟨h1,h2⟩,h3⟩
    ·exact .inr ⟨_,WZ,h,h3⟩
    ·refine .inr ⟨(b,bs++[y]),by simp,h1,λz=>?_⟩;rcases List.mem_append.mp z with z |z
     ·exact h3 z
     ·exact h2 (List.mem_singleton.mp z)
   ·rintro (⟨h,_⟩ |⟨v,hv,h1,h2⟩)
    ·cases h
    ·simp only[Xk,Xd,or_false]at hv;rcases hv with rfl |rfl
     ·exact⟨.inl h1,h2⟩
     ·exact⟨.inr ⟨h1,λz=>h2 (Xf _ (List.mem_singleton.mpr z))⟩,λz=>h2 (W5 _ z)⟩
 |row fs=>
  rw[uI (h:=.row fs) λ_ _ e=>nomatch e];unfold fh;show x∈fv (.nd (.row fs) cs)/\x ∉ bs ↔ _;rw[dG (h:=.row fs) (λx e=>nomatch e) (λ_ _ e=>nomatch e)];exact⟨.inr,λh=>h.elim (λz=>nomatch z.1) id⟩
 |o wd ds=>
  rw[uI (h:=.o wd ds) λ_ _ e=>nomatch e];unfold fh;show x∈fv (.nd (.o wd ds) cs)/\x ∉ bs ↔ _;rw[dG (h:=.o wd ds) (λx e=>nomatch e) (λ_ _ e=>nomatch e)];exact⟨.inr,λh=>h.elim (λz=>nomatch z.1) id⟩
noncomputable def dn(ws:List Fi):Nat:=(ws.map λv=>nk v.1).sum
theorem uJ{a b:List Fi}:dn (a++b)=dn a+dn b:=by unfold dn;rw[W',List.sum_append]
theorem uK{h:Hd}{bs:List Str}:∀{a:List Rt}{i:Nat},dn (bE h bs i a)=aM a
 |[],i=>by rw[bE];rfl
 |d::a,i=>by
  have:=@uK h bs a (i+1);unfold dn aM at *;rw[bE,W0,W0,XJ,XJ,this]
theorem BJ:∀ws:List Fi,ws.length<=dn ws
 |[]=>W9 _
 |q::r=>by have:=BJ r;have:=mh q.1;unfold dn at *;rw[W0,XJ,Xe];lia
theorem Mq{h:Hd}{cs:List Rt}(k:Hk h cs.length){m:Nat}(g:ht (.nd h cs)<=m+1):∀c∈cs,ht c<=m:=by
 intro c hc;rcases (by cases h <;> first |exact .inl ⟨_,rfl⟩ |exact .inr (.inl ⟨_,_,rfl⟩) |exact .inr (.inr ⟨λx e=>(nomatch e),λf x e=>(nomatch e)⟩):(∃x,h=.var x)\/(∃f x,h=.bd f x)\/((∀x,h≠.var x)/\∀f x,h≠.bd f x)) with ⟨x,rfl⟩ |⟨f,x,rfl⟩ |⟨h1,h2⟩
 ·have:cs=[]:=List.length_eq_zero_iff.mp k;subst this;exact nomatch hc
 ·match cs,k with
  |[a,b],_=>
   obtain⟨g1,g2⟩:=eC g;simp only[Xk,Xd,or_false]at hc;rcases hc with rfl |rfl <;> assumption
 ·exact gH h1 (λf x e=>absurd e (h2 f x)) g c hc
noncomputable def iB:B:=.cons (.ret (.sset (.v 1))) .nil
noncomputable def dY:B:=.cons (.fK (.v 2) (.cons (.set (.many [3,4]) (.mt .pop (.v 2) .nil)) (.cons (.cond (.and (.cmp .Eq (.ix (.v 3) (.c (.int 0))) (.c (.str "var"))) (.cmp .NotIn (.ix (.v 3) (.c (.int 1))) (.v 4))) (.cons (.ex (.mt .append (.v 1) (.cons (.ix (.v 3) (.c (.int 1))) .nil))) .nil) .nil) (.cons (.loop (.many [5,6]) (.enum (.call 5 (.cons (.v 3) .nil))) (.cons (.ex (.mt .append (.v 2) (.cons (.tup (.cons (.v 6) (.cons (.op .Add (.v 4) (.call 8 (.cons (.v 3) (.cons (.v 5) .nil)))) .nil))) .nil))) .nil)) .nil)))) iB
noncomputable def Mr:B:=.cons (.set (.one 2) (.lst (.cons (.tup (.cons (.v 0) (.cons (.tup .nil) .nil))) .nil))) dY
noncomputable def Ms:B:=.cons (.set (.one 1) (.lst .nil)) Mr
theorem Mu:aJ ["question","found","waiting","part","bound","place","inner"] ["question"] (ah (top 14)):=⟨rfl,rfl,rfl,by decide +kernel,rfl,by decide +kernel,by decide +kernel⟩
theorem Mv:aO nm 40 ["question","found","waiting","part","bound","place","inner"] (ah (top 14)) (aD (top 14))=Ms:=by kernel_rfl
def uL:Sp:=λds M Q _=>∃(q:Rt)(N:List Str),ds=[rD q]/\Ok q/\ht q<=30/\nk q<=100000/\(∀x∈fv q,x∈N)/\N.length<64/\∀ys:List Str,ys.Nodup->(∀x,x∈ys ↔ x∈fv q)->sortedS ys=true->Q (.lst (ys.map D.str)) M
theorem BK(O:Lw w):FO w 7 2 uL:=by
  refine a8 O.ok O.hn _ ⟨"free",top 14,["question"]⟩ (by rw[O.hd];rfl) cI { cs:=⟨⟨1,WU _,BA O⟩,⟨1,WU _,pJ O⟩,trivial⟩ } Mu Mv λds M Q _ h=>?_;obtain⟨q,N0,rfl,ok,hh,hn,hN,Mw,h⟩:=h;refine⟨rfl,W9 _,.inr λfa jk=>⟨W9 _,l2,l1,.inr λwa eH=>⟨100001,?_⟩⟩⟩;have fX:fa≠wa:=by rintro rfl;rw[ak]at eH;cases eH
  have uM:M wa=none:=by rw[aj (XC fX)]at eH;exact eH
  have key : ∀(m : Nat)(fs : List Str)(ws : List Fi)v3 v4 v5 v6, dn ws < m -> fs.length + dn ws <= 100000 -> (∀ v ∈ ws, Ok v.1 /\ ht v.1 + v.2.length <= 30) -> (∀ x, x ∈ fv q ↔ x ∈ fs \/ ∃ v ∈ ws, fh x v) ->
      b8 (E.w (cI (w:=w)).wd nm.af (dH (a6 dY))).2 (B.w (cI (w:=w)).wd nm.af (ck (a6 dY))) { nx:=fun τ M=>B.w (cI (w:=w)).wd nm.af iB (aB Q) τ M,rt:=(aB Q).rt } m [some (rD q),some (.ref fa),some (.ref wa),v3,v4,v5,v6] (Fm M fa wa fs ws):=by
    intro m
    induction m with
    |zero=>intro fs ws v3 v4 v5 v6 h;lia
    | succ m ih=>
      intro fs ws v3 v4 v5 v6 h1 h2 uN hq;rcases List.eq_nil_or_concat ws with z |⟨r,⟨t,bs⟩,z⟩
      · subst z;refine .inl ⟨_,Fm.SR,ax (by decide) ?_⟩;have dz:∀x,x∈fv q ↔ x∈fs:=λx=>(hq x).trans ⟨λz=>z.elim id λ⟨_,h,_⟩=>(nomatch h),.inl⟩;refine⟨_,Fm.f fX,fs,N0,rfl,Mw,λx hx=>hN x ((dz x).mpr hx),λys nd he so=>.inl ?_⟩;exact t8 (kn (kn .rfl jk rfl) uM rfl) (h ys nd (λx=>(he x).trans (dz x).symm) so)
      subst z;rw[List.concat_eq_append]at h1 h2 uN hq ⊢;rw[uJ]at h1 h2;obtain⟨ot,pc⟩:=uN (t,bs) (by simp);have pi:∀ v∈r,Ok v.1/\ht v.1+v.2.length<=30:=λu hu=>uN u (by simp [hu]);have bn:(!((r++[(t,bs)]).map iA).isEmpty)=true:=(by simp);refine .inl ⟨_,Fm.SR,?_⟩;rw[bn];refine aP rfl ⟨.inl ⟨rfl,_,Fm.SR⟩,_,Fm.SR,iA (t,bs),by simp,rfl,?_⟩;have e1:up (Fm M fa wa fs (r++[(t,bs)])) wa (.lst ((r++[(t,bs)]).map iA).dropLast)=Fm M fa wa fs r:=by
        rw[W',W0,XT,Za];exact Fm.pw
      rw[e1];obtain⟨hd,cs⟩:=t;have kk:=ot.k;have ek:=BD kk;have e2:dn [(Rt.nd hd cs,bs)]=1+aM cs:=(by unfold dn;rw[W0,XT,XJ,List.sum_nil,Nat.add_zero];exact ek);rw[e2]at h1 h2;have lr:=BJ r;have lc:=mG cs;obtain⟨mt,Sb⟩:∃mt,ht (.nd hd cs)=mt+1:=⟨ht (.nd hd cs)-1,by have:=eD (.nd hd cs);lia⟩
      have Sd:mt+1+bs.length<=30:=by have:ht (.nd hd cs)+bs.length<=30:=pc;lia
      have hcs:=Mq kk (m:=mt) (by lia)
      -- the Se Sg
      have rest : ∀ fs', fs'.length <= fs.length + 1 -> (∀ x, x ∈ fv q ↔ x ∈ fs' \/ ∃ v ∈ r ++ bE hd bs 0 cs, fh x v) ->
          B.w (cI (w:=w)).wd nm.af (ik (ik (ck (a6 dY)))) { nx:=b8 (E.w (cI (w:=w)).wd nm.af (dH (a6 dY))).2 (B.w (cI (w:=w)).wd nm.af (ck (a6 dY))) { nx:=fun τ M=>B.w (cI (w:=w)).wd nm.af iB (aB Q) τ M,rt:=(aB Q).rt } m,rt:=(aB Q).rt,ct:=b8 (E.w (cI (w:=w)).wd nm.af (dH (a6 dY))).2 (B.w (cI (w:=w)).wd nm.af (ck (a6 dY))) { nx:=fun τ M=>B.w (cI (w:=w)).wd nm.af iB (aB Q) τ M,rt:=(aB Q).rt } m,SD:=fun τ M=>B.w (cI (w:=w)).wd nm.af iB (aB Q) τ M }
            [some (rD q),some (.ref fa),some (.ref wa),some (rD (.nd hd cs)),some (.tup (bs.map D.str)),v5,v6] (Fm M fa wa fs' r):=by
        intro fs' hl dz;refine⟨hd,cs,rfl,kk,?_⟩;refine e7 (λxs τ M'=>∃done rest v5 v6,cs=done++rest/\xs=(bN (cs.map rD)).drop done.length/\τ=[some (rD q),some (.ref fa),some (.ref wa),some (rD (.nd hd cs)),some (.tup (bs.map D.str)),v5,v6]/\M'=Fm M fa wa fs' (r++bE hd bs 0 done)) ?_ ?_ _ _ _ ⟨[],cs,v5,v6,rfl,rfl,rfl,by rw[bE,Xc]⟩
        · rintro τ M' ⟨done,rest,u5,u6,e3,e4,rfl,rfl⟩;have e5:rest=[]:=by
            have:=congrArg YQ e4;have hl3:=congrArg YQ e3;unfold bN at this;simp at this hl3;exact List.length_eq_zero_iff.mp (by lia)
          subst e5;rw[Xc]at e3;subst e3;refine⟨trivial,.rfl (ih fs' _ _ _ _ _ ?_ ?_ ?_ dz)⟩
          · rw[uJ,uK];lia
          · rw[uJ,uK];lia
          · intro v hv;rcases List.mem_append.mp hv with z | z
            · exact pi v z
            · obtain⟨g1,g2⟩:=BI z;have:=hcs v.1 g1;exact⟨ot.c v.1 g1,by lia⟩
        · rintro x xs τ M' ⟨done,rest,u5,u6,e3,e4,rfl,rfl⟩;cases rest with
          | nil=>
            rw[Xc]at e3;subst e3;have:=congrArg YQ e4;unfold bN at this;simp at this
          | cons c rest=>
            have ap:done.length<(bN (cs.map rD)).length:=(by unfold bN;rw[e3];simp);have ec:(bN (cs.map rD))[done.length]=.tup [.int done.length,rD c]:=by
              have:(cs.map rD)[done.length]?=some (rD c):=(by rw[e3];simp);have UZ:(bN (cs.map rD))[done.length]?=some (.tup [.int done.length,rD c]):=by
                unfold bN;rw[List.getElem?_mapIdx,this];rfl
              exact (List.getElem?_eq_some_iff.mp UZ).2
            rw[Yk ap,ec]at e4;cases e4;refine⟨trivial,λN hN=>⟨rfl,.inl ⟨rfl,_,Fm.SR⟩,hd,cs,(done.length:Nat),rfl,kk,?_,l2,_,Fm.SR,?_,?_⟩⟩
            · have:=@BH hd (done.length:Nat);refine W2 (?_:_<=100) (by decide);rw[WQ,WQ];lia
            · refine W6 (?_:_<=200000) (by decide);have:=congrArg YQ e3;rw[W3,Xe]at this;rw[WQ,W3,BG];lia
            · have e6 : up (Fm M fa wa fs' (r ++ bE hd bs 0 done)) wa (.lst ((r ++ bE hd bs 0 done).map iA ++ [.tup [rD c, .tup (bs.map D.str ++ (eG hd (done.length : Nat)).map D.str)]])) = Fm M fa wa fs' (r ++ bE hd bs 0 (done ++ [c])) := by
                rw[BF,<- X6];unfold Fm;rw[_root_.N.bQ,W' (l₂:=[_]),Nat.zero_add];have VS:[(c,bs++eG hd (done.length:Nat))].map iA=[D.tup [rD c,.tup (bs.map D.str++(eG hd (done.length:Nat)).map D.str)]]:=by
                  show [D.tup [rD c,.tup ((bs++eG hd (done.length:Nat)).map D.str)]]=_;rw[W' (l₁:=bs)]
                rw[VS]
              rw[e6];exact hN _ _ ⟨done++[c],rest,_,_,by rw[e3];simp,by rw[W3];rfl,rfl,rfl⟩
      have kf:=λx=>@Mo hd cs bs x kk;have sp:∀{fs':List Str}{x:Str},(x∈fs' ↔ x∈fs\/(hd=.var x/\x ∉ bs))->(x∈fv q ↔ x∈fs'\/∃ v∈r++bE hd bs 0 cs,fh x v):=λ{fs' x}e=>by
        rw[hq,e];constructor
        · rintro (z | ⟨v,hv,z⟩)
          · exact .inl (.inl z)
          · rcases List.mem_append.mp hv with hv | hv
            · exact .inr ⟨v,W5 _ hv,z⟩
            · rw[List.mem_singleton.mp hv]at z;rcases (kf x).mp z with z | ⟨v,hv,z⟩
              · exact .inl (.inr z)
              · exact .inr ⟨v,Xf _ hv,z⟩
        · rintro ((z | z) | ⟨v,hv,z⟩)
          · exact .inl z
          · exact .inr ⟨_,by simp,(kf x).mpr (.inl z)⟩
          · rcases List.mem_append.mp hv with hv | hv
            · exact .inr ⟨v,W5 _ hv,z⟩
            · exact .inr ⟨_,by simp,(kf x).mpr (.inr ⟨v,hv,z⟩)⟩
      have no:(∀x,hd=.var x->x∈bs)->∀x,x∈fv q ↔ x∈fs\/∃v∈r++bE hd bs 0 cs,fh x v:=λhv x=>sp ⟨.inl,λz=>z.elim id λz=>absurd (hv x z.1) z.2⟩;obtain⟨rr,SP⟩:=fV kk
      have go : ∀ b, decide (hw hd = "var") = b → (b = true → ∃ x, hd = .var x) → B.w (cI (w := w)).wd nm.af (ik (ck (a6 dY))) { nx := b8 (E.w (cI (w := w)).wd nm.af (dH (a6 dY))).2 (B.w (cI (w := w)).wd nm.af (ck (a6 dY))) { nx := fun τ M => B.w (cI (w := w)).wd nm.af iB (aB Q) τ M, rt := (aB Q).rt } m, rt := (aB Q).rt, ct := b8 (E.w (cI (w := w)).wd nm.af (dH (a6 dY))).2 (B.w (cI (w := w)).wd nm.af (ck (a6 dY))) { nx := fun τ M => B.w (cI (w := w)).wd nm.af iB (aB Q) τ M, rt := (aB Q).rt } m, SD := fun τ M => B.w (cI (w := w)).wd nm.af iB (aB Q) τ M }
            [some (rD q),some (.ref fa),some (.ref wa),some (rD (.nd hd cs)),some (.tup (bs.map D.str)),v5,v6] (Fm M fa wa fs r):=by
        intro b hb hb2;refine fP λN2 fi=>?_;have fin:=λfs' h1 h2=>fi _ _ (rest fs' h1 h2);cases b with
        | false=>
          have:∀x,hd=.var x->x∈bs:=λx e=>(by subst e;exact absurd rfl (of_decide_eq_false hb));rw[SP]at fin ⊢;refine⟨_,cW,aT ?_⟩;rw[hb];exact ax (by decide) (ax (by decide) (fin fs (YR _) (no this)))
        | true=>
          obtain⟨x,rfl⟩:=hb2 rfl;have e0:cs=[]:=List.length_eq_zero_iff.mp kk;subst e0;refine⟨_,rfl,aT (aP (by decide) ⟨_,rfl,BC ?_⟩)⟩;by_cases hx:x∈bs
          · rw[decide_eq_true hx];exact ax (by decide) (fin fs (YR _) (no λy e=>by cases e;exact hx))
          · rw[decide_eq_false hx];refine aP rfl ⟨.inl ⟨rfl,_,Fm.f fX⟩,_,rfl,_,Fm.f fX,?_,?_⟩
            · refine W6 (?_:_<=200000) (by decide);rw[WQ];lia
            · have := fin (fs ++ [x]) (by simp) fun y => sp (by
                rw[Yj,List.mem_singleton];exact⟨λz=>z.imp id λz=>by subst z;exact⟨rfl,hx⟩,λz=>z.imp id λz=>by cases z.1;rfl⟩)
              rw[<- Fm.VR fX (fs:=fs),W']at this;exact this
      refine go _ rfl λhb=>?_;have hb:=of_decide_eq_true hb;cases hd with
      |var x=>exact⟨x,rfl⟩
      |bd f x=>exact absurd hb ((by decide +kernel:∀f,bw f≠"var") f)
      |row fs=>exact absurd hb (by decide +kernel:("row" : Str)≠"var")
      | o wd ds=>
        exfalso;have key:((fS++fe++dm).all λw=>decide (w≠"var"))=true:=(by decide +kernel);refine of_decide_eq_true (List.all_eq_true.mp key wd ?_) hb;rcases kk.2 with h |h |h
        · exact W5 _ (W5 _ h.1)
        · exact W5 _ (Xf _ h.1)
        · exact Xf _ h.1
  exact key 100001 [] [(q,[])] none none none none (by unfold dn;simp;lia) (by unfold dn;simp;lia) (λv hv=>by rw[List.mem_singleton.mp hv];exact⟨ok,hh⟩) λx=>⟨λz=>.inr ⟨_,List.mem_singleton.mpr rfl,z,by simp⟩,λz=>z.elim (λz=>nomatch z) λ⟨v,hv,z⟩=>by rw[List.mem_singleton.mp hv]at z;exact z.1⟩
noncomputable def Mx:B:=(.cons (.ex (.dk 2 (.v 0) (.cons (.call 6 (.cons (.v 1) (.cons (.dk 3 (.v 0) (.cons (.bi .len (.cons (.call 5 (.cons (.v 1) .nil)) .nil)) .nil)) .nil))) .nil))) .nil)
theorem My:aJ ["walk","question","around"] ["walk","question","around"] (ah (top 30)):=⟨rfl,rfl,rfl,by decide +kernel,rfl,by decide +kernel,by decide +kernel⟩
theorem Mz:aO nm 40 ["walk","question","around"] (ah (top 30)) (aD (top 30))=Mx:=by kernel_rfl
def BL(w:Wo):Sp:=λds M Q _=>∃M0 x a b ws fs h cs es r,ds=[.ref x,rD (.nd h cs),r]/\M=Wm M0 a b ws (fs++es.map rD)/\Wc (w.ca 0) M0 x a b/\Hk h cs.length/\es.length=cs.length/\fs.length<1000000/\Q .ai (Wm M0 a b ws (fs++[rD (.nd h es)]))
theorem MA(O:Lw w):FO w 17 2 (BL w):=by
 refine a8 O.ok O.hn _ ⟨"finish",top 30,["walk","question","around"]⟩ (by rw[O.hd];rfl) { cs:=[(5,pI),(6,Bx)],ms:=[(2,uB w),(3,Bu w)] } { cs:=⟨⟨1,WU _,pJ O⟩,⟨1,WU _,Me O⟩,trivial⟩,ms:=⟨⟨1,WU _,Bt O⟩,⟨1,WU _,L4 O⟩,trivial⟩ } My Mz λds M Q _ h=>?_;obtain⟨M0,x,a,b,ws,fs,h,cs,es,r,rfl,rfl,W,k,hl,hf,hq⟩:=h;obtain⟨dx,hx⟩:=W.Tc (ws:=ws) (fs:=fs++es.map rD);obtain⟨dy,hy⟩:=W.Tc (ws:=ws) (fs:=fs);have lt:=k.lt;refine⟨rfl,_,dx,_,hx,(O.mc _ (by decide)).symm,e8 (by decide +kernel) (by decide +kernel),?_⟩;refine⟨_,dx,_,hx,(O.mc _ (by decide)).symm,e8 (by decide +kernel) (by decide +kernel),h,cs,rfl,k,?_⟩;refine⟨x,a,b,dx,_,fs,es.map rD,rfl,hx,Wm.gb,by rw[WQ,WQ,hl],by rw[WQ];lia,?_⟩;rw[Wm.pb];refine⟨h,cs,es,rfl,k,hl,?_⟩;refine⟨x,a,b,dy,_,fs,rfl,hy,Wm.gb,Xz hf (by decide),?_⟩;rw[Wm.pb];exact aw hq
end K47
end
section
namespace K47
open PySem N NQ QT
open L2
variable{w:Wo}
mutual
noncomputable def lv:D->List D
 |.tup ds=>bK ds
 |.ai=>[.ai] |.bl b=>[.bl b] |.int i=>[.int i] |.str x=>[.str x] |.ref a=>[.ref a] |.ty n=>[.ty n] |.lst ds=>[.lst ds] |.ag ks ds=>[.ag ks ds]
noncomputable def bK:List D->List D
 |[]=>[]
 |d::r=>lv d++bK r
end
theorem BM:∀{a b:List D},bK (a++b)=bK a++bK b
 |[],b=>rfl
 |d::a,b=>by rw[YL,bK,bK,BM,X6]
mutual
theorem BN:∀{d:D},aE d=true->(∀e∈lv d,(∃x,e=.str x/\x∈aq d)\/∃i,e=.int i)/\(∀x∈aq d,D.str x∈lv d)/\(lv d).length<=sz d
 |.str x,_=>by
  rw[lv,aq,sz];exact⟨λe he=>.inl ⟨x,List.mem_singleton.mp he,by simp⟩,λy hy=>by rw[List.mem_singleton.mp hy];simp,by simp⟩
 |.int i,_=>by
  rw[lv,sz];exact⟨λe he=>.inr ⟨i,List.mem_singleton.mp he⟩,λy hy=>by simp [aq]at hy,by simp⟩
 |.tup ds,h=>by
  rw[aE]at h;obtain⟨h1,h2,h3⟩:=BO h;rw[lv,aq,sz];exact⟨h1,h2,by lia⟩
 |.ai,h=>by rw[aE]at h;cases h
 |.bl _,h=>by rw[aE]at h;cases h
 |.ref _,h=>by rw[aE]at h;cases h
 |.ty _,h=>by rw[aE]at h;cases h
 |.lst _,h=>by rw[aE]at h;cases h
 |.ag _ _,h=>by rw[aE]at h;cases h
theorem BO:∀{ds:List D},a4 ds=true->(∀e∈bK ds,(∃x,e=.str x/\x∈aL ds)\/∃i,e=.int i)/\(∀x∈aL ds,D.str x∈bK ds)/\(bK ds).length<=aG ds
 |[],_=>by rw[bK,aL,aG];exact⟨λe h=>(nomatch h),λx h=>(nomatch h),WU _⟩
 |d::r,h=>by
  rw[a4,WT]at h;obtain⟨h1,h2,h3⟩:=BN h.1;obtain⟨g1,g2,g3⟩:=BO h.2;rw[bK,aL,aG];refine⟨λe he=>?_,λx hx=>?_,by rw[W3];lia⟩
  ·rcases List.mem_append.mp he with z |z
   ·exact (h1 e z).imp (λ⟨x,a,b⟩=>⟨x,a,W5 _ b⟩) id
   ·exact (g1 e z).imp (λ⟨x,a,b⟩=>⟨x,a,Xf _ b⟩) id
  ·rcases List.mem_append.mp hx with z |z
   ·exact W5 _ (h2 x z)
   ·exact Xf _ (g2 x z)
end
def uO:Sp:=λas M Q _=>∃d,as=[d]/\Q d M
noncomputable def mH:B:=.cons (.ret (.v 2)) .nil
noncomputable def iC:B:=.cons (.fK (.v 3) (.cons (.set (.one 4) (.mt .pop (.v 3) .nil)) (.cons (.cond (.bi .ia (.cons (.v 4) (.cons (.ty "tuple") .nil))) (.cons (.ex (.mt .extend (.v 3) (.cons (.rev (.app (.v 1) (.cons (.v 4) .nil))) .nil))) .nil) (.cons (.ex (.mt .append (.v 2) (.cons (.v 4) .nil))) .nil)) .nil))) mH
noncomputable def MB:B:=.cons (.set (.one 3) (.lst (.cons (.v 0) .nil))) iC
noncomputable def MC:B:=.cons (.set (.one 2) (.lst .nil)) MB
theorem MD:aJ ["whole","parts_of","found","waiting","part"] ["whole","parts_of"] (ah (top 9)):=⟨rfl,rfl,rfl,by decide +kernel,rfl,by decide +kernel,by decide +kernel⟩
theorem ME:aO nm 40 ["whole","parts_of","found","waiting","part"] (ah (top 9)) (aD (top 9))=MC:=by kernel_rfl
def MF(f:Addr):Sp:=λds M Q _=>∃d,ds=[d,.ref f]/\aE d=true/\sz d<=1000000/\Q (.lst (lv d)) M
noncomputable abbrev SM(w:Wo)(f:Addr):a5 w:={ ca:=λg sp=>g=f/\sp=uO }
theorem MG(O:Lw w){f:Addr}(hf:hO w.G 1 f uO):FO w 4 2 (MF f):=by
 refine a8 O.ok O.hn _ ⟨"unfolded",top 9,["whole","parts_of"]⟩ (by rw[O.hd];rfl) (SM w f) { cs:=trivial,ca:=?_ } MD ME λds M Q _ h=>?_
 ·rintro g sp ⟨rfl,rfl⟩;exact hf
 obtain⟨SJ,rfl,ht,hz,h⟩:=h;refine⟨rfl,W9 _,.inr λfa jk=>⟨l1,.inr λwa eH=>⟨1000001,?_⟩⟩⟩;have fX:fa≠wa:=by rintro rfl;rw[ak]at eH;cases eH
 have uM:M wa=none:=by rw[aj (XC fX)]at eH;exact eH
 have key:∀(m:Nat)(fs ws:List D)v4,aG ws<m->fs.length+aG ws<=1000000->a4 ws=true->lv SJ=fs++bK ws.reverse ->
   b8 (E.w (SM w f).wd nm.af (dH (a6 iC))).2 (B.w (SM w f).wd nm.af (ck (a6 iC))) { nx:=fun τ M=>B.w (SM w f).wd nm.af mH (aB Q) τ M,rt:=(aB Q).rt } m [some SJ,some (.ref f),some (.ref fa),some (.ref wa),v4] (up (up M fa (.lst fs)) wa (.lst ws)):=by
  intro m
  induction m with
  |zero=>intro fs ws v4 h;lia
  |succ m ih=>
   intro fs ws v4 h1 h2 hw hq;rcases List.eq_nil_or_concat ws with z |⟨r,d,z⟩
   ·subst z;refine .inl ⟨_,ak,ax (by decide) ?_⟩;have:lv SJ=fs:=(by rw[hq];simp [bK]);rw[this]at h;exact AR (kn (kn .rfl jk rfl) uM rfl) jk (by rw[aj fX,ak]) h
   subst z;rw[List.concat_eq_append]at h1 h2 hw hq ⊢;have lr:=uk r;rw[ky,aG,aG,Nat.add_zero]at h1 h2;have hr:a4 r=true/\aE d=true:=by
    have app:∀{a b:List D},a4 (a++b)=(a4 a && a4 b):=λ{a b}=>by
     induction a with
     |nil=>rfl
     |cons x a ih=>rw[YL,a4,a4,ih,Bool.and_assoc]
    rw[app,WT,a4,WT]at hw;exact⟨hw.1,hw.2.1⟩
   rw[List.reverse_append,List.reverse_singleton,List.singleton_append,bK]at hq;have bn:(!(r++[d]).isEmpty)=true:=(by simp);refine .inl ⟨_,ak,?_⟩;rw[bn];refine aP rfl ⟨.inl ⟨rfl,_,ak⟩,_,ak,d,by simp,?_⟩;have e1:up (up (up M fa (.lst fs)) wa (.lst (r++[d]))) wa (.lst (r++[d]).dropLast)=up (up M fa (.lst fs)) wa (.lst r):=(by rw[_root_.N.bQ,Za]);rw[e1];have leaf:lv d=[d]->r9 d "tuple"=some false->B.w (SM w f).wd nm.af (ik (ck (a6 iC))) { nx:=b8 (E.w (SM w f).wd nm.af (dH (a6 iC))).2 (B.w (SM w f).wd nm.af (ck (a6 iC))) { nx:=fun τ M=>B.w (SM w f).wd nm.af mH (aB Q) τ M,rt:=(aB Q).rt } m,rt:=(aB Q).rt,ct:=b8 (E.w (SM w f).wd nm.af (dH (a6 iC))).2 (B.w (SM w f).wd nm.af (ck (a6 iC))) { nx:=fun τ M=>B.w (SM w f).wd nm.af mH (aB Q) τ M,rt:=(aB Q).rt } m,SD:=fun τ M=>B.w (SM w f).wd nm.af mH (aB Q) τ M }
     [some SJ,some (.ref f),some (.ref fa),some (.ref wa),some d] (up (up M fa (.lst fs)) wa (.lst r)):=λe2 e3=>by
    have hz:=A8 d;have BP:up (up M fa (.lst fs)) wa (.lst r) fa=some (.lst fs):=(by rw[aj fX,ak]);refine⟨false,e3,.inl ⟨rfl,_,BP⟩,_,BP,W6 (by lia:_<=1000000) (by decide),?_⟩;have:=ih (fs++[d]) r (some d) (by lia) (by rw[W3,List.length_singleton];lia) hr.1 (by rw[hq,e2,X6]);have e4:up (up (up M fa (.lst fs)) wa (.lst r)) fa (.lst (fs++[d]))=up (up M fa (.lst (fs++[d]))) wa (.lst r):=by
     rw[oS (XC fX),_root_.N.bQ]
    rw[e4];exact this
   cases d with
   |tup ds=>
    refine⟨true,rfl,.inl ⟨rfl,_,ak⟩,_,⟨rfl,rfl⟩,_,rfl,?_⟩;rw[sz]at h1 h2;rw[aE]at hr;refine⟨_,ak,?_,?_⟩
    ·have:=uk ds;refine W2 (?_:_<=2000000) (by decide);rw[YD];lia
    ·have tr:∀{a:List D},a4 a=true->a4 a.reverse=true:=λ{a}h=>mm λd hd=>by
      have key:∀{a:List D},a4 a=true->∀d∈a,aE d=true:=by
       intro a
       induction a with
       |nil=>exact λ_ d hd=>nomatch hd
       |cons x a ih=>
        intro h d hd;rw[a4,WT]at h;rcases List.mem_cons.mp hd with rfl |hd
        ·exact h.1
        ·exact ih h.2 d hd
      exact key h d (List.mem_reverse.mp hd)
     have app:∀{a b:List D},a4 a=true->a4 b=true->a4 (a++b)=true:=λ{a b}ha hb=>by
      induction a with
      |nil=>exact hb
      |cons x a ih=>rw[a4,WT]at ha;rw[YL,a4,ha.1,ih ha.2];rfl
     have:=ih fs (r++ds.reverse) (some (.tup ds)) (by rw[ky,um];lia) (by rw[ky,um];lia) (app hr.1 (tr hr.2)) (by rw[hq,lv,List.reverse_append,List.reverse_reverse,BM]);rw[_root_.N.bQ];exact this
   |str x=>exact leaf rfl rfl
   |int i=>exact leaf rfl rfl
   |ai=>exact nomatch hr.2
   |bl b=>exact nomatch hr.2
   |ref a=>exact nomatch hr.2
   |ty a=>exact nomatch hr.2
   |lst a=>exact nomatch hr.2
   |ag a b=>exact nomatch hr.2
 exact key 1000001 [] [SJ] none (by rw[aG,aG];lia) (by rw[aG,aG];simp;lia) (by rw[a4,a4,ht];rfl) (by simp [bK])
variable{w:Wo}
theorem pM{kvs:List (Key×D)}{k c:Key}{v:D}:aK (aZ kvs k v) c=if c=k then some v else aK kvs c:=by
 unfold aZ;split
 ·rename_i h;unfold aK
  induction kvs with
  |nil=>cases h
  |cons p r ih=>
   rw[W0,Yo,Yo];by_cases hp:p.1=k
   ·rw[if_pos hp];by_cases hc:c=k
    ·subst hc;simp [hp]
    ·have n1:¬p.1=c:=λe=>hc (e.symm.trans hp);rw[if_neg hc];simp only[n1,decide_false];cases z:r.any (λkv=>decide (kv.1=k)) with
     |true=>have:=ih z;rw[if_neg hc]at this;exact this
     |false=>
      congr 1
      have:r.map (λkv=>if kv.1=k then (kv.1,v) else kv)=r:=by
       have key:∀q∈r,(if q.1=k then (q.1,v) else q)=q:=λq hq=>by
        rw[if_neg];intro e;have:=List.any_eq_false.mp z q hq;exact this (decide_eq_true e)
       rw[List.map_congr_left key,List.map_id']
      rw[this]
   ·rw[if_neg hp];by_cases hc:p.1=c
    ·have:¬c=k:=λe=>hp (hc.trans e);rw[if_neg this];simp [hc]
    ·simp only[hc,decide_false];rw[List.any_cons,Bool.or_eq_true]at h;exact ih (h.resolve_left (by simpa using hp))
 ·rename_i h;unfold aK;rw[List.find?_append];by_cases hc:c=k
  ·subst hc;rw[if_pos rfl];have:kvs.find? (λkv=>decide (kv.1=c))=none:=by
    rw[List.find?_eq_none];intro q hq e;exact h (List.any_eq_true.mpr ⟨q,hq,e⟩)
   rw[this];simp
  ·have:¬k=c:=λe=>hc e.symm;rw[if_neg hc];cases z:kvs.find? (λkv=>decide (kv.1=c)) with
   |some q=>rfl
   |none=>simp [this]
def Ks(kvs:List (Key×D))(T:Tn):Prop:=∀x:Str,(aK kvs (.inr x)).isSome=decide (x∈T)
theorem Ks.put{kvs:List (Key×D)}{T:Tn}(h:Ks kvs T)(y:Str)(v:D):Ks (aZ kvs (.inr y) v) (T++[y]):=λx=>by
 rw[pM];by_cases e:x=y
 ·subst e;simp
 ·have:¬(XW x:Key)=XW y:=λz=>e (YK z);rw[if_neg this,h x];simp [e]
theorem BQ{f:Str->D}:∀{zs:List Str}{acc:List (Key×D)}{T:Tn},Ks acc T->Ks ((zs.map λx=>((XW x:Key),f x)).foldl (λa kv=>aZ a kv.1 kv.2) acc) (T++zs)
 |[],acc,T,h=>by rw[Xc];exact h
 |z::zs,acc,T,h=>by
  have:=BQ (f:=f) (zs:=zs) (h.put z (f z));rw[X6]at this;exact this
theorem uP:∀{zs acc:List (Key×D)},(zs.foldl (λa kv=>aZ a kv.1 kv.2) acc).length<=acc.length+zs.length
 |[],acc=>WU _
 |z::zs,acc=>by
  have:=@uP zs (aZ acc z.1 z.2);have:=jK acc z.1 z.2;rw[List.foldl_cons,Xe];lia
theorem MH:aJ ["question"] ["question"] (ah (top 23)):=⟨rfl,rfl,rfl,by decide +kernel,rfl,by decide +kernel,by decide +kernel⟩
def uQ:Sp:=λds M Q _=>∃d,ds=[d]/\aE d=true/\sz d<=1000000/\∀p kvs,M p=none->Ks kvs (aq d)->kvs.length<=sz d->Q (.ref p) (up M p (.ag kvs))
noncomputable def b5(ds:List D):List Str:=ds.filterMap λd=>match d with
 |.str x=>some x
 |_=>none
theorem BR(O:Lw w):FO w 11 3 uQ:=by
 refine KW O.ok O.hn (kl:=0) (n:=30) (nl:=30) (ns:=["question"]) (lps:=["knot"]) (as:=[pN.TZ]) (es:=.cons (.v 0) .nil) (el:=.v 0) (ec:=.bi .ia (.cons (.v 0) (.cons (.ty "str") .nil))) (ee:=.tup (.cons (.v 0) (.cons (.c (.bl true)) .nil))) (tG:=.one 0) (eE:=uO) 11 4 ⟨"names_in",top 23,["question"]⟩ (by rw[O.hd];rfl) hN (λf fd q=>O.T2 f fd q) {} { cs:=trivial } MH
  (λ_ _ _ _=>rfl) (λ_ _ _ _=>rfl) (by kernel_rfl) (by kernel_rfl) (by kernel_rfl) (by kernel_rfl) (by kernel_rfl) (by kernel_rfl) ⟨by kernel_rfl,by kernel_rfl,by kernel_rfl,by decide +kernel,by decide +kernel,by decide +kernel,by decide +kernel⟩ (by decide +kernel) (λq pm c cy K=>bO.all λus h=>?_) (by kernel_rfl) (λe l=>⟨{},{ cs:=trivial },λds M Q E hs=>?_⟩)
  (by kernel_rfl) (by kernel_rfl) (by kernel_rfl) (by decide +kernel) (by kernel_rfl) (by kernel_rfl) λds M Q E hs=>?_
 ·match us,h with
  |[_],_=>rfl
 ·obtain⟨x,rfl,q⟩:=hs;exact⟨rfl,aw q⟩
 ·obtain⟨d,rfl,ht,hz,q⟩:=hs;refine⟨rfl,λe f l hh=>⟨_,MG (O.at l) hh,d,rfl,ht,hz,?_⟩⟩;obtain⟨l1,l2,l3⟩:=BN ht;show cb _ _ _ _ (di (List.map (·.1) (eu pN.tg)).length (ew ["question"] pN.sc.names) _) _ _ _ _;have eN:(List.map (·.1) (eu pN.tg)).length=1:=by kernel_rfl
  have Uu:ew ["question"] pN.sc.names=[]:=by kernel_rfl
  rw[eN,Uu];refine dU (λxs ys M'=>M'=M/\∃done,lv d=done++xs/\ys=(b5 done).map λx=>D.tup [.str x,.bl true]) ?_ ?_ _ _ _ ⟨rfl,[],rfl,rfl⟩
  ·rintro ys M' ⟨rfl,done,e,rfl⟩;rw[Xc]at e;subst e;have len:((b5 (lv d)).map λx=>D.tup [.str x,.bl true]).length<=sz d:=by
    rw[WQ];exact W2 (List.length_filterMap_le _ _) l3
   refine⟨trivial,W6 (W2 len hz) (by decide),.inl (.inr ?_)⟩;refine⟨(b5 (lv d)).map λx=>((.inr x:Key),D.bl true),by rw[X7];rfl,.inr λp hp=>aw (q p _ hp ?_ ?_)⟩
   ·intro x;have:=BQ (f:=λ_=>D.bl true) (zs:=b5 (lv d)) (acc:=[]) (T:=[]) (λx=>rfl) x;rw[List.nil_append]at this;refine this.trans (decide_eq_decide.mpr ⟨λh=>?_,λh=>List.mem_filterMap.mpr ⟨_,l2 x h,rfl⟩⟩);obtain⟨e,h1,h2⟩:=List.mem_filterMap.mp h;rcases l1 e h1 with ⟨y,rfl,hy⟩ |⟨i,rfl⟩
    ·cases h2;exact hy
    ·cases h2
   ·have:=uP (zs:=(b5 (lv d)).map λx=>((.inr x:Key),D.bl true)) (acc:=[]);rw[WQ]at this len;exact W2 this (by simpa using len)
  ·rintro x xs ys M' ⟨rfl,done,e,rfl⟩;have len:((b5 done).map λx=>D.tup [.str x,.bl true]).length<=sz d:=by
    rw[WQ];refine W2 (List.length_filterMap_le _ _) (W2 ?_ l3);rw[e,W3];lia
   refine⟨trivial,W6 (W2 len hz) (by decide),λN hN=>?_⟩;rcases l1 x (by rw[e];simp) with ⟨y,rfl,hy⟩ |⟨i,rfl⟩
   ·refine⟨true,rfl,?_⟩;refine⟨(by decide:2<=sizeLine),?_⟩;exact hN _ _ ⟨rfl,done++[.str y],by rw[e];simp,by unfold b5;rw[List.filterMap_append,W'];rfl⟩
   ·refine⟨false,rfl,?_⟩;show N _ M';exact hN _ _ ⟨rfl,done++[.int i],by rw[e];simp,by unfold b5;rw[List.filterMap_append];simp⟩
variable{w:Wo}
theorem Lw.fp(O:Lw w):w.fl (w.ca 1) "line"/\w.fl (w.ca 1) "path"/\w.fl (w.ca 1) "anew"/\w.fl (w.ca 1) "around":=⟨O.f1 _ (by simp),O.f1 _ (by simp),O.f1 _ (by simp),O.f1 _ (by simp)⟩
theorem Lw.fs(O:Lw w):w.fl (w.ca 2) "place"/\w.fl (w.ca 2) "more"/\w.fl (w.ca 2) "taken":=⟨O.f2 _ (by simp),O.f2 _ (by simp),O.f2 _ (by simp)⟩
noncomputable def mI(q:D):List (Str×D):=[("line",.lst [q]),("path",.tup []),("anew",.lst [.bl false]),("around",.lst [])]
noncomputable def MI:B:=.cons (.dT (.v 0) "around" (.lst .nil)) .nil
noncomputable def MJ:B:=.cons (.dT (.v 0) "anew" (.lst (.cons (.c (.bl false)) .nil))) MI
noncomputable def MK:B:=.cons (.dT (.v 0) "path" (.tup .nil)) MJ
noncomputable def ML:B:=.cons (.dT (.v 0) "line" (.lst (.cons (.v 1) .nil))) MK
theorem MM:aJ ["self","question"] ["self","question"] (ah (aN (top 19) 0)):=⟨rfl,rfl,rfl,by decide +kernel,rfl,by decide +kernel,by decide +kernel⟩
theorem MN:aO nm 40 ["self","question"] (ah (aN (top 19) 0)) (aD (aN (top 19) 0))=ML:=by kernel_rfl
noncomputable def MP:B:=.cons (.ret (.v 2)) .nil
noncomputable def MQ:B:=.cons (.cond (.fld (.v 0) "around") (.cons (.ex (.mt .update (.v 2) (.cons (.ix (.fld (.v 0) "around") (.neg (.c (.int 1)))) .nil))) .nil) .nil) MP
noncomputable def MR:B:=.cons (.set (.one 2) (.call 11 (.cons (.ix (.fld (.v 0) "line") (.neg (.c (.int 1)))) .nil))) MQ
noncomputable def MS:B:=.cons (.fK (.cmp .Lt (.bi .len (.cons (.fld (.v 0) "around") .nil)) (.bi .len (.cons (.fld (.v 0) "path") .nil))) (.cons (.set (.one 1) (.bi .len (.cons (.fld (.v 0) "around") .nil))) (.cons (.set (.one 2) (.ite (.fld (.v 0) "around") (.bi .dict (.cons (.ix (.fld (.v 0) "around") (.neg (.c (.int 1)))) .nil)) .sS)) (.cons (.ex (.mt .update (.v 2) (.cons (.call 11 (.cons (.call 10 (.cons (.ix (.fld (.v 0) "line") (.v 1)) (.cons (.ix (.fld (.v 0) "path") (.v 1)) (.cons (.tup .nil) .nil)))) .nil)) .nil))) (.cons (.ex (.mt .append (.fld (.v 0) "around") (.cons (.v 2) .nil))) .nil))))) MR
theorem MT:aJ ["self","level","names"] ["self"] (ah (aN (top 19) 7)):=⟨rfl,rfl,rfl,by decide +kernel,rfl,by decide +kernel,by decide +kernel⟩
theorem MU:aO nm 40 ["self","level","names"] (ah (aN (top 19) 7)) (aD (aN (top 19) 7))=MS:=by kernel_rfl
noncomputable def MV:B:=.cons (.dT (.v 0) "taken" (.c .ai)) .nil
noncomputable def MW:B:=.cons (.dT (.v 0) "more" (.v 2)) MV
noncomputable def MX:B:=.cons (.dT (.v 0) "place" (.v 1)) MW
theorem MY:aJ ["self","place","more"] ["self","place","more"] (ah (aN (top 22) 0)):=⟨rfl,rfl,rfl,by decide +kernel,rfl,by decide +kernel,by decide +kernel⟩
theorem MZ:aO nm 40 ["self","place","more"] (ah (aN (top 22) 0)) (aD (aN (top 22) 0))=MX:=by kernel_rfl
noncomputable def M4:B:=.cons (.ret (.v 1)) .nil
noncomputable def M5:B:=.cons (.put (.fld (.v 0) "taken") (.v 1) (.c (.bl true))) M4
noncomputable def BS:B:=.cons (.set (.one 1) (.call 2 (.cons (.fld (.v 0) "taken") .nil))) M5
noncomputable def M6:B:=.cons (.cond (.cmp .Is (.fld (.v 0) "taken") (.c .ai)) (.cons (.dT (.v 0) "taken" (.dk 12 (.fld (.v 0) "place") .nil)) (.cons (.ex (.mt .update (.fld (.v 0) "taken") (.cons (.fld (.v 0) "more") .nil))) .nil)) .nil) BS
theorem M7:aJ ["self","name"] ["self"] (ah (aN (top 22) 1)):=⟨rfl,rfl,rfl,by decide +kernel,rfl,by decide +kernel,by decide +kernel⟩
theorem M8:aO nm 40 ["self","name"] (ah (aN (top 22) 1)) (aD (aN (top 22) 1))=M6:=by kernel_rfl
def BU(w:Wo):Sp:=λds M Q _=>∃x q dx,ds=[.ref x,q]/\M x=some (.ins (w.ca 1) dx [])/\Q .ai (up M x (.ins (w.ca 1) dx (mI q)))
theorem M9(O:Lw w):bZ w 5 1 (BU w):=by
 refine gD O.ok O.hn _ ⟨"__init__",(aN (top 19) 0),["self","question"]⟩ (by rw[O.hms];rfl) {} { cs:=trivial } MM MN λds M Q _ h=>?_;obtain⟨x,q,dx,rfl,hx,h⟩:=h;refine⟨rfl,(by decide:1<=sizeLine),.inl ⟨_,dx,_,hx,O.fp.1,by decide,?_⟩⟩;refine⟨W9 _,_,dx,_,ak,O.fp.2.1,(by decide:1<1000),?_⟩;refine⟨(by decide:1<=sizeLine),.inl ⟨_,dx,_,ak,O.fp.2.2.1,(by decide:2<1000),?_⟩⟩;refine⟨W9 _,.inl ⟨_,dx,_,ak,O.fp.2.2.2,(by decide:3<1000),aw ?_⟩⟩;rw[_root_.N.bQ,_root_.N.bQ,_root_.N.bQ];exact h
def BV(w:Wo):Sp:=λds M Q _=>∃x pl mo dx,ds=[.ref x,pl,mo]/\M x=some (.ins (w.ca 2) dx [])/\Q .ai (up M x (.ins (w.ca 2) dx [("place",pl),("more",mo),("taken",.ai)]))
theorem Na(O:Lw w):bZ w 13 1 (BV w):=by
 refine gD O.ok O.hn _ ⟨"__init__",(aN (top 22) 0),["self","place","more"]⟩ (by rw[O.hms];rfl) {} { cs:=trivial } MY MZ λds M Q _ h=>?_;obtain⟨x,pl,mo,dx,rfl,hx,h⟩:=h;refine⟨rfl,_,dx,_,hx,O.fs.1,by decide,_,dx,_,ak,O.fs.2.1,(by decide:1<1000),_,dx,_,ak,O.fs.2.2,(by decide:2<1000),aw ?_⟩;rw[_root_.N.bQ,_root_.N.bQ];exact h
def uR(w:Wo):Sp:=λds M Q _=>∃x q dx,ds=[.ref x]/\M x=some (.ins (w.ca 1) dx (mI q))/\aE q=true/\sz q<=1000000/\∀p kvs,M p=none->Ks kvs (aq q)->kvs.length<=sz q->Q (.ref p) (up M p (.ag kvs))
theorem Nb(O:Lw w):bZ w 12 4 (uR w):=by
 refine gD O.ok O.hn _ ⟨"names",(aN (top 19) 7),["self"]⟩ (by rw[O.hms];rfl) { cs:=[(11,uQ)] } { cs:=⟨⟨3,WU _,BR O⟩,trivial⟩ } MT MU λds M Q _ h=>?_;obtain⟨x,q,dx,rfl,hx,ht,hz,h⟩:=h;refine⟨rfl,1,?_⟩;refine⟨_,dx,_,hx,.lst [],O.fp.2.2.2,rfl,?_⟩;refine⟨_,dx,_,hx,.tup [],O.fp.2.1,rfl,?_⟩;refine⟨_,dx,_,hx,.lst [q],O.fp.1,rfl,_,rfl,q,rfl,ht,hz,λp kvs hp hk hl=>?_⟩;have VT:x≠p:=bR hx hp;refine⟨_,dx,mI q,by rw[aj VT];exact hx,.lst [],O.fp.2.2.2,rfl,?_⟩;exact aw (h p kvs hp hk hl)
theorem uS{U:Tn}:∀{more:List (Key×D)}{kvs:List (Key×D)}{T:Tn},Ks kvs T->∀x:Str,(aK (eY kvs more) (.inr x)).isSome=(decide (x∈T) ||(aK more (.inr x)).isSome)
 |[],kvs,T,h,x=>by rw[show eY kvs []=kvs from rfl,h x];exact (Bool.or_false _).symm
 |(k,v)::r,kvs,T,h,x=>by
  cases k with
  |inr y=>
   have ih:=uS (U:=U) (more:=r) (h.put y v) x;refine ih.trans ?_;unfold aK;rw[Yo];by_cases e:y=x
   ·subst e;simp
   ·have n1:¬(XW y:Key)=.inr x:=λz=>e (YK z);have n2:¬x=y:=λz=>e z.symm;simp [n1,n2]
  |inl i=>
   have h':Ks (aZ kvs (.inl i) v) T:=λz=>(by rw[pM,if_neg (λe=>nomatch e),h z]);refine (uS (U:=U) (more:=r) h' x).trans ?_;unfold aK;rw[Yo];have n1:¬(Sum.inl i:Key)=.inr x:=λz=>nomatch z;simp [n1]
inductive Ss(w:Wo)(q0:D)(U:Tn)(M:Mp)(x:Addr)(T:Tn):Prop
 |no {dx pl mo SW kvs}:M x=some (.ins (w.ca 2) dx [("place",.ref pl),("more",.ref mo),("taken",.ai)])->M pl=some (.ins (w.ca 1) SW (mI q0))->M mo=some (.ag kvs)->Ks kvs U->kvs.length<=100000->T=aq q0++U->Ss w q0 U M x T
 |yes {dx pl mo tk kvs}:M x=some (.ins (w.ca 2) dx [("place",pl),("more",mo),("taken",.ref tk)])->M tk=some (.ag kvs)->Ks kvs T->kvs.length<=300000+T.length->Ss w q0 U M x T
def Pn(w:Wo)(M:Mp)(x c:Addr):Prop:=c≠x/\∀dx pl mo tk,M x=some (.ins (w.ca 2) dx [("place",pl),("more",mo),("taken",.ref tk)])->c≠tk
structure Sy(w:Wo)(E:Addr->Prop)(M:Mp)(x:Addr)(M':Mp):Prop where
 k:∀c o,M c=some o->Pn w M x c->¬E c->M' c=some o/\Pn w M' x c
 d:∀c,M c≠none->M' c≠none
 o:∀c e,M' c=some (.own e)->M e≠none->M c=some (.own e)
theorem Sy.rfl{E:Addr->Prop}{M:Mp}{x:Addr}:Sy w E M x M:=⟨λ_ _ h g _=>⟨h,g⟩,λ_ h=>h,λ_ _ h _=>h⟩
theorem Sy.tr{E:Addr->Prop}{M M1 M2:Mp}{x:Addr}(h:Sy w E M x M1)(g:Sy w E M1 x M2):Sy w E M x M2:=
 ⟨λc o h1 h2 h3=>let ⟨a,b⟩:=h.k c o h1 h2 h3;g.k c o a b h3,λc z=>g.d c (h.d c z),λc e z1 z2=>h.o c e (g.o c e z1 (h.d e z2)) z2⟩
theorem kA{M:Mp}{p c e:Addr}{o:MO}(n:∀e,o≠.own e)(h:up M p o c=some (.own e)):M c=some (.own e):=by
 by_cases z:c=p
 ·subst z;rw[ak]at h;exact absurd (Xl h) (n e)
 ·rw[aj z]at h;exact h
theorem mJ{M:Mp}{p c:Addr}{o:MO}(h:M c≠none):up M p o c≠none:=by
 by_cases z:c=p
 ·subst z;rw[ak];exact λz=>nomatch z
 ·rw[aj z];exact h
def gN(w:Wo)(M:Mp)(x:Addr)(T:Tn):Prop:=∃dx pl mo tk kvs,M x=some (.ins (w.ca 2) dx [("place",pl),("more",mo),("taken",.ref tk)])/\M tk=some (.ag kvs)/\Ks kvs T/\kvs.length<=300000+T.length
def BW(w:Wo):Sp:=λds M Q _=>∃x q0 U T,ds=[.ref x]/\Ss w q0 U M x T/\aE q0=true/\sz q0<=100000/\Sm T/\T.length<100000/\∀M',gN w M' x (T++[fr T])->Sy w (λ_=>False) M x M'->Q (.str (fr T)) M'
theorem Nc(O:Lw w):bZ w 14 5 (BW w):=by
 refine gD O.ok O.hn _ ⟨"fresh",(aN (top 22) 1),["self"]⟩ (by rw[O.hms];rfl) { cs:=[(2,uw)],ms:=[(12,uR w)] } { cs:=⟨⟨3,by decide,LF O⟩,trivial⟩,ms:=⟨⟨4,WU _,Nb O⟩,trivial⟩ } M7 M8 λds M Q _ h=>?_;obtain⟨x,q0,U,T,rfl,S,ht,hz,sm,tl,h⟩:=h;refine⟨rfl,?_⟩;have back:∀(M':Mp)dx pl mo tk kvs,M' x=some (.ins (w.ca 2) dx [("place",pl),("more",mo),("taken",.ref tk)])->M' tk=some (.ag kvs)->Ks kvs T->kvs.length<=300000+T.length->(∀ c o,M c=some o->Pn w M x c->M' c=some o/\c≠x/\c≠tk)->(∀ c,M c≠none->M' c≠none)->(∀ c e,M' c=some (.own e)->M c=some (.own e)) ->
   B.w ({ cs:=[(2,uw)],ms:=[(12,uR w)] }:a5 w).wd nm.af BS (aB Q) [some (.ref x),none] M':=λM' dx pl mo tk kvs hx hk ks kl sy VU so=>by
  have ne:x≠tk:=by rintro rfl;rw[hx]at hk;cases hk
  refine⟨_,dx,_,hx,.ref tk,O.fs.2.2,rfl,tk,kvs,T,rfl,hk,ks,sm,?_⟩;refine⟨_,dx,_,hx,.ref tk,O.fs.2.2,rfl,?_⟩;refine .inr ⟨_,hk,W6 kl (Xj (by lia:_<400000) (by decide)),aw (h _ ⟨dx,pl,mo,tk,_,by rw[aj ne];exact hx,ak,ks.put _ _,?_⟩ ⟨λc o hc hp _=>?_,λc z=>mJ (VU c z),λc e z _=>so c e (kA (λ_ z=>by cases z) z)⟩)⟩
  ·have:(aZ kvs (.inr (fr T)) (C.bl true).d).length<=kvs.length+1:=jK _ _ _;rw[W3,List.length_singleton];lia
  ·obtain⟨e1,e2,e3⟩:=sy c o hc hp;refine⟨by rw[aj e3];exact e1,e2,λSi Sj Sk cR e=>?_⟩;rw[aj ne,hx]at e;cases e;exact e3
 cases S with
 |yes hx hk ks kl=>
  refine⟨_,_,_,hx,.ref _,O.fs.2.2,rfl,?_⟩;exact back M _ _ _ _ _ hx hk ks kl (λc o hc hp=>⟨hc,hp.1,hp.2 _ _ _ _ hx⟩) (λ_ z=>z) λ_ _ z=>z
 |@no dx pl mo SW kvs hx hp hm VV kl hT=>
  refine⟨_,_,_,hx,.ai,O.fs.2.2,rfl,?_⟩;refine⟨_,_,_,hx,.ref pl,O.fs.1,rfl,_,_,_,hp,(O.m1 _ (by decide) (by decide)).symm,rfl,pl,q0,SW,rfl,hp,ht,W2 hz (by decide),λp ks hn hk hl=>?_⟩;have nx:x≠p:=bR hx hn;have nm:mo≠p:=bR hm hn;have Nd:mo≠x:=by rintro rfl;rw[hx]at hm;cases hm
  refine⟨_,dx,[("place",.ref pl),("more",.ref mo),("taken",.ai)],by rw[aj nx];exact hx,O.fs.2.2,(by decide:3<1000),?_⟩;refine⟨_,dx,_,ak,.ref p,O.fs.2.2,rfl,.inr ⟨rfl,_,by rw[aj (XC nx)];exact ak⟩,?_⟩;refine⟨_,dx,_,ak,.ref mo,O.fs.2.1,rfl,?_⟩;refine⟨ks,kvs,XC nm,by rw[aj (XC nx)];exact ak,by rw[aj Nd,aj nm];exact hm,W2 (by lia:_<=200000) (by decide),?_⟩;refine back _ dx (.ref pl) (.ref mo) p (eY ks kvs) (by rw[aj nx];exact ak) ak (λy=>?_) (W2 (sJ _ _) (by lia)) (λc o hc BX=>?_) (λc z=>mJ (mJ (mJ z))) λc e z=>kA (λ_ z=>by cases z) (kA (λ_ z=>by cases z) (kA (λ_ z=>by cases z) z))
  ·rw[uS (U:=U) hk,VV,hT];by_cases e1:y∈aq q0 <;> by_cases e2:y∈U <;> simp [e1,e2]
  ·have cp:c≠p:=bR hc hn;exact⟨by rw[aj cp,aj BX.1,aj cp];exact hc,BX.1,cp⟩
def uT(sp:Sp):Sp:=λds M Q E=>∃K es,bD K M/\dC M K ds es/\sp es K Q E
theorem dC.len{M K:Mp}:∀{ds es:List D},dC M K ds es->ds.length=es.length
 |_,_,.rfl=>rfl
 |_,_,.cons _ h=>by rw[Xe,Xe,dC.len h]
theorem bj.lO{G:Gx}{k:Nat}{f:Addr}{fd:FuncData}{ps:List Str}{sp:Sp}(F:bj G k f fd ps sp):bj G k f fd ps (uT sp):=by
 refine⟨λds M Q E ⟨K,es,_,h2,h3⟩=>(dC.len h2).trans (F.len _ _ _ _ h3),λA outer z args us ds Q E hr he hb hv ⟨K,es,s,fz,hs⟩=>?_⟩;have l:=et (K:=K) he.hok;refine YG (F.eI A outer ⟨cV z.F z.M K z.s.heap,K,z.s⟩ args us es Q E hr ⟨he.frames,he.mod,he.bs.up l,λenv h=>?_,sM he.hok s,he.bare⟩ hb (fz.rel he.hok hv) hs) λr s q=>?_
 ·obtain⟨h1,L,o,h2,h3,h4⟩:=he.bY env h;exact⟨h1,L,o,h2,l _ _ h3,h4⟩
 ·cases r with
  |error e=>obtain⟨x,z',ld,xr,e⟩:=q;exact⟨x,z',⟨ld.s,l.tr ld.l,ld.ok,ld.os,ld.bare⟩,xr,e⟩
  |ok fl=>
   cases fl with
   |ret u=>obtain⟨d,z',ld,xr,e⟩:=q;exact⟨d,z',⟨ld.s,l.tr ld.l,ld.ok,ld.os,ld.bare⟩,xr,e⟩
   |next=>exact q
   |brk=>exact q
   |cont=>exact q
variable{w:Wo}
theorem bZ.lO{i k:Nat}{sp:Sp}(h:bZ w i k sp):bZ w i k (uT sp):=let ⟨d,f,fd,a,b,c⟩:=h;⟨d,f,fd,a,b,bj.lO c⟩
structure St(w:Wo)(q0:D)(U:Tn)(y x a b:Addr)(M:Mp)(ws fs:List D)(T:Tn):Prop where
 W:Wc (w.ca 0) M x a b
 ha:M a=some (.lst ws)
 hb:M b=some (.lst fs)
 s:Ss w q0 U M y T
theorem Ss.ne{q0:D}{U T:Tn}{M:Mp}{y a:Addr}{ws:List D}(s:Ss w q0 U M y T)(h:M a=some (.lst ws)):y≠a:=by
 rintro rfl;cases s with
 |no e=>rw[h]at e;cases e
 |yes e=>rw[h]at e;cases e
theorem Ss.pO{q0:D}{U T:Tn}{M:Mp}{y a:Addr}{ws ws':List D}(s:Ss w q0 U M y T)(h:M a=some (.lst ws)):Ss w q0 U (up M a (.lst ws')) y T:=by
 have ne:=s.ne h;have k:∀{c o},M c=some o->(∀xs,o≠.lst xs)->up M a (.lst ws') c=some o:=λ{c o}e n=>by
  rw[aj];exact e;rintro rfl;rw[h]at e;cases e;exact n _ rfl
 cases s with
 |no h1 h2 h3 h4 h5 h6=>exact .no (k h1 λ_ z=>by cases z) (k h2 λ_ z=>by cases z) (k h3 λ_ z=>by cases z) h4 h5 h6
 |yes h1 h2 h3 h4=>exact .yes (k h1 λ_ z=>by cases z) (k h2 λ_ z=>by cases z) h3 h4
def Ew(a b:Addr):Addr->Prop:=λc=>c=a\/c=b
section
variable{q0:D}{U:Tn}{y x a b:Addr}{M:Mp}{ws fs:List D}{T:Tn}
theorem Sy.BY{E:Addr->Prop}{c:Addr}{zs zs':List D}(s:Ss w q0 U M y T)(h:M c=some (.lst zs))(e:E c):Sy w E M y (up M c (.lst zs')):=
 ⟨λd o h1 h2 h3=>by
  have n:d≠c:=by rintro rfl;exact h3 e
  rw[aj n];refine⟨h1,h2.1,λdx pl mo tk q=>?_⟩;rw[aj (s.ne h)]at q;exact h2.2 _ _ _ _ q,λc z=>mJ z,λc e z _=>kA (λ_ z=>by cases z) z⟩
theorem St.pa{ws':List D}(h:St w q0 U y x a b M ws fs T):St w q0 U y x a b (up M a (.lst ws')) ws' fs T:=
 ⟨⟨let ⟨dx,e⟩:=h.W.hx;⟨dx,by rw[aj h.W.xa];exact e⟩,h.W.ne,h.W.xa,h.W.xb⟩,ak,by rw[aj (XC h.W.ne)];exact h.hb,h.s.pO h.ha⟩
theorem St.pb{fs':List D}(h:St w q0 U y x a b M ws fs T):St w q0 U y x a b (up M b (.lst fs')) ws fs' T:=
 ⟨⟨let ⟨dx,e⟩:=h.W.hx;⟨dx,by rw[aj h.W.xb];exact e⟩,h.W.ne,h.W.xa,h.W.xb⟩,by rw[aj h.W.ne];exact h.ha,ak,h.s.pO h.hb⟩
theorem St.sa{ws':List D}(h:St w q0 U y x a b M ws fs T):Sy w (Ew a b) M y (up M a (.lst ws')):=Sy.BY h.s h.ha (.inl rfl)
theorem St.sb{fs':List D}(h:St w q0 U y x a b M ws fs T):Sy w (Ew a b) M y (up M b (.lst fs')):=Sy.BY h.s h.hb (.inr rfl)
theorem St.eq(h:St w q0 U y x a b M ws fs T):M=Wm M a b ws fs:=by unfold Wm;rw[jh h.ha,jh h.hb]
end
noncomputable def bk(n:Str)(bs:List Str)(y:Addr):D:=.tup [.str n,.lst (bs.map D.str),.ref y]
noncomputable def dI(w:Wo)(q:Rt)(r:D):D:=.tup [.ref (gK w "begin"),rD q,r]
noncomputable def iD(w:Wo)(q:Rt)(r:D):D:=.tup [.ref (gK w "finish"),rD q,r]
section
variable(n:Str)(o:Rt)
noncomputable def mv(μ:Bool)(ρ:Rn)(z:Str):Option D:=if μ=true/\z=n then some (rD o) else (ρ.lookup z).map λg=>.tup [.str "var",.str g]
def Bk(g:Str->Option D)(l:List (Key×D)):Prop:=∀kv∈l,∃z,kv.1=.inr z/\g z=some kv.2
structure Pk(g:Str->Option D)(kvs:List (Key×D)):Prop where
 a:∀z:Str,aK kvs (.inr z)=g z
 b:Bk g kvs
end
section
variable{n:Str}{o:Rt}{g:Str->Option D}{μ:Bool}{ρ:Rn}
theorem Nf{x:Str}(z:Str):mv n o (μ && decide (x≠n)) (av ρ x) z=if z=x then none else mv n o μ ρ z:=by
 unfold mv;by_cases e:z=x
 ·subst e;rw[if_pos rfl,if_neg,ud,if_pos rfl];rfl;rintro⟨h1,h2⟩;rw[WT]at h1;exact of_decide_eq_true h1.2 h2
 ·rw[if_neg e,ud,if_neg e];by_cases h:z=n
  ·subst h;have:decide (x≠z)=true:=decide_eq_true (XC e);rw[this,Bool.and_true]
  ·rw[if_neg λq=>h q.2,if_neg λq=>h q.2]
theorem uU{x y:Str}(hx:x≠n)(z:Str):mv n o μ ((x,y)::ρ) z=if z=x then some (.tup [.str "var",.str y]) else mv n o μ ρ z:=by
 unfold mv;by_cases e:z=x
 ·subst e;rw[if_neg λq=>hx q.2,if_pos rfl,Xh,beq_self_eq_true];rfl
 ·rw[if_neg e];have:(z == x)=false:=by simpa using e
  rw[Xh,this]
theorem BZ{kvs:List (Key×D)}{k:Key}{v:D}{kv:Key×D}(h:kv∈aZ kvs k v):kv=(k,v)\/(kv∈kvs/\kv.1≠k):=by
 unfold aZ at h;split at h
 ·obtain⟨q,hq,e⟩:=List.mem_map.mp h;by_cases c:q.1=k
  ·rw[if_pos c]at e;exact .inl (by rw[<- e,c])
  ·rw[if_neg c]at e;exact .inr (by rw[<- e];exact⟨hq,c⟩)
 ·rename_i c;rcases List.mem_append.mp h with h |h
  ·exact .inr ⟨h,λe=>c (List.any_eq_true.mpr ⟨kv,h,decide_eq_true e⟩)⟩
  ·exact .inl (List.mem_singleton.mp h)
theorem Bk.put{kvs:List (Key×D)}{z:Str}{v:D}(h:Bk g kvs)(e:g z=some v):Bk g (aZ kvs (.inr z) v):=λkv hk=>by
 rcases BZ hk with rfl |⟨h1,_⟩
 ·exact⟨z,rfl,e⟩
 ·exact h kv h1
theorem B0:∀{l acc:List (Key×D)},Bk g acc->Bk g l->(∀z,aK acc (.inr z)=g z\/∃kv∈l,kv.1=.inr z)->Pk g (l.foldl (λa kv=>aZ a kv.1 kv.2) acc)
 |[],acc,h1,h2,h3=>⟨λz=>(h3 z).elim id λ⟨_,h,_⟩=>(nomatch h),h1⟩
 |(k,v)::l,acc,h1,h2,h3=>by
  obtain⟨z0,e,Tu⟩:=h2 _ WZ;have e:k=.inr z0:=e;subst e;refine B0 (l:=l) (acc:=aZ acc (.inr z0) v) (h1.put Tu) (λkv hk=>h2 kv (WY _ hk)) λz=>?_;rw[pM];by_cases c:z=z0
  ·subst c;rw[if_pos rfl];exact .inl Tu.symm
  ·rw[if_neg λq=>c (YK q)];refine (h3 z).imp id λ⟨kv,hk,e⟩=>?_;rcases List.mem_cons.mp hk with rfl |hk
   ·exact absurd (YK e).symm c
   ·exact⟨kv,hk,e⟩
theorem Pk.filter{kvs:List (Key×D)}{x:Str}{g':Str->Option D}(h:Pk g kvs)(e:∀z,g' z=if z=x then none else g z):Pk g' (br (kvs.filter λkv=>decide (kv.1≠.inr x))):=by
 refine B0 (λ_ z=>nomatch z) (λkv hk=>?_) λz=>?_
 ·obtain⟨h1,h2⟩:=List.mem_filter.mp hk;obtain⟨z,e1,e2⟩:=h.b kv h1;refine⟨z,e1,?_⟩;have:z≠x:=λq=>of_decide_eq_true h2 (by rw[e1,q]);rw[e,if_neg this];exact e2
 ·rw[e];by_cases c:z=x
  ·rw[if_pos c];exact .inl rfl
  ·rw[if_neg c];cases hg:g z with
   |none=>exact .inl rfl
   |some d=>
    right;have:=h.a z;rw[hg]at this;unfold aK at this;cases q:kvs.find? (λkv=>decide (kv.1=.inr z)) with
    |none=>rw[q]at this;cases this
    |some kv=>
     have e1:=List.find?_some q;have e2:=of_decide_eq_true e1;exact⟨kv,List.mem_filter.mpr ⟨List.mem_of_find?_eq_some q,decide_eq_true (by rw[e2];exact λq=>c (YK q))⟩,e2⟩
theorem Pk.rename{kvs:List (Key×D)}{x y:Str}(hx:x≠n)(h:Pk (mv n o μ (av ρ x)) kvs):Pk (mv n o μ ((x,y)::av ρ x)) (aZ kvs (.inr x) (.tup [.str "var",.str y])):=by
 refine⟨λz=>?_,λkv hk=>?_⟩
 ·rw[pM,uU hx,h.a];by_cases c:z=x
  ·rw[if_pos (by rw[c]),if_pos c]
  ·rw[if_neg λq=>c (YK q),if_neg c]
 ·rcases BZ hk with rfl |⟨h1,h2⟩
  ·exact⟨x,rfl,by rw[uU hx,if_pos rfl]⟩
  ·obtain⟨z,e1,e2⟩:=h.b kv h1;have:z≠x:=λq=>h2 (by rw[e1,q]);exact⟨z,e1,by rw[uU hx,if_neg this];exact e2⟩
def Pu(n:Str)(o:Rt)(d:D)(μ:Bool)(ρ:Rn)(m:Nat):Prop:=∃kvs:List (Key×D),d=.ag (kvs.map (·.1)) (kvs.map (·.2))/\kvs.length<=m/\Pk (mv n o μ ρ) kvs
end
variable{w:Wo}
theorem fj{f:Bool}{x:Str}{qa qb:Rt}:rD (.nd (.bd f x) [qa,qb])=.tup [.str (bw f),.str x,rD qa,rD qb]:=by rw[rD,cK,cK,cK];rfl
theorem gO{x:Str}:rD (.nd (.var x) [])=.tup [.str "var",.str x]:=by rw[rD,cK];rfl
noncomputable def Ng:B:=.cons (.ex (.dk 1 (.v 0) (.cons (.g 18) (.cons (.v 6) (.cons (.tup (.cons (.v 2) (.cons (.v 3) .nil))) .nil))))) .nil
noncomputable def Nh:B:=.cons (.ex (.dk 1 (.v 0) (.cons (.g 18) (.cons (.v 7) (.cons (.tup (.cons (.v 11) (.cons (.v 3) .nil))) .nil))))) Ng
noncomputable def B1:B:=.cons (.ex (.dk 1 (.v 0) (.cons (.g 21) (.cons (.tup (.cons (.v 4) (.cons (.v 5) (.cons (.v 6) (.cons (.v 7) .nil))))) (.cons (.v 3) .nil))))) Nh
noncomputable def uV:B:=.cons (.cond (.and (.cmp .In (.v 5) (.v 9)) (.and (.cmp .In (.v 8) (.v 11)) (.call 16 (.cons (.v 8) (.cons (.v 7) .nil))))) (.cons (.set (.one 12) (.dk 14 (.v 10) .nil)) (.cons (.put (.v 11) (.v 5) (.tup (.cons (.c (.str "var")) (.cons (.v 12) .nil)))) (.cons (.set (.one 5) (.v 12)) .nil))) .nil) B1
noncomputable def Ni:B:=.cons (.set (.one 11) (.bi .dict (.cons (.lc 2 [5] (.many [0,1]) (.sV (.v 2)) (.cmp .NotEq (.v 0) (.v 2)) (.tup (.cons (.v 0) (.cons (.v 1) .nil)))) .nil))) uV
noncomputable def Nj:B:=.cons (.set (.many [8,9,10]) (.v 3)) Ni
noncomputable def Nk:B:=.cons (.set (.many [4,5,6,7]) (.v 1)) Nj
theorem Nl:aJ ["walk","question","puts","bringing","word","bound","first","inner","name","brought","spare","within","fresh"] ["walk","question","puts","bringing"] (ah (top 28)):=⟨rfl,rfl,rfl,by decide +kernel,rfl,by decide +kernel,by decide +kernel⟩
theorem Nn:aO nm 40 ["walk","question","puts","bringing","word","bound","first","inner","name","brought","spare","within","fresh"] (ah (top 28)) (aD (top 28))=Nk:=by kernel_rfl
theorem B2{ws:List D}{A B C:D}:ws++[A,B,C]=ws++[A]++[B]++[C]:=by simp
section
variable{q0:D}{U:Tn}{y x a b p:Addr}{M:Mp}{ws fs:List D}{T:Tn}{o:MO}
theorem Ss.is(s:Ss w q0 U M y T):∃dx fs,M y=some (.ins (w.ca 2) dx fs)/\fs.lookup ("fresh" : Str)=none/\fs.length=3:=by
 cases s with
 |no e=>exact⟨_,_,e,rfl,rfl⟩
 |yes e=>exact⟨_,_,e,rfl,rfl⟩
theorem Ss.new(s:Ss w q0 U M y T)(h:M p=none):Ss w q0 U (up M p o) y T:=by
 have k:∀{c o'},M c=some o'->up M p o c=some o':=λe=>by rw[aj (bR e h)];exact e
 cases s with
 |no h1 h2 h3 h4 h5 h6=>exact .no (k h1) (k h2) (k h3) h4 h5 h6
 |yes h1 h2 h3 h4=>exact .yes (k h1) (k h2) h3 h4
theorem St.new(s:St w q0 U y x a b M ws fs T)(h:M p=none):St w q0 U y x a b (up M p o) ws fs T:=by
 have k:∀{c o'},M c=some o'->up M p o c=some o':=λe=>by rw[aj (bR e h)];exact e
 exact⟨⟨let ⟨dx,e⟩:=s.W.hx;⟨dx,k e⟩,s.W.ne,s.W.xa,s.W.xb⟩,k s.ha,k s.hb,s.s.new h⟩
theorem Ss.pn(s:Ss w q0 U M y T){c:Addr}(h:c≠y)(g:∀kvs,M c≠some (.ag kvs)):Pn w M y c:=⟨h,λdx pl mo tk e=>by
 cases s with
 |no e'=>rw[e]at e';cases e'
 |yes e' h2=>
  rw[e]at e';cases e';rintro rfl;exact g _ h2⟩
theorem St.VW(s:St w q0 U y x a b M ws fs T):x≠y:=by
 rintro rfl;obtain⟨dx,e⟩:=s.W.hx;obtain⟨dy,fs,e1,_,e2⟩:=s.s.is;have:=(MO.ins.inj (Xl (e.symm.trans e1))).2.2;rw[<- this]at e2;cases e2
theorem St.fr{M':Mp}{T':Tn}(s:St w q0 U y x a b M ws fs T)(t:gN w M' y T')(sy:Sy w (λ_=>False) M y M'):St w q0 U y x a b M' ws fs T':=by
 have k:∀{c o},M c=some o->c≠y->(∀kvs,o≠.ag kvs)->M' c=some o:=λe h g=>(sy.k _ _ e (s.s.pn h λkvs z=>by rw[e]at z;cases z;exact g _ rfl) id).1;obtain⟨dx,pl,mo,tk,kv,e1,e2,e3,e4⟩:=t;exact⟨⟨let ⟨dx,e⟩:=s.W.hx;⟨dx,k e s.VW λ_ z=>by cases z⟩,s.W.ne,s.W.xa,s.W.xb⟩,k s.ha (XC (s.s.ne s.ha)) (λ_ z=>by cases z),k s.hb (XC (s.s.ne s.hb)) (λ_ z=>by cases z),.yes e1 e2 e3 e4⟩
theorem gN.pO{ws':List D}(t:gN w M y T)(h:M a=some (.lst ws))(ha:a≠y):gN w (up M a (.lst ws')) y T:=by
 obtain⟨dx,pl,mo,tk,kv,e1,e2,e3,e4⟩:=t;exact⟨dx,pl,mo,tk,kv,by rw[aj (XC ha)];exact e1,by rw[aj (λz=>by rw[z,h]at e2;cases e2)];exact e2,e3,e4⟩
theorem St.pP{M':Mp}(s:St w q0 U y x a b M ws fs T)(t:gN w M y T){kvs:List (Key×D)}(hp:M p=some (.ag kvs))(n:Pn w M y p)(h:∀c,c≠p->M' c=M c):St w q0 U y x a b M' ws fs T:=by
 have k:∀{c o},M c=some o->(∀kvs,o≠.ag kvs)->M' c=some o:=λ{c o}e g=>by
  rw[h c];exact e;rintro rfl;rw[hp]at e;cases e;exact g _ rfl
 obtain⟨dx,pl,mo,tk,kv,e1,e2,e3,e4⟩:=t;exact⟨⟨let ⟨dx,e⟩:=s.W.hx;⟨dx,k e λ_ z=>by cases z⟩,s.W.ne,s.W.xa,s.W.xb⟩,k s.ha (λ_ z=>by cases z),k s.hb (λ_ z=>by cases z),.yes (k e1 λ_ z=>by cases z) (by rw[h _ (XC (n.2 _ _ _ _ e1))];exact e2) e3 e4⟩
theorem gN.pP{M':Mp}(t:gN w M y T){kvs:List (Key×D)}(hp:M p=some (.ag kvs))(n:Pn w M y p)(h:∀c,c≠p->M' c=M c):gN w M' y T/\Pn w M' y p:=by
 obtain⟨dx,pl,mo,tk,kv,e1,e2,e3,e4⟩:=t;have U0:M' y=M y:=h _ (XC n.1);exact⟨⟨dx,pl,mo,tk,kv,by rw[U0];exact e1,by rw[h _ (XC (n.2 _ _ _ _ e1))];exact e2,e3,e4⟩,n.1,λ_ _ _ _ e=>n.2 _ _ _ _ (by rw[<- U0];exact e)⟩
end
noncomputable def Np:S->E
 |.cond c _ _=>c
 |_=>.ao
def B3(w:Wo):Sp:=λds M Q _=>∃q0 U y x a b ws fs T n o bs f v qa qb pd μ ρ m,ds=[.ref x,rD (.nd (.bd f v) [qa,qb]),pd,bk n bs y]/\St w q0 U y x a b M ws fs T/\Pu n o pd μ ρ m/\m<500/\(∀p∈ρ,p.1≠n)/\(∀z,z∈bs ↔ z∈fv o) /\
 aE q0=true/\sz q0<=100000/\Sm T/\T.length<100000/\Ok qb/\ht qb<=25/\nk qb<=100000/\ws.length<1000000 /\
 ∀M' dJ,St w q0 U y x a b M' (ws++[iD w (.nd (.bd f (if (μ && aU n o v qb)=true then fr T else v)) [qa,qb]) (bk n bs y),dI w qb (.tup [dJ,bk n bs y]),dI w qa (.tup [pd,bk n bs y])]) fs (if (μ && aU n o v qb)=true then T++[fr T] else T) ->
  Pu n o dJ (μ && decide (v≠n)) (if (μ && aU n o v qb)=true then (v,fr T)::av ρ v else av ρ v) (m+1)->Sy w (Ew a b) M y M'->Q .ai M'
noncomputable abbrev Th(w:Wo):a5 w:={ cs:=[(16,BE)],ms:=[(14,BW w),(1,uT (pK w))] }
theorem Nq(O:Lw w):FO w 15 6 (B3 w):=by
 refine a8 O.ok O.hn _ ⟨"begin_binding",top 28,["walk","question","puts","bringing"]⟩ (by rw[O.hd];rfl) (Th w) { cs:=⟨⟨2,by decide,Mn O⟩,trivial⟩,ms:=⟨⟨5,by decide,Nc O⟩,⟨1,by decide,bZ.lO (uA O)⟩,trivial⟩ } Nl Nn λds M Q _ h=>?_;obtain⟨q0,U,y,x,a,b,ws,fs,T,n,o,bs,f,v,qa,qb,pd,μ,ρ,m,rfl,S,⟨kvs,rfl,kl,pk⟩,hm,hρ,cZ,db,dp,sm,tl,hK,hb,nb,po,h⟩:=h;rw[fj];refine⟨rfl,?_⟩;refine⟨rfl,rfl,?_⟩;show cb (λ_=>True) _ _ _ _ _ (((kvs.map (·.1)).zip (kvs.map (·.2))).map dA) [] M;rw[kq]
 let l:=kvs.filter λkv=>decide (kv.1≠.inr v)
 have ll:l.length<=m:=W2 (Yd _ _) kl;have gl:(br l).length<=m:=W2 (by have:=@uP l [];simpa [br] using this) ll
 have uW:Pk (mv n o (μ && decide (v≠n)) (av ρ v)) (br l):=pk.filter λz=>Nf z;have cond:∀(W:D)(M1:Mp)(k:Bool->Mp->Prop),(∀ k':Bool->Prop,k' (aK (br l) (.inr n)).isSome->dw (.str n) W M1 k')->k (μ && aU n o v qb) M1 ->
   (E.w (Th w).wd nm.af (Np (a6 uV))).2 [some (.ref x),some (.tup [.str (bw f),.str v,rD qa,rD qb]),some (.ag (kvs.map (·.1)) (kvs.map (·.2))),some (bk n bs y),some (.str (bw f)),some (.str v),some (rD qa),some (rD qb),some (.str n),some (.lst (bs.map D.str)),some (.ref y),some W,none] M1 k:=λW M1 k VX q=>by
  refine mF ?_;unfold aU at q;by_cases hv:v∈bs
  ·rw[decide_eq_true hv];rw[decide_eq_true ((cZ v).mp hv)]at q;refine aP rfl (VX _ ?_);have e:(aK (br l) (.inr n)).isSome=(μ && decide (v≠n)):=by
    rw[uW.a n];unfold mv;have:(av ρ v).lookup n=none:=by
     rw[ud];split
     ·rfl
     ·cases z:ρ.lookup n with
      |none=>rfl
      |some g=>exact absurd rfl (hρ _ (ku z))
    rw[this];cases (μ && decide (v≠n)) <;> simp
   rw[e];cases hu:(μ && decide (v≠n)) with
   |false=>
    refine ax (by decide) ?_;rw[<- Bool.and_assoc,hu]at q;exact q
   |true=>
    rw[<- Bool.and_assoc,hu,Bool.true_and,Bool.true_and]at q;exact aP rfl ⟨n,qb,rfl,hK,hb,nb,q⟩
  ·rw[decide_eq_false hv];have:decide (v∈fv o)=false:=decide_eq_false λz=>hv ((cZ v).mpr z);rw[this,Bool.false_and,Bool.and_false,Bool.and_false]at q;exact ax (by decide) q
 have m1:w.ca 0=w.mc 1:=(O.mc _ (by decide)).symm;have fin:∀(M2:Mp)(W dJ:D)(v':Str)(B4:Option D)(T':Tn),St w q0 U y x a b M2 ws fs T'->(∀ zs,∃ K,bD K (up M2 a (.lst zs))/\Fr (up M2 a (.lst zs)) K W dJ/\St w q0 U y x a b K zs fs T'/\Sy w (Ew a b) M y K) ->
   (∀M3,St w q0 U y x a b M3 (ws++[iD w (.nd (.bd f v') [qa,qb]) (bk n bs y),dI w qb (.tup [dJ,bk n bs y]),dI w qa (.tup [.ag (kvs.map (·.1)) (kvs.map (·.2)),bk n bs y])]) fs T'->Sy w (Ew a b) M y M3->Q .ai M3) ->
   B.w (Th w).wd nm.af B1 (aB Q) [some (.ref x),some (.tup [.str (bw f),.str v,rD qa,rD qb]),some (.ag (kvs.map (·.1)) (kvs.map (·.2))),some (bk n bs y),some (.str (bw f)),some (.str v'),some (rD qa),some (rD qb),some (.str n),some (.lst (bs.map D.str)),some (.ref y),some W,B4] M2:=λM2 W dJ v' B4 T' S2 fz hh=>by
  obtain⟨dx,hx⟩:=S2.W.hx;refine⟨_,dx,_,hx,m1,e8 (by decide +kernel) (by decide +kernel),l4,M2,_,.rfl,.rfl,x,a,b,dx,_,_,_,ws,rfl,hx,S2.ha,Xz po (by decide),?_⟩;obtain⟨K,sb,fr,S3,sy⟩:=fz (ws++[.tup [w.gv.getD 21 .ai,.tup [.str (bw f),.str v',rD qa,rD qb],bk n bs y]]);obtain⟨dy,hy⟩:=(S2.pa (ws':=ws++[.tup [w.gv.getD 21 .ai,.tup [.str (bw f),.str v',rD qa,rD qb],bk n bs y]])).W.hx;obtain⟨Uv,hz⟩:=S3.W.hx;refine⟨_,dy,_,hy,m1,e8 (by decide +kernel) (by decide +kernel),l2,K,_,sb,.cons .rfl (.cons .rfl (.cons .rfl (.cons (.tup (.cons fr .rfl)) .rfl))),x,a,b,Uv,_,_,_,_,rfl,hz,S3.ha,W6 (by simp;lia:_<=1000001) (by decide),?_⟩;have S4:=S3.pa (ws':=(ws++[.tup [w.gv.getD 21 .ai,.tup [.str (bw f),.str v',rD qa,rD qb],bk n bs y]])++[.tup [w.gv.getD 18 .ai,rD qb,.tup [dJ,bk n bs y]]]);obtain⟨U1,hu⟩:=S4.W.hx;refine⟨_,U1,_,hu,m1,e8 (by decide +kernel) (by decide +kernel),l2,_,_,.rfl,.rfl,x,a,b,U1,_,_,_,_,rfl,hu,S4.ha,W6 (by simp;lia:_<=1000002) (by decide),aw (hh _ ?_ (sy.tr (S3.sa.tr S4.sa)))⟩;have S5:=S4.pa (ws':=((ws++[.tup [w.gv.getD 21 .ai,.tup [.str (bw f),.str v',rD qa,rD qb],bk n bs y]])++[.tup [w.gv.getD 18 .ai,rD qb,.tup [dJ,bk n bs y]]])++[.tup [w.gv.getD 18 .ai,rD qa,.tup [.ag (kvs.map (·.1)) (kvs.map (·.2)),bk n bs y]]]);unfold iD dI;rw[fj,<- O.gf,<- O.gb,B2];exact S5
 refine dU (λxs ys M'=>M'=M/\∃p r,kvs=p++r/\xs=r.map dA/\ys=(p.filter λkv=>decide (kv.1≠.inr v)).map dA) ?_ ?_ _ _ _ ⟨rfl,[],kvs,rfl,rfl,rfl⟩
 ·rintro ys M' ⟨rfl,p,r,e1,e2,rfl⟩;cases r with
  |cons _ _=>cases e2
  |nil=>
  rw[Xc]at e1;subst e1;refine⟨trivial,W6 (by rw[WQ];exact ll:_<=m) (Xz hm (by decide)),.inl (.inr ⟨l,rfl,?_⟩)⟩;have key:hC (br l) M' λd M1=>B.w (Th w).wd nm.af uV (aB Q) [some (.ref x),some (.tup [.str (bw f),.str v,rD qa,rD qb]),some (.ag (kvs.map (·.1)) (kvs.map (·.2))),some (bk n bs y),some (.str (bw f)),some (.str v),some (rD qa),some (rD qb),some (.str n),some (.lst (bs.map D.str)),some (.ref y),some d,none] M1:=by
   cases hc:(μ && aU n o v qb) with
   |false=>
    rw[hc]at h cond;refine .inl (cond _ _ _ (λk' q=>Kx q) (ax (by decide) (fin _ _ _ _ _ _ S (λzs=>⟨_,.rfl,.rfl,S.pa,S.sa⟩) λM3 s3 sy=>h _ _ s3 ⟨_,rfl,Nat.le_succ_of_le gl,uW⟩ sy)))
   |true=>
    rw[hc]at h cond;have hc':=hc;unfold aU at hc';rw[WT,WT]at hc';have hv:v≠n:=of_decide_eq_true hc'.2.1;refine .inr λp hp=>cond _ _ _ (λk' q=>pG ak rfl q) (aP rfl ?_);have S1:St w q0 U y x a b (up M' p (.ag (br l))) ws fs T:=S.new hp;obtain⟨dy,VY,Tp,Ud,_⟩:=S1.s.is;have yp:p≠y:=by
     rintro rfl;rw[ak]at Tp;cases Tp
    have U2:up M' p (.ag (br l)) y=M' y:=aj (XC yp);have No:Pn w (up M' p (.ag (br l))) y p:=⟨yp,λdx pl mo tk e=>by
     rw[U2]at e;have:=S.s.pn yp (λkvs z=>by rw[hp]at z;cases z);exact this.2 _ _ _ _ e⟩
    refine⟨_,_,_,Tp,(O.m2 _ (by decide) (by decide)).symm,Ud,y,q0,U,T,rfl,S1.s,db,dp,sm,tl,λM2 s2 fk=>?_⟩;obtain⟨p2,B5⟩:=fk.k p _ ak No id;have S2:=S1.fr s2 fk;refine⟨l2,.inr ⟨_,p2,W6 gl (Xz hm (by decide)),?_⟩⟩;have Nr:(aZ (br l) (.inr v) (.tup [.str "var",.str (fr T)])).length<=m+1:=W2 (jK _ _ _) (Nat.succ_le_succ gl);have u3:∀c,c≠p->up M2 p (.ag (aZ (br l) (.inr v) (.tup [.str "var",.str (fr T)]))) c=M2 c:=λc hc=>aj hc;obtain⟨t3,Nu⟩:=s2.pP p2 B5 u3;have S3:=S2.pP s2 p2 B5 u3;have pa:p≠a:=by intro e;have:=S3.ha;rw[<- e,ak]at this;cases this
    refine fin _ _ _ _ _ _ S3 (λzs=>⟨rm (up (up M2 p (.ag (aZ (br l) (.inr v) (.tup [.str "var",.str (fr T)])))) a (.lst zs)) p,sN (o:=.ag (aZ (br l) (.inr v) (.tup [.str "var",.str (fr T)]))) (by rw[aj pa];exact ak) (λ_ z=>by cases z),.ag (by rw[aj pa];exact ak) jy .rfl,?_,?_⟩) λM3 s3 sy=>h _ _ s3 ⟨_,rfl,Nr,uW.rename hv⟩ sy
    ·have ay:=XC (S3.s.ne S3.ha);have Nv:Pn w (up (up M2 p (.ag (aZ (br l) (.inr v) (.tup [.str "var",.str (fr T)])))) a (.lst zs)) y p:=⟨yp,λ_ _ _ _ e=>Nu.2 _ _ _ _ (by rw[aj (XC ay)]at e;exact e)⟩;exact (S3.pa (ws':=zs)).pP (t3.pO S3.ha ay) (p:=p) (by rw[aj pa];exact ak) Nv λc hc=>f7 hc
    ·have ay:=XC (S3.s.ne S3.ha);have pt:∀c,c≠p->c≠a->rm (up (up M2 p (.ag (aZ (br l) (.inr v) (.tup [.str "var",.str (fr T)])))) a (.lst zs)) p c=M2 c:=λc h1 h2=>(by rw[f7 h1,aj h2,aj h1]);refine⟨λc o' h1 h2 h3=>?_,λc h1=>?_,λc e h1 h2=>?_⟩
     ·have cp:c≠p:=bR h1 hp;have ca:c≠a:=λz=>h3 (.inl z);obtain⟨k1,k2⟩:=fk.k c o' (by rw[aj cp];exact h1) ⟨h2.1,λ_ _ _ _ e=>h2.2 _ _ _ _ (by rw[U2]at e;exact e)⟩ id;refine⟨by rw[pt c cp ca];exact k1,h2.1,λ_ _ _ _ e=>?_⟩;rw[pt y (XC yp) (XC ay)]at e;exact k2.2 _ _ _ _ e
     ·have cp:c≠p:=(by rintro rfl;exact h1 hp);by_cases ca:c=a
      ·subst ca;rw[f7 cp,ak];exact λz=>nomatch z
      ·rw[pt c cp ca];exact fk.d c (by rw[aj cp];exact h1)
     ·have cp:c≠p:=(by rintro rfl;rw[jy]at h1;cases h1);have ca:c≠a:=(by rintro rfl;rw[f7 cp,ak]at h1;cases h1);rw[pt c cp ca]at h1;have ep:e≠p:=(by rintro rfl;exact h2 hp);have:=fk.o c e h1 (by rw[aj ep];exact h2);rw[aj cp]at this;exact this
  exact key
 ·rintro x' xs ys M' ⟨rfl,p,r,e1,e2,rfl⟩;cases r with
  |nil=>cases e2
  |cons kv r=>
  cases e2;obtain⟨z,k1,k2⟩:=pk.b kv (by rw[e1];simp);obtain⟨k,d⟩:=kv;have k1:k=.inr z:=k1;subst k1;refine⟨trivial,W6 (by rw[WQ];exact W2 (Yd _ _) (by rw[e1]at kl;simp at kl;lia):_<=m) (Xz hm (by decide)),λN hN=>⟨rfl,aT ?_⟩⟩;by_cases c:z=v
  ·subst c;rw[decide_eq_true rfl];exact ax (by decide) (hN _ _ ⟨rfl,p++[(.inr z,d)],r,by rw[e1];simp,rfl,by rw[Y4];simp⟩)
  ·rw[decide_eq_false c];have:¬(XW z:Key)=.inr v:=λq=>c (YK q);exact aP rfl ⟨l2,hN _ _ ⟨rfl,p++[(.inr z,d)],r,by rw[e1];simp,rfl,by rw[Y4];simp [this];rfl⟩⟩
variable{w:Wo}
theorem mK{h:Hd}{cs:List Rt}(k:Hk h cs.length){f:Bool}{x:Str}(e:h=.bd f x):∃qa qb,cs=[qa,qb]:=by
 subst e
 match cs,k with
 |[qa,qb],_=>exact⟨qa,qb,rfl⟩
noncomputable def Nw:B:=(.cons (.set (.many [3,4]) (.v 2)) (.cons (.cond (.not (.v 3)) (.cons (.ex (.dk 2 (.v 0) (.cons (.v 1) .nil))) .nil) (.cons (.cond (.cmp .Eq (.ix (.v 1) (.c (.int 0))) (.c (.str "var"))) (.cons (.ex (.dk 2 (.v 0) (.cons (.mt .get (.v 3) (.cons (.ix (.v 1) (.c (.int 1))) (.cons (.v 1) .nil))) .nil))) .nil) (.cons (.cond (.cmp .In (.ix (.v 1) (.c (.int 0))) (.tup (.cons (.c (.str "for")) (.cons (.c (.str "let")) .nil)))) (.cons (.ex (.call 15 (.cons (.v 0) (.cons (.v 1) (.cons (.v 3) (.cons (.v 4) .nil)))))) .nil) (.cons (.ex (.dk 1 (.v 0) (.cons (.g 21) (.cons (.v 1) (.cons (.v 2) .nil))))) (.cons (.loop (.one 5) (.sU (.call 5 (.cons (.v 1) .nil))) (.cons (.ex (.dk 1 (.v 0) (.cons (.g 18) (.cons (.v 5) (.cons (.v 2) .nil))))) .nil)) .nil))) .nil)) .nil)) .nil))
theorem Ny:aJ ["walk","question","around","puts","bringing","part"] ["walk","question","around"] (ah (top 27)):=⟨rfl,rfl,rfl,by decide +kernel,rfl,by decide +kernel,by decide +kernel⟩
theorem Nz:aO nm 40 ["walk","question","around","puts","bringing","part"] (ah (top 27)) (aD (top 27))=Nw:=by kernel_rfl
def B6(w:Wo):Sp:=λds M Q _=>∃ q0 U y x a b ws fs T n o bs q pd μ ρ m,ds=[.ref x,rD q,.tup [pd,bk n bs y]]/\St w q0 U y x a b M ws fs T/\Pu n o pd μ ρ m/\m<500/\(∀ p∈ρ,p.1≠n)/\(∀ z,z∈bs ↔ z∈fv o) /\
  aE q0=true/\sz q0<=100000/\Sm T/\T.length<100000/\Ok q/\ht q<=25/\nk q<=100000/\ws.length<900000/\fs.length<900000 /\
  ((μ=false/\ρ=[]/\∀M',St w q0 U y x a b M' ws (fs++[rD q]) T->Sy w (Ew a b) M y M'->Q .ai M') \/
   (¬(μ=false/\ρ=[])/\(∃v,q=.nd (.var v) []/\∀M',St w q0 U y x a b M' ws (fs++[rD (if μ=true/\v=n then o else .nd (.var ((ρ.lookup v).getD v)) [])]) T->Sy w (Ew a b) M y M'->Q .ai M')) \/
   (¬(μ=false/\ρ=[])/\(∃ f v qa qb,q=.nd (.bd f v) [qa,qb]/\∀ M' dJ,St w q0 U y x a b M' (ws++[iD w (.nd (.bd f (if (μ && aU n o v qb)=true then fr T else v)) [qa,qb]) (bk n bs y),dI w qb (.tup [dJ,bk n bs y]),dI w qa (.tup [pd,bk n bs y])]) fs (if (μ && aU n o v qb)=true then T++[fr T] else T) ->
      Pu n o dJ (μ && decide (v≠n)) (if (μ && aU n o v qb)=true then (v,fr T)::av ρ v else av ρ v) (m+1)->Sy w (Ew a b) M y M'->Q .ai M')) \/
   (¬(μ=false/\ρ=[])/\(∃h cs,q=.nd h cs/\(∀x,h≠.var x)/\(∀f x,h≠.bd f x)/\∀M',St w q0 U y x a b M' (ws++[iD w q (.tup [pd,bk n bs y])]++cs.reverse.map λc=>dI w c (.tup [pd,bk n bs y])) fs T->Sy w (Ew a b) M y M'->Q .ai M')))
noncomputable abbrev VZ(w:Wo):a5 w:={ cs:=[(5,pI),(15,B3 w)],ms:=[(1,pK w),(2,uB w)] }
theorem NA{n:Str}{o:Rt}{μ:Bool}{ρ:Rn}{kvs:List (Key×D)}(p:Pk (mv n o μ ρ) kvs):kvs.isEmpty=decide (μ=false/\ρ=[]):=by
 cases kvs with
 |nil=>
  refine (decide_eq_true ⟨?_,?_⟩).symm
  ·cases μ with
   |false=>rfl
   |true=>
    have:=p.a n;unfold mv at this;rw[if_pos ⟨rfl,rfl⟩]at this;cases this
  ·cases ρ with
   |nil=>rfl
   |cons r ρ=>
    obtain⟨z,g⟩:=r;have:=p.a z;unfold mv at this;split at this
    ·cases this
    ·rw[Xh,beq_self_eq_true]at this;cases this
 |cons kv r=>
  refine (decide_eq_false ?_).symm;rintro⟨rfl,rfl⟩;obtain⟨z,_,e⟩:=p.b kv WZ;unfold mv at e;rw[if_neg (λq=>nomatch q.1)]at e;cases e
theorem NB(O:Lw w):FO w 14 7 (B6 w):=by
 refine a8 O.ok O.hn _ ⟨"begin",top 27,["walk","question","around"]⟩ (by rw[O.hd];rfl) (VZ w) { cs:=⟨⟨1,by decide,pJ O⟩,⟨6,by decide,Nq O⟩,trivial⟩,ms:=⟨⟨1,by decide,uA O⟩,⟨1,by decide,Bt O⟩,trivial⟩ } Ny Nz λds M Q _ h=>?_;obtain⟨q0,U,y,x,a,b,ws,fs,T,n,o,bs,q,pd,μ,ρ,m,rfl,S,pu,hm,hρ,cZ,db,dp,sm,tl,bm,hq,nq,po,B7,h⟩:=h;obtain⟨kvs,rfl,kl,pk⟩:=id pu;have m1:w.ca 0=w.mc 1:=(O.mc _ (by decide)).symm;have m2:w.ca 0=w.mc 2:=(O.mc _ (by decide)).symm;obtain⟨dx,hx⟩:=S.W.hx;have emp:=NA pk;refine⟨rfl,rfl,?_⟩;show (if (!(!(((kvs.map (·.1)).zip (kvs.map (·.2))).isEmpty)))=true then _ else _)
 rw[kq,emp,Bool.not_not];rcases h with ⟨h1,h2,h⟩ |⟨h0,v,rfl,h⟩ |⟨h0,f,v,qa,qb,rfl,h⟩ |⟨h0,hd,cs,rfl,h1,h2,h⟩
 ·rw[decide_eq_true ⟨h1,h2⟩];refine aP rfl ⟨_,dx,_,hx,m2,e8 (by decide +kernel) (by decide +kernel),x,a,b,dx,_,fs,rfl,hx,S.hb,Xz B7 (by decide),aw (h _ S.pb S.sb)⟩
 ·rw[decide_eq_false h0,gO];refine ax (by decide) ⟨_,rfl,aT (aP (by decide) ⟨_,dx,_,hx,m2,e8 (by decide +kernel) (by decide +kernel),rfl,_,rfl,?_⟩)⟩;refine⟨x,a,b,dx,_,fs,rfl,hx,S.hb,Xz B7 (by decide),aw (h _ ?_ S.sb)⟩;have e:(aK ((kvs.map (·.1)).zip (kvs.map (·.2))) (.inr v)).getD (.tup [.str "var",.str v])=rD (if μ=true/\v=n then o else .nd (.var ((ρ.lookup v).getD v)) []):=by
   rw[kq,pk.a v];unfold mv;split
   ·rfl
   ·rw[gO];cases ρ.lookup v <;> rfl
  rw[<- e];exact S.pb
 ·rw[decide_eq_false h0,fj];have e1:∀f,decide (bw f="var")=false:=by decide +kernel
  have e2:∀f,a3 (.str (bw f)) [D.str "for",D.str "let"]=true:=by decide +kernel
  refine ax (by decide) ⟨_,rfl,aT ?_⟩;rw[e1 f];refine ax (by decide) ⟨_,rfl,l2,fg (e2 f) (aP rfl ?_)⟩;have rQ:=bm.c qb (by simp);have h2:=eC (k:=24) hq;rw[cY]at nq;refine⟨q0,U,y,x,a,b,ws,fs,T,n,o,bs,f,v,qa,qb,_,μ,ρ,m,by rw[fj];rfl,S,pu,hm,hρ,cZ,db,dp,sm,tl,rQ,by lia,by lia,Xz po (by decide),λM' dJ s p sy=>aw (h M' dJ s p sy)⟩
 ·have k:=bm.k;obtain⟨r,SP⟩:=fV k;have lc:=k.lt;have V0:decide (hw hd="var")=false:=by
   refine decide_eq_false λe=>?_;cases hd with
   |var x=>exact h1 x rfl
   |bd f x=>exact h2 f x rfl
   |row fs=>exact absurd e (by decide +kernel:("row" : Str)≠"var")
   |o wd ds=>
    have key:((fS++fe++dm).all λw=>decide (w≠"var"))=true:=(by decide +kernel);refine of_decide_eq_true (List.all_eq_true.mp key wd ?_) e;rcases k.2 with h |h |h
    ·exact W5 _ (W5 _ h.1)
    ·exact W5 _ (Xf _ h.1)
    ·exact Xf _ h.1
  have nf:a3 (.str (hw hd)) [D.str "for",D.str "let"]=false:=by
   cases hd with
   |var x=>exact absurd rfl (h1 x)
   |bd f x=>exact absurd rfl (h2 f x)
   |row fs=>exact (by decide +kernel:a3 (.str "row") [D.str "for",D.str "let"]=false)
   |o wd ds=>
    have key:((fS++fe++dm).all λw=>decide (a3 (.str w) [D.str "for",D.str "let"]=false))=true:=(by decide +kernel);refine of_decide_eq_true (List.all_eq_true.mp key wd ?_);rcases k.2 with h |h |h
    ·exact W5 _ (W5 _ h.1)
    ·exact W5 _ (Xf _ h.1)
    ·exact Xf _ h.1
  rw[decide_eq_false h0,SP];refine ax (by decide) ⟨_,cW,aT ?_⟩;rw[V0];refine ax (by decide) ⟨_,cW,l2,fg nf (ax (by decide) ?_)⟩;refine⟨_,dx,_,hx,m1,e8 (by decide +kernel) (by decide +kernel),x,a,b,dx,_,_,_,ws,rfl,hx,S.ha,Xz po (by decide),?_⟩;refine⟨hd,cs,by rw[SP];rfl,k,?_⟩;have S1:=S.pa (ws':=ws++[.tup [w.gv.getD 21 .ai,.tup (.str (hw hd)::r),.tup [.ag (kvs.map (·.1)) (kvs.map (·.2)),bk n bs y]]]);have mL:=S.sa (ws':=ws++[.tup [w.gv.getD 21 .ai,.tup (.str (hw hd)::r),.tup [.ag (kvs.map (·.1)) (kvs.map (·.2)),bk n bs y]]]);refine e7 (λxs τ M'=>∃rest done v5,cs=rest++done/\xs=(rest.map rD).reverse/\τ=[some (.ref x),some (.tup (.str (hw hd)::r)),some (.tup [.ag (kvs.map (·.1)) (kvs.map (·.2)),bk n bs y]),some (.ag (kvs.map (·.1)) (kvs.map (·.2))),some (bk n bs y),v5] /\
   St w q0 U y x a b M' (ws++[iD w (.nd hd cs) (.tup [.ag (kvs.map (·.1)) (kvs.map (·.2)),bk n bs y])]++done.reverse.map λc=>dI w c (.tup [.ag (kvs.map (·.1)) (kvs.map (·.2)),bk n bs y])) fs T/\Sy w (Ew a b) M y M') ?_ ?_ _ _ _ ⟨cs,[],none,by simp,rfl,rfl,?_,mL⟩
  ·rintro τ M' ⟨rest,done,v5,e1,e2,rfl,s,sy⟩;have:rest=[]:=(by simpa using e2.symm);subst this;rw[List.nil_append]at e1;subst e1;exact⟨trivial,.rfl (aw (h _ s sy))⟩
  ·rintro z xs τ M' ⟨rest,done,v5,e1,e2,rfl,s,sy⟩;refine⟨trivial,λN hN=>?_⟩;rcases List.eq_nil_or_concat rest with z |⟨r',c,z⟩
   ·subst z;cases e2
   subst z;rw[List.concat_eq_append]at e1 e2;rw[W',W0,XT,List.reverse_append]at e2;cases e2;have hlen:done.length<100:=(by rw[e1]at lc;simp at lc;lia);obtain⟨dy,hy⟩:=s.W.hx;refine⟨_,dy,_,hy,m1,e8 (by decide +kernel) (by decide +kernel),x,a,b,dy,_,_,_,_,rfl,hy,s.ha,W6 (by simp;lia:_<=1000000) (by decide),hN _ _ ⟨r',c::done,_,by rw[e1];simp,rfl,rfl,?_,sy.tr s.sa⟩⟩;rw[YB,W',W0,XT,<- X6];unfold dI at s ⊢;rw[<- O.gb]at s ⊢;exact s.pa
  ·unfold iD;rw[<- O.gf,SP,List.reverse_nil,XT,Xc];exact S1
variable{w:Wo}
noncomputable def B8:B:=(.cons (.fK (.fld (.v 0) "waiting") (.cons (.set (.many [1,2,3]) (.mt .pop (.fld (.v 0) "waiting") .nil)) (.cons (.ex (.app (.v 1) (.cons (.v 0) (.cons (.v 2) (.cons (.v 3) .nil))))) .nil))) (.cons (.ret (.mt .pop (.fld (.v 0) "found") .nil)) .nil))
theorem NC:aJ ["self","step","question","around"] ["self"] (ah (aN (top 17) 4)):=⟨rfl,rfl,rfl,by decide +kernel,rfl,by decide +kernel,by decide +kernel⟩
theorem ND:aO nm 40 ["self","step","question","around"] (ah (aN (top 17) 4)) (aD (aN (top 17) 4))=B8:=by kernel_rfl
noncomputable abbrev Uw(w:Wo)(ca:Addr->Sp->Prop):a5 w:={ ca:=ca }
def Lp(w:Wo)(ca:Addr->Sp->Prop)(e:En)(n:Nat)(x:Addr)(M:Mp):Prop:=∀u v z,b8 (E.w (Uw w ca).wd nm.af (.fld (.v 0) "waiting")).2 (B.w (Uw w ca).wd nm.af (ck (a6 B8))) e n [some (.ref x),u,v,z] M
def jl(w:Wo)(f:Addr)(sp:Sp):Prop:=(f=gK w "begin"/\sp=B6 w)\/(f=gK w "finish"/\sp=BL w)
section
variable{q0:D}{U:Tn}{y x a b:Addr}{M:Mp}{ws fs:List D}{T:Tn}{e:En}{n:Nat}
theorem turn(O:Lw w){ca:Addr->Sp->Prop}{f:Addr}{sp:Sp}{qd r:D}(hc:ca f sp)(S:St w q0 U y x a b M (ws++[.tup [.ref f,qd,r]]) fs T)
  (h:∀Q:QK,(∀d M',Lp w ca e n x M'->Q d M')->sp [.ref x,qd,r] (up M a (.lst ws)) Q X0):Lp w ca e (n+1) x M:=by
 intro u v z;obtain⟨dx,hx⟩:=S.W.hx;refine⟨_,dx,_,hx,.ref a,O.Tz,rfl,.inl ⟨_,S.ha,?_⟩⟩;have bn:(!(ws++[D.tup [.ref f,qd,r]]).isEmpty)=true:=by simp
 rw[bn];refine⟨_,dx,_,hx,.ref a,O.Tz,rfl,.inl ⟨rfl,_,S.ha⟩,_,S.ha,.tup [.ref f,qd,r],by simp,rfl,sp,hc,?_⟩;rw[Za];exact h _ λd M' z=>z _ _ _
theorem over(O:Lw w){ca:Addr->Sp->Prop}(S:St w q0 U y x a b M [] fs T)(h:∀u v z,e.nx [some (.ref x),u,v,z] M):Lp w ca e (n+1) x M:=by
 intro u v z;obtain⟨dx,hx⟩:=S.W.hx;exact⟨_,dx,_,hx,.ref a,O.Tz,rfl,.inl ⟨_,S.ha,h u v z⟩⟩
end
def Bd(T:Tn)(j:Nat):Prop:=∃L:List Str,(∀x∈T,x∈L)/\L.length+j<700/\T.length+j<100000
theorem Bd.sm{T:Tn}{j:Nat}(h:Bd T j):Sm T/\T.length<100000:=let ⟨L,a,b,c⟩:=h;⟨⟨L,a,by lia⟩,by lia⟩
theorem Bd.gr{T V:Tn}{i j:Nat}(h:Bd T (i+j))(g:Gr T V i):Bd V j:=by
 obtain⟨L,a,b,c⟩:=h;obtain⟨F,rfl,hF⟩:=g;refine⟨L++F,λx hx=>?_,by rw[W3];lia,by rw[W3];lia⟩;rcases List.mem_append.mp hx with z |z
 ·exact W5 _ (a x z)
 ·exact Xf _ z
theorem Bd.le{T:Tn}{i j:Nat}(h:Bd T j)(g:i<=j):Bd T i:=let ⟨L,a,b,c⟩:=h;⟨L,a,by lia,by lia⟩
section
variable{n:Str}{o:Rt}
theorem pQ:∀(k:Nat)(q:Rt)(T:Tn),sb n o fr k false [] q T=(q,T)
 | 0,q,T=>rfl
 |k+1,q,T=>by
  refine Rt.bV (P:=λq=>sb n o fr (k+1) false [] q T=(q,T)) (λx cs=>?_) (λf x a b _ _=>?_) (λhd cs v n2 _=>?_) q
  ·show (if false=true/\x=n then o else .nd (.var x) cs,T)=_
   rw[if_neg λz=>nomatch z.1]
  ·show (Rt.nd (.bd f x) [(sb n o fr k false [] a T).1,(sb n o fr k false [] b (sb n o fr k false [] a T).2).1],(sb n o fr k false [] b (sb n o fr k false [] a T).2).2)=_;rw[pQ k a,pQ k b]
  ·rw[o6 v n2];have e:aQ (sb n o fr k false []) cs T=aQ (λq T=>(q,T)) (cs.map id) T:=oX (k:=nk) λc _ U _=>(by rw[pQ k c];exact⟨rfl,.rfl⟩);rw[e,List.map_id,oZ]
end
section
variable(w:Wo)(q0:D)(U:Tn)(y:Addr)(n:Str)(o:Rt)(bs:List Str)
def u9(k:Nat)(μ:Bool)(ρ:Rn)(q:Rt)(T:Tn):Prop:=∃t,∀{e:En}{nn:Nat}{M:Mp}{x a b:Addr}{ws fs:List D}{pd:D}{m:Nat},St w q0 U y x a b M (ws++[dI w q (.tup [pd,bk n bs y])]) fs T->Pu n o pd μ ρ m->m+k<500->ws.length+2 * nk q<900000->fs.length+nk q<900000 ->
 (∀M',St w q0 U y x a b M' ws (fs++[rD (sb n o fr k μ ρ q T).1]) (sb n o fr k μ ρ q T).2->Sy w (Ew a b) M y M'->Lp w (jl w) e nn x M')->Lp w (jl w) e (nn+t) x M
def NF(k:Nat)(μ:Bool)(ρ:Rn)(cs:List Rt)(T:Tn):Prop:=∃t,∀{e:En}{nn:Nat}{M:Mp}{x a b:Addr}{ws fs:List D}{pd:D}{m:Nat},St w q0 U y x a b M (ws++cs.reverse.map λc=>dI w c (.tup [pd,bk n bs y])) fs T->Pu n o pd μ ρ m->m+k<500->ws.length+2 * aM cs<900000->fs.length+aM cs<900000 ->
 (∀M',St w q0 U y x a b M' ws (fs++(aQ (sb n o fr k μ ρ) cs T).1.map rD) (aQ (sb n o fr k μ ρ) cs T).2->Sy w (Ew a b) M y M'->Lp w (jl w) e nn x M')->Lp w (jl w) e (nn+t) x M
end
section
variable{q0:D}{U:Tn}{y:Addr}{n:Str}{o:Rt}{bs:List Str}
theorem mM{c:Rt}{r:List Rt}:aM (c::r)=nk c+aM r:=by unfold aM;rw[W0,XJ]
theorem B9{k:Nat}{μ:Bool}{ρ:Rn}:∀{cs:List Rt}{T:Tn},Bd T (aM cs)->(∀c∈cs,∀V,Bd V (nk c)->u9 w q0 U y n o bs k μ ρ c V)->NF w q0 U y n o bs k μ ρ cs T
 |[],T,_,_=>⟨0,λS _ _ _ _ h=>by
  refine h _ ?_ Sy.rfl;rw[List.reverse_nil,XT,Xc]at S;rw[aQ,XT,Xc];exact S⟩
 |c::r,T,hb,hc=>by
  rw[mM]at hb;obtain⟨t1,h1⟩:=hc c WZ T (hb.le (by lia));obtain⟨t2,h2⟩:=B9 (cs:=r) (hb.gr (jf k c μ ρ T)) λd hd=>hc d (WY _ hd);refine⟨t2+t1,λ{e nn M x a b ws fs pd m}S pu hm hw hf h=>?_⟩;rw[mM]at hw hf;rw[YB,W',W0,XT,<- X6]at S;have hl:=mG r;rw[<- Nat.add_assoc];refine h1 S pu hm (by rw[W3,WQ,YD];lia) (by lia) λM1 S1 mL=>?_;refine h2 S1 pu hm (by lia) (by rw[W3,List.length_singleton];have:=mh c;lia) λM2 S2 fk=>?_
  refine h M2 ?_ (mL.tr fk);rw[aQ,W0];rw[X6]at S2;exact S2
theorem B'(O:Lw w){x a b:Addr}{M:Mp}{ws fs:List D}{T:Tn}{e:En}{nn:Nat}{h:Hd}{cs es:List Rt}{r:D}(S:St w q0 U y x a b M (ws++[iD w (.nd h cs) r]) (fs++es.map rD) T)(k:Hk h cs.length)(hl:es.length=cs.length)(hf:fs.length<900000)
  (q:∀M',St w q0 U y x a b M' ws (fs++[rD (.nd h es)]) T->Sy w (Ew a b) M y M'->Lp w (jl w) e nn x M'):Lp w (jl w) e (nn+1) x M:=by
 refine turn O (.inr ⟨rfl,rfl⟩) S λQ hQ=>⟨up M a (.lst ws),x,a,b,ws,fs,h,cs,es,r,rfl,(S.pa (ws':=ws)).eq,(S.pa (ws':=ws)).W,k,hl,Xz hf (by decide),hQ _ _ ?_⟩;have S1:=S.pa (ws':=ws);have e:Wm (up M a (.lst ws)) a b ws (fs++[rD (.nd h es)])=up (up M a (.lst ws)) b (.lst (fs++[rD (.nd h es)])):=by unfold Wm;rw[_root_.N.bQ]
 rw[e];exact q _ S1.pb (S.sa.tr S1.sb)
theorem pR(O:Lw w)(cZ:∀z,z∈bs ↔ z∈fv o)(db:aE q0=true)(dp:sz q0<=100000):∀(k:Nat)(q:Rt)(μ:Bool)(ρ:Rn)(T:Tn),Ok q->ht q<=k->k<=25->(∀p∈ρ,p.1≠n)->Bd T (nk q)->nk q<=100000->u9 w q0 U y n o bs k μ ρ q T
 | 0,q,μ,ρ,T,_,h,_,_,_,_=>by have:=eD q;lia
 |k+1,q,μ,ρ,T,bm,hq,hk,hρ,hb,nq=>by
  by_cases h0:μ=false/\ρ=[]
  ·refine⟨1,λ{e nn M x a b ws fs pd m}S pu hm hw hf h=>turn O (.inl ⟨rfl,rfl⟩) S λQ hQ=>⟨q0,U,y,x,a,b,ws,fs,T,n,o,bs,q,pd,μ,ρ,m,rfl,S.pa,pu,by lia,hρ,cZ,db,dp,hb.sm.1,hb.sm.2,bm,by lia,nq,by lia,by lia,.inl ⟨h0.1,h0.2,λM' s sy=>hQ _ _ (h M' ?_ (S.sa.tr sy))⟩⟩⟩;rw[h0.1,h0.2,pQ];exact s
  refine Rt.bV (P:=λq=>Ok q->ht q<=k+1->Bd T (nk q)->nk q<=100000->u9 w q0 U y n o bs (k+1) μ ρ q T) (λv cs bm hq hb nq=>?_) (λf v qa qb _ _ bm hq hb nq=>?_) (λhd cs n1 n2 _ bm hq hb nq=>?_) q bm hq hb nq
  ·have:cs=[]:=List.length_eq_zero_iff.mp bm.k;subst this;exact⟨1,λ{e nn M x a b ws fs pd m}S pu hm hw hf h=>turn O (.inl ⟨rfl,rfl⟩) S λQ hQ=>⟨q0,U,y,x,a,b,ws,fs,T,n,o,bs,_,pd,μ,ρ,m,rfl,S.pa,pu,by lia,hρ,cZ,db,dp,hb.sm.1,hb.sm.2,bm,by lia,nq,by lia,by lia,.inr (.inl ⟨h0,v,rfl,λM' s sy=>hQ _ _ (h M' s (S.sa.tr sy))⟩)⟩⟩
  ·obtain⟨h1,h2⟩:=eC hq;rw[cY]at hb nq;have g1:Gr T (if (μ && aU n o v qb)=true then T++[fr T] else T) 1:=uf
   have hV:Bd (if (μ && aU n o v qb)=true then T++[fr T] else T) (nk qa+nk qb):=by rw[Nat.add_assoc]at hb;exact hb.gr g1
   have hb2:=hV.gr (jf (n:=n) (o:=o) (fr:=fr) k qa μ ρ _);obtain⟨t1,r1⟩:=pR O cZ db dp k qa μ ρ _ (bm.c _ (by simp)) h1 (by lia) hρ (hV.le (by lia)) (by lia);have hρ':∀p∈(if (μ && aU n o v qb)=true then (v,fr T)::av ρ v else av ρ v),p.1≠n:=λp hp=>by
    split at hp
    ·rename_i c;rcases List.mem_cons.mp hp with rfl |hp
     ·unfold aU at c;rw[WT,WT]at c;exact of_decide_eq_true c.2.1
     ·exact hρ _ (fR.mp hp).1
    ·exact hρ _ (fR.mp hp).1
   obtain⟨t2,r2⟩:=pR O cZ db dp k qb (μ && decide (v≠n)) (if (μ && aU n o v qb)=true then (v,fr T)::av ρ v else av ρ v) _ (bm.c _ (by simp)) h2 (by lia) hρ' hb2 (by lia)
   refine⟨1+t2+t1+1,λ{e nn M x a b ws fs pd m}S pu hm hw hf h=>?_⟩;rw[cY]at hw hf;rw[show nn+(1+t2+t1+1)=(nn+1+t2+t1)+1 by lia];refine turn O (.inl ⟨rfl,rfl⟩) S λQ hQ=>⟨q0,U,y,x,a,b,ws,fs,T,n,o,bs,_,pd,μ,ρ,m,rfl,S.pa,pu,by lia,hρ,cZ,db,dp,(hb.sm).1,(hb.sm).2,bm,by lia,by rw[cY];lia,by lia,by lia,.inr (.inr (.inl ⟨h0,f,v,qa,qb,rfl,λM1 dJ s p sy=>hQ _ _ ?_⟩))⟩;rw[B2]at s;refine r1 s pu (by lia) (by simp;lia) (by lia) λM2 s2 fk=>?_;refine r2 s2 p (by lia) (by simp;lia) (by simp;lia) λM3 s3 u8=>?_;rw[X6]at s3;refine B' O (es:=[_,_]) s3 bm.k rfl (by lia) λV1 s4 NE=>h V1 s4 (S.sa.tr (sy.tr (fk.tr (u8.tr NE))))
  ·have uh:∀ f x,hd≠.bd f x:=λf x e=>by
    obtain⟨qa,qb,e2⟩:=mK bm.k e;exact n2 f x e (by rw[e2];rfl)
   have hh:=gH n1 n2 hq;rw[dX n1 n2]at hb nq;have dS:∀c∈cs,nk c<=(cs.map nk).sum:=λc hc=>by
    obtain⟨s,t,rfl⟩:=List.append_of_mem hc;rw[W',List.sum_append,W0,XJ];lia
   obtain⟨t,r⟩:=B9 (w:=w) (q0:=q0) (U:=U) (y:=y) (n:=n) (o:=o) (bs:=bs) (k:=k) (μ:=μ) (ρ:=ρ) (cs:=cs) (T:=T) (hb.le (by unfold aM;lia)) λc hc V Us=>pR O cZ db dp k c μ ρ V (bm.c c hc) (hh c hc) (by lia) hρ Us (by have:=dS c hc;lia)
   refine⟨1+t+1,λ{e nn M x a b ws fs pd m}S pu hm hw hf h=>?_⟩;rw[dX n1 n2]at hw hf;rw[show nn+(1+t+1)=(nn+1+t)+1 by lia];refine turn O (.inl ⟨rfl,rfl⟩) S λQ hQ=>⟨q0,U,y,x,a,b,ws,fs,T,n,o,bs,_,pd,μ,ρ,m,rfl,S.pa,pu,by lia,hρ,cZ,db,dp,(hb.sm).1,(hb.sm).2,bm,by lia,by rw[dX n1 n2];lia,by lia,by lia,.inr (.inr (.inr ⟨h0,hd,cs,rfl,n1,uh,λM1 s sy=>hQ _ _ ?_⟩))⟩;refine r s pu (by lia) (by unfold aM;simp;lia) (by unfold aM;lia) λM2 s2 fk=>?_;refine B' O s2 bm.k gI (by lia) λM3 s3 u8=>h M3 ?_ (S.sa.tr (sy.tr (fk.tr u8)));rw[o6 n1 n2];exact s3
end
variable{w:Wo}
theorem FO.Cb{i k:Nat}{sp:Sp}{d:Ds}(h:FO w i k sp)(hd:w.ds[i]?=some d):hO w.G k (gK w d.x) sp:=by
 obtain⟨d',f,fd,h1,D,F⟩:=h;rw[hd]at h1;cases h1;have e:gK w d.x=f:=by unfold gK;rw[D.mg]
 rw[e];exact⟨fd,d.ps,w.G.K,F,D.kp,D.b,λz m b o=>m.gc.keeps λa ob q=>o.fz a _ (b.b a ob q)⟩
theorem NG{n:Str}{o:Rt}:Pu n o (.ag [.inr n] [rD o]) true [] 1:=by
 refine⟨[(.inr n,rD o)],rfl,WU _,λz=>?_,λkv hk=>?_⟩
 ·unfold aK mv;rw[Yo];by_cases e:z=n
  ·subst e;simp
  ·have:¬(XW n:Key)=.inr z:=λq=>e (YK q).symm;simp [this,e]
 ·rw[List.mem_singleton.mp hk];exact⟨n,rfl,by unfold mv;rw[if_pos ⟨rfl,rfl⟩]⟩
def Cc(w:Wo):Sp:=λds M Q _=>∃q0 U y x a b T n o bs q pd μ ρ m k,ds=[.ref x]/\St w q0 U y x a b M [dI w q (.tup [pd,bk n bs y])] [] T/\Pu n o pd μ ρ m/\m<100/\(∀p∈ρ,p.1≠n)/\(∀z,z∈bs ↔ z∈fv o) /\
 aE q0=true/\sz q0<=100000/\Ok q/\ht q<=k/\k<=25/\nk q<=100000/\Bd T (nk q)/\∀M',Sy w (Ew a b) M y M'->Q (rD (sb n o fr k μ ρ q T).1) M'
theorem NI(O:Lw w):bZ w 4 8 (Cc w):=by
 refine gD O.ok O.hn _ ⟨"run",(aN (top 17) 4),["self"]⟩ (by rw[O.hms];rfl) (Uw w (jl w)) { cs:=trivial,ca:=?_ } NC ND λds M Q _ h=>?_
 ·rintro f sp (⟨rfl,rfl⟩ |⟨rfl,rfl⟩)
  ·exact FO.Cb (NB O) (d:=⟨"begin",top 27,["walk","question","around"]⟩) (by rw[O.hd];rfl)
  ·exact FO.Cb ((MA O).mono (by decide)) (d:=⟨"finish",top 30,["walk","question","around"]⟩) (by rw[O.hd];rfl)
 obtain⟨q0,U,y,x,a,b,T,n,o,bs,q,pd,μ,ρ,m,k,rfl,S,pu,hm,hρ,cZ,db,dp,bm,hq,hk,nq,hb,h⟩:=h;obtain⟨t,r⟩:=pR (n:=n) (U:=U) (y:=y) O cZ db dp k q μ ρ T bm hq hk hρ hb nq;refine⟨rfl,1+t,?_⟩;refine r (ws:=[]) (fs:=[]) (nn:=1) S pu (by lia) (by simp;lia) (by simp;lia) (λM1 S1 sy=>over O S1 λ_ _ _=>?_) _ _ _;obtain⟨dx,hx⟩:=S1.W.hx;refine⟨_,dx,_,hx,.ref b,O.T3,rfl,.inl ⟨rfl,_,S1.hb⟩,_,S1.hb,_,rfl,?_⟩;exact aw (h _ (sy.tr S1.sb))
theorem Ss.sub{q0:D}{U T:Tn}{M M':Mp}{y:Addr}(s:Ss w q0 U M y T)(k:∀c o,M c=some o->M' c=some o):Ss w q0 U M' y T:=by
 cases s with
 |no h1 h2 h3 h4 h5 h6=>exact .no (k _ _ h1) (k _ _ h2) (k _ _ h3) h4 h5 h6
 |yes h1 h2 h3 h4=>exact .yes (k _ _ h1) (k _ _ h2) h3 h4
theorem Sy.sub{q0:D}{U T:Tn}{M M':Mp}{y:Addr}{E:Addr->Prop}(s:Ss w q0 U M y T)(k:bD M M'):Sy w E M y M':=by
 obtain⟨dy,VY,Tp,_⟩:=s.is;exact⟨λc o h1 h2 _=>⟨k.sub c o h1,h2.1,λ_ _ _ _ e=>h2.2 _ _ _ _ (by rw[k.sub _ _ Tp]at e;rw[Tp];exact e)⟩,λc h=>by
  cases e:M c with
  |none=>exact absurd e h
  |some o=>rw[k.sub c o e];exact (λz=>nomatch z),λc e h1 h2=>k.own e c h2 h1⟩
theorem Sy.drop{M M':Mp}{y a b:Addr}(s:Sy w (Ew a b) M y M')(ha:M a=none)(hb:M b=none):Sy w (λ_=>False) M y M':=
 ⟨λc o h1 h2 _=>s.k c o h1 h2 λz=>z.elim (λe=>by rw[e,ha]at h1;cases h1) (λe=>by rw[e,hb]at h1;cases h1),s.d,s.o⟩
theorem NJ{C x dx a b:Addr}{M:Mp}{i0 i1:List (Str×D)}{ws fs:List D}(h1:M x=none)(h2:M dx=none)(h3:up (up M dx (.own x)) x (.ins C dx i0) a=none)(h4:up (up M dx (.own x)) x (.ins C dx i0) b=none)(n1:dx≠x)(n2:a≠b):bD M (Wm (up (up (up M dx (.own x)) x (.ins C dx i0)) x (.ins C dx i1)) a b ws fs)/\Wc C (up (up (up M dx (.own x)) x (.ins C dx i0)) x (.ins C dx [("waiting",.ref a),("found",.ref b)])) x a b/\M a=none/\M b=none:=by
 have xa:x≠a:=by rintro rfl;rw[ak]at h3;cases h3
 have xb:x≠b:=by rintro rfl;rw[ak]at h4;cases h4
 have da:dx≠a:=by rintro rfl;rw[aj n1,ak]at h3;cases h3
 have SX:dx≠b:=by rintro rfl;rw[aj n1,ak]at h4;cases h4
 rw[aj (XC xa),aj (XC da)]at h3;rw[aj (XC xb),aj (XC SX)]at h4;refine⟨t9 (λc hc=>?_) λc e q bn=>?_,⟨⟨dx,ak⟩,n2,xa,xb⟩,h3,h4⟩
 ·unfold Wm;rw[aj,aj,aj,aj,aj]
  ·rintro rfl;exact hc h2
  ·rintro rfl;exact hc h1
  ·rintro rfl;exact hc h1
  ·rintro rfl;exact hc h3
  ·rintro rfl;exact hc h4
 ·unfold Wm at q;by_cases U3:c=b
  ·subst U3;rw[ak]at q;cases q
  rw[aj U3]at q;by_cases ca:c=a
  ·subst ca;rw[ak]at q;cases q
  rw[aj ca]at q;by_cases Tg:c=x
  ·subst Tg;rw[ak]at q;cases q
  rw[aj Tg,aj Tg]at q;by_cases cd:c=dx
  ·subst cd;rw[ak]at q;cases q;exact absurd h1 bn
  rw[aj cd]at q;exact q
noncomputable def NK:B:=.cons (.ret (.dk 4 (.v 4) .nil)) .nil
noncomputable def NM:B:=.cons (.ex (.dk 1 (.v 4) (.cons (.g 18) (.cons (.v 0) (.cons (.tup (.cons (.j6 (.cons (.v 1) .nil) (.cons (.v 2) .nil)) (.cons (.tup (.cons (.v 1) (.cons (.call 7 (.cons (.v 2) .nil)) (.cons (.v 3) .nil)))) .nil))) .nil))))) NK
noncomputable def NN:B:=.cons (.set (.one 4) (.new 0 .nil)) NM
theorem NO:aJ ["question","name","other","spare","walk"] ["question","name","other","spare"] (ah (top 26)):=⟨rfl,rfl,rfl,by decide +kernel,rfl,by decide +kernel,by decide +kernel⟩
theorem NP:aO nm 40 ["question","name","other","spare","walk"] (ah (top 26)) (aD (top 26))=NN:=by kernel_rfl
def Cd(w:Wo):Sp:=λds M Q _=>∃(q0:D)(U:Tn)(y:Addr)(T:Tn)(n:Str)(o q:Rt)(k:Nat)(N:List Str),ds=[rD q,.str n,rD o,.ref y]/\Ss w q0 U M y T/\(∀x∈fv o,x∈N)/\N.length<64/\Ok o/\ht o<=25/\nk o<=100000 /\
 aE q0=true/\sz q0<=100000/\Ok q/\ht q<=k/\k<=25/\nk q<=100000/\Bd T (nk q)/\∀M',Sy w (λ_=>False) M y M'->Q (rD (sb n o fr k true [] q T).1) M'
noncomputable abbrev V2(w:Wo):a5 w:={ cs:=[(7,uL)],ms:=[(1,pK w),(4,Cc w)],ci:=[(0,0,Bv w)] }
theorem NR(O:Lw w):FO w 13 9 (Cd w):=by
 refine a8 O.ok O.hn _ ⟨"put",top 26,["question","name","other","spare"]⟩ (by rw[O.hd];rfl) (V2 w) { cs:=⟨⟨2,by decide,BK O⟩,trivial⟩,ms:=⟨⟨1,by decide,uA O⟩,⟨8,by decide,NI O⟩,trivial⟩,ci:=⟨⟨O.mc _ (by decide),by rw[O.hms];rfl,1,by decide,L6 O⟩,trivial⟩ } NO NP λds M Q _ h=>?_;obtain⟨q0,U,y,T,n,o,q,k,N,rfl,s,hN,TY,gP,ii,Ce,db,dp,bm,hq,hk,nq,hb,h⟩:=h;have m2:w.ca 0=w.mc 1:=(O.mc _ (by decide)).symm;have V3:w.ca 0=w.mc 4:=(O.mc _ (by decide)).symm;refine⟨rfl,λx dx hx NS nd=>⟨x,dx,rfl,ak,λa b ha fI ne=>⟨rfl,?_⟩⟩⟩;obtain⟨sub,W,V4,mb⟩:=NJ (i1:=[("waiting",.ref a),("found",.ref b)]) (ws:=[]) (fs:=[]) hx NS ha fI nd ne;obtain⟨dy,hy⟩:=W.Tc (ws:=[]) (fs:=[]);have S:St w q0 U y x a b (Wm (up (up (up M dx (.own x)) x (.ins (w.ca 0) dx [])) x (.ins (w.ca 0) dx [("waiting",.ref a),("found",.ref b)])) a b [] []) [] [] T:=
  ⟨⟨⟨dy,hy⟩,W.ne,W.xa,W.xb⟩,W.ga,Wm.gb,s.sub sub.sub⟩
 refine⟨_,dy,_,hy,m2,e8 (by decide +kernel) (by decide +kernel),.inl ⟨o,N,rfl,gP,W2 ii (by decide),Ce,hN,TY,λbs nd cZ _=>?_⟩⟩;refine⟨l3,l2,x,a,b,dy,_,_,_,[],rfl,hy,W.ga,by decide,?_⟩;have S1:=S.pa (ws':=[]++[.tup [w.gv.getD 18 .ai,rD q,.tup [.ag [.inr n] [rD o],bk n bs y]]]);have mL:=S.sa (ws':=[]++[.tup [w.gv.getD 18 .ai,rD q,.tup [.ag [.inr n] [rD o],bk n bs y]]]);obtain⟨Uv,hz⟩:=S1.W.hx;refine⟨_,Uv,_,hz,V3,e8 (by decide +kernel) (by decide +kernel),q0,U,y,x,a,b,T,n,o,bs,q,.ag [.inr n] [rD o],true,[],1,k,rfl,?_,NG,by decide,(λ_ z=>nomatch z),cZ,db,dp,bm,hq,hk,nq,hb,λM' sy=>aw (h M' (((Sy.sub s sub).tr (mL.tr sy)).drop V4 mb))⟩;unfold dI;rw[<- O.gb];exact S1
theorem inst_off{C x dx:Addr}{M:Mp}{i0 i1:List (Str×D)}(h1:M x=none)(h2:M dx=none)(n1:dx≠x):bD M (up (up (up M dx (.own x)) x (.ins C dx i0)) x (.ins C dx i1)):=by
 refine t9 (λc hc=>?_) λc e q bn=>?_
 ·rw[aj,aj,aj]
  ·rintro rfl;exact hc h2
  ·rintro rfl;exact hc h1
  ·rintro rfl;exact hc h1
 ·by_cases Tg:c=x
  ·subst Tg;rw[ak]at q;cases q
  rw[aj Tg,aj Tg]at q;by_cases cd:c=dx
  ·subst cd;rw[ak]at q;cases q;exact absurd h1 bn
  rw[aj cd]at q;exact q
noncomputable def NT:B:=.cons (.ret (.call 13 (.cons (.v 0) (.cons (.v 1) (.cons (.v 2) (.cons (.new 2 (.cons (.new 1 (.cons (.v 0) .nil)) (.cons (.v 3) .nil))) .nil)))))) .nil
noncomputable def NU:B:=.cons (.put (.v 3) (.v 1) (.c (.bl true))) NT
noncomputable def NV:B:=.cons (.set (.one 3) (.call 11 (.cons (.v 2) .nil))) NU
theorem NW:aJ ["question","name","other","taken"] ["question","name","other"] (ah (top 25)):=⟨rfl,rfl,rfl,by decide +kernel,rfl,by decide +kernel,by decide +kernel⟩
theorem NX:aO nm 40 ["question","name","other","taken"] (ah (top 25)) (aD (top 25))=NV:=by kernel_rfl
def Cf:Sp:=λds M Q _=>∃(n:Str)(o q:Rt)(k:Nat)(N:List Str),ds=[rD q,.str n,rD o]/\(∀x∈fv o,x∈N)/\N.length<64/\Ok o/\ht o<=25/\nk o<=150/\Ok q/\ht q<=k/\k<=25/\nk q<=150 /\
 Bd (aq (rD q)++(aq (rD o)++[n])) (nk q)/\Q (rD (sb n o fr k true [] q (aq (rD q)++(aq (rD o)++[n]))).1) M
noncomputable abbrev NY(w:Wo):a5 w:={ cs:=[(11,uQ),(13,Cd w)],ci:=[(1,5,BU w),(2,13,BV w)] }
theorem NZ(O:Lw w):FO w 12 10 Cf:=by
 refine a8 O.ok O.hn _ ⟨"put_in",top 25,["question","name","other"]⟩ (by rw[O.hd];rfl) (NY w) { cs:=⟨⟨3,by decide,BR O⟩,⟨9,by decide,NR O⟩,trivial⟩,ci:=⟨⟨O.m1 _ (by decide) (by decide),by rw[O.hms];rfl,1,by decide,M9 O⟩,⟨O.m2 _ (by decide) (by decide),by rw[O.hms];rfl,1,by decide,Na O⟩,trivial⟩ } NW NX λds M Q _ h=>?_;obtain⟨n,o,q,k,N,rfl,hN,TY,gP,ii,Ce,bm,hq,hk,nq,hb,h⟩:=h;obtain⟨to,V5⟩:=pj o gP;obtain⟨tq,V6⟩:=pj q bm;refine⟨rfl,rD o,rfl,to,by lia,λp kvs hp ks kl=>?_⟩;refine .inr ⟨_,ak,W6 (by lia:_<=100000) (by decide),?_⟩;rw[_root_.N.bQ];refine λpl N1 cr N3 nd=>⟨pl,rD q,N1,rfl,ak,rfl,λy dy hy N4 vc=>⟨y,.ref pl,.ref p,dy,rfl,ak,rfl,?_⟩⟩;have s1:=inst_off (C:=w.ca 1) (i0:=[]) (i1:=mI (rD q)) cr N3 nd;have s2:=inst_off (C:=w.ca 2) (i0:=[]) (i1:=[("place",D.ref pl),("more",.ref p),("taken",.ai)]) hy N4 vc;have s0:bD M (up M p (.ag (aZ kvs (.inr n) (C.bl true).d))):=t9 (λc hc=>aj (by rintro rfl;exact hc hp)) λc e z _=>kA (λ_ z=>by cases z) z;have ss:=s0.tr (s1.tr s2);refine⟨rD q,aq (rD o)++[n],y,_,n,o,q,k,N,rfl,.no ak (s2.sub _ _ ak) (s2.sub _ _ (s1.sub _ _ ak)) (ks.put _ _) (W2 (jK _ _ _) (by lia)) rfl,hN,TY,gP,ii,by lia,tq,by lia,bm,hq,hk,by lia,hb,λM' sy=>t8 ⟨λc o' e=>?_,λc e h1 h2=>?_⟩ h⟩
 ·refine (sy.k c o' (ss.sub _ _ e) ⟨?_,λ_ _ _ _ z=>by rw[ak]at z;cases z⟩ id).1;rintro rfl;have:=s0.tr s1;rw[this.sub _ _ e]at hy;cases hy
 ·refine ss.own c e h1 (sy.o e c h2 ?_);cases z:M c with
  |none=>exact absurd z h1
  |some o'=>rw[ss.sub _ _ z];exact λq=>nomatch q
variable{w:Wo}
noncomputable def c0:Kd:=.row [("a",.num),("w",.word)]
noncomputable def kB:Kd:=.row [("a",.num),("c",.aY .num),("f",.word),("k",.num)]
noncomputable def kX:Kd:=.row [("b",.aY .num),("p",c0)]
noncomputable def pS:Kd:=.row [("k",.num)]
noncomputable def AK:List Kd:=[.num,.word,c0,kB,kX,pS,.row [],.aY .num,.aY .word,.aY c0,.aY kB,.aY kX,.aY pS,.aY (.row []),.aY (.aY .num)]
noncomputable def NL:List Str:=["x","y","a","d","b","z","c","aa","abc","xx","longname","e"]
noncomputable def AL:List Str:=mx++NL++(["w","f","k","p","red"]:List Str)
theorem Cg{x:Str}(h:x∈NL):x∈AL:=W5 _ (Xf _ h)
mutual
noncomputable def lh:Kd->Nat
 |.num=>1 |.word=>1
 |.row fs=>1+lhs fs
 |.aY k=>1+lh k
noncomputable def lhs:List (Str×Kd)->Nat
 |[]=>0
 |(_,k)::r=>max (lh k) (lhs r)
end
mutual
noncomputable def lz:Kd->Nat
 |.num=>2 |.word=>2
 |.row fs=>2+mN fs
 |.aY k=>2+lz k
noncomputable def mN:List (Str×Kd)->Nat
 |[]=>0
 |(_,k)::r=>lz k+mN r
end
noncomputable def Ci:Kd->Bool
 |.row fs=>decide ((∀p∈fs,p.2∈AK/\p.1∈AL)/\fs.length<=4)
 |.aY k=>decide (k∈AK)
 |_=>true
theorem fm{k:Kd}(h:k∈AK):Ci k=true/\kd k<=9/\lh k<=4/\lz k<=16/\(aE (kD k)=true/\aH (kD k)<=10/\sz (kD k)<=100)/\∀x∈aq (kD k),x∈AL:=
 (by decide +kernel:∀k∈AK,Ci k=true/\kd k<=9/\lh k<=4/\lz k<=16/\(aE (kD k)=true/\aH (kD k)<=10/\sz (kD k)<=100)/\∀x∈aq (kD k),x∈AL) k h
theorem vd{fs:List (Str×Kd)}(h:.row fs∈AK):(∀p∈fs,p.2∈AK/\p.1∈AL)/\fs.length<=4:=of_decide_eq_true (fm h).1
theorem Cj{k:Kd}(h:.aY k∈AK):k∈AK:=of_decide_eq_true (fm h).1
structure Gt(m:Nat)(q:Rt):Prop where
 ok:Ok q
 tx:∀x∈aq (rD q),x∈AL
 h:ht q<=m
theorem Gt.le{m n:Nat}{q:Rt}(g:Gt m q)(h:m<=n):Gt n q:=⟨g.ok,g.tx,W2 g.h h⟩
theorem gt{m:Nat}{hd:Hd}{cs:List Rt}(k:Hk hd cs.length)(hs:∀x∈iu hd,x∈AL)(hc:∀c∈cs,Gt m c):Gt (m+1) (.nd hd cs):=by
 refine⟨.mk k λc h=>(hc c h).ok,λx hx=>?_,?_⟩
 ·rcases (o8 k).mp hx with z |⟨c,h1,h2⟩
  ·exact hs x z
  ·exact (hc c h1).tx x h2
 ·have U4:∀ cs:List Rt,(∀ c∈cs,Gt m c)->(cs.map ht).foldr max 0<=m:=λcs h=>max_le.mpr λy hy=>by
   obtain⟨c,h1,rfl⟩:=List.mem_map.mp hy;exact (h c h1).h
  cases hd with
  |var x=>show fQ.f _<=_;rw[az.fv];exact Nat.le_add_left ..
  |bd f x=>
   obtain⟨qa,qb,rfl⟩:=mK k rfl;show fQ.f _<=_;rw[az.fb];have h1:fQ.f qa<=m:=(hc qa (by simp)).h;have h2:fQ.f qb<=m:=(hc qb (by simp)).h;show 1+max _ _<=_;lia
  |row fs=>
   show fQ.f _<=_;rw[az.fo (by intro x e;cases e) (by intro f x e;cases e)];have:=U4 cs hc;show 1+_<=_;exact Nat.add_comm m 1 ▸ Nat.add_le_add_left this 1
  |o w ds=>
   show fQ.f _<=_;rw[az.fo (by intro x e;cases e) (by intro f x e;cases e)];have:=U4 cs hc;show 1+_<=_;exact Nat.add_comm m 1 ▸ Nat.add_le_add_left this 1
theorem dr{w:Str}{ds:List D}{cs:List Rt}:rD (.nd (.o w ds) cs)=.tup (.str w::(ds++cs.map rD)):=by rw[rD,ip];rfl
theorem Ck{x:Str}(h:x∈AL):Gt 1 (.nd (.var x) []):=gt (m:=0) rfl (λy hy=>by
 rcases List.mem_cons.mp hy with rfl |hy
 ·decide +kernel
 ·rw[List.mem_singleton.mp hy];exact h) λc h=>nomatch h
theorem ve{m:Nat}{w:Str}{cs:List Rt}(h:dm.any (λx=>decide (x=w) && decide (x∈AL))=true)(l0:1<=cs.length)(l2:cs.length<=2)(hc:∀c∈cs,Gt m c):Gt (m+1) (.nd (.o w []) cs):=by
 obtain⟨x,h1,h2⟩:=List.any_eq_true.mp h;rw[WT]at h2;obtain rfl:=of_decide_eq_true h2.1;refine gt ⟨(λd h=>nomatch h),.inr (.inr ⟨h1,rfl,l0,l2⟩)⟩ (λy hy=>?_) hc;rcases List.mem_cons.mp hy with rfl |hy
 ·exact of_decide_eq_true h2.2
 ·simp [aL]at hy
theorem pT{m:Nat}{w:Str}{d:D}(h:fS.any (λx=>decide (x=w) && decide (x∈AL))=true)(hd:aE d=true/\aH d<=10/\sz d<=100)(ht:∀x∈aq d,x∈AL):Gt (m+1) (.nd (.o w [d]) []):=by
 obtain⟨x,h1,h2⟩:=List.any_eq_true.mp h;rw[WT]at h2;obtain rfl:=of_decide_eq_true h2.1;refine gt ⟨λd h=>by rw[List.mem_singleton.mp h];exact hd,.inl ⟨h1,rfl,rfl⟩⟩ (λy hy=>?_) λc h=>nomatch h;rcases List.mem_cons.mp hy with rfl |hy
 ·exact of_decide_eq_true h2.2
 ·rw[aL,aL,Xc]at hy;exact ht y hy
theorem vf{m:Nat}{w:Str}{d:D}{q:Rt}(h:fe.any (λx=>decide (x=w) && decide (x∈AL))=true)(hd:aE d=true/\aH d<=10/\sz d<=100)(ht:∀x∈aq d,x∈AL)(g:Gt m q):Gt (m+1) (.nd (.o w [d]) [q]):=by
 obtain⟨x,h1,h2⟩:=List.any_eq_true.mp h;rw[WT]at h2;obtain rfl:=of_decide_eq_true h2.1;refine gt ⟨λd h=>by rw[List.mem_singleton.mp h];exact hd,.inr (.inl ⟨h1,rfl,rfl⟩)⟩ (λy hy=>?_) λc h=>by rw[List.mem_singleton.mp h];exact g
 rcases List.mem_cons.mp hy with rfl |hy
 ·exact of_decide_eq_true h2.2
 ·rw[aL,aL,Xc]at hy;exact ht y hy
theorem pU{x:Str}:aE (.str x)=true/\aH (.str x)<=10/\sz (.str x)<=100:=⟨by rw[aE],by rw[aH];decide,by rw[sz];decide⟩
theorem pV{x:Str}(h:x∈AL):∀y∈aq (.str x),y∈AL:=λy hy=>by rw[aq]at hy;rw[List.mem_singleton.mp hy];exact h
theorem pW{i:Int}:(aE (.int i)=true/\aH (.int i)<=10/\sz (.int i)<=100)/\∀y∈aq (.int i),y∈AL:=⟨⟨by rw[aE],by rw[aH];decide,by rw[sz];decide⟩,λy hy=>by simp [aq]at hy⟩
structure Ev(sc:Sc)(m:Nat):Prop where
 T4:∀p∈sc,p.1∈NL/\p.2∈AK
 len:sc.length+m<=30
theorem Ev.av{sc:Sc}{m k:Nat}(h:Ev sc m)(hk:k<=m):Ev sc k:=⟨h.T4,by have:=h.len;lia⟩
noncomputable def stk:Sc:=[("d",c0),("b",.num),("e",kB),("x",kX)]
noncomputable def N5:B:=.cons (.ret (.j6 (.cons (.c (.str "d")) (.cons (.c (.str "b")) (.cons (.c (.str "e")) (.cons (.c (.str "x")) .nil)))) (.cons (.v 0) (.cons (.tup (.cons (.c (.str "num")) .nil)) (.cons (.v 1) (.cons (.tup (.cons (.c (.str "row")) (.cons (.tup (.cons (.tup (.cons (.c (.str "b")) (.cons (.tup (.cons (.c (.str "bag")) (.cons (.tup (.cons (.c (.str "num")) .nil)) .nil))) .nil))) (.cons (.tup (.cons (.c (.str "p")) (.cons (.v 0) .nil))) .nil))) .nil))) .nil)))))) .nil
noncomputable def N6:B:=.cons (.set (.one 1) (.tup (.cons (.c (.str "row")) (.cons (.tup (.cons (.tup (.cons (.c (.str "a")) (.cons (.tup (.cons (.c (.str "num")) .nil)) .nil))) (.cons (.tup (.cons (.c (.str "c")) (.cons (.tup (.cons (.c (.str "bag")) (.cons (.tup (.cons (.c (.str "num")) .nil)) .nil))) .nil))) (.cons (.tup (.cons (.c (.str "f")) (.cons (.tup (.cons (.c (.str "word")) .nil)) .nil))) (.cons (.tup (.cons (.c (.str "k")) (.cons (.tup (.cons (.c (.str "num")) .nil)) .nil))) .nil))))) .nil)))) N5
noncomputable def N7:B:=.cons (.set (.one 0) (.tup (.cons (.c (.str "row")) (.cons (.tup (.cons (.tup (.cons (.c (.str "a")) (.cons (.tup (.cons (.c (.str "num")) .nil)) .nil))) (.cons (.tup (.cons (.c (.str "w")) (.cons (.tup (.cons (.c (.str "word")) .nil)) .nil))) .nil))) .nil)))) N6
theorem N8:aJ ["pair","wide"] [] (ah (top 34)):=⟨rfl,rfl,rfl,by decide +kernel,rfl,by decide +kernel,by decide +kernel⟩
theorem N9:aO nm 40 ["pair","wide"] (ah (top 34)) (aD (top 34))=N7:=by kernel_rfl
def pX:Sp:=λds M Q _=>ds=[]/\Q (a9 stk) M
theorem vg(O:Lw w):FO w 20 1 pX:=by
 refine a8 O.ok O.hn _ ⟨"_law_stock",top 34,[]⟩ (by rw[O.hd];rfl) {} { cs:=trivial } N8 N9 λds M Q _ h=>?_;obtain⟨rfl,h⟩:=h;exact⟨rfl,l1,l2,l1,l2,l2,l2,l1,l2,l1,l2,l2,l1,l2,l1,l2,l4,l2,l1,l1,l2,l2,l2,l2,l2,.inl (aw h)⟩
noncomputable def Oa:B:=(.cons (.set (.one 1) (.lst (.cons (.c (.str "x")) (.cons (.c (.str "y")) (.cons (.c (.str "a")) (.cons (.c (.str "d")) (.cons (.c (.str "b")) (.cons (.c (.str "z")) (.cons (.c (.str "c")) (.cons (.c (.str "aa")) (.cons (.c (.str "abc")) (.cons (.c (.str "xx")) (.cons (.c (.str "longname")) (.cons (.c (.str "e")) .nil)))))))))))))) (.cons (.ret (.ix (.v 1) (.call 19 (.cons (.v 0) (.cons (.c (.int 12)) .nil))))) .nil))
theorem Ob:aJ ["deck","some"] ["deck"] (ah (top 37)):=⟨rfl,rfl,rfl,by decide +kernel,rfl,by decide +kernel,by decide +kernel⟩
theorem Oc:aO nm 40 ["deck","some"] (ah (top 37)) (aD (top 37))=Oa:=by kernel_rfl
def Cm:Sp:=λds M Q _=>∃p c,ds=[.ref p]/\Dk M p c/\∀x X,Dx M p c X->x∈NL->Q (.str x) X
theorem Od(O:Lw w):FO w 23 2 Cm:=by
 refine a8 O.ok O.hn _ ⟨"_law_name",top 37,["deck"]⟩ (by rw[O.hd];rfl) { cs:=[(19,fT)] } { cs:=⟨⟨1,by decide,gM O⟩,trivial⟩ } Ob Oc λds M Q _ h=>?_;obtain⟨p,c,rfl,k,h⟩:=h;refine⟨rfl,(by decide:12<=sizeLine),.inl ⟨p,c,12,rfl,k,by decide,by decide,λr X u r0 r1=>?_⟩⟩;obtain⟨d,e1,e2⟩:=ez (xs:=NL.map D.str) r0 r1;obtain⟨x,hx,rfl⟩:=List.mem_map.mp e2;exact⟨_,e1,aw (h x X u hx)⟩
noncomputable def Oe:B:=.cons (.ret (.ix (.op .Add (.v 2) (.lst (.cons (.tup (.cons (.c (.str "row")) (.cons (.tup (.cons (.tup (.cons (.c (.str "k")) (.cons (.tup (.cons (.c (.str "num")) .nil)) .nil))) .nil)) .nil))) .nil))) (.call 19 (.cons (.v 0) (.cons (.c (.int 8)) .nil))))) .nil
noncomputable def Of:B:=.cons (.set (.one 2) (.lst (.cons (.tup (.cons (.c (.str "num")) .nil)) (.cons (.ix (.v 1) (.c (.str "d"))) (.cons (.tup (.cons (.c (.str "word")) .nil)) (.cons (.ix (.v 1) (.c (.str "x"))) (.cons (.tup (.cons (.c (.str "bag")) (.cons (.tup (.cons (.c (.str "num")) .nil)) .nil))) (.cons (.ix (.v 1) (.c (.str "e"))) (.cons (.tup (.cons (.c (.str "row")) (.cons (.tup .nil) .nil))) .nil))))))))) Oe
noncomputable def Og:B:=.cons (.set (.one 1) (.call 20 .nil)) Of
theorem Oh:aJ ["deck","stock","some"] ["deck"] (ah (top 38)):=⟨rfl,rfl,rfl,by decide +kernel,rfl,by decide +kernel,by decide +kernel⟩
theorem Oi:aO nm 40 ["deck","stock","some"] (ah (top 38)) (aD (top 38))=Og:=by kernel_rfl
def vh:Sp:=λds M Q _=>∃p c,ds=[.ref p]/\Dk M p c/\∀ κ X,Dx M p c X->κ∈AK->.aY κ∈AK->Q (kD κ) X
theorem Cn(O:Lw w):FO w 24 2 vh:=by
 refine a8 O.ok O.hn _ ⟨"_law_kind",top 38,["deck"]⟩ (by rw[O.hd];rfl) { cs:=[(20,pX),(19,fT)] } { cs:=⟨⟨1,by decide,vg O⟩,⟨1,by decide,gM O⟩,trivial⟩ } Oh Oi λds M Q _ h=>?_;obtain⟨p,c,rfl,k,h⟩:=h;have v:∀x κ,lk x stk=some κ->aK ((stk.map λm=>(XW m.1:Key)).zip (stk.map λm=>kD m.2)) (.inr x)=some (kD κ):=λx κ h=>by rw[jd,km,h];rfl
 refine⟨rfl,rfl,?_⟩;refine⟨l1,_,v "d" c0 rfl,l1,_,v "x" kX rfl,l1,l2,_,v "e" kB rfl,?_⟩;refine⟨W9 _,l2,(by decide:7<=sizeLine),.inl ?_⟩;refine⟨l1,l2,l1,l2,l1,.inl ⟨(by decide:8<=sizeLine),.inl ?_⟩⟩;refine⟨p,c,8,rfl,k,by decide,by decide,λr X u r0 r1=>?_⟩;obtain⟨d,e1,e2⟩:=ez (xs:=([.num,c0,.word,kX,.aY .num,kB,.row [],pS]:List Kd).map kD) r0 r1;obtain⟨κ,hκ,rfl⟩:=List.mem_map.mp e2;obtain⟨SF,SE⟩:=(by decide +kernel:∀ κ∈([.num,c0,.word,kX,.aY .num,kB,.row [],pS]:List Kd),κ∈AK/\.aY κ∈AK) κ hκ;exact⟨_,e1,aw (h κ X u SF SE)⟩
structure Wy(q:Rt):Prop where
 g:Gt 2 q
 n:nk q<=2
theorem Oj{w:Str}{d:D}{q:Rt}:nk (.nd (.o w [d]) [q])=1+nk q:=by
 show iq.f _=_;rw[az.fo (by intro x e;cases e) (by intro f x e;cases e)];rfl
theorem vi{x:Str}:nk (.nd (.var x) [])=1:=by show iq.f _=_;rw[az.fv];rfl
noncomputable def Ol:B:=.cons (.ret (.v 2)) .nil
noncomputable def Om:B:=.cons (.loop (.one 3) (.seq (.bi .sorted (.cons (.v 0) .nil))) (.cons (.cond (.cmp .Eq (.ix (.v 0) (.v 3)) (.v 1)) (.cons (.ex (.mt .append (.v 2) (.cons (.tup (.cons (.c (.str "var")) (.cons (.v 3) .nil))) .nil))) .nil) .nil) (.cons (.cond (.cmp .Eq (.ix (.ix (.v 0) (.v 3)) (.c (.int 0))) (.c (.str "row"))) (.cons (.set (.one 2) (.op .Add (.v 2) (.lc 2 [1,3] (.many [0,1]) (.seq (.ix (.ix (.v 0) (.v 3)) (.c (.int 1)))) (.cmp .Eq (.v 1) (.v 2)) (.tup (.cons (.c (.str "at")) (.cons (.v 0) (.cons (.tup (.cons (.c (.str "var")) (.cons (.v 3) .nil))) .nil))))))) .nil) .nil) .nil))) Ol
noncomputable def Oo:B:=.cons (.set (.one 2) (.lst .nil)) Om
theorem Oq:aJ ["env","kind","found","name"] ["env","kind"] (ah (top 35)):=⟨rfl,rfl,rfl,by decide +kernel,rfl,by decide +kernel,by decide +kernel⟩
theorem Ot:aO nm 40 ["env","kind","found","name"] (ah (top 35)) (aD (top 35))=Oo:=by kernel_rfl
def Co:Sp:=λds M Q _=>∃sc κ,ds=[a9 sc,kD κ]/\κ∈AK/\Ev sc 0/\∀ws:List Rt,(∀q∈ws,Wy q)->ws.length<=200->Q (.lst (ws.map rD)) M
theorem Ou(O:Lw w):FO w 21 1 Co:=by
 refine a8 O.ok O.hn _ ⟨"_law_ways",top 35,["env","kind"]⟩ (by rw[O.hd];rfl) {} { cs:=trivial } Oq Ot λds M Q _ h=>?_;obtain⟨sc,κ,rfl,hκ,hs,h⟩:=h;have hl:=hs.len;refine⟨rfl,W9 _,.inr λp hp=>?_⟩;refine⟨sc.map (·.1),?_,by rw[WQ];lia,λys py _=>.inl ?_⟩
 ·show ((sc.map λm=>(XW m.1:Key)).zip (sc.map λm=>kD m.2)).map (·.1)=_;rw[jd];unfold cj;rw[X7,X7];rfl
 have WH:ys.length<=30:=by rw[py.length_eq,WQ];lia
 refine e7 (λxs τ M'=>∃rest lw ws u,xs=rest.map D.str/\(∀x∈rest,x∈sc.map (·.1))/\τ=[some (a9 sc),some (kD κ),some (.ref lw),u]/\M lw=none/\M' lw=some (.lst (ws.map rD))/\bD M M'/\(∀q∈ws,Wy q)/\ws.length+5 * rest.length<=200)
  ?_ ?_ _ _ _ ⟨ys,p,[],none,rfl,λx hx=>py.mem_iff.mp hx,rfl,hp,ak,tX hp rfl,λq hq=>(nomatch hq),by simp;lia⟩
 ·rintro τ M' ⟨rest,lw,ws,u,e1,hr,rfl,n1,n2,sb,hw,jm⟩;exact⟨trivial,.rfl (AR sb n1 n2 (h ws hw (by lia)))⟩
 ·rintro x xs τ M' ⟨rest,lw,ws,u,e1,hr,rfl,n1,n2,sb,hw,jm⟩;cases rest with
  |nil=>cases e1
  |cons r rest=>
  cases e1;have jn:∀x∈rest,x∈sc.map (·.1):=λx hx=>hr x (WY _ hx);obtain⟨κr,Ch⟩:∃ κr,lk r sc=some κr:=Option.isSome_iff_exists.mp (by rw[NQ.oM];exact decide_eq_true (hr r WZ));obtain⟨V7,rk⟩:=hs.T4 _ (jc Ch);have rk:κr∈AK:=rk;have rl:r∈AL:=Cg V7;have hv:aK ((sc.map λm=>(XW m.1:Key)).zip (sc.map λm=>kD m.2)) (.inr r)=some (kD κr):=by rw[jd,km,Ch];rfl
  refine⟨trivial,λN hN=>?_⟩;show B.w ({}:a5 w).wd nm.af _ _ [some (a9 sc),some (kD κ),some (.ref lw),some (.str r)] M';refine fP λN2 fi=>?_;have go:∀(M1:Mp)(im:List Rt),M1 lw=some (.lst (im.map rD))->bD M M1->(∀q∈im,Wy q)->im.length<=ws.length+1->N2 [some (a9 sc),some (kD κ),some (.ref lw),some (.str r)] M1:=by
   intro M1 im g1 g2 g4 g5;refine fi _ _ ⟨_,hv,?_⟩;cases κr with
   |row fs=>
    obtain⟨f1,f3⟩:=vd rk;refine⟨_,rfl,aT (aP (by decide) ⟨_,hv,_,rfl,?_⟩)⟩;refine dU (λxs ys M2=>M2=M1/\∃ce vs,xs=cf ce/\ys=vs.map rD/\(∀p∈ce,p∈fs)/\(∀q∈vs,Wy q)/\vs.length+ce.length<=4) ?_ ?_ _ _ _ ⟨rfl,fs,[],rfl,rfl,λp h=>h,λq h=>(nomatch h),by simpa using f3⟩
    ·rintro ys M2 ⟨rfl,ce,vs,_,rfl,h2,h3,h4⟩;refine⟨trivial,W6 (by rw[WQ];lia:_<=4) (by decide),.inl ?_⟩;refine⟨_,g1,W2 (by simp at jm ⊢;lia:_<=300) (by decide),.inr λp4 Cp=>?_⟩;refine hN _ _ ⟨rest,p4,im++vs,_,rfl,jn,rfl,bD.no g2 Cp,by rw[ak,W'],kn g2 (bD.no g2 Cp) rfl,λq hq=>(List.mem_append.mp hq).elim (g4 q) (h3 q),by simp at jm ⊢;lia⟩
    ·rintro x xs ys M2 ⟨rfl,ce,vs,e1,rfl,h2,h3,h4⟩;cases ce with
     |nil=>cases e1
     |cons g ce=>
      obtain⟨gf,Tq⟩:=g;rw[cf]at e1;cases e1;have hm:=h2 _ WZ;obtain⟨fH,lN⟩:=f1 _ hm;have fH:Tq∈AK:=fH;refine⟨trivial,W6 (by rw[WQ];lia:_<=4) (by decide),λWI Cq=>⟨rfl,t6 (by have:=(fm fH).2.1;lia) (bG (λe=>?_) λe=>?_)⟩⟩
      ·have:=Cq (vs.map rD++[.tup [.str "at",.str gf,.tup [.str "var",.str r]]]) M2 ⟨rfl,ce,vs++[.nd (.o "at" [.str gf]) [.nd (.var r) []]],rfl,by rw[W',W0,dr,W0,gO];rfl,λp h=>h2 p (WY _ h),λq hq=>?_,by simp at h4 ⊢;lia⟩
       ·exact⟨l2,l3,this⟩
       ·rcases List.mem_append.mp hq with z |z
        ·exact h3 q z
        ·rw[List.mem_singleton.mp z];exact⟨vf (by decide +kernel) pU (pV lN) (Ck rl),by rw[Oj,vi];exact WU _⟩
      ·exact Cq _ _ ⟨rfl,ce,vs,rfl,rfl,λp h=>h2 p (WY _ h),h3,by simp at h4 ⊢;lia⟩
   |num=>exact⟨_,rfl,aT (ax (by decide) (hN _ _ ⟨rest,lw,im,_,rfl,jn,rfl,n1,g1,g2,g4,by simp at jm;lia⟩))⟩
   |word=>exact⟨_,rfl,aT (ax (by decide) (hN _ _ ⟨rest,lw,im,_,rfl,jn,rfl,n1,g1,g2,g4,by simp at jm;lia⟩))⟩
   |aY k=>exact⟨_,rfl,aT (ax (by decide) (hN _ _ ⟨rest,lw,im,_,rfl,jn,rfl,n1,g1,g2,g4,by simp at jm;lia⟩))⟩
  refine⟨_,hv,t6 (by have:=(fm rk).2.1;lia) (bG (λe=>?_) λe=>go M' ws n2 sb hw (by lia))⟩
  refine⟨.inl ⟨rfl,_,n2⟩,l2,_,n2,W6 (by simp at jm ⊢;lia:_<=200) (by decide),go _ (ws++[.nd (.var r) []]) ?_ ?_ ?_ (by simp)⟩
  ·rw[ak,W',W0,gO];rfl
  ·exact kn sb n1 rfl
  ·intro q hq;rcases List.mem_append.mp hq with z |z
   ·exact hw q z
   ·rw[List.mem_singleton.mp z];exact⟨(Ck rl).le (by decide),by rw[vi];decide⟩
noncomputable def Ov:B:=.cons (.ret (.v 3)) .nil
noncomputable def Ow:B:=.cons (.put (.v 3) (.v 1) (.v 2)) Ov
noncomputable def Ox:B:=.cons (.set (.one 3) (.bi .dict (.cons (.v 0) .nil))) Ow
theorem Oy:aJ ["env","name","kind","found"] ["env","name","kind"] (ah (top 36)):=⟨rfl,rfl,rfl,by decide +kernel,rfl,by decide +kernel,by decide +kernel⟩
theorem Oz:aO nm 40 ["env","name","kind","found"] (ah (top 36)) (aD (top 36))=Ox:=by kernel_rfl
def Cr:Sp:=λds M Q _=>∃sc x κ m,ds=[a9 sc,.str x,kD κ]/\Ev sc (m+1)/\x∈NL/\κ∈AK/\∀fq,Ev fq m->Q (a9 fq) M
theorem OA{x:Str}{κ:Kd}:∀sc:Sc,∃fq,aZ (cj sc) (.inr x) (kD κ)=cj fq/\(∀p∈fq,p=(x,κ)\/p∈sc)/\fq.length<=sc.length+1:=λsc=>by
 by_cases h:x∈sc.map (·.1)
 ·refine⟨sc.map λp=>if p.1=x then (x,κ) else p,?_,λp hp=>?_,by rw[WQ];lia⟩
  ·unfold aZ;rw[if_pos]
   ·unfold cj;rw[X7,X7];refine List.map_congr_left λp _=>?_;show (if (XW p.1:Key)=.inr x then ((XW p.1:Key),kD κ) else (.inr p.1,kD p.2))=_
    by_cases e:p.1=x
    ·rw[if_pos (by rw[e])];show _=((XW (if p.1=x then (x,κ) else p).1:Key),kD (if p.1=x then (x,κ) else p).2)
     rw[if_pos e,e]
    ·rw[if_neg λq=>e (YK q)];show _=((XW (if p.1=x then (x,κ) else p).1:Key),kD (if p.1=x then (x,κ) else p).2)
     rw[if_neg e]
   ·obtain⟨p,hp,e⟩:=List.mem_map.mp h;exact List.any_eq_true.mpr ⟨(.inr p.1,kD p.2),List.mem_map.mpr ⟨p,hp,rfl⟩,decide_eq_true (by rw[e])⟩
  ·obtain⟨q,hq,e⟩:=List.mem_map.mp hp;by_cases c:q.1=x
   ·rw[if_pos c]at e;exact .inl e.symm
   ·rw[if_neg c]at e;exact .inr (e ▸ hq)
 ·exact⟨sc++[(x,κ)],Kv h,λp hp=>(List.mem_append.mp hp).elim .inr λz=>.inl (List.mem_singleton.mp z),by simp⟩
theorem OB(O:Lw w):FO w 22 1 Cr:=by
 refine a8 O.ok O.hn _ ⟨"_law_with",top 36,["env","name","kind"]⟩ (by rw[O.hd];rfl) {} { cs:=trivial } Oy Oz λds M Q _ h=>?_;obtain⟨sc,x,κ,m,rfl,hs,hx,hκ,h⟩:=h;have hl:=hs.len;refine⟨rfl,.inl ?_⟩;have ad:∀P:List (Key×D)->Prop,P (cj sc)->b4 (a9 sc) M P:=λP h=>by
  rw[<- jd]at h;exact h
 refine ad _ (.inr λp hp=>?_);obtain⟨fq,e1,e2,e3⟩:=OA (x:=x) (κ:=κ) sc;refine .inr ⟨_,ak,W6 (by unfold cj;rw[WQ];lia:_<=30) (by decide),?_⟩;show bA Q (.ref p) (up (up M p (.ag (cj sc))) p (.ag (aZ (cj sc) (.inr x) (kD κ))));rw[_root_.N.bQ,e1];refine⟨M,a9 fq,tX hp rfl,?_,h fq ⟨λq hq=>?_,by lia⟩⟩
 ·rw[<- Ku];exact .ag ak hp .rfl
 ·rcases e2 q hq with rfl |hq
  ·exact⟨hx,hκ⟩
  ·exact hs.T4 q hq
variable{w:Wo}
noncomputable def zw(fs:List Str)(qs:List Rt):List D:=Xy (λf c=>D.tup [.str f,rD c]) fs qs
theorem Ct{f:Str}{q:Rt}:∀{fs:List Str}{qs:List Rt},fs.length=qs.length->zw (fs++[f]) (qs++[q])=zw fs qs++[.tup [.str f,rD q]]:=λ{fs qs}h=>by
 unfold zw;rw[List.zipWith_append h];rfl
theorem pY{fs:List Str}{qs:List Rt}(h:fs.length=qs.length):(zw fs qs).length=fs.length:=by unfold zw;rw[List.length_zipWith];lia
noncomputable def mO(z:Kd->Nat)(fs:List (Str×Kd)):Nat:=(fs.map λp=>z p.2).sum
theorem Cu{te:DE}{τ:N.St}{k:List D->Mp->Prop}{p c:Addr}{M:Mp}{fs:List (Str×Kd)}{m:Nat}{zz:Bool}{z:Kd->Nat}(hk:Dk M p c)(hf:fs.length<=4)
  (one:∀f κ,(f,κ)∈fs->∀X,Dx M p c X->∀N:D->Mp->Prop,(∀q Y,Dx X p c Y->Gt m q->(zz=true->nk q<=z κ)->N (.tup [.str f,rD q]) Y)->te ((τ.set 0 (some (.str f))).set 1 (some (kD κ))) X N)
  (fin:∀qs X,Dx M p c X->fs.length=qs.length->(∀q∈qs,Gt m q)->(zz=true->aM qs<=mO z fs)->k (zw (fs.map (·.1)) qs) X):cb (λ_=>True) (.many [0,1]) gz te τ k (cf fs) [] M:=by
 refine dU (λxs ys Y=>∃ce qs pre,xs=cf ce/\fs=pre++ce/\ys=zw (pre.map (·.1)) qs/\pre.length=qs.length/\(∀q∈qs,Gt m q)/\(zz=true->aM qs<=mO z pre)/\Dx M p c Y) ?_ ?_ _ _ _ ⟨fs,[],[],rfl,rfl,rfl,rfl,λq h=>(nomatch h),λ_=>WU _,.rfl hk⟩
 ·rintro ys Y ⟨ce,qs,pre,e1,e2,rfl,t1,t2,t3,uY⟩;cases ce with
  |cons g ce=>obtain⟨gf,Tq⟩:=g;rw[cf]at e1;cases e1
  |nil=>
   rw[Xc]at e2;subst e2;exact⟨trivial,W6 (by rw[pY (by rw[WQ];exact t1),WQ];exact hf) (by decide),fin qs Y uY t1 t2 t3⟩
 ·rintro x xs ys Y ⟨ce,qs,pre,e1,e2,rfl,t1,t2,t3,uY⟩;cases ce with
  |nil=>cases e1
  |cons g ce=>
   obtain⟨gf,Tq⟩:=g;rw[cf]at e1;cases e1;have hm:(gf,Tq)∈fs:=(by rw[e2];simp);have ln:pre.length<=4:=(by rw[e2]at hf;simp at hf;lia);refine⟨trivial,W6 (by rw[pY (by rw[WQ];exact t1),WQ];exact ln) (by decide),λN hN=>⟨rfl,one gf Tq hm Y uY _ λq Z u3 g Tu=>?_⟩⟩;refine hN _ _ ⟨ce,qs++[q],pre++[(gf,Tq)],rfl,by rw[e2];simp,by rw[W'];exact (Ct (by rw[WQ];exact t1)).symm,by simp [t1],λr hr=>?_,λe=>?_,uY.tr u3⟩
   ·rcases List.mem_append.mp hr with h |h
    ·exact t2 r h
    ·rw[List.mem_singleton.mp h];exact g
   ·have h1:=t3 e;have h2:=Tu e;rw[iz];unfold mO at h1 ⊢;rw[W',List.sum_append];unfold aM at h1 ⊢;simp;lia
theorem vj{m:Nat}{fs:List Str}{qs:List Rt}(h:fs.length=qs.length)(l:qs.length<100)(hf:∀f∈fs,f∈AL)(hq:∀q∈qs,Gt m q):Gt (m+1) (.nd (.row fs) qs):=gt ⟨h,l⟩ (λx hx=>by
 rcases List.mem_cons.mp hx with rfl |hx
 ·decide +kernel
 ·exact hf x hx) hq
theorem OD{fs:List Str}{qs:List Rt}:nk (.nd (.row fs) qs)=1+aM qs:=by
 show iq.f _=_;rw[az.fo (by intro x e;cases e) (by intro f x e;cases e)];rfl
theorem mP{w:Str}{ds:List D}{qs:List Rt}:nk (.nd (.o w ds) qs)=1+aM qs:=by
 show iq.f _=_;rw[az.fo (by intro x e;cases e) (by intro f x e;cases e)];rfl
noncomputable def OE:B:=.cons (.ret (.tup (.cons (.c (.str "none")) (.cons (.ix (.v 2) (.c (.int 1))) .nil)))) .nil
noncomputable def OG:B:=.cons (.cond (.cmp .Eq (.call 19 (.cons (.v 0) (.cons (.c (.int 3)) .nil))) (.c (.int 1))) (.cons (.ret (.tup (.cons (.c (.str "one")) (.cons (.call 25 (.cons (.v 0) (.cons (.v 1) (.cons (.ix (.v 2) (.c (.int 1))) .nil)))) .nil)))) .nil) .nil) OE
noncomputable def Cv:B:=.cons (.cond (.and (.cmp .NotEq (.v 4) (.lst .nil)) (.cmp .Lt (.call 19 (.cons (.v 0) (.cons (.c (.int 3)) .nil))) (.c (.int 2)))) (.cons (.ret (.tup (.cons (.c (.str "table")) (.cons (.ix (.v 4) (.c (.int 0))) .nil)))) .nil) .nil) OG
noncomputable def OH:B:=.cons (.set (.one 4) (.lc 1 [2] (.one 0) (.seq (.lst (.cons (.c (.str "b")) (.cons (.c (.str "d")) (.cons (.c (.str "e")) (.cons (.c (.str "x")) .nil)))))) (.cmp .Eq (.ix (.call 20 .nil) (.v 0)) (.ix (.v 1) (.c (.int 1)))) (.v 0))) Cv
noncomputable def OI:B:=.cons (.cond (.cmp .Eq (.ix (.v 2) (.c (.int 0))) (.c (.str "row"))) (.cons (.ret (.tup (.cons (.c (.str "row")) (.cons (.bi .tuple (.cons (.lc 2 [0,1] (.many [0,1]) (.seq (.ix (.v 2) (.c (.int 1)))) .ao (.tup (.cons (.v 0) (.cons (.call 25 (.cons (.v 2) (.cons (.v 3) (.cons (.v 1) .nil)))) .nil)))) .nil)) .nil)))) .nil) .nil) OH
noncomputable def OJ:B:=.cons (.cond (.cmp .Eq (.ix (.v 2) (.c (.int 0))) (.c (.str "word"))) (.cons (.ret (.tup (.cons (.c (.str "word")) (.cons (.ix (.lst (.cons (.c (.str "a")) (.cons (.c (.str "x")) (.cons (.c (.str "red")) (.cons (.c (.str "c")) .nil))))) (.call 19 (.cons (.v 0) (.cons (.c (.int 4)) .nil)))) .nil)))) .nil) .nil) OI
noncomputable def OL:B:=.cons (.cond (.cmp .Eq (.ix (.v 2) (.c (.int 0))) (.c (.str "num"))) (.cons (.ret (.tup (.cons (.c (.str "num")) (.cons (.ix (.lst (.cons (.op .Sub (.call 19 (.cons (.v 0) (.cons (.c (.int 5)) .nil))) (.c (.int 1))) (.cons (.op .Pow (.c (.int 10)) (.c (.int 20))) .nil))) (.bi .int (.cons (.cmp .Eq (.call 19 (.cons (.v 0) (.cons (.c (.int 16)) .nil))) (.c (.int 15))) .nil))) .nil)))) .nil) .nil) OJ
noncomputable def Cw:B:=.cons (.cond (.and (.cmp .NotEq (.v 3) (.lst .nil)) (.cmp .Lt (.call 19 (.cons (.v 0) (.cons (.c (.int 4)) .nil))) (.c (.int 3)))) (.cons (.ret (.ix (.v 3) (.call 19 (.cons (.v 0) (.cons (.bi .len (.cons (.v 3) .nil)) .nil))))) .nil) .nil) OL
noncomputable def OO:B:=.cons (.set (.one 3) (.call 21 (.cons (.v 1) (.cons (.v 2) .nil)))) Cw
theorem OP:aJ ["deck","env","kind","some","names"] ["deck","env","kind"] (ah (top 39)):=⟨rfl,rfl,rfl,by decide +kernel,rfl,by decide +kernel,by decide +kernel⟩
theorem OQ:aO nm 40 ["deck","env","kind","some","names"] (ah (top 39)) (aD (top 39))=OO:=by kernel_rfl
def jo(n:Nat):Sp:=λds M Q _=>∃sc κ p c,ds=[.ref p,a9 sc,kD κ]/\κ∈AK/\kd κ<=n/\Ev sc 0/\Dk M p c/\∀q X,Dx M p c X->Gt (lh κ+1) q->nk q<=lz κ->Q (rD q) X
noncomputable abbrev Ux(n:Nat):a5 w:={ cs:=[(21,Co),(19,fT),(20,pX),(25,jo n)] }
theorem OR:∀k:Kd,1<=lh k:=λk=>by cases k <;> (rw[lh];lia)
theorem OT:∀k:Kd,2<=lz k:=λk=>by cases k <;> (rw[lz];lia)
theorem OU(O:Lw w){n:Nat}(hl:FO w 25 (n+3) (jo n)):FO w 25 (n+4) (jo (n+1)):=by
 refine a8 O.ok O.hn _ ⟨"_law_leaf",top 39,["deck","env","kind"]⟩ (by rw[O.hd];rfl) (Ux n) { cs:=⟨⟨1,by lia,Ou O⟩,⟨1,by lia,gM O⟩,⟨1,by lia,vg O⟩,⟨n+3,WU _,hl⟩,trivial⟩ } OP OQ λds M Q _ h=>?_;obtain⟨sc,κ,p,c,rfl,hκ,rk,ev,hk,h⟩:=h;have fin:∀X q d,Dx M p c X->Gt (lh κ+1) q->nk q<=lz κ->rD q=d->bA Q d X:=λX q d u g z e=>aw (e ▸ h q X u g z);refine⟨rfl,sc,κ,rfl,hκ,ev,λws hw lw=>?_⟩;show B.w (Ux (w:=w) n).wd nm.af Cw (aB Q) [some (.ref p),some (a9 sc),some (kD κ),some (.lst (ws.map rD)),none] M;refine fP λN2 fi=>?_;have go:∀X,Dx M p c X->N2 [some (.ref p),some (a9 sc),some (kD κ),some (.lst (ws.map rD)),none] X:=by
  intro X u;refine fi _ _ ?_;cases κ with
  |num=>
   refine⟨_,rfl,aT (aP (by decide) ⟨p,c,5,rfl,u.k,by decide,by decide,λr1 X1 u1 vk vm=>?_⟩)⟩;refine⟨⟨by decide,by decide,by decide⟩,l2,.inl ⟨p,c,16,rfl,u1.k,by decide,by decide,λr2 X2 u2 Cy Cz=>cg ?_⟩⟩;refine⟨_,Kw,l2,fin _ (.nd (.o "num" [.int _]) []) _ ((u.tr u1).tr u2) (pT (by decide +kernel) pW.1 pW.2) (by rw[mP];exact (by decide:1<=2)) (by rw[dr];rfl)⟩
  |word=>
   refine⟨_,rfl,aT (ax (by decide) ⟨_,rfl,aT (aP (by decide) ⟨l4,.inl ⟨p,c,4,rfl,u.k,by decide,by decide,λr1 X1 u1 vk vm=>?_⟩⟩)⟩)⟩;obtain⟨d,e3,e4⟩:=ez (xs:=(["a","x","red","c"]:List Str).map D.str) vk vm;obtain⟨x,hx,rfl⟩:=List.mem_map.mp e4;have c7:x∈AL:=(by decide +kernel:∀x∈(["a","x","red","c"]:List Str),x∈AL) x hx;exact⟨_,e3,l2,fin _ (.nd (.o "word" [.str x]) []) _ (u.tr u1) (pT (by decide +kernel) pU (pV c7)) (by rw[mP];exact (by decide:1<=2)) (by rw[dr];rfl)⟩
  |row fs=>
   obtain⟨f1,f3⟩:=vd hκ;refine⟨_,rfl,aT (ax (by decide) ⟨_,rfl,aT (ax (by decide) ⟨_,rfl,aT (aP (by decide) ⟨_,rfl,?_⟩)⟩)⟩)⟩;refine Cu (m:=lhs fs+1) (zz:=true) (z:=lz) u.k f3 (λf κ hm Y uY N hN=>?_) λqs Y uY hl hq hz=>?_
   ·obtain⟨SF,SE⟩:=f1 _ hm;have kk:kd κ<=ki fs/\lh κ<=lhs fs:=by
     clear fin h hN f1 f3 hκ rk SF SE
     induction fs with
     |nil=>cases hm
     |cons g fs ih=>
      obtain⟨y,l⟩:=g;rw[ki,lhs];rcases List.mem_cons.mp hm with z |z
      ·cases z;lia
      ·have:=ih z;lia
    rw[kd]at rk;exact⟨sc,κ,p,c,rfl,SF,by lia,ev,uY.k,λq Z uZ g z=>⟨l2,hN q Z uZ (g.le (by lia)) λ_=>z⟩⟩
   ·have hz':=hz rfl;have zs:mO lz fs=mN fs:=by
     clear fin h hl hz hz' hq f1 f3 hκ rk
     induction fs with
     |nil=>rw[mN];rfl
     |cons g fs ih=>obtain⟨y,l⟩:=g;rw[mN,<- ih];unfold mO;rw[W0,XJ]
    have gr:=vj (fs:=fs.map (·.1)) (by rw[WQ];exact hl) (by lia) (λf hf=>by obtain⟨g,hg,rfl⟩:=List.mem_map.mp hf;exact (f1 g hg).2) hq;refine .inl ⟨l2,fin _ (.nd (.row (fs.map (·.1))) qs) _ (u.tr uY) (gr.le (by rw[lh];lia)) (by rw[OD,lz];lia) (by rw[fU];rfl)⟩
  |aY k=>
   have hk':=Cj hκ;refine⟨_,rfl,aT (ax (by decide) ⟨_,rfl,aT (ax (by decide) ⟨_,rfl,aT (ax (by decide) ⟨l4,.inl ?_⟩)⟩)⟩)⟩;have tl:∀x∈(["b","d","e","x"]:List Str),x∈AL/\∃ κ',lk x stk=some κ'/\kd κ'<=40:=λx hx=>by
    have:=(by decide +kernel:∀x∈(["b","d","e","x"]:List Str),x∈AL/\((lk x stk).map fun κ'=>decide (kd κ'<=40))=some true) x hx;cases z:lk x stk with
    |none=>rw[z]at this;cases this.2
    |some κ'=>rw[z]at this;exact⟨this.1,κ',rfl,of_decide_eq_true (Xl this.2)⟩
   refine dU (λxs ys Y=>Y=X/\∃rest vs:List Str,xs=rest.map D.str/\ys=vs.map D.str/\(∀x∈rest,x∈(["b","d","e","x"]:List Str))/\(∀x∈vs,x∈(["b","d","e","x"]:List Str))/\rest.length+vs.length<=4) ?_ ?_ _ _ _ ⟨rfl,["b","d","e","x"],[],rfl,rfl,λx h=>h,λx h=>(nomatch h),by decide⟩
   ·rintro ys Y ⟨rfl,rest,vs,e1,rfl,hr,hv,lv⟩;refine⟨trivial,W6 (by rw[WQ];lia:_<=4) (by decide),.inl ?_⟩;show B.w (Ux (w:=w) n).wd nm.af Cv (aB Q) [some (.ref p),some (a9 sc),some (kD (.aY k)),some (.lst (ws.map rD)),some (.lst (vs.map D.str))] Y;refine fP λV8 Op=>?_;have Td:∀ X,Dx M p c X->V8 [some (.ref p),some (a9 sc),some (kD (.aY k)),some (.lst (ws.map rD)),some (.lst (vs.map D.str))] X:=by
     intro X u;refine Op _ _ ⟨p,c,3,rfl,u.k,by decide,by decide,λr1 X1 u1 vk vm=>cg (bG (λ_=>?_) λ_=>?_)⟩
     ·refine⟨_,rfl,sc,k,p,c,rfl,hk',by rw[kd]at rk;lia,ev,u1.k,λq Z uZ g z=>⟨l2,fin _ (.nd (.o "one" []) [q]) _ ((u.tr u1).tr uZ) ?_ (by rw[mP,lz];unfold aM;simp;lia) (by rw[dr];rfl)⟩⟩;rw[lh,Nat.add_comm 1];exact ve (by decide +kernel) (WU 1) (show 1<=2 by decide) λc h=>by rw[List.mem_singleton.mp h];exact g
     ·refine⟨_,rfl,l2,fin _ (.nd (.o "none" [kD k]) []) _ (u.tr u1) (pT (by decide +kernel) (fm hk').2.2.2.2.1 (fm hk').2.2.2.2.2) (by rw[mP,lz];unfold aM;simp;lia) (by rw[dr];rfl)⟩
    refine⟨W9 _,.inl (AQ (bG (λe1=>?_) λe1=>ax (by decide) (Td _ u)))⟩;cases vs with
    |nil=>simp at e1
    |cons x vs=>
     refine⟨p,c,3,rfl,u.k,by decide,by decide,λr1 X1 u1 _ _=>bG (λe2=>?_) λe2=>Td _ (u.tr u1)⟩;have hx:=hv x WZ;exact⟨_,cW,l2,fin _ (.nd (.o "table" [.str x]) []) _ (u.tr u1) (pT (by decide +kernel) pU (pV (tl x hx).1)) (by rw[mP,lz];unfold aM;simp;lia) (by rw[dr];rfl)⟩
   ·rintro x xs ys Y ⟨rfl,rest,vs,e1,rfl,hr,hv,lv⟩;cases rest with
    |nil=>cases e1
    |cons x rest=>
    cases e1;obtain⟨_,κ',hl,Sl⟩:=tl x (hr x WZ);have qR:aK ((stk.map λm=>(XW m.1:Key)).zip (stk.map λm=>kD m.2)) (.inr x)=some (kD κ'):=(by rw[jd,km,hl];rfl);rw[Xe]at lv;have jn:∀x∈rest,x∈(["b","d","e","x"]:List Str):=λx h=>hr x (WY _ h);refine⟨trivial,W6 (by rw[WQ];lia:_<=4) (by decide),λN hN=>⟨rfl,_,qR,_,rfl,t6 (by lia) (bG (λ_=>?_) λ_=>hN _ _ ⟨rfl,rest,vs,rfl,rfl,jn,hv,by lia⟩)⟩⟩;have:=hN (vs.map D.str++[.str x]) _ ⟨rfl,rest,vs++[x],rfl,by rw[W'];rfl,jn,λy hy=>?_,by simp;lia⟩
    ·exact this
    ·rcases List.mem_append.mp hy with z |z
     ·exact hv y z
     ·rw[List.mem_singleton.mp z];exact hr x WZ
 refine⟨W9 _,.inl (AQ (bG (λe1=>?_) λe1=>ax (by decide) (go M (.rfl hk))))⟩;have Sn:0<ws.length:=by
  cases ws with
  |nil=>simp at e1
  |cons _ _=>simp
 refine⟨p,c,4,rfl,hk,by decide,by decide,λr1 X1 u1 _ _=>bG (λe2=>?_) λe2=>go _ u1⟩;refine⟨p,c,_,rfl,u1.k,by rw[WQ];lia,?_,λr X2 u2 r0 CA=>?_⟩
 ·rw[WQ];exact Int.lt_of_le_of_lt (by lia:_<=(200:Int)) (by decide)
 rw[WQ]at CA;obtain⟨d,e3,e4⟩:=ez (xs:=ws.map rD) r0 (by rw[WQ];exact CA);obtain⟨q,hq,rfl⟩:=List.mem_map.mp e4;exact⟨_,e3,fin _ q _ (u1.tr u2) ((hw q hq).g.le (by have:=OR κ;lia)) (W2 (hw q hq).n (OT κ)) rfl⟩
variable{w:Wo}
noncomputable def bc:Kd->Bool
 |.aY _=>true
 |_=>false
noncomputable def hB(f:Int)(b:Bool):Nat:=if f<=0 then 5 else if f<=1/\b=false then 7 else 2 * f.toNat+8
theorem mQ{f:Int}{b:Bool}:5<=hB f b:=by unfold hB;split;exact WU 5;split <;> lia
theorem OV{f:Int}{b:Bool}:hB f b<=hB f true:=by
 unfold hB;split
 ·exact WU _
 ·rw[if_neg λz:f<=1/\true=false=>nomatch z.2];split <;> lia
theorem jq{f:Int}{b b':Bool}(h:0<f):hB (f-1) b+2<=hB f b':=by
 unfold hB;rw[if_neg (by lia:¬f<=0)];split
 ·split <;> lia
 ·rw[if_neg (by lia:¬(f<=1/\b'=false))];split <;> lia
def dK(n:Nat):Sp:=λds M Q _=>∃sc κ f p c,ds=[.ref p,a9 sc,kD κ,.int f]/\κ∈AK/\8 * f.toNat+(if bc κ=true then 6 else 2)<=n/\Ev sc f.toNat/\Dk M p c/\∀q X,Dx M p c X->Gt (hB f (bc κ)) q->Q (rD q) X
def kC(n:Nat):Sp:=λds M Q _=>∃sc d p c,ds=[.ref p,a9 sc,.int d]/\0<=d/\d<=1/\11+d.toNat<=n/\Ev sc 1/\Dk M p c/\∀q X,Dx M p c X->Gt (8+d.toNat) q->Q (rD q) X
def jr(n:Nat):Sp:=λds M Q _=>∃sc κ f p c,ds=[.ref p,a9 sc,kD κ,.int f]/\κ∈AK/\0<f/\8 * f.toNat+1<=n/\Ev sc f.toNat/\Dk M p c/\∀q X,Dx M p c X->Gt (hB f (bc κ)) q->Q (rD q) X
def pZ(n:Nat):Sp:=λds M Q _=>∃sc k f p c,ds=[.ref p,a9 sc,kD (.aY k),.int f]/\.aY k∈AK/\0<f/\8 * f.toNat+5<=n/\Ev sc f.toNat/\Dk M p c/\∀q X,Dx M p c X->Gt (hB f true) q->Q (rD q) X
theorem mR{m:Nat}{w:Str}{a b:Rt}(h:dm.any (λx=>decide (x=w) && decide (x∈AL))=true)(ga:Gt m a)(gb:Gt m b):Gt (m+1) (.nd (.o w []) [a,b]):=ve h (show 1<=2 by decide) (WU 2) λc hc=>by
 rcases List.mem_cons.mp hc with rfl |hc
 ·exact ga
 ·rw[List.mem_singleton.mp hc];exact gb
theorem CC{m:Nat}{w:Str}{a:Rt}(h:dm.any (λx=>decide (x=w) && decide (x∈AL))=true)(ga:Gt m a):Gt (m+1) (.nd (.o w []) [a]):=ve h (WU 1) (show 1<=2 by decide) λc hc=>by rw[List.mem_singleton.mp hc];exact ga
theorem OW{m:Nat}{f:Bool}{x:Str}{a b:Rt}(hx:x∈AL)(ga:Gt m a)(gb:Gt m b):Gt (m+1) (.nd (.bd f x) [a,b]):=gt rfl (λy hy=>by
 have:∀f,bw f∈AL:=by decide +kernel
 rcases List.mem_cons.mp hy with rfl |hy
 ·exact this f
 ·rw[List.mem_singleton.mp hy];exact hx) λc hc=>by
 rcases List.mem_cons.mp hc with rfl |hc
 ·exact ga
 ·rw[List.mem_singleton.mp hc];exact gb
noncomputable def kw:Kd->Str
 |.num=>"num" |.word=>"word" |.row _=>"row" |.aY _=>"bag"
theorem OX(κ:Kd):decide (kw κ="bag")=bc κ:=by cases κ <;> rfl
theorem OY(κ:Kd):∃r,kD κ=.tup (.str (kw κ)::r):=by cases κ <;> exact⟨_,rfl⟩
noncomputable def OZ:B:=.cons (.ret (.tup (.cons (.ix (.lst (.cons (.c (.str "and")) (.cons (.c (.str "or")) .nil))) (.op .Sub (.v 3) (.c (.int 4)))) (.cons (.v 5) (.cons (.call 26 (.cons (.v 0) (.cons (.v 1) (.cons (.op .Sub (.v 2) (.c (.int 1))) .nil)))) .nil))))) .nil
noncomputable def O0:B:=.cons (.cond (.cmp .Eq (.v 3) (.c (.int 3))) (.cons (.ret (.tup (.cons (.c (.str "not")) (.cons (.v 5) .nil)))) .nil) .nil) OZ
noncomputable def O3:B:=.cons (.set (.one 5) (.call 26 (.cons (.v 0) (.cons (.v 1) (.cons (.op .Sub (.v 2) (.c (.int 1))) .nil))))) O0
noncomputable def p0:B:=.cons (.cond (.or (.cmp .Lt (.v 3) (.c (.int 3))) (.cmp .Eq (.v 2) (.c (.int 0)))) (.cons (.set (.one 4) (.ix (.lst (.cons (.tup (.cons (.c (.str "num")) .nil)) (.cons (.tup (.cons (.c (.str "word")) .nil)) .nil))) (.bi .int (.cons (.cmp .Eq (.v 3) (.c (.int 2))) .nil)))) (.cons (.set (.one 5) (.call 30 (.cons (.v 0) (.cons (.v 1) (.cons (.v 4) (.cons (.c (.int 1)) .nil)))))) (.cons (.ret (.tup (.cons (.ix (.lst (.cons (.c (.str "under")) (.cons (.c (.str "same")) (.cons (.c (.str "same")) .nil)))) (.op .Mod (.v 3) (.c (.int 3)))) (.cons (.v 5) (.cons (.call 30 (.cons (.v 0) (.cons (.v 1) (.cons (.v 4) (.cons (.c (.int 1)) .nil))))) .nil))))) .nil))) .nil) O3
noncomputable def O4:B:=.cons (.set (.one 3) (.call 19 (.cons (.v 0) (.cons (.c (.int 6)) .nil)))) p0
theorem O5:aJ ["deck","env","deep","way","kind","one"] ["deck","env","deep"] (ah (top 40)):=⟨rfl,rfl,rfl,by decide +kernel,rfl,by decide +kernel,by decide +kernel⟩
theorem O6:aO nm 40 ["deck","env","deep","way","kind","one"] (ah (top 40)) (aD (top 40))=O4:=by kernel_rfl
noncomputable abbrev T5(n:Nat):a5 w:={ cs:=[(19,fT),(30,dK n),(26,kC n)] }
theorem O7(O:Lw w){n:Nat}(ha:FO w 30 (n+20) (dK n))(hc:FO w 26 (n+20) (kC n)):FO w 26 (n+21) (kC (n+1)):=by
 refine a8 O.ok O.hn _ ⟨"_law_claim",top 40,["deck","env","deep"]⟩ (by rw[O.hd];rfl) (T5 n) { cs:=⟨⟨1,by lia,gM O⟩,⟨n+20,WU _,ha⟩,⟨n+20,WU _,hc⟩,trivial⟩ } O5 O6 λds M Q _ h=>?_;obtain⟨sc,d,p,c,rfl,SJ,d1,rk,ev,hk,h⟩:=h;have fin:∀X q e,Dx M p c X->Gt (8+d.toNat) q->rD q=e->bA Q e X:=λX q e u g z=>aw (z ▸ h q X u g);refine⟨rfl,p,c,6,rfl,hk,by decide,by decide,λway X u w0 w1=>?_⟩;show B.w (T5 (w:=w) n).wd nm.af p0 (aB Q) [some (.ref p),some (a9 sc),some (.int d),some (.int way),none,none] X;refine fP λN2 fi=>?_;have cE:B.w (T5 (w:=w) n).wd nm.af (ko (a6 p0)) { nx:=N2,rt:=(aB Q).rt } [some (.ref p),some (a9 sc),some (.int d),some (.int way),none,none] X:=by
  refine⟨l1,l1,l2,.inl (cg ⟨_,t7,?_⟩)⟩;obtain⟨κ,e,hκ,kb⟩:∃ κ,(if decide (way=2)=true then kD .word else kD .num)=kD κ/\κ∈AK/\bc κ=false:=by
   split
   ·exact⟨.word,rfl,by decide +kernel,rfl⟩
   ·exact⟨.num,rfl,by decide +kernel,rfl⟩
  have CD:8 * (1:Int).toNat+(if bc κ=true then 6 else 2)<=n:=by rw[kb];show 8 * 1+2<=n;lia
  have U5:hB 1 (bc κ)=7:=by rw[kb];decide
  have key:∀z,z=kD κ->B.w (T5 (w:=w) n).wd nm.af (ik (ko (a6 p0))) { nx:=N2,rt:=(aB Q).rt } [some (.ref p),some (a9 sc),some (.int d),some (.int way),some z,none] X:=by
   rintro _ rfl;refine⟨sc,κ,1,p,c,rfl,hκ,CD,ev,u.k,λqa Xa ua ga=>?_⟩;rw[U5]at ga;obtain⟨s,e1,e2⟩:=ez (xs:=(["under","same","same"]:List Str).map D.str) (Int.emod_nonneg way (b:=3) (by decide)) (Int.emod_lt_of_pos way (b:=3) (by decide));obtain⟨x,hx,rfl⟩:=List.mem_map.mp e2;refine⟨l3,.inl ⟨(by decide:(0:Int)<3),_,e1,sc,κ,1,p,c,rfl,hκ,CD,ev,ua.k,λqb Xb ub gb=>⟨l3,?_⟩⟩⟩;rw[U5]at gb;have ho:=(by decide +kernel:∀x∈(["under","same","same"]:List Str),dm.any (λy=>decide (y=x) && decide (y∈AL))=true) x hx;exact fin _ (.nd (.o x []) [qa,qb]) _ ((u.tr ua).tr ub) ((mR ho ga gb).le (by lia)) (by rw[dr];rfl)
  exact key _ e
 refine bG (λe1=>aP rfl cE) λe1=>cg (bG (λe2=>cE) λe2=>fi _ _ ?_);have e1:=of_decide_eq_false (Bool.eq_false_iff.mpr e1);have e2:=of_decide_eq_false (Bool.eq_false_iff.mpr e2);have d1:d=1:=by lia
 subst d1;refine⟨sc,0,p,c,rfl,by decide,by decide,by show 11+0<=n;have:11+1<=n+1:=rk;lia,ev,u.k,λqa Xa ua ga=>cg (bG (λe3=>?_) λe3=>?_)⟩
 ·exact⟨l2,fin _ (.nd (.o "not" []) [qa]) _ (u.tr ua) (CC (by decide +kernel) ga) (by rw[dr];rfl)⟩
 ·have e3:=of_decide_eq_false (Bool.eq_false_iff.mpr e3);obtain⟨s,e4,e5⟩:=ez (xs:=(["and","or"]:List Str).map D.str) (r:=way-4) (by lia) (by show way-4<2;lia);obtain⟨x,hx,rfl⟩:=List.mem_map.mp e5;refine⟨l2,.inl ⟨_,e4,sc,0,p,c,rfl,by decide,by decide,by show 11+0<=n;have:11+1<=n+1:=rk;lia,ev,ua.k,λqb Xb ub gb=>⟨l3,?_⟩⟩⟩
  have ho:=(by decide +kernel:∀x∈(["and","or"]:List Str),dm.any (λy=>decide (y=x) && decide (y∈AL))=true) x hx;exact fin _ (.nd (.o x []) [qa,qb]) _ ((u.tr ua).tr ub) (mR ho ga gb) (by rw[dr];rfl)
noncomputable def O8:B:=.cons (.ret (.tup (.cons (.v 6) (.cons (.v 4) (.cons (.v 7) (.cons (.call 30 (.cons (.v 0) (.cons (.call 22 (.cons (.v 1) (.cons (.v 4) (.cons (.v 5) .nil)))) (.cons (.v 2) (.cons (.op .Sub (.v 3) (.c (.int 1))) .nil))))) .nil)))))) .nil
noncomputable def O9:B:=.cons (.set (.one 7) (.call 30 (.cons (.v 0) (.cons (.v 1) (.cons (.ix (.lst (.cons (.v 5) (.cons (.tup (.cons (.c (.str "bag")) (.cons (.v 5) .nil))) .nil))) (.bi .int (.cons (.cmp .Eq (.v 6) (.c (.str "for"))) .nil))) (.cons (.op .Sub (.v 3) (.c (.int 1))) .nil)))))) O8
noncomputable def Pa:B:=.cons (.set (.one 6) (.ix (.lst (.cons (.c (.str "let")) (.cons (.c (.str "for")) (.cons (.c (.str "for")) .nil)))) (.op .Mult (.call 19 (.cons (.v 0) (.cons (.c (.int 3)) .nil))) (.bi .int (.cons (.cmp .Eq (.ix (.v 2) (.c (.int 0))) (.c (.str "bag"))) .nil))))) O9
noncomputable def Pb:B:=.cons (.set (.one 5) (.call 24 (.cons (.v 0) .nil))) Pa
noncomputable def Pc:B:=.cons (.set (.one 4) (.call 23 (.cons (.v 0) .nil))) Pb
theorem Pd:aJ ["deck","env","kind","deep","name","own","word","first"] ["deck","env","kind","deep"] (ah (top 41)):=⟨rfl,rfl,rfl,by decide +kernel,rfl,by decide +kernel,by decide +kernel⟩
theorem Pe:aO nm 40 ["deck","env","kind","deep","name","own","word","first"] (ah (top 41)) (aD (top 41))=Pc:=by kernel_rfl
noncomputable abbrev Pf(n:Nat):a5 w:={ cs:=[(19,fT),(23,Cm),(24,vh),(22,Cr),(30,dK n)] }
theorem mS{f:Int}{b:Bool}{n m:Nat}(h:0<f)(g:8 * f.toNat+m<=n+1)(hm:1<=m):8 * (f-1).toNat+(if b=true then 6 else 2)<=n:=by split <;> lia
theorem Pg(O:Lw w){n:Nat}(ha:FO w 30 (n+20) (dK n)):FO w 27 (n+21) (jr (n+1)):=by
 refine a8 O.ok O.hn _ ⟨"_law_bound",top 41,["deck","env","kind","deep"]⟩ (by rw[O.hd];rfl) (Pf n) { cs:=⟨⟨1,by lia,gM O⟩,⟨2,by lia,Od O⟩,⟨2,by lia,Cn O⟩,⟨1,by lia,OB O⟩,⟨n+20,WU _,ha⟩,trivial⟩ } Pd Pe λds M Q _ h=>?_;obtain⟨sc,κ,f,p,c,rfl,hκ,f0,rk,ev,hk,h⟩:=h;have fin:∀X q e,Dx M p c X->Gt (hB f (bc κ)) q->rD q=e->bA Q e X:=λX q e u g z=>aw (z ▸ h q X u g);refine⟨rfl,p,c,rfl,hk,λx X1 u1 hx=>⟨p,c,rfl,u1.k,fun κ' X2 u2 hκ' fI=>?_⟩⟩;refine⟨l3,.inl ⟨p,c,3,rfl,u2.k,by decide,by decide,λr X3 u3 r0 r1=>?_⟩⟩;have uu:=(u1.tr u2).tr u3;obtain⟨r',ek⟩:=OY κ;rw[ek];refine⟨_,cW,aT ?_⟩;rw[OX];have CE:(if bc κ=true then (1:Int) else 0)=0\/(if bc κ=true then (1:Int) else 0)=1:=by cases bc κ <;> simp
 refine⟨SU ?_,?_⟩
 ·rcases CE with z |z <;> (rw[z];decide)
 have ri:0<=r * (if bc κ=true then (1:Int) else 0)/\r * (if bc κ=true then (1:Int) else 0)<3:=by rcases CE with z |z <;> (rw[z];lia)
 obtain⟨wd,e1,e2⟩:=ez (xs:=(["let","for","for"]:List Str).map D.str) ri.1 ri.2;obtain⟨v,fb,rfl,Ph⟩:∃(v:Str)(fb:Bool),wd=.str v/\v=bw fb:=by
  simp only[W0,XT,Xk,Xd,or_false]at e2;rcases e2 with z |z |z
  ·exact⟨_,false,z,rfl⟩
  ·exact⟨_,true,z,rfl⟩
  ·exact⟨_,true,z,rfl⟩
 refine⟨_,e1,?_⟩;refine⟨l2,l2,.inl (aT ⟨_,t7,?_⟩)⟩;obtain⟨κ2,e3,hκ2⟩:∃ κ2,(if decide (v="for")=true then D.tup [.str "bag",kD κ'] else kD κ')=kD κ2/\κ2∈AK:=by
  split
  ·exact⟨.aY κ',rfl,fI⟩
  ·exact⟨κ',rfl,hκ'⟩
 have f1:(f-1).toNat+1=f.toNat:=by lia
 refine⟨sc,κ2,f-1,p,c,?_,hκ2,mS f0 rk (WU 1),ev.av (by lia),u3.k,λqa Xa ua ga=>?_⟩
 ·rw[<- e3];rfl
 refine⟨sc,x,κ',(f-1).toNat,rfl,by rw[f1];exact ev,hx,hκ',λfq vn=>?_⟩;refine⟨fq,κ,f-1,p,c,by rw[ek];rfl,hκ,mS f0 rk (WU 1),vn,ua.k,λqb Xb ub gb=>⟨l4,?_⟩⟩;refine fin _ (.nd (.bd fb x) [qa,qb]) _ ((uu.tr ua).tr ub) ((OW (m:=hB f (bc κ)-1) (Cg hx) (ga.le ?_) (gb.le ?_)).le ?_) (by rw[fj,<- Ph])
 ·have:=jq (b:=bc κ2) (b':=bc κ) f0;lia
 ·have:=jq (b:=bc κ) (b':=bc κ) f0;lia
 ·have:=@mQ f (bc κ);lia
noncomputable def Pj:B:=.cons (.ret (.call 27 (.cons (.v 0) (.cons (.v 1) (.cons (.v 2) (.cons (.v 3) .nil)))))) .nil
noncomputable def Pl:B:=.cons (.cond (.cmp .Eq (.v 4) (.c (.int 3))) (.cons (.set (.one 5) (.call 26 (.cons (.v 0) (.cons (.v 1) (.cons (.c (.int 1)) .nil))))) (.cons (.ret (.tup (.cons (.c (.str "when")) (.cons (.v 5) (.cons (.call 30 (.cons (.v 0) (.cons (.v 1) (.cons (.v 2) (.cons (.op .Sub (.v 3) (.c (.int 1))) .nil))))) .nil))))) .nil)) .nil) Pj
noncomputable def Pm:B:=.cons (.cond (.cmp .Eq (.v 4) (.c (.int 2))) (.cons (.ret (.tup (.cons (.c (.str "times")) (.cons (.ix (.lst (.cons (.c (.int 2)) (.cons (.neg (.c (.int 1))) (.cons (.c (.int 0)) (.cons (.c (.int 1)) (.cons (.c (.int 3)) (.cons (.op .Pow (.c (.int 10)) (.c (.int 9))) .nil))))))) (.call 19 (.cons (.v 0) (.cons (.c (.int 6)) .nil)))) (.cons (.call 30 (.cons (.v 0) (.cons (.v 1) (.cons (.v 2) (.cons (.op .Sub (.v 3) (.c (.int 1))) .nil))))) .nil))))) .nil) .nil) Pl
noncomputable def Po:B:=.cons (.cond (.cmp .Eq (.v 4) (.c (.int 1))) (.cons (.set (.one 5) (.call 30 (.cons (.v 0) (.cons (.v 1) (.cons (.v 2) (.cons (.op .Sub (.v 3) (.c (.int 1))) .nil)))))) (.cons (.ret (.tup (.cons (.c (.str "both")) (.cons (.v 5) (.cons (.call 30 (.cons (.v 0) (.cons (.v 1) (.cons (.v 2) (.cons (.op .Sub (.v 3) (.c (.int 1))) .nil))))) .nil))))) .nil)) .nil) Pm
noncomputable def Pp:B:=.cons (.cond (.cmp .Eq (.v 4) (.c (.int 0))) (.cons (.ret (.tup (.cons (.c (.str "one")) (.cons (.call 30 (.cons (.v 0) (.cons (.v 1) (.cons (.ix (.v 2) (.c (.int 1))) (.cons (.op .Sub (.v 3) (.c (.int 1))) .nil))))) .nil)))) .nil) .nil) Po
noncomputable def Pq:B:=.cons (.set (.one 4) (.call 19 (.cons (.v 0) (.cons (.c (.int 6)) .nil)))) Pp
theorem Pr:aJ ["deck","env","kind","deep","way","one"] ["deck","env","kind","deep"] (ah (top 42)):=⟨rfl,rfl,rfl,by decide +kernel,rfl,by decide +kernel,by decide +kernel⟩
theorem Pt:aO nm 40 ["deck","env","kind","deep","way","one"] (ah (top 42)) (aD (top 42))=Pq:=by kernel_rfl
noncomputable abbrev Pw(n:Nat):a5 w:={ cs:=[(19,fT),(30,dK n),(26,kC n),(27,jr n)] }
theorem Px(O:Lw w){n:Nat}(ha:FO w 30 (n+20) (dK n))(hc:FO w 26 (n+20) (kC n))(hb:FO w 27 (n+20) (jr n)):FO w 28 (n+21) (pZ (n+1)):=by
 refine a8 O.ok O.hn _ ⟨"_law_bag",top 42,["deck","env","kind","deep"]⟩ (by rw[O.hd];rfl) (Pw n) { cs:=⟨⟨1,by lia,gM O⟩,⟨n+20,WU _,ha⟩,⟨n+20,WU _,hc⟩,⟨n+20,WU _,hb⟩,trivial⟩ } Pr Pt λds M Q _ h=>?_;obtain⟨sc,k,f,p,c,rfl,hκ,f0,rk,ev,hk,h⟩:=h;have hk':=Cj hκ;have fin:∀X q e,Dx M p c X->Gt (hB f true) q->rD q=e->bA Q e X:=λX q e u g z=>aw (z ▸ h q X u g);have cE:∀{b q},Gt (hB (f-1) b) q->Gt (hB f true-1) q:=λ{b q}g=>g.le (by have:=jq (b:=b) (b':=true) f0;lia)
 have top:hB f true-1+1<=hB f true:=by have:=@mQ f true;lia
 have gQ:Ev sc (f-1).toNat:=ev.av (by lia);have kk:∀b:Bool,8 * (f-1).toNat+(if b=true then 6 else 2)<=n:=λb=>mS (b:=b) f0 rk (by decide)
 refine⟨rfl,p,c,6,rfl,hk,by decide,by decide,λway X u w0 w1=>cg (bG (λe1=>?_) λe1=>cg (bG (λe2=>?_) λe2=>cg (bG (λe3=>?_) λe3=>cg (bG (λe4=>?_) λe4=>?_))))⟩
 ·exact⟨_,rfl,sc,k,f-1,p,c,rfl,hk',kk _,gQ,u.k,λq Z uZ g=>⟨l2,fin _ (.nd (.o "one" []) [q]) _ (u.tr uZ) ((CC (by decide +kernel) (cE g)).le top) (by rw[dr];rfl)⟩⟩
 ·exact⟨sc,.aY k,f-1,p,c,rfl,hκ,kk true,gQ,u.k,λqa Y uY ga=>⟨sc,.aY k,f-1,p,c,rfl,hκ,kk true,gQ,uY.k,λqb Z uZ gb=>⟨l3,fin _ (.nd (.o "both" []) [qa,qb]) _ ((u.tr uY).tr uZ) ((mR (by decide +kernel) (cE ga) (cE gb)).le top) (by rw[dr];rfl)⟩⟩⟩
 ·refine⟨⟨by decide,by decide,by decide⟩,(by decide:6<=sizeLine),.inl ⟨p,c,6,rfl,u.k,by decide,by decide,λr X1 u1 r0 r1=>?_⟩⟩;obtain⟨d,e5,e6⟩:=ez (xs:=([2,-1,0,1,3,10 ^ 9]:List Int).map D.int) r0 r1;obtain⟨i,_,rfl⟩:=List.mem_map.mp e6;exact⟨_,e5,sc,.aY k,f-1,p,c,rfl,hκ,kk true,gQ,u1.k,λq Z uZ g=>⟨l3,fin _ (.nd (.o "times" [.int i]) [q]) _ ((u.tr u1).tr uZ) ((vf (by decide +kernel) pW.1 pW.2 (cE g)).le top) (by rw[dr];rfl)⟩⟩
 ·refine⟨sc,1,p,c,rfl,by decide,by decide,by show 11+1<=n;lia,ev.av (by lia),u.k,λqa Y uY ga=>⟨sc,.aY k,f-1,p,c,rfl,hκ,kk true,gQ,uY.k,λqb Z uZ gb=>⟨l3,fin _ (.nd (.o "when" []) [qa,qb]) _ ((u.tr uY).tr uZ) ((mR (by decide +kernel) (ga.le ?_) (cE gb)).le top) (by rw[dr];rfl)⟩⟩⟩;show 8+1<=_;unfold hB;rw[if_neg (by lia),if_neg λz:f<=1/\true=false=>nomatch z.2];lia
 ·exact⟨sc,.aY k,f,p,c,rfl,hκ,f0,by lia,ev,u.k,λq Z uZ g=>aw (h q Z (u.tr uZ) g)⟩
def mT(n:Nat):Sp:=λds M Q _=>∃sc κ f p c,ds=[.ref p,a9 sc,kD κ,.int f]/\κ∈AK/\0<f/\8 * f.toNat+1<=n/\Ev sc f.toNat/\Dk M p c/\∀q X,Dx M p c X->Gt (hB f (bc κ)) q->Q (rD q) X
noncomputable def Py:B:=.cons (.ret (.tup (.cons (.c (.str "at")) (.cons (.ix (.v 4) (.v 5)) (.cons (.tup (.cons (.c (.str "row")) (.cons (.bi .tuple (.cons (.v 6) .nil)) .nil))) .nil))))) .nil
noncomputable def Pz:B:=.cons (.loop (.many [7,8]) (.enum (.v 4)) (.cons (.set (.one 9) (.ix (.lst (.cons (.tup (.cons (.c (.str "num")) .nil)) (.cons (.v 2) .nil))) (.bi .int (.cons (.cmp .Eq (.v 7) (.v 5)) .nil)))) (.cons (.ex (.mt .append (.v 6) (.cons (.tup (.cons (.v 8) (.cons (.call 30 (.cons (.v 0) (.cons (.v 1) (.cons (.v 9) (.cons (.op .Mult (.op .Sub (.v 3) (.c (.int 1))) (.bi .int (.cons (.cmp .Eq (.v 7) (.v 5)) .nil))) .nil))))) .nil))) .nil))) .nil))) Py
noncomputable def PB:B:=.cons (.set (.one 6) (.lst .nil)) Pz
noncomputable def CF:B:=.cons (.set (.one 5) (.call 19 (.cons (.v 0) (.cons (.bi .len (.cons (.v 4) .nil)) .nil)))) PB
noncomputable def PC:B:=.cons (.set (.one 4) (.sl (.lst (.cons (.c (.str "a")) (.cons (.c (.str "b")) (.cons (.c (.str "c")) (.cons (.c (.str "d")) (.cons (.c (.str "w")) (.cons (.c (.str "z")) .nil))))))) .ao (.op .Add (.c (.int 1)) (.call 19 (.cons (.v 0) (.cons (.c (.int 6)) .nil)))))) CF
theorem PD:aJ ["deck","env","kind","deep","names","at","fields","k","name","own"] ["deck","env","kind","deep"] (ah (top 43)):=⟨rfl,rfl,rfl,by decide +kernel,rfl,by decide +kernel,by decide +kernel⟩
theorem PH:aO nm 40 ["deck","env","kind","deep","names","at","fields","k","name","own"] (ah (top 43)) (aD (top 43))=PC:=by kernel_rfl
noncomputable abbrev CG(n:Nat):a5 w:={ cs:=[(19,fT),(30,dK n)] }
theorem PJ(O:Lw w){n:Nat}(ha:FO w 30 (n+20) (dK n)):FO w 29 (n+21) (mT (n+1)):=by
 refine a8 O.ok O.hn _ ⟨"_law_at_row",top 43,["deck","env","kind","deep"]⟩ (by rw[O.hd];rfl) (CG n) { cs:=⟨⟨1,by lia,gM O⟩,⟨n+20,WU _,ha⟩,trivial⟩ } PD PH λds M Q _ h=>?_;obtain⟨sc,κ,f,p,c,rfl,hκ,f0,rk,ev,hk,h⟩:=h;refine⟨rfl,(by decide:6<=sizeLine),.inl ⟨p,c,6,rfl,hk,by decide,by decide,λr X1 u1 r0 r1=>.inl ?_⟩⟩;obtain⟨fs,e1,c1,c2,c3⟩:∃fs:List Str,bz [.str "a",.str "b",.str "c",.str "d",.str "w",.str "z"] none (some (1+r))=fs.map D.str/\1<=fs.length/\fs.length<=6/\∀x∈fs,x∈AL:=by
  have:r=0\/r=1\/r=2\/r=3\/r=4\/r=5:=by have r1:r<6:=r1;lia
  rcases this with rfl |rfl |rfl |rfl |rfl |rfl
  ·exact⟨["a"],by rfl,by decide,by decide,by decide +kernel⟩
  ·exact⟨["a","b"],by rfl,by decide,by decide,by decide +kernel⟩
  ·exact⟨["a","b","c"],by rfl,by decide,by decide,by decide +kernel⟩
  ·exact⟨["a","b","c","d"],by rfl,by decide,by decide,by decide +kernel⟩
  ·exact⟨["a","b","c","d","w"],by rfl,by decide,by decide,by decide +kernel⟩
  ·exact⟨["a","b","c","d","w","z"],by rfl,by decide,by decide,by decide +kernel⟩
 have key:∀d,d=fs.map D.str->B.w (CG (w:=w) n).wd nm.af CF (aB Q) [some (.ref p),some (a9 sc),some (kD κ),some (.int f),some (.lst d),none,none,none,none,none] X1:=?_
 ·exact key _ e1
 rintro _ rfl;refine⟨p,c,_,rfl,u1.k,?_,?_,λj X2 u2 V9 j1=>?_⟩
 ·rw[WQ];lia
 ·rw[WQ];exact Int.lt_of_le_of_lt (by lia:_<=(6:Int)) (by decide)
 rw[WQ]at j1;refine⟨W9 _,.inr λl hl=>?_⟩;have p6:p≠l:=let ⟨_,_,e⟩:=u2.k.p;bR e hl
 have p7:c≠l:=let ⟨_,e,_⟩:=u2.k.c;bR e hl
 have hx:∃x,bq (fs.map D.str) j=some (.str x)/\x∈fs:=by
  obtain⟨d,e1,e2⟩:=ez (xs:=fs.map D.str) V9 (by rw[WQ];exact j1);obtain⟨x,hx,rfl⟩:=List.mem_map.mp e2;exact⟨x,e1,hx⟩
 obtain⟨x,hx,Ps⟩:=hx;have k1:Dk (up X2 l (.lst [])) p c:=by
  obtain⟨⟨a,m,h1⟩,xs,h2,h3⟩:=u2.k;exact⟨⟨a,m,by rw[aj p6];exact h1⟩,xs,by rw[aj p7];exact h2,h3⟩
 refine e7 (λxs τ Y=>∃done rest qs v7 v8 v9,fs=done++rest/\xs=(bN (fs.map D.str)).drop done.length/\done.length=qs.length/\τ=[some (.ref p),some (a9 sc),some (kD κ),some (.int f),some (.lst (fs.map D.str)),some (.int j),some (.ref l),v7,v8,v9] /\
  Y l=some (.lst (zw done qs))/\(∀q∈qs,Gt (hB f (bc κ)-2) q)/\Dk Y p c/\(∀b,b≠p->b≠c->b≠l->Y b=X2 b)) ?_ ?_ _ _ _ ⟨[],fs,[],none,none,none,rfl,rfl,rfl,rfl,ak,λq h=>(nomatch h),k1,λb _ _ h=>aj h⟩
 ·rintro τ Y ⟨done,rest,qs,v7,v8,v9,e1,e2,e3,rfl,S6,hq,kY,Uy⟩;have hlen:=congrArg YQ e1;rw[W3]at hlen;have hr:rest=[]:=by
   have:=congrArg YQ e2;rw[Zd]at this;unfold bN at this;rw[List.length_mapIdx,WQ]at this;have:rest.length=0:=(by simp at this;lia);exact List.length_eq_zero_iff.mp this
  subst hr;rw[Xc]at e1;subst e1;have Un:=@jq f (bc κ) (bc κ) f0;have Tx:=@mQ (f-1) (bc κ);refine⟨trivial,.rfl ⟨_,hx,_,S6,l2,l3,?_⟩⟩;have gr:=vj (fs:=fs) (qs:=qs) e3 (by lia) c3 hq;have ga:=vf (w:="at") (d:=.str x) (by decide +kernel) pU (pV (c3 x Ps)) gr;refine t8 (M:=rm Y l) (sN S6 λb z=>by cases z) ?_;have:=h (.nd (.o "at" [.str x]) [.nd (.row fs) qs]) (rm Y l) ⟨?_,λb b1 b2=>?_⟩ (ga.le (by lia))
  ·rw[dr,W0,fU]at this;exact this
  ·obtain⟨⟨a,m,h1⟩,xs,h2,h3⟩:=kY;exact⟨⟨a,m,by rw[f7 p6];exact h1⟩,xs,by rw[f7 p7];exact h2,h3⟩
  ·by_cases bl:b=l
   ·subst bl;rw[jy,<- u1.bf b b1 b2,<- u2.bf b b1 b2,hl]
   ·rw[f7 bl,Uy b b1 b2 bl,u2.bf b b1 b2,u1.bf b b1 b2]
 ·rintro y xs τ Y ⟨done,rest,qs,v7,v8,v9,e1,e2,e3,rfl,S6,hq,kY,Uy⟩;refine⟨trivial,λN hN=>?_⟩;cases rest with
  |nil=>
   have:=congrArg YQ e2;rw[Zd]at this;unfold bN at this;rw[List.length_mapIdx,WQ,e1]at this;simp at this
  |cons g rest=>
  have hd:(bN (fs.map D.str)).drop done.length=.tup [.int done.length,.str g]::(bN (fs.map D.str)).drop (done.length+1):=by
   have lt:done.length<(bN (fs.map D.str)).length:=(by unfold bN;rw[List.length_mapIdx,WQ,e1];simp);rw[Yk lt]
   congr 1
   subst e1;simp [bN]
  rw[hd]at e2;cases e2;have Un:=@jq f (bc κ) (bc κ) f0;have Tx:=@mQ (f-1) (bc κ);refine⟨rfl,l1,l2,.inl (cg ⟨_,t7,?_⟩)⟩;have gl:done.length<=6:=by rw[e1]at c2;simp at c2;lia
  have zl:(zw done qs).length=done.length:=pY e3;have ask:∀ κ'(f':Int),κ'∈AK->8 * f'.toNat+(if bc κ'=true then 6 else 2)<=n->Ev sc f'.toNat->hB f' (bc κ')<=hB f (bc κ)-2->∀ds,ds=[.ref p,a9 sc,kD κ',.int f']->dK n ds Y (λd Z=>(2<=sizeLine)/\∃xs,Z l=some (.lst xs)/\xs.length<sizeLine/\N [some (.ref p),some (a9 sc),some (kD κ),some (.int f),some (.lst (fs.map D.str)),some (.int j),some (.ref l),some (.int done.length),some (.str g),some (kD κ')] (up Z l (.lst (xs++[.tup [.str g,d]])))) X0:=by
   intro κ' f' hκ' PK vn hb ds dL;refine⟨sc,κ',f',p,c,dL,hκ',PK,vn,kY,λq Z uZ gq=>⟨l2,zw done qs,by rw[uZ.bf l (XC p6) (XC p7)];exact S6,W6 (by rw[zl];exact gl) (by decide),hN _ _ ⟨done++[g],rest,qs++[q],_,_,_,by rw[e1];simp,by simp,by simp [e3],rfl,by rw[ak,Ct e3],λr hr=>?_,?_,λb b1 b2 SO=>?_⟩⟩⟩
   ·rcases List.mem_append.mp hr with z |z
    ·exact hq r z
    ·rw[List.mem_singleton.mp z];exact gq.le hb
   ·obtain⟨⟨a,m,h1⟩,xs,h2,h3⟩:=uZ.k;exact⟨⟨a,m,by rw[aj p6];exact h1⟩,xs,by rw[aj p7];exact h2,h3⟩
   ·rw[aj SO,uZ.bf b b1 b2];exact Uy b b1 b2 SO
  cases hb:decide ((done.length:Int)=j) with
  |true=>
   refine⟨.inl ⟨rfl,_,S6⟩,cg ?_⟩;rw[hb];refine⟨SU (by decide),?_⟩;exact ask κ ((f-1) * 1) hκ (by rw[Int.mul_one];exact mS f0 rk (WU 1)) (by rw[Int.mul_one];exact ev.av (by lia)) (by rw[Int.mul_one];lia) _ rfl
  |false=>
   refine⟨.inl ⟨rfl,_,S6⟩,cg ?_⟩;rw[hb];refine⟨SU (by decide),?_⟩;exact ask .num ((f-1) * 0) (by decide +kernel) (by rw[Int.mul_zero];show 8 * 0+2<=n;lia) (by rw[Int.mul_zero];exact ev.av (by lia)) (by rw[Int.mul_zero];have:hB 0 (bc .num)=5:=rfl;lia) _ rfl
noncomputable def PM:B:=.cons (.ret (.call 29 (.cons (.v 0) (.cons (.v 1) (.cons (.v 2) (.cons (.v 3) .nil)))))) .nil
noncomputable def PN:B:=.cons (.cond (.and (.cmp .Eq (.ix (.v 2) (.c (.int 0))) (.c (.str "num"))) (.cmp .Lt (.v 4) (.c (.int 3)))) (.cons (.set (.one 5) (.call 30 (.cons (.v 0) (.cons (.v 1) (.cons (.v 2) (.cons (.op .Sub (.v 3) (.c (.int 1))) .nil)))))) (.cons (.ret (.tup (.cons (.ix (.lst (.cons (.c (.str "add")) (.cons (.c (.str "mul")) .nil))) (.call 19 (.cons (.v 0) (.cons (.c (.int 2)) .nil)))) (.cons (.v 5) (.cons (.call 30 (.cons (.v 0) (.cons (.v 1) (.cons (.v 2) (.cons (.op .Sub (.v 3) (.c (.int 1))) .nil))))) .nil))))) .nil)) .nil) PM
noncomputable def PQ:B:=.cons (.cond (.cmp .Eq (.ix (.v 2) (.c (.int 0))) (.c (.str "row"))) (.cons (.ret (.tup (.cons (.c (.str "row")) (.cons (.bi .tuple (.cons (.lc 2 [0,3,1] (.many [0,1]) (.seq (.ix (.v 2) (.c (.int 1)))) .ao (.tup (.cons (.v 0) (.cons (.call 30 (.cons (.v 2) (.cons (.v 4) (.cons (.v 1) (.cons (.op .Sub (.v 3) (.c (.int 1))) .nil))))) .nil)))) .nil)) .nil)))) .nil) .nil) PN
noncomputable def PR:B:=.cons (.cond (.cmp .Gt (.v 4) (.c (.int 4))) (.cons (.ret (.call 27 (.cons (.v 0) (.cons (.v 1) (.cons (.v 2) (.cons (.v 3) .nil)))))) .nil) .nil) PQ
noncomputable def PU:B:=.cons (.cond (.cmp .Eq (.ix (.v 2) (.c (.int 0))) (.c (.str "bag"))) (.cons (.ret (.call 28 (.cons (.v 0) (.cons (.v 1) (.cons (.v 2) (.cons (.v 3) .nil)))))) .nil) .nil) PR
noncomputable def PV:B:=.cons (.cond (.cmp .Eq (.v 4) (.c (.int 7))) (.cons (.ret (.call 29 (.cons (.v 0) (.cons (.v 1) (.cons (.v 2) (.cons (.v 3) .nil)))))) .nil) .nil) PU
noncomputable def PX:B:=.cons (.set (.one 4) (.call 19 (.cons (.v 0) (.cons (.c (.int 8)) .nil)))) PV
noncomputable def vo:B:=.cons (.cond (.or (.cmp .Lt (.v 3) (.c (.int 1))) (.or (.cmp .Lt (.ix (.v 0) (.c (.int 2))) (.c (.int 1))) (.cmp .Eq (.call 19 (.cons (.v 0) (.cons (.c (.int 5)) .nil))) (.c (.int 0))))) (.cons (.ret (.call 25 (.cons (.v 0) (.cons (.v 1) (.cons (.v 2) .nil))))) .nil) .nil) PX
noncomputable def PY:B:=.cons (.put (.v 0) (.c (.int 2)) (.op .Sub (.ix (.v 0) (.c (.int 2))) (.c (.int 1)))) vo
theorem PZ:aJ ["deck","env","kind","deep","way","one"] ["deck","env","kind","deep"] (ah (top 44)):=⟨rfl,rfl,rfl,by decide +kernel,rfl,by decide +kernel,by decide +kernel⟩
theorem P0:aO nm 40 ["deck","env","kind","deep","way","one"] (ah (top 44)) (aD (top 44))=PY:=by kernel_rfl
noncomputable abbrev Uz(n:Nat):a5 w:={ cs:=[(19,fT),(25,jo 9),(29,mT n),(28,pZ n),(27,jr n),(30,dK n)] }
theorem P1(O:Lw w){n:Nat}(hl:FO w 25 12 (jo 9))(hr:FO w 29 (n+20) (mT n))(hg:FO w 28 (n+20) (pZ n))(hb:FO w 27 (n+20) (jr n))(ha:FO w 30 (n+20) (dK n)):FO w 30 (n+21) (dK (n+1)):=by
 refine a8 O.ok O.hn _ ⟨"_law_ask",top 44,["deck","env","kind","deep"]⟩ (by rw[O.hd];rfl) (Uz n) { cs:=⟨⟨1,by lia,gM O⟩,⟨12,by lia,hl⟩,⟨n+20,WU _,hr⟩,⟨n+20,WU _,hg⟩,⟨n+20,WU _,hb⟩,⟨n+20,WU _,ha⟩,trivial⟩ } PZ P0 λds M Q _ h=>?_;obtain⟨sc,κ,f,p,c,rfl,hκ,rk,ev,hk,h⟩:=h;have fin:∀X q e,Dx M p c X->Gt (hB f (bc κ)) q->rD q=e->bA Q e X:=λX q e u g z=>aw (z ▸ h q X u g);have ne:=hk.ne;obtain⟨⟨a,m,hp⟩,xs,hc,l0,mU⟩:=id hk;refine⟨rfl,.inl ⟨_,hp,_,rfl,.inl ⟨_,hp,2,rfl,?_⟩⟩⟩;have u0:Dx M p c (up M p (pz c a (m-1))):=⟨⟨⟨a,m-1,ak⟩,xs,by rw[aj (XC ne)];exact hc,l0,mU⟩,λb b1 b2=>aj b1⟩;show B.w (Uz (w:=w) n).wd nm.af vo (aB Q) [some (.ref p),some (a9 sc),some (kD κ),some (.int f),none,none] (up M p (pz c a (m-1)));refine fP λN2 fi=>?_;have cE:∀X,Dx M p c X->B.w (Uz (w:=w) n).wd nm.af (ko (a6 vo)) { nx:=N2,rt:=(aB Q).rt } [some (.ref p),some (a9 sc),some (kD κ),some (.int f),none,none] X:=λX u=>
  ⟨sc,κ,p,c,rfl,hκ,(fm hκ).2.1,ev.av (W9 _),u.k,λq Z uZ g _=>fin _ q _ (u.tr uZ) (g.le (by have:=(fm hκ).2.2.1;have:=@mQ f (bc κ);lia)) rfl⟩
 refine bG (λe1=>aP rfl (cE _ u0)) λe1=>?_;have f0:0<f:=by have:=of_decide_eq_false (Bool.eq_false_iff.mpr e1);lia
 have gQ:Ev sc (f-1).toNat:=ev.av (by lia);have r1:8 * f.toNat+1<=n:=by revert rk;split <;> lia
 have vp:∀X,Dx M p c X->mT n [.ref p,a9 sc,kD κ,.int f] X (bA Q) X0:=λX u=>⟨sc,κ,f,p,c,rfl,hκ,f0,r1,ev,u.k,λq Z uZ g=>fin _ q _ (u.tr uZ) g rfl⟩;have gG:∀X,Dx M p c X->jr n [.ref p,a9 sc,kD κ,.int f] X (bA Q) X0:=λX u=>⟨sc,κ,f,p,c,rfl,hκ,f0,r1,ev,u.k,λq Z uZ g=>fin _ q _ (u.tr uZ) g rfl⟩;refine .inl ⟨_,ak,_,rfl,bG (λe2=>aP rfl (cE _ u0)) λe2=>⟨p,c,5,rfl,u0.k,by decide,by decide,λr5 X1 u1 _ _=>cg (bG (λe3=>cE _ (u0.tr u1)) λe3=>fi _ _ ?_)⟩⟩;refine⟨p,c,8,rfl,u1.k,by decide,by decide,λway X u w0 w1=>cg (bG (λ_=>vp _ ((u0.tr u1).tr u)) λUZ=>?_)⟩;have uu:=(u0.tr u1).tr u;cases κ with
 |aY k=>exact⟨_,rfl,aT (aP (by decide) ⟨sc,k,f,p,c,rfl,hκ,f0,by have:8 * f.toNat+6<=n+1:=rk;lia,ev,u.k,λq Z uZ g=>fin _ q _ (uu.tr uZ) g rfl⟩)⟩
 |num=>
  refine⟨_,rfl,aT (ax (by decide) (bG (λ_=>gG _ uu) λ_=>⟨_,rfl,aT (ax (by decide) ⟨_,rfl,aT (aP (by decide) (bG (λ_=>?_) λ_=>vp _ uu))⟩)⟩))⟩;have k1:8 * (f-1).toNat+(if bc .num=true then 6 else 2)<=n:=by show 8 * (f-1).toNat+2<=n;lia
  have bb:=jq (b:=false) (b':=false) f0;refine⟨sc,.num,f-1,p,c,rfl,hκ,k1,gQ,u.k,λqa Xa ua ga=>⟨l2,.inl ⟨p,c,2,rfl,ua.k,by decide,by decide,λr2 X2 u2 Cy Cz=>?_⟩⟩⟩;obtain⟨s,e4,e5⟩:=ez (xs:=(["add","mul"]:List Str).map D.str) Cy Cz;obtain⟨x,hx,rfl⟩:=List.mem_map.mp e5;refine⟨_,e4,sc,.num,f-1,p,c,rfl,hκ,k1,gQ,u2.k,λqb Xb ub gb=>⟨l3,?_⟩⟩;have ho:=(by decide +kernel:∀x∈(["add","mul"]:List Str),dm.any (λy=>decide (y=x) && decide (y∈AL))=true) x hx;exact fin _ (.nd (.o x []) [qa,qb]) _ (((uu.tr ua).tr u2).tr ub) ((mR ho ga gb).le (by show hB (f-1) false+1<=hB f false;lia)) (by rw[dr];rfl)
 |word=>
  exact⟨_,rfl,aT (ax (by decide) (bG (λ_=>gG _ uu) λ_=>⟨_,rfl,aT (ax (by decide) ⟨_,rfl,aT (ax (by decide) (ax (by decide) (vp _ uu)))⟩)⟩))⟩
 |row fs=>
  obtain⟨f1,f3⟩:=vd hκ;refine⟨_,rfl,aT (ax (by decide) (bG (λ_=>gG _ uu) λ_=>⟨_,rfl,aT (aP (by decide) ⟨_,rfl,?_⟩)⟩))⟩;have bb:=jq (b:=true) (b':=false) f0;refine Cu (m:=hB (f-1) true) (zz:=false) (z:=lz) u.k f3 (λg κ hm Y uY N hN=>?_) λqs Y uY hl hq _=>?_
  ·exact⟨sc,κ,f-1,p,c,rfl,(f1 _ hm).1,mS f0 rk (by show 1<=2;decide),gQ,uY.k,λq Z uZ g=>⟨l2,hN q Z uZ (g.le OV) λz=>nomatch z⟩⟩
  ·have gr:=vj (fs:=fs.map (·.1)) (by rw[WQ];exact hl) (by lia) (λf hf=>by obtain⟨g,hg,rfl⟩:=List.mem_map.mp hf;exact (f1 g hg).2) hq;exact .inl ⟨l2,fin _ (.nd (.row (fs.map (·.1))) qs) _ (uu.tr uY) (gr.le (by show _<=hB f false;lia)) (by rw[fU];rfl)⟩
structure P2(w:Wo)(n:Nat):Prop where
 a:FO w 30 (n+20) (dK n)
 c:FO w 26 (n+20) (kC n)
 b:FO w 27 (n+20) (jr n)
 g:FO w 28 (n+20) (pZ n)
 r:FO w 29 (n+20) (mT n)
theorem ft(O:Lw w){k:Nat}:∀i d sp,eF[i]?=some d->(∀ds M Q E,¬sp ds M Q E)->FO w i k sp:=λi d sp h g=>FO.mono (FO.imp (oJ O.ok (by rw[O.hd];exact h) (cs:=[]) trivial) λds M Q E z=>(g ds M Q E z).elim) (W9 _)
theorem vq(O:Lw w):∀n,FO w 25 (n+3) (jo n)
 | 0=>ft O _ _ _ rfl (by rintro ds M Q E ⟨sc,κ,p,c,_,hκ,rk,_⟩;have h1:1<=kd κ:=(by cases κ <;> unfold kd <;> lia);lia)
 |n+1=>OU O (vq O n)
theorem CH(O:Lw w):∀n,P2 w n
 | 0=>by
  refine⟨ft O _ _ _ rfl ?_,ft O _ _ _ rfl ?_,ft O _ _ _ rfl ?_,ft O _ _ _ rfl ?_,ft O _ _ _ rfl ?_⟩
  ·rintro ds M Q E ⟨sc,κ,f,p,c,_,_,rk,_⟩;revert rk;split <;> lia
  ·rintro ds M Q E ⟨sc,d,p,c,_,_,_,rk,_⟩;lia
  ·rintro ds M Q E ⟨sc,κ,f,p,c,_,_,_,rk,_⟩;lia
  ·rintro ds M Q E ⟨sc,κ,f,p,c,_,_,_,rk,_⟩;lia
  ·rintro ds M Q E ⟨sc,κ,f,p,c,_,_,_,rk,_⟩;lia
 |n+1=>let g:=CH O n;⟨P1 O (vq O 9) g.r g.g g.b g.a,O7 O g.a g.c,Pg O g.a,Px O g.a g.c g.b,PJ O g.a⟩
variable{w:Wo}
noncomputable def iE:List Str:=["num","word","var","table","none"]
noncomputable def js:List (Key×D):=[(.inr "for",.int 2),(.inr "let",.int 2),(.inr "at",.int 2),(.inr "times",.int 2)]
theorem P4{h:Hd}{m:Nat}(k:Hk h m)(n:∀fs,h≠.row fs):∃b,a3 (.str (hw h)) (iE.map D.str)=b/\(b=true->m=0)/\(b=false->(aK js (.inr (hw h))).getD (.int 1)=.int ((1+(hx h).length:Nat):Int)):=by
 cases h with
 |var x=>exact⟨true,(by decide +kernel:a3 (.str "var") (iE.map D.str)=true),λ_=>k,λz=>nomatch z⟩
 |bd f x=>exact⟨false,(by decide +kernel:∀f,a3 (.str (bw f)) (iE.map D.str)=false) f,(λz=>nomatch z),λ_=>by cases f <;> rfl⟩
 |row fs=>exact absurd rfl (n fs)
 |o w ds=>
  rcases k.2 with ⟨h1,h2,h3⟩ |⟨h1,h2,h3⟩ |⟨h1,h2,h3⟩
  ·have:∀w∈fS,a3 (.str w) (iE.map D.str)=true:=(by decide +kernel);exact⟨true,this w h1,λ_=>h3,λz=>nomatch z⟩
  ·have:∀w∈fe,a3 (.str w) (iE.map D.str)=false:=(by decide +kernel);refine⟨false,this w h1,(λz=>nomatch z),λ_=>?_⟩;show _=D.int ((1+ds.length:Nat):Int);rw[h2];have:w="at"\/w="times":=(by simpa [fe] using h1);rcases this with rfl |rfl <;> rfl
  ·have:∀w∈dm,a3 (.str w) (iE.map D.str)=false/\(aK js (.inr w)).isNone=true:=(by decide +kernel);obtain⟨e1,e2⟩:=this w h1;refine⟨false,e1,(λz=>nomatch z),λ_=>?_⟩;show (aK js (.inr w)).getD _=D.int ((1+ds.length:Nat):Int);rw[h2];cases z:aK js (.inr w) with
   |none=>rfl
   |some d=>rw[z]at e2;cases e2
theorem P5{s:Str}{b:Bool}{M:Mp}{k:Bool->Prop}(hb:a3 (.str s) (iE.map D.str)=b)(q:k b):dw (.str s) (.tup (iE.map D.str)) M k:=⟨⟨rfl,by decide +kernel,by decide +kernel,by rw[hb];exact q⟩⟩
noncomputable def P6:B:=.cons (.ret (.bi .list (.cons (.sl (.v 0) (.mt .get (.j6 (.cons (.c (.str "for")) (.cons (.c (.str "let")) (.cons (.c (.str "at")) (.cons (.c (.str "times")) .nil)))) (.cons (.c (.int 2)) (.cons (.c (.int 2)) (.cons (.c (.int 2)) (.cons (.c (.int 2)) .nil))))) (.cons (.v 1) (.cons (.c (.int 1)) .nil))) .ao) .nil))) .nil
noncomputable def P7:B:=.cons (.cond (.cmp .In (.v 1) (.tup (.cons (.c (.str "num")) (.cons (.c (.str "word")) (.cons (.c (.str "var")) (.cons (.c (.str "table")) (.cons (.c (.str "none")) .nil))))))) (.cons (.ret (.lst .nil)) .nil) .nil) P6
noncomputable def P8:B:=.cons (.cond (.cmp .Eq (.v 1) (.c (.str "row"))) (.cons (.ret (.lc 2 [] (.many [0,1]) (.seq (.ix (.v 0) (.c (.int 1)))) .ao (.v 1))) .nil) .nil) P7
noncomputable def P9:B:=.cons (.set (.one 1) (.ix (.v 0) (.c (.int 0)))) P8
theorem P':aJ ["question","word"] ["question"] (ah (top 45)):=⟨rfl,rfl,rfl,by decide +kernel,rfl,by decide +kernel,by decide +kernel⟩
theorem Qa:aO nm 40 ["question","word"] (ah (top 45)) (aD (top 45))=P9:=by kernel_rfl
def fY:Sp:=λds M Q _=>∃h cs,ds=[rD (.nd h cs)]/\Hk h cs.length/\Q (.lst (cs.map rD)) M
theorem p8(O:Lw w):FO w 31 1 fY:=by
 refine a8 O.ok O.hn _ ⟨"_law_parts",top 45,["question"]⟩ (by rw[O.hd];rfl) {} { cs:=trivial } P' Qa λds M Q _ h=>?_;obtain⟨h,cs,rfl,k,hq⟩:=h;have lt:=k.lt;rcases mD h with ⟨fs,rfl⟩ |hn
 ·rw[fU];refine⟨rfl,_,rfl,aT (aP (by decide) ⟨_,rfl,?_⟩)⟩;show cb (λ_=>True) (.many [0,1]) gz _ _ _ (Xy (λf c=>D.tup [.str f,rD c]) fs cs) [] M;have e:Xy (λf c=>D.tup [.str f,rD c]) fs cs=(fs.zip cs).map λp=>D.tup [.str p.1,rD p.2]:=by rw[List.zip,List.map_zipWith]
  rw[e];refine mf (λp:Str×Rt=>.tup [.str p.1,rD p.2]) (λp=>rD p.2) (fs.zip cs) ?_ (W6 (by rw[Yu];exact Nat.min_le_right ..) (Xz lt (by decide))) (λp _ N hN=>?_) ?_
  ·exact trivial
  ·exact⟨rfl,hN⟩
  ·refine .inl (aw ?_);rw[uz k.1];exact hq
 ·obtain⟨b,hb,h1,h2⟩:=P4 k hn;rw[iy k hn];refine⟨rfl,_,cW,aT ?_⟩;rw[uE k hn];refine ax (by decide) ⟨(by decide:5<=sizeLine),P5 hb ?_⟩;cases b with
  |true=>
   have:cs=[]:=List.length_eq_zero_iff.mp (h1 rfl);subst this;exact aP rfl ⟨W9 _,.inl (aw hq)⟩
  |false=>
   refine ax (by decide) ?_;refine .inl ⟨rfl,?_⟩;have e:(aK (br js) (.inr (hw h))).getD (.int 1)=.int ((1+(hx h).length:Nat):Int):=h2 rfl;show bI ((aK (((br js).map (·.1)).zip ((br js).map (·.2))) (.inr (hw h))).getD (.int 1)) _;rw[kq,e];refine .inr (.inl (aw ?_));have:bz ((.str (hw h)::hx h)++cs.map rD) (some ((1+(hx h).length:Nat):Int)) none=cs.map rD:=uy (by rw[Xe];lia);rw[<- this]at hq;exact hq
theorem vr{xs:List D}{i:Nat}(h:i<xs.length):bq xs (0+(i:Int))=xs[i]?:=by
 rw[Int.zero_add];unfold bq ei;rw[if_pos (Int.natCast_nonneg _),if_pos (by lia),X8];rfl
theorem kE:∀q,(fv q).length<=nk q:=Rt.bV (λx cs=>by
 show (eA.f _).length<=iq.f _;rw[az.fv,az.fv];exact WU _) (λf x u w hu hw=>by
 rw[cY];show (eA.f _).length<=_;rw[az.fb];show (fv u++(fv w).filter λy=>decide (y≠x)).length<=_;rw[W3];have:=Yd (λy=>decide (y≠x)) (fv w);lia) λh cs v n2 ih=>by
 rw[dX v n2];show (eA.f _).length<=_;rw[az.fo v n2];show ((cs.map fv).flatten).length<=_;rw[List.length_flatten,X7];have:∀l:List Rt,(∀c∈l,(fv c).length<=nk c)->(l.map (YQ ∘ fv)).sum<=(l.map nk).sum:=λl hl=>by
  induction l with
  |nil=>exact WU _
  |cons c r ih=>
   have h1:=ih λd hd=>hl d (WY _ hd);have h2:=hl c WZ;rw[W0,W0,XJ,XJ];show (fv c).length+_<=_;lia
 have:=this cs ih;lia
noncomputable def Qb:B:=(.cons (.ret (.op .Add (.c (.int 1)) (.bi .sum (.cons (.lc 1 [] (.one 0) (.seq (.call 31 (.cons (.v 0) .nil))) .ao (.call 34 (.cons (.v 0) .nil))) .nil)))) .nil)
theorem Qc:aJ ["question"] ["question"] (ah (top 48)):=⟨rfl,rfl,rfl,by decide +kernel,rfl,by decide +kernel,by decide +kernel⟩
theorem Qd:aO nm 40 ["question"] (ah (top 48)) (aD (top 48))=Qb:=by kernel_rfl
def vt(n:Nat):Sp:=λds M Q _=>∃q,ds=[rD q]/\Ok q/\ht q<=n/\Q (.int (nk q)) M
theorem vv{h:Hd}{cs:List Rt}(k:Hk h cs.length):nk (.nd h cs)=1+aM cs:=by
 by_cases v:∃x,h=.var x
 ·obtain⟨x,rfl⟩:=v;have:cs=[]:=List.length_eq_zero_iff.mp k;subst this;rw[vi];rfl
 ·by_cases b:∃f x,h=.bd f x
  ·obtain⟨f,x,rfl⟩:=b;obtain⟨qa,qb,rfl⟩:=mK k rfl;rw[cY];unfold aM;simp;lia
  ·exact dX (λx e=>v ⟨x,e⟩) (λf x e=>absurd ⟨f,x,e⟩ b)
theorem p9{h:Hd}{cs:List Rt}{n:Nat}(k:Hk h cs.length)(hh:ht (.nd h cs)<=n+1):∀c∈cs,ht c<=n:=by
 by_cases v:∃x,h=.var x
 ·obtain⟨x,rfl⟩:=v;have:cs=[]:=List.length_eq_zero_iff.mp k;subst this;exact λc h=>nomatch h
 ·by_cases b:∃f x,h=.bd f x
  ·obtain⟨f,x,rfl⟩:=b;obtain⟨qa,qb,rfl⟩:=mK k rfl;obtain⟨h1,h2⟩:=eC hh;intro c hc;rcases List.mem_cons.mp hc with rfl |hc
   ·exact h1
   ·rw[List.mem_singleton.mp hc];exact h2
  ·exact gH (λx e=>v ⟨x,e⟩) (λf x e=>absurd ⟨f,x,e⟩ b) hh
theorem CI(O:Lw w):∀n,FO w 34 (n+2) (vt n)
 | 0=>ft O _ _ _ rfl (by rintro ds M Q E ⟨q,_,_,h,_⟩;have:=eD q;lia)
 |n+1=>by
  refine a8 O.ok O.hn _ ⟨"_law_knots",top 48,["question"]⟩ (by rw[O.hd];rfl) { cs:=[(31,fY),(34,vt n)] } { cs:=⟨⟨1,by lia,p8 O⟩,⟨n+2,WU _,CI O n⟩,trivial⟩ } Qc Qd λds M Q _ h=>?_;obtain⟨q,rfl,ok,hh,h⟩:=h;obtain⟨hd,cs⟩:=q;have k:=ok.k;have lt:=k.lt;have hc:=p9 k hh;refine⟨rfl,hd,cs,rfl,k,?_⟩;refine dU (λxs ys Y=>Y=M/\∃done rest,cs=done++rest/\xs=rest.map rD/\ys=done.map λc=>.int (nk c:Int)) ?_ ?_ _ _ _ ⟨rfl,[],cs,rfl,rfl,rfl⟩
  ·rintro ys Y ⟨rfl,done,rest,e1,e2,rfl⟩;have:rest=[]:=(by simpa using e2.symm);subst this;rw[Xc]at e1;subst e1;refine⟨trivial,Xz (by rw[WQ];exact lt) (by decide),.inl ⟨cs.map λc=>(nk c:Int),by rw[X7];rfl,?_⟩⟩;have e:(1:Int)+(cs.map λc=>(nk c:Int)).sum=(nk (.nd hd cs):Int):=by
    rw[vv k];unfold aM;have:∀l:List Rt,(l.map λc=>(nk c:Int)).sum=(((l.map nk).sum:Nat):Int):=λl=>by
     induction l with
     |nil=>rfl
     |cons c r ih=>rw[W0,W0,XJ,XJ,ih];push_cast;rfl
    rw[this];push_cast;rfl
   refine aw ?_;rw[<- e]at h;exact h
  ·rintro x xs ys Y ⟨rfl,done,rest,e1,e2,rfl⟩;cases rest with
   |nil=>cases e2
   |cons c rest=>
   cases e2;have hm:c∈cs:=(by rw[e1];simp);exact⟨trivial,Xz (by rw[WQ];rw[e1]at lt;simp at lt;lia:_<100) (by decide),λN hN=>⟨c,rfl,ok.c c hm,hc c hm,hN _ _ ⟨rfl,done++[c],rest,by rw[e1];simp,rfl,by rw[W'];rfl⟩⟩⟩
variable{w:Wo}
noncomputable def Qe:B:=(.cons (.cond (.cmp .Eq (.ix (.v 0) (.c (.int 0))) (.c (.str "row"))) (.cons (.ret (.tup (.cons (.c (.str "row")) (.cons (.bi .tuple (.cons (.lc 1 [1,0] (.one 0) (.j7 (.bi .len (.cons (.v 1) .nil))) .ao (.tup (.cons (.ix (.ix (.ix (.v 2) (.c (.int 1))) (.v 0)) (.c (.int 0))) (.cons (.ix (.v 1) (.v 0)) .nil)))) .nil)) .nil)))) .nil) .nil) (.cons (.ret (.op .Add (.sl (.v 0) .ao (.op .Sub (.bi .len (.cons (.v 0) .nil)) (.bi .len (.cons (.v 1) .nil)))) (.bi .tuple (.cons (.v 1) .nil)))) .nil))
theorem Qf:aJ ["question","parts"] ["question","parts"] (ah (top 46)):=⟨rfl,rfl,rfl,by decide +kernel,rfl,by decide +kernel,by decide +kernel⟩
theorem Qg:aO nm 40 ["question","parts"] (ah (top 46)) (aD (top 46))=Qe:=by kernel_rfl
def iF:Sp:=λds M Q _=>∃h cs es,ds=[rD (.nd h cs),.lst (es.map rD)]/\Hk h cs.length/\es.length=cs.length/\Q (rD (.nd h es)) M
theorem CJ(O:Lw w):FO w 32 1 iF:=by
 refine a8 O.ok O.hn _ ⟨"_law_rebuilt",top 46,["question","parts"]⟩ (by rw[O.hd];rfl) {} { cs:=trivial } Qf Qg λds M Q _ h=>?_;obtain⟨h,cs,es,rfl,k,hl,hq⟩:=h;have lt:=k.lt;rcases mD h with ⟨fs,rfl⟩ |hn
 ·rw[fU]at hq ⊢;have fl:fs.length=cs.length:=k.1;refine⟨rfl,_,rfl,aT (aP (by decide) ⟨?_,?_,?_⟩)⟩
  ·exact Int.le_trans (by decide) (Int.natCast_nonneg _)
  ·rw[WQ];exact Int.lt_trans (by lia:_<(100:Int)) (by decide)
  show cb (λ_=>True) (.one 0) gz _ _ _ (dv 0 ((es.map rD).length:Int).toNat) [] M;rw[X8,WQ];unfold dv;have U6:(Xy (λf c=>D.tup [.str f,rD c]) fs cs).length=cs.length:=by rw[List.length_zipWith,fl,Nat.min_self]
  refine mf (λi:Nat=>D.int (0+(i:Int))) (λi=>((zw fs es)[i]?).getD .ai) (Xu es.length) trivial (by rw[X5];exact Xz (by lia:_<100) (by decide)) (λi hi N hN=>?_) ?_
  ·have hi:=List.mem_range.mp hi;have i1:i<fs.length:=(by lia);have i2:i<cs.length:=(by lia);have e1:bq (Xy (λf c=>D.tup [.str f,rD c]) fs cs) (0+(i:Int))=some (.tup [.str fs[i],rD cs[i]]):=by
    rw[vr (by rw[U6];exact i2),WW (by rw[U6];exact i2),List.getElem_zipWith]
   have e2:bq (es.map rD) (0+(i:Int))=some (rD es[i]):=by
    rw[vr (by rw[WQ];exact hi),W8,WW hi];rfl
   have e3:((zw fs es)[i]?).getD .ai=.tup [.str fs[i],rD es[i]]:=by
    unfold zw;have zl:i<(Xy (λf c=>D.tup [.str f,rD c]) fs es).length:=(by rw[List.length_zipWith];lia);rw[WW zl,List.getElem_zipWith];rfl
   rw[e3]at hN;exact⟨_,rfl,_,e1,_,rfl,_,e2,l2,hN⟩
  ·have e:(Xu es.length).map (λi=>((zw fs es)[i]?).getD .ai)=zw fs es:=by
    refine List.ext_getElem (by rw[WQ,X5,pY (by lia)];lia) λi h1 h2=>?_;rw[List.getElem_map,List.getElem_range,WW h2];rfl
   rw[e];exact .inl ⟨l2,aw hq⟩
 ·rw[iy k hn,iy (h:=h) (cs:=es) (by rw[hl];exact k) hn]at *;refine⟨rfl,_,cW,aT ?_⟩;rw[uE k hn];refine ax (by decide) ?_;have el:(((D.str (hw h)::(hx h++cs.map rD)).length:Int)-((es.map rD).length:Int))=((D.str (hw h)::hx h).length:Int):=by simp [hl];lia
  have hc:bz (D.str (hw h)::(hx h++cs.map rD)) none (some (((D.str (hw h)::(hx h++cs.map rD)).length:Int)-((es.map rD).length:Int)))=D.str (hw h)::hx h:=by
   rw[el];exact nV (as:=D.str (hw h)::hx h) (bs:=cs.map rD)
  have WJ:(hx h).length<=1:=by
   obtain⟨b,_,e,_⟩:=pH k hn;rw[e];split <;> lia
  show lg (.tup (bz (D.str (hw h)::(hx h++cs.map rD)) none (some (((D.str (hw h)::(hx h++cs.map rD)).length:Int)-((es.map rD).length:Int))))) (.tup (es.map rD)) M (bA Q);rw[hc];exact⟨W2 (by simp;lia:_<=200) (by decide),aw hq⟩
theorem Qh{f:Bool}{x:Str}{u v:Rt}:fv (.nd (.bd f x) [u,v])=fv u++(fv v).filter λy=>decide (y≠x):=by show eA.f _=_;rw[az.fb];rfl
theorem Qi{h:Hd}{cs:List Rt}(n:∀x,h≠.var x)(n2:∀f x,h=.bd f x->cs.length≠2):fv (.nd h cs)=(cs.map fv).flatten:=by show eA.f _=_;rw[az.fo n n2];rfl
theorem Qj{x:Str}:fv (.nd (.var x) [])=[x]:=by show eA.f _=_;rw[az.fv];rfl
inductive Sh:Rt->Prop
 |v (x):Sh (.nd (.var x) [])
 |b (f x a b):Sh (.nd (.bd f x) [a,b])
 |o (h cs):(∀x,h≠.var x)->(∀f x,h≠.bd f x)->Sh (.nd h cs)
theorem dg{q:Rt}(ok:Ok q):Sh q:=by
 obtain⟨h,cs⟩:=q;have k:=ok.k;cases h with
 |var x=>obtain rfl:cs=[]:=List.length_eq_zero_iff.mp k;exact .v x
 |bd f x=>obtain⟨a,b,rfl⟩:=mK k rfl;exact .b f x a b
 |row fs=>exact .o _ _ (by intro x e;cases e) (by intro f x e;cases e)
 |o w ds=>exact .o _ _ (by intro x e;cases e) (by intro f x e;cases e)
theorem vw{h:Hd}{m:Nat}(k:Hk h m)(n1:∀x,h≠.var x)(n2:∀f x,h≠.bd f x):decide (hw h="var")=false/\a3 (.str (hw h)) [D.str "for",D.str "let"]=false:=by
 cases h with
 |var x=>exact absurd rfl (n1 x)
 |bd f x=>exact absurd rfl (n2 f x)
 |row fs=>exact (by decide +kernel:decide (("row" : Str)="var")=false/\a3 (.str "row") [D.str "for",D.str "let"]=false)
 |o wd ds=>
  have key:((fS++fe++dm).all λw=>decide (decide (w="var")=false/\a3 (.str w) [D.str "for",D.str "let"]=false))=true:=by decide +kernel
  refine of_decide_eq_true (List.all_eq_true.mp key wd ?_);rcases k.2 with h |h |h
  ·exact W5 _ (W5 _ h.1)
  ·exact W5 _ (Xf _ h.1)
  ·exact Xf _ h.1
theorem CK{cs:List Rt}{c:Rt}(hc:c∈cs):nk c<=aM cs:=by
 obtain⟨s,t,rfl⟩:=List.append_of_mem hc;unfold aM;rw[W',List.sum_append,W0,XJ];lia
theorem CL:∀cs:List Rt,((cs.map fv).flatten).length<=aM cs
 |[]=>WU _
 |c::r=>by rw[W0,List.flatten_cons,W3,mM];have:=kE c;have:=CL r;lia
noncomputable def Qk:B:=.cons (.ret (.v 1)) .nil
noncomputable def Ql:B:=.cons (.loop (.one 2) (.seq (.call 31 (.cons (.v 0) .nil))) (.cons (.set (.one 1) (.op .Add (.v 1) (.call 33 (.cons (.v 2) .nil)))) .nil)) Qk
noncomputable def Qm:B:=.cons (.set (.one 1) (.lst .nil)) Ql
noncomputable def Qn:B:=.cons (.cond (.cmp .In (.ix (.v 0) (.c (.int 0))) (.tup (.cons (.c (.str "for")) (.cons (.c (.str "let")) .nil)))) (.cons (.ret (.op .Add (.call 33 (.cons (.ix (.v 0) (.c (.int 2))) .nil)) (.lc 1 [0] (.one 0) (.seq (.call 33 (.cons (.ix (.v 0) (.c (.int 3))) .nil))) (.cmp .NotEq (.v 0) (.ix (.v 1) (.c (.int 1)))) (.v 0)))) .nil) .nil) Qm
noncomputable def Qo:B:=.cons (.cond (.cmp .Eq (.ix (.v 0) (.c (.int 0))) (.c (.str "var"))) (.cons (.ret (.lst (.cons (.ix (.v 0) (.c (.int 1))) .nil))) .nil) .nil) Qn
theorem Qp:aJ ["question","found","part"] ["question"] (ah (top 47)):=⟨rfl,rfl,rfl,by decide +kernel,rfl,by decide +kernel,by decide +kernel⟩
theorem Qq:aO nm 40 ["question","found","part"] (ah (top 47)) (aD (top 47))=Qo:=by kernel_rfl
def qc(n:Nat):Sp:=λds M Q _=>∃q,ds=[rD q]/\Ok q/\ht q<=n/\nk q<=100000/\Q (.lst ((fv q).map D.str)) M
theorem vx(O:Lw w):∀n,FO w 33 (n+2) (qc n)
 | 0=>ft O _ _ _ rfl (by rintro ds M Q E ⟨q,_,_,h,_⟩;have:=eD q;lia)
 |n+1=>by
  refine a8 O.ok O.hn _ ⟨"_law_free",top 47,["question"]⟩ (by rw[O.hd];rfl) { cs:=[(31,fY),(33,qc n)] } { cs:=⟨⟨1,by lia,p8 O⟩,⟨n+2,WU _,vx O n⟩,trivial⟩ } Qp Qq λds M Q _ h=>?_;obtain⟨q,rfl,ok,hh,hn,h⟩:=h;cases dg ok with
  |v x=>
   rw[gO];rw[Qj]at h;exact⟨rfl,_,rfl,aT (aP (by decide) ⟨_,rfl,l1,.inl (aw h)⟩)⟩
  |b f x a b=>
   obtain⟨h1,h2⟩:=eC hh;rw[cY]at hn;rw[fj];rw[Qh]at h;have e1:∀f,decide (bw f="var")=false:=(by decide +kernel);have e2:∀f,a3 (.str (bw f)) [D.str "for",D.str "let"]=true:=(by decide +kernel);have la:=kE a;have lb:=kE b;refine⟨rfl,_,rfl,aT ?_⟩;rw[e1 f];refine ax (by decide) ⟨_,rfl,l2,fg (e2 f) (aP rfl ⟨_,Bw,a,rfl,ok.c a (by simp),h1,by lia,?_⟩)⟩;refine⟨_,rfl,b,rfl,ok.c b (by simp),h2,by lia,?_⟩;refine dU (λxs ys Y=>Y=M/\∃done rest:List Str,fv b=done++rest/\xs=rest.map D.str/\ys=(done.filter λy=>decide (y≠x)).map D.str) ?_ ?_ _ _ _ ⟨rfl,[],fv b,rfl,rfl,rfl⟩
   ·rintro ys Y ⟨rfl,done,rest,e1,e2,rfl⟩;have:rest=[]:=(by simpa using e2.symm);subst this;rw[Xc]at e1;rw[<- e1];have lf:=Yd (λy=>decide (y≠x)) (fv b);refine⟨trivial,W6 (by rw[WQ];lia:_<=100000) (by decide),.inl ⟨W2 (by rw[WQ,WQ];lia:_<=200000) (by decide),.inl (aw ?_)⟩⟩;rw[<- W'];exact h
   ·rintro y xs ys Y ⟨rfl,done,rest,e1,e2,rfl⟩;cases rest with
    |nil=>cases e2
    |cons y rest=>
    cases e2;have lf:=Yd (λy=>decide (y≠x)) done;have ld:done.length<=(fv b).length:=(by rw[e1];simp);refine⟨trivial,W6 (by rw[WQ];lia:_<=100000) (by decide),λN hN=>⟨_,rfl,aT ?_⟩⟩;by_cases c:y=x
    ·rw[decide_eq_true c];exact ax (by decide) (hN _ _ ⟨rfl,done++[y],rest,by rw[e1];simp,rfl,by rw[Y4];simp [c]⟩)
    ·rw[decide_eq_false c];exact aP rfl (hN _ _ ⟨rfl,done++[y],rest,by rw[e1];simp,rfl,by rw[Y4];simp [c]⟩)
  |o hd cs n1 n2=>
   have k:=ok.k;obtain⟨r,SP⟩:=fV k;obtain⟨e1,e2⟩:=vw k n1 n2;have hc:=p9 k hh;have lt:=k.lt;rw[vv k]at hn;rw[Qi n1 (λf x e=>absurd e (n2 f x))]at h;rw[SP];refine⟨rfl,_,cW,aT ?_⟩;rw[e1];refine ax (by decide) ⟨_,cW,l2,fg e2 (ax (by decide) ⟨W9 _,.inl ?_⟩)⟩;refine⟨hd,cs,by rw[SP];rfl,k,?_⟩;refine e7 (λxs τ Y=>Y=M/\∃done rest v2,cs=done++rest/\xs=rest.map rD/\τ=[some (.tup (.str (hw hd)::r)),some (.lst (((done.map fv).flatten).map D.str)),v2]) ?_ ?_ _ _ _ ⟨rfl,[],cs,none,rfl,rfl,rfl⟩
   ·rintro τ Y ⟨rfl,done,rest,v2,e1,e2,rfl⟩;have:rest=[]:=(by simpa using e2.symm);subst this;rw[Xc]at e1;subst e1;exact⟨trivial,.rfl (aw h)⟩
   ·rintro x xs τ Y ⟨rfl,done,rest,v2,e1,e2,rfl⟩;cases rest with
    |nil=>cases e2
    |cons c rest=>
    cases e2;have hm:c∈cs:=(by rw[e1];simp);have hl:=CK hm;have h1:=CL done;have h2:=kE c;have h3:aM done+nk c<=aM cs:=(by rw[e1,iz,mM];lia);refine⟨trivial,λN hN=>⟨c,rfl,ok.c c hm,hc c hm,by lia,W2 (by rw[WQ,WQ];lia:_<=100000) (by decide),.inl ?_⟩⟩;exact hN _ _ ⟨rfl,done++[c],rest,some (rD c),by rw[e1];simp,rfl,by rw[W',List.flatten_append,W'];simp⟩
noncomputable def Qr:B:=.cons (.ret (.v 1)) .nil
noncomputable def Qs:B:=.cons (.cond (.bi .ia (.cons (.v 0) (.cons (.ty "tuple") .nil))) (.cons (.loop (.one 2) (.seq (.v 0)) (.cons (.set (.one 1) (.op .Add (.v 1) (.call 36 (.cons (.v 2) .nil)))) .nil)) .nil) .nil) Qr
noncomputable def Qt:B:=.cons (.set (.one 1) (.lst .nil)) Qs
noncomputable def Qu:B:=.cons (.cond (.bi .ia (.cons (.v 0) (.cons (.ty "str") .nil))) (.cons (.ret (.lst (.cons (.v 0) .nil))) .nil) .nil) Qt
theorem Qv:aJ ["thing","found","part"] ["thing"] (ah (top 50)):=⟨rfl,rfl,rfl,by decide +kernel,rfl,by decide +kernel,by decide +kernel⟩
theorem Qw:aO nm 40 ["thing","found","part"] (ah (top 50)) (aD (top 50))=Qu:=by kernel_rfl
theorem qe:∀{d:D},aE d=true->(aq d).length<=sz d
 |.str x,_=>by rw[aq,sz];exact WU _
 |.int i,_=>by simp [aq]
 |.tup ds,h=>by
  rw[aE]at h;rw[aq,sz];have:=vy h;lia
 |.ai,h=>by rw[aE]at h;cases h
 |.bl _,h=>by rw[aE]at h;cases h
 |.ref _,h=>by rw[aE]at h;cases h
 |.ty _,h=>by rw[aE]at h;cases h
 |.lst _,h=>by rw[aE]at h;cases h
 |.ag _ _,h=>by rw[aE]at h;cases h
where vy:∀{ds:List D},a4 ds=true->(aL ds).length<=aG ds
 |[],_=>by rw[aL,aG];exact WU _
 |d::r,h=>by
  rw[a4,WT]at h;have h1:=qe h.1;have h2:=vy h.2;rw[aL,aG,W3];lia
def vz(n:Nat):Sp:=λds M Q _=>∃d,ds=[d]/\aE d=true/\aH d<n/\sz d<=100000/\Q (.lst ((aq d).map D.str)) M
theorem CN(O:Lw w):∀n,FO w 36 (n+1) (vz n)
 | 0=>ft O _ _ _ rfl (by rintro ds M Q E ⟨q,_,_,h,_⟩;lia)
 |n+1=>by
  refine a8 O.ok O.hn _ ⟨"_law_standing",top 50,["thing"]⟩ (by rw[O.hd];rfl) { cs:=[(36,vz n)] } { cs:=⟨⟨n+1,WU _,CN O n⟩,trivial⟩ } Qv Qw λds M Q _ h=>?_;obtain⟨d,rfl,ht,hd,hz,h⟩:=h;cases d with
  |str x=>rw[aq]at h;exact⟨rfl,true,rfl,l1,.inl (aw h)⟩
  |int i=>
   rw[show aq (.int i)=[] by simp [aq]]at h;exact⟨rfl,false,rfl,W9 _,.inl ⟨false,rfl,aw h⟩⟩
  |tup es=>
   rw[aE]at ht;rw[aH]at hd;rw[sz]at hz;rw[aq]at h;refine⟨rfl,false,rfl,W9 _,.inl ⟨true,rfl,?_⟩⟩;have V':∀{es:List D},(∀e∈es,aH e<=aR es/\sz e<=aG es):=λ{es}=>by
    induction es with
    |nil=>exact λ_ h=>nomatch h
    |cons e r ih=>
     intro x hx;rw[aR,aG];rcases List.mem_cons.mp hx with rfl |hx
     ·lia
     ·have:=ih x hx;lia
   have Wa:∀{es:List D},a4 es=true->∀e∈es,aE e=true:=λ{es}=>by
    induction es with
    |nil=>exact λ_ _ h=>nomatch h
    |cons e r ih=>
     intro h x hx;rw[a4,WT]at h;rcases List.mem_cons.mp hx with rfl |hx
     ·exact h.1
     ·exact ih h.2 x hx
   have tl:=qe.vy ht;refine e7 (λxs τ Y=>Y=M/\∃done rest v2,es=done++rest/\xs=rest/\τ=[some (.tup es),some (.lst ((aL done).map D.str)),v2]) ?_ ?_ _ _ _ ⟨rfl,[],es,none,rfl,rfl,rfl⟩
   ·rintro τ Y ⟨rfl,done,rest,v2,e1,e2,rfl⟩;subst e2;rw[Xc]at e1;subst e1;exact⟨trivial,.rfl (aw h)⟩
   ·rintro x xs τ Y ⟨rfl,done,rest,v2,e1,e2,rfl⟩;subst e2;have hm:x∈es:=(by rw[e1];simp);obtain⟨d1,d2⟩:=V' x hm;have ta:=Wa ht x hm;have app:∀{a b:List D},aL (a++b)=aL a++aL b:=λ{a b}=>by
     induction a with
     |nil=>rw[aL];rfl
     |cons e r ih=>rw[YL,aL,aL,ih,X6]
    have ln:(aL done).length+(aq x).length<=(aL es).length:=(by rw[e1,app,aL,W3,W3];lia);refine⟨trivial,λN hN=>⟨x,rfl,ta,by lia,by lia,W2 (by rw[WQ,WQ];lia:_<=100000) (by decide),.inl ?_⟩⟩;exact hN _ _ ⟨rfl,done++[x],xs,some x,by rw[e1];simp,rfl,by rw[app,aL,aL,Xc,W'];rfl⟩
  |ai=>exact nomatch ht
  |bl b=>exact nomatch ht
  |ref a=>exact nomatch ht
  |ty a=>exact nomatch ht
  |lst a=>exact nomatch ht
  |ag a b=>exact nomatch ht
variable{w:Wo}
noncomputable def cz:List Str:=""::(Xu 26).map bB
noncomputable def mV(k:Nat):Str:=(cz[k / 27]?).getD ""++(cz[k % 27]?).getD ""
noncomputable def mW(k:Nat):Option Str:=if k<27\/0<k % 27 then some (mV k) else none
theorem Qx:((Xu 728).map (·+1)).filterMap mW=sq:=by decide +kernel
theorem Qy:(D.str ""::eO bT)=cz.map D.str:=by
 unfold cz eO;rw[W0,X7]
 congr 1
noncomputable def Qz:B:=.cons (.ret (.c (.str "zzz"))) .nil
noncomputable def QA:B:=.cons (.loop (.one 2) (.sT (.c (.int 1)) (.c (.int 729))) (.cons (.set (.one 3) (.op .Add (.ix (.v 1) (.op .FloorDiv (.v 2) (.c (.int 27)))) (.ix (.v 1) (.op .Mod (.v 2) (.c (.int 27)))))) (.cons (.cond (.and (.or (.cmp .Lt (.v 2) (.c (.int 27))) (.cmp .Gt (.op .Mod (.v 2) (.c (.int 27))) (.c (.int 0)))) (.cmp .NotIn (.v 3) (.op .Add (.v 0) (.lst (.cons (.c (.str "at")) (.cons (.c (.str "or")) .nil)))))) (.cons (.ex (.mt .append (.v 0) (.cons (.v 3) .nil))) (.cons (.ret (.v 3)) .nil)) .nil) .nil))) Qz
noncomputable def QB:B:=.cons (.set (.one 1) (.op .Add (.lst (.cons (.c (.str "")) .nil)) (.bi .list (.cons (.c (.str "abcdefghijklmnopqrstuvwxyz")) .nil)))) QA
theorem QC:aJ ["taken","letters","k","name"] ["taken"] (ah (top 51)):=⟨rfl,rfl,rfl,by decide +kernel,rfl,by decide +kernel,by decide +kernel⟩
theorem QD:aO nm 40 ["taken","letters","k","name"] (ah (top 51)) (aD (top 51))=QB:=by kernel_rfl
def CO:Sp:=λds M Q _=>∃t T,ds=[.ref t]/\M t=some (.lst (T.map D.str))/\Sm T/\T.length<100000/\Q (.str (fr T)) (up M t (.lst ((T++[fr T]).map D.str)))
theorem QE{x:Str}{T:Tn}:(!decide (x∈T++(["at","or"]:List Str)))=(gd x && decide (x ∉ T)):=by
 unfold gd;by_cases h1:x∈T
 ·simp [h1]
 ·by_cases h2:x="at"
  ·subst h2;simp
  ·by_cases h3:x="or"
   ·subst h3;simp
   ·have:¬x∈T++(["at","or"]:List Str):=(by simp [h1,h2,h3]);rw[decide_eq_false this];simp [h1,h2,h3]
theorem CP{k:Nat}(h:k<27):bq (cz.map D.str) ((k:Nat):Int)=some (.str ((cz[k]?).getD "")):=by
 have:∀k<27,bq (cz.map D.str) ((k:Nat):Int)=some (.str ((cz[k]?).getD "")):=by
  intro k hk;refine uD ?_;have hl:cz.length=27:=by decide
  rw[W8,WW (by rw[hl];exact hk)];rfl
 exact this k h
theorem CQ{k:Nat}:((cz[k]?).getD "").length<=1:=by
 by_cases h:k<27
 ·exact (by decide +kernel:∀k:Nat,k<27->((cz[k]?).getD "").length<=1) k h
 ·have hl:cz.length=27:=by decide
  rw[Y7 (by lia)];exact (by decide +kernel:((none:Option Str).getD "").length<=1)
theorem QF{x:Str}{T:Tn}{M:Mp}{k:Bool->Prop}(q:k (decide (x∈T++(["at","or"]:List Str)))):dw (.str x) (.lst (T.map D.str++[.str "at",.str "or"])) M k:=by
 have:=mF (M:=M) q;rw[W']at this;exact this
theorem QG(O:Lw w):FO w 37 1 CO:=by
 refine a8 O.ok O.hn _ ⟨"_law_fresh",top 51,["taken"]⟩ (by rw[O.hd];rfl) {} { cs:=trivial } QC QD λds M Q _ h=>?_;obtain⟨t,T,rfl,hM,⟨L,h1,h2⟩,tl,h⟩:=h;obtain⟨j,hj,g,lt⟩:=Be h1 h2;have VQ:j<702:=by have:=(List.getElem?_eq_some_iff.mp hj).1;rw[uo]at this;exact this
 refine⟨rfl,l1,.inl (.inl ⟨bT,rfl,by decide +kernel,.inl ⟨by decide +kernel,.inl ?_⟩⟩)⟩;refine⟨⟨by decide,by decide,by decide,by decide⟩,?_⟩;have hT:=Qy;show fC (λ_=>True) _ _ _ (dv 1 728) [some (.ref t),some (.lst (.str ""::eO bT)),none,none] M;rw[hT];refine e7 (λxs τ Y=>Y=M/\∃i m v2 v3,xs=((Xu 728).drop i).map (λi:Nat=>D.int (1+(i:Int)))/\τ=[some (.ref t),some (.lst (cz.map D.str)),v2,v3]/\m<=j/\(((Xu 728).drop i).map (·+1)).filterMap mW=sq.drop m) ?_ ?_ _ _ _ ⟨rfl,0,0,none,none,rfl,rfl,W9 _,by rw[List.drop_zero,List.drop_zero];exact Qx⟩
 ·rintro τ Y ⟨rfl,i,m,v2,v3,e1,rfl,hm,hs⟩;have:(Xu 728).drop i=[]:=by simpa using e1.symm
  rw[this]at hs;have:=congrArg YQ hs;rw[Zd,uo]at this;simp at this;lia
 ·rintro x xs τ Y ⟨rfl,i,m,v2,v3,e1,rfl,hm,hs⟩;refine⟨trivial,λN hN=>?_⟩;have il:i<728:=by
   refine Nat.lt_of_not_le λhi=>?_;rw[Y2 (by rw[X5];exact hi)]at e1;cases e1
  have hd:(Xu 728).drop i=i::(Xu 728).drop (i+1):=by
   rw[Yk (by rw[X5];exact il),List.getElem_range]
  rw[hd,W0]at e1;cases e1;rw[hd,W0,List.filterMap_cons]at hs;have ek:(1:Int)+(i:Int)=((i+1:Nat):Int):=by lia
  rw[ek];have d1:((i+1:Nat):Int) / 27=(((i+1) / 27:Nat):Int):=by lia
  have d2:((i+1:Nat):Int) % 27=(((i+1) % 27:Nat):Int):=by lia
  have k1:bq (cz.map D.str) (((i+1:Nat):Int) / 27)=some (.str ((cz[(i+1) / 27]?).getD "")):=by rw[d1];exact CP (by lia)
  have k2:bq (cz.map D.str) (((i+1:Nat):Int) % 27)=some (.str ((cz[(i+1) % 27]?).getD "")):=by rw[d2];exact CP (by lia)
  refine⟨⟨by decide,by decide⟩,_,k1,(by decide:(0:Int)<27),_,k2,W2 (Nat.add_le_add CQ CQ) (by decide),?_⟩;show B.w ({}:a5 w).wd nm.af _ _ [some (.ref t),some (.lst (cz.map D.str)),some (.int ((i+1:Nat):Int)),some (.str (mV (i+1)))] Y;refine bG (λe1=>aP rfl ?_) λe1=>⟨(by decide:(0:Int)<27),bG (λe2=>?_) λe2=>ax (by decide) ?_⟩
  rotate_left 2
  ·have e1:=of_decide_eq_false (Bool.eq_false_iff.mpr e1);have e2:¬((i+1:Nat):Int) % 27 > 0:=of_decide_eq_false (Bool.eq_false_iff.mpr e2);have hn:mW (i+1)=none:=if_neg (by lia);rw[hn]at hs;exact hN _ _ ⟨rfl,i+1,m,_,_,rfl,rfl,hm,hs⟩
  all_goals
   have hn:mW (i+1)=some (mV (i+1)):=if_pos (by first |exact .inl (by have:=of_decide_eq_true e1;lia) |exact .inr (by have e2:((i+1:Nat):Int) % 27 > 0:=of_decide_eq_true e2;lia))
   rw[hn]at hs;have hs:mV (i+1)::(((Xu 728).drop (i+1)).map (·+1)).filterMap mW=sq.drop m:=hs;have U7:m<sq.length:=by
    refine Nat.lt_of_not_le λhm=>?_;rw[Y2 hm]at hs;cases hs
   rw[Yk U7]at hs;obtain⟨hx,gT⟩:=List.cons.inj hs;have sm:sq[m]?=some (mV (i+1)):=(by rw[hx,WW U7]);refine⟨l2,.inl ⟨_,hM,W2 (by rw[WQ];exact Nat.add_le_add_right (Nat.le_of_lt tl) 2) (by decide),.inl (QF ?_)⟩⟩;rw[QE];by_cases QH:m=j
   ·subst QH;rw[sm]at hj;have ex:=Xl hj;rw[ex,g,decide_eq_true (pq T)];refine aP rfl ⟨.inl ⟨rfl,_,hM⟩,_,hM,Xz (by rw[WQ];exact tl) (by decide),aw ?_⟩;rw[W']at h;exact h
   ·rw[lt m _ (by lia) sm];exact ax (by decide) (hN _ _ ⟨rfl,i+1,m+1,_,_,rfl,rfl,by lia,gT⟩)
variable{w:Wo}
theorem CS{n:Str}{f:Bool}{x:Str}{cs:List Rt}:fW n (.nd (.bd f x) cs)=false:=rfl
theorem CT{n:Str}{h:Hd}{cs:List Rt}(n1:∀x,h≠.var x):fW n (.nd h cs)=false:=by cases h <;> first |rfl |exact absurd rfl (n1 _)
theorem CU(f:Bool):a3 (.str (bw f)) [D.str "for",D.str "let"]=true:=(by decide +kernel:∀f,a3 (.str (bw f)) [D.str "for",D.str "let"]=true) f
noncomputable def CV:B:=.cons (.ret (.call 32 (.cons (.v 0) (.cons (.lc 1 [2,1] (.one 0) (.seq (.call 31 (.cons (.v 0) .nil))) .ao (.call 38 (.cons (.v 0) (.cons (.v 2) (.cons (.v 1) .nil))))) .nil)))) .nil
noncomputable def qf:B:=.cons (.cond (.cmp .In (.ix (.v 0) (.c (.int 0))) (.tup (.cons (.c (.str "for")) (.cons (.c (.str "let")) .nil)))) (.cons (.set (.many [3,4,5,6]) (.v 0)) (.cons (.cond (.cmp .NotEq (.v 4) (.v 1)) (.cons (.set (.one 6) (.call 38 (.cons (.v 6) (.cons (.v 1) (.cons (.v 2) .nil))))) .nil) .nil) (.cons (.ret (.tup (.cons (.v 3) (.cons (.v 4) (.cons (.call 38 (.cons (.v 5) (.cons (.v 1) (.cons (.v 2) .nil)))) (.cons (.v 6) .nil)))))) .nil))) .nil) CV
noncomputable def CW:B:=.cons (.cond (.cmp .Eq (.v 0) (.tup (.cons (.c (.str "var")) (.cons (.v 1) .nil)))) (.cons (.ret (.tup (.cons (.c (.str "var")) (.cons (.v 2) .nil)))) .nil) .nil) qf
theorem QI:aJ ["question","name","fresh","word","own","one","inner"] ["question","name","fresh"] (ah (top 52)):=⟨rfl,rfl,rfl,by decide +kernel,rfl,by decide +kernel,by decide +kernel⟩
theorem QJ:aO nm 40 ["question","name","fresh","word","own","one","inner"] (ah (top 52)) (aD (top 52))=CW:=by kernel_rfl
def iG(n:Nat):Sp:=λds M Q _=>∃q y g,ds=[rD q,.str y,.str g]/\Ok q/\ht q<=n/\n<=25/\Q (rD (aA [(y,g)] q)) M
theorem CX(O:Lw w):∀n,FO w 38 (n+2) (iG n)
 | 0=>ft O _ _ _ rfl (by rintro ds M Q E ⟨q,_,_,_,_,h,_⟩;have:=eD q;lia)
 |n+1=>by
  refine a8 O.ok O.hn _ ⟨"_law_swap",top 52,["question","name","fresh"]⟩ (by rw[O.hd];rfl) { cs:=[(31,fY),(32,iF),(38,iG n)] } { cs:=⟨⟨1,by lia,p8 O⟩,⟨1,by lia,CJ O⟩,⟨n+2,WU _,CX O n⟩,trivial⟩ } QI QJ λds M Q _ h=>?_;obtain⟨q,y,g,rfl,ok,hh,hn,h⟩:=h;refine⟨rfl,l2,uG ok (by lia) ?_⟩;have rest:∀(hd:Hd)(cs:List Rt),q=.nd hd cs->a3 (.str (hw hd)) [D.str "for",D.str "let"]=false->aA [(y,g)] q=.nd hd (cs.map (aA [(y,g)]))->fW y q=false ->
    (if fW y q=true then B.w ({ cs:=[(31,fY),(32,iF),(38,iG n)] }:a5 w).wd nm.af (ko (a6 CW)) { nx:=fun τ M=>B.w ({ cs:=[(31,fY),(32,iF),(38,iG n)] }:a5 w).wd nm.af qf (aB Q) τ M,rt:=(aB Q).rt } [some (rD q),some (.str y),some (.str g),none,none,none,none] M else B.w ({ cs:=[(31,fY),(32,iF),(38,iG n)] }:a5 w).wd nm.af qf (aB Q) [some (rD q),some (.str y),some (.str g),none,none,none,none] M):=by
   rintro hd cs rfl e2 SP ev;have k:=ok.k;have lt:=k.lt;have hc:=p9 k hh;obtain⟨r,ed⟩:=fV k;rw[ev,ed];refine ax (by decide) ⟨_,cW,l2,fg e2 (ax (by decide) ⟨hd,cs,by rw[ed];rfl,k,?_⟩)⟩;refine mf rD (λc=>rD (aA [(y,g)] c)) cs trivial (Xz lt (by decide)) (λc hm N hN=>⟨c,y,g,rfl,ok.c c hm,hc c hm,by lia,hN⟩) ?_;refine .inl ⟨hd,cs,cs.map (aA [(y,g)]),?_,k,by rw[WQ],?_⟩
   ·rw[ed,X7];rfl
   ·rw[SP]at h;exact aw h
  cases dg ok with
  |v x=>
   by_cases e:x=y
   ·subst e;have ev:fW x (.nd (.var x) [])=true:=decide_eq_true rfl;rw[ev];refine aP rfl ⟨l2,?_⟩;rw[eB,show ([(x,g)]:Rn).lookup x=some g by simp,Option.getD_some,gO]at h;exact aw h
   ·refine rest _ _ rfl (show a3 (.str "var") [D.str "for",D.str "let"]=false by decide +kernel) ?_ (decide_eq_false e);have e':(x == y)=false:=(by simpa using e);rw[eB,show ([(y,g)]:Rn).lookup x=none by rw[Xh,e'];rfl];rfl
  |b f x a b=>
   obtain⟨h1,h2⟩:=eC hh;rw[CS,fj];refine ax (by decide) ⟨_,rfl,l2,fg (CU f) (aP rfl ⟨rfl,aT ?_⟩)⟩;rw[e9]at h;have fin:∀b',rD b'=rD (aA (av [(y,g)] x) b)->B.w ({ cs:=[(31,fY),(32,iF),(38,iG n)] }:a5 w).wd nm.af (ik (ik (ko (a6 qf)))) { nx:=fun τ M=>B.w ({ cs:=[(31,fY),(32,iF),(38,iG n)] }:a5 w).wd nm.af CV (aB Q) τ M,rt:=(aB Q).rt } [some (.tup [.str (bw f),.str x,rD a,rD b]),some (.str y),some (.str g),some (.str (bw f)),some (.str x),some (rD a),some (rD b')] M:=λb' eb=>by
    refine⟨a,y,g,rfl,ok.c a (by simp),h1,by lia,l4,aw ?_⟩;rw[eb];rw[fj]at h;exact h
   by_cases e:x=y
   ·rw[decide_eq_true e];refine ax (by decide) (fin b ?_);rw[show av [(y,g)] x=[] by subst e;simp [av],oT]
   ·rw[decide_eq_false e];refine aP rfl ⟨b,y,g,rfl,ok.c b (by simp),h2,by lia,fin (aA [(y,g)] b) ?_⟩;rw[show av [(y,g)] x=[(y,g)] by simp [av,XC e]]
  |o hd cs n1 n2=>exact rest hd cs rfl (vw ok.k n1 n2).2 (fc n1 λf x e=>absurd e (n2 f x)) (CT n1)
theorem vA{g:Gf}{c:Rt}:∀{cs:List Rt}{T:Tn},aQ g (cs++[c]) T=((aQ g cs T).1++[(g c (aQ g cs T).2).1],(g c (aQ g cs T).2).2)
 |[],T=>rfl
 |d::r,T=>by rw[YL,aQ,vA,aQ];rfl
noncomputable def QL:B:=.cons (.ret (.tup (.cons (.v 4) (.cons (.v 5) (.cons (.v 6) (.cons (.v 7) .nil)))))) .nil
noncomputable def QO:B:=.cons (.cond (.v 8) (.cons (.set (.one 7) (.call 39 (.cons (.v 7) (.cons (.v 1) (.cons (.v 2) (.cons (.v 3) .nil)))))) .nil) .nil) QL
noncomputable def vB:B:=.cons (.set (.one 6) (.call 39 (.cons (.v 6) (.cons (.v 1) (.cons (.v 2) (.cons (.v 3) .nil)))))) QO
noncomputable def CY:B:=.cons (.cond (.and (.v 8) (.cmp .In (.v 5) (.call 33 (.cons (.v 2) .nil)))) (.cons (.set (.one 9) (.call 37 (.cons (.v 3) .nil))) (.cons (.set (.one 7) (.call 38 (.cons (.v 7) (.cons (.v 5) (.cons (.v 9) .nil))))) (.cons (.set (.one 5) (.v 9)) .nil))) .nil) vB
noncomputable def CZ:B:=.cons (.set (.one 8) (.and (.cmp .NotEq (.v 5) (.v 1)) (.cmp .In (.v 1) (.call 33 (.cons (.v 7) .nil))))) CY
noncomputable def QP:B:=.cons (.set (.many [4,5,6,7]) (.v 0)) CZ
noncomputable def QQ:B:=.cons (.cond (.cmp .NotIn (.ix (.v 0) (.c (.int 0))) (.tup (.cons (.c (.str "for")) (.cons (.c (.str "let")) .nil)))) (.cons (.ret (.call 32 (.cons (.v 0) (.cons (.lc 1 [1,2,3] (.one 0) (.seq (.call 31 (.cons (.v 0) .nil))) .ao (.call 39 (.cons (.v 0) (.cons (.v 1) (.cons (.v 2) (.cons (.v 3) .nil)))))) .nil)))) .nil) .nil) QP
noncomputable def QR:B:=.cons (.cond (.cmp .Eq (.v 0) (.tup (.cons (.c (.str "var")) (.cons (.v 1) .nil)))) (.cons (.ret (.v 2)) .nil) .nil) QQ
theorem QU:aJ ["question","name","other","taken","word","own","one","inner","come_to","fresh"] ["question","name","other","taken"] (ah (top 53)):=⟨rfl,rfl,rfl,by decide +kernel,rfl,by decide +kernel,by decide +kernel⟩
theorem QV:aO nm 40 ["question","name","other","taken","word","own","one","inner","come_to","fresh"] (ah (top 53)) (aD (top 53))=QR:=by kernel_rfl
def vC(k:Nat):Sp:=λds M Q _=>∃(q o:Rt)(n:Str)(t:Addr)(T:Tn),ds=[rD q,.str n,rD o,.ref t]/\M t=some (.lst (T.map D.str))/\Ok q/\Ok o/\ht q<=k/\k<=25/\ht o<=25/\nk q<=1000/\nk o<=1000/\Bd T (nk q)/\Q (rD (lp n o fr k q T).1) (up M t (.lst ((lp n o fr k q T).2.map D.str)))
noncomputable abbrev mX(k:Nat):a5 w:={ cs:=[(31,fY),(32,iF),(33,qc 25),(37,CO),(38,iG 25),(39,vC k)] }
theorem C0(O:Lw w):∀k,FO w 39 (k+30) (vC k)
 | 0=>ft O _ _ _ rfl (by rintro ds M Q E ⟨q,_,_,_,_,_,_,_,_,h,_⟩;have:=eD q;lia)
 |k+1=>by
  refine a8 O.ok O.hn _ ⟨"_law_put",top 53,["question","name","other","taken"]⟩ (by rw[O.hd];rfl) (mX k) { cs:=⟨⟨1,by lia,p8 O⟩,⟨1,by lia,CJ O⟩,⟨27,by lia,vx O 25⟩,⟨1,by lia,QG O⟩,⟨27,by lia,CX O 25⟩,⟨k+30,WU _,C0 O k⟩,trivial⟩ } QU QV λds M Q _ h=>?_;obtain⟨q,o,n,t,T,rfl,hM,ok,gP,hh,hk,ii,nq,no,hb,h⟩:=h;refine⟨rfl,l2,uG ok (by lia) ?_⟩;cases dg ok with
  |v x=>
   by_cases e:x=n
   ·have ev:fW n (.nd (.var x) [])=true:=decide_eq_true e;rw[ev];have h':Q (rD (if x=n then o else .nd (.var x) [])) (up M t (.lst (T.map D.str))):=h
    rw[if_pos e,jh hM]at h';exact aP rfl (aw h')
   ·have ev:fW n (.nd (.var x) [])=false:=decide_eq_false e;rw[ev,gO];have h':Q (rD (if x=n then o else .nd (.var x) [])) (up M t (.lst (T.map D.str))):=h
    rw[if_neg e,jh hM]at h';refine ax (by decide) ⟨_,rfl,l2,fg (show a3 (.str "var") [D.str "for",D.str "let"]=false by decide +kernel) (aP rfl ⟨.var x,[],by rw[gO];rfl,rfl,?_⟩)⟩;refine⟨trivial,(by decide),.inl ⟨.var x,[],[],by rw[gO];rfl,rfl,rfl,aw h'⟩⟩
  |b f x a b=>
   obtain⟨h1,h2⟩:=eC hh;rw[cY]at nq hb;have QW:=ok.c a (by simp);have hK:=ok.c b (by simp);rw[CS,fj];have h:Q (rD (cM fr f x (lp n o fr k) a b (decide (x≠n) && decide (n∈fv b)) (aU n o x b) T).1) (up M t (.lst ((cM fr f x (lp n o fr k) a b (decide (x≠n) && decide (n∈fv b)) (aU n o x b) T).2.map D.str))):=h;refine ax (by decide) ⟨_,rfl,l2,fg (CU f) (ax (by decide) ⟨rfl,?_⟩)⟩;show B.w (mX (w:=w) k).wd nm.af CZ (aB Q) [some (.tup [.str (bw f),.str x,rD a,rD b]),some (.str n),some (rD o),some (.ref t),some (.str (bw f)),some (.str x),some (rD a),some (rD b),none,none] M;refine fP λWK C1=>?_;have C2:∀(SG:Bool)(x1:Str)(b1:Rt)(T1:Tn)(v9:Option D),Ok b1->ht b1<=k->nk b1<=nk b->Bd T1 (nk a+nk b) ->
     Q (rD (if SG=true then .nd (.bd f x1) [(lp n o fr k a T1).1,(lp n o fr k b1 (lp n o fr k a T1).2).1] else .nd (.bd f x1) [(lp n o fr k a T1).1,b1])) (up M t (.lst ((if SG=true then (lp n o fr k b1 (lp n o fr k a T1).2).2 else (lp n o fr k a T1).2).map D.str))) ->
     B.w (mX (w:=w) k).wd nm.af vB (aB Q) [some (.tup [.str (bw f),.str x,rD a,rD b]),some (.str n),some (rD o),some (.ref t),some (.str (bw f)),some (.str x1),some (rD a),some (rD b1),some (.bl SG),v9] (up M t (.lst (T1.map D.str))):=by
    intro SG x1 b1 T1 v9 lB jp AC hV hq;refine⟨a,o,n,t,T1,rfl,ak,QW,gP,h1,by lia,ii,by lia,no,hV.le (by lia),?_⟩;rw[_root_.N.bQ];cases SG with
    |true=>
     refine⟨b1,o,n,t,_,rfl,ak,lB,gP,jp,by lia,ii,by lia,no,(hV.gr (gJ k a T1)).le AC,?_⟩;rw[_root_.N.bQ];refine⟨l4,aw ?_⟩;rw[if_pos rfl,if_pos rfl,fj]at hq;exact hq
    |false=>
     refine⟨l4,aw ?_⟩;rw[if_neg (by decide),if_neg (by decide),fj]at hq;exact hq
   have rest:∀SG:Bool,SG=(decide (x≠n) && decide (n∈fv b))->B.w (mX (w:=w) k).wd nm.af CY (aB Q) [some (.tup [.str (bw f),.str x,rD a,rD b]),some (.str n),some (rD o),some (.ref t),some (.str (bw f)),some (.str x),some (rD a),some (rD b),some (.bl SG),none] M:=by
    intro SG ec;have vD:(SG && decide (x∈fv o))=false->B.w (mX (w:=w) k).wd nm.af vB (aB Q) [some (.tup [.str (bw f),.str x,rD a,rD b]),some (.str n),some (rD o),some (.ref t),some (.str (bw f)),some (.str x),some (rD a),some (rD b),some (.bl SG),none] M:=λe=>by
     have ed:aU n o x b=false:=by
      unfold aU;rw[ec]at e
      revert e
      cases decide (x≠n) <;> cases decide (n∈fv b) <;> cases decide (x∈fv o) <;> simp
     have:=C2 SG x b T none hK h2 (WU _) (hb.le (by lia));rw[jh hM]at this;refine this ?_;rw[ed,<- ec]at h;unfold cM at h;cases SG <;> exact h
    refine fP λWL vE=>?_;cases SG with
    |false=>exact vE _ _ (vD rfl)
    |true=>
     refine⟨o,rfl,gP,ii,by lia,mF ?_⟩;by_cases hx:x∈fv o
     ·rw[decide_eq_true hx];have ed:aU n o x b=true:=by
       unfold aU;rw[decide_eq_true hx,Bool.true_and];exact ec.symm
      refine aP rfl ⟨t,T,rfl,hM,hb.sm.1,hb.sm.2,b,x,fr T,rfl,hK,by lia,WU _,?_⟩;refine vE _ _ (C2 true (fr T) (aA [(x,fr T)] b) (T++[fr T]) (some (.str (fr T))) (hK.aA _) (by rw[uj];exact h2) (by rw[ui];exact WU _) (by rw[Nat.add_assoc]at hb;exact hb.gr ⟨[fr T],rfl,WU _⟩) ?_);rw[ed,<- ec]at h;exact h
     ·rw[decide_eq_false hx];exact ax (by decide) (vE _ _ (vD (by rw[decide_eq_false hx];rfl)))
   refine aT ?_;by_cases e:x=n
   ·rw[decide_eq_true e];exact C1 _ _ (rest false (by simp [e]))
   ·rw[decide_eq_false e];refine⟨b,rfl,hK,by lia,by lia,mF (C1 _ _ (rest _ ?_))⟩;simp [e]
  |o hd cs n1 n2=>
   have kk:=ok.k;have lt:=kk.lt;have hc:=p9 kk hh;obtain⟨r,ed⟩:=fV kk;rw[vv kk]at hb nq;rw[CT n1,ed];rw[ir n1 λf x e=>absurd e (n2 f x)]at h;refine ax (by decide) ⟨_,cW,l2,fg (vw kk n1 n2).2 (aP rfl ⟨hd,cs,by rw[ed];rfl,kk,?_⟩)⟩;refine dU (λxs ys Y=>∃done rest,cs=done++rest/\xs=rest.map rD/\ys=(aQ (lp n o fr k) done T).1.map rD/\Y=up M t (.lst ((aQ (lp n o fr k) done T).2.map D.str))) ?_ ?_ _ _ _ ⟨[],cs,rfl,rfl,rfl,(jh hM).symm⟩
   ·rintro ys Y ⟨done,rest,e1,e2,rfl,rfl⟩;have:rest=[]:=(by simpa using e2.symm);subst this;rw[Xc]at e1;subst e1;refine⟨trivial,Xz (by rw[WQ,gI];exact lt) (by decide),.inl ⟨hd,cs,_,by rw[ed];rfl,kk,gI,aw h⟩⟩
   ·rintro y xs ys Y ⟨done,rest,e1,e2,rfl,rfl⟩;cases rest with
    |nil=>cases e2
    |cons c rest=>
    cases e2;have hm:c∈cs:=(by rw[e1];simp);have hl:=CK hm;have h3:aM done+nk c<=aM cs:=(by rw[e1,iz,mM];lia);have gr:Gr T (aQ (lp n o fr k) done T).2 (aM done):=oY λc _ V=>gJ k c V;refine⟨trivial,Xz (by rw[WQ,gI];rw[e1]at lt;simp at lt;lia:_<100) (by decide),λN hN=>⟨c,o,n,t,_,rfl,ak,ok.c c hm,gP,hc c hm,by lia,ii,by lia,no,(hb.le (by lia)).gr gr,?_⟩⟩;rw[_root_.N.bQ];exact hN _ _ ⟨done++[c],rest,by rw[e1];simp,rfl,by rw[vA,W'];rfl,by rw[vA]⟩
variable{w:Wo}
noncomputable def QX:B:=(.cons (.loop (.one 5) (.seq (.lst (.cons (.c (.int 14)) (.cons (.c (.int 7)) (.cons (.c (.int 3)) (.cons (.c (.int 1)) .nil)))))) (.cons (.put (.v 0) (.c (.int 2)) (.v 5)) (.cons (.set (.one 6) (.call 30 (.cons (.v 0) (.cons (.v 1) (.cons (.v 2) (.cons (.v 3) .nil)))))) (.cons (.cond (.cmp .Lt (.call 34 (.cons (.v 6) .nil)) (.v 4)) (.cons (.ret (.v 6)) .nil) .nil) .nil)))) (.cons (.ret (.call 25 (.cons (.v 0) (.cons (.v 1) (.cons (.v 2) .nil))))) .nil))
theorem QY:aJ ["deck","env","kind","deep","limit","most","found"] ["deck","env","kind","deep","limit"] (ah (top 49)):=⟨rfl,rfl,rfl,by decide +kernel,rfl,by decide +kernel,by decide +kernel⟩
theorem QZ:aO nm 40 ["deck","env","kind","deep","limit","most","found"] (ah (top 49)) (aD (top 49))=QX:=by kernel_rfl
def C3:Sp:=λds M Q _=>∃sc κ f d8 p c,ds=[.ref p,a9 sc,kD κ,.int f,.int d8]/\κ∈AK/\(f=2\/f=4)/\17<=d8/\d8<=100/\Ev sc 4/\Dk M p c/\∀q X,Dx M p c X->Gt (2 * f.toNat+8) q->(nk q:Int)<d8->Q (rD q) X
theorem Q3(O:Lw w):FO w 35 80 C3:=by
 refine a8 O.ok O.hn _ ⟨"_law_question",top 49,["deck","env","kind","deep","limit"]⟩ (by rw[O.hd];rfl) { cs:=[(30,dK 38),(34,vt 16),(25,jo 9)] } { cs:=⟨⟨58,by decide,(CH O 38).a⟩,⟨18,by decide,CI O 16⟩,⟨12,by decide,vq O 9⟩,trivial⟩ } QY QZ λds M Q _ h=>?_;obtain⟨sc,κ,f,d8,p,c,rfl,hκ,hf,So,Sq,ev,hk,h⟩:=h;have C4:hB f (bc κ)<=2 * f.toNat+8:=by rcases hf with rfl |rfl <;> cases bc κ <;> decide
 have Q4:2 * f.toNat+8<=16:=by rcases hf with rfl |rfl <;> decide
 have rk:8 * f.toNat+(if bc κ=true then 6 else 2)<=38:=by rcases hf with rfl |rfl <;> split <;> decide
 have UA:Ev sc f.toNat:=ev.av (by rcases hf with rfl |rfl <;> decide);refine⟨rfl,l4,.inl ?_⟩;show fC (λ_=>True) _ _ _ (([14,7,3,1]:List Int).map D.int) _ M;refine e7 (λxs τ Y=>∃(rest:List Int)(v5 v6:Option D),xs=rest.map D.int/\τ=[some (.ref p),some (a9 sc),some (kD κ),some (.int f),some (.int d8),v5,v6]/\Dx M p c Y) ?_ ?_ _ _ _ ⟨_,none,none,rfl,rfl,.rfl hk⟩
 ·rintro τ Y ⟨rest,v5,v6,e1,rfl,u⟩;refine⟨trivial,.rfl ⟨sc,κ,p,c,rfl,hκ,(fm hκ).2.1,ev.av (by decide),u.k,λq X uX g z=>aw (h q X (u.tr uX) (g.le (by have:=(fm hκ).2.2.1;lia)) (by have:=(fm hκ).2.2.2.1;lia))⟩⟩
 ·rintro x xs τ Y ⟨rest,v5,v6,e1,rfl,u⟩;cases rest with
  |nil=>cases e1
  |cons i rest=>
  cases e1;obtain⟨⟨a,m,hp⟩,zs,hc,l0,mU⟩:=u.k;have ne:=u.k.ne;have u0:Dx Y p c (up Y p (pz c a i)):=⟨⟨⟨a,i,ak⟩,zs,by rw[aj (XC ne)];exact hc,l0,mU⟩,λb b1 b2=>aj b1⟩;refine⟨trivial,λN hN=>.inl ⟨_,hp,2,rfl,?_⟩⟩;refine⟨sc,κ,f,p,c,rfl,hκ,rk,UA,u0.k,λq X uX g=>⟨q,rfl,g.ok,W2 g.h (W2 C4 Q4),?_⟩⟩;refine bG (λe=>?_) λe=>hN _ _ ⟨rest,_,_,rfl,rfl,(u.tr u0).tr uX⟩;exact aw (h q X ((u.tr u0).tr uX) (g.le C4) (of_decide_eq_true e))
variable{w:Wo}
theorem Q5{xs:List D}{k:Nat}(h:xs.length<=k):bz xs none (some (k:Int))=xs:=by
 unfold bz;rw[HT.qP,HT.nL,List.drop_zero,Nat.sub_zero,Nat.min_eq_right h,List.take_length]
def C5:Sp:=λds M Q _=>∃(ns:List Int)(m:Int),ds=[.lst (ns.map D.int),.int m]/\ns.length<=63/\∀p c X,M p=none->M c=none->Dk X p c->(∀b,b≠p->b≠c->X b=M b)->Q (.ref p) X
theorem Q6(O:Lw w):FO w 18 1 C5:=by
 refine a8 O.ok O.hn _ ⟨"_law_deck",top 32,["script","most"]⟩ (by rw[O.hd];rfl) {} { cs:=trivial } Lb Lc λds M Q _ h=>?_;obtain⟨ns,m,rfl,hn,h⟩:=h;have jQ:bz (ns.map D.int) none (some (63:Int))=ns.map D.int:=Q5 (k:=63) (by rw[WQ];exact hn);refine⟨rfl,.inl ?_⟩;rw[jQ];refine⟨l1,.inl ⟨W2 (by rw[WQ];exact Nat.add_le_add_right hn 1) (by decide),.inr λc hc=>?_⟩⟩
 let M1:=up M c (.lst (ns.map D.int++[.int ((ns.map D.int).length:Int)]))
 have st:∃xs:List Int,M1 c=some (.lst (xs.map D.int))/\xs.length=ns.length+1/\∀b,b≠c->M1 b=M b:=⟨ns++[((ns.map D.int).length:Int)],by rw[W'];exact ak,by simp,λb hb=>aj hb⟩;show B.w ({}:a5 w).wd nm.af Bj (aB Q) [some (.lst (ns.map D.int)),some (.int m),some (.ref c),none,none] M1;refine fP λN2 fi=>?_;have fin:∀X v3 v4,(∃xs:List Int,X c=some (.lst (xs.map D.int))/\xs.length=ns.length+1/\∀b,b≠c->X b=M b)->N2 [some (.lst (ns.map D.int)),some (.int m),some (.ref c),v3,v4] X:=by
  rintro X v3 v4 ⟨xs,h1,h2,h3⟩;refine fi _ _ ⟨l3,.inr λp hp=>aw (h p c _ ?_ hc ⟨⟨0,m,ak⟩,xs,?_,by lia,by lia⟩ λb b1 b2=>?_)⟩
  ·have:p≠c:=(by rintro rfl;rw[h1]at hp;cases hp);rw[<- h3 p this];exact hp
  ·rw[aj (bR h1 hp)];exact h1
  ·rw[aj b1];exact h3 b b2
 refine .inl ?_;rw[jQ];refine⟨ns,rfl,(by decide:(0:Int)<2),cg (bG (λ_=>?_) λ_=>fin _ _ _ st)⟩;obtain⟨xs,s1,s2,s3⟩:=id st;refine .inl ⟨_,s1,⟨?_,?_,?_⟩⟩
 ·exact Int.le_trans (by decide) (Int.natCast_nonneg _)
 ·rw[WQ];exact Int.lt_of_le_of_lt (by lia:_<=(100:Int)) (by decide)
 rw[X8,WQ,s2];refine e7 (λys τ Y=>∃(is:List Nat)(v3 v4:Option D),ys=is.map (λi:Nat=>D.int (0+(i:Int)))/\(∀i∈is,i<ns.length+1)/\τ=[some (.lst (ns.map D.int)),some (.int m),some (.ref c),v3,v4]/\∃xs:List Int,Y c=some (.lst (xs.map D.int))/\xs.length=ns.length+1/\∀b,b≠c->Y b=M b) ?_ ?_ _ _ _ ⟨Xu (ns.length+1),none,none,rfl,λi hi=>List.mem_range.mp hi,rfl,st⟩
 ·rintro τ Y ⟨is,v3,v4,e1,hi,rfl,s⟩;exact⟨trivial,.rfl (fin _ _ _ s)⟩
 ·rintro y ys τ Y ⟨is,v3,v4,e1,hi,rfl,xs,s1,s2,s3⟩;cases is with
  |nil=>cases e1
  |cons i is=>
  cases e1;have il:=hi i WZ;have lJ:bq (xs.map D.int) (0+(i:Int))=some (.int xs[i]):=by
   rw[vr (by rw[WQ];lia),W8,WW (by lia)];rfl
  refine⟨trivial,λN hN=>.inl ⟨_,s1,_,lJ,(by decide:(0:Int)<2147483587),AP (by decide),SU (by decide),(by decide:(0:Int)<2147483629),?_⟩⟩;have c1:∀z:Int,-(2 ^ 64)<z % 2147483629/\z % 2147483629<2 ^ 64:=λz=>by
   have h1:=Int.emod_nonneg z (b:=2147483629) (by decide);have h2:=Int.emod_lt_of_pos z (b:=2147483629) (by decide);lia
  have c2:∀z:Int,-(2 ^ 64)<z % 2147483549/\z % 2147483549<2 ^ 64:=λz=>by
   have h1:=Int.emod_nonneg z (b:=2147483549) (by decide);have h2:=Int.emod_lt_of_pos z (b:=2147483549) (by decide);lia
  have st2:∀v:Int,∃C6:List Int,up Y c (.lst ((xs.map D.int).set i (.int v))) c=some (.lst (C6.map D.int))/\C6.length=ns.length+1/\∀b,b≠c->up Y c (.lst ((xs.map D.int).set i (.int v))) b=M b:=λv=>⟨xs.set i v,by rw[ak,List.map_set],by rw[YW];exact s2,λb hb=>by rw[aj hb];exact s3 b hb⟩;refine⟨SU (c1 _),AP (by decide),(by decide:(0:Int)<2147483563),SU (by decide),(by decide:(0:Int)<2147483549),?_⟩;refine⟨SU (c2 _),SU (by decide),SU (by decide),(by decide:(0:Int)<2147483579),?_⟩;refine .inl ⟨_,s1,i,?_,hN _ _ ⟨is,_,_,rfl,λk hk=>hi k (WY _ hk),rfl,st2 _⟩⟩
  ·rw[Int.zero_add];unfold ei;rw[if_pos (Int.natCast_nonneg _),if_pos (by rw[WQ];lia),X8]
def le(x y:Str):Prop:=PySem.Spec.ltCps y.cps.toList x.cps.toList=false
theorem C7{a b:Nat}{x y:List Nat}:PySem.Spec.ltCps (a::x) (b::y)=(decide (a<b) ||(decide (a=b) && PySem.Spec.ltCps x y)):=by
 rw[PySem.Spec.ltCps];by_cases h:a<b
 ·simp [h]
 ·by_cases e:a=b
  ·subst e;simp
  ·simp [h,e]
theorem C8:∀{x y:List Nat},PySem.Spec.ltCps x y=false->PySem.Spec.ltCps y x=false->x=y
 |[],[],_,_=>rfl
 |[],_::_,h,_=>by cases h
 |_::_,[],_,h=>by cases h
 |a::x,b::y,h,g=>by
  rw[C7]at h g;simp only[Bool.or_eq_false_iff,decide_eq_false_iff_not,Bool.and_eq_false_iff]at h g;have e:a=b:=by lia
  subst e;rw[C8 (h.2.resolve_left λz=>z rfl) (g.2.resolve_left λz=>z rfl)]
theorem C9:∀{x y z:List Nat},PySem.Spec.ltCps y x=false->PySem.Spec.ltCps z y=false->PySem.Spec.ltCps z x=false
 |[],_,[],_,_=>rfl
 |[],_,_::_,_,_=>rfl
 |_::_,[],_,h,_=>by cases h
 |a::x,b::y,[],_,h=>by cases h
 |a::x,b::y,c::z,h,g=>by
  rw[C7]at h g ⊢;simp only[Bool.or_eq_false_iff,decide_eq_false_iff_not,Bool.and_eq_false_iff]at h g ⊢;refine⟨by lia,?_⟩;by_cases e:c=a
  ·subst e;have e2:b=c:=(by lia);subst e2;exact .inr (C9 (h.2.resolve_left λz=>z rfl) (g.2.resolve_left λz=>z rfl))
  ·exact .inl e
theorem Dc:∀{r:List Str}{x:Str},PyProof.Rows.risingS x r=true->(∀y∈r,le x y)/\r.Pairwise le
 |[],x,_=>⟨λy h=>(nomatch h),.nil⟩
 |y::r,x,h=>by
  have h:(!PySem.Spec.ltCps y.cps.toList x.cps.toList && PyProof.Rows.risingS y r)=true:=h;rw[WT]at h;obtain⟨h1,h2⟩:=Dc h.2;have l:le x y:=by have:=h.1;unfold le;simpa using this
  refine⟨λz hz=>?_,.cons h1 h2⟩;rcases List.mem_cons.mp hz with rfl |hz
  ·exact l
  ·exact C9 l (h1 z hz)
theorem Dd:∀{r:List Str},PyProof.Rows.sortedS r=true->r.Pairwise le
 |[],_=>.nil
 |x::r,h=>let ⟨h1,h2⟩:=Dc (x:=x) (r:=r) h;.cons h1 h2
theorem Q7{xs ys:List Str}(h1:xs.Nodup)(h2:ys.Nodup)(h:∀x,x∈xs ↔ x∈ys)(s1:PyProof.Rows.sortedS xs=true)(s2:PyProof.Rows.sortedS ys=true):xs=ys:=by
 refine List.Perm.eq_of_pairwise (le:=le) (λa b _ _ g1 g2=>?_) (Dd s1) (Dd s2) ((List.perm_ext_iff_of_nodup h1 h2).mpr h);obtain⟨⟨a⟩⟩:=a;obtain⟨⟨b⟩⟩:=b;have:a=b:=C8 g2 g1;rw[this]
variable{w:Wo}
noncomputable def dc:Sc:=[("x",.num),("y",.num),("z",c0),("a",c0),("b",.aY .num),("c",.word)]
theorem vF:Ev dc 4:=⟨by decide +kernel,by decide⟩
noncomputable def De:List Str:=["x","y","z","a","b","c","aa"]
def spLaw:Sp:=λds M Q _=>∃ns:List Int,ds=[.lst (ns.map D.int)]/\ns.length<=63/\∀M',Q (.bl true) M'
noncomputable def Q8:B:=.cons (.ret (.c (.bl true))) .nil
noncomputable def Df:B:=.cons (.loop (.one 4) (.j7 (.c (.int 3))) (.cons (.set (.one 5) (.call 35 (.cons (.v 1) (.cons (.v 3) (.cons (.ix (.lst (.cons (.tup (.cons (.c (.str "bag")) (.cons (.tup (.cons (.c (.str "num")) .nil)) .nil))) (.cons (.tup (.cons (.c (.str "bag")) (.cons (.v 2) .nil))) (.cons (.call 24 (.cons (.v 1) .nil)) .nil)))) (.v 4)) (.cons (.c (.int 4)) (.cons (.c (.int 100)) .nil))))))) (.cons (.set (.one 6) (.ix (.lst (.cons (.c (.str "x")) (.cons (.c (.str "y")) (.cons (.c (.str "z")) (.cons (.c (.str "a")) (.cons (.c (.str "b")) (.cons (.c (.str "c")) (.cons (.c (.str "aa")) .nil)))))))) (.call 19 (.cons (.v 1) (.cons (.c (.int 7)) .nil))))) (.cons (.set (.one 7) (.call 35 (.cons (.v 1) (.cons (.v 3) (.cons (.mt .get (.v 3) (.cons (.v 6) (.cons (.tup (.cons (.c (.str "num")) .nil)) .nil))) (.cons (.c (.int 2)) (.cons (.c (.int 30)) .nil))))))) (.cons (.set (.one 8) (.op .Add (.op .Add (.call 36 (.cons (.v 5) .nil)) (.call 36 (.cons (.v 7) .nil))) (.lst (.cons (.v 6) .nil)))) (.cons (.set (.one 9) (.call 12 (.cons (.v 5) (.cons (.v 6) (.cons (.v 7) .nil))))) (.cons (.cond (.cmp .NotEq (.v 9) (.call 39 (.cons (.v 5) (.cons (.v 6) (.cons (.v 7) (.cons (.v 8) .nil)))))) (.cons (.ret (.c (.bl false))) .nil) .nil) (.cons (.set (.one 10) (.lc 1 [6] (.one 0) (.seq (.call 33 (.cons (.v 5) .nil))) (.cmp .NotEq (.v 0) (.v 1)) (.v 0))) (.cons (.cond (.cmp .In (.v 6) (.call 33 (.cons (.v 5) .nil))) (.cons (.set (.one 10) (.op .Add (.v 10) (.call 33 (.cons (.v 7) .nil)))) .nil) (.cons (.cond (.cmp .NotEq (.v 9) (.v 5)) (.cons (.ret (.c (.bl false))) .nil) .nil) .nil)) (.cons (.cond (.cmp .NotEq (.call 7 (.cons (.v 9) .nil)) (.sset (.v 10))) (.cons (.ret (.c (.bl false))) .nil) .nil) .nil)))))))))) Q8
noncomputable def Q9:B:=.cons (.set (.one 3) (.j6 (.cons (.c (.str "x")) (.cons (.c (.str "y")) (.cons (.c (.str "z")) (.cons (.c (.str "a")) (.cons (.c (.str "b")) (.cons (.c (.str "c")) .nil)))))) (.cons (.tup (.cons (.c (.str "num")) .nil)) (.cons (.tup (.cons (.c (.str "num")) .nil)) (.cons (.v 2) (.cons (.v 2) (.cons (.tup (.cons (.c (.str "bag")) (.cons (.tup (.cons (.c (.str "num")) .nil)) .nil))) (.cons (.tup (.cons (.c (.str "word")) .nil)) .nil)))))))) Df
noncomputable def Ra:B:=.cons (.set (.one 2) (.ix (.call 20 .nil) (.c (.str "d")))) Q9
noncomputable def Rb:B:=.cons (.set (.one 1) (.call 18 (.cons (.v 0) (.cons (.c (.int 14)) .nil)))) Ra
theorem Rc:aJ ["script","deck","pair","env","turn","question","name","other","taken","found","due"] ["script"] (ah (top 54)):=⟨rfl,rfl,rfl,by decide +kernel,rfl,by decide +kernel,by decide +kernel⟩
theorem Rd:aO nm 40 ["script","deck","pair","env","turn","question","name","other","taken","found","due"] (ah (top 54)) (aD (top 54))=Rb:=by kernel_rfl
noncomputable abbrev vG(w:Wo):a5 w:={ cs:=[(18,C5),(20,pX),(35,C3),(24,vh),(19,fT),(36,vz 120),(12,Cf),(39,vC 25),(33,qc 30),(7,uL)] }
theorem Dg{n:Bool}{q:Rt}{M:Mp}{k:Bool->Prop}(o:Ok q)(hd:ht q<=30)(h:k true):gn n (rD q) (rD q) M k:=by
 obtain⟨d1,d2⟩:=ph q o;have rs:bP (rD q) M=rD q:=by
  obtain⟨hh,cs⟩:=q;obtain⟨r,e⟩:=fV o.k;rw[e];rfl
 refine .mk ?_ ?_
 ·rw[rs];exact .inl ⟨d1,d1,W2 (d2 30 hd) (by decide)⟩
 ·rw[rs];show k (au (rD q) (rD q));rw[gk _ d1];exact h
theorem Rf(O:Lw w):FO w 40 125 spLaw:=by
 refine a8 O.ok O.hn _ ⟨"law",top 54,["script"]⟩ (by rw[O.hd];rfl) (vG w) { cs:=⟨⟨1,by decide,Q6 O⟩,⟨1,by decide,vg O⟩,⟨80,by decide,Q3 O⟩,⟨2,by decide,Cn O⟩,⟨1,by decide,gM O⟩,⟨121,by decide,CN O 120⟩,⟨10,by decide,NZ O⟩,⟨55,by decide,C0 O 25⟩,⟨32,by decide,vx O 30⟩,⟨2,by decide,BK O⟩,trivial⟩ } Rc Rd λds M Q _ h=>?_;obtain⟨ns,rfl,hn,h⟩:=h;refine⟨rfl,ns,14,rfl,hn,λp c X hp hc k WM=>?_⟩;have v:aK ((stk.map λm=>(XW m.1:Key)).zip (stk.map λm=>kD m.2)) (.inr "d")=some (kD c0):=by rw[jd,km];rfl
 refine⟨rfl,_,v,?_⟩;refine⟨l1,l1,l1,l2,l1,.inl ?_⟩;show B.w (vG w).wd nm.af Df (aB Q) [some (.lst (ns.map D.int)),some (.ref p),some (kD c0),some (a9 dc),none,none,none,none,none,none,none] X;refine⟨by decide,by decide,?_⟩;refine e7 (λxs τ Y=>∃(is:List Nat)(v4 v5 v6 v7 v8 v9 vH:Option D),xs=is.map (λi:Nat=>D.int (0+(i:Int)))/\(∀i∈is,i<3)/\τ=[some (.lst (ns.map D.int)),some (.ref p),some (kD c0),some (a9 dc),v4,v5,v6,v7,v8,v9,vH]/\Dk Y p c) ?_ ?_ _ _ _ ⟨Xu 3,none,none,none,none,none,none,none,rfl,λi hi=>List.mem_range.mp hi,rfl,k⟩
 ·rintro τ Y ⟨is,v4,v5,v6,v7,v8,v9,vH,e1,hi,rfl,kY⟩;exact⟨trivial,.rfl (aw (h _))⟩
 ·rintro z xs τ Y ⟨is,v4,v5,v6,v7,v8,v9,vH,e1,hi,rfl,kY⟩;cases is with
  |nil=>cases e1
  |cons i is=>
  cases e1;have il:=hi i WZ;refine⟨trivial,λN hN=>?_⟩;have fin:∀Z u4 u5 u6 u7 UB UC vJ,Dk Z p c->N [some (.lst (ns.map D.int)),some (.ref p),some (kD c0),some (a9 dc),u4,u5,u6,u7,UB,UC,vJ] Z:=λZ u4 u5 u6 u7 UB UC vJ Wb=>hN _ _ ⟨is,u4,u5,u6,u7,UB,UC,vJ,rfl,λj hj=>hi j (WY _ hj),rfl,Wb⟩;refine⟨l1,l2,l2,p,c,rfl,kY,fun κ X1 u1 hκ _=>⟨l3,.inl ?_⟩⟩;obtain⟨d,e2,e3⟩:=ez (xs:=([.aY .num,.aY c0,κ]:List Kd).map kD) (r:=0+(i:Int)) (by lia) (by show 0+(i:Int)<3;lia);obtain⟨κ2,m2,rfl⟩:=List.mem_map.mp e3;have hκ2:κ2∈AK:=by
   simp only[Xk,Xd,or_false]at m2;rcases m2 with rfl |rfl |rfl
   ·decide +kernel
   ·decide +kernel
   ·exact hκ
  refine⟨_,e2,dc,κ2,4,100,p,c,rfl,hκ2,.inr rfl,by decide,by decide,vF,u1.k,λq X2 u2 gq nq=>?_⟩;refine⟨(by decide:7<=sizeLine),.inl ⟨p,c,7,rfl,u2.k,by decide,by decide,λr X3 u3 r0 r1=>?_⟩⟩;obtain⟨WN,e4,e5⟩:=ez (xs:=De.map D.str) r0 r1;obtain⟨n,Re,rfl⟩:=List.mem_map.mp e5;refine⟨_,e4,?_⟩;obtain⟨κ3,Rg,hκ3⟩:∃ κ3,(aK ((dc.map λm=>(XW m.1:Key)).zip (dc.map λm=>kD m.2)) (.inr n)).getD (.tup [.str "num"])=kD κ3/\κ3∈AK:=by
   rw[jd,km];cases z:lk n dc with
   |none=>exact⟨.num,rfl,by decide +kernel⟩
   |some κ3=>exact⟨κ3,rfl,(vF.T4 _ (jc z)).2⟩
  refine⟨rfl,l1,?_⟩;refine⟨dc,κ3,2,30,p,c,by rw[<- Rg];rfl,hκ3,.inl rfl,by decide,by decide,vF,u3.k,λo X4 u4 go no=>?_⟩;have Db:ht q<=16:=gq.h;have Rh:ht o<=12:=go.h;have Sr:nk q<100:=by lia
  have vD:nk o<30:=by lia
  obtain⟨tq,V6⟩:=pj q gq.ok;obtain⟨to,V5⟩:=pj o go.ok;have dq:=(ph q gq.ok).2 16 Db;have Su:=(ph o go.ok).2 12 Rh;have Tw:=qe tq;have lo:=qe to;refine⟨rD q,rfl,tq,by lia,by lia,rD o,rfl,to,by lia,by lia,W2 (by rw[WQ,WQ];lia:_<=100000) (by decide),.inl ⟨l1,.inl ⟨W2 (by simp;lia:_<=100001) (by decide),.inr λt Dh=>?_⟩⟩⟩;have We:(aq (rD q)).map D.str++(aq (rD o)).map D.str++[D.str n]=(aq (rD q)++(aq (rD o)++[n])).map D.str:=by simp
  have Wf:∀x∈aq (rD q)++(aq (rD o)++[n]),x∈AL:=λx hx=>by
   rcases List.mem_append.mp hx with z |z
   ·exact gq.tx x z
   ·rcases List.mem_append.mp z with z |z
    ·exact go.tx x z
    ·rw[List.mem_singleton.mp z];exact (by decide +kernel:∀n∈De,n∈AL) n Re
  have Sv:AL.length<60:=by decide
  have bd:Bd (aq (rD q)++(aq (rD o)++[n])) (nk q):=⟨AL,Wf,by lia,by simp;lia⟩;have fo:∀x∈fv o,x∈AL:=λx hx=>go.tx x (mq o go.ok x (oV o x hx));have es:sb n o fr 25 true [] q (aq (rD q)++(aq (rD o)++[n]))=lp n o fr 25 q (aq (rD q)++(aq (rD o)++[n])):=by
   rw[kx pq 25 q true [] _ (by lia) (λp hp=>nomatch hp) (λx hx=>W5 _ (mq q gq.ok x hx)) (by simp),oT];rfl
  have kX:∀T:Tn,Dk (up X4 t (.lst (T.map D.str))) p c:=λT=>by
   obtain⟨⟨a,m,h1⟩,zs,h2,h3⟩:=u4.k;exact⟨⟨a,m,by rw[aj (bR h1 Dh)];exact h1⟩,zs,by rw[aj (bR h2 Dh)];exact h2,h3⟩
  rw[We];refine⟨n,o,q,25,AL,rfl,fo,by lia,go.ok,by lia,by lia,gq.ok,by lia,WU _,by lia,bd,?_⟩;rw[es];refine⟨q,o,n,t,_,rfl,ak,gq.ok,go.ok,by lia,WU _,by lia,by lia,by lia,bd,?_⟩;rw[_root_.N.bQ];have vK:Ok (lp n o fr 25 q (aq (rD q)++(aq (rD o)++[n]))).1:=Ok.lp go.ok 25 _ gq.ok;have Sw:ht (lp n o fr 25 q (aq (rD q)++(aq (rD o)++[n]))).1<=28:=by have:=mj (n:=n) (o:=o) (fr:=fr) 25 q (aq (rD q)++(aq (rD o)++[n])) 16 Db;lia
  have kk:=kX;have Ri:=jg (n:=n) (o:=o) (fr:=fr) pq 25 q (aq (rD q)++(aq (rD o)++[n])) (by lia) (λx hx=>W5 _ (mq q gq.ok x hx)) (λx hx=>by simp [mq o go.ok x (oV o x hx)]) (by simp);have Rj:n ∉ fv q->(lp n o fr 25 q (aq (rD q)++(aq (rD o)++[n]))).1=q:=λhx=>by rw[o7 25 q _ hx]
  have dn:=mi (n:=n) (o:=o) (fr:=fr) 25 q (aq (rD q)++(aq (rD o)++[n]));have Sx:nk q * nk o<=3000:=W2 (Nat.mul_le_mul (by lia:nk q<=100) (by lia:nk o<=30)) (by decide);generalize hF:(lp n o fr 25 q (aq (rD q)++(aq (rD o)++[n]))).1=F at *;generalize (lp n o fr 25 q (aq (rD q)++(aq (rD o)++[n]))).2=TF at *;refine Dg vK (by lia) ?_;refine ax (by decide) ⟨q,rfl,gq.ok,by lia,by lia,?_⟩;have Sz:=kE q;have lo':=kE o;refine dU (λxs ys Y=>Y=up X4 t (.lst (TF.map D.str))/\∃done rest:List Str,fv q=done++rest/\xs=rest.map D.str/\ys=(done.filter λy=>decide (y≠n)).map D.str) ?_ ?_ _ _ _ ⟨rfl,[],fv q,rfl,rfl,rfl⟩
  ·rintro ys Y ⟨rfl,done,rest,e1,e2,rfl⟩;have:rest=[]:=(by simpa using e2.symm);subst this;rw[Xc]at e1;rw[<- e1];have lf:=Yd (λy=>decide (y≠n)) (fv q);refine⟨trivial,W6 (by rw[WQ];lia:_<=100000) (by decide),.inl ?_⟩;show B.w (vG w).wd nm.af _ _ [some (.lst (ns.map D.int)),some (.ref p),some (kD c0),some (a9 dc),some (.int (0+(i:Int))),some (rD q),some (.str n),some (rD o),some (.ref t),some (rD F),some (.lst (((fv q).filter λy=>decide (y≠n)).map D.str))] _;refine fP λRk Rl=>?_;have last:∀ mY:List Str,(∀ x∈mY,x∈AL)->(∀ x,x∈mY ↔ x∈fv F)->Rk [some (.lst (ns.map D.int)),some (.ref p),some (kD c0),some (a9 dc),some (.int (0+(i:Int))),some (rD q),some (.str n),some (rD o),some (.ref t),some (rD F),some (.lst (mY.map D.str))] (up X4 t (.lst (TF.map D.str))):=λmY hd hm=>by
    refine Rl _ _ ⟨F,AL,rfl,vK,by lia,by lia,λx hx=>hd x ((hm x).mpr hx),by lia,λys nd dS so=>⟨mY,AL,rfl,by lia,hd,λzs vc Rm Ro=>.inl ?_⟩⟩;obtain rfl:ys=zs:=Q7 nd vc (λx=>by rw[dS,Rm,hm]) so Ro;obtain⟨k1,k2⟩:=pL ys;have Tf:ar (.lst (ys.map D.str))=true:=k1;refine .mk (.inl ⟨Tf,Tf,?_⟩) ?_
    ·show aH (.lst (ys.map D.str))<=100;rw[aH,k2];decide
    ·have e:au (bP (.lst (ys.map D.str)) (up X4 t (.lst (TF.map D.str)))) (bP (.lst (ys.map D.str)) (up X4 t (.lst (TF.map D.str))))=true:=gk _ Tf;refine ax (λz=>?_) (fin _ _ _ _ _ _ _ _ (kk TF));rw[e]at z;cases z
   have U8:∀x∈fv q,x∈AL:=λx hx=>gq.tx x (mq q gq.ok x (oV q x hx));refine⟨q,rfl,gq.ok,by lia,by lia,mF ?_⟩;by_cases hx:n∈fv q
   ·rw[decide_eq_true hx];refine aP rfl ⟨o,rfl,go.ok,by lia,by lia,W2 (by rw[WQ,WQ];lia:_<=200000) (by decide),.inl ?_⟩;rw[<- W'];refine last _ (λx hx=>(List.mem_append.mp hx).elim (λz=>U8 x (List.mem_filter.mp z).1) (fo x)) λx=>?_;rw[Ri,Yj,List.mem_filter];simp [hx]
   ·rw[decide_eq_false hx];refine ax (by decide) ?_;have Uu:=Rj hx;subst Uu;refine Dg vK (by lia) (ax (by decide) ?_);refine last _ (λx hx=>U8 x (List.mem_filter.mp hx).1) λx=>?_;rw[List.mem_filter];refine⟨λz=>z.1,λz=>⟨z,decide_eq_true λe=>hx (e ▸ z)⟩⟩
  ·rintro y xs ys Y ⟨rfl,done,rest,e1,e2,rfl⟩;cases rest with
   |nil=>cases e2
   |cons y rest=>
   cases e2;have lf:=Yd (λy=>decide (y≠n)) done;have ld:done.length<=(fv q).length:=(by rw[e1];simp);refine⟨trivial,W6 (by rw[WQ];lia:_<=100000) (by decide),λN hN=>aT ?_⟩;by_cases c:y=n
   ·rw[decide_eq_true c];exact ax (by decide) (hN _ _ ⟨rfl,done++[y],rest,by rw[e1];simp,rfl,by rw[Y4];simp [c]⟩)
   ·rw[decide_eq_false c];exact aP rfl (hN _ _ ⟨rfl,done++[y],rest,by rw[e1];simp,rfl,by rw[Y4];simp [c]⟩)
end K47
end
section
namespace NH
open PySem N NQ
open L2
def qg(K:PySem.W.Frag)(d:Ds):Prop:=∃(n:Str)(f:Addr)(fd:FuncData),PySem.W.nsIn K mainGlobals d.x=some (some (.ref f))/\ej K n n d.st f fd
theorem Rp{K:PySem.W.Frag}{d:Ds}{n:Str}{f:Addr}{oc:Value}{od an:Option Addr}{cq:Array (Option Value)}{kV am pm al ct:Value}(a:PySem.W.nsIn K mainGlobals d.x=some (some (.ref f)))
  (l:K.lookup f=some ⟨oc,od,.func (PySem.W.fnOf n n (eS d.st) (aD d.st) (ah d.st) .none kV am pm an al ct),cq⟩) (c:PySem.W.codeIn K al n=true) (k:PySem.W.keepIn K (.ref f)=true):qg K d:=⟨n,f,_,a,qY l c k⟩
def vL(d:Ds):Prop:=∀(n:Str)(kV am pm:Value)(an:Option Addr)(al ct:Value)(us:List Value),us.length=d.ps.length->bindArgs (PySem.W.fnOf n n (eS d.st) (aD d.st) (ah d.st) .none kV am pm an al ct) ⟨us,[]⟩=pure (d.ps.zip us)
theorem Di{P:List Value->Prop}(h:P []):∀us,us.length=0->P us
 |[],_=>h
theorem bW{P:List Value->Prop}(h:∀a,P [a]):∀us,us.length=1->P us
 |a::us,e=>Di (P:=λus=>P (a::us)) (h a) us (Y1 e)
theorem cO{P:List Value->Prop}(h:∀a b,P [a,b]):∀us,us.length=2->P us
 |a::us,e=>bW (P:=λus=>P (a::us)) (h a) us (Y1 e)
theorem fZ{P:List Value->Prop}(h:∀a b c,P [a,b,c]):∀us,us.length=3->P us
 |a::us,e=>cO (P:=λus=>P (a::us)) (h a) us (Y1 e)
theorem gR{P:List Value->Prop}(h:∀a b c d,P [a,b,c,d]):∀us,us.length=4->P us
 |a::us,e=>fZ (P:=λus=>P (a::us)) (h a) us (Y1 e)
def mZ(K:PySem.W.Frag):List Ds->Prop
 |[]=>True
 |d::r=>(qg K d/\vL d)/\mZ K r
theorem mZ.at{K:PySem.W.Frag}:∀{l:List Ds}{i:Nat}{d:Ds},mZ K l->l[i]?=some d->qg K d/\vL d
 |[],_,_,_,h=>by simp at h
 |e::r,0,d,a,h=>by simp at h;rw[<- h];exact a.1
 |e::r,i+1,d,a,h=>mZ.at a.2 (by simpa using h)
def cP(K:PySem.W.Frag)(C:Addr)(d:Ds):Prop:=∃(q:Str)(f:Addr)(fd:FuncData),ej K d.x q d.st f fd/\jI K C d.x f/\bO K fd d.ps []
theorem dt{K:PySem.W.Frag}{C:Addr}{d:Ds}{q:Str}{f:Addr}{oc:Value}{od an:Option Addr}{cq:Array (Option Value)}{kV am pm al ct:Value}(a:PySem.W.findIn K (.ref C) d.x=some (some (.ref f)))
  (l:K.lookup f=some ⟨oc,od,.func (PySem.W.fnOf d.x q (eS d.st) (aD d.st) (ah d.st) .none kV am pm an al ct),cq⟩) (c:PySem.W.codeIn K al q=true) (k:PySem.W.keepIn K (.ref f)=true) (n:PySem.W.isFn K (.ref f)=true)
  (b:∀us:List Value,us.length=d.ps.length->bindArgs (PySem.W.fnOf d.x q (eS d.st) (aD d.st) (ah d.st) .none kV am pm an al ct) ⟨us,[]⟩=pure (d.ps.zip us)):cP K C d:=⟨q,f,_,qY l c k,⟨a,n,k⟩,.all b⟩
noncomputable def m3(mg:Str->Option Value)(x:Str):Addr:=match mg x with
 |some (.ref f)=>f
 |_=>0
section
variable{G:Gx}{h:Heap}{w:World}
noncomputable def m4:List Value->List Str->Bool
 |[],[]=>true
 |.str y _::r,x::s=>decide (y=x) && m4 r s
 |_,_=>false
theorem jV{F:Fz}:∀{us:List Value}{xs:List Str},m4 us xs=true->ae G F (xs.map D.str) us
 |[],[],_=>.nil
 |.str y t::r,x::s,h=>by
  rw[m4,WT]at h;cases of_decide_eq_true h.1;exact .cons (by rw[aa];exact⟨t,rfl⟩) (jV h.2)
structure qh(K:PySem.W.Frag)(x:Str)(xs:List Str):Prop where
 ex:∃(a:Addr)(us:List Value)(n:Nat),PySem.W.nsIn K mainGlobals x=some (some (.ref a))/\K.lookup a=some ⟨.type "tuple",none,.seq us.toArray n,#[]⟩/\m4 us xs=true
theorem Dj{K:PySem.W.Frag}{x:Str}{xs:List Str}{a:Addr}{us:List Value}{n:Nat}(h1:PySem.W.nsIn K mainGlobals x=some (some (.ref a)))(h2:K.lookup a=some ⟨.type "tuple",none,.seq us.toArray n,#[]⟩)(h3:m4 us xs=true):qh K x xs:=⟨a,us,n,h1,h2,h3⟩
theorem Dl{K:PySem.W.Frag}{mg:Str->Option Value}{x:Str}{xs:List Str}(hb:K.In G.base)(X:K.In h)(Gn:h.Ns mainGlobals mg)(hl:xs.length<=100)(T:qh K x xs):∃u,mg x=some u/\∀F:Fz,(∀b o,G.base.get? b=some o->F b=some (.dat o))->aa G F (.tup (xs.map D.str)) u:=by
 obtain⟨a,us,n,h1,h2,h3⟩:=T.ex;refine⟨.ref a,PySem.W.mg_of X Gn h1,λF hF=>?_⟩;have rs:=jV (G:=G) (F:=F) h3;exact nz (hF a _ (hb a _ h2)) ⟨rfl,rfl,⟨n,rfl⟩,by rw[<- rs.len,WQ];exact W2 hl (by decide)⟩ rs
theorem Dm{K:PySem.W.Frag}{d:Ds}(Uj:G.K=K)(X:K.In h)(Gn:h.Ns mainGlobals G.mg)(a:qg K d)(b:vL d):∃f fd,l9 G d.x d.st f fd d.ps:=by
 obtain⟨n,f,fd,e,F⟩:=a;subst Uj;refine⟨f,fd,⟨n,F⟩,F.iP (b n),PySem.W.mg_of X Gn e⟩
end
end NH
end
section
namespace K47
open PySem N NQ NH QT
open L2
noncomputable def Dn:List Str:=["LETTERS","LONGEST_NAME","TAKEN_WORDS","HAVE_MORE"]
noncomputable def Dp(mg:Str->Option Value):List D:=[.str bT,.int 8,.tup (mx.map D.str),.tup (gL.map D.str)]
structure Cs where
 a:Addr
 b:Addr
 c:Addr
noncomputable def Cs.ca(C:Cs)(i:Nat):Addr:=if i=0 then C.a else if i=1 then C.b else C.c
noncomputable def Cs.mc(C:Cs)(i:Nat):Addr:=if i<=4 then C.a else if i<=12 then C.b else C.c
noncomputable def wO(G:Gx)(C:Cs):Wo where
 G:=G
 ds:=eF
 fL:=nm.fL
 gv:=Dp G.mg++eF.map λd=>.ref (m3 G.mg d.x)
 fl:=λc f=>(c=C.a/\f∈(["waiting","found"]:List Str))\/(c=C.b/\f∈(["line","path","anew","around"]:List Str))\/(c=C.c/\f∈(["place","more","taken"]:List Str))
 cls:=nm.cls
 ca:=C.ca
 ms:=mw
 mc:=C.mc
theorem Rq{i:Nat}{x:Str}(h:nm.fL[i]?=some x):(i<4/\Dn[i]?=some x)\/∃j d,i=4+j/\eF[j]?=some d/\d.x=x:=by
 have e:nm.fL=Dn++eF.map (·.x):=by kernel_rfl
 rw[e]at h;by_cases hi:i<4
 ·rw[XG hi]at h;exact .inl ⟨hi,h⟩
 ·rw[XD (by show 4<=i;lia),W8]at h;obtain⟨d,h1,h2⟩:=Option.map_eq_some_iff.mp h;exact .inr ⟨i-4,d,by lia,h1,h2⟩
structure vM(K:PySem.W.Frag)(x:Str)(st:Stmt)(c T:Addr):Prop where
 d:∃(n:Str)(f:Addr)(fd:FuncData),PySem.W.nsIn K mainGlobals x=some (some (.ref f))/\ej K n n st f fd/\fd.code=.ref c/\n=x
 h:PySem.W.codeHdIn K c T=true
theorem Rr{K:PySem.W.Frag}{x:Str}{st:Stmt}{c T f:Addr}{oc:Value}{od an:Option Addr}{cq:Array (Option Value)}{kV am pm ct:Value}(a:PySem.W.nsIn K mainGlobals x=some (some (.ref f)))
  (l:K.lookup f=some ⟨oc,od,.func (PySem.W.fnOf x x (eS st) (aD st) (ah st) .none kV am pm an (.ref c) ct),cq⟩) (SG:PySem.W.codeIn K (.ref c) x=true) (k:PySem.W.keepIn K (.ref f)=true) (h:PySem.W.codeHdIn K c T=true):vM K x st c T:=⟨⟨x,f,_,a,qY l SG k,rfl,rfl⟩,h⟩
structure m5(P:Params)(K:PySem.W.Frag)(C:Cs):Prop where
 ds:mZ K eF
 sl:∃t,PySem.W.nsIn K mainGlobals "LETTERS"=some (some (.str bT t))
 sn:∃t,PySem.W.nsIn K mainGlobals "LONGEST_NAME"=some (some (.int 8 t))
 st:qh K "TAKEN_WORDS" mx
 s0:qh K "HAVE_MORE" gL
 bi:i9.all (λx=>decide (PySem.W.nsIn K mainGlobals x=some none))=true
 wa:PySem.W.nsIn K mainGlobals "Walk"=some (some (.ref C.a))
 wb:PySem.W.nsIn K mainGlobals "Place"=some (some (.ref C.b))
 wc:PySem.W.nsIn K mainGlobals "Spare"=some (some (.ref C.c))
 ka:b9 K C.a/\PySem.W.makesIn K C.a=true/\PySem.W.keepIn K (.ref C.a)=true
 kb:b9 K C.b/\PySem.W.makesIn K C.b=true/\PySem.W.keepIn K (.ref C.b)=true
 Tr:b9 K C.c/\PySem.W.makesIn K C.c=true/\PySem.W.keepIn K (.ref C.c)=true
 na:∀f∈(["waiting","found"]:List Str),dP K C.a f
 nb:∀f∈(["line","path","anew","around"]:List Str),dP K C.b f
 nc:∀f∈(["place","more","taken"]:List Str),dP K C.c f
 mt:∀i d,mw[i]?=some d->cP K (C.mc i) d
 lc:vM K "names_in" (top 23) 236 234
 bt:∃ob:Obj,PySem.W.nsIn K mainGlobals "__builtins__"=some (some (.ref 4))/\K.lookup 4=some ob/\(4:Addr)≠builtinsNs/\(4:Addr)≠mainGlobals/\ob.cls=.type "module"/\ob.dict=some builtinsNs/\ob.data=.plain
noncomputable def tbs2:gE:=[(234,pN.lp,"names_in"++".<locals>."++"<lambda>")]
section
variable{P:Program}{w:World}{K:PySem.W.Frag}{mg:Str->Option Value}{base h:Heap}{C:Cs}{tb:Fz}
theorem Ru(X:K.In h)(Gn:h.Ns mainGlobals mg)(hb:K.In base)(F:m5 w.params K C):(wO ⟨P,w,K,mg,base,tb⟩ C).Ok where
 df:=λi d hd=>let ⟨a,b⟩:=F.ds.at hd;Dm (G:=⟨P,w,K,mg,base,tb⟩) rfl X Gn a b
 gv:=λi x hx=>by
  rcases Rq hx with ⟨h1,h2⟩ |⟨j,d,rfl,h1,rfl⟩
  ·match i,h1,h2 with
   | 0,_,e=>cases e;obtain⟨t,e⟩:=F.sl;exact⟨_,PySem.W.mg_of X Gn e,λFz _=>fy⟩
   | 1,_,e=>cases e;obtain⟨t,e⟩:=F.sn;exact⟨_,PySem.W.mg_of X Gn e,λFz _=>bM⟩
   | 2,_,e=>cases e;exact Dl (G:=⟨P,w,K,mg,base,tb⟩) hb X Gn (by decide) F.st
   | 3,_,e=>cases e;exact Dl (G:=⟨P,w,K,mg,base,tb⟩) hb X Gn (by decide) F.s0
  ·obtain⟨a,b⟩:=F.ds.at h1;obtain⟨f,fd,DF⟩:=Dm (G:=⟨P,w,K,mg,base,tb⟩) rfl X Gn a b;refine⟨.ref f,DF.mg,λFz _=>?_⟩;have e:(wO ⟨P,w,K,mg,base,tb⟩ C).gv.getD (4+j) .ai=.ref f:=by
    show (Dp mg++eF.map λd=>D.ref (m3 mg d.x):List D).getD (4+j) .ai=_;rw[Xn,XD (by show 4<=4+j;lia)];show ((eF.map λd=>D.ref (m3 mg d.x))[4+j-4]?).getD .ai=_;rw[Nat.add_sub_cancel_left,W8,h1];show D.ref (m3 mg d.x)=_;have:mg d.x=some (.ref f):=DF.mg;unfold m3;rw[this]
   rw[e,aa]
 bl:=λx hx=>PySem.W.mg_none_of X Gn (of_decide_eq_true (List.all_eq_true.mp F.bi x hx))
 fl:=λc f h=>by
  rcases h with ⟨rfl,e⟩ |⟨rfl,e⟩ |⟨rfl,e⟩
  ·exact⟨F.ka.1,F.na f e⟩
  ·exact⟨F.kb.1,F.nb f e⟩
  ·exact⟨F.Tr.1,F.nc f e⟩
 mt:=λi d hd=>by
  obtain⟨q,f,fd,F1,M1,Wg⟩:=F.mt i d hd;have Tr:b9 K (C.mc i):=by unfold Cs.mc;split;exact F.ka.1;split;exact F.kb.1;exact F.Tr.1
  exact⟨f,fd,⟨q,F1⟩,Wg,M1,Tr⟩
 cl:=λi x hx=>by
  have c7:(["Walk","Place","Spare"]:List Str)[i]?=some x:=hx
  match i,c7 with
  | 0,e=>cases e;exact⟨PySem.W.mg_of X Gn F.wa,λf a n=>⟨F.ka.2.1,a,n,F.ka.2.2⟩⟩
  | 1,e=>cases e;exact⟨PySem.W.mg_of X Gn F.wb,λf a n=>⟨F.kb.2.1,a,n,F.kb.2.2⟩⟩
  | 2,e=>cases e;exact⟨PySem.W.mg_of X Gn F.wc,λf a n=>⟨F.Tr.2.1,a,n,F.Tr.2.2⟩⟩
  |n+3,e=>cases e
theorem Rv(X:K.In h)(Gn:h.Ns mainGlobals mg)(F:m5 w.params K C){x:Str}{st:Stmt}{c T:Addr}{p:Pos}{q0 q1:Str}(A:vM K x st c T)(hT:tbs2.lookup T=some (p,x++q0++q1))(Wh:mainGlobals≠T)(Wi:(4:Addr)≠T):∀f fd q,ej K q q st f fd->mg x=some (.ref f)->∃c T,fd.code=.ref c/\gF ⟨P,w,K,mg,base,N.fN tbs2⟩ c T p (q++q0++q1):=by
 intro f fd q Fn hm;obtain⟨n,f0,Dq,e1,F0,e2,rfl⟩:=A.d;have m0:=PySem.W.mg_of X Gn e1;rw[m0]at hm;cases hm;obtain⟨oc,od,kV,am,pm,an,al,ct,cq,hf,l1,_⟩:=Fn.ex;obtain⟨Rs,Rw,Rx,Ry,Rz,RA,RB,RC,RD,Dr,l2,_⟩:=F0.ex;rw[l1]at l2;injection l2 with l3;injection l3 with _ _ l4;injection l4 with l5;have UA:fd=Dq:=l5;have eq:q=n:=by
  have:fd.name=Dq.name:=congrArg FuncData.name l5;rw[hf,Dr]at this;exact this
 subst eq;subst UA;obtain⟨ob,b1,b2,SO,Um,Tx,Uo,Up⟩:=F.bt;exact⟨c,T,e2,A.h,⟨4,ob,PySem.W.mg_of X Gn b1,b2,SO,Um,Wi,Tx,Uo,Up⟩,Wh,by show (tbs2.lookup T).map _=_;rw[hT];rfl⟩
theorem RE(X:K.In h)(Gn:h.Ns mainGlobals mg)(hb:K.In base)(F:m5 w.params K C):Lw (wO ⟨P,w,K,mg,base,N.fN tbs2⟩ C) where
 ok:=Ru X Gn hb F
 hn:=by show (⟨eF.map (·.x),nm.fL,nm.cls,mw.map (·.x)⟩:Nm)=nm;kernel_rfl
 hd:=rfl
 hms:=rfl
 gl:=rfl
 UU:=rfl
 gt:=rfl
 g0:=rfl
 gb:=rfl
 gf:=rfl
 f0:=λx hx=>.inl ⟨rfl,hx⟩
 f1:=λx hx=>.inr (.inl ⟨rfl,hx⟩)
 f2:=λx hx=>.inr (.inr ⟨rfl,hx⟩)
 m0:=λi hi=>if_pos hi
 m1:=λi h1 h2=>by show (if i<=4 then C.a else if i<=12 then C.b else C.c)=C.b;rw[if_neg (by lia),if_pos h2]
 m2:=λi h1 h2=>by show (if i<=4 then C.a else if i<=12 then C.b else C.c)=C.c;rw[if_neg (by lia),if_neg (by lia)]
 T2:=by
  intro f fd q h1 h2;have:=Rv (P:=P) (base:=base) X Gn F (p:=pN.lp) (q0:=".<locals>.") (q1:="<lambda>") F.lc (by kernel_rfl) (by decide) (by decide) f fd q h1 h2;exact this
end
end K47
end
section
namespace K47
open PySem N NQ NH
open L2
theorem RF{P:List Value->Prop}(h:∀a b c d e,P [a,b,c,d,e]):∀us,us.length=5->P us
 |a::us,e=>gR (P:=λus=>P (a::us)) (h a) us (Y1 e)
section
variable{P:Program}{w:World}{K:PySem.W.Frag}{mg:Str->Option Value}{h:Heap}{C:Cs}
theorem law_ok{fa:Addr}(X:K.In h)(Gn:h.Ns mainGlobals mg)(jk:mg "law"=some (.ref fa))(F:m5 w.params K C):
  ∃fd:FuncData,(∀(s:Shared)(v:Value),BindsTo s fd ⟨[v],[]⟩ [("script",v)])/\∀base:Heap,K.In base->base.Ns mainGlobals mg->bj ⟨P,w,K,mg,base,N.fN tbs2⟩ 125 fa fd ["script"] spLaw:=by
 obtain⟨a,b⟩:=F.ds.at (i:=40) (d:=⟨"law",top 54,["script"]⟩) rfl;obtain⟨n,f,fd,e,Fn⟩:=a;have m1:=PySem.W.mg_of X Gn e;have m2:mg "law"=some (.ref f):=m1;rw[jk]at m2;cases m2;refine⟨fd,?_,λbase hb _=>?_⟩
 ·obtain⟨oc,od,kV,am,pm,an,al,ct,cq,rfl,lk,ef⟩:=Fn.ex;exact λs v=>.of_eq rfl
 obtain⟨d',f',Ay,h1,D',RG⟩:=Rf (RE (P:=P) (base:=base) X Gn hb F);have e:d'=⟨"law",top 54,["script"]⟩:=by
  have h2:eF[40]?=some d':=h1;have h3:eF[40]?=some ⟨"law",top 54,["script"]⟩:=rfl;rw[h3]at h2;cases h2;rfl
 subst e;have U9:mg "law"=some (.ref f'):=D'.mg;rw[jk]at U9;cases U9;obtain⟨_,RH⟩:=D'.fn;obtain⟨oc,od,kV,am,pm,an,al,ct,cq,hf,l1,_⟩:=Fn.ex;obtain⟨Rs,Rw,Rx,Ry,Rz,RA,RB,RC,RD,Dr,l2,_⟩:=RH.ex;have mU:K.lookup fa=_:=l1;have Dt:K.lookup fa=_:=l2;rw[mU]at Dt;injection Dt with l3;injection l3 with _ _ l4;injection l4 with l5;rw[l5];exact RG
end
theorem room_law:bC 125 callerA:=⟨rfl,by decide,by decide⟩
theorem SA:PySem.Challenge.rw_keptnest_k47_put_in=PySem.Challenge.rw_keptnest_k47_put_in/\zK=zK:=by k_fill;exact⟨rfl,rfl⟩
theorem zF(w:World):m5 w.params (zK w.params) ⟨116,186,228⟩:=by
 refine' ⟨?ds,?sl,?sn,?st,?s0,?bi,?wa,?wb,?wc,⟨⟨?c1,?c2,?c3,?c4⟩,?c5,?c6⟩,⟨⟨?d1,?d2,?d3,?d4⟩,?d5,?d6⟩,⟨⟨?e1,?e2,?e3,?e4⟩,?e5,?e6⟩,?na,?nb,?nc,?mt,?lc,?bt⟩
 case ds=>
  refine' ⟨⟨?_,λ_ _ _ _ _ _ _=>cO λ_ _=>rfl⟩,⟨⟨?_,λ_ _ _ _ _ _ _=>bW λ_=>rfl⟩,⟨⟨?_,λ_ _ _ _ _ _ _=>bW λ_=>rfl⟩,⟨⟨?_,λ_ _ _ _ _ _ _=>bW λ_=>rfl⟩,⟨⟨?_,λ_ _ _ _ _ _ _=>cO λ_ _=>rfl⟩,⟨⟨?_,λ_ _ _ _ _ _ _=>bW λ_=>rfl⟩,⟨⟨?_,λ_ _ _ _ _ _ _=>cO λ_ _=>rfl⟩,⟨⟨?_,λ_ _ _ _ _ _ _=>bW λ_=>rfl⟩,⟨⟨?_,λ_ _ _ _ _ _ _=>cO λ_ _=>rfl⟩,⟨⟨?_,λ_ _ _ _ _ _ _=>cO λ_ _=>rfl⟩,⟨⟨?_,λ_ _ _ _ _ _ _=>fZ λ_ _ _=>rfl⟩,⟨⟨?_,λ_ _ _ _ _ _ _=>bW λ_=>rfl⟩,⟨⟨?_,λ_ _ _ _ _ _ _=>fZ λ_ _ _=>rfl⟩,⟨⟨?_,λ_ _ _ _ _ _ _=>gR λ_ _ _ _=>rfl⟩,⟨⟨?_,λ_ _ _ _ _ _ _=>fZ λ_ _ _=>rfl⟩,⟨⟨?_,λ_ _ _ _ _ _ _=>gR λ_ _ _ _=>rfl⟩,⟨⟨?_,λ_ _ _ _ _ _ _=>cO λ_ _=>rfl⟩,⟨⟨?_,λ_ _ _ _ _ _ _=>fZ λ_ _ _=>rfl⟩,⟨⟨?_,λ_ _ _ _ _ _ _=>cO λ_ _=>rfl⟩,⟨⟨?_,λ_ _ _ _ _ _ _=>cO λ_ _=>rfl⟩,⟨⟨?_,λ_ _ _ _ _ _ _=>Di rfl⟩,⟨⟨?_,λ_ _ _ _ _ _ _=>cO λ_ _=>rfl⟩,⟨⟨?_,λ_ _ _ _ _ _ _=>fZ λ_ _ _=>rfl⟩,⟨⟨?_,λ_ _ _ _ _ _ _=>bW λ_=>rfl⟩,⟨⟨?_,λ_ _ _ _ _ _ _=>bW λ_=>rfl⟩,⟨⟨?_,λ_ _ _ _ _ _ _=>fZ λ_ _ _=>rfl⟩,⟨⟨?_,λ_ _ _ _ _ _ _=>fZ λ_ _ _=>rfl⟩,⟨⟨?_,λ_ _ _ _ _ _ _=>gR λ_ _ _ _=>rfl⟩,⟨⟨?_,λ_ _ _ _ _ _ _=>gR λ_ _ _ _=>rfl⟩,⟨⟨?_,λ_ _ _ _ _ _ _=>gR λ_ _ _ _=>rfl⟩,⟨⟨?_,λ_ _ _ _ _ _ _=>gR λ_ _ _ _=>rfl⟩,⟨⟨?_,λ_ _ _ _ _ _ _=>bW λ_=>rfl⟩,⟨⟨?_,λ_ _ _ _ _ _ _=>cO λ_ _=>rfl⟩,⟨⟨?_,λ_ _ _ _ _ _ _=>bW λ_=>rfl⟩,⟨⟨?_,λ_ _ _ _ _ _ _=>bW λ_=>rfl⟩,⟨⟨?_,λ_ _ _ _ _ _ _=>RF λ_ _ _ _ _=>rfl⟩,⟨⟨?_,λ_ _ _ _ _ _ _=>bW λ_=>rfl⟩,⟨⟨?_,λ_ _ _ _ _ _ _=>bW λ_=>rfl⟩,⟨⟨?_,λ_ _ _ _ _ _ _=>fZ λ_ _ _=>rfl⟩,⟨⟨?_,λ_ _ _ _ _ _ _=>gR λ_ _ _ _=>rfl⟩,⟨⟨?_,λ_ _ _ _ _ _ _=>bW λ_=>rfl⟩,trivial⟩⟩⟩⟩⟩⟩⟩⟩⟩⟩⟩⟩⟩⟩⟩⟩⟩⟩⟩⟩⟩⟩⟩⟩⟩⟩⟩⟩⟩⟩⟩⟩⟩⟩⟩⟩⟩⟩⟩⟩⟩
  all_goals (refine' Rp ?a ?l ?c ?k;(case a=>k_is);(case l=>k_is);(case c=>k_is);(case k=>k_is))
 case sl=>exact⟨189,by k_is⟩
 case sn=>exact⟨191,by k_is⟩
 case st=>refine' Dj ?a ?l ?c;(case a=>k_is);(case l=>k_is);(case c=>kernel_rfl)
 case s0=>refine' Dj ?a ?l ?c;(case a=>k_is);(case l=>k_is);(case c=>kernel_rfl)
 case bi=>kernel_rfl
 (case wa=>k_is);(case wb=>k_is);(case wc=>k_is)
 (case c1=>k_is);(case c2=>k_is);(case c3=>k_is);(case c4=>k_is);(case c5=>k_is);(case c6=>k_is);(case d1=>k_is);(case d2=>k_is);(case d3=>k_is);(case d4=>k_is);(case d5=>k_is);(case d6=>k_is);(case e1=>k_is);(case e2=>k_is);(case e3=>k_is);(case e4=>k_is);(case e5=>k_is);(case e6=>k_is)
 case na=>refine' List.forall_mem_cons.mpr ⟨?_,List.forall_mem_cons.mpr ⟨?_,λ_ e=>nomatch e⟩⟩ <;> (show PySem.W.findIn _ _ _=_;k_is)
 case nb=>refine' List.forall_mem_cons.mpr ⟨?_,List.forall_mem_cons.mpr ⟨?_,List.forall_mem_cons.mpr ⟨?_,List.forall_mem_cons.mpr ⟨?_,λ_ e=>nomatch e⟩⟩⟩⟩ <;> (show PySem.W.findIn _ _ _=_;k_is)
 case nc=>refine' List.forall_mem_cons.mpr ⟨?_,List.forall_mem_cons.mpr ⟨?_,List.forall_mem_cons.mpr ⟨?_,λ_ e=>nomatch e⟩⟩⟩ <;> (show PySem.W.findIn _ _ _=_;k_is)
 case mt=>
  intro i d hd;have iH:mw[i]?=some d:=hd
  match i,iH with
  | 0,e=>cases e;show cP (zK w.params) 116 _;refine' dt ?a ?l ?c ?k ?n (bW λ_=>rfl);(case a=>k_is);(case l=>k_is);(case c=>k_is);(case k=>k_is);(case n=>k_is)
  | 1,e=>cases e;show cP (zK w.params) 116 _;refine' dt ?a ?l ?c ?k ?n (gR λ_ _ _ _=>rfl);(case a=>k_is);(case l=>k_is);(case c=>k_is);(case k=>k_is);(case n=>k_is)
  | 2,e=>cases e;show cP (zK w.params) 116 _;refine' dt ?a ?l ?c ?k ?n (cO λ_ _=>rfl);(case a=>k_is);(case l=>k_is);(case c=>k_is);(case k=>k_is);(case n=>k_is)
  | 3,e=>cases e;show cP (zK w.params) 116 _;refine' dt ?a ?l ?c ?k ?n (cO λ_ _=>rfl);(case a=>k_is);(case l=>k_is);(case c=>k_is);(case k=>k_is);(case n=>k_is)
  | 4,e=>cases e;show cP (zK w.params) 116 _;refine' dt ?a ?l ?c ?k ?n (bW λ_=>rfl);(case a=>k_is);(case l=>k_is);(case c=>k_is);(case k=>k_is);(case n=>k_is)
  | 5,e=>cases e;show cP (zK w.params) 186 _;refine' dt ?a ?l ?c ?k ?n (cO λ_ _=>rfl);(case a=>k_is);(case l=>k_is);(case c=>k_is);(case k=>k_is);(case n=>k_is)
  | 6,e=>cases e;show cP (zK w.params) 186 _;refine' dt ?a ?l ?c ?k ?n (bW λ_=>rfl);(case a=>k_is);(case l=>k_is);(case c=>k_is);(case k=>k_is);(case n=>k_is)
  | 7,e=>cases e;show cP (zK w.params) 186 _;refine' dt ?a ?l ?c ?k ?n (cO λ_ _=>rfl);(case a=>k_is);(case l=>k_is);(case c=>k_is);(case k=>k_is);(case n=>k_is)
  | 8,e=>cases e;show cP (zK w.params) 186 _;refine' dt ?a ?l ?c ?k ?n (cO λ_ _=>rfl);(case a=>k_is);(case l=>k_is);(case c=>k_is);(case k=>k_is);(case n=>k_is)
  | 9,e=>cases e;show cP (zK w.params) 186 _;refine' dt ?a ?l ?c ?k ?n (bW λ_=>rfl);(case a=>k_is);(case l=>k_is);(case c=>k_is);(case k=>k_is);(case n=>k_is)
  | 10,e=>cases e;show cP (zK w.params) 186 _;refine' dt ?a ?l ?c ?k ?n (cO λ_ _=>rfl);(case a=>k_is);(case l=>k_is);(case c=>k_is);(case k=>k_is);(case n=>k_is)
  | 11,e=>cases e;show cP (zK w.params) 186 _;refine' dt ?a ?l ?c ?k ?n (bW λ_=>rfl);(case a=>k_is);(case l=>k_is);(case c=>k_is);(case k=>k_is);(case n=>k_is)
  | 12,e=>cases e;show cP (zK w.params) 186 _;refine' dt ?a ?l ?c ?k ?n (bW λ_=>rfl);(case a=>k_is);(case l=>k_is);(case c=>k_is);(case k=>k_is);(case n=>k_is)
  | 13,e=>cases e;show cP (zK w.params) 228 _;refine' dt ?a ?l ?c ?k ?n (fZ λ_ _ _=>rfl);(case a=>k_is);(case l=>k_is);(case c=>k_is);(case k=>k_is);(case n=>k_is)
  | 14,e=>cases e;show cP (zK w.params) 228 _;refine' dt ?a ?l ?c ?k ?n (bW λ_=>rfl);(case a=>k_is);(case l=>k_is);(case c=>k_is);(case k=>k_is);(case n=>k_is)
  |n+15,e=>cases e
 case lc=>refine' Rr ?a ?l ?c ?k ?h;(case a=>k_is);(case l=>k_is);(case c=>k_is);(case k=>k_is);(case h=>kernel_rfl)
 case bt=>refine' ⟨{ cls:=PySem.Value.type "module",data:=PySem.Data.plain,dict:=some 0 },?a,?l,?h1,?h2,?h4,?h5,?h6⟩;(case a=>kernel_rfl);(case l=>kernel_rfl);(case h1=>decide);(case h2=>decide);(case h4=>rfl);(case h5=>rfl);(case h6=>rfl)
end K47
open PySem PySem.W PyProof.Rows
set_option maxRecDepth 100000 in
set_option maxHeartbeats 0 in
theorem PySem.Challenge.cw_keptnest_k47_put_in_holds : PySem.Challenge.rw_keptnest_k47_put_in.Holds := by
 w_on
 refine PySem.W.holds_law K47.zS fun said=>?_
 refine PySem.W.holds_open (q:=K47.zV) (loose:=K47.zL) (Xt:=fun s=>PySem.W.xlAt K47.zV [] s && PySem.W.recOk (PySem.W.RowW.records (PySem.W.OpenRow.toRowW PySem.Challenge.rw_keptnest_k47_put_in.row)) s) (XP:=PySem.W.XL K47.zV []) (Yf:=PySem.W.Hook.obs (PySem.W.kmHook K47.zK K47.zA K47.zE K47.zTs)) (Ya:=PySem.W.Hook.val (PySem.W.kmHook K47.zK K47.zA K47.zE K47.zTs)) (YP:=PySem.W.Hook.says (PySem.W.kmHook K47.zK K47.zA K47.zE K47.zTs)) (N:=4970) (Hq.left_two "special-get-raises" K47.zR_false K47.zR_true) (PySem.W.Hook.of _) (PySem.W.Hook.keeps _) (fun s e=>PySem.W.xl_of s (Bool.and_eq_true_iff.mp e).1) PySem.W.XL.keeps (by rfl) (by rfl) (by rfl) (fun s e=>PySem.W.recFacts_of (Bool.and_eq_true_iff.mp e).2) (by rfl) (by first | assumption | decide +kernel) (by decide +kernel) ⟨rfl,rfl,rfl,rfl,rfl,by decide +kernel⟩ ?hw ?hc
 case hw=>w_witness2
 k_fill
 refine N.walk_of (l:=PySem.Challenge.rw_keptnest_k47_put_in) (K:=K47.zK) (ts:=K47.tbs2) (x:="script") (k:=125) (sp:=fun _=>K47.spLaw) (n:=63) rfl (by decide) rfl K47.room_law (fun w h Y=>⟨PySem.W.km_in_of Y,fun T hT=>?Tb⟩) ?KT ?F (fun w ns hl=>⟨ns,rfl,hl,fun _=>rfl⟩)
 case Tb=>
  have:T∈K47.zTs:=by simpa [K47.tbs2,K47.zTs] using hT
  exact PySem.W.km_tabs_of Y T this
 case KT=>
  intro w T hT
  obtain rfl:T=234:=by simpa [K47.tbs2] using hT
  exact⟨by kernel_rfl,236,by kernel_rfl⟩
 case F=>
  intro w mg fa h KX G hmg
  exact K47.law_ok KX G hmg (K47.zF w)
#print axioms PySem.Challenge.cw_keptnest_k47_put_in_holds
end
